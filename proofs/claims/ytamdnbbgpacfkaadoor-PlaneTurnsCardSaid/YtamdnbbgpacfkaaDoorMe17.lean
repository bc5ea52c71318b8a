/- What the laws lean on, part 17. -/
import Derived.Below
import Derived.BigCall
import Derived.BigQuiet
import Derived.BigRegion
import Derived.Deep.AppendLies
import Derived.Deep.CutBlock
import Derived.Deep.CutRange
import Derived.Deep.DeepCutAuto
import Derived.Deep.DeepHandedRow
import Derived.Deep.LoopGhost
import Derived.Deep.MidRow
import Derived.Deep.QuietTactic
import Derived.Deep.RegionHeld3
import Derived.Deep.WholeRow
import Derived.Laws.AppendOwn
import Derived.Laws.Concat
import Derived.Laws.CopyOwn
import Derived.Laws.Externs
import Derived.Laws.IdiomStrings
import Derived.Lib.BitFns
import Derived.Lib.Bytealg
import Derived.Lib.Hide
import Derived.Lib.Slices
import Derived.Lib.Small
import Derived.Lib.Strings
import Derived.Lib.Walk
import Derived.LoopN
import Derived.OpenShut
import Derived.OrdersHeld
import Derived.OrdersIn
import Derived.Outline
import Derived.OwnWalk
import Derived.ProofKit
import Derived.RangeFuncCalls
import Derived.RangeFuncNested
import Derived.RangeFuncOwn
import Derived.Shelf.Bits.Mul64
import Derived.Shelf.Spec.TrailingZeros
import Derived.StillTailTactics
import Derived.WalkKit
import Derived.WalkLawsBesides
import Derived.WalkSpells
import Derived.Test.YtamdnbbgpacfkaaDoorProg
import Derived.Test.YtamdnbbgpacfkaaDoorRows
import Derived.Test.YtamdnbbgpacfkaaDoorMe9
set_option linter.unusedVariables false
set_option linter.unusedSimpArgs false
set_option maxRecDepth 100000
namespace Go.Proofs.YtamdnbbgpacfkaaDoor.Mat
theorem val_inj (m:Nat):∀ (xs ys:List Nat),Dig m xs->Dig m ys->xs.length=ys.length->val m xs=val m ys->xs=ys
 | [],[],_,_,_,_=>rfl
 | [],y :: ys,_,_,h,_=>by simp at h
 | x :: xs,[],_,_,h,_=>by simp at h
 | x :: xs,y :: ys,hx,hy,h,e=>by
   have a:x<m:=hx x (List.mem_cons_self ..)
   have b:y<m:=hy y (List.mem_cons_self ..)
   simp only [val] at e
   have e1:x=y:=by
    have:=congrArg (· % m) e
    simpa [Nat.mod_eq_of_lt a,Nat.mod_eq_of_lt b] using this
   subst e1
   have e2:val m xs=val m ys:=by
    have:m*val m xs=m*val m ys:=by omega
    exact Nat.eq_of_mul_eq_mul_left (by omega) this
   rw [val_inj m xs ys (fun z hz=>hx z (List.mem_cons_of_mem _ hz)) (fun z hz=>hy z (List.mem_cons_of_mem _ hz)) (by simpa using h) e2]
theorem val_uniq (m:Nat) (hm : 0<m) (xs ys:List Nat) (hx:Dig m xs) (hy:Dig m ys) (tx:Top xs) (ty:Top ys) (e:val m xs=val m ys):xs=ys:=by
 rcases Nat.lt_trichotomy xs.length ys.length with h | h | h
 · have:=I0 m hm xs ys hx ty h;omega
 · exact val_inj m xs ys hx hy h e
 · have:=I0 m hm ys xs hy tx h;omega
end Go.Proofs.YtamdnbbgpacfkaaDoor.Mat
namespace Go.Proofs.YtamdnbbgpacfkaaDoor
open Go.RowKit Mat
def bts (s:ByteArray):List Nat:=s.data.toList.map UInt8.toNat
theorem bts_len (s:ByteArray):(bts s).length=s.size:=by simp [bts]
def sY (l:List Nat):Prop:=(∀ k (h:k<l.length),48<=l[k]/\l[k]<=57)/\(l=[48]\/(l≠[]/\l.head?≠some 48))
def bJ (l:List Nat):Nat:=l.foldl (fun a d=>a*10+(d-48)) 0
theorem dfold (l:List Nat):∀ a,l.foldl (fun a d=>a*10+(d-48)) a=a*10^l.length+bJ l:=by
 induction l with
 | nil=>intro a;simp [bJ]
 | cons d t ih=>
   intro a
   show t.foldl _ (a*10+(d-48))=_
   rw [ih]
   have:bJ (d :: t)=(0*10+(d-48))*10^t.length+bJ t:=ih _
   rw [this,List.length_cons,Nat.pow_succ]
   grind
theorem dval_append (l m:List Nat):bJ (l++m)=bJ l*10^m.length+bJ m:=by
 show (l++m).foldl _ 0=_
 rw [List.foldl_append];exact dfold m _
def bv (x:Nat):Value := .int .u8 (x:Int)
def Reved (w:World) (g:Nat) (ds:List Nat) (cs:Array Value) (e:Ending) (w':World):Prop:=
 ∃ cs',e = .returned (.tuple #[])/\BBlk w' g cs'/\cs'.size=cs.size/\(∀ p (h:p<ds.length),cs'[p]?=some (bv (ds[ds.length-1-p]'(by omega))))/\w.grownBy w' (some g)
set_option maxHeartbeats 4000000 in
theorem Reverse_any (w:World) (g n cap:Nat) (cs:Array Value) (ds:List Nat) (hn:ds.length=n) (h0 : 0<n) (bn:n<=1099511627776) (hb:BBlk w g cs) (hat:∀ p (h:p<ds.length),cs[p]?=some (bv ds[p])) (hcap:n<=cap) :
 Calls Tryd.prog 114 #[.slice (some ⟨g,0,none⟩) n cap] w (Reved w g ds cs):=by
 have Hn:=Lib.hid hn
 go_enter Tryd.func114,Tryd.ntmps114
 go_wp2_with fail
 have hn1:(n:Int)-1=((n-1:Nat):Int):=by omega
 go_loopw [2,3] (fun i j wr=>∃ (k q:Nat) (cur:Array Value),k+q+1=n/\k<=q+1/\i = .int .i64 k/\j = .int .i64 q/\BBlk wr g cur/\cur.size=cs.size/\w.grownBy wr (some g)/\Hid (∀ p (h:p<ds.length),cur[p]?=some (bv (if p<k\/q<p then ds[ds.length-1-p]'(by omega) else ds[p])))) (fun i _ _=>n-(intOf i).toNat)
 case atStart=>exact ⟨0,n-1,cs,by omega,by omega,rfl,by rw [hn1],hb,rfl,B5 _ _,fun p h=>by rw [if_neg (by omega)];exact hat p h⟩
 case round=>
  obtain ⟨k,q,cur,hkq,hk,rfl,rfl,hbk,hsz,hg,hc⟩:=hrel
  by_cases hlt:k<q
  · have f1:decide ((k:Int)<(q:Int))=true:=decide_eq_true (by omega)
    obtain ⟨x,hx⟩:∃ x,ds[k]'(by omega)=x:=⟨_,rfl⟩
    obtain ⟨y,hy⟩:∃ y,ds[q]'(by omega)=y:=⟨_,rfl⟩
    have cx:wr.cell? ⟨g,k,none⟩=some (.int .u8 (x:Int)):=by
     rw [hbk.cell,hc.out k (by omega),if_neg (by omega),hx];rfl
    have cy:wr.cell? ⟨g,q,none⟩=some (.int .u8 (y:Int)):=by
     rw [hbk.cell,hc.out q (by omega),if_neg (by omega),hy];rfl
    have fx:wr.frozen? ⟨g,k,none⟩=false:=hbk.frozen _
    have fy:wr.frozen? ⟨g,q,none⟩=false:=hbk.frozen _
    have hnen:¬ q=k:=by omega
    have hnek:¬ k=q:=by omega
    have l1:k<n:=by omega
    have l2:q<n:=by omega
    go_wp2_with fail
    go_region
    have hq1:(q:Int)-1=((q-1:Nat):Int):=by omega
    have hkz:k<cur.size:=by
     have:=hbk.cell k
     rw [cx] at this
     exact (Array.getElem?_eq_some_iff.1 this.symm).1
    have hqz:q<cur.size:=by
     have:=hbk.cell q
     rw [cy] at this
     exact (Array.getElem?_eq_some_iff.1 this.symm).1
    have hrel2:Hid (∀ p (h:p<ds.length),((cur.setIfInBounds k (.int .u8 (y:Int))).setIfInBounds q (.int .u8 (x:Int)))[p]?=some (bv (if p<k+1\/q-1<p then ds[ds.length-1-p]'(by omega) else ds[p]))):=by
     intro p h
     by_cases hp:p=q
     · subst hp
       rw [Array.getElem?_setIfInBounds_self_of_lt (by simpa using hqz),if_pos (by omega)]
       have e:ds.length-1-p=k:=by omega
       simp only [e,hx];rfl
     · rw [Array.getElem?_setIfInBounds_ne (by omega)]
       by_cases hp2:p=k
       · subst hp2
         rw [Array.getElem?_setIfInBounds_self_of_lt hkz,if_pos (by omega)]
         have e:ds.length-1-p=q:=by omega
         simp only [e,hy];rfl
       · rw [Array.getElem?_setIfInBounds_ne (by omega),hc.out p h]
         by_cases hp3:p<k\/q<p
         · rw [if_pos hp3,if_pos (by omega)]
         · rw [if_neg hp3,if_neg (by omega)]
    have hb2:BBlk ((wr.setCell ⟨g,k,none⟩ (.int .u8 (y:Int))).setCell ⟨g,q,none⟩ (.int .u8 (x:Int))).drew g ((cur.setIfInBounds k (.int .u8 (y:Int))).setIfInBounds q (.int .u8 (x:Int))):=(hbk.setCell k _).setCell q _
    have hg2:w.grownBy ((wr.setCell ⟨g,k,none⟩ (.int .u8 (y:Int))).setCell ⟨g,q,none⟩ (.int .u8 (x:Int))).drew (some g):=C7 (C2 (C2 hg _ _) _ _)
    clear cx cy fx fy hc hbk hg
    go_wp2_with fail
    go_roundw
    case rel=>exact ⟨k+1,q-1,_,by omega,by omega,by go_num,(by first | rfl | rw [hq1]),hb2,by simp [hsz],hg2,hrel2⟩
    case measure=>simp [intOf];omega
  · have f1:decide ((k:Int)<(q:Int))=false:=decide_eq_false (by omega)
    have hF:Hid (Reved w g ds cs (.returned (.tuple #[])) wr):=by
     refine ⟨cur,rfl,hbk,hsz,fun p h=>?_,hg⟩
     rw [hc.out p h]
     by_cases hp:p<k\/q<p
     · rw [if_pos hp]
     · rw [if_neg hp]
       have:ds.length-1-p=p:=by omega
       simp only [this]
    go_wp2_with fail
    go_end0
    exact hF
theorem Tryd.infoU8:(Tryd.prog.info? 5).map (fun i=>(i.zero,i.size,i.bytes))=some (some (.int .u8 0),1,1):=by kernel_rfl
theorem info_parts8:∃ i,Tryd.prog.info? 5=some i/\i.zero=some (.int .u8 0)/\i.size=1/\i.bytes=1:=by
 have h:=Tryd.infoU8
 obtain ⟨i,hi,he⟩:=Option.map_eq_some_iff.1 h
 have e1:=congrArg Prod.fst he
 have e2:=congrArg (fun x=>x.2.1) he
 have e3:=congrArg (fun x=>x.2.2) he
 exact ⟨i,hi,e1,e2,e3⟩
def cv (d:Nat):Value := .int .u8 ((48+d:Nat):Int)
theorem one_cv {d:Nat} : ∀ u ∈ ([cv d]:List Value),u.oneCell'=true:=by intro u hu;simp at hu;subst hu;rfl
theorem iV {w:World} {g gd base n cap:Nat} {cs:Array Value} {xs:List Value} (hb:Blk w g cs) (ho:w.ownsRow base 5 1 (.slice (some ⟨gd,0,none⟩) n cap) n xs):some g≠some gd:=by
 intro e
 cases e
 obtain ⟨_,⟨e,_⟩ | ⟨g',cap',cur,e,hg,hk,_⟩⟩:=ho
 · cases e
 · cases e
   unfold Blk at hb
   rw [hb] at hk
   simp at hk
theorem own_alloc8 {w:World} {base:Nat} {v:Value} {n:Nat} {xs:List Value} (h:w.ownsRow base 5 1 v n xs) (o:Obj):(w.alloc o).ownsRow base 5 1 v n xs:=by
 obtain ⟨h1,h2 | ⟨g,cap',cur,e,hg,hb,hr⟩⟩:=h
 · exact ⟨h1,Or.inl h2⟩
 · exact ⟨h1,Or.inr ⟨g,cap',cur,e,hg,(Below.heap_alloc w o g (Array.getElem?_eq_some_iff.1 hb).1).trans hb,hr⟩⟩
theorem gL {w:World} {base gd n cap:Nat} {e:TypeId} {xs:List Value} (ho:w.ownsRow base e 1 (.slice (some ⟨gd,0,none⟩) n cap) n xs):base<=gd/\gd<w.heap.size:=by
 obtain ⟨_,⟨e,_⟩ | ⟨g',cap',cur,e,hg,hk,_⟩⟩:=ho
 · cases e
 · cases e;exact ⟨hg,(Array.getElem?_eq_some_iff.1 hk).1⟩
theorem own_kept8 {w w':World} {base gd n cap:Nat} {xs:List Value} {row:Option Nat} (ho:w.ownsRow base 5 1 (.slice (some ⟨gd,0,none⟩) n cap) n xs) (hg:w.grownBy w' row) (hr:some gd≠row):w'.ownsRow base 5 1 (.slice (some ⟨gd,0,none⟩) n cap) n xs:=by
 obtain ⟨h1,⟨e,_⟩ | ⟨g',cap',cur,e,hg',hk,hh⟩⟩:=ho
 · cases e
 · cases e
   exact ⟨h1,Or.inr ⟨gd,cap,cur,rfl,hg',(hg.block gd (Array.getElem?_eq_some_iff.1 hk).1 hr).trans hk,hh⟩⟩
theorem ten_step {v x p d q:Nat} (hd:x%10=d) (hq:x / 10=q):v+p*d+q*(p*10)=v+x*p:=by
 have:=Nat.div_add_mod x 10
 rw [hd,hq] at this
 rw [<- this]
 grind
theorem text_bound {v x K nd:Nat} (h:v+x*10^nd<B^K) (hx : 0<x):nd<20*K:=by
 have h1 : 10^nd<B^K:=by
  have : 1*10^nd<=x*10^nd:=Nat.mul_le_mul_right _ hx
  omega
 have h2:B^K<=(10^20)^K:=Nat.pow_le_pow_left (by decide) K
 rw [<- Nat.pow_mul] at h2
 rcases Nat.lt_or_ge nd (20*K) with h3 | h3
 · exact h3
 · have : 10^(20*K)<=10^nd:=Nat.pow_le_pow_right (by omega) h3
   omega
theorem text_round {v v' q r X nd V:Nat} (h:v+X*10^nd=V) (hq:X / 1000000000=q) (hr:X%1000000000=r) (hv:v'=v+r*10^nd):v'+q*10^(nd+9)=V:=by
 have:=Nat.div_add_mod X 1000000000
 rw [hq,hr] at this
 rw [<- h, <- this,hv,Nat.pow_add,show (10:Nat)^9=1000000000 from rfl]
 generalize 10^nd=p
 grind
def txt (ds:List Nat):ByteArray:=⟨(((ds.map (48 + ·)).reverse).map UInt8.ofNat).toArray⟩
theorem bts_txt {ds:List Nat} (hd:Dig 10 ds):bts (txt ds)=(ds.map (48 + ·)).reverse:=by
 unfold bts txt
 simp only [List.map_map]
 rw [<- List.map_reverse,List.map_map]
 apply List.map_congr_left
 intro d h
 have:=hd d (by simpa using h)
 show (UInt8.ofNat (48+d)).toNat=48+d
 simp
 omega
theorem dval_rev (ds:List Nat):bJ ((ds.map (48 + ·)).reverse)=val 10 ds:=by
 induction ds with
 | nil=>rfl
 | cons d t ih=>
   rw [List.map_cons,List.reverse_cons,dval_append,ih]
   simp [bJ,val]
   omega
theorem text_end {ds:List Nat} {m V:Nat} (hl:ds.length=m+1) (hd:Dig 10 ds) (hv:val 10 ds=V) (hm:ds[m]'(by omega)≠0):sY (bts (txt ds))/\bJ (bts (txt ds))=V:=by
 rw [bts_txt hd,dval_rev]
 refine ⟨⟨fun k hk=>?_,Or.inr ⟨by intro e;have:=congrArg List.length e;rw [List.length_reverse,List.length_map,hl] at this;simp at this, ?_⟩⟩,hv⟩
 · have h:=List.getElem_mem hk
   rw [List.mem_reverse,List.mem_map] at h
   obtain ⟨d,h1,h2⟩:=h
   have:=hd d h1
   omega
 · rw [List.head?_reverse,List.getLast?_eq_getElem?,List.length_map,hl,Nat.add_sub_cancel,List.getElem?_map,List.getElem?_eq_getElem (by omega)]
   simp only [Option.map_some,ne_eq,Option.some.injEq]
   omega
theorem txt_at {ds:List Nat} (hd:Dig 10 ds) (j:Nat) (hj:j<(((ds.map (48 + ·)).reverse).map UInt8.ofNat).length):bv ((ds.map (48 + ·))[(ds.map (48 + ·)).length-1-j]'(by simp at hj ⊢;omega)) = .int .u8 ((((ds.map (48 + ·)).reverse).map UInt8.ofNat)[j].toNat:Int):=by
 have hl:j<ds.length:=by simpa using hj
 have hlt : 48+ds[ds.length-1-j]'(by omega)<256:=by
  have:=hd.get (ds.length-1-j) (by omega)
  omega
 simp only [List.getElem_map,List.getElem_reverse,List.length_map]
 unfold bv
 congr 1
 simp only [UInt8.toNat_ofNat']
 omega
theorem own_cells8 {w:World} {base gd n cap:Nat} {ds:List Nat} (ho:w.ownsRow base 5 1 (.slice (some ⟨gd,0,none⟩) n cap) n (ds.map cv)) (hl:ds.length=n):∃ cur,BBlk w gd cur/\(∀ p (h:p<ds.length),cur[p]?=some (cv ds[p]))/\n<=cap:=by
 obtain ⟨_,⟨e,_⟩ | ⟨g',cap',cur,e,hg,hk,hc,hm,hs,ht⟩⟩:=ho
 · cases e
 · cases e
   refine ⟨cur,hk,fun p h=>?_,hc⟩
   have h3:(cur.toList.take (n*1))[p]?=(ds.map cv)[p]?:=by rw [ht]
   rw [Nat.mul_one,List.getElem?_take,if_pos (by omega),Array.getElem?_toList,List.getElem?_map,List.getElem?_eq_getElem h] at h3
   exact h3
theorem own_take8 {w:World} {base gd n m cap:Nat} {ds:List Nat} (ho:w.ownsRow base 5 1 (.slice (some ⟨gd,0,none⟩) n cap) n (ds.map cv)) (hm:m<=n):w.ownsRow base 5 1 (.slice (some ⟨gd,0,none⟩) m cap) m ((ds.take m).map cv):=by
 obtain ⟨h1,⟨e,_⟩ | ⟨g',cap',cur,e,hg,hk,hc,hmx,hs,ht⟩⟩:=ho
 · cases e
 · cases e
   rw [List.length_map] at h1
   refine ⟨by rw [List.length_map,List.length_take];omega,Or.inr ⟨gd,cap,cur,rfl,hg,hk,by omega,hmx,hs, ?_⟩⟩
   rw [List.map_take, <- ht,List.take_take]
   congr 1
   omega
def fR (w:World) (a:Nat) (e:Ending) (w':World):Prop:=∃ s:ByteArray,e = .returned (.string s)/\sY (bts s)/\bJ (bts s)=a/\w.grownBy w' none
set_option maxHeartbeats 2000000 in
theorem Text_zero (w:World) (va:Value) (ha:NatV w va 0) :
 Calls Tryd.prog 97 #[va] w (fR w 0):=by
 obtain ⟨sa,xs,rfl,hx,h0⟩:=ha
 obtain rfl:=(S6 B E5 xs hx.top).1 h0
 clear h0
 have hF:Hid (fR w 0 (.returned (.string { data := #[48] })) (w.alloc (.cells #[.slice sa 0 0] 27))):=by
  refine ⟨_,rfl,⟨fun k hk=>?_,Or.inl rfl⟩,rfl,World.grownBy_alloc _ _ _⟩
  have:k=0:=by have:k<1:=hk;omega
  subst this
  exact ⟨Nat.le_refl 48,(by decide:(48:Nat)<=57)⟩
 simp only [List.length_nil]
 go_enter Tryd.func97,Tryd.ntmps97
 go_wp2_with fail
 go_ret
 exact hF.out
set_option maxHeartbeats 8000000 in
theorem Text_some (w:World) (va:Value) (a K:Nat) (ha:NatV w va a) (h0 : 0<a) (hK:K<=1000000) (la:a<B^K) :
 Calls Tryd.prog 97 #[va] w (fR w a):=by
 obtain ⟨sa,xs0,rfl,hx,rfl⟩:=ha
 have h1:=hx.len la
 have hxp:=hx.pos
 obtain ⟨n,hn⟩:∃ n,xs0.length=n:=⟨_,rfl⟩
 have hn0 : 0<n:=by rw [<- hn];exact kI hx h0
 rw [hn] at h1 ⊢
 obtain ⟨b1,o1,cs1,rfl,hb1,hat1⟩:=hx.rd.get 0 (by omega)
 obtain ⟨V,hV⟩:∃ V,val B xs0=V:=⟨_,rfl⟩
 rw [hV] at h0 la ⊢
 have H0:=Lib.hid h0
 have Hla:=Lib.hid la
 have HV:=Lib.hid hV
 have Hn:=Lib.hid hn
 have f0:((n:Int) == 0)=false:=beq_eq_false_iff_ne.2 (by omega)
 obtain ⟨i1,hi,hz0,hz1,hz2⟩:=info_parts8
 have hgw0:=World.grownBy_alloc w (.cells #[.slice (some ⟨b1,o1,none⟩) n n] 27) none
 clear h0 la hn hV hxp
 go_enter Tryd.func97,Tryd.ntmps97
 go_wp2_with fail
 refine (fW _ b1 o1 n n cs1 xs0 Hn.out (hb1.kept hgw0 (by simp)) hat1 hn0 (by omega)).mono ?_
 rintro e w2 ⟨g1,c1,cs2,rfl,hge,hb2,hat2,hcap,hg2⟩
 rw [Hn.out] at hcap ⊢
 have hgw2:=A4 hgw0 hg2
 have hge':w.heap.size+1<=g1:=by simpa using hge
 have hsz2:w.heap.size+1<=w2.heap.size:=by have:=hb2.lt;omega
 clear hg2 hgw0 hge hb1 hat1
 go_wp2_with (at_make;refine wpList_make_own _ rfl _ _ 145 rfl (w.heap.size+1) 5 i1 (.int .u8 0) 1 Tryd.underlying145 hi hz0 hz1 .i64 .i64 _ (20*n+9) rfl rfl (by omega) (by rw [hz2];omega) (by unfold maxLen;omega) hsz2 ?_;intro w3 hown3 hg3)
 have hb3:=hb2.kept hg3 (by simp)
 have hgw3:=A4 hgw2 hg3
 clear hb2 hgw2 hg3
 have hsz3:w.heap.size+1<=w3.heap.size:=by have:=hb3.lt;omega
 generalize w2.heap.size=gd0 at *
 go_loopg [3,4] V (fun gh a b wr=>∃ (sl:Option Addr) (nl cl:Nat) (xs:List Nat) (cs:Array Value) (gd nd cd:Nat) (ds:List Nat),a = .slice sl nl cl/\b = .slice (some ⟨gd,0,none⟩) nd cd/\Hid (xs.length=nl)/\nl<=cl/\(0<nl->sl=some ⟨g1,0,none⟩)/\Blk wr g1 cs/\At cs 0 xs/\Top xs/\Dig B xs/\nl<=n/\wr.ownsRow (w.heap.size+1) 5 1 (.slice (some ⟨gd,0,none⟩) nd cd) nd (ds.map cv)/\Hid (ds.length=nd)/\Dig 10 ds/\Hid (val 10 ds+val B xs*10^nd=V)/\nd<=20*K+9/\Below (w.heap.size+1) w3 wr/\Hid (val B xs<=gh))
 case atStart=>exact ⟨_,n,c1,xs0,cs2,gd0,0,20*n+9,[],rfl,rfl,Hn,hcap,fun _=>rfl,hb3,hat2,hx.top,hx.dig,Nat.le_refl _,hown3,rfl,Dig.nil _,by show _=_;rw [HV.out];simp [val],by omega,Below.refl _ _,by show _<=_;rw [HV.out];exact Nat.le_refl _⟩
 case round=>
  clear hb3 hat2 hown3 hcap
  obtain ⟨sl,nl,cl,xs,cs,gd,nd,cd,ds,rfl,rfl,hxl,hcl,hsl,hb,hat,htp,hdx,hnl,hown,hdl,hdd,hv,hnd,hbl,hgh⟩:=hrel
  by_cases h0:nl=0
  · subst h0
    obtain rfl:=List.length_eq_zero_iff.1 hxl.out
    have hvd:Hid (val 10 ds=V):=by
     show _=_
     have:=hv.out
     simpa [val] using this
    have hblw:=J9 hgw3 hbl (by omega)
    clear hb hat htp hdx hgh hbl hv hsl
    go_wp2_with fail
    go_loopg [4] nd (fun gh b wz=>∃ (nd2:Nat) (ds2:List Nat),b = .slice (some ⟨gd,0,none⟩) nd2 cd/\Hid (ds2.length=nd2)/\Dig 10 ds2/\wr.ownsRow (w.heap.size+1) 5 1 (.slice (some ⟨gd,0,none⟩) nd2 cd) nd2 (ds2.map cv)/\Hid (val 10 ds2=V)/\nd2<=gh/\nd2<=20*K+9/\wr=wz)
    case atStart=>exact ⟨nd,ds,rfl,hdl,hdd,hown,hvd,Nat.le_refl _,hnd,rfl⟩
    case round=>
     clear hdl hdd hown hvd hnd
     obtain ⟨nd2,ds2,rfl,hdl,hdd,hown,hvd,hgh,hnd,rfl⟩:=hrel
     obtain ⟨cur,hbk,hcur,hncap⟩:=own_cells8 hown hdl.out
     have hlo:=gL hown
     have hpos : 0<nd2:=by
      rcases Nat.eq_zero_or_pos nd2 with e | e
      · have h2:=hdl.out
        rw [e] at h2
        have h3:=hvd.out
        rw [List.length_eq_zero_iff.1 h2] at h3
        have:=H0.out
        simp [val] at h3;omega
      · exact e
     obtain ⟨m,rfl⟩:∃ m,nd2=m+1:=⟨nd2-1,by omega⟩
     obtain ⟨d,ed⟩:∃ d,ds2[m]'(by rw [hdl.out];omega)=d:=⟨_,rfl⟩
     have hd10:d<10:=ed ▸ hdd.get m _
     obtain ⟨x,hx⟩:∃ x,48+d=x:=⟨_,rfl⟩
     have cx:wr.cell? ⟨gd,m,none⟩=some (.int .u8 (x:Int)):=by
      rw [hbk.cell,hcur m (by rw [hdl.out];omega),ed]
      show some (Value.int IntKind.u8 ((48+d:Nat):Int))=_
      rw [hx]
     by_cases hz:d=0
     · have f2:((x:Int) == 48)=true:=by rw [<- hx,hz];rfl
       have hval:Hid (val 10 (ds2.take m)=V):=by
        show _=_
        have:=B9 10 ds2 m (by rw [hdl.out];omega)
        rw [ed,hz,List.take_of_length_le (by rw [hdl.out];omega),hvd.out] at this
        omega
       have hown2:=own_take8 hown (show m<=m+1 by omega)
       have hl2:Hid ((ds2.take m).length=m):=by show _=_;rw [List.length_take,hdl.out];omega
       clear hx hcur hbk
       go_wp2_with fail
       go_roundg m
       case measure=>omega
       case rel=>exact ⟨m,ds2.take m,rfl,hl2,hdd.take m,hown2,hval,Nat.le_refl _,by omega,rfl⟩
     · have f2:((x:Int) == 48)=false:=beq_eq_false_iff_ne.2 (by omega)
       have hend:=Lib.hid (text_end hdl.out hdd hvd.out (by rw [ed];exact hz))
       have hbs:(ds2.map (48 + ·)).length=m+1:=by rw [List.length_map];exact hdl.out
       have hbat:∀ p (h:p<(ds2.map (48 + ·)).length),cur[p]?=some (bv ((ds2.map (48 + ·))[p])):=by
        intro p h
        rw [List.getElem_map]
        exact hcur p (by simpa using h)
       have HBS:=Lib.hid hbs
       clear hx hcur hbs
       go_wp2_with fail
       refine (Reverse_any wr gd (m+1) cd cur (ds2.map (48 + ·)) HBS.out (by omega) (by omega) hbk hbat hncap).mono ?_
       rintro e w6 ⟨cs6,rfl,hb6,_,hc6,hg6⟩
       have hconv:(convert 145 9 (.slice (some ⟨gd,0,none⟩) (m+1) cd)).run Tryd.prog w6 = .ok (.string (txt ds2)) w6:=by
        have:=run_convert_bytes_back (P:=Tryd.prog) w6 145 9 5 ⟨gd,0,none⟩ cd (((ds2.map (48 + ·)).reverse).map UInt8.ofNat) Tryd.underlying145 Tryd.underlying5 Tryd.underlying9 ?_
        · rw [List.length_map,List.length_reverse,HBS.out] at this
          exact this
        · intro j hj
          have hadd:(⟨gd,0,none⟩:Addr).add j=⟨gd,j,none⟩:=by unfold Addr.add;split<;>simp_all
          have hj2:j<(ds2.map (48 + ·)).length:=by simpa using hj
          rw [hadd,hb6.cell,hc6 j hj2]
          exact congrArg some (txt_at hdd j hj)
       have hF:Hid (fR w V (.returned (.string (txt ds2))) w6):=⟨_,rfl,hend.out.1,hend.out.2,D2 hblw hg6 (by omega)⟩
       clear hb6 hc6 hg6 hbk hbat hend cx
       go_wp2_with fail
       go_ret
       exact hF.out
  · obtain rfl:=hsl (by omega)
    have f1:decide ((0:Int)<(nl:Int))=true:=decide_eq_true (by omega)
    have hxp : 0<val B xs:=by
     rcases Nat.eq_zero_or_pos (val B xs) with e | e
     · have:=(S6 B E5 xs htp).1 e
       have h2:=hxl.out
       rw [this] at h2;simp at h2;omega
     · exact e
    have HXP:=Lib.hid hxp
    have hnd20:nd<20*K:=text_bound (v:=val 10 ds) (by rw [hv.out];exact Hla.out) hxp
    clear hsl hxp
    go_wp2_with fail
    refine (bL wr g1 0 nl cl xs cs 1000000000 hxl.out hb hat (by omega) hdx (by decide) (by omega)).mono ?_
    rintro e w4 ⟨zs,cs4,rfl,hb4,hw4,hg4,hl4,hd4,hv4⟩
    have hown4:=own_kept8 hown hg4 (Ne.symm (iV hb hown))
    have hbl4:=hbl.trans (Q6 hg4 hge' (by have:=hbl.size;omega))
    have hl4':Hid (zs.length=nl):=hl4.trans hxl.out
    have HV4:=Lib.hid hv4
    obtain ⟨r,hr⟩:∃ r,val B xs%1000000000=r:=⟨_,rfl⟩
    have hr9:r<10^9:=by rw [<- hr];exact Nat.mod_lt _ (by decide)
    have HR:=Lib.hid hr
    have HR9:=Lib.hid hr9
    rw [hr]
    clear hg4 hl4 hv4 hown hbl hb hat hr hr9
    go_wp2_with fail
    refine (bN w4 (some ⟨g1,0,none⟩) nl cl zs hl4'.out (Rdo.of hb4 hw4.lies) (by omega) hcl).mono ?_
    rintro e w5 ⟨k,hk,rfl,ht5,hv5,rfl⟩
    have hkn:k<=nl:=by rw [hl4'.out] at hk;exact hk
    have hlk:Hid ((zs.take k).length=k):=by show _=_;rw [List.length_take];omega
    have hat5:=hw4.lies.take k
    have hd5:=hd4.take k
    have HV5:Hid (val B (zs.take k)=val B xs / 1000000000):=hv5.trans HV4.out
    clear hv5 hk hw4 hd4
    go_wp2_with fail
    go_loopw [4,5,25] (fun b v i wi=>∃ (j x gd' nd' cd':Nat) (ds':List Nat),j<=9/\i = .int .i64 j/\v = .int .u64 x/\b = .slice (some ⟨gd',0,none⟩) nd' cd'/\nd'=nd+j/\Hid (ds'.length=nd')/\Dig 10 ds'/\wi.ownsRow (w.heap.size+1) 5 1 (.slice (some ⟨gd',0,none⟩) nd' cd') nd' (ds'.map cv)/\Hid (val 10 ds'+x*10^nd'=val 10 ds+r*10^nd)/\Hid (x<10^(9-j))/\x<1000000000/\Blk wi g1 cs4/\Below (w.heap.size+1) w4 wi) (fun _ _ i _=>9-(intOf i).toNat)
    case atStart=>exact ⟨0,r,gd,nd,cd,ds,by omega,rfl,rfl,rfl,rfl,hdl,hdd,hown4,rfl,HR9.out,HR9.out,hb4,Below.refl _ _⟩
    case round=>
     clear hown4 hb4
     obtain ⟨j,x,gd',nd',cd',ds',hj,rfl,rfl,rfl,hndj,hdl',hdd',hown',hv',hx9,hxs,hb',hbl'⟩:=hrel
     by_cases hlt:j<9
     · obtain ⟨d,hd⟩:∃ d,x%10=d:=⟨_,rfl⟩
       obtain ⟨q,hq⟩:∃ q,x / 10=q:=⟨_,rfl⟩
       have hd10:d<10:=by omega
       have e1:(x:Int)%10=(d:Int):=by omega
       have e2:(x:Int) / 10=(q:Int):=by omega
       have e3:IntKind.u8.wrap (48+(d:Int))=((48+d:Nat):Int):=by rw [IntKind.wrap_u8];omega
       have hq9:Hid (q<10^(9-(j+1))):=by
        show _<_
        have:=hx9.out
        rw [show 9-j=(9-(j+1))+1 from by omega,Nat.pow_succ] at this
        omega
       have hvn:Hid (val 10 (ds'++[d])+q*10^(nd'+1)=val 10 ds+r*10^nd):=by
        show _=_
        rw [F9,hdl'.out,Nat.pow_succ,ten_step hd hq];exact hv'.out
       have hownA:=own_alloc8 hown' (.cells #[cv d] 5)
       have hnews:∀ j u,([cv d]:List Value)[j]?=some u->(wr.alloc (.cells #[cv d] 5)).cell? ((⟨wr.heap.size,0,none⟩:Addr).add j)=some u:=World.news_of_block (heap_alloc_new wr _)
       have hsi:w.heap.size+1<=(wr.alloc (.cells #[cv d] 5)).heap.size:=by have:=(gL hown').1;have:=(gL hown').2;simp;omega
       have hblA:Below (w.heap.size+1) w4 (wr.alloc (.cells #[cv d] 5)):=hbl'.trans (M1 (World.grownBy_alloc _ _ _) (by have:=(gL hown').1;have:=(gL hown').2;omega))
       have hbA:=hb'.alloc (.cells #[cv d] 5)
       have hapA:=iV hbA hownA
       have hlo:=(gL hown').1
       clear hd hq
       go_wp2_with (at_builtin;refine wpList_append_lies _ rfl _ _ _ rfl (w.heap.size+1) 5 i1 (.int .u8 0) 1 1 Tryd.underlying145 hi hz0 hz1 hz2 rfl (by omega) (.slice (some ⟨gd',0,none⟩) nd' cd') nd' (ds'.map cv) rfl hownA ⟨wr.heap.size,0,none⟩ 1 1 [cv d] rfl rfl hnews one_cv (by omega) (by unfold maxLen;omega) (by omega) hsi (wr.heap.size+1) (by simp) ?_;intro g2 cap2 w5 hown5 hgrow hat9 hlt9)
       have hb5:=hbA.kept hgrow hapA
       have hbl5:=hblA.trans (Q6 (g:=gd') hgrow hlo hsi)
       have hmap:ds'.map cv++[cv d]=(ds'++[d]).map cv:=by rw [List.map_append];rfl
       rw [hmap] at hown5
       have hl5:Hid ((ds'++[d]).length=nd'+1):=by show _=_;rw [List.length_append,hdl'.out];rfl
       clear hgrow hownA hnews hblA hbA hapA hmap hown' hb' hbl'
       go_roundw
       case rel=>exact ⟨j+1,q,g2,nd'+1,cap2,ds'++[d],by omega,by go_num,by go_num,(by rw [hndj]),by omega,hl5,hdd'.snoc hd10,hown5,hvn,hq9,by omega,hb5,hbl5⟩
       case measure=>simp [intOf];omega
     · obtain rfl:j=9:=by omega
       have hx0:x=0:=by have:=hx9.out;omega
       have hvn:Hid (val 10 ds'+val B (zs.take k)*10^nd'=V):=by
        show _=_
        rw [hndj]
        refine text_round hv.out HV5.out.symm HR.out ?_
        have:=hv'.out
        rw [hx0] at this;omega
       have hlt':Hid (val B (zs.take k)<gk):=by
        show _<_
        rw [HV5.out]
        exact Nat.lt_of_lt_of_le (Nat.div_lt_self HXP.out (by decide)) hgh.out
       have hblF:=hbl4.trans hbl'
       clear hx9 hv' hv hbl4 hbl'
       go_wp2_with fail
       go_roundg (val B (zs.take k))
       case measure=>exact hlt'.out
       case rel=>exact ⟨_,k,k,zs.take k,cs4,gd',nd',cd',ds',rfl,rfl,hlk,Nat.le_refl _,fun e=>bT e,hb',hat5,ht5,hd5,by omega,hown',hdl',hdd',hvn,by omega,hblF,Nat.le_refl _⟩
theorem mL {l:List Nat} (h:∀ k (hk:k<l.length),48<=l[k]/\l[k]<=57):(((l.map (· - 48)).reverse).map (48 + ·)).reverse=l:=by
 rw [List.map_reverse,List.reverse_reverse,List.map_map]
 have:∀ x ∈ l,((48 + ·) ∘ (· - 48)) x=x:=by
  intro x hx
  obtain ⟨k,hk,rfl⟩:=List.getElem_of_mem hx
  have:=h k hk
  simp only [Function.comp];omega
 rw [List.map_congr_left this];simp
theorem dig_dig {l:List Nat} (h:∀ k (hk:k<l.length),48<=l[k]/\l[k]<=57):Dig 10 ((l.map (· - 48)).reverse):=by
 intro x hx
 rw [List.mem_reverse,List.mem_map] at hx
 obtain ⟨y,hy,rfl⟩:=hx
 obtain ⟨k,hk,rfl⟩:=List.getElem_of_mem hy
 have:=h k hk
 omega
theorem jW {l:List Nat} (h:∀ k (hk:k<l.length),48<=l[k]/\l[k]<=57):bJ l=val 10 ((l.map (· - 48)).reverse):=by
 rw [<- dval_rev,mL h]
theorem jY {l:List Nat} (h:sY l) (h0:l≠[48]):Top ((l.map (· - 48)).reverse):=by
 rcases h with ⟨h1,h2 | ⟨h2,h3⟩⟩
 · exact absurd h2 h0
 · intro x hx
   rw [List.getLast?_reverse,List.head?_map] at hx
   cases l with
   | nil=>exact absurd rfl h2
   | cons d t=>
     simp at hx h3
     have:=h1 0 (by simp)
     simp at this
     omega
theorem dec_pos {l:List Nat} (h:sY l) (h0:l≠[48]) : 0<bJ l:=by
 rw [jW h.1]
 refine val_pos 10 (by omega) _ ?_ (jY h h0)
 intro e
 have e2:=congrArg List.length e
 simp at e2
 subst e2
 rcases h.2 with h2 | h2
 · simp at h2
 · exact h2.1 rfl
theorem dec_uniqL {l m:List Nat} (hl:sY l) (hm:sY m) (e:bJ l=bJ m):l=m:=by
 by_cases l0:l=[48]
 · by_cases m0:m=[48]
   · rw [l0,m0]
   · have:=dec_pos hm m0
     rw [<- e,l0] at this
     exact absurd this (by decide)
 · by_cases m0:m=[48]
   · have:=dec_pos hl l0
     rw [e,m0] at this
     exact absurd this (by decide)
   · rw [jW hl.1,jW hm.1] at e
     have:=val_uniq 10 (by omega) _ _ (dig_dig hl.1) (dig_dig hm.1) (jY hl l0) (jY hm m0) e
     rw [<- mL hl.1, <- mL hm.1,this]
theorem bts_inj {s t:ByteArray} (h:bts s=bts t):s=t:=by
 apply ByteArray.ext
 apply Array.ext'
 unfold bts at h
 exact (List.map_inj_right (fun a b e=>UInt8.toNat_inj.1 e)).1 h
theorem bts_app (s t:ByteArray):bts (s++t)=bts s++bts t:=by
 unfold bts
 rw [ByteArray.data_append,Array.toList_append,List.map_append]
theorem dec_len {l:List Nat} {m:Nat} (h:sY l) (hv:bJ l<10^m) (hm : 1<=m):l.length<=m:=by
 by_cases h0:l=[48]
 · rw [h0];exact hm
 · have ht:=jY h h0
   have hne:(l.map (· - 48)).reverse≠[]:=by
    intro e
    have e2:=congrArg List.length e
    simp at e2
    rcases h.2 with h2 | h2
    · rw [e2] at h2;simp at h2
    · exact h2.1 e2
   have h1:=fX 10 _ hne ht
   rw [<- jW h.1,List.length_reverse,List.length_map] at h1
   rcases Nat.lt_or_ge m l.length with h2 | h2
   · have:=Nat.pow_le_pow_right (show 0<10 by omega) (show m<=l.length-1 by omega)
     omega
   · exact h2
theorem NText_any (w:World) (va:Value) (a K:Nat) (ha:NatV w va a) (hK:K<=1000000) (la:a<B^K) :
 Calls Tryd.prog 97 #[va] w (fR w a):=by
 rcases Nat.eq_zero_or_pos a with h | h
 · subst h;exact Text_zero w va ha
 · exact Text_some w va a K ha h hK la
def G5 (s:ByteArray) (z:Int):Prop:=∃ l,sY l/\bJ l=z.natAbs/\bts s=if z<0 then 45 :: l else l
set_option maxHeartbeats 4000000 in
theorem ZText_any (w:World) (va:Value) (z:Int) (K:Nat) (ha:IntV w va z) (hK:K<=900000) (la:z.natAbs<B^K) :
 Calls Tryd.prog 81 #[va] w (fun e w'=>∃ s,e = .returned (.string s)/\G5 s z/\w.grownBy w' none):=by
 obtain ⟨sa,xs,za,rfl,hx,hv,hza⟩:=ha
 have hgw0:=World.grownBy_alloc w (.cells #[.slice sa xs.length xs.length,.bool za] 29) none
 have hba:=A9 w (.cells #[.slice sa xs.length xs.length,.bool za] 29) w.heap.size rfl
 have ia:IntV (w.alloc (.cells #[.slice sa xs.length xs.length,.bool za] 29)) (.agg #[.slice sa xs.length xs.length,.bool za]) z:=⟨sa,xs,za,rfl,hx.kept hgw0,hv,hza⟩
 have na:NatV (w.alloc (.cells #[.slice sa xs.length xs.length,.bool za] 29)) (.agg #[.slice sa xs.length xs.length]) z.natAbs:=⟨sa,xs,rfl,hx.kept hgw0,hv⟩
 have Hla:=Lib.hid la
 obtain ⟨s1,h1⟩:∃ s,z.sign=s:=⟨_,rfl⟩
 have H1:=Lib.hid h1
 have hc:(decide (s1<0)=true/\z<0)\/(decide (s1<0)=false /\ ¬ z<0):=by
  rcases eE z with ⟨h,e⟩ | ⟨h,e⟩ | ⟨h,e⟩
  · left;exact ⟨decide_eq_true (by omega),h⟩
  · right;exact ⟨decide_eq_false (by omega),by omega⟩
  · right;exact ⟨decide_eq_false (by omega),by omega⟩
 clear hx hv la hza h1
 rcases hc with ⟨f1,hz⟩ | ⟨f1,hz⟩
 all_goals (
  have HZ:=Lib.hid hz
  clear hz
  go_enter Tryd.func81,Tryd.ntmps81
  obtain ⟨ca0,ca1,fa0,fa1⟩:=A7 hba
  go_wp2_with fail
  refine (F7 _ _ z K ia (by omega) Hla.out).mono ?_
  rintro e w1 ⟨rfl,g1⟩
  rw [H1.out]
  obtain ⟨da0,da1,ga0,ga1⟩:=A7 (A5 g1 hba)
  have na1:=na.kept g1
  have hgw1:=A4 hgw0 g1
  clear na ia g1
  go_wp2_with fail
  refine (NText_any w1 _ z.natAbs K na1 (by omega) Hla.out).mono ?_
  rintro e w2 ⟨s,rfl,hd,hdv,g2⟩
  have hgw2:=A4 hgw1 g2)
 · have hsz:s.size<=20*K+1:=by
    rw [<- bts_len]
    refine dec_len hd ?_ (by omega)
    rw [hdv]
    refine Nat.lt_of_lt_of_le Hla.out ?_
    have q1:B^K<=(10^20)^K:=Nat.pow_le_pow_left (by decide) K
    rw [<- Nat.pow_mul] at q1
    exact Nat.le_trans q1 (Nat.pow_le_pow_right (by omega) (by omega))
   have hF:Hid (G5 ({ data := #[45] } ++ s) z):=⟨bts s,hd,hdv,by rw [bts_app,if_pos HZ.out];rfl⟩
   clear hd hdv g2 na1
   go_wp2_with fail
   go_ret
   exact ⟨_,rfl,hF.out,hgw2⟩
 · have hF:Hid (G5 s z):=⟨bts s,hd,hdv,by rw [if_neg (by have:=HZ.out;omega)]⟩
   clear hd hdv g2 na1
   go_wp2_with fail
   go_ret
   exact ⟨_,rfl,hF.out,hgw2⟩
theorem dn_neg (r:Rat):dn (-r)=dn r:=by unfold dn;rw [Rat.neg_den]
theorem rinv_pos (t:Rat) (h : 0<t.num):(t⁻¹).num=(t.den:Int)/\((t⁻¹).den:Int)=t.num:=by
 show (Rat.inv t).num=_/\((Rat.inv t).den:Int)=_
 unfold Rat.inv
 rw [dif_neg (by omega),dif_pos h]
 exact ⟨rfl,by dsimp only;omega⟩
theorem rinv_neg (t:Rat) (h:t.num<0):(t⁻¹).num = -(t.den:Int)/\((t⁻¹).den:Int) = -t.num:=by
 show (Rat.inv t).num=_/\((Rat.inv t).den:Int)=_
 unfold Rat.inv
 rw [dif_pos h]
 exact ⟨rfl,by dsimp only;omega⟩
theorem gI (a:Rat):G4 a a=0:=by rw [R1,Rat.sub_self];rfl
theorem L4 {a b:Rat} (h:a=b):G4 a b=0:=by rw [h];exact gI b
theorem rsg_pos {a:Rat} : rsg a=1 ↔ 0<a:=by
 unfold rsg
 rw [Int.sign_eq_one_iff_pos,Rat.lt_iff];simp
end Go.Proofs.YtamdnbbgpacfkaaDoor
namespace Go.Proofs.YtamdnbbgpacfkaaDoor.PM
theorem X3 {p q r:Pq} (h:ple p q) (h':ple q r):ple p r:=by
 simp only [ple] at *;grind
theorem jN {p q:Pq} (h:plt p q):ple p q:=by simp only [plt,ple] at *;grind
theorem plt_ne {p q:Pq} (h:plt p q):p≠q:=by rintro rfl;simp only [plt] at h;grind
theorem plt_of {p q:Pq} (h:ple p q) (hne:p≠q):plt p q:=by
 obtain ⟨a,b⟩:=p;obtain ⟨c,d⟩:=q
 simp only [plt,ple] at *
 rcases h with h | ⟨rfl,h⟩
 · exact Or.inl h
 · right;refine ⟨rfl, ?_⟩
   have:b≠d:=fun e=>hne (by rw [e])
   grind
inductive Told:List Pq->(Pq->Prop)->Prop
 | none {S:Pq->Prop} : (∀ p,¬ S p)->Told [] S
 | one {S:Pq->Prop} (p:Pq):(∀ q,S q ↔ q=p)->Told [p] S
 | two {S:Pq->Prop} (p q:Pq):plt p q->(∀ r,S r ↔ InS p q r)->Told [p,q] S
theorem X9 (p q:Pq):InS p q p:=⟨0,by grind,by grind,(sG _ _).symm⟩
theorem cM (p q:Pq):InS p q q:=⟨1,by grind,by grind,(at_one _ _).symm⟩
theorem told_uniq {l m:List Pq} {S:Pq->Prop} (h:Told l S) (h':Told m S):l=m:=by
 cases h with
 | none h=>
   cases h' with
   | none _=>rfl
   | one p h1=>exact absurd ((h1 p).2 rfl) (h p)
   | two p q _ h1=>exact absurd ((h1 p).2 (X9 p q)) (h p)
 | one p h=>
   cases h' with
   | none h1=>exact absurd ((h p).2 rfl) (h1 p)
   | one q h1=>rw [(h1 p).1 ((h p).2 rfl)]
   | two q r hl h1=>
     have e1:=(h q).1 ((h1 q).2 (X9 q r))
     have e2:=(h r).1 ((h1 r).2 (cM q r))
     exact absurd (e1.trans e2.symm) (plt_ne hl)
 | two p q hl h=>
   cases h' with
   | none h1=>exact absurd ((h p).2 (X9 p q)) (h1 p)
   | one r h1=>
     have e1:=(h1 p).1 ((h p).2 (X9 p q))
     have e2:=(h1 q).1 ((h q).2 (cM p q))
     exact absurd (e1.trans e2.symm) (plt_ne hl)
   | two p' q' hl' h1=>
     have a1:=(cN (jN hl')).1 ((h1 p).1 ((h p).2 (X9 p q)))
     have a2:=(cN (jN hl')).1 ((h1 q).1 ((h q).2 (cM p q)))
     have b1:=(cN (jN hl)).1 ((h p').1 ((h1 p').2 (X9 p' q')))
     have b2:=(cN (jN hl)).1 ((h q').1 ((h1 q').2 (cM p' q')))
     rw [K4 b1.1 a1.1,K4 a2.2.1 b2.2.1]
theorem pmax_le {a b p:Pq} : ple (I7 a b) p ↔ ple a p/\ple b p:=by
 unfold I7
 by_cases h:ple b a
 · rw [if_pos h];exact ⟨fun h1=>⟨h1,X3 h h1⟩,fun h1=>h1.1⟩
 · rw [if_neg h];exact ⟨fun h1=>⟨X3 ((gK b a).resolve_left h) h1,h1⟩,fun h1=>h1.2⟩
theorem le_pmin {a b p:Pq} : ple p (I6 a b) ↔ ple p a/\ple p b:=by
 unfold I6
 by_cases h:ple a b
 · rw [if_pos h];exact ⟨fun h1=>⟨h1,X3 h1 h⟩,fun h1=>h1.1⟩
 · rw [if_neg h];exact ⟨fun h1=>⟨X3 h1 ((gK a b).resolve_left h),h1⟩,fun h1=>h1.2⟩
theorem mS {a b c d p:Pq} (hc:A3 a b c=0) (hd:A3 a b d=0) (hne:a≠b) (hp:A3 a b p=0):A3 c d p=0:=by
 obtain ⟨s,rfl⟩:=bO hne hc
 obtain ⟨t,rfl⟩:=bO hne hd
 obtain ⟨u,rfl⟩:=bO hne hp
 simp only [A3,pat];grind
theorem mR (a p:Pq):A3 a a p=0:=by simp only [A3];grind
theorem gZ (a b:Pq):A3 a b a=0:=by simp only [A3];grind
theorem qF (a b:Pq):A3 a b b=0:=by simp only [A3];grind
theorem meet_line {a b c d:Pq} (h1:A3 a b c=0) (h2:A3 a b d=0) (h3:A3 c d a=0) (h4:A3 c d b=0) (hm:ple (I7 (lo a b) (lo c d)) (I6 (hi a b) (hi c d))) (p:Pq) :
 InS a b p/\InS c d p ↔ InS (I7 (lo a b) (lo c d)) (I6 (hi a b) (hi c d)) p:=by
 rw [cN hm,ins_prog,ins_prog,pmax_le,le_pmin]
 have hf:I7 (lo a b) (lo c d)=a\/I7 (lo a b) (lo c d)=b\/I7 (lo a b) (lo c d)=c\/I7 (lo a b) (lo c d)=d:=by
  rcases pmax_or (lo a b) (lo c d) with e | e<;>rw [e]
  · rcases pJ a b with e | e<;>simp [e]
  · rcases pJ c d with e | e<;>simp [e]
 have ht:I6 (hi a b) (hi c d)=a\/I6 (hi a b) (hi c d)=b\/I6 (hi a b) (hi c d)=c\/I6 (hi a b) (hi c d)=d:=by
  rcases pmin_or (hi a b) (hi c d) with e | e<;>rw [e]
  · rcases pO a b with e | e<;>simp [e]
  · rcases pO c d with e | e<;>simp [e]
 have hfp:=pmax_le (a:=lo a b) (b:=lo c d) (p:=p)
 have htp:=le_pmin (a:=hi a b) (b:=hi c d) (p:=p)
 generalize I7 (lo a b) (lo c d)=f at *
 generalize I6 (hi a b) (hi c d)=t at *
 by_cases hab:a=b
 · by_cases hcd:c=d
   · subst hab;subst hcd
     have e1:lo a a=a:=(pJ a a).elim id id
     have e2:hi a a=a:=(pO a a).elim id id
     have e3:lo c c=c:=(pJ c c).elim id id
     have e4:hi c c=c:=(pO c c).elim id id
     rw [e1,e2,e3,e4] at *
     constructor
     · rintro ⟨⟨x1,x2,_⟩,x3,x4,_⟩
       refine ⟨⟨x1,x3⟩,⟨x2,x4⟩, ?_⟩
       have ea:=K4 x2 x1
       have ec:=K4 x4 x3
       subst ea;subst ec
       have:f=p:=by rcases hf with h | h | h | h<;>exact h
       have:t=p:=by rcases ht with h | h | h | h<;>exact h
       subst f;exact gZ _ _
     · rintro ⟨⟨x1,x3⟩,⟨x2,x4⟩,_⟩
       exact ⟨⟨x1,x2,mR _ _⟩,x3,x4,mR _ _⟩
   · have ha:∀ x,(x=a\/x=b\/x=c\/x=d)->A3 c d x=0:=by
      rintro x (rfl | rfl | rfl | rfl)
      · exact h3
      · exact h4
      · exact gZ _ _
      · exact qF _ _
     constructor
     · rintro ⟨⟨x1,x2,_⟩,x3,x4,x5⟩
       exact ⟨⟨x1,x3⟩,⟨x2,x4⟩,mS (ha f hf) (ha t ht) hcd x5⟩
     · rintro ⟨⟨x1,x3⟩,⟨x2,x4⟩,x5⟩
       subst hab
       have e1:lo a a=a:=(pJ a a).elim id id
       have e2:hi a a=a:=(pO a a).elim id id
       rw [e1] at x1;rw [e2] at x2
       have:=K4 x2 x1
       subst this
       exact ⟨⟨by rw [e1];exact bD _,by rw [e2];exact bD _,mR _ _⟩,x3,x4,h3⟩
 · have ha:∀ x,(x=a\/x=b\/x=c\/x=d)->A3 a b x=0:=by
    rintro x (rfl | rfl | rfl | rfl)
    · exact gZ _ _
    · exact qF _ _
    · exact h1
    · exact h2
   constructor
   · rintro ⟨⟨x1,x2,x5⟩,x3,x4,_⟩
     exact ⟨⟨x1,x3⟩,⟨x2,x4⟩,mS (ha f hf) (ha t ht) hab x5⟩
   · rintro ⟨⟨x1,x3⟩,⟨x2,x4⟩,x5⟩
     have key:A3 a b p=0:=by
      have q1:ple f p:=hfp.2 ⟨x1,x3⟩
      have q2:ple p t:=htp.2 ⟨x2,x4⟩
      by_cases hft:f=t
      · have:p=f:=K4 (by rw [hft];exact q2) q1
        rw [this];exact ha f hf
      · have hfa:=ha f hf
        have hta:=ha t ht
        obtain ⟨s,rfl⟩:=bO hab hfa
        obtain ⟨u,rfl⟩:=bO hab hta
        obtain ⟨v,rfl⟩:=bO hft x5
        simp only [A3,pat];grind
     exact ⟨⟨x1,x2,key⟩,x3,x4,mS h1 h2 hab key⟩
theorem qC (a b c d:Pq) (t:Rat):A3 c d (pat a b t)=A3 c d a+(A3 c d b-A3 c d a)*t:=by simp only [A3,pat];grind
def P4 (u v:Rat):Prop:=0<u/\0<v\/u<0/\v<0
theorem aside_no {a b c d:Pq} (h:P4 (A3 c d a) (A3 c d b)) (p:Pq):¬ (InS a b p/\InS c d p):=by
 rintro ⟨⟨t,h0,h1,rfl⟩,h2⟩
 have h3:=(ins_prog.1 h2).2.2
 rw [qC] at h3
 generalize A3 c d a=u at *
 generalize A3 c d b=v at *
 rcases h with ⟨hu,hv⟩ | ⟨hu,hv⟩
 · have e1:=Rat.mul_nonneg (Rat.le_of_lt hu) (show 0<=1-t by grind)
   have e2:=Rat.mul_nonneg (Rat.le_of_lt hv) h0
   by_cases ht:t=0
   · subst ht;grind
   · have:=Rat.mul_pos hv (show 0<t by grind);grind
 · have e1:=Rat.mul_nonneg (show 0 <= -u by grind) (show 0<=1-t by grind)
   have e2:=Rat.mul_nonneg (show 0 <= -v by grind) h0
   by_cases ht:t=0
   · subst ht;grind
   · have:=Rat.mul_pos (show 0 < -v by grind) (show 0<t by grind);grind
theorem cross_only {a b c d p:Pq} (hne:A3 c d a≠A3 c d b) (hp:InS a b p/\InS c d p):p=pat a b (A3 c d a / (A3 c d a-A3 c d b)):=by
 obtain ⟨⟨t,h0,h1,rfl⟩,h2⟩:=hp
 have h3:=(ins_prog.1 h2).2.2
 rw [qC] at h3
 generalize A3 c d a=u at *
 generalize A3 c d b=v at *
 have:t=u / (u-v):=by
  have h4:u-v≠0:=by grind
  grind
 rw [this]
theorem cE {u v:Rat} (hs:¬ P4 u v) (hne:u≠v) : 0<=u / (u-v)/\u / (u-v)<=1:=by
 have h4:u-v≠0:=by grind
 generalize hq:u / (u-v)=q
 have e:q*(u-v)=u:=by grind
 unfold P4 at hs
 constructor
 · rcases (show q<0\/0<=q by grind) with h | h
   · exfalso
     rcases (show u-v<0\/0<u-v by grind) with h5 | h5
     · have:=Rat.mul_pos (show 0 < -q by grind) (show 0 < -(u-v) by grind);grind
     · have:=Rat.mul_pos (show 0 < -q by grind) h5;grind
   · exact h
 · rcases (show 1<q\/q<=1 by grind) with h | h
   · exfalso
     rcases (show u-v<0\/0<u-v by grind) with h5 | h5
     · have:=Rat.mul_pos (show 0<q-1 by grind) (show 0 < -(u-v) by grind);grind
     · have:=Rat.mul_pos (show 0<q-1 by grind) h5;grind
   · exact h
theorem cut_other {a b c d:Pq} (hne:A3 c d a≠A3 c d b):pat a b (A3 c d a / (A3 c d a-A3 c d b))=pat c d (A3 a b c / (A3 a b c-A3 a b d)):=by
 have h2:A3 a b c-A3 a b d = -(A3 c d a-A3 c d b):=by simp only [A3];grind
 have h4:A3 c d a-A3 c d b≠0:=by grind
 rw [h2]
 generalize hN:A3 c d a-A3 c d b=N at *
 simp only [pat,Prod.mk.injEq]
 have e1:(a.1-c.1)*N+(b.1-a.1)*A3 c d a+(d.1-c.1)*A3 a b c=0:=by rw [<- hN];simp only [A3];grind
 have e2:(a.2-c.2)*N+(b.2-a.2)*A3 c d a+(d.2-c.2)*A3 a b c=0:=by rw [<- hN];simp only [A3];grind
 generalize A3 c d a=u at *
 generalize A3 a b c=w at *
 constructor<;>grind
theorem qD {a b c d:Pq} (hne:A3 c d a≠A3 c d b) (h1:¬ P4 (A3 c d a) (A3 c d b)) (h2:¬ P4 (A3 a b c) (A3 a b d)) (p:Pq) :
 InS a b p/\InS c d p ↔ p=pat a b (A3 c d a / (A3 c d a-A3 c d b)):=by
 constructor
 · exact cross_only hne
 · rintro rfl
   refine ⟨⟨_,(cE h1 hne).1,(cE h1 hne).2,rfl⟩, ?_⟩
   rw [cut_other hne]
   have hne2:A3 a b c≠A3 a b d:=fun e=>hne (by
    have h2:A3 a b c-A3 a b d = -(A3 c d a-A3 c d b):=by simp only [A3];grind
    grind)
   exact ⟨_,(cE h2 hne2).1,(cE h2 hne2).2,rfl⟩
noncomputable def btw (p q:Pq):List Pq:=open Classical in if p=q then [p] else [p,q]
noncomputable def aM (a b c d:Pq):List Pq:=open Classical in
 if ple (I7 (lo a b) (lo c d)) (I6 (hi a b) (hi c d)) then
  if P4 (A3 a b c) (A3 a b d) then [] else
  if P4 (A3 c d a) (A3 c d b) then [] else
  if A3 c d a=0/\A3 c d b=0 then btw (I7 (lo a b) (lo c d)) (I6 (hi a b) (hi c d)) else
   btw (pat a b (A3 c d a / (A3 c d a-A3 c d b))) (pat a b (A3 c d a / (A3 c d a-A3 c d b)))
 else []
theorem told_btw {p q:Pq} {S:Pq->Prop} (hle:ple p q) (h:∀ r,S r ↔ InS p q r):Told (btw p q) S:=by
 unfold btw
 by_cases hpq:p=q
 · rw [if_pos hpq];subst hpq;exact .one p fun r=>(h r).trans fE
 · rw [if_neg hpq];exact .two p q (plt_of hle hpq) h
theorem meetP_told (a b c d:Pq):Told (aM a b c d) (fun p=>InS a b p/\InS c d p):=by
 unfold aM
 by_cases hm:ple (I7 (lo a b) (lo c d)) (I6 (hi a b) (hi c d))
 · rw [if_pos hm]
   by_cases h1:P4 (A3 a b c) (A3 a b d)
   · rw [if_pos h1];exact .none fun p hp=>aside_no h1 p ⟨hp.2,hp.1⟩
   · rw [if_neg h1]
     by_cases h2:P4 (A3 c d a) (A3 c d b)
     · rw [if_pos h2];exact .none fun p hp=>aside_no h2 p hp
     · rw [if_neg h2]
       by_cases h3:A3 c d a=0/\A3 c d b=0
       · rw [if_pos h3]
         refine told_btw hm fun p=>meet_line ?_ ?_ h3.1 h3.2 hm p
         all_goals
          have e:A3 a b c=A3 a b d:=by
           have h2:A3 a b c-A3 a b d = -(A3 c d a-A3 c d b):=by simp only [A3];grind
           grind
          rw [e] at h1
          unfold P4 at h1
          have:A3 a b d=0:=by grind
          first | exact e.trans this | exact this
       · rw [if_neg h3]
         have hne:A3 c d a≠A3 c d b:=by
          intro e
          rw [e] at h2 h3
          unfold P4 at h2
          exact h3 (by grind)
         refine told_btw (bD _) fun p=>?_
         rw [fE]
         exact qD hne h2 h1 p
 · rw [if_neg hm]
   refine .none fun p hp=>hm ?_
   have h1:=ins_prog.1 hp.1
   have h2:=ins_prog.1 hp.2
   exact X3 (pmax_le.2 ⟨h1.1,h2.1⟩) (le_pmin.2 ⟨h1.2.1,h2.2.1⟩)
noncomputable def mT (a b c d:Pq):List Pq:=open Classical in
 if A3 c d a<0/\A3 c d b<0 then [] else
 if A3 c d a<0 then btw (pat a b (A3 c d a / (A3 c d a-A3 c d b))) b else
 if A3 c d b<0 then btw a (pat a b (A3 c d a / (A3 c d a-A3 c d b))) else btw a b
theorem btw_self (p:Pq):btw p p=[p]:=by unfold btw;rw [if_pos rfl]
theorem pcmp_zero {p q:Pq} : H6 p q=0 ↔ p=q:=by
 unfold H6
 constructor
 · intro h
   split at h
   · rename_i h1;exact Prod.ext (rcmp_zero.1 h1) (rcmp_zero.1 h)
   · contradiction
 · rintro rfl;rw [if_pos (gI _)];exact gI _
theorem dS (r:Rat):rsg r = -1\/rsg r=0\/rsg r=1:=by
 unfold rsg
 rcases Int.lt_trichotomy r.num 0 with h | h | h
 · left;exact Int.sign_eq_neg_one_of_neg h
 · right;left;rw [h];rfl
 · right;right;exact Int.sign_eq_one_of_pos h
theorem aside_iff {u v:Rat} : 0<rsg u*rsg v ↔ P4 u v:=by
 unfold P4
 rw [<- rsg_pos, <- rsg_pos, <- rC, <- rC]
 rcases dS u with h | h | h<;>rcases dS v with h' | h' | h'<;>rw [h,h']<;>simp
end Go.Proofs.YtamdnbbgpacfkaaDoor.PM
namespace Go.Proofs.YtamdnbbgpacfkaaDoor
open Go.RowKit Mat Ex
def sT (R:ByteArray->Prop):Sp := .of (.one) (fun v _=>∃ s,v = .string s/\R s) (fun v W h=>by obtain ⟨s,rfl,_⟩:=h;exact ⟨fun _ => .string s,fun _=>rfl,rfl⟩) (fun _ _ _ _ h=>h)
section
variable {P:Program} {f:FuncId} {args:Array Value} {W:World}
theorem toT {R:ByteArray->Prop} (h:Calls P f args W (fun e w'=>∃ s,e = .returned (.string s)/\R s/\W.grownBy w' none)):Calls P f args W (Ret W (sT R).F):=
 h.mono fun _ _ ⟨s,a,h,g⟩=>⟨_,a,⟨s,rfl,h⟩,g⟩
end
theorem Z3 (w:World) (va:Value) (r:Rat) (K:Nat) (Ha:RatV w va r) (hK:K<=800000) (ln:r.num.natAbs<B^K) (ld:r.den<B^K) :
 Calls Tryd.prog 10 #[va] w (S2 w (-r)):=by
 refine A6 B3 Tryd.func10 [sQ r] [sI (-r.num),sI (dn r)] (.cons Ha .nil) (rs:=[cl 1 29 [ag 2 0],cl 2 30 [.v true [.an 0 2,.an 0 3]]]) (out := .v true [.an 1 0,.an 1 1,.an 2 0,.an 2 1]) (nc:=3) (by kernel_rfl)
  ⟨fun σ W g h hb=>V2 W _ _ K (qn (h 0 rfl)) (by omega) ln,
  fun σ W g h hb=>Q7 W _ _ K (qd (h 0 rfl)) hK (dn_bd ld),
  trivial⟩ fun τ W g h=>⟨_,rfl,mkq (show IntV W _ (-r.num) from h 1 rfl) (by rw [dn_neg];exact h 2 rfl),g⟩
end Go.Proofs.YtamdnbbgpacfkaaDoor
namespace Go.Proofs.YtamdnbbgpacfkaaDoor
open Go.RowKit Mat
def decB (l:List Nat):Bool:=l.all (fun d=>Nat.ble 48 d && Nat.ble d 57) && (l == [48] || (!l.isEmpty && l.head? != some 48))
theorem dec_of {l:List Nat} (h:decB l=true):sY l:=by
 unfold decB at h
 simp only [Bool.and_eq_true,Bool.or_eq_true,List.all_eq_true] at h
 obtain ⟨h1,h2⟩:=h
 refine ⟨fun k hk=>?_, ?_⟩
 · have:=h1 _ (List.getElem_mem hk)
   simpa using this
 · rcases h2 with h2 | h2
   · left;simpa using h2
   · right;simpa using h2
def RetZText (w:World) (z:Int) (e:Ending) (w':World):Prop:=∃ s,e = .returned (.string s)/\G5 s z/\w.grownBy w' none
theorem dM {s t:ByteArray} {z:Int} (hs:G5 s z) (ht:G5 t z):s=t:=by
 obtain ⟨l,hl,vl,el⟩:=hs
 obtain ⟨m,hm,vm,em⟩:=ht
 have:l=m:=dec_uniqL hl hm (vl.trans vm.symm)
 subst this
 exact bts_inj (el.trans em.symm)
theorem eC (w:World) (va:Value) (z:Int) (K:Nat) (ha:IntV w va z) (hK:K<=900000) (la:z.natAbs<B^K) :
 Calls Tryd.prog 81 #[va] w (RetZText w z):=ZText_any w va z K ha hK la
theorem T5 {s:ByteArray} {z:Int} {K:Nat} (h:G5 s z) (la:z.natAbs<B^K):s.size<=20*K+2:=by
 obtain ⟨l,hl,vl,el⟩:=h
 have h1:l.length<=20*K+1:=by
  refine dec_len hl ?_ (by omega)
  rw [vl]
  refine Nat.lt_of_lt_of_le la ?_
  have q1:B^K<=(10^20)^K:=Nat.pow_le_pow_left (by decide) K
  rw [<- Nat.pow_mul] at q1
  exact Nat.le_trans q1 (Nat.pow_le_pow_right (by omega) (by omega))
 have h2:=congrArg List.length el
 rw [bts_len] at h2
 rw [h2]
 split
 · rw [List.length_cons];omega
 · omega
def Q9 (s:ByteArray) (r:Rat):Prop:=(r.den=1/\G5 s r.num)\/(r.den≠1 /\ ∃ p q:ByteArray,G5 p r.num/\G5 q (r.den:Int)/\s=p ++ { data := #[47] } ++ q)
theorem kV {s t:ByteArray} {r:Rat} (hs:Q9 s r) (ht:Q9 t r):s=t:=by
 rcases hs with ⟨h1,h2⟩ | ⟨h1,p,q,h2,h3,h4⟩
 · rcases ht with ⟨g1,g2⟩ | ⟨g1,_⟩
   · exact dM h2 g2
   · exact absurd h1 g1
 · rcases ht with ⟨g1,g2⟩ | ⟨g1,p',q',g2,g3,g4⟩
   · exact absurd g1 h1
   · rw [h4,g4,dM h2 g2,dM h3 g3]
def RetRText (w:World) (r:Rat) (e:Ending) (w':World):Prop:=∃ s,e = .returned (.string s)/\Q9 s r/\w.grownBy w' none
end Go.Proofs.YtamdnbbgpacfkaaDoor
namespace Go.Proofs.YtamdnbbgpacfkaaDoor
open Go.RowKit Mat Ex
theorem fO {P:Program} {ρ : Operand->Value} {o:Oper} {t t':TypeId} {x y:Operand} {s u:ByteArray} {W:World} (ho:o.op = .binOp .add t x y t') (hx : ρ x = .string s) (hy : ρ y = .string u) (h:s.size+u.size<=9223372036854775807) :
 (execOp ρ o).run P W = .ok (.value (.string (s++u))) W:=by
 have hg:eqGuard .add t x y (.string s) (.string u)=pure ():=by unfold eqGuard;rfl
 have hb:binOp .add t (.string s) (.string u)=Op.stringOp .add s u:=by simp [binOp]
 simp only [execOp,ho,hx,hy,hg,hb,Sem.run_bind,Sem.run_pure,Result.andThen_ok,run_string_add_sum W s u h]
theorem qR (w:World) (va:Value) (r:Rat) (K:Nat) (Ha:RatV w va r) (hK:K<=800000) (ln:r.num.natAbs<B^K) (ld:r.den<B^K) :
 Calls Tryd.prog 54 #[va] w (RetRText w r):=by
 by_cases h1:r.den=1
 · skip
   refine A6 B3 Tryd.func54 [sQ r] [sV (.bool true),sT (fun s=>G5 s r.num)] (.cons Ha .nil) (rs:=[cl 1 25 [ag 4 0],cl 2 81 [ag 2 0]]) (out:=on 2) (nc:=3) (by kernel_rfl)
    ⟨fun σ W g h hb=>toV (C3 W _ r K (h 0 rfl) (by omega) ld) (by rw [decide_eq_true h1]),
    fun σ W g h hb=>toT (eC W _ r.num K (qn (h 0 rfl)) (by omega) ln),
    trivial⟩ fun τ W g h=>by
     obtain ⟨s,e,hs⟩:=h 2 rfl
     exact ⟨s,congrArg Ending.returned e,Or.inl ⟨h1,hs⟩,g⟩
 · skip
   refine A6 B3 Tryd.func54 [sQ r] [sV (.bool false),sT (fun s=>G5 s r.num),sT (fun s=>∃ p,G5 p r.num/\s=p ++ { data := #[47] }),sT (fun s=>G5 s (r.den:Int)),sT (fun s=>Q9 s r)] (.cons Ha .nil) (rs:=[cl 1 25 [ag 4 0],cl 2 81 [ag 2 0],co 3 (.binOp .add 9 (.tmp 10) (.const (.string ({ data := #[47] }))) 9) 9 [on 2,.v false [.lit (.string ({ data := #[47] }))]] [0,1,2] [],cla 4 81 [.v true [.an 0 2,.an 0 3]] [0,1,2],co 5 (.binOp .add 9 (.tmp 11) (.tmp 14) 9) 9 [on 3,on 4] [0,1,2,3,4] []]) (out:=on 5) (nc:=6) (by kernel_rfl)
    ⟨fun σ W g h hb=>toV (C3 W _ r K (h 0 rfl) (by omega) ld) (by rw [decide_eq_false h1]),
    fun σ W g h hb=>toT (eC W _ r.num K (qn (h 0 rfl)) (by omega) ln),
    fun σ W g h hb=>fun ρ o ho _ hv=>by
     obtain ⟨s,es,hs⟩:=h 2 rfl
     have hl:=T5 hs ln
     exact ⟨_,fO ho ((A1 hv).1.trans es) (A1 hv).2 (by have:ByteArray.size { data := #[47] } = 1:=rfl;omega),_,rfl,s,hs,rfl⟩,
    fun σ W g h hb=>toT (eC W _ (r.den:Int) K (jV h1 ▸ qd (h 0 rfl)) (by omega) (ldi ld)),
    fun σ W g h hb=>fun ρ o ho _ hv=>by
     obtain ⟨s,es,p,hp,rfl⟩:=h 3 rfl
     obtain ⟨t,et,ht⟩:=h 4 rfl
     have hl:=T5 hp ln
     have hm:=T5 ht (ldi ld)
     have h47:ByteArray.size { data := #[47] } = 1:=rfl
     exact ⟨_,fO ho ((A1 hv).1.trans es) ((A1 hv).2.trans et) (by rw [ByteArray.size_append];omega),_,rfl,Or.inr ⟨h1,p,t,hp,ht,rfl⟩⟩,
    trivial⟩ fun τ W g h=>by
     obtain ⟨s,e,hs⟩:=h 5 rfl
     exact ⟨s,congrArg Ending.returned e,hs,g⟩
theorem FDiv_any (w:World) (va vb:Value) (r t:Rat) (K:Nat) (Ha:RatV w va r) (Hb:RatV w vb t) (hK:K<=300000) (ln:r.num.natAbs<B^K) (ld:r.den<B^K) (mn:t.num.natAbs<B^K) (md:t.den<B^K) (hTab:Tab w) :
 Calls Tryd.prog 34 #[va,vb] w (cY w (r / t) (if t=0 then 5 else 0)):=by
 rcases eE t.num with ⟨h0,hs⟩ | ⟨h0,hs⟩ | ⟨h0,hs⟩
 · skip
   have ht:t≠0:=fun e=>by rw [e] at h0;simp at h0
   rw [if_neg ht,Rat.div_def]
   have hp:=rinv_neg t h0
   have n1:(t⁻¹).num.natAbs<B^K:=by rw [hp.1,Int.natAbs_neg,Int.natAbs_natCast];exact md
   have n2:(t⁻¹).den<B^K:=by have h:=congrArg Int.natAbs hp.2;rw [Int.natAbs_natCast,Int.natAbs_neg] at h;omega
   refine A6 B3 Tryd.func34 [sQ r,sQ t] [sI (t.den:Int),sV (.int .i64 (-1)),sI (-(t.den:Int)),sI (-t.num),sI (r.den:Int),sQ (r*t⁻¹)] (.cons Ha (.cons Hb .nil)) (rs:=[cl 2 28 [ag 4 1],cl 3 51 [ag 4 1],cl 4 29 [ag 2 2],cl 5 29 [ag 2 1],cl 6 28 [ag 4 0],cl 7 65 [ag 2 0,ag 2 6,ag 2 4,ag 2 5]]) (out := .tup [(true,[.an 7 0,.an 7 1,.an 7 2,.an 7 3]),(false,[.lit (.int .i64 0)])]) (nc:=8) (by kernel_rfl)
    ⟨fun σ W g h hb=>D4 W _ t K (h 1 rfl) (by omega) md,
    fun σ W g h hb=>toV (D5 W _ t K (h 1 rfl) (by omega) mn) (by rw [hs]),
    fun σ W g h hb=>V2 W _ _ K (h 2 rfl) (by omega) (ldi md),
    fun σ W g h hb=>V2 W _ _ K (qn (h 1 rfl)) (by omega) mn,
    fun σ W g h hb=>D4 W _ r K (h 0 rfl) (by omega) ld,
    fun σ W g h hb=>T4 W _ _ _ _ r t⁻¹ K (qn (h 0 rfl)) (h 6 rfl) (hp.1 ▸ h 4 rfl) (hp.2 ▸ h 5 rfl) hK ln ld n1 n2 (hTab.kept g (by simp)),
    trivial⟩ fun τ W g h=>⟨_,rfl,h 7 rfl,g⟩
 · skip
   have ht:t=0:=Rat.num_eq_zero.1 h0
   rw [if_pos ht,ht,Rat.div_def,Rat.inv_zero,Rat.mul_zero]
   refine A6 B3 Tryd.func34 [sQ r,sQ t] [sI (t.den:Int),sV (.int .i64 0)] (.cons Ha (.cons Hb .nil)) (rs:=[cl 2 28 [ag 4 1],cl 3 51 [ag 4 1]]) (out := .tup [(true,[.lit (.slice none 0 0),.lit (.bool false),.lit (.slice none 0 0),.lit (.bool false)]),(false,[.lit (.int .i64 5)])]) (nc:=4) (by kernel_rfl)
    ⟨fun σ W g h hb=>D4 W _ t K (h 1 rfl) (by omega) md,
    fun σ W g h hb=>toV (D5 W _ t K (h 1 rfl) (by omega) mn) (by rw [hs]),
    trivial⟩ fun τ W g h=>⟨_,rfl,RatV.zero W,g⟩
 · skip
   have ht:t≠0:=fun e=>by rw [e] at h0;simp at h0
   rw [if_neg ht,Rat.div_def]
   have hp:=rinv_pos t h0
   have n1:(t⁻¹).num.natAbs<B^K:=by rw [hp.1,Int.natAbs_natCast];exact md
   have n2:(t⁻¹).den<B^K:=by have h:=congrArg Int.natAbs hp.2;rw [Int.natAbs_natCast] at h;omega
   refine A6 B3 Tryd.func34 [sQ r,sQ t] [sI (t.den:Int),sV (.int .i64 1),sI (r.den:Int),sQ (r*t⁻¹)] (.cons Ha (.cons Hb .nil)) (rs:=[cl 2 28 [ag 4 1],cl 3 51 [ag 4 1],cl 4 28 [ag 4 0],cl 5 65 [ag 2 0,ag 2 4,ag 2 2,ag 2 1]]) (out := .tup [(true,[.an 5 0,.an 5 1,.an 5 2,.an 5 3]),(false,[.lit (.int .i64 0)])]) (nc:=6) (by kernel_rfl)
    ⟨fun σ W g h hb=>D4 W _ t K (h 1 rfl) (by omega) md,
    fun σ W g h hb=>toV (D5 W _ t K (h 1 rfl) (by omega) mn) (by rw [hs]),
    fun σ W g h hb=>D4 W _ r K (h 0 rfl) (by omega) ld,
    fun σ W g h hb=>T4 W _ _ _ _ r t⁻¹ K (qn (h 0 rfl)) (h 4 rfl) (hp.1 ▸ h 2 rfl) (hp.2 ▸ qn (h 1 rfl)) hK ln ld n1 n2 (hTab.kept g (by simp)),
    trivial⟩ fun τ W g h=>⟨_,rfl,h 5 rfl,g⟩
end Go.Proofs.YtamdnbbgpacfkaaDoor
namespace Go.Proofs.YtamdnbbgpacfkaaDoor
open Go.RowKit Mat Ex PM
theorem Bn.inv {K:Nat} {r:Rat} (h:Bn K r) (hK : 1<=K):Bn K r⁻¹:=by
 rcases eE r.num with ⟨h0,_⟩ | ⟨h0,_⟩ | ⟨h0,_⟩
 · have e:=rinv_neg r h0
   exact ⟨by rw [e.1,Int.natAbs_neg,Int.natAbs_natCast];exact h.2,by have e2:=congrArg Int.natAbs e.2;rw [Int.natAbs_natCast,Int.natAbs_neg] at e2;rw [e2];exact h.1⟩
 · have:r=0:=Rat.num_eq_zero.1 h0
   rw [this,Rat.inv_zero]
   exact ⟨Nat.pow_pos E5,Nat.one_lt_pow (by omega) (by unfold B;omega)⟩
 · have e:=rinv_pos r h0
   exact ⟨by rw [e.1,Int.natAbs_natCast];exact h.2,by have e2:=congrArg Int.natAbs e.2;rw [Int.natAbs_natCast] at e2;rw [e2];exact h.1⟩
theorem Bn.div {K:Nat} {r t:Rat} (h:Bn K r) (h':Bn K t) (hK : 1<=K):Bn (K+K) (r / t):=by rw [Rat.div_def];exact h.mul (h'.inv hK)
theorem Bp.onl {K M:Nat} {a b:Pq} {t:Rat} (ha:Bp K a) (hb:Bp K b) (ht:Bn M t) (hK : 2*K+1<=M):Bp (4*M+1) (pat a b t):=
 ⟨((ha.1.mono (by omega)).add (((hb.1.sub ha.1).mono (by omega)).mul ht)).mono (by omega),((ha.2.mono (by omega)).add (((hb.2.sub ha.2).mono (by omega)).mul ht)).mono (by omega)⟩
theorem Bp.cut {K:Nat} {a b c d:Pq} (ha:Bp K a) (hb:Bp K b) (hc:Bp K c) (hd:Bp K d):Bp (128*K+100) (pat a b (A3 c d a / (A3 c d a-A3 c d b))):=
 by
 have h1:Bn (16*K+11) (A3 c d a):=(hc.cross hd ha).mono (by omega)
 have h2:Bn (16*K+11) (A3 c d a-A3 c d b):=((hc.cross hd ha).sub (hc.cross hd hb)).mono (by omega)
 have h3:Bn (32*K+22) (A3 c d a / (A3 c d a-A3 c d b)):=(h1.div h2 (by omega)).mono (by omega)
 exact (Bp.onl ha hb h3 (by omega)).mono (by omega)
def sQQ (r t:Rat):Sp := .of (.tup [(none,5),(none,5)]) (fun v W=>∃ u s,v = .tuple #[u,s]/\RatV W u r/\RatV W s t) (fun v W h=>by
 obtain ⟨u,t,rfl,⟨s,xs,b,s',xs',b',rfl,_⟩,z,ys,c,z',ys',c',rfl,_⟩:=h
 exact Y4 (u := .bool true) (cs:=[.slice s xs.length xs.length,.bool b,.slice s' xs'.length xs'.length,.bool b',.slice z ys.length ys.length,.bool c,.slice z' ys'.length ys'.length,.bool c']) (by simp [Value.oneCell']) rfl) (fun v W W' k h=>by obtain ⟨u,t,e,h,h'⟩:=h;exact ⟨u,t,e,h.keeps k,h'.keeps k⟩)
theorem qq1 {r t:Rat} {a b:Value} {W:World} : (sQQ r t).F (.tuple #[a,b]) W->RatV W a r:=by rintro ⟨u,s,e,h,_⟩;cases e;exact h
theorem qq2 {r t:Rat} {a b:Value} {W:World} : (sQQ r t).F (.tuple #[a,b]) W->RatV W b t:=by rintro ⟨u,s,e,_,h⟩;cases e;exact h
def RetQQ (w:World) (r t:Rat) (e:Ending) (w':World):Prop:=∃ v u,e = .returned (.tuple #[v,u])/\RatV w' v r/\RatV w' u t/\w.grownBy w' none
section
variable {P:Program} {f:FuncId} {args:Array Value} {W:World}
theorem fZ {r t:Rat} (h:Calls P f args W (RetQQ W r t)):Calls P f args W (Ret W (sQQ r t).F):=h.mono fun _ _ ⟨v,u,a,h,h',g⟩=>⟨_,a,⟨v,u,rfl,h,h'⟩,g⟩
end
def AtV (w:World) (v:Value) (p:Pq):Prop:=∃ b off cs,v = .pointer (some ⟨b,off,none⟩)/\w.heap[b]?=some (.cells cs 33 (0,0))/\PAt w cs off p
def sAt (p:Pq):Sp where
 sh := .one
 F v W:=AtV W v p
 fits v W h:=by obtain ⟨b,off,cs,rfl,_⟩:=h;exact ⟨fun _ => .pointer (some ⟨b,off,none⟩),fun _=>rfl,rfl⟩
 row:=true
 fp v _ q:=fpP v q
 lasts v W W' k hq h:=by
  obtain ⟨b,off,cs,rfl,hb,hc⟩:=h
  exact ⟨⟨b,off,cs,rfl,by rw [hq b ⟨off,rfl⟩];exact hb,hc.keeps k⟩,fun _ h=>h⟩
 inb v W h q hq:=by
  obtain ⟨b,off,cs,rfl,hb,hc⟩:=h
  obtain ⟨o,e⟩:=hq
  cases e;exact (Array.getElem?_eq_some_iff.1 hb).1
 flat h:=by cases h
section
variable {P:Program} {ρ : Operand->Value} {o:Oper} {W:World}
theorem Z8 {t:TypeId} {x:Operand} {v:Value} {l:List Pq} (h:PtsV W v l) (ho:o.op = .call ⟨.builtin .len, #[x], #[t]⟩) (hx : ρ x=v) (hu:∃ el,Tryd.prog.underlying t=some (.slice el)) :
 (execOp ρ o).run Tryd.prog W = .ok (.value (.int .i64 l.length)) W:=by
 obtain ⟨s,n,c,rfl,hl,hn,h⟩:=h
 obtain ⟨el,hu⟩:=hu
 simp [execOp,ho,resolve,invoke,builtin,Builtin.len_,run_underlying hu W,hx,goInt,hl]
theorem gJ {x y:Operand} {v:Value} {l:List Pq} (h:PtsV W v l) (ho:o.op = .indexAddr 40 x y) (hx : ρ x=v) (k:Nat) (hk:k<l.length) (hy : ρ y = .int .i64 k) :
 ∃ u,(execOp ρ o).run Tryd.prog W = .ok (.value u) W/\AtV W u l[k] /\ ∀ q,fpP u q->fpS v q:=by
 obtain ⟨s,n,c,rfl,hl,hn,h⟩:=h
 obtain ⟨b,off,cs,rfl,hb,hc⟩:=h.resolve_left (fun e=>by rw [e] at hk;simp at hk)
 have hu:Tryd.prog.underlying 40=some (.slice 33):=by kernel_rfl
 have hz:I3 Tryd.prog 33=some 8:=by kernel_rfl
 obtain ⟨m,rfl⟩:∃ m,n=m+1:=⟨n-1,by omega⟩
 have hk':(0:Int)<=(k:Int)/\(k:Int)<((m+1:Nat):Int):=by omega
 refine ⟨.pointer (some ⟨b,off+8*k,none⟩), ?_,⟨b,off+8*k,cs,rfl,hb,hc k hk⟩,fun q ⟨o',e⟩=>by cases e;exact ⟨off,m,c,rfl⟩⟩
 simp only [execOp,ho,hx,hy,Instr.indexAt,asIntOf,Sem.run_bind,Sem.run_pure,run_underlying hu W,Result.andThen_ok,hk',and_self,if_true,C6 Tryd.prog hz W,Instr.sureAddr,Addr.add_mid]
 rw [show (k:Int).toNat*8=8*k by omega]
theorem X1 {x:Operand} {v:Value} {p:Pq} (h:AtV W v p) (ho:o.op = .load 33 x) (hx : ρ x=v) :
 ∃ u,(execOp ρ o).run Tryd.prog W = .ok (.value u) W/\PtV W u p:=by
 obtain ⟨q,off,cs,rfl,hb,a,b,c,d,e,f,g,i,h1,h2,h3,h4,h5,h6,h7,h8,hp⟩:=h
 refine ⟨_, ?_,hp⟩
 have ha:iC Tryd.prog 33=some true:=by kernel_rfl
 have hz:I3 Tryd.prog 33=some 8:=by kernel_rfl
 have hl:(loadCells ⟨q,off,none⟩ [a,b,c,d,e,f,g,i].length).run Tryd.prog W = .ok [a,b,c,d,e,f,g,i].toArray W:=
  run_loadCells_list (P:=Tryd.prog) W ⟨q,off,none⟩ _ fun j v hv=>by
   rw [Addr.add_mid]
   simp only [World.cell?,hb]
   match j,hv with
   | 0,hv=>cases hv;simpa using h1
   | 1,hv=>cases hv;simpa using h2
   | 2,hv=>cases hv;simpa using h3
   | 3,hv=>cases hv;simpa using h4
   | 4,hv=>cases hv;simpa using h5
   | 5,hv=>cases hv;simpa using h6
   | 6,hv=>cases hv;simpa using h7
   | 7,hv=>cases hv;simpa using h8
   | n+8,hv=>simp at hv
 simp only [execOp,ho,hx,Instr.loadAt,Instr.sureAddr,loadVar,Sem.run_bind,Sem.run_pure,Result.andThen_ok,K8 Tryd.prog ha W,C6 Tryd.prog hz W,if_true]
 simp only [List.length_cons,List.length_nil] at hl
 rw [hl];rfl
end
end Go.Proofs.YtamdnbbgpacfkaaDoor
