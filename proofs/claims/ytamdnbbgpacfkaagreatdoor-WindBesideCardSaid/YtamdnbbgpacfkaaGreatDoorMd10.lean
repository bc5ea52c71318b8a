/- What the laws lean on, part 10. -/
import Derived.BigQuiet
import Derived.BigRegion
import Derived.Deep.AppendLies
import Derived.Deep.CutBlock
import Derived.Deep.CutRange
import Derived.Deep.DeepCutAuto
import Derived.Deep.LoopGhost
import Derived.Deep.QuietTactic
import Derived.Deep.RegionHeld3
import Derived.Laws.CopyOwn
import Derived.Laws.Externs
import Derived.Laws.IdiomStrings
import Derived.Lib.BitFns
import Derived.Lib.Hide
import Derived.Lib.Slices
import Derived.Lib.Small
import Derived.Lib.Strings
import Derived.Lib.Walk
import Derived.Outline
import Derived.OwnWalk
import Derived.Shelf.Bits.Mul64
import Derived.StillTailTactics
import Derived.WalkKit
import Derived.WalkLawsBesides
import Derived.WalkSpells
import Derived.Test.YtamdnbbgpacfkaaGreatDoorProg
import Derived.Test.YtamdnbbgpacfkaaGreatDoorMd5
set_option linter.unusedVariables false
set_option linter.unusedSimpArgs false
set_option maxRecDepth 100000
namespace Go.Proofs.YtamdnbbgpacfkaaGreatDoor
open Go.RowKit Mat
theorem aA {v t s c x y d c' p:Nat} (h:v+t=s+c*p) (hd:d+y+c=x+c'*D):v+p*d+(t+p*y)=s+p*x+c'*(p*D):=by
 have h2:p*(d+y+c)=p*(x+c'*D):=by rw [hd]
 rw [Nat.mul_add,Nat.mul_add,Nat.mul_add] at h2
 have h3:p*(c'*D)=c'*(p*D):=by grind
 have h4:p*c=c*p:=Nat.mul_comm _ _
 omega
set_option maxHeartbeats 8000000 in
theorem pF (w:World) (va vb:Value) (a b:Nat) (ha:RefV w va a) (hb:RefV w vb b) (hle:b<=a) (ba:a<D^1000000) :
 Calls Tryz.prog 138 #[va,vb] w (X3 w (a-b)):=by
 have bb:b<D^1000000:=Nat.lt_of_le_of_lt hle ba
 obtain ⟨sa,n,cx,xs,rfl,hn,hnc,hx,tx,dx,rfl⟩:=ha
 obtain ⟨sb,m,cy,ys,rfl,hm,hmc,hy,ty,dy,rfl⟩:=hb
 have Hn:=Lib.hid hn
 have Hm:=Lib.hid hm
 have Hle:=Lib.hid hle
 have hn6:n<=1000000:=rlen tx hn ba
 have hm6:m<=1000000:=rlen ty hm bb
 have hmn:m<=n:=by
  rcases Nat.lt_or_ge n m with h | h
  · have:=G9 D bX xs ys dx ty (by rw [hn,hm];exact h)
    omega
  · exact h
 obtain ⟨i1,hi,hz0,hz1,hz2⟩:=V6
 have hgw0:w.grownBy (((w.alloc (.cells #[.slice sa n cx] 30)).alloc (.cells #[.slice sb m cy] 30)).alloc (.cells #[.slice none 0 0] 30)) none:=A7 (A7 (World.grownBy_alloc _ _ _) _) _
 have hboxr:=A8 ((w.alloc (.cells #[.slice sa n cx] 30)).alloc (.cells #[.slice sb m cy] 30)) (.cells #[.slice none 0 0] 30) (w.heap.size+1+1) (by simp)
 have hboxb:=(Below.heap_alloc _ (.cells #[.slice none 0 0] 30) (w.heap.size+1) (by simp)).trans (A8 (w.alloc (.cells #[.slice sa n cx] 30)) (.cells #[.slice sb m cy] 30) (w.heap.size+1) (by simp))
 have hboxa:=((Below.heap_alloc _ (.cells #[.slice none 0 0] 30) w.heap.size (by simp;omega)).trans (Below.heap_alloc _ (.cells #[.slice sb m cy] 30) w.heap.size (by simp))).trans (A8 w (.cells #[.slice sa n cx] 30) w.heap.size rfl)
 have hs0:(((w.alloc (.cells #[.slice sa n cx] 30)).alloc (.cells #[.slice sb m cy] 30)).alloc (.cells #[.slice none 0 0] 30)).heap.size=w.heap.size+1+1+1:=by simp
 obtain ⟨N,hN⟩:∃ N,N=w.heap.size+1+1+1:=⟨_,rfl⟩
 have hx0:=hx.kept hgw0
 have hy0:=hy.kept hgw0
 clear hn hm ba bb hx hy hle
 go_enter Tryz.func138,Tryz.ntmps138
 go_wp2_with fail
 generalize (((w.alloc (.cells #[.slice sa n cx] 30)).alloc (.cells #[.slice sb m cy] 30)).alloc (.cells #[.slice none 0 0] 30))=w0 at *
 go_loopg [5,6,7] n (fun gh s c i wr=>∃ (k bo:Nat) (sl:Option Addr) (cl:Nat) (ds:List Nat),s = .slice sl k cl/\c = .int .i64 bo/\i = .int .i64 k/\bo<=1/\k<=n/\n-k<=gh/\wr.ownsRow N 3 1 (.slice sl k cl) k (ds.map iv)/\Hid (ds.length=k)/\Dig D ds/\Hid (val D ds+val D (ys.take k)=val D (xs.take k)+bo*D^k)/\Below N w0 wr)
 case atStart=>exact ⟨0,0,none,0,[],rfl,rfl,rfl,by omega,by omega,by omega,⟨rfl,Or.inl ⟨rfl,rfl⟩⟩,rfl,Dig.nil _,by show _=_;simp [val],Below.refl _ _⟩
 case round=>
  obtain ⟨k,bo,sl,cl,ds,rfl,rfl,rfl,hc1,hkn,hgh,hown,hdl,hdd,hv,hbl⟩:=hrel
  obtain ⟨ca,fa⟩:=B7 (K8 hbl hboxa (by omega))
  obtain ⟨cb,fb⟩:=B7 (K8 hbl hboxb (by omega))
  have hboxr1:=K8 hbl hboxr (by omega)
  obtain ⟨cr,fr⟩:=B7 hboxr1
  have hsr:N<=wr.heap.size:=by have:=hbl.size;omega
  have hxr:RRdo wr sa xs:=hx0.below hbl (by omega)
  have hyr:RRdo wr sb ys:=hy0.below hbl (by omega)
  by_cases hend:k<n
  · have f1:decide ((k:Int)<(n:Int))=true:=decide_eq_true (by omega)
    obtain ⟨x,hxk⟩:∃ x,xs.getD k 0=x:=⟨_,rfl⟩
    obtain ⟨y,hyk⟩:∃ y,ys.getD k 0=y:=⟨_,rfl⟩
    have hx4:x<10000:=hxk ▸ V7 dx k
    have hy4:y<10000:=hyk ▸ V7 dy k
    have HX:=Lib.hid hxk
    have HY:=Lib.hid hyk
    obtain ⟨b1,o1,rfl,cx1⟩:=jB hxr Hn.out k hend
    rw [hxk] at cx1
    clear hxk hyk hboxr1
    rcases Nat.lt_or_ge k m with hkm | hkm
    · obtain ⟨b2,o2,rfl,cy2⟩:=jB hyr Hm.out k hkm
      rw [HY.out] at cy2
      have f2:decide ((k:Int)<(m:Int))=true:=decide_eq_true (by omega)
      by_cases hs:x<bo+y
      · have t1:decide ((x:Int)-(bo:Int)-(y:Int)<0)=true:=decide_eq_true (by omega)
        obtain ⟨d,hd⟩:∃ d:Nat,(x:Int)-(bo:Int)-(y:Int)+10000=(d:Int):=⟨((x:Int)-(bo:Int)-(y:Int)+10000).toNat,by omega⟩
        obtain ⟨c2',hc2⟩:∃ c,c=1:=⟨_,rfl⟩
        have hd4:d<10000:=by omega
        have hvn:Hid (val D (ds++[d])+val D (ys.take (k+1))=val D (xs.take (k+1))+c2'*D^(k+1)):=by
         show _=_
         rw [G0,hdl.out,Nat.pow_succ,I9 xs,I9 ys,HX.out,HY.out]
         exact aA hv.out (by unfold D;omega)
        have hownA:=R2 hown (.cells #[iv d] 3)
        have hnews:∀ j u,([iv d]:List Value)[j]?=some u->(wr.alloc (.cells #[iv d] 3)).cell? ((⟨wr.heap.size,0,none⟩:Addr).add j)=some u:=World.news_of_block (heap_alloc_new wr _)
        have hsi:N<=(wr.alloc (.cells #[iv d] 3)).heap.size:=by simp;omega
        have hblA:Below N w0 (wr.alloc (.cells #[iv d] 3)):=hbl.trans (I7 (World.grownBy_alloc _ _ _) hsr)
        subst hc2
        clear hown hbl hv
        go_wp2_with (at_builtin;refine wpList_append_lies _ rfl _ _ _ rfl N 3 i1 (.int .i64 0) 1 8 Tryz.underlying28 hi hz0 hz1 hz2 rfl (by omega) (.slice sl k cl) k (ds.map iv) rfl hownA ⟨wr.heap.size,0,none⟩ 1 1 [iv d] rfl rfl hnews aE (by omega) (by unfold maxLen;omega) (by omega) hsi (wr.heap.size+1) (by simp) ?_;intro g2 cap2 w5 hown5 hgrow hat9 hlt9)
        have hbl5:=hblA.trans (N3 hownA hgrow hsi)
        have hmap:ds.map iv++[iv d]=(ds++[d]).map iv:=by rw [List.map_append];rfl
        rw [hmap] at hown5
        have hl5:Hid ((ds++[d]).length=k+1):=by show _=_;rw [List.length_append,hdl.out];rfl
        clear hgrow hownA hnews hblA hmap
        go_roundg (n-(k+1))
        case measure=>omega
        case rel=>exact ⟨k+1,1,_,cap2,ds++[d],rfl,rfl,by go_num,(by omega),by omega,by omega,hown5,hl5,hdd.snoc hd4,hvn,hbl5⟩
      · obtain ⟨d,hd⟩:∃ d:Nat,(x:Int)-(bo:Int)-(y:Int)=(d:Int):=⟨((x:Int)-(bo:Int)-(y:Int)).toNat,by omega⟩
        have t1:decide ((x:Int)-(bo:Int)-(y:Int)<0)=false:=decide_eq_false (by omega)
        have t2:decide ((d:Int)<0)=false:=decide_eq_false (by omega)
        obtain ⟨c2',hc2⟩:∃ c,c=0:=⟨_,rfl⟩
        have hd4:d<10000:=by omega
        have hvn:Hid (val D (ds++[d])+val D (ys.take (k+1))=val D (xs.take (k+1))+c2'*D^(k+1)):=by
         show _=_
         rw [G0,hdl.out,Nat.pow_succ,I9 xs,I9 ys,HX.out,HY.out]
         exact aA hv.out (by unfold D;omega)
        have hownA:=R2 hown (.cells #[iv d] 3)
        have hnews:∀ j u,([iv d]:List Value)[j]?=some u->(wr.alloc (.cells #[iv d] 3)).cell? ((⟨wr.heap.size,0,none⟩:Addr).add j)=some u:=World.news_of_block (heap_alloc_new wr _)
        have hsi:N<=(wr.alloc (.cells #[iv d] 3)).heap.size:=by simp;omega
        have hblA:Below N w0 (wr.alloc (.cells #[iv d] 3)):=hbl.trans (I7 (World.grownBy_alloc _ _ _) hsr)
        subst hc2
        clear hown hbl hv
        go_wp2_with (at_builtin;refine wpList_append_lies _ rfl _ _ _ rfl N 3 i1 (.int .i64 0) 1 8 Tryz.underlying28 hi hz0 hz1 hz2 rfl (by omega) (.slice sl k cl) k (ds.map iv) rfl hownA ⟨wr.heap.size,0,none⟩ 1 1 [iv d] rfl rfl hnews aE (by omega) (by unfold maxLen;omega) (by omega) hsi (wr.heap.size+1) (by simp) ?_;intro g2 cap2 w5 hown5 hgrow hat9 hlt9)
        have hbl5:=hblA.trans (N3 hownA hgrow hsi)
        have hmap:ds.map iv++[iv d]=(ds++[d]).map iv:=by rw [List.map_append];rfl
        rw [hmap] at hown5
        have hl5:Hid ((ds++[d]).length=k+1):=by show _=_;rw [List.length_append,hdl.out];rfl
        clear hgrow hownA hnews hblA hmap
        go_roundg (n-(k+1))
        case measure=>omega
        case rel=>exact ⟨k+1,0,_,cap2,ds++[d],rfl,rfl,by go_num,(by omega),by omega,by omega,hown5,hl5,hdd.snoc hd4,hvn,hbl5⟩
    · have y0:y=0:=by rw [<- HY.out];exact mQ Hm.out hkm
      have f2:decide ((k:Int)<(m:Int))=false:=decide_eq_false (by omega)
      by_cases hs:x<bo+y
      · have t1:decide ((x:Int)-(bo:Int)<0)=true:=decide_eq_true (by omega)
        obtain ⟨d,hd⟩:∃ d:Nat,(x:Int)-(bo:Int)+10000=(d:Int):=⟨((x:Int)-(bo:Int)+10000).toNat,by omega⟩
        obtain ⟨c2',hc2⟩:∃ c,c=1:=⟨_,rfl⟩
        have hd4:d<10000:=by omega
        have hvn:Hid (val D (ds++[d])+val D (ys.take (k+1))=val D (xs.take (k+1))+c2'*D^(k+1)):=by
         show _=_
         rw [G0,hdl.out,Nat.pow_succ,I9 xs,I9 ys,HX.out,HY.out]
         exact aA hv.out (by unfold D;omega)
        have hownA:=R2 hown (.cells #[iv d] 3)
        have hnews:∀ j u,([iv d]:List Value)[j]?=some u->(wr.alloc (.cells #[iv d] 3)).cell? ((⟨wr.heap.size,0,none⟩:Addr).add j)=some u:=World.news_of_block (heap_alloc_new wr _)
        have hsi:N<=(wr.alloc (.cells #[iv d] 3)).heap.size:=by simp;omega
        have hblA:Below N w0 (wr.alloc (.cells #[iv d] 3)):=hbl.trans (I7 (World.grownBy_alloc _ _ _) hsr)
        subst hc2
        clear hown hbl hv
        go_wp2_with (at_builtin;refine wpList_append_lies _ rfl _ _ _ rfl N 3 i1 (.int .i64 0) 1 8 Tryz.underlying28 hi hz0 hz1 hz2 rfl (by omega) (.slice sl k cl) k (ds.map iv) rfl hownA ⟨wr.heap.size,0,none⟩ 1 1 [iv d] rfl rfl hnews aE (by omega) (by unfold maxLen;omega) (by omega) hsi (wr.heap.size+1) (by simp) ?_;intro g2 cap2 w5 hown5 hgrow hat9 hlt9)
        have hbl5:=hblA.trans (N3 hownA hgrow hsi)
        have hmap:ds.map iv++[iv d]=(ds++[d]).map iv:=by rw [List.map_append];rfl
        rw [hmap] at hown5
        have hl5:Hid ((ds++[d]).length=k+1):=by show _=_;rw [List.length_append,hdl.out];rfl
        clear hgrow hownA hnews hblA hmap
        go_roundg (n-(k+1))
        case measure=>omega
        case rel=>exact ⟨k+1,1,_,cap2,ds++[d],rfl,rfl,by go_num,(by omega),by omega,by omega,hown5,hl5,hdd.snoc hd4,hvn,hbl5⟩
      · obtain ⟨d,hd⟩:∃ d:Nat,(x:Int)-(bo:Int)=(d:Int):=⟨((x:Int)-(bo:Int)).toNat,by omega⟩
        have t1:decide ((x:Int)-(bo:Int)<0)=false:=decide_eq_false (by omega)
        have t2:decide ((d:Int)<0)=false:=decide_eq_false (by omega)
        obtain ⟨c2',hc2⟩:∃ c,c=0:=⟨_,rfl⟩
        have hd4:d<10000:=by omega
        have hvn:Hid (val D (ds++[d])+val D (ys.take (k+1))=val D (xs.take (k+1))+c2'*D^(k+1)):=by
         show _=_
         rw [G0,hdl.out,Nat.pow_succ,I9 xs,I9 ys,HX.out,HY.out]
         exact aA hv.out (by unfold D;omega)
        have hownA:=R2 hown (.cells #[iv d] 3)
        have hnews:∀ j u,([iv d]:List Value)[j]?=some u->(wr.alloc (.cells #[iv d] 3)).cell? ((⟨wr.heap.size,0,none⟩:Addr).add j)=some u:=World.news_of_block (heap_alloc_new wr _)
        have hsi:N<=(wr.alloc (.cells #[iv d] 3)).heap.size:=by simp;omega
        have hblA:Below N w0 (wr.alloc (.cells #[iv d] 3)):=hbl.trans (I7 (World.grownBy_alloc _ _ _) hsr)
        subst hc2
        clear hown hbl hv
        go_wp2_with (at_builtin;refine wpList_append_lies _ rfl _ _ _ rfl N 3 i1 (.int .i64 0) 1 8 Tryz.underlying28 hi hz0 hz1 hz2 rfl (by omega) (.slice sl k cl) k (ds.map iv) rfl hownA ⟨wr.heap.size,0,none⟩ 1 1 [iv d] rfl rfl hnews aE (by omega) (by unfold maxLen;omega) (by omega) hsi (wr.heap.size+1) (by simp) ?_;intro g2 cap2 w5 hown5 hgrow hat9 hlt9)
        have hbl5:=hblA.trans (N3 hownA hgrow hsi)
        have hmap:ds.map iv++[iv d]=(ds++[d]).map iv:=by rw [List.map_append];rfl
        rw [hmap] at hown5
        have hl5:Hid ((ds++[d]).length=k+1):=by show _=_;rw [List.length_append,hdl.out];rfl
        clear hgrow hownA hnews hblA hmap
        go_roundg (n-(k+1))
        case measure=>omega
        case rel=>exact ⟨k+1,0,_,cap2,ds++[d],rfl,rfl,by go_num,(by omega),by omega,by omega,hown5,hl5,hdd.snoc hd4,hvn,hbl5⟩
  · obtain rfl:k=n:=by omega
    have f1:decide ((k:Int)<(k:Int))=false:=decide_eq_false (by omega)
    obtain ⟨hrd,hcap,_⟩:=lU hown
    have hgw:=K1 hgw0 hbl (by omega)
    have HV:Hid (val D ds=val D xs-val D ys):=by
     show _=_
     have h1:=hv.out
     rw [List.take_of_length_le (l:=ys) (by rw [Hm.out];exact hmn),List.take_of_length_le (l:=xs) (by rw [Hn.out];exact Nat.le_refl _)] at h1
     have h2:=N4 D ds hdd
     rw [hdl.out] at h2
     have h3:=Hle.out
     rcases (show bo=0\/bo=1 by omega) with h4 | h4
     · rw [h4] at h1;omega
     · rw [h4,Nat.one_mul] at h1;omega
    clear hown hbl hv
    go_wp2_with fail
    refine (rcut_any wr sl k cl ds hdl.out hrd hcap (by omega) hdd).mono ?_
    rintro e w4 ⟨v,rfl,hv4,hg4⟩
    have hbox4:=A1 hg4 hboxr1
    obtain ⟨hc4,hf4⟩:=B7 hbox4
    rw [HV.out] at hv4
    obtain ⟨s4,k4,c4,zs4,rfl,hz4⟩:=hv4
    have hF:=Lib.hid (rret (A2 hgw hg4) hbox4 (by decide) (by omega) ⟨s4,k4,c4,zs4,rfl,hz4⟩ (.slice s4 k4 c4))
    clear hz4 hbox4 hg4 hgw hgw0 hboxr1 hboxr cr fr
    go_wp2_with fail
    exact bodyPost_ret (v := .agg #[.slice s4 k4 c4]) (by simp [results,Tryz.results138,go_sem,hc4]) rfl hF.out
def Ints (w:World) (g:Nat) (zs:List Nat):Prop:=RBlk w g (zs.map iv).toArray
theorem heap_setv {w:World} {g o:Nat} {cs:Array Value} {v:Value} {t:TypeId} (h:w.heap[g]?=some (.cells cs t (0,0))):(w.setCell ⟨g,o,none⟩ v).heap[g]?=some (.cells (cs.setIfInBounds o v) t (0,0)):=by
 simp [World.setCell,Array.getElem?_modify,h]
theorem Ints.set {w:World} {g:Nat} {zs:List Nat} (h:Ints w g zs) (j d:Nat):Ints (w.setCell ⟨g,j,none⟩ (.int .i64 (d:Int))) g (zs.set j d):=by
 unfold Ints RBlk at h ⊢
 have:=heap_setv (w:=w) (g:=g) (v := .int .i64 (d:Int)) (o:=j) h
 rw [this]
 congr 2
 rw [List.map_set]
 simp [iv]
theorem Ints.drewN {w:World} {g:Nat} {zs:List Nat} (h:Ints w g zs) (q:Nat):Ints (w.drewN q) g zs:=h
theorem Ints.cell {w:World} {g:Nat} {zs:List Nat} {n:Nat} (h:Ints w g zs) (hn:zs.length=n) (j:Nat) (hj:j<n):w.cell? ⟨g,j,none⟩=some (.int .i64 (zs.getD j 0:Int)):=by
 rw [RBlk.cell h,List.getElem?_toArray,List.getElem?_map,List.getD_eq_getElem?_getD,List.getElem?_eq_getElem (by omega)];rfl
theorem Ints.frozen {w:World} {g:Nat} {zs:List Nat} (h:Ints w g zs) (j:Nat):w.frozen? ⟨g,j,none⟩=false:=RBlk.frozen h j
theorem Ints.rd {w:World} {g:Nat} {zs:List Nat} (h:Ints w g zs):RRdo w (some ⟨g,0,none⟩) zs:=by
 refine Or.inr ⟨g,0,_,rfl,h,fun i hi=>?_⟩
 rw [Nat.zero_add,List.getElem?_toArray,List.getElem?_map,List.getElem?_eq_getElem hi];rfl
theorem made_ints {w:World} {g n:Nat} (h:w.ownsRow g 3 1 (.slice (some ⟨g,0,none⟩) n n) n (madeCells #[.int .i64 0] (n*1)).toList):Ints w g (List.replicate n 0):=by
 obtain ⟨_,⟨h,_⟩ | ⟨g',cap,cur,hv,hg,hh,hle,hm,hs,ht⟩⟩:=h
 · cases h
 · simp only [Value.slice.injEq,Option.some.injEq,Addr.mk.injEq] at hv
   obtain ⟨⟨rfl,_⟩,_,rfl⟩:=hv
   have e:cur=((List.replicate n 0).map iv).toArray:=by
    apply Array.ext'
    rw [List.take_of_length_le (by rw [Array.length_toList];omega)] at ht
    rw [ht]
    apply List.ext_getElem?
    intro i
    rw [Array.getElem?_toList]
    by_cases hi:i<n
    · simp [madeCells,hi,iv]
      rw [Nat.mod_one];rfl
    · simp [madeCells,hi]
   rw [e] at hh
   exact hh
theorem RRdo.kept_row {w w':World} {s:Option Addr} {xs:List Nat} {g:Nat} (h:RRdo w s xs) (hg:w.grownBy w' (some g)) (hge:w.heap.size<=g):RRdo w' s xs:=by
 rcases h with h | ⟨b,off,cs,e,h1,h2⟩
 · exact Or.inl h
 · exact Or.inr ⟨b,off,cs,e,h1.kept hg (by have:=h1.lt;simp;omega),h2⟩
theorem val_set (zs:List Nat):∀ (j d:Nat),j<zs.length->val D (zs.set j d)+D^j*zs.getD j 0=val D zs+D^j*d:=by
 induction zs with
 | nil=>intro j d h;simp at h
 | cons z t ih=>
   intro j d h
   cases j with
   | zero=>simp [val];omega
   | succ j=>
     have:=ih j d (by simpa using h)
     simp only [List.set_cons_succ,val,List.getD_cons_succ]
     have h2:D*(val D (t.set j d)+D^j*t.getD j 0)=D*(val D t+D^j*d):=by rw [this]
     rw [Nat.mul_add,Nat.mul_add, <- Nat.mul_assoc, <- Nat.mul_assoc,show D*D^j=D^(j+1) from by rw [Nat.pow_succ,Nat.mul_comm]] at h2
     omega
theorem Mat.Dig.set {m:Nat} {xs:List Nat} (h:Dig m xs) {d:Nat} (hd:d<m) (j:Nat):Dig m (xs.set j d):=by
 intro x hx
 rcases List.mem_or_eq_of_mem_set hx with h1 | h1
 · exact h x h1
 · rw [h1];exact hd
theorem rmul_step {v v' z d q c p x y V S:Nat} (h:v+c*p=V+S) (hs:v'+p*z=v+p*d) (hd:d+q*D=c+z+x*y):v'+q*(p*D)=V+(S+p*(x*y)):=by
 have h2:p*(d+q*D)=p*(c+z+x*y):=by rw [hd]
 rw [Nat.mul_add,Nat.mul_add,Nat.mul_add] at h2
 have h3:p*(q*D)=q*(p*D):=by grind
 have h4:p*c=c*p:=Nat.mul_comm _ _
 omega
theorem rcarry_step {v v' z d q c p T:Nat} (h:v+c*p=T) (hs:v'+p*z=v+p*d) (hd:d+q*D=c+z):v'+q*(p*D)=T:=by
 have h2:p*(d+q*D)=p*(c+z):=by rw [hd]
 rw [Nat.mul_add,Nat.mul_add] at h2
 have h3:p*(q*D)=q*(p*D):=by grind
 have h4:p*c=c*p:=Nat.mul_comm _ _
 omega
theorem rcarry_at {v c t T k:Nat} (h:v+c*D^t=T) (hc : 0<c) (hT:T<D^k):t<k:=by
 rcases Nat.lt_or_ge t k with h1 | h1
 · exact h1
 · have h2:D^k<=D^t:=Nat.pow_le_pow_right bX h1
   have h3:D^t<=c*D^t:=Nat.le_mul_of_pos_left _ hc
   omega
set_option maxHeartbeats 8000000 in
theorem rMul_any (w:World) (va vb:Value) (a b:Nat) (ha:RefV w va a) (hb:RefV w vb b) (ba:a<D^1000000) (bb:b<D^1000000) :
 Calls Tryz.prog 137 #[va,vb] w (X3 w (a*b)):=by
 obtain ⟨sa,n,cx,xs,rfl,hn,hnc,hx,tx,dx,rfl⟩:=ha
 obtain ⟨sb,m,cy,ys,rfl,hm,hmc,hy,ty,dy,rfl⟩:=hb
 have Hn:=Lib.hid hn
 have Hm:=Lib.hid hm
 have hn6:n<=1000000:=rlen tx hn ba
 have hm6:m<=1000000:=rlen ty hm bb
 obtain ⟨i0,hi,hz0,hz1,hz2⟩:=V6
 have hgw0:w.grownBy (((w.alloc (.cells #[.slice sa n cx] 30)).alloc (.cells #[.slice sb m cy] 30)).alloc (.cells #[.slice none 0 0] 30)) none:=A7 (A7 (World.grownBy_alloc _ _ _) _) _
 have hboxr:=A8 ((w.alloc (.cells #[.slice sa n cx] 30)).alloc (.cells #[.slice sb m cy] 30)) (.cells #[.slice none 0 0] 30) (w.heap.size+1+1) (by simp)
 have hboxb:=(Below.heap_alloc _ (.cells #[.slice none 0 0] 30) (w.heap.size+1) (by simp)).trans (A8 (w.alloc (.cells #[.slice sa n cx] 30)) (.cells #[.slice sb m cy] 30) (w.heap.size+1) (by simp))
 have hboxa:=((Below.heap_alloc _ (.cells #[.slice none 0 0] 30) w.heap.size (by simp;omega)).trans (Below.heap_alloc _ (.cells #[.slice sb m cy] 30) w.heap.size (by simp))).trans (A8 w (.cells #[.slice sa n cx] 30) w.heap.size rfl)
 have hs0:(((w.alloc (.cells #[.slice sa n cx] 30)).alloc (.cells #[.slice sb m cy] 30)).alloc (.cells #[.slice none 0 0] 30)).heap.size=w.heap.size+1+1+1:=by simp
 clear hn hm ba bb
 obtain ⟨L,hL⟩:∃ L,n+m+1=L:=⟨_,rfl⟩
 have eL:(n:Int)+(m:Int)+1=(L:Int):=by omega
 have hL6:L<=2000001:=by omega
 go_enter Tryz.func137,Tryz.ntmps137
 go_wp2_with (at_make;refine wpList_make_full _ rfl _ _ 28 rfl _ 3 i0 (.int .i64 0) 1 Tryz.underlying28 hi hz0 hz1 .i64 .i64 _ _ L rfl rfl (by omega) (by omega) (by rw [hz2];omega) (by unfold maxLen;omega) (Nat.le_refl _) ?_;intro w1 hown hg1;have hI1:=made_ints hown;have HS0:=Lib.hid hs0;rw [hs0] at hI1;clear hs0 hown;have hgw:=A2 hgw0 hg1;have hboxr1:=A1 hg1 hboxr;have hboxb1:=A1 hg1 hboxb;have hboxa1:=A1 hg1 hboxa;clear hg1 hgw0 hboxr hboxb hboxa)
 obtain ⟨g,hgE⟩:∃ g,w.heap.size+1+1+1=g:=⟨_,rfl⟩
 rw [hgE] at hI1
 have hgs:w.heap.size<=g:=by omega
 go_wp2_with fail
 rw [hgE]
 go_loopw [6] (fun i wr=>∃ (k:Nat) (zs:List Nat),k<=n/\i = .int .i64 k/\Hid (zs.length=L)/\Dig D zs/\Ints wr g zs/\w1.grownBy wr (some g)/\Hid (val D zs=val D (xs.take k)*val D ys)) (fun i _=>n-(intOf i).toNat)
 case atStart=>exact ⟨0,List.replicate L 0,Nat.zero_le _,rfl,by show _=_;simp,Dig.replicate bX _,hI1,B0 _ _,by show _=_;rw [W6];simp [val]⟩
 case round=>
  clear hI1
  obtain ⟨k,zs,hk,rfl,hzl,hzd,hI,hg,hv⟩:=hrel
  by_cases hlt:k<n
  · obtain ⟨x,ex⟩:∃ x,xs.getD k 0=x:=⟨_,rfl⟩
    have hx4:x<10000:=ex ▸ V7 dx k
    have EX:=Lib.hid ex
    clear ex
    have f1:decide ((k:Int)<(n:Int))=true:=decide_eq_true (by omega)
    obtain ⟨hca,hfa⟩:=B7 (M6 hg hboxa1 (by omega))
    go_wp2_with fail
    go_loopw [7,8] (fun c j wi=>∃ (q r:Nat) (us:List Nat),q<=m/\j = .int .i64 q/\c = .int .i64 r/\r<10000/\Hid (us.length=L)/\Dig D us/\Ints wi g us/\wr.grownBy wi (some g)/\Hid (val D us+r*D^(k+q)=val D zs+x*val D (ys.take q)*D^k)) (fun _ j _=>m-(intOf j).toNat)
    case atStart=>exact ⟨0,0,zs,Nat.zero_le _,rfl,rfl,by omega,hzl,hzd,hI,B0 _ _,by show _=_;simp [val]⟩
    case round=>
     obtain ⟨q,r,us,hq,rfl,rfl,hr,hul,hud,hIu,hgu,hvu⟩:=hrel
     have hgx:=A2 hg hgu
     obtain ⟨hcb,hfb⟩:=B7 (M6 hgx hboxb1 (by omega))
     by_cases hlt2:q<m
     · obtain ⟨y,ey⟩:∃ y,ys.getD q 0=y:=⟨_,rfl⟩
       have hy4:y<10000:=ey ▸ V7 dy q
       obtain ⟨z,ez⟩:∃ z,us.getD (k+q) 0=z:=⟨_,rfl⟩
       have hz4:z<10000:=ez ▸ V7 hud (k+q)
       have EY:=Lib.hid ey
       have EZ:=Lib.hid ez
       obtain ⟨p,hp⟩:∃ p,x*y=p:=⟨_,rfl⟩
       have hp9:p<=99980001:=by
        rw [<- hp];exact Nat.mul_le_mul (show x<=9999 by omega) (show y<=9999 by omega)
       have hpI:(x:Int)*(y:Int)=(p:Int):=by rw [<- hp];rfl
       obtain ⟨j,hj⟩:∃ j,k+q=j:=⟨_,rfl⟩
       have hjI:(k:Int)+(q:Int)=(j:Int):=by omega
       have hjL:j<L:=by omega
       obtain ⟨d,hd⟩:∃ d,(r+z+p)%10000=d:=⟨_,rfl⟩
       obtain ⟨r2,hr2⟩:∃ r2,(r+z+p) / 10000=r2:=⟨_,rfl⟩
       have e1:((r:Int)+(z:Int)+(p:Int))%10000=(d:Int):=by omega
       have e2:((r:Int)+(z:Int)+(p:Int)) / 10000=(r2:Int):=by omega
       have hd4:d<10000:=by omega
       have hr4:r2<10000:=by omega
       have hvn:Hid (val D (us.set j d)+r2*D^(k+(q+1))=val D zs+x*val D (ys.take (q+1))*D^k):=by
        show _=_
        have h1:=val_set us j d (by rw [hul.out];exact hjL)
        rw [<- hj] at h1 ⊢
        rw [EZ.out] at h1
        rw [I9 ys,EY.out, <- Nat.add_assoc,Nat.pow_succ,rmul_step (x:=x) (y:=y) (q:=r2) (d:=d) hvu.out h1 (by rw [hp];unfold D;omega)]
        rw [Nat.pow_add]
        grind
       obtain ⟨b1,o1,rfl,c1⟩:=jB (hx.kept_row (A2 (hO hgw) hgx) hgs) Hn.out k hlt
       obtain ⟨b2,o2,rfl,c2⟩:=jB (hy.kept_row (A2 (hO hgw) hgx) hgs) Hm.out q hlt2
       rw [EX.out] at c1
       rw [EY.out] at c2
       have c3:=hIu.cell hul.out j hjL
       rw [<- hj,EZ.out,hj] at c3
       have fr3:=hIu.frozen j
       obtain ⟨hca3,hfa3⟩:=B7 (M6 hgx hboxa1 (by omega))
       have hu2:Hid ((us.set j d).length=L):=by show _=_;rw [List.length_set];exact hul.out
       clear ey ez hp hj hd hr2
       go_wp2_with fail
       go_quiet (fail)
       go_wp2_with fail
       go_roundw
       case rel=>exact ⟨q+1,r2,us.set j d,by omega,by go_num,by go_num,hr4,hu2,hud.set hd4 j,(hIu.drewN _).set j d,C9 (A2 hgu (C1 _ _ _)) _ _,hvn⟩
       case measure=>simp [intOf];omega
     · obtain rfl:q=m:=by omega
       obtain ⟨T,hT⟩:∃ T,val D (xs.take (k+1))*val D ys=T:=⟨_,rfl⟩
       have hvt:Hid (val D us+r*D^(k+q)=T):=by
        show _=_
        rw [hvu.out,hv.out,List.take_of_length_le (l:=ys) (by rw [Hm.out];exact Nat.le_refl _), <- hT,I9 xs,EX.out,Nat.add_mul];grind
       have hTb:Hid (T<D^(n+q)):=by
        show _<_
        rw [<- hT]
        have h1:=N4 D _ (dx.take (k+1))
        have h2:=N4 D ys dy
        rw [Hm.out] at h2
        rw [List.length_take,Hn.out,Nat.min_eq_left (by omega)] at h1
        have h3:D^(k+1)*D^q<=D^n*D^q:=Nat.mul_le_mul_right _ (Nat.pow_le_pow_right bX (by omega))
        rw [Nat.pow_add]
        exact Nat.lt_of_lt_of_le (Nat.mul_lt_mul'' h1 h2) h3
       obtain ⟨j0,hj0⟩:∃ j0,k+q=j0:=⟨_,rfl⟩
       have hjI:(k:Int)+(q:Int)=(j0:Int):=by omega
       have hj0L:j0<=L:=by omega
       rw [hj0] at hvt
       clear hj0
       have f7:decide ((q:Int)<(q:Int))=false:=decide_eq_false (by omega)
       clear hvu hv
       go_wp2_with fail
       go_loopw [7,9] (fun c t wi2=>∃ (t' r':Nat) (us':List Nat),t = .int .i64 t'/\c = .int .i64 r'/\r'<10000/\t'<=L/\Hid (us'.length=L)/\Dig D us'/\Ints wi2 g us'/\wr.grownBy wi2 (some g)/\Hid (val D us'+r'*D^t'=T)) (fun _ t _=>L-(intOf t).toNat)
       case atStart=>exact ⟨j0,r,us,rfl,rfl,hr,hj0L,hul,hud,hIu,B0 _ _,hvt⟩
       case round=>
        clear hul hud hIu hvt hr
        obtain ⟨j,r,us,rfl,rfl,hr,hjL',hul,hud,hIu,hgu2,hvu⟩:=hrel
        by_cases h0:r=0
        · subst h0
          go_wp2_with fail
          go_roundw
          case rel=>exact ⟨k+1,us,by omega,by go_num,hul,hud,hIu,A2 hgx hgu2,by show _=_;rw [hT];have:=hvu.out;omega⟩
          case measure=>simp [intOf];omega
        · have f3:decide ((0:Int)<(r:Int))=true:=decide_eq_true (by omega)
          have hjn:=rcarry_at hvu.out (by omega) hTb.out
          have hjL:j<L:=by omega
          obtain ⟨z,ez⟩:∃ z,us.getD j 0=z:=⟨_,rfl⟩
          have hz4:z<10000:=ez ▸ V7 hud j
          obtain ⟨d,hd⟩:∃ d,(r+z)%10000=d:=⟨_,rfl⟩
          obtain ⟨r2,hr2⟩:∃ r2,(r+z) / 10000=r2:=⟨_,rfl⟩
          have e1:((r:Int)+(z:Int))%10000=(d:Int):=by omega
          have e2:((r:Int)+(z:Int)) / 10000=(r2:Int):=by omega
          have hd4:d<10000:=by omega
          have hr4:r2<10000:=by omega
          have hvn:Hid (val D (us.set j d)+r2*D^(j+1)=T):=by
           show _=_
           have h1:=val_set us j d (by rw [hul.out];exact hjL)
           rw [ez] at h1
           rw [Nat.pow_succ]
           exact rcarry_step hvu.out h1 (by unfold D;omega)
          have c3:=hIu.cell hul.out j hjL
          rw [ez] at c3
          have fr3:=hIu.frozen j
          have hu2:Hid ((us.set j d).length=L):=by show _=_;rw [List.length_set];exact hul.out
          clear ez hd hr2 hvu
          go_wp2_with fail
          go_roundw
          case rel=>exact ⟨j+1,r2,us.set j d,by go_num,by go_num,hr4,by omega,hu2,hud.set hd4 j,hIu.set j d,C9 hgu2 _ _,hvn⟩
          case measure=>simp [intOf];omega
  · obtain rfl:k=n:=by omega
    have f1:decide ((k:Int)<(k:Int))=false:=decide_eq_false (by omega)
    have hbox2:=M6 hg hboxr1 (by omega)
    have hgw2:=D6 hgw hg (by omega)
    have HV:Hid (val D zs=val D xs*val D ys):=by show _=_;rw [hv.out,List.take_of_length_le (by rw [Hn.out];exact Nat.le_refl _)]
    obtain ⟨hca,hfa⟩:=B7 (M6 hg hboxa1 (by omega))
    have hrd:=hI.rd
    clear hboxr1 hboxb1 hboxa1 hv hg hgw hI
    go_wp2_with fail
    refine (rcut_any wr (some ⟨g,0,none⟩) L L zs hzl.out hrd (Nat.le_refl _) (by omega) hzd).mono ?_
    rintro e w4 ⟨v,rfl,hv4,hg4⟩
    have hbox4:=A1 hg4 hbox2
    obtain ⟨hc4,hf4⟩:=B7 hbox4
    rw [HV.out] at hv4
    obtain ⟨s4,k4,c4,zs4,rfl,hz4⟩:=hv4
    have hF:=Lib.hid (rret (A2 hgw2 hg4) hbox4 (by decide) (by omega) ⟨s4,k4,c4,zs4,rfl,hz4⟩ (.slice s4 k4 c4))
    clear hz4 hbox4 hbox2 hg4 hgw2
    go_wp2_with fail
    exact bodyPost_ret (v := .agg #[.slice s4 k4 c4]) (by simp [results,Tryz.results137,go_sem,hc4]) rfl hF.out
def RIntV (w:World) (v:Value) (z:Int):Prop:=∃ (g:Int) (s:Option Addr) (l c:Nat),v = .agg #[.int .i64 g,.slice s l c]/\Hid (g=z.sign)/\RefV w (.agg #[.slice s l c]) z.natAbs
theorem RIntV.kept {w w':World} {v:Value} {z:Int} (h:RIntV w v z) (hg:w.grownBy w' none):RIntV w' v z:=by
 obtain ⟨g,s,l,c,e,h1,h2⟩:=h
 exact ⟨g,s,l,c,e,h1,h2.kept hg⟩
theorem RIntV.zero (w:World):RIntV w (.agg #[.int .i64 0,.slice none 0 0]) 0:=⟨0,none,0,0,rfl,rfl,RefV.zero w⟩
def G7 (w:World) (z:Int) (e:Ending) (w':World):Prop:=∃ v,e = .returned v/\RIntV w' v z/\w.grownBy w' none
theorem RIntV.set_other {w:World} {v:Value} {n:Int} {g:Nat} {c:Array Value} {t:TypeId} (h:RIntV w v n) (hbox:w.heap[g]?=some (.cells c t (0,0))) (ht:t≠3) (o:Nat) (u:Value):RIntV (w.setCell ⟨g,o,none⟩ u) v n:=by
 obtain ⟨s,a,l,k,e,h1,h2⟩:=h
 exact ⟨s,a,l,k,e,h1,h2.set_other hbox ht o u⟩
theorem heap_setfst {w:World} {g:Nat} {a0 a1:Value} {t:TypeId} (h:w.heap[g]?=some (.cells #[a0,a1] t (0,0))) (v0:Value):(w.setCell ⟨g,0,none⟩ v0).heap[g]?=some (.cells #[v0,a1] t (0,0)):=by
 simp [World.setCell,Array.getElem?_modify,h]
theorem grown_two {w w':World} {g:Nat} (hg:w.grownBy w' none) (hl:w.heap.size<=g) (v0 v1:Value):w.grownBy ((w'.setCell ⟨g,0,none⟩ v0).setCell ⟨g,1,none⟩ v1) none:=
 D6 (D6 hg (C9 (B0 _ _) _ _) hl) (C9 (B0 _ _) _ _) hl
theorem O8 {w w':World} {z:Int} {g:Nat} {a0 a1 v0 v1:Value} (hg:w.grownBy w' none) (hbox:w'.heap[g]?=some (.cells #[a0,a1] 32 (0,0))) (hl:w.heap.size<=g) (h:RIntV w' (.agg #[v0,v1]) z) :
 G7 w z (.returned (.agg #[v0,v1])) ((w'.setCell ⟨g,0,none⟩ v0).setCell ⟨g,1,none⟩ v1):=
 ⟨_,rfl,(h.set_other hbox (by decide) 0 v0).set_other (heap_setfst hbox v0) (by decide) 1 v1,grown_two hg hl v0 v1⟩
theorem rv_len {w:World} {s:Option Addr} {l c n:Nat} (h:RefV w (.agg #[.slice s l c]) n):(n=0->l=0)/\(0<n->0<l):=by
 obtain ⟨s',l',c',xs,e,hl, -, -,ht, -,hv⟩:=h
 cases e
 refine ⟨fun h0=>?_,fun h0=>?_⟩
 · have:=(eC D bX xs ht).1 (hv.trans h0)
   rw [<- hl,this];rfl
 · rcases Nat.eq_zero_or_pos l with h1 | h1
   · rw [h1] at hl
     rw [List.length_eq_zero_iff.1 hl] at hv
     simp [val] at hv;omega
   · exact h1
set_option maxHeartbeats 4000000 in
theorem Q9 (w:World) (va:Value) (s:Int) (n:Nat) (z:Int) (Ha:RefV w va n) (hz:z.natAbs=n) (hs:n=0\/z.sign=s) :
 Calls Tryz.prog 80 #[.int .i64 s,va] w (G7 w z):=by
 have HS:Hid (n=0\/z.sign=s):=hs
 have HZ:=Lib.hid hz
 clear hz hs
 have HL:=Lib.hid Ha
 rcases Nat.eq_zero_or_pos n with h0 | h0
 · skip
   obtain rfl:z=0:=by have:=HZ.out;omega
   subst h0
   obtain ⟨sa,la,ca,ya,rfl,ha⟩:=Ha
   obtain rfl:la=0:=(rv_len HL.out).1 rfl
   have Ha:RefV w (.agg #[.slice sa 0 ca]) 0:=HL.out
   clear HL ha HS HZ
   have hG:w.grownBy ((w.alloc (.cells #[.slice sa 0 ca] 30)).alloc (.cells #[.int .i64 0,.slice none 0 0] 32)) none:=A7 (World.grownBy_alloc _ _ _) _
   have Ba:=A1 (World.grownBy_alloc _ (.cells #[.int .i64 0,.slice none 0 0] 32) none) (A8 w (.cells #[.slice sa 0 ca] 30) w.heap.size rfl)
   have Bq:=A8 (w.alloc (.cells #[.slice sa 0 ca] 30)) (.cells #[.int .i64 0,.slice none 0 0] 32) (w.heap.size+1) (by simp)
   have ma:=Ha.kept hG
   go_enter Tryz.func80,Tryz.ntmps80
   obtain ⟨Ca0,Fa0⟩:=B7 Ba
   obtain ⟨Cq0,Cq1,Fq0,Fq1⟩:=A3 Bq
   have hG':w.grownBy ((w.alloc (.cells #[.slice sa 0 ca] 30)).alloc (.cells #[.int .i64 0,.slice none 0 0] 32)) none:=(A7 (World.grownBy_alloc _ _ _) _)
   have hF:Hid (G7 w (0) (.returned (.agg #[.int .i64 0,.slice none 0 0])) ((w.alloc (.cells #[.slice sa 0 ca] 30)).alloc (.cells #[.int .i64 0,.slice none 0 0] 32))):=⟨_,rfl,RIntV.zero _,hG'⟩
   clear hG' ma
   go_wp2_with fail
   exact bodyPost_ret (v := .agg #[.int .i64 0,.slice none 0 0]) (by simp [results,Tryz.results80,go_sem]) rfl hF.out
 · skip
   obtain hs:z.sign=s:=HS.out.resolve_left (by omega)
   obtain ⟨sa,la,ca,ya,rfl,ha⟩:=Ha
   have hl:=(rv_len HL.out).2 h0
   have f1:((la:Int) == 0)=false:=beq_eq_false_iff_ne.2 (by omega)
   have Ha:RefV w (.agg #[.slice sa la ca]) n:=HL.out
   have HS2:=Lib.hid hs
   clear HL ha HS hs hl
   have hG:w.grownBy ((w.alloc (.cells #[.slice sa la ca] 30)).alloc (.cells #[.int .i64 0,.slice none 0 0] 32)) none:=A7 (World.grownBy_alloc _ _ _) _
   have Ba:=A1 (World.grownBy_alloc _ (.cells #[.int .i64 0,.slice none 0 0] 32) none) (A8 w (.cells #[.slice sa la ca] 30) w.heap.size rfl)
   have Bq:=A8 (w.alloc (.cells #[.slice sa la ca] 30)) (.cells #[.int .i64 0,.slice none 0 0] 32) (w.heap.size+1) (by simp)
   have ma:=Ha.kept hG
   go_enter Tryz.func80,Tryz.ntmps80
   obtain ⟨Ca0,Fa0⟩:=B7 Ba
   obtain ⟨Cq0,Cq1,Fq0,Fq1⟩:=A3 Bq
   have hG':w.grownBy ((w.alloc (.cells #[.slice sa la ca] 30)).alloc (.cells #[.int .i64 s,.slice sa la ca] 32)) none:=(A7 (World.grownBy_alloc _ _ _) _)
   have hF:Hid (G7 w (z) (.returned (.agg #[.int .i64 s,.slice sa la ca])) ((w.alloc (.cells #[.slice sa la ca] 30)).alloc (.cells #[.int .i64 s,.slice sa la ca] 32))):=⟨_,rfl,⟨s,sa,la,ca,rfl,HS2.out.symm,by rw [HZ.out];exact Ha.kept hG'⟩,hG'⟩
   clear hG' ma
   go_wp2_with fail
   exact bodyPost_ret (v := .agg #[.int .i64 s,.slice sa la ca]) (by simp [results,Tryz.results80,go_sem]) rfl hF.out
theorem rA (z:Int) : -1<=z.sign/\z.sign<=1:=by
 rcases S5 z with ⟨_,e⟩ | ⟨_,e⟩ | ⟨_,e⟩<;>omega
set_option maxHeartbeats 4000000 in
theorem bC (w:World) (va:Value) (x:Int) (Ha:RIntV w va x) :
 Calls Tryz.prog 167 #[va] w (G7 w (-x)):=by
 obtain ⟨ga,sa,la,ca,rfl,ha,ma⟩:=Ha
 have hG:w.grownBy ((w.alloc (.cells #[.int .i64 ga,.slice sa la ca] 32)).alloc (.cells #[.int .i64 0,.slice none 0 0] 32)) none:=(A7 (World.grownBy_alloc _ _ _) _)
 have Ba:=A1 (World.grownBy_alloc _ (.cells #[.int .i64 0,.slice none 0 0] 32) none) (A8 w (.cells #[.int .i64 ga,.slice sa la ca] 32) (w.heap.size) rfl)
 have Bq:=(A8 (w.alloc (.cells #[.int .i64 ga,.slice sa la ca] 32)) (.cells #[.int .i64 0,.slice none 0 0] 32) (w.heap.size+1) (by simp))
 have ra:RIntV ((w.alloc (.cells #[.int .i64 ga,.slice sa la ca] 32)).alloc (.cells #[.int .i64 0,.slice none 0 0] 32)) (.agg #[.int .i64 ga,.slice sa la ca]) (x):=⟨ga,sa,la,ca,rfl,ha,ma.kept hG⟩
 have ma':RefV ((w.alloc (.cells #[.int .i64 ga,.slice sa la ca] 32)).alloc (.cells #[.int .i64 0,.slice none 0 0] 32)) (.agg #[.slice sa la ca]) (x).natAbs:=ma.kept hG
 have oa:RIntV w (.agg #[.int .i64 ga,.slice sa la ca]) (x):=⟨ga,sa,la,ca,rfl,ha,ma⟩
 clear ma
 go_enter Tryz.func167,Tryz.ntmps167
 have hb:=rA x
 rw [<- ha.out] at hb
 obtain ⟨hb1,hb2⟩:=hb
 obtain ⟨Ca0,Ca1,Fa0,Fa1⟩:=A3 Ba
 obtain ⟨Cq0,Cq1,Fq0,Fq1⟩:=A3 Bq
 go_wp2_with fail
 generalize ((w.alloc (.cells #[.int .i64 ga,.slice sa la ca] 32)).alloc (.cells #[.int .i64 0,.slice none 0 0] 32))=w0 at *
 clear Ca0 Fa0 Ca1 Fa1 Cq0 Fq0 Cq1 Fq1
 refine (Q9 w0 _ (-ga) x.natAbs (-x) ma' (by omega) (Or.inr (by rw [Int.sign_neg,ha.out]))).mono ?_
 rintro e w1 ⟨_,rfl,⟨gd,sd,ld,cd,rfl,hd,md⟩,gw1⟩
 have rd:RIntV w1 (.agg #[.int .i64 gd,.slice sd ld cd]) (-x):=⟨gd,sd,ld,cd,rfl,hd,md⟩
 replace Ba:=A1 gw1 Ba
 replace Bq:=A1 gw1 Bq
 replace ra:=ra.kept gw1
 replace ma':=ma'.kept gw1
 replace hG:=A2 hG gw1
 clear gw1
 clear md
 obtain ⟨Ca0,Ca1,Fa0,Fa1⟩:=A3 Ba
 obtain ⟨Cq0,Cq1,Fq0,Fq1⟩:=A3 Bq
 clear Ca0 Fa0 Ca1 Fa1 Cq0 Fq0 Cq1 Fq1
 obtain ⟨k90,k91,k92,k93⟩:=A3 Bq
 obtain ⟨q90,q91,q92,q93⟩:=A3 (D5 Bq (.int .i64 gd) (.slice sd ld cd))
 have hF:Hid (G7 w (-x) (.returned (.agg #[.int .i64 gd,.slice sd ld cd])) ((w1.setCell ⟨w.heap.size+1,0,none⟩ (.int .i64 gd)).setCell ⟨w.heap.size+1,1,none⟩ (.slice sd ld cd))):=O8 hG Bq (by omega) rd
 clear ra ma' rd
 go_wp2_with fail
 exact bodyPost_ret (v := .agg #[.int .i64 gd,.slice sd ld cd]) (by simp [results,Tryz.results167,go_sem,q90,q91]) rfl hF.out
theorem cmp_bd (a b:Nat):G3 a b = -1\/G3 a b=0\/G3 a b=1:=by
 unfold G3;split
 · left;rfl
 · split
   · right;left;rfl
   · right;right;rfl
theorem rcmp_mul {x y:Int} (h:x.sign=y.sign):x.sign*G3 x.natAbs y.natAbs=M0 x y:=by
 rcases S5 x with ⟨h1,e1⟩ | ⟨h1,e1⟩ | ⟨h1,e1⟩<;>rcases S5 y with ⟨h2,e2⟩ | ⟨h2,e2⟩ | ⟨h2,e2⟩<;>rw [e1,e2] at h<;>first | omega | skip
 · rw [e1];unfold G3 M0
   rcases Int.lt_trichotomy x y with h3 | h3 | h3
   · rw [if_neg (by omega),if_neg (by omega),if_pos h3];rfl
   · rw [if_neg (by omega),if_pos (by omega),if_neg (by omega),if_pos h3];rfl
   · rw [if_pos (by omega),if_neg (by omega),if_neg (by omega)];rfl
 · rw [e1,h1,h2];rfl
 · rw [e1,zcmp_pos (by omega) (by omega)];omega
def RetZ (w:World) (k:Int) (e:Ending) (w':World):Prop:=e = .returned (.int .i64 k)/\w.grownBy w' none
set_option maxHeartbeats 8000000 in
theorem F9 (w:World) (va vb:Value) (x y:Int) (Ha:RIntV w va x) (Hb:RIntV w vb y) (la':x.natAbs<D^1000000) (lb':y.natAbs<D^1000000) :
 Calls Tryz.prog 43 #[va,vb] w (RetZ w (M0 x y)):=by
 have Hla:=Lib.hid la'
 have Hlb:=Lib.hid lb'
 clear la' lb'
 obtain ⟨ga,sa,la,ca,rfl,ha,ma⟩:=Ha
 obtain ⟨gb,sb,lb,cb,rfl,hb,mb⟩:=Hb
 have hG:w.grownBy ((w.alloc (.cells #[.int .i64 ga,.slice sa la ca] 32)).alloc (.cells #[.int .i64 gb,.slice sb lb cb] 32)) none:=(A7 (World.grownBy_alloc _ _ _) _)
 have Ba:=A1 (World.grownBy_alloc _ (.cells #[.int .i64 gb,.slice sb lb cb] 32) none) (A8 w (.cells #[.int .i64 ga,.slice sa la ca] 32) (w.heap.size) rfl)
 have Bb:=(A8 (w.alloc (.cells #[.int .i64 ga,.slice sa la ca] 32)) (.cells #[.int .i64 gb,.slice sb lb cb] 32) (w.heap.size+1) (by simp))
 have ra:RIntV ((w.alloc (.cells #[.int .i64 ga,.slice sa la ca] 32)).alloc (.cells #[.int .i64 gb,.slice sb lb cb] 32)) (.agg #[.int .i64 ga,.slice sa la ca]) (x):=⟨ga,sa,la,ca,rfl,ha,ma.kept hG⟩
 have ma':RefV ((w.alloc (.cells #[.int .i64 ga,.slice sa la ca] 32)).alloc (.cells #[.int .i64 gb,.slice sb lb cb] 32)) (.agg #[.slice sa la ca]) (x).natAbs:=ma.kept hG
 have rb:RIntV ((w.alloc (.cells #[.int .i64 ga,.slice sa la ca] 32)).alloc (.cells #[.int .i64 gb,.slice sb lb cb] 32)) (.agg #[.int .i64 gb,.slice sb lb cb]) (y):=⟨gb,sb,lb,cb,rfl,hb,mb.kept hG⟩
 have mb':RefV ((w.alloc (.cells #[.int .i64 ga,.slice sa la ca] 32)).alloc (.cells #[.int .i64 gb,.slice sb lb cb] 32)) (.agg #[.slice sb lb cb]) (y).natAbs:=mb.kept hG
 have oa:RIntV w (.agg #[.int .i64 ga,.slice sa la ca]) (x):=⟨ga,sa,la,ca,rfl,ha,ma⟩
 clear ma
 have ob:RIntV w (.agg #[.int .i64 gb,.slice sb lb cb]) (y):=⟨gb,sb,lb,cb,rfl,hb,mb⟩
 clear mb
 go_enter Tryz.func43,Tryz.ntmps43
 have hc:=kU x y
 rw [<- ha.out, <- hb.out] at hc
 have hc4:(decide (ga<gb)=true/\Hid (M0 x y = -1))\/(decide (ga<gb)=false/\decide (gb<ga)=true/\Hid (M0 x y=1))\/(decide (ga<gb)=false/\decide (gb<ga)=false/\Hid (ga*G3 x.natAbs y.natAbs=M0 x y)):=by
  have key:ga=gb->ga*G3 x.natAbs y.natAbs=M0 x y:=fun h=>by rw [ha.out];exact rcmp_mul (by rw [<- ha.out, <- hb.out,h])
  rcases hc with ⟨q,r⟩ | ⟨q,r⟩ | ⟨q,r,t,u⟩ | ⟨q,r,t,u⟩
  · left;exact ⟨decide_eq_true q,r⟩
  · right;left;exact ⟨decide_eq_false (by omega),decide_eq_true q,r⟩
  · right;right;exact ⟨decide_eq_false (by omega),decide_eq_false (by omega),key q⟩
  · right;right;exact ⟨decide_eq_false (by omega),decide_eq_false (by omega),key q⟩
 clear hc
 have hbd:=rA x
 rw [<- ha.out] at hbd
 have hcb:=cmp_bd x.natAbs y.natAbs
 obtain ⟨cc,hcc⟩:∃ cc,G3 x.natAbs y.natAbs=cc:=⟨_,rfl⟩
 rw [hcc] at hc4 hcb
 have HCC:=Lib.hid hcc
 obtain ⟨zz,hzz⟩:∃ zz,M0 x y=zz:=⟨_,rfl⟩
 rw [hzz] at hc4 ⊢
 clear hcc hzz
 rcases hc4 with ⟨f1,hz⟩ | ⟨f1,f2,hz⟩ | ⟨f1,f2,hz⟩
 · skip
   obtain ⟨Ca0,Ca1,Fa0,Fa1⟩:=A3 Ba
   obtain ⟨Cb0,Cb1,Fb0,Fb1⟩:=A3 Bb
   go_wp2_with fail
   go_ret
   exact ⟨by rw [hz.out];rfl,hG⟩
 · skip
   obtain ⟨Ca0,Ca1,Fa0,Fa1⟩:=A3 Ba
   obtain ⟨Cb0,Cb1,Fb0,Fb1⟩:=A3 Bb
   go_wp2_with fail
   go_ret
   exact ⟨by rw [hz.out];rfl,hG⟩
 · skip
   have hw:IntKind.i64.wrap (ga*cc)=zz:=by rw [<- hz.out,IntKind.wrap_i64];obtain ⟨u1,u2⟩:=hbd;rcases hcb with h | h | h<;>rw [h]<;>omega
   clear hz hbd hcb
   obtain ⟨Ca0,Ca1,Fa0,Fa1⟩:=A3 Ba
   obtain ⟨Cb0,Cb1,Fb0,Fb1⟩:=A3 Bb
   go_wp2_with fail
   generalize ((w.alloc (.cells #[.int .i64 ga,.slice sa la ca] 32)).alloc (.cells #[.int .i64 gb,.slice sb lb cb] 32))=w0 at *
   go_region_held3 (fun w'=>w'.cell? ⟨w.heap.size,0,none⟩=some (.int .i64 ga)/\w'.cell? ⟨w.heap.size,1,none⟩=some (.slice sa la ca)/\w'.cell? ⟨w.heap.size+1,0,none⟩=some (.int .i64 gb)/\w'.cell? ⟨w.heap.size+1,1,none⟩=some (.slice sb lb cb))
    (first | assumption | exact ⟨Ca0,Ca1,Cb0,Cb1⟩ | go_keep)
    (first
     | (go_at_call 88;(with_reducible refine (lR w0.drew _ _ x.natAbs y.natAbs (ma'.kept (C4 (B0 _ _))) (mb'.kept (C4 (B0 _ _))) Hla.out Hlb.out).mono ?_);rintro e w1_1 ⟨rfl,gw1_1⟩;rw [HCC.out];have hGw1_1:=H5 w0 gw1_1 rfl rfl rfl rfl;have hSw1_1:=(And.intro (hGw1_1.cell Ca0 (by simp)) (And.intro (hGw1_1.cell Ca1 (by simp)) (And.intro (hGw1_1.cell Cb0 (by simp)) (hGw1_1.cell Cb1 (by simp)))));clear gw1_1))
   replace Ba:=A1 hGw1_1 Ba
   replace Bb:=A1 hGw1_1 Bb
   replace ra:=ra.kept hGw1_1
   replace ma':=ma'.kept hGw1_1
   replace rb:=rb.kept hGw1_1
   replace mb':=mb'.kept hGw1_1
   replace hG:=A2 hG hGw1_1
   clear Ca0 Fa0 Ca1 Fa1 Cb0 Fb0 Cb1 Fb1
   obtain ⟨Ca0,Ca1,Fa0,Fa1⟩:=A3 Ba
   obtain ⟨Cb0,Cb1,Fb0,Fb1⟩:=A3 Bb
   go_wp2_with fail
   go_ret
   exact ⟨by first | rfl | (rw [hw];rfl),hG⟩
end Go.Proofs.YtamdnbbgpacfkaaGreatDoor
