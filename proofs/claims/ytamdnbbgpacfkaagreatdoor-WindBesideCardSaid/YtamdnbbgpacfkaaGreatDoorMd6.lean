/- What the laws lean on, part 6. -/
import Derived.BigQuiet
import Derived.BigRegion
import Derived.Deep.AppendLies
import Derived.Deep.CutBlock
import Derived.Deep.CutRange
import Derived.Deep.DeepCutAuto
import Derived.Deep.LoopGhost
import Derived.Deep.QuietTactic
import Derived.Deep.RegionHeld3
import Derived.Laws.CopyOwn
import Derived.Laws.Externs
import Derived.Laws.IdiomStrings
import Derived.Lib.BitFns
import Derived.Lib.Hide
import Derived.Lib.Slices
import Derived.Lib.Small
import Derived.Lib.Strings
import Derived.Lib.Walk
import Derived.Outline
import Derived.OwnWalk
import Derived.Shelf.Bits.Mul64
import Derived.Shelf.Spec.TrailingZeros
import Derived.StillTailTactics
import Derived.WalkKit
import Derived.WalkLawsBesides
import Derived.WalkSpells
import Derived.Test.YtamdnbbgpacfkaaGreatDoorProg
import Derived.Test.YtamdnbbgpacfkaaGreatDoorMd5
set_option linter.unusedVariables false
set_option linter.unusedSimpArgs false
set_option maxRecDepth 100000
namespace Go.Proofs.YtamdnbbgpacfkaaGreatDoor
open Go.RowKit Mat
structure OddIn (N:Nat) (w:World) (b n:Nat) (xs:List Nat) (cs:Array Value):Prop where
 lo:N<=b
 blk:Blk w b cs
 lies:At cs 0 xs
 len:Hid (xs.length=n)
 top:Top xs
 dig:Dig B xs
 odd:Hid (val B xs%2=1)
 bnd:n<=1073741824
theorem OddIn.lm {N:Nat} {w:World} {b n:Nat} {xs:List Nat} {cs:Array Value} (h:OddIn N w b n xs cs):Lm w (some ⟨b,0,none⟩) xs:=
 ⟨Rdo.of h.blk h.lies,by intro e;have:=h.odd.out;rw [e] at this;simp [val] at this,h.top,h.dig⟩
theorem OddIn.pos {N:Nat} {w:World} {b n:Nat} {xs:List Nat} {cs:Array Value} (h:OddIn N w b n xs cs) : 0<n:=by
 have:=h.odd.out
 rw [<- h.len.out]
 rcases Nat.eq_zero_or_pos xs.length with e | e
 · rw [List.length_eq_zero_iff.1 e] at this;simp [val] at this
 · exact e
theorem OddIn.kept {N:Nat} {w w':World} {b n:Nat} {xs:List Nat} {cs:Array Value} {row:Option Nat} (h:OddIn N w b n xs cs) (hg:w.grownBy w' row) (hr:some b≠row):OddIn N w' b n xs cs:=
 ⟨h.lo,h.blk.kept hg hr,h.lies,h.len,h.top,h.dig,h.odd,h.bnd⟩
theorem OddIn.size {N:Nat} {w:World} {b n:Nat} {xs:List Nat} {cs:Array Value} (h:OddIn N w b n xs cs):N<=w.heap.size:=Nat.le_trans h.lo (Nat.le_of_lt h.blk.lt)
theorem Tab.below {N:Nat} {w w':World} (h:Tab w) (hb:Below N w w') (hN : 2<N):Tab w':=by
 intro j hj
 have:=h j hj
 unfold World.cell? at *
 rw [hb.block 2 hN]
 exact this
theorem OddIn.one {N:Nat} {w:World} {b:Nat} {xs:List Nat} {cs:Array Value} (h:OddIn N w b 1 xs cs):∃ x,val B xs=x/\w.cell? ⟨b,0,none⟩=some (.int .u64 (x:Int))/\x<B/\x%2=1:=by
 obtain ⟨x,rfl⟩:=List.length_eq_one_iff.1 h.len.out
 have e:val B [x]=x:=by simp [val]
 refine ⟨x,e, ?_,h.dig x (by simp),by have:=h.odd.out;rw [e] at this;exact this⟩
 have:=h.blk.at h.lies 0 (by simp)
 simpa using this
theorem X8 {zs:List Nat} {k:Nat} {v:Nat} (h:val B (zs.take k)=v) (h0 : 0<v) : 0<k:=by
 rcases Nat.eq_zero_or_pos k with e | e
 · rw [e,List.take_zero] at h;simp [val] at h;omega
 · exact e
theorem one_lies (g:Nat):At #[.int .u64 (g:Int)] 0 [g]:=fun i hi=>by
 obtain rfl:i=0:=by simpa using hi
 rfl
def RetOdd (N:Nat) (w:World) (g n:Nat) (e:Ending) (w':World):Prop:=
 ∃ (s:Option Addr) (k:Nat) (zs:List Nat),e = .returned (.slice s k k)/\zs.length=k/\k<=n/\Rdo w' s zs/\Dig B zs/\val B zs=g/\Below N w w'
set_option maxHeartbeats 4000000 in
theorem oddGcd_any (w:World) (N px nx:Nat) (xs:List Nat) (cx:Array Value) (py ny:Nat) (ys:List Nat) (cy:Array Value) (hx:OddIn N w px nx xs cx) (hy:OddIn N w py ny ys cy) (hne:px≠py) (hN : 2<N) (hT:Tab w) (M:Nat) (hMx:nx<=M) (hMy:ny<=M) :
 Calls Tryz.prog 227 #[.slice (some ⟨px,0,none⟩) nx nx,.slice (some ⟨py,0,none⟩) ny ny] w (RetOdd N w (Nat.gcd (val B xs) (val B ys)) M):=by
 have HT:=Lib.hid hT
 obtain ⟨g,hg⟩:∃ g,Nat.gcd (val B xs) (val B ys)=g:=⟨_,rfl⟩
 rw [hg]
 have HG:=Lib.hid hg
 have hNs:=hx.size
 clear hg hT
 go_enter Tryz.func227,Tryz.ntmps227
 go_wp2_with fail
 go_loopg [0,1] (val B xs+val B ys) (fun gh a b wr=>∃ (px nx:Nat) (xs:List Nat) (cx:Array Value) (py ny:Nat) (ys:List Nat) (cy:Array Value),a = .slice (some ⟨px,0,none⟩) nx nx/\b = .slice (some ⟨py,0,none⟩) ny ny/\OddIn N wr px nx xs cx/\OddIn N wr py ny ys cy/\px≠py/\nx<=M/\ny<=M/\Hid (Nat.gcd (val B xs) (val B ys)=g)/\Below N w wr/\Hid (val B xs+val B ys<=gh))
 case atStart=>exact ⟨px,nx,xs,cx,py,ny,ys,cy,rfl,rfl,hx,hy,hne,hMx,hMy,HG,Below.refl _ _,Nat.le_refl _⟩
 case round=>
  clear hx hy hne HG hMx hMy
  obtain ⟨px,nx,xs,cx,py,ny,ys,cy,rfl,rfl,hx,hy,hne,hMx,hMy,hg,hb,hgh⟩:=hrel
  have hxp:=hx.pos
  have hyp:=hy.pos
  by_cases h1:nx=1/\ny=1
  · obtain ⟨rfl,rfl⟩:=h1
    obtain ⟨x,e1,c1,hxB,ox⟩:=hx.one
    obtain ⟨y,e2,c2,hyB,oy⟩:=hy.one
    rw [e1,e2] at hg
    have hTW:Hid (∀ W,wr.grownBy W none->Tab W):=fun W hW=>(HT.out.below hb hN).kept hW (by simp)
    have hBW:Hid (∀ W,wr.grownBy W none->Below N w W):=fun W hW=>hb.trans (I7 hW hx.size)
    clear hx hy hb
    go_wp2_with fail
    go_region_held3 (fun w'=>w'.cell? ⟨px,0,none⟩=some (.int .u64 (x:Int))/\w'.cell? ⟨py,0,none⟩=some (.int .u64 (y:Int)))
     (first | go_keep)
     (first | (go_at_call 248;(with_reducible refine (lX wr.drew x y hxB hyB ox oy (hTW.out _ (C4 (B0 _ _)))).mono ?_);rintro e w' ⟨rfl,rfl⟩))
    go_wp2_with fail
    go_ret
    have hox : 0<x:=by omega
    have hgxB:Nat.gcd x y<B:=Nat.lt_of_le_of_lt (Nat.gcd_le_left y hox) hxB
    exact ⟨_,1,[Nat.gcd x y],rfl,rfl,hMx,Rdo.of (Blk.drew (iJ _ _)) (one_lies _),Dig.cons hgxB (Dig.nil _),by simp [val];exact hg.out,hBW.out _ (C4 (World.grownBy_alloc _ _ _))⟩
  · have hh:decide ((1:Int)<(nx:Int))=true\/(decide ((1:Int)<(nx:Int))=false/\decide ((1:Int)<(ny:Int))=true):=by
     by_cases h2 : 1<nx
     · exact Or.inl (decide_eq_true (by omega))
     · exact Or.inr ⟨decide_eq_false (by omega),decide_eq_true (by omega)⟩
    clear h1
    rcases hh with f1 | ⟨f1,f2⟩
    all_goals
     rcases Nat.lt_trichotomy (val B ys) (val B xs) with h | h | h
     · have B1:val B ys<val B xs:=h
       have t2:G3 (val B xs) (val B ys)=1:=R5 B1
       have T2:=Lib.hid t2
       have HM:=Lib.hid B1
       have hyl:ny<=nx:=by have:=cL hy.lm hx.lm (Nat.le_of_lt B1);rw [hy.len.out,hx.len.out] at this;exact this
       clear t2 B1 h
       go_wp2_with fail
       refine (dY _ _ _ nx ny xs ys hx.len.out hy.len.out hx.lm hy.lm (by have:=hx.bnd;omega) (by have:=hy.bnd;omega)).mono ?_
       rintro e w' ⟨rfl,q,rfl⟩
       rw [T2.out]
       have hx1:=hx.kept (C1 wr q none) (by simp)
       have hy1:=hy.kept (C1 wr q none) (by simp)
       have hb1:=hb.trans (I7 (C1 wr q none) (Nat.le_trans hNs hb.size))
       generalize wr.drewN q=w1 at *
       clear hx hy hb
       go_wp2_with fail
       refine (aZ w1 px 0 nx nx xs cx (some ⟨py,0,none⟩) ny ny ys hx1.len.out hy1.len.out hx1.blk hx1.lies (Or.inr ⟨py,0,cy,rfl,Ne.symm hne,hy1.blk,hy1.lies⟩) hyl (by have:=hx1.bnd;omega) hx1.dig hy1.dig (Nat.le_of_lt HM.out)).mono ?_
       rintro e w2 ⟨zs,cs2,rfl,hk2,hw2,hg2,hl2,hd2,hv2⟩
       have hy2:=hy1.kept hg2 (by simp;omega)
       have hb2:=hb1.trans (Z0 hg2 hx1.lo hx1.size)
       have hlo:=hx1.lo
       have hbx:=hx1.bnd
       have hsz2:=hy2.size
       have hln2:zs.length=nx:=hl2.trans hx1.len.out
       have HL2:=Lib.hid hln2
       have hev:Hid (val B zs%2=0/\0<val B zs/\val B zs=val B xs-val B ys):=by
        have h3:=hx1.odd.out;have h4:=hy1.odd.out;have h5:=HM.out
        refine ⟨?_, ?_, ?_⟩<;>omega
       have HOY:=hy1.odd
       clear hg2 hl2 hln2 hv2 hb1 hx1 hy1
       go_wp2_with fail
       refine (dX w2 (some ⟨px,0,none⟩) nx nx zs HL2.out (Rdo.of hk2 hw2.lies) (by omega) (Nat.le_refl _)).mono ?_
       rintro e w3 ⟨k,hk,rfl,ht3,hv3,rfl⟩
       have hkp : 0<k:=X8 hv3 hev.out.2.1
       rw [eB hkp]
       have hlk:(zs.take k).length=k:=by rw [List.length_take];omega
       have HLK:=Lib.hid hlk
       have hkn:k<=nx:=by rw [HL2.out] at hk;exact hk
       have hat3:=hw2.lies.take k
       have hd3:=hd2.take k
       have HV3:=Lib.hid hv3
       have hT2:=HT.out.below hb2 hN
       clear hv3 hk hlk
       go_wp2_with fail
       refine (eD w2 _ k k (zs.take k) HLK.out (Rdo.of hk2 hat3) hd3 (by rw [HV3.out];exact hev.out.2.1) (by omega) hT2).mono ?_
       rintro e w3 ⟨tt,mm,rfl,hf3,htt,rfl⟩
       have HF3:=Lib.hid hf3
       clear hf3
       go_wp2_with fail
       refine (Y3 w2 px 0 k k (zs.take k) cs2 tt HLK.out hk2 hat3 hd3 (Nat.le_refl _) (by omega) (by omega)).mono ?_
       rintro e w4 ⟨s4,m4,cap4,cs4,zs4,rfl,hm4,hl4,hlx4,hd4,hv4,hs4,_,hk4,hat4,hg4⟩
       have hv4':val B zs4=2*mm+1:=by rw [hv4,HF3.out];exact Nat.mul_div_cancel_left _ (Nat.two_pow_pos tt)
       have hp4 : 0<m4:=by
        rcases Nat.eq_zero_or_pos m4 with e | e
        · rw [List.length_eq_zero_iff.1 (hl4.trans e)] at hv4';simp [val] at hv4'
        · exact e
       obtain rfl:=hs4 hp4
       have hy4:=hy2.kept hg4 (by simp;omega)
       have hb4:=hb2.trans (Z0 hg4 hlo hsz2)
       have hm4k:m4<=k:=by rw [HLK.out] at hlx4;exact hlx4
       have HL4:=Lib.hid hl4
       have HV4:=Lib.hid hv4'
       clear hv4 hv4' hl4 hs4 hg4 hy2 hb2 hlx4 hk2 hw2 hd2 hat3 hd3 hT2
       go_wp2_with fail
       refine (dX w4 (some ⟨px,0,none⟩) m4 cap4 zs4 HL4.out (Rdo.of hk4 hat4) (by omega) hm4).mono ?_
       rintro e w5 ⟨k5,hk5,rfl,ht5,hv5,rfl⟩
       have hkp5 : 0<k5:=X8 hv5 (by rw [HV4.out];omega)
       rw [eB hkp5]
       have hk5m:k5<=m4:=by rw [HL4.out] at hk5;exact hk5
       have hlk5:(zs4.take k5).length=k5:=by rw [List.length_take];omega
       have hnew:OddIn N w4 px k5 (zs4.take k5) cs4:=⟨hlo,hk4,hat4.take k5,hlk5,ht5,hd4.take k5,by show _=_;rw [hv5,HV4.out];omega,by omega⟩
       have hgn:Hid (Nat.gcd (val B (zs4.take k5)) (val B ys)=g):=by
        show _=_
        have h6:=hev.out.2.2
        rw [<- HV3.out,HF3.out] at h6
        rw [hv5,HV4.out,eZ HOY.out HM.out h6.symm];exact hg.out
       have hms:Hid (val B (zs4.take k5)+val B ys<gk):=by
        show _<_
        have h6:=hev.out.2.2
        have h7:=HV3.out
        have h8 : 2*mm+1<=2^tt*(2*mm+1):=Nat.le_mul_of_pos_left _ (Nat.two_pow_pos tt)
        have h9:=HF3.out
        have h10:=HM.out
        have h11:val B ys%2=1:=HOY.out
        have h12:=hgh.out
        rw [hv5,HV4.out];omega
       clear hv5 hlk5 hk5 ht5 hk4 hat4 hd4
       go_wp2_with fail
       go_roundg (val B (zs4.take k5)+val B ys)
       case measure=>exact hms.out
       case rel=>exact ⟨px,k5,zs4.take k5,cs4,py,ny,ys,cy,rfl,rfl,hnew,hy4,hne,by omega,hMy,hgn,hb4,Nat.le_refl _⟩
     · have t2:G3 (val B xs) (val B ys)=0:=Y8 h.symm
       have T2:=Lib.hid t2
       have hgx:val B xs=g:=by rw [<- hg.out, <- h,Nat.gcd_self]
       have HGX:=Lib.hid hgx
       clear t2 h hgx
       go_wp2_with fail
       refine (dY _ _ _ nx ny xs ys hx.len.out hy.len.out hx.lm hy.lm (by have:=hx.bnd;omega) (by have:=hy.bnd;omega)).mono ?_
       rintro e w' ⟨rfl,q,rfl⟩
       rw [T2.out]
       have hF:Hid (RetOdd N w g M (.returned (.slice (some ⟨px,0,none⟩) nx nx)) (wr.drewN q)):=⟨_,nx,xs,rfl,hx.len.out,hMx,(Rdo.of hx.blk hx.lies).kept (C1 _ _ _),hx.dig,HGX.out,hb.trans (I7 (C1 wr q none) (Nat.le_trans hNs hb.size))⟩
       go_wp2_with fail
       go_ret
       exact hF
     · have B1:val B xs<val B ys:=h
       have t2:G3 (val B xs) (val B ys) = -1:=R4 B1
       have T2:=Lib.hid t2
       have HM:=Lib.hid B1
       have hyl:nx<=ny:=by have:=cL hx.lm hy.lm (Nat.le_of_lt B1);rw [hx.len.out,hy.len.out] at this;exact this
       clear t2 B1 h
       go_wp2_with fail
       refine (dY _ _ _ nx ny xs ys hx.len.out hy.len.out hx.lm hy.lm (by have:=hx.bnd;omega) (by have:=hy.bnd;omega)).mono ?_
       rintro e w' ⟨rfl,q,rfl⟩
       rw [T2.out]
       have hx1:=hx.kept (C1 wr q none) (by simp)
       have hy1:=hy.kept (C1 wr q none) (by simp)
       have hb1:=hb.trans (I7 (C1 wr q none) (Nat.le_trans hNs hb.size))
       generalize wr.drewN q=w1 at *
       clear hx hy hb
       go_wp2_with fail
       refine (aZ w1 py 0 ny ny ys cy (some ⟨px,0,none⟩) nx nx xs hy1.len.out hx1.len.out hy1.blk hy1.lies (Or.inr ⟨px,0,cx,rfl,hne,hx1.blk,hx1.lies⟩) hyl (by have:=hy1.bnd;omega) hy1.dig hx1.dig (Nat.le_of_lt HM.out)).mono ?_
       rintro e w2 ⟨zs,cs2,rfl,hk2,hw2,hg2,hl2,hd2,hv2⟩
       have hy2:=hx1.kept hg2 (by simp;omega)
       have hb2:=hb1.trans (Z0 hg2 hy1.lo hy1.size)
       have hlo:=hy1.lo
       have hbx:=hy1.bnd
       have hsz2:=hy2.size
       have hln2:zs.length=ny:=hl2.trans hy1.len.out
       have HL2:=Lib.hid hln2
       have hev:Hid (val B zs%2=0/\0<val B zs/\val B zs=val B ys-val B xs):=by
        have h3:=hy1.odd.out;have h4:=hx1.odd.out;have h5:=HM.out
        refine ⟨?_, ?_, ?_⟩<;>omega
       have HOY:=hx1.odd
       clear hg2 hl2 hln2 hv2 hb1 hx1 hy1
       go_wp2_with fail
       refine (dX w2 (some ⟨py,0,none⟩) ny ny zs HL2.out (Rdo.of hk2 hw2.lies) (by omega) (Nat.le_refl _)).mono ?_
       rintro e w3 ⟨k,hk,rfl,ht3,hv3,rfl⟩
       have hkp : 0<k:=X8 hv3 hev.out.2.1
       rw [eB hkp]
       have hlk:(zs.take k).length=k:=by rw [List.length_take];omega
       have HLK:=Lib.hid hlk
       have hkn:k<=ny:=by rw [HL2.out] at hk;exact hk
       have hat3:=hw2.lies.take k
       have hd3:=hd2.take k
       have HV3:=Lib.hid hv3
       have hT2:=HT.out.below hb2 hN
       clear hv3 hk hlk
       go_wp2_with fail
       refine (eD w2 _ k k (zs.take k) HLK.out (Rdo.of hk2 hat3) hd3 (by rw [HV3.out];exact hev.out.2.1) (by omega) hT2).mono ?_
       rintro e w3 ⟨tt,mm,rfl,hf3,htt,rfl⟩
       have HF3:=Lib.hid hf3
       clear hf3
       go_wp2_with fail
       refine (Y3 w2 py 0 k k (zs.take k) cs2 tt HLK.out hk2 hat3 hd3 (Nat.le_refl _) (by omega) (by omega)).mono ?_
       rintro e w4 ⟨s4,m4,cap4,cs4,zs4,rfl,hm4,hl4,hlx4,hd4,hv4,hs4,_,hk4,hat4,hg4⟩
       have hv4':val B zs4=2*mm+1:=by rw [hv4,HF3.out];exact Nat.mul_div_cancel_left _ (Nat.two_pow_pos tt)
       have hp4 : 0<m4:=by
        rcases Nat.eq_zero_or_pos m4 with e | e
        · rw [List.length_eq_zero_iff.1 (hl4.trans e)] at hv4';simp [val] at hv4'
        · exact e
       obtain rfl:=hs4 hp4
       have hy4:=hy2.kept hg4 (by simp;omega)
       have hb4:=hb2.trans (Z0 hg4 hlo hsz2)
       have hm4k:m4<=k:=by rw [HLK.out] at hlx4;exact hlx4
       have HL4:=Lib.hid hl4
       have HV4:=Lib.hid hv4'
       clear hv4 hv4' hl4 hs4 hg4 hy2 hb2 hlx4 hk2 hw2 hd2 hat3 hd3 hT2
       go_wp2_with fail
       refine (dX w4 (some ⟨py,0,none⟩) m4 cap4 zs4 HL4.out (Rdo.of hk4 hat4) (by omega) hm4).mono ?_
       rintro e w5 ⟨k5,hk5,rfl,ht5,hv5,rfl⟩
       have hkp5 : 0<k5:=X8 hv5 (by rw [HV4.out];omega)
       rw [eB hkp5]
       have hk5m:k5<=m4:=by rw [HL4.out] at hk5;exact hk5
       have hlk5:(zs4.take k5).length=k5:=by rw [List.length_take];omega
       have hnew:OddIn N w4 py k5 (zs4.take k5) cs4:=⟨hlo,hk4,hat4.take k5,hlk5,ht5,hd4.take k5,by show _=_;rw [hv5,HV4.out];omega,by omega⟩
       have hgn:Hid (Nat.gcd (val B (zs4.take k5)) (val B xs)=g):=by
        show _=_
        have h6:=hev.out.2.2
        rw [<- HV3.out,HF3.out] at h6
        rw [hv5,HV4.out,eZ HOY.out HM.out h6.symm,Nat.gcd_comm];exact hg.out
       have hms:Hid (val B (zs4.take k5)+val B xs<gk):=by
        show _<_
        have h6:=hev.out.2.2
        have h7:=HV3.out
        have h8 : 2*mm+1<=2^tt*(2*mm+1):=Nat.le_mul_of_pos_left _ (Nat.two_pow_pos tt)
        have h9:=HF3.out
        have h10:=HM.out
        have h11:val B xs%2=1:=HOY.out
        have h12:=hgh.out
        rw [hv5,HV4.out];omega
       clear hv5 hlk5 hk5 ht5 hk4 hat4 hd4
       go_wp2_with fail
       go_roundg (val B (zs4.take k5)+val B xs)
       case measure=>exact hms.out
       case rel=>exact ⟨py,k5,zs4.take k5,cs4,px,nx,xs,cx,rfl,rfl,hnew,hy4,Ne.symm hne,by omega,hMx,hgn,hb4,Nat.le_refl _⟩
structure OwnLm (N:Nat) (w:World) (s:Option Addr) (n cap:Nat) (xs:List Nat) (K:Nat):Prop where
 lm:Lm w s xs
 len:Hid (xs.length=n)
 capn:n<=cap
 cap0:n=0->cap=0
 fr:FreshAt N s
 bnd:n<=K
def Apart (s t:Option Addr):Prop:=∀ a b,s=some a->t=some b->a.block≠b.block
theorem Apart.symm {s t:Option Addr} (h:Apart s t):Apart t s:=fun a b e1 e2=>Ne.symm (h b a e2 e1)
theorem qP {w:World} {s t:Option Addr} {xs:List Nat} (h:Lm w s xs) (k:FreshAt w.heap.size t):Apart s t:=by
 intro a b e1 e2
 have h1:=h.lt e1
 have h2:=(k b e2).1
 omega
theorem OwnLm.kept {N K:Nat} {w w':World} {s:Option Addr} {n cap:Nat} {xs:List Nat} (h:OwnLm N w s n cap xs K) (hg:w.grownBy w' none):OwnLm N w' s n cap xs K:=
 ⟨h.lm.kept hg,h.len,h.capn,h.cap0,h.fr,h.bnd⟩
theorem gcd_twos (k m a b:Nat):Nat.gcd (2^k*(2*a+1)) (2^m*(2*b+1))=Nat.gcd (2*a+1) (2*b+1)*2^(min k m):=by
 have co:∀ (t c:Nat),Nat.Coprime (2^t) (2*c+1):=by
  intro t c
  apply Nat.Coprime.pow_left
  unfold Nat.Coprime
  rw [Nat.gcd_rec,show (2*c+1)%2=1 from by omega]
  rfl
 rcases Nat.le_total k m with h | h
 · obtain ⟨d,rfl⟩:∃ d,m=k+d:=⟨m-k,by omega⟩
   rw [Nat.min_eq_left h,Nat.pow_add,Nat.mul_assoc,Nat.gcd_mul_left,Nat.mul_comm (2^k)]
   congr 1
   rw [Nat.gcd_comm,Nat.Coprime.gcd_mul_left_cancel _ (co d a),Nat.gcd_comm]
 · obtain ⟨d,rfl⟩:∃ d,k=m+d:=⟨k-m,by omega⟩
   rw [Nat.min_eq_right h,Nat.pow_add,Nat.mul_assoc,Nat.gcd_mul_left,Nat.mul_comm (2^m)]
   congr 1
   rw [Nat.Coprime.gcd_mul_left_cancel _ (co d b)]
def Copies (W:World) (N K:Nat) (xs ys:List Nat) (nx ny:Nat) (u v:Value) (wx:World):Prop:=
 ∃ sx cx sy cy,u = .slice sx nx cx/\v = .slice sy ny cy/\OwnLm N wx sx nx cx xs K/\OwnLm N wx sy ny cy ys K/\Apart sx sy/\W.grownBy wx none
set_option maxHeartbeats 8000000 in
theorem Gcd_any (w:World) (va vb:Value) (a b K:Nat) (ha:NatV w va a) (hb:NatV w vb b) (hK:K<=1073741000) (la:a<B^K) (lb:b<B^K) (hT:Tab w) :
 Calls Tryz.prog 178 #[va,vb] w (RetNat w (Nat.gcd a b)):=by
 obtain ⟨sa,xs,rfl,hx,rfl⟩:=ha
 obtain ⟨sb,ys,rfl,hy,rfl⟩:=hb
 have h1:=hx.len la
 have h2:=hy.len lb
 have h2s:=hT.size
 have HT:=Lib.hid hT
 obtain ⟨g,hg⟩:∃ g,Nat.gcd (val B xs) (val B ys)=g:=⟨_,rfl⟩
 rw [hg]
 have HG:=Lib.hid hg
 obtain ⟨nx,hnx⟩:∃ n,xs.length=n:=⟨_,rfl⟩
 obtain ⟨ny,hny⟩:∃ n,ys.length=n:=⟨_,rfl⟩
 rw [hnx] at h1 ⊢
 rw [hny] at h2 ⊢
 have HNX:=Lib.hid hnx
 have HNY:=Lib.hid hny
 clear hg la lb hT hnx hny
 have hgw0:w.grownBy (((w.alloc (.cells #[.slice sa nx nx] 44)).alloc (.cells #[.slice sb ny ny] 44)).alloc (.cells #[.slice none 0 0] 44)) none:=A7 (A7 (World.grownBy_alloc _ _ _) _) _
 have hbox0:=A8 ((w.alloc (.cells #[.slice sa nx nx] 44)).alloc (.cells #[.slice sb ny ny] 44)) (.cells #[.slice none 0 0] 44) (w.heap.size+1+1) (by simp)
 have hboxb0:=(Below.heap_alloc _ (.cells #[.slice none 0 0] 44) (w.heap.size+1) (by simp)).trans (A8 (w.alloc (.cells #[.slice sa nx nx] 44)) (.cells #[.slice sb ny ny] 44) (w.heap.size+1) (by simp))
 have hboxa0:=((Below.heap_alloc _ (.cells #[.slice none 0 0] 44) w.heap.size (by simp;omega)).trans (Below.heap_alloc _ (.cells #[.slice sb ny ny] 44) w.heap.size (by simp))).trans (A8 w (.cells #[.slice sa nx nx] 44) w.heap.size rfl)
 have hs0:(((w.alloc (.cells #[.slice sa nx nx] 44)).alloc (.cells #[.slice sb ny ny] 44)).alloc (.cells #[.slice none 0 0] 44)).heap.size=w.heap.size+1+1+1:=by simp
 go_enter Tryz.func178,Tryz.ntmps178
 go_wp2_with fail
 generalize (((w.alloc (.cells #[.slice sa nx nx] 44)).alloc (.cells #[.slice sb ny ny] 44)).alloc (.cells #[.slice none 0 0] 44))=w0 at *
 have hx0:=hx.kept hgw0
 have hy0:=hy.kept hgw0
 obtain ⟨ca,fa⟩:=B7 hboxa0
 obtain ⟨cb,fb⟩:=B7 hboxb0
 have HX0:∀ W,w0.grownBy W none->Lm W sa xs:=fun W hW=>hx0.kept hW
 have HY0:∀ W,w0.grownBy W none->Lm W sb ys:=fun W hW=>hy0.kept hW
 have HX0:=Lib.hid HX0
 have HY0:=Lib.hid HY0
 clear hx0 hy0
 have hfld:=run_field
 go_cut [5,6] (fun u v wx=>Copies w0 w0.heap.size K xs ys nx ny u v wx)
 case first=>
  go_region_held3 (fun w'=>w'.cell? ⟨w.heap.size,0,none⟩=some (.slice sa nx nx)/\w'.cell? ⟨w.heap.size+1,0,none⟩=some (.slice sb ny ny))
   (first | go_keep | exact ⟨hG1.cell ca (by simp),hG1.cell cb (by simp)⟩ | exact ⟨hG2.cell ca (by simp),hG2.cell cb (by simp)⟩)
   (first
    | (go_at_call 218;(with_reducible refine (fV w0.drew sa nx xs HNX.out (HX0.out _ (C4 (B0 _ _))) (by omega)).mono ?_);rintro e w1 ⟨s1,c1,rfl,hl1,hc1,hz1,hf1,hg1⟩;have hG1:=H5 w0 hg1 rfl rfl rfl rfl)
    | (go_at_call 218;(with_reducible refine (fV w0.drew sb ny ys HNY.out (HY0.out _ (C4 (B0 _ _))) (by omega)).mono ?_);rintro e w1 ⟨s1,c1,rfl,hl1,hc1,hz1,hf1,hg1⟩;have hG1:=H5 w0 hg1 rfl rfl rfl rfl)
    | (go_at_call 218;(with_reducible refine (fV w1 sa nx xs HNX.out (HX0.out _ hG1) (by omega)).mono ?_);rintro e w2 ⟨s2,c2,rfl,hl2,hc2,hz2,hf2,hg2⟩;have hG2:=A2 hG1 hg2)
    | (go_at_call 218;(with_reducible refine (fV w1 sb ny ys HNY.out (HY0.out _ hG1) (by omega)).mono ?_);rintro e w2 ⟨s2,c2,rfl,hl2,hc2,hz2,hf2,hg2⟩;have hG2:=A2 hG1 hg2))
  go_wp2_with fail
  go_meet
  exact ⟨s1,c1,s2,c2,rfl,rfl,⟨hl1.kept hg2,HNX,hc1,hz1,hf1,h1⟩,⟨hl2,HNY,hc2,hz2,hf2.mono hG1.size,h2⟩,qP hl1 hf2,hG2⟩
 case rest=>
  obtain ⟨sx,cx,sy,cy,rfl,rfl,hox,hoy,hap,hgc⟩:=hcut
  have hbox:=A1 hgc hbox0
  have hgw:=A2 hgw0 hgc
  clear HX0 HY0 hgc hbox0 hboxa0 hboxb0 ca fa cb fb hx hy hfld
  generalize w0.heap.size=N at *
  go_wp2_with fail
  go_loopg [5,6] (val B ys) (fun gh a b wr=>∃ (sx:Option Addr) (nx cx:Nat) (xs:List Nat) (sy:Option Addr) (ny cy:Nat) (ys:List Nat),a = .slice sx nx cx/\b = .slice sy ny cy/\OwnLm N wr sx nx cx xs K/\OwnLm N wr sy ny cy ys K/\Apart sx sy/\Hid (Nat.gcd (val B xs) (val B ys)=g)/\w.grownBy wr none/\wr.heap[w.heap.size+1+1]?=some (.cells #[.slice none 0 0] 44 (0,0))/\Hid (val B ys<=gh))
  case atStart=>exact ⟨sx,nx,cx,xs,sy,ny,cy,ys,rfl,rfl,hox,hoy,hap,HG,hgw,hbox,Nat.le_refl _⟩
  case round=>
   clear hox hoy hap HG hgw hbox HNX HNY h1 h2
   obtain ⟨sx,nx,cx,xs,sy,ny,cy,ys,rfl,rfl,hx,hy,hap,hg,hgw,hbox,hgh⟩:=hrel
   have bx:=hx.bnd
   have byy:=hy.bnd
   have hNr:N<=wr.heap.size:=by have:=(Array.getElem?_eq_some_iff.1 hbox).1;omega
   rcases Nat.eq_zero_or_pos ny with h0 | h0
   · subst h0
     obtain rfl:ys=[]:=List.length_eq_zero_iff.1 hy.len.out
     have hgx:Hid (val B xs=g):=by show _=_;rw [<- hg.out];simp [val]
     clear hy hap hg hgh
     go_wp2_with fail
     refine (gF _ sx nx cx xs hx.len.out hx.lm.rd (by omega) hx.capn hx.lm.dig).mono ?_
     rintro e w4 ⟨v,rfl,⟨sc,zs,rfl,hl4,hv4⟩,hg4⟩
     have hbox4:=A1 hg4 hbox
     obtain ⟨hc4,hf4⟩:=B7 hbox4
     have hF:=Lib.hid (eR (A2 hgw hg4) hbox4 (by decide) (by omega) hl4 (hv4.trans hgx.out) (.slice sc zs.length zs.length))
     clear hv4 hbox4 hbox hg4 hgw
     go_wp2_with fail
     exact bodyPost_ret (v := .agg #[.slice sc zs.length zs.length]) (by simp [results,Tryz.results178,go_sem,hc4]) rfl hF.out
   · by_cases hne:nx=ny
     · subst hne
       have f1:((nx:Int) != (nx:Int))=false:=by simp
       have f2:((nx:Int) == 0)=false:=beq_eq_false_iff_ne.2 (by omega)
       have hxp : 0<val B xs:=hx.lm.pos (by rw [hx.len.out];exact h0)
       have hyp : 0<val B ys:=hy.lm.pos (by rw [hy.len.out];exact h0)
       have hTr:=HT.out.kept hgw (by simp)
       have HTr:=Lib.hid hTr
       obtain ⟨px,ox,csx,rfl,hbx,hatx⟩:=hx.lm.rd.get 0 (by rw [hx.len.out];exact h0)
       obtain ⟨py,oy,csy,rfl,hby,haty⟩:=hy.lm.rd.get 0 (by rw [hy.len.out];exact h0)
       clear hTr
       go_wp2_with fail
       refine (eD wr _ nx cx xs hx.len.out hx.lm.rd hx.lm.dig hxp (by omega) HTr.out).mono ?_
       rintro e w' ⟨k,ma,rfl,hka,hkl,rfl⟩
       have HKA:=Lib.hid hka
       clear hka
       go_wp2_with fail
       refine (eD wr _ nx cy ys hy.len.out hy.lm.rd hy.lm.dig hyp (by omega) HTr.out).mono ?_
       rintro e w' ⟨m,mb,rfl,hkb,hml,rfl⟩
       have HKB:=Lib.hid hkb
       clear hkb
       obtain rfl:ox=0:=by have:=(hx.fr _ rfl).2;simpa using this
       obtain rfl:oy=0:=by have:=(hy.fr _ rfl).2;simpa using this
       have hpx:N<=px:=(hx.fr _ rfl).1
       have hpy:N<=py:=(hy.fr _ rfl).1
       have hpne:px≠py:=hap _ _ rfl rfl
       have hNs:=hNr
       go_wp2_with fail
       refine (Y3 wr px 0 nx cx xs csx k hx.len.out hbx hatx hx.lm.dig hx.capn (by omega) (by omega)).mono ?_
       rintro e w4 ⟨s4,m4,cap4,cs4,zs4,rfl,hm4,hl4,hlx4,hd4,hv4,hs4,_,hk4,hat4,hg4⟩
       have hv4':val B zs4=2*ma+1:=by rw [hv4,HKA.out];exact Nat.mul_div_cancel_left _ (Nat.two_pow_pos k)
       have hp4 : 0<m4:=by
        rcases Nat.eq_zero_or_pos m4 with e | e
        · rw [List.length_eq_zero_iff.1 (hl4.trans e)] at hv4';simp [val] at hv4'
        · exact e
       obtain rfl:=hs4 hp4
       have hby4:=hby.kept hg4 (by simp;omega)
       have hbox4:=M6 hg4 hbox (by omega)
       have hgw4:=D6 hgw hg4 (by omega)
       have hm4k:m4<=nx:=by rw [hx.len.out] at hlx4;exact hlx4
       have HL4:=Lib.hid hl4
       have HV4:=Lib.hid hv4'
       clear hv4 hv4' hl4 hs4 hg4 hlx4 hbx hatx hbox hgw hby HTr hNr
       go_wp2_with fail
       refine (dX w4 (some ⟨px,0,none⟩) m4 cap4 zs4 HL4.out (Rdo.of hk4 hat4) (by omega) hm4).mono ?_
       rintro e w5 ⟨k5,hk5,rfl,ht5,hv5,rfl⟩
       have hkp5 : 0<k5:=X8 hv5 (by rw [HV4.out];omega)
       rw [eB hkp5]
       have hk5m:k5<=m4:=by rw [HL4.out] at hk5;exact hk5
       have hlk5:(zs4.take k5).length=k5:=by rw [List.length_take];omega
       have hX:OddIn N w4 px k5 (zs4.take k5) cs4:=⟨hpx,hk4,hat4.take k5,hlk5,ht5,hd4.take k5,by show _=_;rw [hv5,HV4.out];omega,by omega⟩
       have HVX:Hid (val B (zs4.take k5)=2*ma+1):=hv5.trans HV4.out
       clear hv5 hlk5 hk5 ht5 hk4 hat4 hd4 HV4 HL4
       go_wp2_with fail
       refine (Y3 w4 py 0 nx cy ys csy m hy.len.out hby4 haty hy.lm.dig hy.capn (by omega) (by omega)).mono ?_
       rintro e w6 ⟨s6,m6,cap6,cs6,zs6,rfl,hm6,hl6,hlx6,hd6,hv6,hs6,_,hk6,hat6,hg6⟩
       have hv6':val B zs6=2*mb+1:=by rw [hv6,HKB.out];exact Nat.mul_div_cancel_left _ (Nat.two_pow_pos m)
       have hp6 : 0<m6:=by
        rcases Nat.eq_zero_or_pos m6 with e | e
        · rw [List.length_eq_zero_iff.1 (hl6.trans e)] at hv6';simp [val] at hv6'
        · exact e
       obtain rfl:=hs6 hp6
       have hX6:=hX.kept hg6 (by simp;omega)
       have hbox6:=M6 hg6 hbox4 (by omega)
       have hgw6:=D6 hgw4 hg6 (by omega)
       have hm6k:m6<=nx:=by rw [hy.len.out] at hlx6;exact hlx6
       have HL6:=Lib.hid hl6
       have HV6:=Lib.hid hv6'
       clear hv6 hv6' hl6 hs6 hg6 hlx6 hby4 haty hbox4 hgw4 hX
       go_wp2_with fail
       refine (dX w6 (some ⟨py,0,none⟩) m6 cap6 zs6 HL6.out (Rdo.of hk6 hat6) (by omega) hm6).mono ?_
       rintro e w7 ⟨k7,hk7,rfl,ht7,hv7,rfl⟩
       have hkp7 : 0<k7:=X8 hv7 (by rw [HV6.out];omega)
       rw [eB hkp7]
       have hk7m:k7<=m6:=by rw [HL6.out] at hk7;exact hk7
       have hlk7:(zs6.take k7).length=k7:=by rw [List.length_take];omega
       have hY:OddIn N w6 py k7 (zs6.take k7) cs6:=⟨hpy,hk6,hat6.take k7,hlk7,ht7,hd6.take k7,by show _=_;rw [hv7,HV6.out];omega,by omega⟩
       have HVY:Hid (val B (zs6.take k7)=2*mb+1):=hv7.trans HV6.out
       have HT6:=Lib.hid (HT.out.kept hgw6 (by simp))
       clear hv7 hlk7 hk7 ht7 hk6 hat6 hd6 HV6 HL6
       go_wp2_with fail
       refine (oddGcd_any w6 N px k5 (zs4.take k5) cs4 py k7 (zs6.take k7) cs6 hX6 hY hpne (by omega) HT6.out K (by omega) (by omega)).mono ?_
       rintro e w8 ⟨s8,k8,zs8,rfl,hl8,hk8,hr8,hd8,hv8,hb8⟩
       rw [HVX.out,HVY.out] at hv8
       have hbox8:=K8 hb8 hbox6 (by omega)
       have hgw8:=K1 hgw6 hb8 (by omega)
       have HV8:=Lib.hid hv8
       have HL8:=Lib.hid hl8
       clear hv8 hl8 hb8 hX6 hY hbox6 hgw6 HT6 hm4 hm6
       go_wp2_with fail
       obtain ⟨q,hq⟩:∃ q,min k m=q:=⟨_,rfl⟩
       rw [show min (k:Int) (m:Int)=(q:Int) from by omega]
       refine (dR w8 s8 k8 k8 zs8 q HL8.out hr8 hd8 (by omega) (by omega)).mono ?_
       rintro e w9 ⟨g9,n9,cs9,zs9,rfl,hge9,hb9,hat9,hl9,hn9,hd9,hv9,hg9⟩
       have hn9':n9<=4000000000:=by rw [hn9,HL8.out];omega
       have hbox9:=A1 hg9 hbox8
       have hgw9:=A2 hgw8 hg9
       have HV9:Hid (val B zs9=g):=by
        show _=_
        rw [hv9,HV8.out, <- hq, <- gcd_twos k m ma mb, <- HKA.out, <- HKB.out];exact hg.out
       have HL9:=Lib.hid hl9
       clear hn9 hl9 hv9 hge9 hg9 hbox8 hgw8 hr8 hd8 hk8
       go_wp2_with fail
       refine (gF w9 _ n9 n9 zs9 HL9.out (Rdo.of hb9 hat9) (by omega) (Nat.le_refl _) hd9).mono ?_
       rintro e w10 ⟨v,rfl,⟨sc,zs,rfl,hl10,hv10⟩,hg10⟩
       have hbox10:=A1 hg10 hbox9
       obtain ⟨hc10,hf10⟩:=B7 hbox10
       have hF:=Lib.hid (eR (A2 hgw9 hg10) hbox10 (by decide) (by omega) hl10 (hv10.trans HV9.out) (.slice sc zs.length zs.length))
       clear hv10 hbox10 hbox9 hg10 hgw9 hb9 hat9
       go_wp2_with fail
       exact bodyPost_ret (v := .agg #[.slice sc zs.length zs.length]) (by simp [results,Tryz.results178,go_sem,hc10]) rfl hF.out
     · have f1:((nx:Int) != (ny:Int))=true:=by simp;omega
       have hyp : 0<val B ys:=hy.lm.pos (by rw [hy.len.out];exact h0)
       go_wp2_with fail
       refine (mZ wr sx sy nx cx ny cy xs ys hx.lm hy.lm hx.len.out hy.len.out h0 hx.cap0 hx.capn (by omega) (by omega)).mono ?_
       rintro e w3 ⟨sq,sr,nq,cq,nr,cr,qs,rs,rfl,hlq,hcq,hnq,hlr,hcr,hnr,hrq,hrr,hdq,hdr,hvq,hvr,hg3,hfr⟩
       have hbox3:=A1 hg3 hbox
       have hgw3:=A2 hgw hg3
       have hy3:=hy.kept hg3
       have hfrN:FreshAt N sr:=hfr.mono hNr
       have hap3:Apart sy sr:=qP hy.lm hfr
       have HVR:=Lib.hid hvr
       have HLR:=Lib.hid hlr
       clear hlq hcq hnq hrq hdq hvq hvr hlr hg3 hfr hbox hgw hap hx
       go_wp2_with fail
       refine (dX w3 sr nr cr rs HLR.out hrr (by omega) hcr).mono ?_
       rintro e w4 ⟨k,hk,rfl,ht,hv,rfl⟩
       have hkl:(rs.take k).length=k:=by rw [List.length_take];omega
       have hvm:Hid (val B (rs.take k)=val B xs%val B ys):=hv.trans HVR.out
       have hlm:Lm w3 (Sa sr k) (rs.take k):=⟨hrr.take k,by intro e;rw [e] at hkl;simp at hkl;rw [<- hkl];rfl,ht,hdr.take k⟩
       have hlt:Hid (val B (rs.take k)<val B ys):=by show _<_;rw [hvm.out];exact Nat.mod_lt _ hyp
       have hkK:k<=K:=by
        have:=cL hlm hy3.lm (Nat.le_of_lt hlt.out)
        rw [hkl,hy3.len.out] at this
        omega
       have hnew:OwnLm N w3 (Sa sr k) k k (rs.take k) K:=⟨hlm,hkl,Nat.le_refl _,fun e=>e,hfrN.sa,hkK⟩
       have hap4:Apart sy (Sa sr k):=by
        unfold Sa;split
        · intro a b e1 e2;cases e2
        · exact hap3
       have hgn:Hid (Nat.gcd (val B ys) (val B (rs.take k))=g):=by
        show _=_;rw [hvm.out,Nat.gcd_comm (val B ys), <- Nat.gcd_rec,Nat.gcd_comm];exact hg.out
       have hlt2:Hid (val B (rs.take k)<gk):=Nat.lt_of_lt_of_le hlt.out hgh.out
       clear hv hk hkl hlm ht hrr hdr hfrN
       go_wp2_with fail
       go_roundg (val B (rs.take k))
       case measure=>exact hlt2.out
       case rel=>exact ⟨sy,ny,cy,ys,Sa sr k,k,k,rs.take k,rfl,rfl,hy3,hnew,hap4,hgn,hgw3,hbox3,Nat.le_refl _⟩
def dn (r:Rat):Int:=if r.den=1 then 0 else (r.den:Int)
def RatV (w:World) (v:Value) (r:Rat):Prop:=∃ (s:Option Addr) (xs:List Nat) (b:Bool) (s':Option Addr) (xs':List Nat) (b':Bool),v = .agg #[.slice s xs.length xs.length,.bool b,.slice s' xs'.length xs'.length,.bool b']/\IntV w (.agg #[.slice s xs.length xs.length,.bool b]) r.num/\IntV w (.agg #[.slice s' xs'.length xs'.length,.bool b']) (dn r)
theorem RatV.kept {w w':World} {v:Value} {r:Rat} (h:RatV w v r) (hg:w.grownBy w' none):RatV w' v r:=by
 obtain ⟨s,xs,b,s',xs',b',e,h1,h2⟩:=h
 exact ⟨s,xs,b,s',xs',b',e,h1.kept hg,h2.kept hg⟩
theorem RatV.zero (w:World):RatV w (.agg #[.slice none 0 0,.bool false,.slice none 0 0,.bool false]) 0:=⟨none,[],false,none,[],false,rfl,IntV.zero w,IntV.zero w⟩
def X4 (w:World) (r:Rat) (e:Ending) (w':World):Prop:=∃ v,e = .returned v/\RatV w' v r/\w.grownBy w' none
def fR (w:World) (r:Rat) (code:Int) (e:Ending) (w':World):Prop:=∃ v,e = .returned (.tuple #[v,.int .i64 code])/\RatV w' v r/\w.grownBy w' none
def RetB (w:World) (b:Bool) (e:Ending) (w':World):Prop:=e = .returned (.bool b)/\w.grownBy w' none
theorem dn_bd {r:Rat} {K:Nat} (h:r.den<B^K):(dn r).natAbs<B^K:=by
 unfold dn
 split
 · exact Nat.pow_pos F5
 · rw [Int.natAbs_natCast];exact h
theorem R6 {x y:Int} {K L:Nat} (hx:x.natAbs<B^K) (hy:y.natAbs<B^L):(x*y).natAbs<B^(K+L):=by
 rw [Int.natAbs_mul,Nat.pow_add]
 exact Nat.mul_lt_mul'' hx hy
def E9 (a b:Rat):Int:=M0 (a.num*(b.den:Int)) (b.num*(a.den:Int))
theorem rcmp_whole {a b:Rat} (ha:a.den=1) (hb:b.den=1):M0 a.num b.num=E9 a b:=by
 unfold E9;rw [ha,hb];simp
theorem dn_int (x:Int):dn (x:Rat)=0:=by unfold dn;rw [if_pos (Rat.den_intCast x)]
theorem lJ (a b:Rat):(a*b).num=(a.num / ((Nat.gcd a.num.natAbs b.den:Nat):Int))*(b.num / ((Nat.gcd b.num.natAbs a.den:Nat):Int)):=by
 show (Rat.mul a b).num=_
 unfold Rat.mul
 rfl
theorem lK (a b:Rat):(a*b).den=(a.den / Nat.gcd b.num.natAbs a.den)*(b.den / Nat.gcd a.num.natAbs b.den):=by
 show (Rat.mul a b).den=_
 unfold Rat.mul
 rfl
theorem lN (a b:Rat) (g g1:Nat) (n:Int) (hg:g=Nat.gcd a.den b.den) (hn:n=a.num*((b.den / g:Nat):Int)+b.num*((a.den / g:Nat):Int)) (hg1:g1=Nat.gcd n.natAbs g) :
 (a+b).num=n / (g1:Int)/\(a+b).den=(a.den / g)*(b.den / g1):=by
 have hd:g1 ∣ b.den:=by rw [hg1,hg];exact Nat.dvd_trans (Nat.gcd_dvd_right _ _) (Nat.gcd_dvd_right _ _)
 have hgn:g1 ∣ n.natAbs:=by rw [hg1];exact Nat.gcd_dvd_left _ _
 have hmul:(a.den / g)*(b.den / g1)=(a.den / g)*b.den / g1:=(Nat.mul_div_assoc _ hd).symm
 show (Rat.add a b).num=_/\(Rat.add a b).den=_
 unfold Rat.add
 by_cases h:g=1
 · have h1:g1=1:=by rw [hg1,h,Nat.gcd_one_right]
   rw [dif_pos (by rw [<- hg];exact h)]
   dsimp only
   rw [hn,h1]
   have e1:b.den / g=b.den:=by rw [h,Nat.div_one]
   have e2:a.den / g=a.den:=by rw [h,Nat.div_one]
   rw [e1,e2,Nat.div_one]
   exact ⟨(Int.ediv_one _).symm,rfl⟩
 · rw [dif_neg (by rw [<- hg];exact h)]
   dsimp only
   rw [Rat.maybeNormalize_eq]
   dsimp only
   rw [Int.divExact_eq_ediv,hmul]
   subst hg
   subst hn
   subst hg1
   exact ⟨rfl,rfl⟩
def rsg (r:Rat):Int:=r.num.sign
theorem sign_ediv {n:Int} {g:Nat} (h:(g:Int) ∣ n) (hg : 0<g):(n / (g:Int)).sign=n.sign:=by
 obtain ⟨k,rfl⟩:=h
 rw [Int.mul_ediv_cancel_left _ (by omega),Int.sign_mul,Int.sign_eq_one_of_pos (by omega:(0:Int)<g),Int.one_mul]
theorem Q8 {n d:Int} (hd : 0<d):rsg (Rat.divInt n d)=n.sign:=by
 unfold rsg
 rw [Rat.num_divInt,Int.sign_eq_one_of_pos hd,Int.one_mul]
 exact sign_ediv (Int.gcd_dvd_right _ _) (by rw [Int.gcd_comm];exact Int.gcd_pos_of_ne_zero_right _ (by omega))
theorem fW (x y:Int):(x-y).sign=M0 x y:=by
 unfold M0
 rcases Int.lt_trichotomy x y with h | h | h
 · rw [if_pos h];exact Int.sign_eq_neg_one_of_neg (by omega)
 · rw [if_neg (by omega),if_pos h,show x-y=0 by omega];rfl
 · rw [if_neg (by omega),if_neg (by omega)];exact Int.sign_eq_one_of_pos (by omega)
theorem sign_bdE (z:Int) : -1<=z.sign/\z.sign<=1:=by
 rcases S5 z with ⟨_,e⟩ | ⟨_,e⟩ | ⟨_,e⟩<;>omega
theorem I0 (a b:Rat):E9 a b=rsg (a-b):=by
 have h:a-b=Rat.divInt (a.num*(b.den:Int)-b.num*(a.den:Int)) ((a.den:Int)*(b.den:Int)):=by
  rw [Rat.sub_def', <- Int.natCast_mul,Rat.divInt_ofNat]
 have h1:=a.den_pos
 have h2:=b.den_pos
 rw [h,Q8 (by exact_mod_cast Nat.mul_pos h1 h2),fW]
 rfl
theorem pE (a:Rat):E9 a a=0:=by rw [I0,Rat.sub_self];rfl
theorem jA {n m d e:Int} (hd : 0<d) (he : 0<e):E9 (Rat.divInt n d) (Rat.divInt m e)=M0 (n*e) (m*d):=by
 rw [I0,Rat.divInt_sub_divInt _ _ (by omega) (by omega),Q8 (Int.mul_pos hd he),fW]
theorem I3 (a b:Rat):rsg (a*b)=rsg a*rsg b:=by
 have h:a*b=Rat.divInt (a.num*b.num) ((a.den:Int)*(b.den:Int)):=by
  rw [Rat.mul_def', <- Int.natCast_mul,Rat.divInt_ofNat]
 rw [h,Q8 (by have h1:=a.den_pos;have h2:=b.den_pos;exact_mod_cast Nat.mul_pos h1 h2),Int.sign_mul]
 rfl
theorem rD (a:Rat):rsg (-a) = -rsg a:=by unfold rsg;rw [Rat.neg_num,Int.sign_neg]
theorem pJ (a b:Rat):E9 b a = -E9 a b:=by
 rw [I0,I0, <- rD];congr 1;grind
theorem rsg_pos {a:Rat} : rsg a=1 ↔ 0<a:=by
 unfold rsg
 rw [Int.sign_eq_one_iff_pos,Rat.lt_iff];simp
theorem rsg_zero {a:Rat} : rsg a=0 ↔ a=0:=by
 unfold rsg
 rw [Int.sign_eq_zero_iff_zero,Rat.num_eq_zero]
theorem rsg_nz {a:Rat} : rsg a = -1 ↔ a<0:=by
 unfold rsg
 rw [Int.sign_eq_neg_one_iff_neg,Rat.lt_iff];simp
theorem rcmp_lt {a b:Rat} : E9 a b = -1 ↔ a<b:=by rw [I0,rsg_nz];constructor<;>intro h<;>grind
theorem rcmp_zero {a b:Rat} : E9 a b=0 ↔ a=b:=by rw [I0,rsg_zero];constructor<;>intro h<;>grind
theorem rcmp_or (a b:Rat):E9 a b = -1\/E9 a b=0\/E9 a b=1:=by
 rcases Int.lt_trichotomy ((a-b).num) 0 with h | h | h
 · left;rw [I0];exact Int.sign_eq_neg_one_of_neg h
 · right;left;rw [I0];unfold rsg;rw [h];rfl
 · right;right;rw [I0];exact Int.sign_eq_one_of_pos h
theorem rdiv_num (x y:Int):(Rat.divInt x y).num=y.sign*x / ((Nat.gcd x.natAbs y.natAbs:Nat):Int):=by
 rw [Rat.num_divInt,show Int.gcd y x=Nat.gcd x.natAbs y.natAbs from Nat.gcd_comm _ _]
theorem rdiv_den (x y:Int) (h:y≠0):(((Rat.divInt x y).den:Nat):Int)=(y.natAbs:Int) / ((Nat.gcd x.natAbs y.natAbs:Nat):Int):=by
 rw [Rat.den_divInt,if_neg h,show Int.gcd y x=Nat.gcd x.natAbs y.natAbs from Nat.gcd_comm _ _];rfl
theorem eS {x y:Int} {K:Nat} (h:x.natAbs<B^K):(Rat.divInt x y).num.natAbs<B^K:=by
 rw [rdiv_num]
 refine Nat.lt_of_le_of_lt (Int.natAbs_ediv_le_natAbs _ _) (Nat.lt_of_le_of_lt ?_ h)
 rw [Int.natAbs_mul]
 have:y.sign.natAbs<=1:=by have:=sign_bdE y;omega
 exact Nat.le_trans (Nat.mul_le_mul_right _ this) (by omega)
theorem eT {x y:Int} {K:Nat} (h:y.natAbs<B^K) (h0:y≠0):(Rat.divInt x y).den<B^K:=by
 rw [Rat.den_divInt,if_neg h0]
 exact Nat.lt_of_le_of_lt (Nat.div_le_self _ _) h
theorem lI {a b:Rat} (ha:a.den=1) (hb:b.den=1):(a*b).num=a.num*b.num/\dn (a*b)=0:=by
 constructor
 · rw [lJ,ha,hb];simp
 · unfold dn;rw [if_pos (by rw [lK,ha,hb];simp)]
theorem fbw {a K L:Nat} (h:a<B^K) (hl:K<=L):a<B^L:=Nat.lt_of_lt_of_le h (Nat.pow_le_pow_right F5 hl)
theorem fadd_bd {x y:Int} {K:Nat} (hx:x.natAbs<B^K) (hy:y.natAbs<B^K):(x+y).natAbs<B^(K+1):=by
 have h1:=Int.natAbs_add_le x y
 rw [Nat.pow_succ]
 have h2:B^K*2<=B^K*B:=Nat.mul_le_mul_left _ (by unfold B;omega)
 omega
theorem dS {a b:Rat} (ha:a.den=1) (hb:b.den=1):(a+b).num=a.num+b.num/\dn (a+b)=0:=by
 have h:=lN a b 1 1 (a.num+b.num) (by rw [ha,hb];rfl) (by rw [ha,hb];simp) (by rw [Nat.gcd_one_right])
 constructor
 · rw [h.1];simp
 · unfold dn;rw [if_pos (by rw [h.2,ha,hb])]
theorem lH {a b:Rat} (ha:a.den=1) (hb:b.den=1):(a-b).num=a.num-b.num/\dn (a-b)=0:=by
 rw [Rat.sub_eq_add_neg]
 have h:=dS ha (show (-b).den=1 by rw [Rat.neg_den];exact hb)
 rw [Rat.neg_num] at h
 exact h
theorem qD (x y:Int) (h : 0<y):(Rat.divInt x y).num=x / ((Nat.gcd x.natAbs y.natAbs:Nat):Int)/\(((Rat.divInt x y).den:Nat):Int)=y / ((Nat.gcd x.natAbs y.natAbs:Nat):Int):=by
 constructor
 · rw [rdiv_num,Int.sign_eq_one_of_pos h,Int.one_mul]
 · rw [rdiv_den x y (by omega),Int.natAbs_of_nonneg (by omega)]
end Go.Proofs.YtamdnbbgpacfkaaGreatDoor
namespace Go.Proofs.YtamdnbbgpacfkaaGreatDoor.PM
abbrev Pq:=Rat × Rat
def A4 (a b c:Pq):Rat:=(b.1-a.1)*(c.2-a.2)-(b.2-a.2)*(c.1-a.1)
def lS (a b c:Pq):Rat:=(b.1-a.1)*(c.1-a.1)+(b.2-a.2)*(c.2-a.2)
def ple (p q:Pq):Prop:=p.1<q.1\/p.1=q.1/\p.2<=q.2
def pat (a b:Pq) (t:Rat):Pq:=(a.1+(b.1-a.1)*t,a.2+(b.2-a.2)*t)
def InS (a b p:Pq):Prop:=∃ t:Rat,0<=t/\t<=1/\p=pat a b t
theorem N5 (p:Pq):ple p p:=Or.inr ⟨rfl,Rat.le_refl⟩
theorem K7 {p q:Pq} (h:ple p q) (h':ple q p):p=q:=by
 obtain ⟨a,b⟩:=p;obtain ⟨c,d⟩:=q
 simp only [ple] at h h'
 have:a=c:=by grind
 have:b=d:=by grind
 grind
theorem R1 {p q r:Pq} (h:ple p q) (h':ple q r):ple p r:=by
 simp only [ple] at *;grind
theorem gE (p q:Pq):ple p q\/ple q p:=by
 simp only [ple];grind
theorem sq_pos {x:Rat} (h:x≠0) : 0<x*x:=by
 rcases (show x<0\/0<x by grind) with h | h
 · have:=Rat.mul_pos (show 0 < -x by grind) (show 0 < -x by grind)
   grind
 · exact Rat.mul_pos h h
theorem cE (x:Rat) : 0<=x*x:=by
 by_cases h:x=0
 · subst h;grind
 · have:=sq_pos h;grind
theorem M5 {a b:Pq} (h:a≠b) : 0<(b.1-a.1)*(b.1-a.1)+(b.2-a.2)*(b.2-a.2):=by
 obtain ⟨a1,a2⟩:=a;obtain ⟨b1,b2⟩:=b
 by_cases h1:b1-a1=0
 · have h2:b2-a2≠0:=fun e=>h (by grind)
   have:=sq_pos h2
   have:=cE (b1-a1)
   dsimp only;grind
 · have:=sq_pos h1
   have:=cE (b2-a2)
   dsimp only;grind
theorem aL {a b p:Pq} (h:a≠b) (hc:A4 a b p=0):∃ t,p=pat a b t:=by
 have hn:=M5 h
 obtain ⟨a1,a2⟩:=a;obtain ⟨b1,b2⟩:=b;obtain ⟨p1,p2⟩:=p
 simp only [A4] at hc hn
 refine ⟨((b1-a1)*(p1-a1)+(b2-a2)*(p2-a2)) / ((b1-a1)*(b1-a1)+(b2-a2)*(b2-a2)), ?_⟩
 simp only [pat,Prod.mk.injEq]
 generalize hN:(b1-a1)*(b1-a1)+(b2-a2)*(b2-a2)=N at *
 have hN0:N≠0:=by grind
 constructor<;>grind
theorem cross_at (a b:Pq) (t:Rat):A4 a b (pat a b t)=0:=by simp only [A4,pat];grind
theorem dot_at (a b:Pq) (t:Rat):lS (pat a b t) a b=(t*t-t)*((b.1-a.1)*(b.1-a.1)+(b.2-a.2)*(b.2-a.2)):=by simp only [lS,pat];grind
theorem unit_of {t:Rat} (h:t*t-t<=0) : 0<=t/\t<=1:=by
 constructor
 · rcases (show t<0\/0<=t by grind) with h1 | h1
   · have:=Rat.mul_pos (show 0 < -t by grind) (show 0 < -t by grind);grind
   · exact h1
 · rcases (show 1<t\/t<=1 by grind) with h1 | h1
   · have:=Rat.mul_pos (show 0<t by grind) (show 0<t-1 by grind);grind
   · exact h1
theorem of_unit {t:Rat} (h : 0<=t) (h1:t<=1):t*t-t<=0:=by
 have:=Rat.mul_nonneg h (show 0<=1-t by grind);grind
theorem mK {a p:Pq} : InS a a p ↔ p=a:=by
 constructor
 · rintro ⟨t,_,_,rfl⟩;simp only [pat];exact Prod.ext (by grind) (by grind)
 · rintro rfl;exact ⟨0,by grind,by grind,by simp only [pat];exact Prod.ext (by grind) (by grind)⟩
theorem ins_doc {a b p:Pq} : InS a b p ↔ A4 a b p=0/\lS p a b<=0:=by
 constructor
 · rintro ⟨t,h0,h1,rfl⟩
   refine ⟨cross_at _ _ _, ?_⟩
   rw [dot_at]
   have h2:=of_unit h0 h1
   have h3 : 0<=(b.1-a.1)*(b.1-a.1)+(b.2-a.2)*(b.2-a.2):=by
    have:=cE (b.1-a.1);have:=cE (b.2-a.2);grind
   have:=Rat.mul_nonneg (show 0 <= -(t*t-t) by grind) h3
   grind
 · rintro ⟨hc,hd⟩
   by_cases h:a=b
   · subst h
     rw [mK]
     by_cases hp:p=a
     · exact hp
     · have:=M5 hp
       simp only [lS] at hd;grind
   · obtain ⟨t,rfl⟩:=aL h hc
     rw [dot_at] at hd
     have hn:=M5 h
     have:t*t-t<=0:=by
      rcases (show t*t-t<=0\/0<t*t-t by grind) with h1 | h1
      · exact h1
      · have:=Rat.mul_pos h1 hn;grind
     exact ⟨t,(unit_of this).1,(unit_of this).2,rfl⟩
theorem rO {a b:Pq} (h:ple a b) (hne:a≠b) {s t:Rat} : ple (pat a b s) (pat a b t) ↔ s<=t:=by
 obtain ⟨a1,a2⟩:=a;obtain ⟨b1,b2⟩:=b
 simp only [ple,pat] at h ⊢
 rcases h with h | ⟨rfl,h⟩
 · have hd : 0<b1-a1:=by grind
   constructor
   · intro hh
     rcases (show s<=t\/t<s by grind) with h1 | h1
     · exact h1
     · have:=Rat.mul_pos hd (show 0<s-t by grind);grind
   · intro hh
     rcases (show s=t\/s<t by grind) with h1 | h1
     · subst h1;exact Or.inr ⟨rfl,Rat.le_refl⟩
     · have:=Rat.mul_pos hd (show 0<t-s by grind);left;grind
 · have hd : 0<b2-a2:=by
    have:a2≠b2:=fun e=>hne (by rw [e])
    grind
   constructor
   · intro hh
     rcases (show s<=t\/t<s by grind) with h1 | h1
     · exact h1
     · have:=Rat.mul_pos hd (show 0<s-t by grind);grind
   · intro hh
     right
     refine ⟨by grind, ?_⟩
     have:=Rat.mul_nonneg (show 0<=b2-a2 by grind) (show 0<=t-s by grind);grind
theorem fL (a b:Pq):pat a b 0=a:=by simp only [pat];exact Prod.ext (by grind) (by grind)
theorem sP (a b:Pq):pat a b 1=b:=by simp only [pat];exact Prod.ext (by grind) (by grind)
theorem at_back (a b:Pq) (t:Rat):pat a b t=pat b a (1-t):=by simp only [pat];exact Prod.ext (by grind) (by grind)
theorem cross_back (a b p:Pq):A4 b a p = - A4 a b p:=by simp only [A4];grind
theorem ins_back {a b p:Pq} : InS a b p ↔ InS b a p:=by
 constructor
 · rintro ⟨t,h0,h1,rfl⟩;exact ⟨1-t,by grind,by grind,at_back _ _ _⟩
 · rintro ⟨t,h0,h1,rfl⟩;exact ⟨1-t,by grind,by grind,at_back _ _ _⟩
theorem kL {a b p:Pq} (h:ple a b):InS a b p ↔ ple a p/\ple p b/\A4 a b p=0:=by
 by_cases hab:a=b
 · subst hab
   rw [mK]
   constructor
   · rintro rfl;exact ⟨N5 _,N5 _,by simp only [A4];grind⟩
   · rintro ⟨h1,h2,_⟩;exact K7 h2 h1
 · constructor
   · rintro ⟨t,h0,h1,rfl⟩
     have e0:=(rO h hab (s:=0) (t:=t)).2 h0
     have e1:=(rO h hab (s:=t) (t:=1)).2 h1
     rw [fL] at e0;rw [sP] at e1
     exact ⟨e0,e1,cross_at _ _ _⟩
   · rintro ⟨h1,h2,hc⟩
     obtain ⟨t,rfl⟩:=aL hab hc
     refine ⟨t,(rO h hab (s:=0) (t:=t)).1 (by rw [fL];exact h1),(rO h hab (s:=t) (t:=1)).1 (by rw [sP];exact h2),rfl⟩
def plt (p q:Pq):Prop:=p.1<q.1\/p.1=q.1/\p.2<q.2
theorem plt_iff {p q:Pq} : plt p q ↔ ¬ ple q p:=by simp only [plt,ple];grind
theorem plt_ple {p q:Pq} (h:plt p q):ple p q:=by simp only [plt,ple] at *;grind
theorem plt_of {p q:Pq} (h:ple p q) (hne:p≠q):plt p q:=by
 obtain ⟨a,b⟩:=p;obtain ⟨c,d⟩:=q
 simp only [plt,ple] at *
 rcases h with h | ⟨rfl,h⟩
 · exact Or.inl h
 · right;refine ⟨rfl, ?_⟩
   have:b≠d:=fun e=>hne (by rw [e])
   grind
inductive Told:List Pq->(Pq->Prop)->Prop
 | none {S:Pq->Prop} : (∀ p,¬ S p)->Told [] S
 | one {S:Pq->Prop} (p:Pq):(∀ q,S q ↔ q=p)->Told [p] S
 | two {S:Pq->Prop} (p q:Pq):plt p q->(∀ r,S r ↔ InS p q r)->Told [p,q] S
theorem bJ (p q:Pq):InS p q p:=⟨0,by grind,by grind,(fL _ _).symm⟩
theorem cN (p q:Pq):InS p q q:=⟨1,by grind,by grind,(sP _ _).symm⟩
noncomputable def lo (a b:Pq):Pq:=open Classical in if ple a b then a else b
noncomputable def hi (a b:Pq):Pq:=open Classical in if ple a b then b else a
theorem lohi (a b:Pq):(ple a b/\lo a b=a/\hi a b=b)\/(ple b a /\ ¬ ple a b/\lo a b=b/\hi a b=a):=by
 unfold lo hi
 by_cases h:ple a b
 · left;simp [h]
 · right;refine ⟨(gE a b).resolve_left h,h, ?_, ?_⟩<;>simp [h]
theorem lo_le_hi (a b:Pq):ple (lo a b) (hi a b):=by
 rcases lohi a b with ⟨h,e1,e2⟩ | ⟨h,_,e1,e2⟩<;>rw [e1,e2]<;>exact h
theorem ins_lohi {a b p:Pq} : InS a b p ↔ InS (lo a b) (hi a b) p:=by
 rcases lohi a b with ⟨h,e1,e2⟩ | ⟨h,_,e1,e2⟩<;>rw [e1,e2]
 exact ins_back
theorem ins_prog {a b p:Pq} : InS a b p ↔ ple (lo a b) p/\ple p (hi a b)/\A4 a b p=0:=by
 rw [ins_lohi,kL (lo_le_hi a b)]
 rcases lohi a b with ⟨h,e1,e2⟩ | ⟨h,_,e1,e2⟩<;>rw [e1,e2]
 rw [cross_back b a];grind
noncomputable def eX (a b:Pq):Pq:=open Classical in if ple b a then a else b
noncomputable def eW (a b:Pq):Pq:=open Classical in if ple a b then a else b
theorem pmax_le {a b p:Pq} : ple (eX a b) p ↔ ple a p/\ple b p:=by
 unfold eX
 by_cases h:ple b a
 · rw [if_pos h];exact ⟨fun h1=>⟨h1,R1 h h1⟩,fun h1=>h1.1⟩
 · rw [if_neg h];exact ⟨fun h1=>⟨R1 ((gE b a).resolve_left h) h1,h1⟩,fun h1=>h1.2⟩
theorem le_pmin {a b p:Pq} : ple p (eW a b) ↔ ple p a/\ple p b:=by
 unfold eW
 by_cases h:ple a b
 · rw [if_pos h];exact ⟨fun h1=>⟨h1,R1 h1 h⟩,fun h1=>h1.1⟩
 · rw [if_neg h];exact ⟨fun h1=>⟨R1 h1 ((gE a b).resolve_left h),h1⟩,fun h1=>h1.2⟩
theorem rN (a b:Pq):eX a b=a\/eX a b=b:=by unfold eX;split<;>simp
theorem rM (a b:Pq):eW a b=a\/eW a b=b:=by unfold eW;split<;>simp
theorem jE (a b:Pq):lo a b=a\/lo a b=b:=by unfold lo;split<;>simp
theorem jG (a b:Pq):hi a b=a\/hi a b=b:=by unfold hi;split<;>simp
theorem nH {a b c d p:Pq} (hc:A4 a b c=0) (hd:A4 a b d=0) (hne:a≠b) (hp:A4 a b p=0):A4 c d p=0:=by
 obtain ⟨s,rfl⟩:=aL hne hc
 obtain ⟨t,rfl⟩:=aL hne hd
 obtain ⟨u,rfl⟩:=aL hne hp
 simp only [A4,pat];grind
theorem nG (a p:Pq):A4 a a p=0:=by simp only [A4];grind
theorem iG (a b:Pq):A4 a b a=0:=by simp only [A4];grind
theorem qM (a b:Pq):A4 a b b=0:=by simp only [A4];grind
theorem meet_line {a b c d:Pq} (h1:A4 a b c=0) (h2:A4 a b d=0) (h3:A4 c d a=0) (h4:A4 c d b=0) (hm:ple (eX (lo a b) (lo c d)) (eW (hi a b) (hi c d))) (p:Pq) :
 InS a b p/\InS c d p ↔ InS (eX (lo a b) (lo c d)) (eW (hi a b) (hi c d)) p:=by
 rw [kL hm,ins_prog,ins_prog,pmax_le,le_pmin]
 have hf:eX (lo a b) (lo c d)=a\/eX (lo a b) (lo c d)=b\/eX (lo a b) (lo c d)=c\/eX (lo a b) (lo c d)=d:=by
  rcases rN (lo a b) (lo c d) with e | e<;>rw [e]
  · rcases jE a b with e | e<;>simp [e]
  · rcases jE c d with e | e<;>simp [e]
 have ht:eW (hi a b) (hi c d)=a\/eW (hi a b) (hi c d)=b\/eW (hi a b) (hi c d)=c\/eW (hi a b) (hi c d)=d:=by
  rcases rM (hi a b) (hi c d) with e | e<;>rw [e]
  · rcases jG a b with e | e<;>simp [e]
  · rcases jG c d with e | e<;>simp [e]
 have hfp:=pmax_le (a:=lo a b) (b:=lo c d) (p:=p)
 have htp:=le_pmin (a:=hi a b) (b:=hi c d) (p:=p)
 generalize eX (lo a b) (lo c d)=f at *
 generalize eW (hi a b) (hi c d)=t at *
 by_cases hab:a=b
 · by_cases hcd:c=d
   · subst hab;subst hcd
     have e1:lo a a=a:=(jE a a).elim id id
     have e2:hi a a=a:=(jG a a).elim id id
     have e3:lo c c=c:=(jE c c).elim id id
     have e4:hi c c=c:=(jG c c).elim id id
     rw [e1,e2,e3,e4] at *
     constructor
     · rintro ⟨⟨x1,x2,_⟩,x3,x4,_⟩
       refine ⟨⟨x1,x3⟩,⟨x2,x4⟩, ?_⟩
       have ea:=K7 x2 x1
       have ec:=K7 x4 x3
       subst ea;subst ec
       have:f=p:=by rcases hf with h | h | h | h<;>exact h
       have:t=p:=by rcases ht with h | h | h | h<;>exact h
       subst f;exact iG _ _
     · rintro ⟨⟨x1,x3⟩,⟨x2,x4⟩,_⟩
       exact ⟨⟨x1,x2,nG _ _⟩,x3,x4,nG _ _⟩
   · have ha:∀ x,(x=a\/x=b\/x=c\/x=d)->A4 c d x=0:=by
      rintro x (rfl | rfl | rfl | rfl)
      · exact h3
      · exact h4
      · exact iG _ _
      · exact qM _ _
     constructor
     · rintro ⟨⟨x1,x2,_⟩,x3,x4,x5⟩
       exact ⟨⟨x1,x3⟩,⟨x2,x4⟩,nH (ha f hf) (ha t ht) hcd x5⟩
     · rintro ⟨⟨x1,x3⟩,⟨x2,x4⟩,x5⟩
       subst hab
       have e1:lo a a=a:=(jE a a).elim id id
       have e2:hi a a=a:=(jG a a).elim id id
       rw [e1] at x1;rw [e2] at x2
       have:=K7 x2 x1
       subst this
       exact ⟨⟨by rw [e1];exact N5 _,by rw [e2];exact N5 _,nG _ _⟩,x3,x4,h3⟩
 · have ha:∀ x,(x=a\/x=b\/x=c\/x=d)->A4 a b x=0:=by
    rintro x (rfl | rfl | rfl | rfl)
    · exact iG _ _
    · exact qM _ _
    · exact h1
    · exact h2
   constructor
   · rintro ⟨⟨x1,x2,x5⟩,x3,x4,_⟩
     exact ⟨⟨x1,x3⟩,⟨x2,x4⟩,nH (ha f hf) (ha t ht) hab x5⟩
   · rintro ⟨⟨x1,x3⟩,⟨x2,x4⟩,x5⟩
     have key:A4 a b p=0:=by
      have q1:ple f p:=hfp.2 ⟨x1,x3⟩
      have q2:ple p t:=htp.2 ⟨x2,x4⟩
      by_cases hft:f=t
      · have:p=f:=K7 (by rw [hft];exact q2) q1
        rw [this];exact ha f hf
      · have hfa:=ha f hf
        have hta:=ha t ht
        obtain ⟨s,rfl⟩:=aL hab hfa
        obtain ⟨u,rfl⟩:=aL hab hta
        obtain ⟨v,rfl⟩:=aL hft x5
        simp only [A4,pat];grind
     exact ⟨⟨x1,x2,key⟩,x3,x4,nH h1 h2 hab key⟩
theorem iE (a b c d:Pq) (t:Rat):A4 c d (pat a b t)=A4 c d a+(A4 c d b-A4 c d a)*t:=by simp only [A4,pat];grind
theorem nF {a b c d p:Pq} (hne:A4 c d a≠A4 c d b) (hp:InS a b p/\InS c d p):p=pat a b (A4 c d a / (A4 c d a-A4 c d b)):=by
 obtain ⟨⟨t,h0,h1,rfl⟩,h2⟩:=hp
 have h3:=(ins_prog.1 h2).2.2
 rw [iE] at h3
 generalize A4 c d a=u at *
 generalize A4 c d b=v at *
 have:t=u / (u-v):=by
  have h4:u-v≠0:=by grind
  grind
 rw [this]
noncomputable def btw (p q:Pq):List Pq:=open Classical in if p=q then [p] else [p,q]
theorem told_btw {p q:Pq} {S:Pq->Prop} (hle:ple p q) (h:∀ r,S r ↔ InS p q r):Told (btw p q) S:=by
 unfold btw
 by_cases hpq:p=q
 · rw [if_pos hpq];subst hpq;exact .one p fun r=>(h r).trans mK
 · rw [if_neg hpq];exact .two p q (plt_of hle hpq) h
noncomputable def tD (S:Pq->Prop) (o:Option (Pq × Pq)) (x:Pq):Option (Pq × Pq):=open Classical in
 if S x then match o with
  | none=>some (x,x)
  | some (m,M)=>some (if plt x m then x else m,if plt M x then x else M)
 else o
def Ends (S:Pq->Prop) (l:List Pq):Option (Pq × Pq)->Prop
 | none=>∀ x ∈ l,¬ S x
 | some (m,M)=>S m/\S M /\ ∀ x ∈ l,S x->ple m x/\ple x M
theorem aK {S:Pq->Prop} {l:List Pq} {o:Option (Pq × Pq)} (h:Ends S l o) (x:Pq):Ends S (l++[x]) (tD S o x):=by
 unfold tD
 by_cases hx:S x
 · rw [if_pos hx]
   match o,h with
   | none,h=>
     refine ⟨hx,hx,fun y hy hs=>?_⟩
     rcases List.mem_append.1 hy with hy | hy
     · exact absurd hs (h y hy)
     · have:y=x:=by simpa using hy
       subst this;exact ⟨N5 _,N5 _⟩
   | some (m,M),⟨h1,h2,h3⟩=>
     have hm:S (open Classical in if plt x m then x else m)/\ple (open Classical in if plt x m then x else m) m/\ple (open Classical in if plt x m then x else m) x:=by
      by_cases h:plt x m
      · rw [if_pos h];exact ⟨hx,plt_ple h,N5 _⟩
      · rw [if_neg h];exact ⟨h1,N5 _,Classical.byContradiction fun hn=>h (plt_iff.2 hn)⟩
     have hM:S (open Classical in if plt M x then x else M)/\ple M (open Classical in if plt M x then x else M)/\ple x (open Classical in if plt M x then x else M):=by
      by_cases h:plt M x
      · rw [if_pos h];exact ⟨hx,plt_ple h,N5 _⟩
      · rw [if_neg h];exact ⟨h2,N5 _,Classical.byContradiction fun hn=>h (plt_iff.2 hn)⟩
     refine ⟨hm.1,hM.1,fun y hy hs=>?_⟩
     rcases List.mem_append.1 hy with hy | hy
     · obtain ⟨a,b⟩:=h3 y hy hs
       exact ⟨R1 hm.2.1 a,R1 b hM.2.1⟩
     · have:y=x:=by simpa using hy
       subst this;exact ⟨hm.2.2,hM.2.2⟩
 · rw [if_neg hx]
   match o,h with
   | none,h=>
     intro y hy hs
     rcases List.mem_append.1 hy with hy | hy
     · exact h y hy hs
     · have:y=x:=by simpa using hy
       subst this;exact hx hs
   | some (m,M),⟨h1,h2,h3⟩=>
     refine ⟨h1,h2,fun y hy hs=>?_⟩
     rcases List.mem_append.1 hy with hy | hy
     · exact h3 y hy hs
     · have:y=x:=by simpa using hy
       subst this;exact absurd hs hx
noncomputable def told2:Option (Pq × Pq)->List Pq
 | none=>[]
 | some (m,M)=>btw m M
def A5 (a b c d p:Pq):Prop:=InS a b p/\InS c d p
noncomputable def X0 (a b c d:Pq):Option (Pq × Pq):=tD (A5 a b c d) (tD (A5 a b c d) (tD (A5 a b c d) (tD (A5 a b c d) none a) b) c) d
noncomputable def P7 (a b c d:Pq):List Pq:=open Classical in
 if A4 c d a=A4 c d b then told2 (X0 a b c d)
 else if A5 a b c d (pat a b (A4 c d a / (A4 c d a-A4 c d b))) then [pat a b (A4 c d a / (A4 c d a-A4 c d b))] else []
theorem meetD_told (a b c d:Pq):Told (P7 a b c d) (A5 a b c d):=by
 unfold P7
 by_cases hp:A4 c d a=A4 c d b
 · rw [if_pos hp]
   have he:Ends (A5 a b c d) [a,b,c,d] (X0 a b c d):=aK (l:=[a,b,c]) (aK (l:=[a,b]) (aK (l:=[a]) (aK (l:=[]) (o:=none) (fun x hx=>by cases hx) a) b) c) d
   have hp2:A4 a b c=A4 a b d:=by
    have h2:A4 a b c-A4 a b d = -(A4 c d a-A4 c d b):=by simp only [A4];grind
    grind
   have line:∀ r,A5 a b c d r -> ∃ f t,(f ∈ [a,b,c,d]/\t ∈ [a,b,c,d])/\ple f t /\ ∀ p,A5 a b c d p ↔ InS f t p:=fun r hr=>by
    have h3:A4 c d a=0:=by
     obtain ⟨⟨t,_,_,rfl⟩,h⟩:=hr
     have:=(ins_prog.1 h).2.2
     rw [iE,hp] at this;rw [hp];grind
    have h1:A4 a b c=0:=by
     obtain ⟨h,t,_,_,rfl⟩:=hr
     have:=(ins_prog.1 h).2.2
     rw [iE,hp2] at this;rw [hp2];grind
    have hm:ple (eX (lo a b) (lo c d)) (eW (hi a b) (hi c d)):=by
     have h1:=ins_prog.1 hr.1
     have h2:=ins_prog.1 hr.2
     exact R1 (pmax_le.2 ⟨h1.1,h2.1⟩) (le_pmin.2 ⟨h1.2.1,h2.2.1⟩)
    refine ⟨_,_,⟨?_, ?_⟩,hm,fun p=>meet_line h1 (hp2 ▸ h1) h3 (hp ▸ h3) hm p⟩
    · rcases rN (lo a b) (lo c d) with e | e<;>rw [e]
      · rcases jE a b with e | e<;>simp [e]
      · rcases jE c d with e | e<;>simp [e]
    · rcases rM (hi a b) (hi c d) with e | e<;>rw [e]
      · rcases jG a b with e | e<;>simp [e]
      · rcases jG c d with e | e<;>simp [e]
   generalize X0 a b c d=o at he
   match o,he with
   | none,he=>
     refine .none fun r hr=>?_
     obtain ⟨f,t,⟨h1,_⟩,_,h3⟩:=line r hr
     exact he f h1 ((h3 f).2 (bJ f t))
   | some (m,M),⟨hm,hM,hall⟩=>
     obtain ⟨f,t,⟨h1,h2⟩,hle,h3⟩:=line m hm
     have ef:=hall f h1 ((h3 f).2 (bJ f t))
     have et:=hall t h2 ((h3 t).2 (cN f t))
     have em:=(kL hle).1 ((h3 m).1 hm)
     have eM:=(kL hle).1 ((h3 M).1 hM)
     have e1:=K7 ef.1 em.1
     have e2:=K7 eM.2.1 et.2
     subst e1;subst e2
     exact told_btw hle h3
 · rw [if_neg hp]
   by_cases hb:A5 a b c d (pat a b (A4 c d a / (A4 c d a-A4 c d b)))
   · rw [if_pos hb]
     exact .one _ fun q=>⟨fun h=>nF hp h,fun h=>by rw [h];exact hb⟩
   · rw [if_neg hb]
     exact .none fun q hq=>hb (by rw [<- nF hp hq];exact hq)
theorem fJ (p:Pq):btw p p=[p]:=by unfold btw;rw [if_pos rfl]
def F0 (p q:Pq):Int:=if E9 p.1 q.1=0 then E9 p.2 q.2 else E9 p.1 q.1
theorem rQ (p q:Pq):F0 p q = -1\/F0 p q=0\/F0 p q=1:=by
 unfold F0;split
 · exact rcmp_or _ _
 · exact rcmp_or _ _
theorem pcmp_zero {p q:Pq} : F0 p q=0 ↔ p=q:=by
 unfold F0
 constructor
 · intro h
   split at h
   · rename_i h1;exact Prod.ext (rcmp_zero.1 h1) (rcmp_zero.1 h)
   · contradiction
 · rintro rfl;rw [if_pos (pE _)];exact pE _
theorem pcmp_lt {p q:Pq} : F0 p q = -1 ↔ plt p q:=by
 unfold F0 plt
 split
 · rename_i h;have e:=rcmp_zero.1 h
   rw [rcmp_lt]
   constructor
   · exact fun h => .inr ⟨e,h⟩
   · rintro (h | h)
     · rw [e] at h;exact absurd h (by grind)
     · exact h.2
 · rename_i h
   have hne:p.1≠q.1:=fun e=>h (rcmp_zero.2 e)
   rw [rcmp_lt]
   constructor
   · exact fun h => .inl h
   · rintro (h | h)
     · exact h
     · exact absurd h.1 hne
theorem pcmp_swap (p q:Pq):F0 q p = - F0 p q:=by
 unfold F0
 rw [pJ p.1 q.1,pJ p.2 q.2]
 split<;>split<;>omega
theorem pcmp_gt {p q:Pq} : F0 p q=1 ↔ plt q p:=by
 rw [<- pcmp_lt,pcmp_swap p q];omega
theorem pcmp_le {p q:Pq} : F0 p q<=0 ↔ ple p q:=by
 have h:=rQ p q
 have hg:=@pcmp_gt p q
 rw [plt_iff] at hg
 constructor
 · intro h1
   exact Classical.byContradiction fun h2=>by have:=hg.2 h2;omega
 · intro h1
   rcases h with h | h | h
   · omega
   · omega
   · exact absurd h1 (hg.1 h)
theorem F4 (r:Rat):rsg r = -1\/rsg r=0\/rsg r=1:=by
 unfold rsg
 rcases Int.lt_trichotomy r.num 0 with h | h | h
 · left;exact Int.sign_eq_neg_one_of_neg h
 · right;left;rw [h];rfl
 · right;right;exact Int.sign_eq_one_of_pos h
theorem rsg_ge {r:Rat} : 0<=rsg r ↔ 0<=r:=by
 have h:=F4 r
 have h1:=@rsg_nz r
 constructor
 · intro h2;exact Classical.byContradiction fun h3=>by have:=h1.2 (by grind);omega
 · intro h2
   rcases h with h | h | h
   · have:=h1.1 h;grind
   · omega
   · omega
end Go.Proofs.YtamdnbbgpacfkaaGreatDoor.PM
