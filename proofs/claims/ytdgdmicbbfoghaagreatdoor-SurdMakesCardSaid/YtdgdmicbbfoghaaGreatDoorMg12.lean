/- What the laws lean on, part 12. -/
import Derived.Below
import Derived.BigCall
import Derived.BigQuiet
import Derived.BigRegion
import Derived.Deep.AppendLies
import Derived.Deep.CutBlock
import Derived.Deep.CutRange
import Derived.Deep.DeepCutAuto
import Derived.Deep.DeepHandedRow
import Derived.Deep.LoopGhost
import Derived.Deep.MidRow
import Derived.Deep.QuietTactic
import Derived.Deep.RegionHeld3
import Derived.Deep.WholeRow
import Derived.Laws.AppendOwn
import Derived.Laws.Concat
import Derived.Laws.CopyOwn
import Derived.Laws.Externs
import Derived.Laws.IdiomStrings
import Derived.Lib.BitFns
import Derived.Lib.Bytealg
import Derived.Lib.Hide
import Derived.Lib.Slices
import Derived.Lib.Small
import Derived.Lib.Strings
import Derived.Lib.Walk
import Derived.LoopN
import Derived.OpenShut
import Derived.OrdersHeld
import Derived.OrdersIn
import Derived.Outline
import Derived.OwnWalk
import Derived.ProofKit
import Derived.RangeFuncCalls
import Derived.RangeFuncNested
import Derived.RangeFuncOwn
import Derived.Shelf.Bits.Mul64
import Derived.Shelf.Spec.TrailingZeros
import Derived.StillTailTactics
import Derived.WalkKit
import Derived.WalkLawsBesides
import Derived.WalkSpells
import Derived.Test.YtdgdmicbbfoghaaGreatDoorProg
import Derived.Test.YtdgdmicbbfoghaaGreatDoorRows
import Derived.Test.YtdgdmicbbfoghaaGreatDoorMg11
set_option linter.unusedVariables false
set_option linter.unusedSimpArgs false
set_option maxRecDepth 100000
namespace Go.Proofs.YtdgdmicbbfoghaaGreatDoor
open Go.RowKit Mat
def U4 (w:World) (z:Int) (code:Int) (e:Ending) (w':World):Prop:=∃ v,e = .returned (.tuple #[v,.int .i64 code])/\IntV w' v z/\w.grownBy w' none
theorem T5 {w w':World} {z code:Int} {g:Nat} {a0 a1 v0 v1:Value} (hg:w.grownBy w' none) (hbox:w'.heap[g]?=some (.cells #[a0,a1] 28 (0,0))) (hl:w.heap.size<=g) (h:IntV w' (.agg #[v0,v1]) z) :
 U4 w z code (.returned (.tuple #[.agg #[v0,v1],.int .i64 code])) ((w'.setCell ⟨g,0,none⟩ v0).setCell ⟨g,1,none⟩ v1):=
 ⟨_,rfl,h.set2 hbox v0 v1,pW hg hl v0 v1⟩
theorem intv_of_nat {w:World} {s:Option Addr} {k c m:Nat} (h:NatV w (.agg #[.slice s k c]) m):IntV w (.agg #[.slice s k c,.bool false]) (m:Int):=by
 obtain ⟨s',xs,e,h1,hv⟩:=h
 cases e
 exact ⟨_,xs,false,rfl,h1,by simpa using hv,by constructor<;>intro h<;>first | cases h | omega⟩
theorem intv_of_neg {w:World} {s:Option Addr} {k c m:Nat} (h:NatV w (.agg #[.slice s k c]) m) (hm : 0<m):IntV w (.agg #[.slice s k c,.bool true]) (-(m:Int)):=by
 obtain ⟨s',xs,e,h1,hv⟩:=h
 cases e
 exact ⟨_,xs,true,rfl,h1,by omega,by constructor<;>intro h<;>first | rfl | omega⟩
theorem qL (w:World) (s:ByteArray) (h:gQ (bts s)=true) :
 Calls Tryz.prog 152 #[.string s,.string { data := #[45] }] w (fun e w'=>e = .returned (.tuple #[.string (s.extract 1 s.size),.bool true])/\w=w'):=cut_hit w s { data := #[45] } (by rw [pfx_dash];exact h)
theorem gC (w:World) (s:ByteArray) (h:gQ (bts s)=false) :
 Calls Tryz.prog 152 #[.string s,.string { data := #[45] }] w (fun e w'=>e = .returned (.tuple #[.string s,.bool false])/\w=w'):=cut_miss w s { data := #[45] } (by rw [pfx_dash];exact h)
set_option maxHeartbeats 8000000 in
theorem aL (w:World) (s:ByteArray) :
 Calls Tryz.prog 120 #[.string s] w (U4 w (I3 s) (U6 s)):=by
 by_cases h0 : 4097<s.size
 · skip
   obtain ⟨e1,e2⟩:=zc_long h0
   rw [e1,e2]
   clear e1 e2
   have f1:decide ((4097:Int)<(s.size:Int))=true:=decide_eq_true (by omega)
   have hG:w.grownBy (w.alloc (.cells #[.slice none 0 0,.bool false] 28)) none:=(World.grownBy_alloc _ _ _)
   have Bq:=(A4 w (.cells #[.slice none 0 0,.bool false] 28) (w.heap.size) rfl)
   go_enter Tryz.func120,Tryz.ntmps120
   obtain ⟨Cq0,Cq1,Fq0,Fq1⟩:=A3 Bq
   have hG':w.grownBy (w.alloc (.cells #[.slice none 0 0,.bool false] 28)) none:=(World.grownBy_alloc _ _ _)
   have hF:Hid (U4 w (0) 2 (.returned (.tuple #[.agg #[.slice none 0 0,.bool false],.int .i64 2])) (w.alloc (.cells #[.slice none 0 0,.bool false] 28))):=⟨_,rfl,(IntV.zero _),hG'⟩
   clear hG'
   go_wp2_with fail
   exact bodyPost_ret (v := .tuple #[.agg #[.slice none 0 0,.bool false],.int .i64 2]) (by simp [results,Tryz.results120,go_sem]) rfl hF.out
 have f1:decide ((4097:Int)<(s.size:Int))=false:=decide_eq_false (by omega)
 have hs:s.size<=4097:=by omega
 clear h0
 cases hn:gQ (bts s)
 · skip
   have hz:=zdig_pos hn
   by_cases hd:S9 (bts s)
   · skip
     have hok:zok (bts s)=true:=(Q4 _).2 ⟨by rw [hz];exact hd,by rw [hn];simp⟩
     by_cases h4:s.size<=4096
     · skip
       obtain ⟨e1,e2⟩:=uG hs hok (by rw [hz,C7];exact h4)
       obtain ⟨m,hm⟩:∃ m,G7 (bts s)=m:=⟨_,rfl⟩
       rw [e1,e2,show mU (bts s)=(m:Int) from by unfold mU;rw [hn,hz,hm];rfl]
       clear e1 e2 hok hz hs
       have HD:=Lib.hid hd
       have HZ:=Lib.hid h4
       have HV:=Lib.hid hm
       clear hd h4 hm
       have HN:=Lib.hid hn
       clear hn
       have hG:w.grownBy (w.alloc (.cells #[.slice none 0 0,.bool false] 28)) none:=(World.grownBy_alloc _ _ _)
       have Bq:=(A4 w (.cells #[.slice none 0 0,.bool false] 28) (w.heap.size) rfl)
       go_enter Tryz.func120,Tryz.ntmps120
       obtain ⟨Cq0,Cq1,Fq0,Fq1⟩:=A3 Bq
       go_wp2_with fail
       generalize (w.alloc (.cells #[.slice none 0 0,.bool false] 28))=w0 at *
       refine (gC w0 s HN.out).mono ?_
       rintro e w1 ⟨rfl,rfl⟩
       go_wp2_with fail
       clear Cq0 Fq0 Cq1 Fq1
       refine (dC w0 s HZ.out HD.out).mono ?_
       rintro e w2 ⟨_,rfl,⟨sn,xn,rfl,hn,vn⟩,gw2⟩
       rw [HV.out] at vn
       have nn:NatV _ (.agg #[.slice sn xn.length xn.length]) (m):=⟨sn,xn,rfl,hn,vn⟩
       clear hn vn
       replace Bq:=A1 gw2 Bq
       replace hG:=A2 hG gw2
       clear gw2
       obtain ⟨Cq0,Cq1,Fq0,Fq1⟩:=A3 Bq
       have gbw2:=(World.grownBy_alloc w2 (.cells #[.slice sn xn.length xn.length] 26) none)
       have Bn:=(A4 w2 (.cells #[.slice sn xn.length xn.length] 26) (w2.heap.size) rfl)
       have hzw2:Hid (w.heap.size<=w2.heap.size):=Lib.hid hG.size
       have hlqw2:Hid (w.heap.size<w2.heap.size):=Lib.hid (Array.getElem?_eq_some_iff.1 Bq).1
       clear Cq0 Fq0 Cq1 Fq1
       replace Bq:=A1 gbw2 Bq
       replace nn:=nn.kept gbw2
       replace hG:=A2 hG gbw2
       clear gbw2
       obtain ⟨Cq0,Cq1,Fq0,Fq1⟩:=A3 Bq
       obtain ⟨Cn0,Fn0⟩:=A7 Bn
       have hi:IntV (w2.alloc (.cells #[.slice sn xn.length xn.length] 26)) (.agg #[.slice sn xn.length xn.length,.bool false]) (m:Int):=intv_of_nat nn
       clear Cq0 Fq0 Cq1 Fq1 Cn0 Fn0
       obtain ⟨k90,k91,k92,k93⟩:=A3 Bq
       obtain ⟨q90,q91,q92,q93⟩:=A3 (B7 Bq (.slice sn xn.length xn.length) (.bool false))
       have hF:Hid (U4 w ((m:Int)) 0 (.returned (.tuple #[.agg #[.slice sn xn.length xn.length,.bool false],.int .i64 0])) (((w2.alloc (.cells #[.slice sn xn.length xn.length] 26)).setCell ⟨w.heap.size,0,none⟩ (.slice sn xn.length xn.length)).setCell ⟨w.heap.size,1,none⟩ (.bool false))):=T5 hG Bq (by omega) hi
       clear nn hi
       obtain ⟨Cn0,Fn0⟩:=A7 Bn
       go_wp2_with fail
       exact bodyPost_ret (v := .tuple #[.agg #[.slice sn xn.length xn.length,.bool false],.int .i64 0]) (by simp [results,Tryz.results120,go_sem,q90,q91]) rfl hF.out
     · skip
       have h5 : 4096<s.size:=by omega
       obtain ⟨e1,e2⟩:=zc_many hs hok (by rw [hz,C7];exact h5)
       rw [e1,e2]
       clear e1 e2 hok hz h4
       have HD:=Lib.hid hd
       have HZ:=Lib.hid h5
       have HS:=Lib.hid hs
       clear hd h5 hs
       have HN:=Lib.hid hn
       clear hn
       have hG:w.grownBy (w.alloc (.cells #[.slice none 0 0,.bool false] 28)) none:=(World.grownBy_alloc _ _ _)
       have Bq:=(A4 w (.cells #[.slice none 0 0,.bool false] 28) (w.heap.size) rfl)
       go_enter Tryz.func120,Tryz.ntmps120
       obtain ⟨Cq0,Cq1,Fq0,Fq1⟩:=A3 Bq
       go_wp2_with fail
       generalize (w.alloc (.cells #[.slice none 0 0,.bool false] 28))=w0 at *
       refine (gC w0 s HN.out).mono ?_
       rintro e w1 ⟨rfl,rfl⟩
       go_wp2_with fail
       clear Cq0 Fq0 Cq1 Fq1
       refine (rG w0 s HZ.out).mono ?_
       rintro e w2 ⟨_,rfl,⟨sn,xn,rfl,hn,vn⟩,gw2⟩
       have nn:NatV w2 (.agg #[.slice sn xn.length xn.length]) (0):=⟨sn,xn,rfl,hn,vn⟩
       replace Bq:=A1 gw2 Bq
       replace hG:=A2 hG gw2
       clear gw2
       clear hn vn
       obtain ⟨Cq0,Cq1,Fq0,Fq1⟩:=A3 Bq
       have gbw2:=(World.grownBy_alloc w2 (.cells #[.slice sn xn.length xn.length] 26) none)
       have Bn:=(A4 w2 (.cells #[.slice sn xn.length xn.length] 26) (w2.heap.size) rfl)
       have hzw2:Hid (w.heap.size<=w2.heap.size):=Lib.hid hG.size
       have hlqw2:Hid (w.heap.size<w2.heap.size):=Lib.hid (Array.getElem?_eq_some_iff.1 Bq).1
       clear Cq0 Fq0 Cq1 Fq1
       replace Bq:=A1 gbw2 Bq
       replace nn:=nn.kept gbw2
       replace hG:=A2 hG gbw2
       clear gbw2
       obtain ⟨Cq0,Cq1,Fq0,Fq1⟩:=A3 Bq
       obtain ⟨Cn0,Fn0⟩:=A7 Bn
       go_wp2_with fail
       generalize (w2.alloc (.cells #[.slice sn xn.length xn.length] 26))=w3 at *
       generalize w2.heap.size=aw2 at *
       replace hzw2:=hzw2.out
       replace hlqw2:=hlqw2.out
       refine (long_any w3 s HS.out (by have:=HZ.out;omega)).mono ?_
       rintro e w4 ⟨b,rfl,hb,rfl⟩
       obtain rfl:b=true:=hb.2 HD.out
       clear hb
       clear Cq0 Fq0 Cq1 Fq1 Cn0 Fn0
       obtain ⟨k90,k91,k92,k93⟩:=A3 Bq
       obtain ⟨q90,q91,q92,q93⟩:=A3 (B7 Bq (.slice none 0 0) (.bool false))
       have hF:Hid (U4 w (0) 2 (.returned (.tuple #[.agg #[.slice none 0 0,.bool false],.int .i64 2])) ((w3.setCell ⟨w.heap.size,0,none⟩ (.slice none 0 0)).setCell ⟨w.heap.size,1,none⟩ (.bool false))):=T5 hG Bq (by omega) (IntV.zero _)
       clear nn
       obtain ⟨Cn0,Fn0⟩:=A7 Bn
       go_wp2_with fail
       exact bodyPost_ret (v := .tuple #[.agg #[.slice none 0 0,.bool false],.int .i64 2]) (by simp [results,Tryz.results120,go_sem,q90,q91]) rfl hF.out
   · skip
     obtain ⟨e1,e2⟩:=fB hs (fun h=>hd (by have:=((Q4 _).1 h).1;rw [hz] at this;exact this))
     rw [e1,e2]
     clear e1 e2 hz
     by_cases h4:s.size<=4096
     · skip
       clear hs
       have HD:=Lib.hid hd
       have HZ:=Lib.hid h4
       clear hd h4
       have HN:=Lib.hid hn
       clear hn
       have hG:w.grownBy (w.alloc (.cells #[.slice none 0 0,.bool false] 28)) none:=(World.grownBy_alloc _ _ _)
       have Bq:=(A4 w (.cells #[.slice none 0 0,.bool false] 28) (w.heap.size) rfl)
       go_enter Tryz.func120,Tryz.ntmps120
       obtain ⟨Cq0,Cq1,Fq0,Fq1⟩:=A3 Bq
       go_wp2_with fail
       generalize (w.alloc (.cells #[.slice none 0 0,.bool false] 28))=w0 at *
       refine (gC w0 s HN.out).mono ?_
       rintro e w1 ⟨rfl,rfl⟩
       go_wp2_with fail
       clear Cq0 Fq0 Cq1 Fq1
       refine (iT w0 s HZ.out HD.out).mono ?_
       rintro e w2 ⟨_,rfl,⟨sn,xn,rfl,hn,vn⟩,gw2⟩
       have nn:NatV w2 (.agg #[.slice sn xn.length xn.length]) (0):=⟨sn,xn,rfl,hn,vn⟩
       replace Bq:=A1 gw2 Bq
       replace hG:=A2 hG gw2
       clear gw2
       clear hn vn
       obtain ⟨Cq0,Cq1,Fq0,Fq1⟩:=A3 Bq
       have gbw2:=(World.grownBy_alloc w2 (.cells #[.slice sn xn.length xn.length] 26) none)
       have Bn:=(A4 w2 (.cells #[.slice sn xn.length xn.length] 26) (w2.heap.size) rfl)
       have hzw2:Hid (w.heap.size<=w2.heap.size):=Lib.hid hG.size
       have hlqw2:Hid (w.heap.size<w2.heap.size):=Lib.hid (Array.getElem?_eq_some_iff.1 Bq).1
       clear Cq0 Fq0 Cq1 Fq1
       replace Bq:=A1 gbw2 Bq
       replace nn:=nn.kept gbw2
       replace hG:=A2 hG gbw2
       clear gbw2
       obtain ⟨Cq0,Cq1,Fq0,Fq1⟩:=A3 Bq
       obtain ⟨Cn0,Fn0⟩:=A7 Bn
       clear Cq0 Fq0 Cq1 Fq1 Cn0 Fn0
       obtain ⟨k90,k91,k92,k93⟩:=A3 Bq
       obtain ⟨q90,q91,q92,q93⟩:=A3 (B7 Bq (.slice none 0 0) (.bool false))
       have hF:Hid (U4 w (0) 3 (.returned (.tuple #[.agg #[.slice none 0 0,.bool false],.int .i64 3])) (((w2.alloc (.cells #[.slice sn xn.length xn.length] 26)).setCell ⟨w.heap.size,0,none⟩ (.slice none 0 0)).setCell ⟨w.heap.size,1,none⟩ (.bool false))):=T5 hG Bq (by omega) (IntV.zero _)
       clear nn
       obtain ⟨Cn0,Fn0⟩:=A7 Bn
       go_wp2_with fail
       exact bodyPost_ret (v := .tuple #[.agg #[.slice none 0 0,.bool false],.int .i64 3]) (by simp [results,Tryz.results120,go_sem,q90,q91]) rfl hF.out
     · skip
       have h5 : 4096<s.size:=by omega
       clear h4
       have HD:=Lib.hid hd
       have HZ:=Lib.hid h5
       have HS:=Lib.hid hs
       clear hd h5 hs
       have HN:=Lib.hid hn
       clear hn
       have hG:w.grownBy (w.alloc (.cells #[.slice none 0 0,.bool false] 28)) none:=(World.grownBy_alloc _ _ _)
       have Bq:=(A4 w (.cells #[.slice none 0 0,.bool false] 28) (w.heap.size) rfl)
       go_enter Tryz.func120,Tryz.ntmps120
       obtain ⟨Cq0,Cq1,Fq0,Fq1⟩:=A3 Bq
       go_wp2_with fail
       generalize (w.alloc (.cells #[.slice none 0 0,.bool false] 28))=w0 at *
       refine (gC w0 s HN.out).mono ?_
       rintro e w1 ⟨rfl,rfl⟩
       go_wp2_with fail
       clear Cq0 Fq0 Cq1 Fq1
       refine (rG w0 s HZ.out).mono ?_
       rintro e w2 ⟨_,rfl,⟨sn,xn,rfl,hn,vn⟩,gw2⟩
       have nn:NatV w2 (.agg #[.slice sn xn.length xn.length]) (0):=⟨sn,xn,rfl,hn,vn⟩
       replace Bq:=A1 gw2 Bq
       replace hG:=A2 hG gw2
       clear gw2
       clear hn vn
       obtain ⟨Cq0,Cq1,Fq0,Fq1⟩:=A3 Bq
       have gbw2:=(World.grownBy_alloc w2 (.cells #[.slice sn xn.length xn.length] 26) none)
       have Bn:=(A4 w2 (.cells #[.slice sn xn.length xn.length] 26) (w2.heap.size) rfl)
       have hzw2:Hid (w.heap.size<=w2.heap.size):=Lib.hid hG.size
       have hlqw2:Hid (w.heap.size<w2.heap.size):=Lib.hid (Array.getElem?_eq_some_iff.1 Bq).1
       clear Cq0 Fq0 Cq1 Fq1
       replace Bq:=A1 gbw2 Bq
       replace nn:=nn.kept gbw2
       replace hG:=A2 hG gbw2
       clear gbw2
       obtain ⟨Cq0,Cq1,Fq0,Fq1⟩:=A3 Bq
       obtain ⟨Cn0,Fn0⟩:=A7 Bn
       go_wp2_with fail
       generalize (w2.alloc (.cells #[.slice sn xn.length xn.length] 26))=w3 at *
       generalize w2.heap.size=aw2 at *
       replace hzw2:=hzw2.out
       replace hlqw2:=hlqw2.out
       refine (long_any w3 s HS.out (by have:=HZ.out;omega)).mono ?_
       rintro e w4 ⟨b,rfl,hb,rfl⟩
       obtain rfl:b=false:=by cases b<;>first | rfl | exact absurd (hb.1 rfl) HD.out
       clear hb
       clear Cq0 Fq0 Cq1 Fq1 Cn0 Fn0
       obtain ⟨k90,k91,k92,k93⟩:=A3 Bq
       obtain ⟨q90,q91,q92,q93⟩:=A3 (B7 Bq (.slice none 0 0) (.bool false))
       have hF:Hid (U4 w (0) 3 (.returned (.tuple #[.agg #[.slice none 0 0,.bool false],.int .i64 3])) ((w3.setCell ⟨w.heap.size,0,none⟩ (.slice none 0 0)).setCell ⟨w.heap.size,1,none⟩ (.bool false))):=T5 hG Bq (by omega) (IntV.zero _)
       clear nn
       obtain ⟨Cn0,Fn0⟩:=A7 Bn
       go_wp2_with fail
       exact bodyPost_ret (v := .tuple #[.agg #[.slice none 0 0,.bool false],.int .i64 3]) (by simp [results,Tryz.results120,go_sem,q90,q91]) rfl hF.out
 · skip
   obtain ⟨t,ht⟩:∃ t,s.extract 1 s.size=t:=⟨_,rfl⟩
   have hp : 0<s.size:=by
    rcases Nat.eq_zero_or_pos s.size with h | h
    · have:bts s=[]:=List.length_eq_zero_iff.1 (by rw [C7];exact h)
      rw [this] at hn;cases hn
    · exact h
   have hbt:bts t=Z7 (bts s):=by rw [<- ht,eN,zdig_neg hn,List.drop_one]
   have htz:t.size<=4096:=by rw [<- ht,ByteArray.size_extract];omega
   by_cases hd:S9 (bts t)
   · skip
     obtain ⟨m,hm⟩:∃ m,G7 (bts t)=m:=⟨_,rfl⟩
     rcases Nat.eq_zero_or_pos m with h6 | h6
     · skip
       subst h6
       obtain ⟨e1,e2⟩:=fB hs (fun h=>((Q4 _).1 h).2 ⟨hn,by rw [<- hbt];exact hm⟩)
       rw [e1,e2]
       clear e1 e2 hbt hs hp
       rw [<- ht] at hd htz hm
       clear ht t
       have HD:=Lib.hid hd
       have HZ:=Lib.hid htz
       have HV:=Lib.hid hm
       clear hd htz hm
       have HN:=Lib.hid hn
       clear hn
       have hG:w.grownBy (w.alloc (.cells #[.slice none 0 0,.bool false] 28)) none:=(World.grownBy_alloc _ _ _)
       have Bq:=(A4 w (.cells #[.slice none 0 0,.bool false] 28) (w.heap.size) rfl)
       go_enter Tryz.func120,Tryz.ntmps120
       obtain ⟨Cq0,Cq1,Fq0,Fq1⟩:=A3 Bq
       go_wp2_with fail
       generalize (w.alloc (.cells #[.slice none 0 0,.bool false] 28))=w0 at *
       refine (qL w0 s HN.out).mono ?_
       rintro e w1 ⟨rfl,rfl⟩
       generalize hst:s.extract 1 s.size=t at *
       clear hst
       go_wp2_with fail
       clear Cq0 Fq0 Cq1 Fq1
       refine (dC w0 t HZ.out HD.out).mono ?_
       rintro e w2 ⟨_,rfl,⟨sn,xn,rfl,hn,vn⟩,gw2⟩
       rw [HV.out] at vn
       have nn:NatV _ (.agg #[.slice sn xn.length xn.length]) (0):=⟨sn,xn,rfl,hn,vn⟩
       clear hn vn
       replace Bq:=A1 gw2 Bq
       replace hG:=A2 hG gw2
       clear gw2
       obtain ⟨Cq0,Cq1,Fq0,Fq1⟩:=A3 Bq
       have gbw2:=(World.grownBy_alloc w2 (.cells #[.slice sn xn.length xn.length] 26) none)
       have Bn:=(A4 w2 (.cells #[.slice sn xn.length xn.length] 26) (w2.heap.size) rfl)
       have hzw2:Hid (w.heap.size<=w2.heap.size):=Lib.hid hG.size
       have hlqw2:Hid (w.heap.size<w2.heap.size):=Lib.hid (Array.getElem?_eq_some_iff.1 Bq).1
       clear Cq0 Fq0 Cq1 Fq1
       replace Bq:=A1 gbw2 Bq
       replace nn:=nn.kept gbw2
       replace hG:=A2 hG gbw2
       clear gbw2
       obtain ⟨Cq0,Cq1,Fq0,Fq1⟩:=A3 Bq
       obtain ⟨Cn0,Fn0⟩:=A7 Bn
       go_wp2_with fail
       generalize (w2.alloc (.cells #[.slice sn xn.length xn.length] 26))=w3 at *
       generalize w2.heap.size=aw2 at *
       replace hzw2:=hzw2.out
       replace hlqw2:=hlqw2.out
       clear Cq0 Fq0 Cq1 Fq1 Cn0 Fn0
       refine (L9 w3 _ 0 216 nn (by omega) (Nat.pow_pos D6)).mono ?_
       rintro e w4 ⟨rfl,gw4⟩
       rw [show nb 0=0 from rfl]
       replace Bq:=A1 gw4 Bq
       replace Bn:=A1 gw4 Bn
       replace nn:=nn.kept gw4
       replace hG:=A2 hG gw4
       clear gw4
       obtain ⟨Cq0,Cq1,Fq0,Fq1⟩:=A3 Bq
       obtain ⟨Cn0,Fn0⟩:=A7 Bn
       clear Cq0 Fq0 Cq1 Fq1 Cn0 Fn0
       obtain ⟨k90,k91,k92,k93⟩:=A3 Bq
       obtain ⟨q90,q91,q92,q93⟩:=A3 (B7 Bq (.slice none 0 0) (.bool false))
       have hF:Hid (U4 w (0) 3 (.returned (.tuple #[.agg #[.slice none 0 0,.bool false],.int .i64 3])) ((w4.setCell ⟨w.heap.size,0,none⟩ (.slice none 0 0)).setCell ⟨w.heap.size,1,none⟩ (.bool false))):=T5 hG Bq (by omega) (IntV.zero _)
       clear nn
       obtain ⟨Cn0,Fn0⟩:=A7 Bn
       go_wp2_with fail
       exact bodyPost_ret (v := .tuple #[.agg #[.slice none 0 0,.bool false],.int .i64 3]) (by simp [results,Tryz.results120,go_sem,q90,q91]) rfl hF.out
     · skip
       have hok:zok (bts s)=true:=(Q4 _).2 ⟨by rw [<- hbt];exact hd,by rw [<- hbt,hm];omega⟩
       obtain ⟨e1,e2⟩:=uG hs hok (by rw [<- hbt,C7];exact htz)
       rw [e1,e2,show mU (bts s) = -(m:Int) from by unfold mU;rw [if_pos hn, <- hbt,hm]]
       have hM:m<B^216:=by rw [<- hm];exact dval_bd hd (by rw [C7];omega)
       obtain ⟨cb,hcb⟩:∃ c,nb m=c:=⟨_,rfl⟩
       have f7:((cb:Int) == 0)=false:=beq_eq_false_iff_ne.2 (by have:=bI h6;omega)
       clear e1 e2 hbt hs hp hok
       rw [<- ht] at hd htz hm
       clear ht t
       have HD:=Lib.hid hd
       have HZ:=Lib.hid htz
       have HV:=Lib.hid hm
       have HM:=Lib.hid hM
       have HC:=Lib.hid hcb
       have HP:=Lib.hid h6
       clear hd htz hm hM hcb h6
       have HN:=Lib.hid hn
       clear hn
       have hG:w.grownBy (w.alloc (.cells #[.slice none 0 0,.bool false] 28)) none:=(World.grownBy_alloc _ _ _)
       have Bq:=(A4 w (.cells #[.slice none 0 0,.bool false] 28) (w.heap.size) rfl)
       go_enter Tryz.func120,Tryz.ntmps120
       obtain ⟨Cq0,Cq1,Fq0,Fq1⟩:=A3 Bq
       go_wp2_with fail
       generalize (w.alloc (.cells #[.slice none 0 0,.bool false] 28))=w0 at *
       refine (qL w0 s HN.out).mono ?_
       rintro e w1 ⟨rfl,rfl⟩
       generalize hst:s.extract 1 s.size=t at *
       clear hst
       go_wp2_with fail
       clear Cq0 Fq0 Cq1 Fq1
       refine (dC w0 t HZ.out HD.out).mono ?_
       rintro e w2 ⟨_,rfl,⟨sn,xn,rfl,hn,vn⟩,gw2⟩
       rw [HV.out] at vn
       have nn:NatV _ (.agg #[.slice sn xn.length xn.length]) (m):=⟨sn,xn,rfl,hn,vn⟩
       clear hn vn
       replace Bq:=A1 gw2 Bq
       replace hG:=A2 hG gw2
       clear gw2
       obtain ⟨Cq0,Cq1,Fq0,Fq1⟩:=A3 Bq
       have gbw2:=(World.grownBy_alloc w2 (.cells #[.slice sn xn.length xn.length] 26) none)
       have Bn:=(A4 w2 (.cells #[.slice sn xn.length xn.length] 26) (w2.heap.size) rfl)
       have hzw2:Hid (w.heap.size<=w2.heap.size):=Lib.hid hG.size
       have hlqw2:Hid (w.heap.size<w2.heap.size):=Lib.hid (Array.getElem?_eq_some_iff.1 Bq).1
       clear Cq0 Fq0 Cq1 Fq1
       replace Bq:=A1 gbw2 Bq
       replace nn:=nn.kept gbw2
       replace hG:=A2 hG gbw2
       clear gbw2
       obtain ⟨Cq0,Cq1,Fq0,Fq1⟩:=A3 Bq
       obtain ⟨Cn0,Fn0⟩:=A7 Bn
       go_wp2_with fail
       generalize (w2.alloc (.cells #[.slice sn xn.length xn.length] 26))=w3 at *
       generalize w2.heap.size=aw2 at *
       replace hzw2:=hzw2.out
       replace hlqw2:=hlqw2.out
       clear Cq0 Fq0 Cq1 Fq1 Cn0 Fn0
       refine (L9 w3 _ m 216 nn (by omega) HM.out).mono ?_
       rintro e w4 ⟨rfl,gw4⟩
       rw [HC.out]
       replace Bq:=A1 gw4 Bq
       replace Bn:=A1 gw4 Bn
       replace nn:=nn.kept gw4
       replace hG:=A2 hG gw4
       clear gw4
       obtain ⟨Cq0,Cq1,Fq0,Fq1⟩:=A3 Bq
       obtain ⟨Cn0,Fn0⟩:=A7 Bn
       have hi:IntV w4 (.agg #[.slice sn xn.length xn.length,.bool true]) (-(m:Int)):=intv_of_neg nn HP.out
       clear Cq0 Fq0 Cq1 Fq1 Cn0 Fn0
       obtain ⟨k90,k91,k92,k93⟩:=A3 Bq
       obtain ⟨q90,q91,q92,q93⟩:=A3 (B7 Bq (.slice sn xn.length xn.length) (.bool true))
       have hF:Hid (U4 w (-(m:Int)) 0 (.returned (.tuple #[.agg #[.slice sn xn.length xn.length,.bool true],.int .i64 0])) ((w4.setCell ⟨w.heap.size,0,none⟩ (.slice sn xn.length xn.length)).setCell ⟨w.heap.size,1,none⟩ (.bool true))):=T5 hG Bq (by omega) hi
       clear nn hi
       obtain ⟨Cn0,Fn0⟩:=A7 Bn
       go_wp2_with fail
       exact bodyPost_ret (v := .tuple #[.agg #[.slice sn xn.length xn.length,.bool true],.int .i64 0]) (by simp [results,Tryz.results120,go_sem,q90,q91]) rfl hF.out
   · skip
     obtain ⟨e1,e2⟩:=fB hs (fun h=>hd (by rw [hbt];exact ((Q4 _).1 h).1))
     rw [e1,e2]
     clear e1 e2 hbt hs hp
     rw [<- ht] at hd htz
     clear ht t
     have HD:=Lib.hid hd
     have HZ:=Lib.hid htz
     clear hd htz
     have HN:=Lib.hid hn
     clear hn
     have hG:w.grownBy (w.alloc (.cells #[.slice none 0 0,.bool false] 28)) none:=(World.grownBy_alloc _ _ _)
     have Bq:=(A4 w (.cells #[.slice none 0 0,.bool false] 28) (w.heap.size) rfl)
     go_enter Tryz.func120,Tryz.ntmps120
     obtain ⟨Cq0,Cq1,Fq0,Fq1⟩:=A3 Bq
     go_wp2_with fail
     generalize (w.alloc (.cells #[.slice none 0 0,.bool false] 28))=w0 at *
     refine (qL w0 s HN.out).mono ?_
     rintro e w1 ⟨rfl,rfl⟩
     generalize hst:s.extract 1 s.size=t at *
     clear hst
     go_wp2_with fail
     clear Cq0 Fq0 Cq1 Fq1
     refine (iT w0 t HZ.out HD.out).mono ?_
     rintro e w2 ⟨_,rfl,⟨sn,xn,rfl,hn,vn⟩,gw2⟩
     have nn:NatV w2 (.agg #[.slice sn xn.length xn.length]) (0):=⟨sn,xn,rfl,hn,vn⟩
     replace Bq:=A1 gw2 Bq
     replace hG:=A2 hG gw2
     clear gw2
     clear hn vn
     obtain ⟨Cq0,Cq1,Fq0,Fq1⟩:=A3 Bq
     have gbw2:=(World.grownBy_alloc w2 (.cells #[.slice sn xn.length xn.length] 26) none)
     have Bn:=(A4 w2 (.cells #[.slice sn xn.length xn.length] 26) (w2.heap.size) rfl)
     have hzw2:Hid (w.heap.size<=w2.heap.size):=Lib.hid hG.size
     have hlqw2:Hid (w.heap.size<w2.heap.size):=Lib.hid (Array.getElem?_eq_some_iff.1 Bq).1
     clear Cq0 Fq0 Cq1 Fq1
     replace Bq:=A1 gbw2 Bq
     replace nn:=nn.kept gbw2
     replace hG:=A2 hG gbw2
     clear gbw2
     obtain ⟨Cq0,Cq1,Fq0,Fq1⟩:=A3 Bq
     obtain ⟨Cn0,Fn0⟩:=A7 Bn
     clear Cq0 Fq0 Cq1 Fq1 Cn0 Fn0
     obtain ⟨k90,k91,k92,k93⟩:=A3 Bq
     obtain ⟨q90,q91,q92,q93⟩:=A3 (B7 Bq (.slice none 0 0) (.bool false))
     have hF:Hid (U4 w (0) 3 (.returned (.tuple #[.agg #[.slice none 0 0,.bool false],.int .i64 3])) (((w2.alloc (.cells #[.slice sn xn.length xn.length] 26)).setCell ⟨w.heap.size,0,none⟩ (.slice none 0 0)).setCell ⟨w.heap.size,1,none⟩ (.bool false))):=T5 hG Bq (by omega) (IntV.zero _)
     clear nn
     obtain ⟨Cn0,Fn0⟩:=A7 Bn
     go_wp2_with fail
     exact bodyPost_ret (v := .tuple #[.agg #[.slice none 0 0,.bool false],.int .i64 3]) (by simp [results,Tryz.results120,go_sem,q90,q91]) rfl hF.out
def Ints (w:World) (g:Nat) (zs:List Nat):Prop:=RBlk w g (zs.map iv).toArray
theorem heap_setv {w:World} {g o:Nat} {cs:Array Value} {v:Value} {t:TypeId} (h:w.heap[g]?=some (.cells cs t (0,0))):(w.setCell ⟨g,o,none⟩ v).heap[g]?=some (.cells (cs.setIfInBounds o v) t (0,0)):=by
 simp [World.setCell,Array.getElem?_modify,h]
theorem Ints.set {w:World} {g:Nat} {zs:List Nat} (h:Ints w g zs) (j d:Nat):Ints (w.setCell ⟨g,j,none⟩ (.int .i64 (d:Int))) g (zs.set j d):=by
 unfold Ints RBlk at h ⊢
 have:=heap_setv (w:=w) (g:=g) (v := .int .i64 (d:Int)) (o:=j) h
 rw [this]
 congr 2
 rw [List.map_set]
 simp [iv]
theorem Ints.drewN {w:World} {g:Nat} {zs:List Nat} (h:Ints w g zs) (q:Nat):Ints (w.drewN q) g zs:=h
theorem Ints.cell {w:World} {g:Nat} {zs:List Nat} {n:Nat} (h:Ints w g zs) (hn:zs.length=n) (j:Nat) (hj:j<n):w.cell? ⟨g,j,none⟩=some (.int .i64 (zs.getD j 0:Int)):=by
 rw [RBlk.cell h,List.getElem?_toArray,List.getElem?_map,List.getD_eq_getElem?_getD,List.getElem?_eq_getElem (by omega)];rfl
theorem Ints.frozen {w:World} {g:Nat} {zs:List Nat} (h:Ints w g zs) (j:Nat):w.frozen? ⟨g,j,none⟩=false:=RBlk.frozen h j
theorem Ints.rd {w:World} {g:Nat} {zs:List Nat} (h:Ints w g zs):RRdo w (some ⟨g,0,none⟩) zs:=by
 refine Or.inr ⟨g,0,_,rfl,h,fun i hi=>?_⟩
 rw [Nat.zero_add,List.getElem?_toArray,List.getElem?_map,List.getElem?_eq_getElem hi];rfl
theorem Mat.Dig.set {m:Nat} {xs:List Nat} (h:Dig m xs) {d:Nat} (hd:d<m) (j:Nat):Dig m (xs.set j d):=by
 intro x hx
 rcases List.mem_or_eq_of_mem_set hx with h1 | h1
 · exact h x h1
 · rw [h1];exact hd
def RIntV (w:World) (v:Value) (z:Int):Prop:=∃ (g:Int) (s:Option Addr) (l c:Nat),v = .agg #[.int .i64 g,.slice s l c]/\Hid (g=z.sign)/\RefV w (.agg #[.slice s l c]) z.natAbs
theorem RIntV.kept {w w':World} {v:Value} {z:Int} (h:RIntV w v z) (hg:w.grownBy w' none):RIntV w' v z:=by
 obtain ⟨g,s,l,c,e,h1,h2⟩:=h
 exact ⟨g,s,l,c,e,h1,h2.kept hg⟩
theorem RIntV.zero (w:World):RIntV w (.agg #[.int .i64 0,.slice none 0 0]) 0:=⟨0,none,0,0,rfl,rfl,RefV.zero w⟩
def Y5 (w:World) (z:Int) (e:Ending) (w':World):Prop:=∃ v,e = .returned v/\RIntV w' v z/\w.grownBy w' none
theorem RIntV.set_other {w:World} {v:Value} {n:Int} {g:Nat} {c:Array Value} {t:TypeId} (h:RIntV w v n) (hbox:w.heap[g]?=some (.cells c t (0,0))) (ht:t≠3) (o:Nat) (u:Value):RIntV (w.setCell ⟨g,o,none⟩ u) v n:=by
 obtain ⟨s,a,l,k,e,h1,h2⟩:=h
 exact ⟨s,a,l,k,e,h1,h2.set_other hbox ht o u⟩
theorem mJ {w:World} {g:Nat} {a0 a1:Value} {t:TypeId} (h:w.heap[g]?=some (.cells #[a0,a1] t (0,0))) (v0:Value):(w.setCell ⟨g,0,none⟩ v0).heap[g]?=some (.cells #[v0,a1] t (0,0)):=by
 simp [World.setCell,Array.getElem?_modify,h]
theorem bT {w w':World} {g:Nat} (hg:w.grownBy w' none) (hl:w.heap.size<=g) (v0 v1:Value):w.grownBy ((w'.setCell ⟨g,0,none⟩ v0).setCell ⟨g,1,none⟩ v1) none:=
 B1 (B1 hg (B2 (A9 _ _) _ _) hl) (B2 (A9 _ _) _ _) hl
theorem kT {w w':World} {z:Int} {g:Nat} {a0 a1 v0 v1:Value} (hg:w.grownBy w' none) (hbox:w'.heap[g]?=some (.cells #[a0,a1] 55 (0,0))) (hl:w.heap.size<=g) (h:RIntV w' (.agg #[v0,v1]) z) :
 Y5 w z (.returned (.agg #[v0,v1])) ((w'.setCell ⟨g,0,none⟩ v0).setCell ⟨g,1,none⟩ v1):=
 ⟨_,rfl,(h.set_other hbox (by decide) 0 v0).set_other (mJ hbox v0) (by decide) 1 v1,bT hg hl v0 v1⟩
theorem uS {w:World} {s:Option Addr} {l c n:Nat} (h:RefV w (.agg #[.slice s l c]) n):(n=0->l=0)/\(0<n->0<l):=by
 obtain ⟨s',l',c',xs,e,hl, -, -,ht, -,hv⟩:=h
 cases e
 refine ⟨fun h0=>?_,fun h0=>?_⟩
 · have:=(R8 D mS xs ht).1 (hv.trans h0)
   rw [<- hl,this];rfl
 · rcases Nat.eq_zero_or_pos l with h1 | h1
   · rw [h1] at hl
     rw [List.length_eq_zero_iff.1 hl] at hv
     simp [val] at hv;omega
   · exact h1
set_option maxHeartbeats 4000000 in
theorem T6 (w:World) (va:Value) (s:Int) (n:Nat) (z:Int) (Ha:RefV w va n) (hz:z.natAbs=n) (hs:n=0\/z.sign=s) :
 Calls Tryz.prog 116 #[.int .i64 s,va] w (Y5 w z):=by
 have HS:Hid (n=0\/z.sign=s):=hs
 have HZ:=Lib.hid hz
 clear hz hs
 have HL:=Lib.hid Ha
 rcases Nat.eq_zero_or_pos n with h0 | h0
 · skip
   obtain rfl:z=0:=by have:=HZ.out;omega
   subst h0
   obtain ⟨sa,la,ca,ya,rfl,ha⟩:=Ha
   obtain rfl:la=0:=(uS HL.out).1 rfl
   have Ha:RefV w (.agg #[.slice sa 0 ca]) 0:=HL.out
   clear HL ha HS HZ
   have hG:w.grownBy ((w.alloc (.cells #[.slice sa 0 ca] 53)).alloc (.cells #[.int .i64 0,.slice none 0 0] 55)) none:=A8 (World.grownBy_alloc _ _ _) _
   have Ba:=A1 (World.grownBy_alloc _ (.cells #[.int .i64 0,.slice none 0 0] 55) none) (A4 w (.cells #[.slice sa 0 ca] 53) w.heap.size rfl)
   have Bq:=A4 (w.alloc (.cells #[.slice sa 0 ca] 53)) (.cells #[.int .i64 0,.slice none 0 0] 55) (w.heap.size+1) (by simp)
   have ma:=Ha.kept hG
   go_enter Tryz.func116,Tryz.ntmps116
   obtain ⟨Ca0,Fa0⟩:=A7 Ba
   obtain ⟨Cq0,Cq1,Fq0,Fq1⟩:=A3 Bq
   have hG':w.grownBy ((w.alloc (.cells #[.slice sa 0 ca] 53)).alloc (.cells #[.int .i64 0,.slice none 0 0] 55)) none:=(A8 (World.grownBy_alloc _ _ _) _)
   have hF:Hid (Y5 w (0) (.returned (.agg #[.int .i64 0,.slice none 0 0])) ((w.alloc (.cells #[.slice sa 0 ca] 53)).alloc (.cells #[.int .i64 0,.slice none 0 0] 55))):=⟨_,rfl,RIntV.zero _,hG'⟩
   clear hG' ma
   go_wp2_with fail
   exact bodyPost_ret (v := .agg #[.int .i64 0,.slice none 0 0]) (by simp [results,Tryz.results116,go_sem]) rfl hF.out
 · skip
   obtain hs:z.sign=s:=HS.out.resolve_left (by omega)
   obtain ⟨sa,la,ca,ya,rfl,ha⟩:=Ha
   have hl:=(uS HL.out).2 h0
   have f1:((la:Int) == 0)=false:=beq_eq_false_iff_ne.2 (by omega)
   have Ha:RefV w (.agg #[.slice sa la ca]) n:=HL.out
   have HS2:=Lib.hid hs
   clear HL ha HS hs hl
   have hG:w.grownBy ((w.alloc (.cells #[.slice sa la ca] 53)).alloc (.cells #[.int .i64 0,.slice none 0 0] 55)) none:=A8 (World.grownBy_alloc _ _ _) _
   have Ba:=A1 (World.grownBy_alloc _ (.cells #[.int .i64 0,.slice none 0 0] 55) none) (A4 w (.cells #[.slice sa la ca] 53) w.heap.size rfl)
   have Bq:=A4 (w.alloc (.cells #[.slice sa la ca] 53)) (.cells #[.int .i64 0,.slice none 0 0] 55) (w.heap.size+1) (by simp)
   have ma:=Ha.kept hG
   go_enter Tryz.func116,Tryz.ntmps116
   obtain ⟨Ca0,Fa0⟩:=A7 Ba
   obtain ⟨Cq0,Cq1,Fq0,Fq1⟩:=A3 Bq
   have hG':w.grownBy ((w.alloc (.cells #[.slice sa la ca] 53)).alloc (.cells #[.int .i64 s,.slice sa la ca] 55)) none:=(A8 (World.grownBy_alloc _ _ _) _)
   have hF:Hid (Y5 w (z) (.returned (.agg #[.int .i64 s,.slice sa la ca])) ((w.alloc (.cells #[.slice sa la ca] 53)).alloc (.cells #[.int .i64 s,.slice sa la ca] 55))):=⟨_,rfl,⟨s,sa,la,ca,rfl,HS2.out.symm,by rw [HZ.out];exact Ha.kept hG'⟩,hG'⟩
   clear hG' ma
   go_wp2_with fail
   exact bodyPost_ret (v := .agg #[.int .i64 s,.slice sa la ca]) (by simp [results,Tryz.results116,go_sem]) rfl hF.out
theorem sign_bd (z:Int) : -1<=z.sign/\z.sign<=1:=by
 rcases iV z with ⟨_,e⟩ | ⟨_,e⟩ | ⟨_,e⟩<;>omega
set_option maxHeartbeats 4000000 in
theorem rNeg_any (w:World) (va:Value) (x:Int) (Ha:RIntV w va x) :
 Calls Tryz.prog 128 #[va] w (Y5 w (-x)):=by
 obtain ⟨ga,sa,la,ca,rfl,ha,ma⟩:=Ha
 have hG:w.grownBy ((w.alloc (.cells #[.int .i64 ga,.slice sa la ca] 55)).alloc (.cells #[.int .i64 0,.slice none 0 0] 55)) none:=(A8 (World.grownBy_alloc _ _ _) _)
 have Ba:=A1 (World.grownBy_alloc _ (.cells #[.int .i64 0,.slice none 0 0] 55) none) (A4 w (.cells #[.int .i64 ga,.slice sa la ca] 55) (w.heap.size) rfl)
 have Bq:=(A4 (w.alloc (.cells #[.int .i64 ga,.slice sa la ca] 55)) (.cells #[.int .i64 0,.slice none 0 0] 55) (w.heap.size+1) (by simp))
 have ra:RIntV ((w.alloc (.cells #[.int .i64 ga,.slice sa la ca] 55)).alloc (.cells #[.int .i64 0,.slice none 0 0] 55)) (.agg #[.int .i64 ga,.slice sa la ca]) (x):=⟨ga,sa,la,ca,rfl,ha,ma.kept hG⟩
 have ma':RefV ((w.alloc (.cells #[.int .i64 ga,.slice sa la ca] 55)).alloc (.cells #[.int .i64 0,.slice none 0 0] 55)) (.agg #[.slice sa la ca]) (x).natAbs:=ma.kept hG
 have oa:RIntV w (.agg #[.int .i64 ga,.slice sa la ca]) (x):=⟨ga,sa,la,ca,rfl,ha,ma⟩
 clear ma
 go_enter Tryz.func128,Tryz.ntmps128
 have hb:=sign_bd x
 rw [<- ha.out] at hb
 obtain ⟨hb1,hb2⟩:=hb
 obtain ⟨Ca0,Ca1,Fa0,Fa1⟩:=A3 Ba
 obtain ⟨Cq0,Cq1,Fq0,Fq1⟩:=A3 Bq
 go_wp2_with fail
 generalize ((w.alloc (.cells #[.int .i64 ga,.slice sa la ca] 55)).alloc (.cells #[.int .i64 0,.slice none 0 0] 55))=w0 at *
 clear Ca0 Fa0 Ca1 Fa1 Cq0 Fq0 Cq1 Fq1
 refine (T6 w0 _ (-ga) x.natAbs (-x) ma' (by omega) (Or.inr (by rw [Int.sign_neg,ha.out]))).mono ?_
 rintro e w1 ⟨_,rfl,⟨gd,sd,ld,cd,rfl,hd,md⟩,gw1⟩
 have rd:RIntV w1 (.agg #[.int .i64 gd,.slice sd ld cd]) (-x):=⟨gd,sd,ld,cd,rfl,hd,md⟩
 replace Ba:=A1 gw1 Ba
 replace Bq:=A1 gw1 Bq
 replace ra:=ra.kept gw1
 replace ma':=ma'.kept gw1
 replace hG:=A2 hG gw1
 clear gw1
 clear md
 obtain ⟨Ca0,Ca1,Fa0,Fa1⟩:=A3 Ba
 obtain ⟨Cq0,Cq1,Fq0,Fq1⟩:=A3 Bq
 clear Ca0 Fa0 Ca1 Fa1 Cq0 Fq0 Cq1 Fq1
 obtain ⟨k90,k91,k92,k93⟩:=A3 Bq
 obtain ⟨q90,q91,q92,q93⟩:=A3 (B7 Bq (.int .i64 gd) (.slice sd ld cd))
 have hF:Hid (Y5 w (-x) (.returned (.agg #[.int .i64 gd,.slice sd ld cd])) ((w1.setCell ⟨w.heap.size+1,0,none⟩ (.int .i64 gd)).setCell ⟨w.heap.size+1,1,none⟩ (.slice sd ld cd))):=kT hG Bq (by omega) rd
 clear ra ma' rd
 go_wp2_with fail
 exact bodyPost_ret (v := .agg #[.int .i64 gd,.slice sd ld cd]) (by simp [results,Tryz.results128,go_sem,q90,q91]) rfl hF.out
theorem rof_1 (w:World):Calls Tryz.prog 118 #[.int .u64 1] w (iQ w 1):=uY w 1 (by decide)
theorem lt_DE {m E:Nat} (h:m<B) (hE : 5<=E):m<D^E:=
 Nat.lt_of_lt_of_le h (Nat.le_trans (show B<=D^5 by unfold B D;decide) (Nat.pow_le_pow_right mS hE))
theorem lt_D1 {m:Nat} (h:m<B):m<D^1000000:=by
 obtain ⟨E,hE⟩:∃ E,E=1000000:=⟨_,rfl⟩
 rw [<- hE];exact lt_DE h (by omega)
set_option maxHeartbeats 4000000 in
theorem dV (w:World) (n:Int) (h1 : -9223372036854775808<=n) (h2:n<=9223372036854775807) :
 Calls Tryz.prog 61 #[.int .i64 n] w (Y5 w n):=by
 by_cases hn:n<0
 · skip
   have f1:decide (n<0)=true:=decide_eq_true hn
   obtain ⟨m,hm⟩:∃ m:Nat,n = -(m:Int)-1:=⟨(-(n+1)).toNat,by omega⟩
   obtain ⟨k1,hk1⟩:∃ k,IntKind.i64.wrap (n+1)=k:=⟨_,rfl⟩
   obtain ⟨k2,hk2⟩:∃ k,IntKind.i64.wrap (-k1)=k:=⟨_,rfl⟩
   have hk3:IntKind.u64.wrap k2=(m:Int):=by rw [IntKind.wrap_i64] at hk1 hk2;rw [IntKind.wrap_u64];omega
   have HM:Hid (m<B):=by show m<B;unfold B;omega
   have HB1:Hid (m<D^1000000):=Lib.hid (lt_D1 HM.out)
   have HB2:Hid (1<D^1000000):=Lib.hid (lt_D1 (show 1<B by unfold B;omega))
   have HN:Hid (n.natAbs=m+1):=by show _=_;omega
   have HSG:Hid (n.sign = -1):=Int.sign_eq_neg_one_of_neg hn
   clear hm h1 h2 hn
   have hG:w.grownBy (w.alloc (.cells #[.int .i64 0,.slice none 0 0] 55)) none:=(World.grownBy_alloc _ _ _)
   have Bq:=(A4 w (.cells #[.int .i64 0,.slice none 0 0] 55) (w.heap.size) rfl)
   go_enter Tryz.func61,Tryz.ntmps61
   obtain ⟨Cq0,Cq1,Fq0,Fq1⟩:=A3 Bq
   go_wp2_with fail
   generalize (w.alloc (.cells #[.int .i64 0,.slice none 0 0] 55))=w0 at *
   clear Cq0 Fq0 Cq1 Fq1
   refine (uY w0 m HM.out).mono ?_
   rintro e w1 ⟨vp,rfl,mp,gw1⟩
   replace Bq:=A1 gw1 Bq
   replace hG:=A2 hG gw1
   clear gw1
   obtain ⟨Cq0,Cq1,Fq0,Fq1⟩:=A3 Bq
   go_wp2_with fail
   clear Cq0 Fq0 Cq1 Fq1
   refine (rof_1 w1).mono ?_
   rintro e w2 ⟨vo,rfl,mo,gw2⟩
   replace Bq:=A1 gw2 Bq
   replace mp:=mp.kept gw2
   replace hG:=A2 hG gw2
   clear gw2
   obtain ⟨Cq0,Cq1,Fq0,Fq1⟩:=A3 Bq
   go_wp2_with fail
   clear Cq0 Fq0 Cq1 Fq1
   refine (rAdd_any w2 _ _ m 1 mp mo HB1.out HB2.out).mono ?_
   rintro e w3 ⟨vs,rfl,ms,gw3⟩
   replace Bq:=A1 gw3 Bq
   replace mp:=mp.kept gw3
   replace mo:=mo.kept gw3
   replace hG:=A2 hG gw3
   clear gw3
   obtain ⟨Cq0,Cq1,Fq0,Fq1⟩:=A3 Bq
   go_wp2_with fail
   clear Cq0 Fq0 Cq1 Fq1
   refine (T6 w3 _ (-1) (m+1) n ms HN.out (Or.inr HSG.out)).mono ?_
   rintro e w4 ⟨_,rfl,⟨gd,sd,ld,cd,rfl,hd,md⟩,gw4⟩
   have rd:RIntV w4 (.agg #[.int .i64 gd,.slice sd ld cd]) (n):=⟨gd,sd,ld,cd,rfl,hd,md⟩
   replace Bq:=A1 gw4 Bq
   replace mp:=mp.kept gw4
   replace mo:=mo.kept gw4
   replace ms:=ms.kept gw4
   replace hG:=A2 hG gw4
   clear gw4
   clear md
   obtain ⟨Cq0,Cq1,Fq0,Fq1⟩:=A3 Bq
   clear Cq0 Fq0 Cq1 Fq1
   obtain ⟨k90,k91,k92,k93⟩:=A3 Bq
   obtain ⟨q90,q91,q92,q93⟩:=A3 (B7 Bq (.int .i64 gd) (.slice sd ld cd))
   have hF:Hid (Y5 w (n) (.returned (.agg #[.int .i64 gd,.slice sd ld cd])) ((w4.setCell ⟨w.heap.size,0,none⟩ (.int .i64 gd)).setCell ⟨w.heap.size,1,none⟩ (.slice sd ld cd))):=kT hG Bq (by omega) rd
   clear mp mo ms rd
   go_wp2_with fail
   exact bodyPost_ret (v := .agg #[.int .i64 gd,.slice sd ld cd]) (by simp [results,Tryz.results61,go_sem,q90,q91]) rfl hF.out
 · skip
   have f1:decide (n<0)=false:=decide_eq_false hn
   obtain ⟨m,hm⟩:∃ m:Nat,n=(m:Int):=⟨n.toNat,by omega⟩
   have hk3:IntKind.u64.wrap n=(m:Int):=by rw [IntKind.wrap_u64];omega
   have HM:Hid (m<B):=by show m<B;unfold B;omega
   have HN:Hid (n.natAbs=m):=by show _=_;omega
   have HSG:Hid (m=0\/n.sign=1):=by
    show _\/_
    rcases iV n with ⟨h,e⟩ | ⟨h,e⟩ | ⟨h,e⟩
    · omega
    · left;omega
    · right;exact e
   clear hm h1 h2 hn
   have hG:w.grownBy (w.alloc (.cells #[.int .i64 0,.slice none 0 0] 55)) none:=(World.grownBy_alloc _ _ _)
   have Bq:=(A4 w (.cells #[.int .i64 0,.slice none 0 0] 55) (w.heap.size) rfl)
   go_enter Tryz.func61,Tryz.ntmps61
   obtain ⟨Cq0,Cq1,Fq0,Fq1⟩:=A3 Bq
   go_wp2_with fail
   generalize (w.alloc (.cells #[.int .i64 0,.slice none 0 0] 55))=w0 at *
   clear Cq0 Fq0 Cq1 Fq1
   refine (uY w0 m HM.out).mono ?_
   rintro e w1 ⟨vp,rfl,mp,gw1⟩
   replace Bq:=A1 gw1 Bq
   replace hG:=A2 hG gw1
   clear gw1
   obtain ⟨Cq0,Cq1,Fq0,Fq1⟩:=A3 Bq
   go_wp2_with fail
   clear Cq0 Fq0 Cq1 Fq1
   refine (T6 w1 _ 1 m n mp HN.out HSG.out).mono ?_
   rintro e w2 ⟨_,rfl,⟨gd,sd,ld,cd,rfl,hd,md⟩,gw2⟩
   have rd:RIntV w2 (.agg #[.int .i64 gd,.slice sd ld cd]) (n):=⟨gd,sd,ld,cd,rfl,hd,md⟩
   replace Bq:=A1 gw2 Bq
   replace mp:=mp.kept gw2
   replace hG:=A2 hG gw2
   clear gw2
   clear md
   obtain ⟨Cq0,Cq1,Fq0,Fq1⟩:=A3 Bq
   clear Cq0 Fq0 Cq1 Fq1
   obtain ⟨k90,k91,k92,k93⟩:=A3 Bq
   obtain ⟨q90,q91,q92,q93⟩:=A3 (B7 Bq (.int .i64 gd) (.slice sd ld cd))
   have hF:Hid (Y5 w (n) (.returned (.agg #[.int .i64 gd,.slice sd ld cd])) ((w2.setCell ⟨w.heap.size,0,none⟩ (.int .i64 gd)).setCell ⟨w.heap.size,1,none⟩ (.slice sd ld cd))):=kT hG Bq (by omega) rd
   clear mp rd
   go_wp2_with fail
   exact bodyPost_ret (v := .agg #[.int .i64 gd,.slice sd ld cd]) (by simp [results,Tryz.results61,go_sem,q90,q91]) rfl hF.out
def RetZText (w:World) (z:Int) (e:Ending) (w':World):Prop:=∃ s,e = .returned (.string s)/\F5 s z/\w.grownBy w' none
end Go.Proofs.YtdgdmicbbfoghaaGreatDoor
namespace Go.Proofs.YtdgdmicbbfoghaaGreatDoor
open Go.ChangeShapes Go.WideShapes Go.ChangeAt Go.RowKit Go.ChangeMaps Mat
theorem law_own:ownKnob Tryz.prog.godebug=none:=by kernel_rfl
theorem zval_bd (s:ByteArray) {n k:Nat} (h:s.size<=n) (hk:n<=19*k):(I3 s).natAbs<B^k:=by
 unfold I3
 split
 · next hc=>
   have hok:zok (bts s)=true:=by
    cases e:zok (bts s)
    · unfold U6 at hc
      rw [e] at hc
      split at hc
      · cases hc
      · simp at hc
    · rfl
   have hd:=((Q4 _).1 hok).1
   have hl:(Z7 (bts s)).length<=n:=by
    unfold Z7
    split
    · rw [List.length_tail,C7];omega
    · rw [C7];exact h
   have hb:=qG hd (Nat.le_trans hl hk)
   unfold mU
   split
   · rw [Int.natAbs_neg,Int.natAbs_natCast];exact hb
   · rw [Int.natAbs_natCast];exact hb
 · exact Nat.pow_pos D6
theorem rX {W W':World} (h:W.grownBy W' none):W.keptBut W' (fun _=>False):=by
 refine ⟨h.os,h.output,fun i hi=>?_⟩
 rw [h.block i hi (by simp)]
 cases W.heap[i]? with
 | none=>rfl
 | some o=>cases o<;>simp
end Go.Proofs.YtdgdmicbbfoghaaGreatDoor
namespace Go.Proofs.YtdgdmicbbfoghaaGreatDoor
open Go.RowKit Mat
theorem Z6 {s t:ByteArray} {z:Int} (hs:F5 s z) (ht:F5 t z):s=t:=by
 obtain ⟨l,hl,vl,el⟩:=hs
 obtain ⟨m,hm,vm,em⟩:=ht
 have:l=m:=lJ hl hm (vl.trans vm.symm)
 subst this
 exact bts_inj (el.trans em.symm)
theorem iU (w:World) (va:Value) (z:Int) (K:Nat) (ha:IntV w va z) (hK:K<=900000) (la:z.natAbs<B^K) :
 Calls Tryz.prog 15 #[va] w (RetZText w z):=U0 w va z K ha hK la
theorem kL {s:ByteArray} {z:Int} {K:Nat} (h:F5 s z) (la:z.natAbs<B^K):s.size<=20*K+2:=by
 obtain ⟨l,hl,vl,el⟩:=h
 have h1:l.length<=20*K+1:=by
  refine dec_len hl ?_ (by omega)
  rw [vl]
  refine Nat.lt_of_lt_of_le la ?_
  have q1:B^K<=(10^20)^K:=Nat.pow_le_pow_left (by decide) K
  rw [<- Nat.pow_mul] at q1
  exact Nat.le_trans q1 (Nat.pow_le_pow_right (by omega) (by omega))
 have h2:=congrArg List.length el
 rw [C7] at h2
 rw [h2]
 split
 · rw [List.length_cons];omega
 · omega
def U5 (s:ByteArray) (r:Rat):Prop:=(r.den=1/\F5 s r.num)\/(r.den≠1 /\ ∃ p q:ByteArray,F5 p r.num/\F5 q (r.den:Int)/\s=p ++ { data := #[47] } ++ q)
theorem oW {s t:ByteArray} {r:Rat} (hs:U5 s r) (ht:U5 t r):s=t:=by
 rcases hs with ⟨h1,h2⟩ | ⟨h1,p,q,h2,h3,h4⟩
 · rcases ht with ⟨g1,g2⟩ | ⟨g1,_⟩
   · exact Z6 h2 g2
   · exact absurd h1 g1
 · rcases ht with ⟨g1,g2⟩ | ⟨g1,p',q',g2,g3,g4⟩
   · exact absurd g1 h1
   · rw [h4,g4,Z6 h2 g2,Z6 h3 g3]
def RetRText (w:World) (r:Rat) (e:Ending) (w':World):Prop:=∃ s,e = .returned (.string s)/\U5 s r/\w.grownBy w' none
def fup (s:ByteArray):ByteArray:=if slx s<0 then s else s.extract 0 (slx s).toNat
def bV (s:ByteArray):ByteArray:=s.extract ((slx s).toNat+1) s.size
def jO (s:ByteArray):Int:=if lK (bts s)=true then 0 else 3
def K3 (s:ByteArray):Nat:=if lK (bts s)=true then G7 (bts s) else 0
def R7 (s:ByteArray):Int:=if U6 (fup s)≠0 then U6 (fup s) else if slx s<0 then 0 else if jO (bV s)≠0 then jO (bV s) else if K3 (bV s)=0 then 5 else 0
def eG (s:ByteArray):Rat:=if R7 s=0 then (if slx s<0 then (I3 (fup s):Rat) else Rat.divInt (I3 (fup s)) (K3 (bV s):Int)) else 0
theorem rJ (w:World) (s:ByteArray) (hs:s.size<=4096):Calls Tryz.prog 121 #[.string s] w (bC w (K3 s) (jO s)):=by
 unfold K3 jO
 by_cases h:lK (bts s)=true
 · rw [if_pos h,if_pos h];exact dC w s hs (cW h)
 · rw [if_neg h,if_neg h];exact iT w s hs (fun hd=>h ((cX _).2 hd))
theorem ncod_or (s:ByteArray):jO s=0\/jO s=3:=by unfold jO;split<;>simp
theorem zcod_or {s:ByteArray} (h:s.size<=4000):U6 s=0\/U6 s=3:=by
 have h1:(Z7 (bts s)).length<=4096:=by
  unfold Z7
  split
  · rw [List.length_tail,C7];omega
  · rw [C7];omega
 unfold U6
 rw [if_neg (by omega)]
 split
 · right;rfl
 · left;rw [if_neg (by omega)]
theorem pZ (s:ByteArray):(fup s).size<=s.size:=by
 unfold fup
 split
 · exact Nat.le_refl _
 · rw [ByteArray.size_extract];omega
theorem iJ (s:ByteArray):(bV s).size<=s.size:=by
 unfold bV
 rw [ByteArray.size_extract];omega
theorem nval_bd (s:ByteArray) {n k:Nat} (h:s.size<=n) (hk:n<=19*k):K3 s<B^k:=by
 unfold K3
 split
 · next hd=>exact qG ((cX _).1 hd) (by rw [C7];omega)
 · exact Nat.pow_pos D6
theorem fval_nb (s:ByteArray) {n k:Nat} (h:s.size<=n) (hk:n<=19*k):(eG s).num.natAbs<B^k:=by
 have h1:=zval_bd (fup s) (Nat.le_trans (pZ s) h) hk
 unfold eG
 split
 · split
   · exact h1
   · exact uW h1
 · exact Nat.pow_pos D6
theorem fval_db (s:ByteArray) {n k:Nat} (h:s.size<=n) (hk:n<=19*k) (k1 : 1<=k):(eG s).den<B^k:=by
 have h1:=nval_bd (bV s) (Nat.le_trans (iJ s) h) hk
 have h3 : 1<B^k:=Nat.lt_of_lt_of_le (show 1<B^1 by unfold B;omega) (Nat.pow_le_pow_right D6 k1)
 unfold eG
 split
 · next hc=>
   split
   · exact h3
   · next hs=>
     refine uX (by rw [Int.natAbs_natCast];exact h1) ?_
     intro e
     unfold R7 at hc
     split at hc
     · next hz=>exact hz hc
     · try rw [if_neg hs] at hc
       split at hc
       · next hn=>exact hn hc
       · rw [if_pos (by omega)] at hc;omega
 · exact h3
end Go.Proofs.YtdgdmicbbfoghaaGreatDoor
namespace Go.Proofs.YtdgdmicbbfoghaaGreatDoor
open Go.RowKit Mat Ex
theorem add_told {P:Program} {ρ : Operand->Value} {o:Oper} {t t':TypeId} {x y:Operand} {s u:ByteArray} {W:World} (ho:o.op = .binOp .add t x y t') (hx : ρ x = .string s) (hy : ρ y = .string u) (h:s.size+u.size<=9223372036854775807) :
 (execOp ρ o).run P W = .ok (.value (.string (s++u))) W:=by
 have hg:eqGuard .add t x y (.string s) (.string u)=pure ():=by unfold eqGuard;rfl
 have hb:binOp .add t (.string s) (.string u)=Op.stringOp .add s u:=by simp [binOp]
 simp only [execOp,ho,hx,hy,hg,hb,Sem.run_bind,Sem.run_pure,Result.andThen_ok,run_string_add_sum W s u h]
theorem cG (w:World) (va:Value) (r:Rat) (K:Nat) (Ha:RatV w va r) (hK:K<=800000) (ln:r.num.natAbs<B^K) (ld:r.den<B^K) :
 Calls Tryz.prog 16 #[va] w (RetRText w r):=by
 by_cases h1:r.den=1
 · skip
   refine A6 B5 Tryz.func16 [sQ r] [sV (.bool true),sT (fun s=>F5 s r.num)] (.cons Ha .nil) (rs:=[cl 1 58 [ag 4 0],cl 2 15 [ag 2 0]]) (out:=on 2) (nc:=3) (by kernel_rfl)
    ⟨fun σ W g h hb=>toV (E9 W _ r K (h 0 rfl) (by omega) ld) (by rw [decide_eq_true h1]),
    fun σ W g h hb=>toT (iU W _ r.num K (qn (h 0 rfl)) (by omega) ln),
    trivial⟩ fun τ W g h=>by
     obtain ⟨s,e,hs⟩:=h 2 rfl
     exact ⟨s,congrArg Ending.returned e,Or.inl ⟨h1,hs⟩,g⟩
 · skip
   refine A6 B5 Tryz.func16 [sQ r] [sV (.bool false),sT (fun s=>F5 s r.num),sT (fun s=>∃ p,F5 p r.num/\s=p ++ { data := #[47] }),sT (fun s=>F5 s (r.den:Int)),sT (fun s=>U5 s r)] (.cons Ha .nil) (rs:=[cl 1 58 [ag 4 0],cl 2 15 [ag 2 0],co 3 (.binOp .add 9 (.tmp 10) (.const (.string ({ data := #[47] }))) 9) 9 [on 2,.v false [.lit (.string ({ data := #[47] }))]] [0,1,2] [],cla 4 15 [.v true [.an 0 2,.an 0 3]] [0,1,2],co 5 (.binOp .add 9 (.tmp 11) (.tmp 14) 9) 9 [on 3,on 4] [0,1,2,3,4] []]) (out:=on 5) (nc:=6) (by kernel_rfl)
    ⟨fun σ W g h hb=>toV (E9 W _ r K (h 0 rfl) (by omega) ld) (by rw [decide_eq_false h1]),
    fun σ W g h hb=>toT (iU W _ r.num K (qn (h 0 rfl)) (by omega) ln),
    fun σ W g h hb=>fun ρ o ho _ hv=>by
     obtain ⟨s,es,hs⟩:=h 2 rfl
     have hl:=kL hs ln
     exact ⟨_,add_told ho ((A0 hv).1.trans es) (A0 hv).2 (by have:ByteArray.size { data := #[47] } = 1:=rfl;omega),_,rfl,s,hs,rfl⟩,
    fun σ W g h hb=>toT (iU W _ (r.den:Int) K (nP h1 ▸ qd (h 0 rfl)) (by omega) (ldi ld)),
    fun σ W g h hb=>fun ρ o ho _ hv=>by
     obtain ⟨s,es,p,hp,rfl⟩:=h 3 rfl
     obtain ⟨t,et,ht⟩:=h 4 rfl
     have hl:=kL hp ln
     have hm:=kL ht (ldi ld)
     have h47:ByteArray.size { data := #[47] } = 1:=rfl
     exact ⟨_,add_told ho ((A0 hv).1.trans es) ((A0 hv).2.trans et) (by rw [ByteArray.size_append];omega),_,rfl,Or.inr ⟨h1,p,t,hp,ht,rfl⟩⟩,
    trivial⟩ fun τ W g h=>by
     obtain ⟨s,e,hs⟩:=h 5 rfl
     exact ⟨s,congrArg Ending.returned e,hs,g⟩
theorem dE (w:World) (s:ByteArray) (hs:s.size<=4000) (hTab:Tab w) :
 Calls Tryz.prog 62 #[.string s] w (gK w (eG s) (R7 s)):=by
 obtain ⟨U,hU⟩:∃ U,fup s=U:=⟨_,rfl⟩
 obtain ⟨D,hD⟩:∃ D,bV s=D:=⟨_,rfl⟩
 have hUs:U.size<=4000:=by rw [<- hU];exact Nat.le_trans (pZ s) hs
 have hDs:D.size<=4000:=by rw [<- hD];exact Nat.le_trans (iJ s) hs
 have HZB:(I3 U).natAbs<B^211:=zval_bd U hUs (by omega)
 have HNB:K3 D<B^211:=nval_bd D hDs (by omega)
 have hcv:R7 s=(if U6 U≠0 then U6 U else if slx s<0 then 0 else if jO D≠0 then jO D else if K3 D=0 then 5 else 0):=by unfold R7;rw [hU,hD]
 have hfv:eG s=if R7 s=0 then (if slx s<0 then (I3 U:Rat) else Rat.divInt (I3 U) (K3 D:Int)) else 0:=by unfold eG;rw [hU,hD]
 rcases oN s with ⟨hx,_⟩ | ⟨k,hk,hx,_,_⟩<;>rcases zcod_or hUs with hz | hz
 rotate_left 2
 rcases ncod_or D with hn | hn
 rotate_left 3
 · skip
   have hUe:U=s:=by rw [<- hU];unfold fup;rw [if_pos (by omega)]
   rw [show R7 s=0 by rw [hcv];simp [hz,hx],hfv,if_pos (by rw [hcv];simp [hz,hx]),if_pos (by omega)]
   refine A6 B5 Tryz.func62 [sS s] [sCut U ⟨#[]⟩ false,sIE (I3 U) 0,sQ (I3 U:Rat)] (.cons rfl .nil) (rs:=[cl 1 119 [on 0,.v false [.lit (.string ({ data := #[47] }))]],cl 2 120 [on 1],cl 3 9 [ag 2 2]]) (out := .tup [(true,[.an 3 0,.an 3 1,.an 3 2,.an 3 3]),(false,[.lit (.int .i64 0)])]) (nc:=4) (by kernel_rfl)
    ⟨fun σ W g h hb=>Q9 (by rw [List.map_cons,show SV.den σ (on 0) = .string s from h 0 rfl];rfl) ((scut_no W s hx).mono fun _ _ ⟨a,g⟩=>⟨_,a,by rw [hUe];rfl,g ▸ A9 _ _⟩),
    fun σ W g h hb=>R0 (cut1 (h 1 rfl)) (toIE (aL W U) hz),
    fun σ W g h hb=>B4 W _ (I3 U) 211 (iE (h 2 rfl)) (by omega) HZB,
    trivial⟩ fun τ W g h=>⟨_,rfl,h 3 rfl,g⟩
 · skip
   have hUe:U=s:=by rw [<- hU];unfold fup;rw [if_pos (by omega)]
   rw [show R7 s=3 by rw [hcv];simp [hz,hx],hfv,if_neg (by rw [hcv];simp [hz,hx])]
   refine A6 B5 Tryz.func62 [sS s] [sCut U ⟨#[]⟩ false,sIE (I3 U) 3] (.cons rfl .nil) (rs:=[cl 1 119 [on 0,.v false [.lit (.string ({ data := #[47] }))]],cl 2 120 [on 1]]) (out := .tup [(true,[.lit (.slice none 0 0),.lit (.bool false),.lit (.slice none 0 0),.lit (.bool false)]),(false,[.lit (.int .i64 3)])]) (nc:=3) (by kernel_rfl)
    ⟨fun σ W g h hb=>Q9 (by rw [List.map_cons,show SV.den σ (on 0) = .string s from h 0 rfl];rfl) ((scut_no W s hx).mono fun _ _ ⟨a,g⟩=>⟨_,a,by rw [hUe];rfl,g ▸ A9 _ _⟩),
    fun σ W g h hb=>R0 (cut1 (h 1 rfl)) (toIE (aL W U) hz),
    trivial⟩ fun τ W g h=>⟨_,rfl,RatV.zero W,g⟩
 · skip
   have hUe:U=s.extract 0 k:=by rw [<- hU];unfold fup;rw [if_neg (by omega),hx];rfl
   have hDe:D=s.extract (k+1) s.size:=by rw [<- hD];unfold bV;rw [hx];rfl
   have hc:R7 s=if K3 D=0 then 5 else 0:=by rw [hcv,if_neg (by omega),if_neg (by omega),if_neg (by omega)]
   have hv:eG s=Rat.divInt (I3 U) (K3 D:Int):=by
    rw [hfv,hc]
    by_cases h0:K3 D=0
    · rw [if_neg (by simp [h0]),h0];rfl
    · rw [if_pos (by simp [h0]),if_neg (by omega)]
   rw [hc,hv]
   refine A6 B5 Tryz.func62 [sS s] [sCut U D true,sIE (I3 U) 0,sNE (K3 D) 0,sI (K3 D:Int),sQC (Rat.divInt (I3 U) (K3 D:Int)) (if K3 D=0 then 5 else 0)] (.cons rfl .nil) (rs:=[cl 1 119 [on 0,.v false [.lit (.string ({ data := #[47] }))]],cl 2 120 [on 1],cl 3 121 [.v false [.an 1 1]],cl 4 40 [ag 1 3],cl 5 100 [ag 2 2,ag 2 4]]) (out := .tup [(true,[.an 5 0,.an 5 1,.an 5 2,.an 5 3]),(false,[.an 5 4])]) (nc:=6) (by kernel_rfl)
    ⟨fun σ W g h hb=>Q9 (by rw [List.map_cons,show SV.den σ (on 0) = .string s from h 0 rfl];rfl) ((uP W s k hx hk (by omega)).mono fun _ _ ⟨a,g⟩=>⟨_,a,by rw [hUe,hDe];rfl,g⟩),
    fun σ W g h hb=>R0 (cut1 (h 1 rfl)) (toIE (aL W U) hz),
    fun σ W g h hb=>R0 (cut2 (h 1 rfl)) (toNE (rJ W D (by omega)) hn),
    fun σ W g h hb=>gN W _ _ 211 (nE (h 3 rfl)) (by omega) HNB,
    fun σ W g h hb=>toQC (by
     have:=uD W _ _ (I3 U) (K3 D:Int) 211 (iE (h 2 rfl)) (h 4 rfl) (by omega) HZB (ldi HNB) (hTab.kept g (by simp))
     rw [show (if ((K3 D:Nat):Int)=0 then (5:Int) else 0)=if K3 D=0 then 5 else 0 by simp only [Int.natCast_eq_zero]] at this
     exact this),
    trivial⟩ fun τ W g h=>qcE (h 5 rfl) g
 · skip
   have hUe:U=s.extract 0 k:=by rw [<- hU];unfold fup;rw [if_neg (by omega),hx];rfl
   have hDe:D=s.extract (k+1) s.size:=by rw [<- hD];unfold bV;rw [hx];rfl
   rw [show R7 s=3 by rw [hcv];simp [hz,hn,hx],hfv,if_neg (by rw [hcv];simp [hz,hn,hx])]
   refine A6 B5 Tryz.func62 [sS s] [sCut U D true,sIE (I3 U) 0,sNE (K3 D) 3] (.cons rfl .nil) (rs:=[cl 1 119 [on 0,.v false [.lit (.string ({ data := #[47] }))]],cl 2 120 [on 1],cl 3 121 [.v false [.an 1 1]]]) (out := .tup [(true,[.lit (.slice none 0 0),.lit (.bool false),.lit (.slice none 0 0),.lit (.bool false)]),(false,[.lit (.int .i64 3)])]) (nc:=4) (by kernel_rfl)
    ⟨fun σ W g h hb=>Q9 (by rw [List.map_cons,show SV.den σ (on 0) = .string s from h 0 rfl];rfl) ((uP W s k hx hk (by omega)).mono fun _ _ ⟨a,g⟩=>⟨_,a,by rw [hUe,hDe];rfl,g⟩),
    fun σ W g h hb=>R0 (cut1 (h 1 rfl)) (toIE (aL W U) hz),
    fun σ W g h hb=>R0 (cut2 (h 1 rfl)) (toNE (rJ W D (by omega)) hn),
    trivial⟩ fun τ W g h=>⟨_,rfl,RatV.zero W,g⟩
 · skip
   have hUe:U=s.extract 0 k:=by rw [<- hU];unfold fup;rw [if_neg (by omega),hx];rfl
   have hDe:D=s.extract (k+1) s.size:=by rw [<- hD];unfold bV;rw [hx];rfl
   rw [show R7 s=3 by rw [hcv];simp [hz,hx],hfv,if_neg (by rw [hcv];simp [hz,hx])]
   refine A6 B5 Tryz.func62 [sS s] [sCut U D true,sIE (I3 U) 3] (.cons rfl .nil) (rs:=[cl 1 119 [on 0,.v false [.lit (.string ({ data := #[47] }))]],cl 2 120 [on 1]]) (out := .tup [(true,[.lit (.slice none 0 0),.lit (.bool false),.lit (.slice none 0 0),.lit (.bool false)]),(false,[.lit (.int .i64 3)])]) (nc:=3) (by kernel_rfl)
    ⟨fun σ W g h hb=>Q9 (by rw [List.map_cons,show SV.den σ (on 0) = .string s from h 0 rfl];rfl) ((uP W s k hx hk (by omega)).mono fun _ _ ⟨a,g⟩=>⟨_,a,by rw [hUe,hDe];rfl,g⟩),
    fun σ W g h hb=>R0 (cut1 (h 1 rfl)) (toIE (aL W U) hz),
    trivial⟩ fun τ W g h=>⟨_,rfl,RatV.zero W,g⟩
end Go.Proofs.YtdgdmicbbfoghaaGreatDoor
