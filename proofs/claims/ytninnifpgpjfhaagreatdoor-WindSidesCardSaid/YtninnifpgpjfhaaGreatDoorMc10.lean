/- What the laws lean on, part 10. -/
import Derived.Below
import Derived.BigCall
import Derived.BigQuiet
import Derived.BigRegion
import Derived.Deep.AppendLies
import Derived.Deep.CutBlock
import Derived.Deep.CutRange
import Derived.Deep.DeepCutAuto
import Derived.Deep.DeepHandedRow
import Derived.Deep.LoopGhost
import Derived.Deep.MidRow
import Derived.Deep.QuietTactic
import Derived.Deep.RegionHeld3
import Derived.Deep.WholeRow
import Derived.Laws.AppendOwn
import Derived.Laws.Concat
import Derived.Laws.CopyOwn
import Derived.Laws.Externs
import Derived.Laws.IdiomStrings
import Derived.Lib.BitFns
import Derived.Lib.Bytealg
import Derived.Lib.Hide
import Derived.Lib.Slices
import Derived.Lib.Small
import Derived.Lib.Strings
import Derived.Lib.Walk
import Derived.LoopIn
import Derived.LoopN
import Derived.LoopNIn
import Derived.Maps.AppendAt
import Derived.OpenShut
import Derived.OrdersHeld
import Derived.OrdersIn
import Derived.Outline
import Derived.OwnWalk
import Derived.OwnWalkIn
import Derived.ProofKit
import Derived.RangeFuncBound
import Derived.RangeFuncCalls
import Derived.RangeFuncLeaves
import Derived.RangeFuncNested
import Derived.RangeFuncOwn
import Derived.Shelf.Abstract
import Derived.Shelf.Bits.Mul64
import Derived.Shelf.RegionOpen
import Derived.Shelf.Spec.TrailingZeros
import Derived.StillTailTactics
import Derived.TacticsInMore
import Derived.WalkKit
import Derived.WalkLawsBesides
import Derived.WalkSpells
import Derived.Test.YtninnifpgpjfhaaGreatDoorProg
import Derived.Test.YtninnifpgpjfhaaGreatDoorRows
import Derived.Test.YtninnifpgpjfhaaGreatDoorMc8
import Derived.Test.YtninnifpgpjfhaaGreatDoorMc9
set_option linter.unusedVariables false
set_option linter.unusedSimpArgs false
set_option maxRecDepth 100000
namespace Go.Proofs.YtninnifpgpjfhaaGreatDoor
open Go.RowKit Mat
theorem rof_1 (w:World):Calls Tryz.prog 67 #[.int .u64 1] w (R9 w 1):=mH w 1 (by decide)
theorem neg_lt {y:Int} {E:Nat} (h:y.natAbs<E):(-y).natAbs<E:=by rw [Int.natAbs_neg];exact h
theorem lt_DE {m E:Nat} (h:m<B) (hE : 5<=E):m<D^E:=
 Nat.lt_of_lt_of_le h (Nat.le_trans (show B<=D^5 by unfold B D;decide) (Nat.pow_le_pow_right Y5 hE))
theorem lt_D1 {m:Nat} (h:m<B):m<D^1000000:=by
 obtain ⟨E,hE⟩:∃ E,E=1000000:=⟨_,rfl⟩
 rw [<- hE];exact lt_DE h (by omega)
theorem radd_same {x y:Int} (h:x.sign=y.sign):(x+y).natAbs=x.natAbs+y.natAbs/\(x+y).sign=x.sign:=by
 rcases P6 x with ⟨h1,e1⟩ | ⟨h1,e1⟩ | ⟨h1,e1⟩<;>rcases P6 y with ⟨h2,e2⟩ | ⟨h2,e2⟩ | ⟨h2,e2⟩<;>rcases P6 (x+y) with ⟨h3,e3⟩ | ⟨h3,e3⟩ | ⟨h3,e3⟩<;>omega
theorem mG {x y:Int} (h:x.sign≠y.sign) (h0:x≠0) (h9:y≠0) (hle:y.natAbs<=x.natAbs):(x+y).natAbs=x.natAbs-y.natAbs/\(x.natAbs-y.natAbs=0\/(x+y).sign=x.sign):=by
 rcases P6 x with ⟨h1,e1⟩ | ⟨h1,e1⟩ | ⟨h1,e1⟩<;>rcases P6 y with ⟨h2,e2⟩ | ⟨h2,e2⟩ | ⟨h2,e2⟩<;>rcases P6 (x+y) with ⟨h3,e3⟩ | ⟨h3,e3⟩ | ⟨h3,e3⟩<;>omega
set_option maxHeartbeats 8000000 in
theorem M3 (w:World) (va vb:Value) (x y:Int) (Ha:RIntV w va x) (Hb:RIntV w vb y) (la':x.natAbs<D^1000000) (lb':y.natAbs<D^1000000) :
 Calls Tryz.prog 61 #[va,vb] w (F2 w (x*y)):=by
 have Hla:=Lib.hid la'
 have Hlb:=Lib.hid lb'
 clear la' lb'
 obtain ⟨ga,sa,la,ca,rfl,ha,ma⟩:=Ha
 obtain ⟨gb,sb,lb,cb,rfl,hb,mb⟩:=Hb
 have hG:w.grownBy (((w.alloc (.cells #[.int .i64 ga,.slice sa la ca] 41)).alloc (.cells #[.int .i64 gb,.slice sb lb cb] 41)).alloc (.cells #[.int .i64 0,.slice none 0 0] 41)) none:=(A4 (A4 (World.grownBy_alloc _ _ _) _) _)
 have Ba:=A1 (A4 (World.grownBy_alloc _ (.cells #[.int .i64 gb,.slice sb lb cb] 41) none) (.cells #[.int .i64 0,.slice none 0 0] 41)) (A6 w (.cells #[.int .i64 ga,.slice sa la ca] 41) (w.heap.size) rfl)
 have Bb:=A1 (World.grownBy_alloc _ (.cells #[.int .i64 0,.slice none 0 0] 41) none) (A6 (w.alloc (.cells #[.int .i64 ga,.slice sa la ca] 41)) (.cells #[.int .i64 gb,.slice sb lb cb] 41) (w.heap.size+1) (by simp))
 have Bq:=(A6 ((w.alloc (.cells #[.int .i64 ga,.slice sa la ca] 41)).alloc (.cells #[.int .i64 gb,.slice sb lb cb] 41)) (.cells #[.int .i64 0,.slice none 0 0] 41) (w.heap.size+1+1) (by simp))
 have ra:RIntV (((w.alloc (.cells #[.int .i64 ga,.slice sa la ca] 41)).alloc (.cells #[.int .i64 gb,.slice sb lb cb] 41)).alloc (.cells #[.int .i64 0,.slice none 0 0] 41)) (.agg #[.int .i64 ga,.slice sa la ca]) (x):=⟨ga,sa,la,ca,rfl,ha,ma.kept hG⟩
 have ma':RefV (((w.alloc (.cells #[.int .i64 ga,.slice sa la ca] 41)).alloc (.cells #[.int .i64 gb,.slice sb lb cb] 41)).alloc (.cells #[.int .i64 0,.slice none 0 0] 41)) (.agg #[.slice sa la ca]) (x).natAbs:=ma.kept hG
 have rb:RIntV (((w.alloc (.cells #[.int .i64 ga,.slice sa la ca] 41)).alloc (.cells #[.int .i64 gb,.slice sb lb cb] 41)).alloc (.cells #[.int .i64 0,.slice none 0 0] 41)) (.agg #[.int .i64 gb,.slice sb lb cb]) (y):=⟨gb,sb,lb,cb,rfl,hb,mb.kept hG⟩
 have mb':RefV (((w.alloc (.cells #[.int .i64 ga,.slice sa la ca] 41)).alloc (.cells #[.int .i64 gb,.slice sb lb cb] 41)).alloc (.cells #[.int .i64 0,.slice none 0 0] 41)) (.agg #[.slice sb lb cb]) (y).natAbs:=mb.kept hG
 have oa:RIntV w (.agg #[.int .i64 ga,.slice sa la ca]) (x):=⟨ga,sa,la,ca,rfl,ha,ma⟩
 clear ma
 have ob:RIntV w (.agg #[.int .i64 gb,.slice sb lb cb]) (y):=⟨gb,sb,lb,cb,rfl,hb,mb⟩
 clear mb
 go_enter Tryz.func61,Tryz.ntmps61
 obtain ⟨P,hP⟩:∃ P,(x*y).sign=P:=⟨_,rfl⟩
 have HP:Hid ((x*y).sign=P):=hP
 have HN:Hid ((x*y).natAbs=x.natAbs*y.natAbs):=Int.natAbs_mul x y
 have hw:IntKind.i64.wrap (ga*gb)=P:=by
  rw [ha.out,hb.out, <- Int.sign_mul,hP,IntKind.wrap_i64]
  have:=lY (x*y);rw [hP] at this;omega
 clear hP
 obtain ⟨Ca0,Ca1,Fa0,Fa1⟩:=A3 Ba
 obtain ⟨Cb0,Cb1,Fb0,Fb1⟩:=A3 Bb
 obtain ⟨Cq0,Cq1,Fq0,Fq1⟩:=A3 Bq
 go_wp2_with fail
 generalize (((w.alloc (.cells #[.int .i64 ga,.slice sa la ca] 41)).alloc (.cells #[.int .i64 gb,.slice sb lb cb] 41)).alloc (.cells #[.int .i64 0,.slice none 0 0] 41))=w0 at *
 go_region_held3 (fun w'=>w'.cell? ⟨w.heap.size,0,none⟩=some (.int .i64 ga)/\w'.cell? ⟨w.heap.size,1,none⟩=some (.slice sa la ca)/\w'.cell? ⟨w.heap.size+1,0,none⟩=some (.int .i64 gb)/\w'.cell? ⟨w.heap.size+1,1,none⟩=some (.slice sb lb cb))
  (first | assumption | exact ⟨Ca0,Ca1,Cb0,Cb1⟩ | exact HSw1_20 | go_keep)
  (first
   | (go_at_call 102;(with_reducible refine (rMul_any w0.drew _ _ x.natAbs y.natAbs (ma'.kept (B4 (A7 _ _))) (mb'.kept (B4 (A7 _ _))) Hla.out Hlb.out).mono ?_);rintro e w1_1 ⟨vp,rfl,mp,gw1_1⟩;have hGw1_1:=F5 w0 gw1_1 rfl rfl rfl rfl;have hSw1_1:=(And.intro (hGw1_1.cell Ca0 (by simp)) (And.intro (hGw1_1.cell Ca1 (by simp)) (And.intro (hGw1_1.cell Cb0 (by simp)) (hGw1_1.cell Cb1 (by simp)))));clear gw1_1)
   | (go_at_call 65;(with_reducible refine (M4 w1_1 _ P (x.natAbs*y.natAbs) (x*y) mp HN.out (Or.inr HP.out)).mono ?_);rintro e w1_2 ⟨_,rfl,⟨gd,sd,ld,cd,rfl,hd,md⟩,gw1_2⟩;have hGw1_2:=A2 hGw1_1 gw1_2;replace mp:=mp.kept gw1_2;have rd:RIntV w1_2 (.agg #[.int .i64 gd,.slice sd ld cd]) (x*y):=⟨gd,sd,ld,cd,rfl,hd,md⟩;have hSw1_2:=(And.intro (hGw1_2.cell Ca0 (by simp)) (And.intro (hGw1_2.cell Ca1 (by simp)) (And.intro (hGw1_2.cell Cb0 (by simp)) (hGw1_2.cell Cb1 (by simp)))));clear gw1_2;clear md;(obtain ⟨dq0,dq1,dq2,dq3⟩:=A3 (A1 hGw1_2 Bq));have HSw1_20:=(And.intro ((A3 (B0 (A1 hGw1_2 Ba) (show w.heap.size≠w.heap.size+1+1 by omega) (.int .i64 gd) (.slice sd ld cd))).1) (And.intro ((A3 (B0 (A1 hGw1_2 Ba) (show w.heap.size≠w.heap.size+1+1 by omega) (.int .i64 gd) (.slice sd ld cd))).2.1) (And.intro ((A3 (B0 (A1 hGw1_2 Bb) (show w.heap.size+1≠w.heap.size+1+1 by omega) (.int .i64 gd) (.slice sd ld cd))).1) ((A3 (B0 (A1 hGw1_2 Bb) (show w.heap.size+1≠w.heap.size+1+1 by omega) (.int .i64 gd) (.slice sd ld cd))).2.1))))))
 replace Ba:=A1 hGw1_2 Ba
 replace Bb:=A1 hGw1_2 Bb
 replace Bq:=A1 hGw1_2 Bq
 replace ra:=ra.kept hGw1_2
 replace ma':=ma'.kept hGw1_2
 replace rb:=rb.kept hGw1_2
 replace mb':=mb'.kept hGw1_2
 replace hG:=A2 hG hGw1_2
 clear Ca0 Fa0 Ca1 Fa1 Cb0 Fb0 Cb1 Fb1 Cq0 Fq0 Cq1 Fq1
 obtain ⟨k90,k91,k92,k93⟩:=A3 Bq
 obtain ⟨q90,q91,q92,q93⟩:=A3 (C3 Bq (.int .i64 gd) (.slice sd ld cd))
 have hF:Hid (F2 w (x*y) (.returned (.agg #[.int .i64 gd,.slice sd ld cd])) ((w1_2.setCell ⟨w.heap.size+1+1,0,none⟩ (.int .i64 gd)).setCell ⟨w.heap.size+1+1,1,none⟩ (.slice sd ld cd))):=K8 hG Bq (by omega) rd
 clear ra ma' rb mb' mp rd
 go_wp2_with fail
 exact bodyPost_ret (v := .agg #[.int .i64 gd,.slice sd ld cd]) (by simp [results,Tryz.results61,go_sem,q90,q91]) rfl hF.out
set_option maxHeartbeats 8000000 in
theorem Z4 (w:World) (va vb:Value) (x y:Int) (Ha:RIntV w va x) (Hb:RIntV w vb y) (la':x.natAbs<D^1000000) (lb':y.natAbs<D^1000000) :
 Calls Tryz.prog 60 #[va,vb] w (F2 w (x+y)):=by
 have Hla:=Lib.hid la'
 have Hlb:=Lib.hid lb'
 clear la' lb'
 obtain ⟨ga,sa,la,ca,rfl,ha,ma⟩:=Ha
 obtain ⟨gb,sb,lb,cb,rfl,hb,mb⟩:=Hb
 have hG:w.grownBy (((w.alloc (.cells #[.int .i64 ga,.slice sa la ca] 41)).alloc (.cells #[.int .i64 gb,.slice sb lb cb] 41)).alloc (.cells #[.int .i64 0,.slice none 0 0] 41)) none:=(A4 (A4 (World.grownBy_alloc _ _ _) _) _)
 have Ba:=A1 (A4 (World.grownBy_alloc _ (.cells #[.int .i64 gb,.slice sb lb cb] 41) none) (.cells #[.int .i64 0,.slice none 0 0] 41)) (A6 w (.cells #[.int .i64 ga,.slice sa la ca] 41) (w.heap.size) rfl)
 have Bb:=A1 (World.grownBy_alloc _ (.cells #[.int .i64 0,.slice none 0 0] 41) none) (A6 (w.alloc (.cells #[.int .i64 ga,.slice sa la ca] 41)) (.cells #[.int .i64 gb,.slice sb lb cb] 41) (w.heap.size+1) (by simp))
 have Bq:=(A6 ((w.alloc (.cells #[.int .i64 ga,.slice sa la ca] 41)).alloc (.cells #[.int .i64 gb,.slice sb lb cb] 41)) (.cells #[.int .i64 0,.slice none 0 0] 41) (w.heap.size+1+1) (by simp))
 have ra:RIntV (((w.alloc (.cells #[.int .i64 ga,.slice sa la ca] 41)).alloc (.cells #[.int .i64 gb,.slice sb lb cb] 41)).alloc (.cells #[.int .i64 0,.slice none 0 0] 41)) (.agg #[.int .i64 ga,.slice sa la ca]) (x):=⟨ga,sa,la,ca,rfl,ha,ma.kept hG⟩
 have ma':RefV (((w.alloc (.cells #[.int .i64 ga,.slice sa la ca] 41)).alloc (.cells #[.int .i64 gb,.slice sb lb cb] 41)).alloc (.cells #[.int .i64 0,.slice none 0 0] 41)) (.agg #[.slice sa la ca]) (x).natAbs:=ma.kept hG
 have rb:RIntV (((w.alloc (.cells #[.int .i64 ga,.slice sa la ca] 41)).alloc (.cells #[.int .i64 gb,.slice sb lb cb] 41)).alloc (.cells #[.int .i64 0,.slice none 0 0] 41)) (.agg #[.int .i64 gb,.slice sb lb cb]) (y):=⟨gb,sb,lb,cb,rfl,hb,mb.kept hG⟩
 have mb':RefV (((w.alloc (.cells #[.int .i64 ga,.slice sa la ca] 41)).alloc (.cells #[.int .i64 gb,.slice sb lb cb] 41)).alloc (.cells #[.int .i64 0,.slice none 0 0] 41)) (.agg #[.slice sb lb cb]) (y).natAbs:=mb.kept hG
 have oa:RIntV w (.agg #[.int .i64 ga,.slice sa la ca]) (x):=⟨ga,sa,la,ca,rfl,ha,ma⟩
 clear ma
 have ob:RIntV w (.agg #[.int .i64 gb,.slice sb lb cb]) (y):=⟨gb,sb,lb,cb,rfl,hb,mb⟩
 clear mb
 go_enter Tryz.func60,Tryz.ntmps60
 obtain ⟨z,hz⟩:∃ z,x+y=z:=⟨_,rfl⟩
 obtain ⟨cc,hcc⟩:∃ cc,E5 x.natAbs y.natAbs=cc:=⟨_,rfl⟩
 have HCC:=Lib.hid hcc
 have key:((ga == 0)=true/\Hid (z=y))\/((ga == 0)=false/\(gb == 0)=true/\Hid (z=x))\/((ga == 0)=false/\(gb == 0)=false/\(ga == gb)=true/\Hid (z.natAbs=x.natAbs+y.natAbs/\z.sign=ga))\/((ga == 0)=false/\(gb == 0)=false/\(ga == gb)=false/\decide (0<=cc)=true/\y.natAbs<=x.natAbs/\Hid (z.natAbs=x.natAbs-y.natAbs/\(x.natAbs-y.natAbs=0\/z.sign=ga)))\/((ga == 0)=false/\(gb == 0)=false/\(ga == gb)=false/\decide (0<=cc)=false/\x.natAbs<=y.natAbs/\Hid (z.natAbs=y.natAbs-x.natAbs/\(y.natAbs-x.natAbs=0\/z.sign=gb))):=by
  have ea:=ha.out
  have eb:=hb.out
  by_cases h1:x=0
  · left;subst h1;exact ⟨by rw [ea];rfl,by show z=y;omega⟩
  · right
    have na:(ga == 0)=false:=beq_eq_false_iff_ne.2 (by rw [ea];intro h;exact h1 (Int.sign_eq_zero_iff_zero.1 h))
    by_cases h2:y=0
    · left;subst h2;exact ⟨na,by rw [eb];rfl,by show z=x;omega⟩
    · right
      have nb:(gb == 0)=false:=beq_eq_false_iff_ne.2 (by rw [eb];intro h;exact h2 (Int.sign_eq_zero_iff_zero.1 h))
      by_cases h3:x.sign=y.sign
      · left;exact ⟨na,nb,beq_iff_eq.2 (by rw [ea,eb,h3]),by rw [ea, <- hz];exact radd_same h3⟩
      · right
        have nc:(ga == gb)=false:=beq_eq_false_iff_ne.2 (by rw [ea,eb];exact h3)
        rcases Nat.lt_trichotomy x.natAbs y.natAbs with h4 | h4 | h4
        · right;exact ⟨na,nb,nc,decide_eq_false (by rw [<- hcc,M9 h4];omega),by omega,by rw [eb, <- hz,Int.add_comm];exact mG (Ne.symm h3) h2 h1 (by omega)⟩
        · left;exact ⟨na,nb,nc,decide_eq_true (by rw [<- hcc,T0 h4];omega),by omega,by rw [ea, <- hz];exact mG h3 h1 h2 (by omega)⟩
        · left;exact ⟨na,nb,nc,decide_eq_true (by rw [<- hcc,N0 h4];omega),by omega,by rw [ea, <- hz];exact mG h3 h1 h2 (by omega)⟩
 rw [hz]
 clear hz hcc
 rcases key with ⟨f1,hz⟩ | ⟨f1,f2,hz⟩ | ⟨f1,f2,f3,hz⟩ | ⟨f1,f2,f3,f4,hle,hz⟩ | ⟨f1,f2,f3,f4,hle,hz⟩
 · skip
   obtain ⟨Ca0,Ca1,Fa0,Fa1⟩:=A3 Ba
   obtain ⟨Cb0,Cb1,Fb0,Fb1⟩:=A3 Bb
   obtain ⟨Cq0,Cq1,Fq0,Fq1⟩:=A3 Bq
   obtain rfl:z=y:=hz.out
   have hG':w.grownBy (((w.alloc (.cells #[.int .i64 ga,.slice sa la ca] 41)).alloc (.cells #[.int .i64 gb,.slice sb lb cb] 41)).alloc (.cells #[.int .i64 gb,.slice sb lb cb] 41)) none:=(A4 (A4 (World.grownBy_alloc _ _ _) _) _)
   have hF:Hid (F2 w (z) (.returned (.agg #[.int .i64 gb,.slice sb lb cb])) (((w.alloc (.cells #[.int .i64 ga,.slice sa la ca] 41)).alloc (.cells #[.int .i64 gb,.slice sb lb cb] 41)).alloc (.cells #[.int .i64 gb,.slice sb lb cb] 41))):=⟨_,rfl,ob.kept hG',hG'⟩
   clear hG' ra ma' rb mb'
   go_wp2_with fail
   exact bodyPost_ret (v := .agg #[.int .i64 gb,.slice sb lb cb]) (by simp [results,Tryz.results60,go_sem]) rfl hF.out
 · skip
   obtain ⟨Ca0,Ca1,Fa0,Fa1⟩:=A3 Ba
   obtain ⟨Cb0,Cb1,Fb0,Fb1⟩:=A3 Bb
   obtain ⟨Cq0,Cq1,Fq0,Fq1⟩:=A3 Bq
   obtain rfl:z=x:=hz.out
   have hG':w.grownBy (((w.alloc (.cells #[.int .i64 ga,.slice sa la ca] 41)).alloc (.cells #[.int .i64 gb,.slice sb lb cb] 41)).alloc (.cells #[.int .i64 ga,.slice sa la ca] 41)) none:=(A4 (A4 (World.grownBy_alloc _ _ _) _) _)
   have hF:Hid (F2 w (z) (.returned (.agg #[.int .i64 ga,.slice sa la ca])) (((w.alloc (.cells #[.int .i64 ga,.slice sa la ca] 41)).alloc (.cells #[.int .i64 gb,.slice sb lb cb] 41)).alloc (.cells #[.int .i64 ga,.slice sa la ca] 41))):=⟨_,rfl,oa.kept hG',hG'⟩
   clear hG' ra ma' rb mb'
   go_wp2_with fail
   exact bodyPost_ret (v := .agg #[.int .i64 ga,.slice sa la ca]) (by simp [results,Tryz.results60,go_sem]) rfl hF.out
 · skip
   obtain ⟨Ca0,Ca1,Fa0,Fa1⟩:=A3 Ba
   obtain ⟨Cb0,Cb1,Fb0,Fb1⟩:=A3 Bb
   obtain ⟨Cq0,Cq1,Fq0,Fq1⟩:=A3 Bq
   go_wp2_with fail
   generalize (((w.alloc (.cells #[.int .i64 ga,.slice sa la ca] 41)).alloc (.cells #[.int .i64 gb,.slice sb lb cb] 41)).alloc (.cells #[.int .i64 0,.slice none 0 0] 41))=w0 at *
   go_region_held3 (fun w'=>w'.cell? ⟨w.heap.size,0,none⟩=some (.int .i64 ga)/\w'.cell? ⟨w.heap.size,1,none⟩=some (.slice sa la ca)/\w'.cell? ⟨w.heap.size+1,0,none⟩=some (.int .i64 gb)/\w'.cell? ⟨w.heap.size+1,1,none⟩=some (.slice sb lb cb))
    (first | assumption | exact ⟨Ca0,Ca1,Cb0,Cb1⟩ | exact HSw1_20 | go_keep)
    (first
     | (go_at_call 66;(with_reducible refine (rAdd_any w0.drew _ _ x.natAbs y.natAbs (ma'.kept (B4 (A7 _ _))) (mb'.kept (B4 (A7 _ _))) Hla.out Hlb.out).mono ?_);rintro e w1_1 ⟨vp,rfl,mp,gw1_1⟩;have hGw1_1:=F5 w0 gw1_1 rfl rfl rfl rfl;have hSw1_1:=(And.intro (hGw1_1.cell Ca0 (by simp)) (And.intro (hGw1_1.cell Ca1 (by simp)) (And.intro (hGw1_1.cell Cb0 (by simp)) (hGw1_1.cell Cb1 (by simp)))));clear gw1_1)
     | (go_at_call 65;(with_reducible refine (M4 w1_1 _ ga (x.natAbs+y.natAbs) z mp hz.out.1 (Or.inr hz.out.2)).mono ?_);rintro e w1_2 ⟨_,rfl,⟨gd,sd,ld,cd,rfl,hd,md⟩,gw1_2⟩;have hGw1_2:=A2 hGw1_1 gw1_2;replace mp:=mp.kept gw1_2;have rd:RIntV w1_2 (.agg #[.int .i64 gd,.slice sd ld cd]) (z):=⟨gd,sd,ld,cd,rfl,hd,md⟩;have hSw1_2:=(And.intro (hGw1_2.cell Ca0 (by simp)) (And.intro (hGw1_2.cell Ca1 (by simp)) (And.intro (hGw1_2.cell Cb0 (by simp)) (hGw1_2.cell Cb1 (by simp)))));clear gw1_2;clear md;(obtain ⟨dq0,dq1,dq2,dq3⟩:=A3 (A1 hGw1_2 Bq));have HSw1_20:=(And.intro ((A3 (B0 (A1 hGw1_2 Ba) (show w.heap.size≠w.heap.size+1+1 by omega) (.int .i64 gd) (.slice sd ld cd))).1) (And.intro ((A3 (B0 (A1 hGw1_2 Ba) (show w.heap.size≠w.heap.size+1+1 by omega) (.int .i64 gd) (.slice sd ld cd))).2.1) (And.intro ((A3 (B0 (A1 hGw1_2 Bb) (show w.heap.size+1≠w.heap.size+1+1 by omega) (.int .i64 gd) (.slice sd ld cd))).1) ((A3 (B0 (A1 hGw1_2 Bb) (show w.heap.size+1≠w.heap.size+1+1 by omega) (.int .i64 gd) (.slice sd ld cd))).2.1))))))
   replace Ba:=A1 hGw1_2 Ba
   replace Bb:=A1 hGw1_2 Bb
   replace Bq:=A1 hGw1_2 Bq
   replace ra:=ra.kept hGw1_2
   replace ma':=ma'.kept hGw1_2
   replace rb:=rb.kept hGw1_2
   replace mb':=mb'.kept hGw1_2
   replace hG:=A2 hG hGw1_2
   clear Ca0 Fa0 Ca1 Fa1 Cb0 Fb0 Cb1 Fb1 Cq0 Fq0 Cq1 Fq1
   obtain ⟨k90,k91,k92,k93⟩:=A3 Bq
   obtain ⟨q90,q91,q92,q93⟩:=A3 (C3 Bq (.int .i64 gd) (.slice sd ld cd))
   have hF:Hid (F2 w (z) (.returned (.agg #[.int .i64 gd,.slice sd ld cd])) ((w1_2.setCell ⟨w.heap.size+1+1,0,none⟩ (.int .i64 gd)).setCell ⟨w.heap.size+1+1,1,none⟩ (.slice sd ld cd))):=K8 hG Bq (by omega) rd
   clear ra ma' rb mb' mp rd
   go_wp2_with fail
   exact bodyPost_ret (v := .agg #[.int .i64 gd,.slice sd ld cd]) (by simp [results,Tryz.results60,go_sem,q90,q91]) rfl hF.out
 · skip
   obtain ⟨Ca0,Ca1,Fa0,Fa1⟩:=A3 Ba
   obtain ⟨Cb0,Cb1,Fb0,Fb1⟩:=A3 Bb
   obtain ⟨Cq0,Cq1,Fq0,Fq1⟩:=A3 Bq
   have HLE:=Lib.hid hle
   clear hle
   go_wp2_with fail
   generalize (((w.alloc (.cells #[.int .i64 ga,.slice sa la ca] 41)).alloc (.cells #[.int .i64 gb,.slice sb lb cb] 41)).alloc (.cells #[.int .i64 0,.slice none 0 0] 41))=w0 at *
   clear Ca0 Fa0 Ca1 Fa1 Cb0 Fb0 Cb1 Fb1 Cq0 Fq0 Cq1 Fq1
   refine (gF w0 _ _ x.natAbs y.natAbs ma' mb' Hla.out Hlb.out).mono ?_
   rintro e w1 ⟨rfl,gw1⟩
   rw [HCC.out]
   replace Ba:=A1 gw1 Ba
   replace Bb:=A1 gw1 Bb
   replace Bq:=A1 gw1 Bq
   replace ra:=ra.kept gw1
   replace ma':=ma'.kept gw1
   replace rb:=rb.kept gw1
   replace mb':=mb'.kept gw1
   replace hG:=A2 hG gw1
   clear gw1
   obtain ⟨Ca0,Ca1,Fa0,Fa1⟩:=A3 Ba
   obtain ⟨Cb0,Cb1,Fb0,Fb1⟩:=A3 Bb
   obtain ⟨Cq0,Cq1,Fq0,Fq1⟩:=A3 Bq
   go_wp2_with fail
   go_region_held3 (fun w'=>w'.cell? ⟨w.heap.size,0,none⟩=some (.int .i64 ga)/\w'.cell? ⟨w.heap.size,1,none⟩=some (.slice sa la ca)/\w'.cell? ⟨w.heap.size+1,0,none⟩=some (.int .i64 gb)/\w'.cell? ⟨w.heap.size+1,1,none⟩=some (.slice sb lb cb))
    (first | assumption | exact ⟨Ca0,Ca1,Cb0,Cb1⟩ | exact HSw2_20 | go_keep)
    (first
     | (go_at_call 101;(with_reducible refine (kN w1.drew _ _ x.natAbs y.natAbs (ma'.kept (B4 (A7 _ _))) (mb'.kept (B4 (A7 _ _))) HLE.out Hla.out).mono ?_);rintro e w2_1 ⟨vp,rfl,mp,gw2_1⟩;have hGw2_1:=F5 w1 gw2_1 rfl rfl rfl rfl;have hSw2_1:=(And.intro (hGw2_1.cell Ca0 (by simp)) (And.intro (hGw2_1.cell Ca1 (by simp)) (And.intro (hGw2_1.cell Cb0 (by simp)) (hGw2_1.cell Cb1 (by simp)))));clear gw2_1)
     | (go_at_call 65;(with_reducible refine (M4 w2_1 _ ga (x.natAbs-y.natAbs) z mp hz.out.1 hz.out.2).mono ?_);rintro e w2_2 ⟨_,rfl,⟨gd,sd,ld,cd,rfl,hd,md⟩,gw2_2⟩;have hGw2_2:=A2 hGw2_1 gw2_2;replace mp:=mp.kept gw2_2;have rd:RIntV w2_2 (.agg #[.int .i64 gd,.slice sd ld cd]) (z):=⟨gd,sd,ld,cd,rfl,hd,md⟩;have hSw2_2:=(And.intro (hGw2_2.cell Ca0 (by simp)) (And.intro (hGw2_2.cell Ca1 (by simp)) (And.intro (hGw2_2.cell Cb0 (by simp)) (hGw2_2.cell Cb1 (by simp)))));clear gw2_2;clear md;(obtain ⟨dq0,dq1,dq2,dq3⟩:=A3 (A1 hGw2_2 Bq));have HSw2_20:=(And.intro ((A3 (B0 (A1 hGw2_2 Ba) (show w.heap.size≠w.heap.size+1+1 by omega) (.int .i64 gd) (.slice sd ld cd))).1) (And.intro ((A3 (B0 (A1 hGw2_2 Ba) (show w.heap.size≠w.heap.size+1+1 by omega) (.int .i64 gd) (.slice sd ld cd))).2.1) (And.intro ((A3 (B0 (A1 hGw2_2 Bb) (show w.heap.size+1≠w.heap.size+1+1 by omega) (.int .i64 gd) (.slice sd ld cd))).1) ((A3 (B0 (A1 hGw2_2 Bb) (show w.heap.size+1≠w.heap.size+1+1 by omega) (.int .i64 gd) (.slice sd ld cd))).2.1))))))
   replace Ba:=A1 hGw2_2 Ba
   replace Bb:=A1 hGw2_2 Bb
   replace Bq:=A1 hGw2_2 Bq
   replace ra:=ra.kept hGw2_2
   replace ma':=ma'.kept hGw2_2
   replace rb:=rb.kept hGw2_2
   replace mb':=mb'.kept hGw2_2
   replace hG:=A2 hG hGw2_2
   clear Ca0 Fa0 Ca1 Fa1 Cb0 Fb0 Cb1 Fb1 Cq0 Fq0 Cq1 Fq1
   obtain ⟨k90,k91,k92,k93⟩:=A3 Bq
   obtain ⟨q90,q91,q92,q93⟩:=A3 (C3 Bq (.int .i64 gd) (.slice sd ld cd))
   have hF:Hid (F2 w (z) (.returned (.agg #[.int .i64 gd,.slice sd ld cd])) ((w2_2.setCell ⟨w.heap.size+1+1,0,none⟩ (.int .i64 gd)).setCell ⟨w.heap.size+1+1,1,none⟩ (.slice sd ld cd))):=K8 hG Bq (by omega) rd
   clear ra ma' rb mb' mp rd
   go_wp2_with fail
   exact bodyPost_ret (v := .agg #[.int .i64 gd,.slice sd ld cd]) (by simp [results,Tryz.results60,go_sem,q90,q91]) rfl hF.out
 · skip
   obtain ⟨Ca0,Ca1,Fa0,Fa1⟩:=A3 Ba
   obtain ⟨Cb0,Cb1,Fb0,Fb1⟩:=A3 Bb
   obtain ⟨Cq0,Cq1,Fq0,Fq1⟩:=A3 Bq
   have HLE:=Lib.hid hle
   clear hle
   go_wp2_with fail
   generalize (((w.alloc (.cells #[.int .i64 ga,.slice sa la ca] 41)).alloc (.cells #[.int .i64 gb,.slice sb lb cb] 41)).alloc (.cells #[.int .i64 0,.slice none 0 0] 41))=w0 at *
   clear Ca0 Fa0 Ca1 Fa1 Cb0 Fb0 Cb1 Fb1 Cq0 Fq0 Cq1 Fq1
   refine (gF w0 _ _ x.natAbs y.natAbs ma' mb' Hla.out Hlb.out).mono ?_
   rintro e w1 ⟨rfl,gw1⟩
   rw [HCC.out]
   replace Ba:=A1 gw1 Ba
   replace Bb:=A1 gw1 Bb
   replace Bq:=A1 gw1 Bq
   replace ra:=ra.kept gw1
   replace ma':=ma'.kept gw1
   replace rb:=rb.kept gw1
   replace mb':=mb'.kept gw1
   replace hG:=A2 hG gw1
   clear gw1
   obtain ⟨Ca0,Ca1,Fa0,Fa1⟩:=A3 Ba
   obtain ⟨Cb0,Cb1,Fb0,Fb1⟩:=A3 Bb
   obtain ⟨Cq0,Cq1,Fq0,Fq1⟩:=A3 Bq
   go_wp2_with fail
   go_region_held3 (fun w'=>w'.cell? ⟨w.heap.size,0,none⟩=some (.int .i64 ga)/\w'.cell? ⟨w.heap.size,1,none⟩=some (.slice sa la ca)/\w'.cell? ⟨w.heap.size+1,0,none⟩=some (.int .i64 gb)/\w'.cell? ⟨w.heap.size+1,1,none⟩=some (.slice sb lb cb))
    (first | assumption | exact ⟨Ca0,Ca1,Cb0,Cb1⟩ | exact HSw2_20 | go_keep)
    (first
     | (go_at_call 101;(with_reducible refine (kN w1.drew _ _ y.natAbs x.natAbs (mb'.kept (B4 (A7 _ _))) (ma'.kept (B4 (A7 _ _))) HLE.out Hlb.out).mono ?_);rintro e w2_1 ⟨vp,rfl,mp,gw2_1⟩;have hGw2_1:=F5 w1 gw2_1 rfl rfl rfl rfl;have hSw2_1:=(And.intro (hGw2_1.cell Ca0 (by simp)) (And.intro (hGw2_1.cell Ca1 (by simp)) (And.intro (hGw2_1.cell Cb0 (by simp)) (hGw2_1.cell Cb1 (by simp)))));clear gw2_1)
     | (go_at_call 65;(with_reducible refine (M4 w2_1 _ gb (y.natAbs-x.natAbs) z mp hz.out.1 hz.out.2).mono ?_);rintro e w2_2 ⟨_,rfl,⟨gd,sd,ld,cd,rfl,hd,md⟩,gw2_2⟩;have hGw2_2:=A2 hGw2_1 gw2_2;replace mp:=mp.kept gw2_2;have rd:RIntV w2_2 (.agg #[.int .i64 gd,.slice sd ld cd]) (z):=⟨gd,sd,ld,cd,rfl,hd,md⟩;have hSw2_2:=(And.intro (hGw2_2.cell Ca0 (by simp)) (And.intro (hGw2_2.cell Ca1 (by simp)) (And.intro (hGw2_2.cell Cb0 (by simp)) (hGw2_2.cell Cb1 (by simp)))));clear gw2_2;clear md;(obtain ⟨dq0,dq1,dq2,dq3⟩:=A3 (A1 hGw2_2 Bq));have HSw2_20:=(And.intro ((A3 (B0 (A1 hGw2_2 Ba) (show w.heap.size≠w.heap.size+1+1 by omega) (.int .i64 gd) (.slice sd ld cd))).1) (And.intro ((A3 (B0 (A1 hGw2_2 Ba) (show w.heap.size≠w.heap.size+1+1 by omega) (.int .i64 gd) (.slice sd ld cd))).2.1) (And.intro ((A3 (B0 (A1 hGw2_2 Bb) (show w.heap.size+1≠w.heap.size+1+1 by omega) (.int .i64 gd) (.slice sd ld cd))).1) ((A3 (B0 (A1 hGw2_2 Bb) (show w.heap.size+1≠w.heap.size+1+1 by omega) (.int .i64 gd) (.slice sd ld cd))).2.1))))))
   replace Ba:=A1 hGw2_2 Ba
   replace Bb:=A1 hGw2_2 Bb
   replace Bq:=A1 hGw2_2 Bq
   replace ra:=ra.kept hGw2_2
   replace ma':=ma'.kept hGw2_2
   replace rb:=rb.kept hGw2_2
   replace mb':=mb'.kept hGw2_2
   replace hG:=A2 hG hGw2_2
   clear Ca0 Fa0 Ca1 Fa1 Cb0 Fb0 Cb1 Fb1 Cq0 Fq0 Cq1 Fq1
   obtain ⟨k90,k91,k92,k93⟩:=A3 Bq
   obtain ⟨q90,q91,q92,q93⟩:=A3 (C3 Bq (.int .i64 gd) (.slice sd ld cd))
   have hF:Hid (F2 w (z) (.returned (.agg #[.int .i64 gd,.slice sd ld cd])) ((w2_2.setCell ⟨w.heap.size+1+1,0,none⟩ (.int .i64 gd)).setCell ⟨w.heap.size+1+1,1,none⟩ (.slice sd ld cd))):=K8 hG Bq (by omega) rd
   clear ra ma' rb mb' mp rd
   go_wp2_with fail
   exact bodyPost_ret (v := .agg #[.int .i64 gd,.slice sd ld cd]) (by simp [results,Tryz.results60,go_sem,q90,q91]) rfl hF.out
set_option maxHeartbeats 4000000 in
theorem cB (w:World) (n:Int) (h1 : -9223372036854775808<=n) (h2:n<=9223372036854775807) :
 Calls Tryz.prog 28 #[.int .i64 n] w (F2 w n):=by
 by_cases hn:n<0
 · skip
   have f1:decide (n<0)=true:=decide_eq_true hn
   obtain ⟨m,hm⟩:∃ m:Nat,n = -(m:Int)-1:=⟨(-(n+1)).toNat,by omega⟩
   obtain ⟨k1,hk1⟩:∃ k,IntKind.i64.wrap (n+1)=k:=⟨_,rfl⟩
   obtain ⟨k2,hk2⟩:∃ k,IntKind.i64.wrap (-k1)=k:=⟨_,rfl⟩
   have hk3:IntKind.u64.wrap k2=(m:Int):=by rw [IntKind.wrap_i64] at hk1 hk2;rw [IntKind.wrap_u64];omega
   have HM:Hid (m<B):=by show m<B;unfold B;omega
   have HB1:Hid (m<D^1000000):=Lib.hid (lt_D1 HM.out)
   have HB2:Hid (1<D^1000000):=Lib.hid (lt_D1 (show 1<B by unfold B;omega))
   have HN:Hid (n.natAbs=m+1):=by show _=_;omega
   have HSG:Hid (n.sign = -1):=Int.sign_eq_neg_one_of_neg hn
   clear hm h1 h2 hn
   have hG:w.grownBy (w.alloc (.cells #[.int .i64 0,.slice none 0 0] 41)) none:=(World.grownBy_alloc _ _ _)
   have Bq:=(A6 w (.cells #[.int .i64 0,.slice none 0 0] 41) (w.heap.size) rfl)
   go_enter Tryz.func28,Tryz.ntmps28
   obtain ⟨Cq0,Cq1,Fq0,Fq1⟩:=A3 Bq
   go_wp2_with fail
   generalize (w.alloc (.cells #[.int .i64 0,.slice none 0 0] 41))=w0 at *
   clear Cq0 Fq0 Cq1 Fq1
   refine (mH w0 m HM.out).mono ?_
   rintro e w1 ⟨vp,rfl,mp,gw1⟩
   replace Bq:=A1 gw1 Bq
   replace hG:=A2 hG gw1
   clear gw1
   obtain ⟨Cq0,Cq1,Fq0,Fq1⟩:=A3 Bq
   go_wp2_with fail
   clear Cq0 Fq0 Cq1 Fq1
   refine (rof_1 w1).mono ?_
   rintro e w2 ⟨vo,rfl,mo,gw2⟩
   replace Bq:=A1 gw2 Bq
   replace mp:=mp.kept gw2
   replace hG:=A2 hG gw2
   clear gw2
   obtain ⟨Cq0,Cq1,Fq0,Fq1⟩:=A3 Bq
   go_wp2_with fail
   clear Cq0 Fq0 Cq1 Fq1
   refine (rAdd_any w2 _ _ m 1 mp mo HB1.out HB2.out).mono ?_
   rintro e w3 ⟨vs,rfl,ms,gw3⟩
   replace Bq:=A1 gw3 Bq
   replace mp:=mp.kept gw3
   replace mo:=mo.kept gw3
   replace hG:=A2 hG gw3
   clear gw3
   obtain ⟨Cq0,Cq1,Fq0,Fq1⟩:=A3 Bq
   go_wp2_with fail
   clear Cq0 Fq0 Cq1 Fq1
   refine (M4 w3 _ (-1) (m+1) n ms HN.out (Or.inr HSG.out)).mono ?_
   rintro e w4 ⟨_,rfl,⟨gd,sd,ld,cd,rfl,hd,md⟩,gw4⟩
   have rd:RIntV w4 (.agg #[.int .i64 gd,.slice sd ld cd]) (n):=⟨gd,sd,ld,cd,rfl,hd,md⟩
   replace Bq:=A1 gw4 Bq
   replace mp:=mp.kept gw4
   replace mo:=mo.kept gw4
   replace ms:=ms.kept gw4
   replace hG:=A2 hG gw4
   clear gw4
   clear md
   obtain ⟨Cq0,Cq1,Fq0,Fq1⟩:=A3 Bq
   clear Cq0 Fq0 Cq1 Fq1
   obtain ⟨k90,k91,k92,k93⟩:=A3 Bq
   obtain ⟨q90,q91,q92,q93⟩:=A3 (C3 Bq (.int .i64 gd) (.slice sd ld cd))
   have hF:Hid (F2 w (n) (.returned (.agg #[.int .i64 gd,.slice sd ld cd])) ((w4.setCell ⟨w.heap.size,0,none⟩ (.int .i64 gd)).setCell ⟨w.heap.size,1,none⟩ (.slice sd ld cd))):=K8 hG Bq (by omega) rd
   clear mp mo ms rd
   go_wp2_with fail
   exact bodyPost_ret (v := .agg #[.int .i64 gd,.slice sd ld cd]) (by simp [results,Tryz.results28,go_sem,q90,q91]) rfl hF.out
 · skip
   have f1:decide (n<0)=false:=decide_eq_false hn
   obtain ⟨m,hm⟩:∃ m:Nat,n=(m:Int):=⟨n.toNat,by omega⟩
   have hk3:IntKind.u64.wrap n=(m:Int):=by rw [IntKind.wrap_u64];omega
   have HM:Hid (m<B):=by show m<B;unfold B;omega
   have HN:Hid (n.natAbs=m):=by show _=_;omega
   have HSG:Hid (m=0\/n.sign=1):=by
    show _\/_
    rcases P6 n with ⟨h,e⟩ | ⟨h,e⟩ | ⟨h,e⟩
    · omega
    · left;omega
    · right;exact e
   clear hm h1 h2 hn
   have hG:w.grownBy (w.alloc (.cells #[.int .i64 0,.slice none 0 0] 41)) none:=(World.grownBy_alloc _ _ _)
   have Bq:=(A6 w (.cells #[.int .i64 0,.slice none 0 0] 41) (w.heap.size) rfl)
   go_enter Tryz.func28,Tryz.ntmps28
   obtain ⟨Cq0,Cq1,Fq0,Fq1⟩:=A3 Bq
   go_wp2_with fail
   generalize (w.alloc (.cells #[.int .i64 0,.slice none 0 0] 41))=w0 at *
   clear Cq0 Fq0 Cq1 Fq1
   refine (mH w0 m HM.out).mono ?_
   rintro e w1 ⟨vp,rfl,mp,gw1⟩
   replace Bq:=A1 gw1 Bq
   replace hG:=A2 hG gw1
   clear gw1
   obtain ⟨Cq0,Cq1,Fq0,Fq1⟩:=A3 Bq
   go_wp2_with fail
   clear Cq0 Fq0 Cq1 Fq1
   refine (M4 w1 _ 1 m n mp HN.out HSG.out).mono ?_
   rintro e w2 ⟨_,rfl,⟨gd,sd,ld,cd,rfl,hd,md⟩,gw2⟩
   have rd:RIntV w2 (.agg #[.int .i64 gd,.slice sd ld cd]) (n):=⟨gd,sd,ld,cd,rfl,hd,md⟩
   replace Bq:=A1 gw2 Bq
   replace mp:=mp.kept gw2
   replace hG:=A2 hG gw2
   clear gw2
   clear md
   obtain ⟨Cq0,Cq1,Fq0,Fq1⟩:=A3 Bq
   clear Cq0 Fq0 Cq1 Fq1
   obtain ⟨k90,k91,k92,k93⟩:=A3 Bq
   obtain ⟨q90,q91,q92,q93⟩:=A3 (C3 Bq (.int .i64 gd) (.slice sd ld cd))
   have hF:Hid (F2 w (n) (.returned (.agg #[.int .i64 gd,.slice sd ld cd])) ((w2.setCell ⟨w.heap.size,0,none⟩ (.int .i64 gd)).setCell ⟨w.heap.size,1,none⟩ (.slice sd ld cd))):=K8 hG Bq (by omega) rd
   clear mp rd
   go_wp2_with fail
   exact bodyPost_ret (v := .agg #[.int .i64 gd,.slice sd ld cd]) (by simp [results,Tryz.results28,go_sem,q90,q91]) rfl hF.out
end Go.Proofs.YtninnifpgpjfhaaGreatDoor
namespace Go.Proofs.YtninnifpgpjfhaaGreatDoor
open Go.ChangeShapes Go.WideShapes Go.ChangeAt Go.RowKit Go.ChangeMaps Mat
theorem law_own:ownKnob Tryz.prog.godebug=none:=by kernel_rfl
theorem kB {W W':World} (h:W.grownBy W' none):W.keptBut W' (fun _=>False):=by
 refine ⟨h.os,h.output,fun i hi=>?_⟩
 rw [h.block i hi (by simp)]
 cases W.heap[i]? with
 | none=>rfl
 | some o=>cases o<;>simp
end Go.Proofs.YtninnifpgpjfhaaGreatDoor
namespace Go.Proofs.YtninnifpgpjfhaaGreatDoor
open Go.RowKit Mat Ex PM
def Bn (K:Nat) (r:Rat):Prop:=r.num.natAbs<B^K/\r.den<B^K
theorem bwd {a K M:Nat} (h:a<B^K) (hK:K<=M):a<B^M:=Nat.lt_of_lt_of_le h (Nat.pow_le_pow_right D7 hK)
theorem Bn.mono {K M:Nat} {r:Rat} (h:Bn K r) (hK:K<=M):Bn M r:=⟨bwd h.1 hK,bwd h.2 hK⟩
theorem Bn.neg {K:Nat} {r:Rat} (h:Bn K r):Bn K (-r):=⟨by rw [Rat.neg_num,Int.natAbs_neg];exact h.1,by rw [Rat.neg_den];exact h.2⟩
theorem Bn.add {K:Nat} {r t:Rat} (h:Bn K r) (h':Bn K t):Bn (K+K+1) (r+t):=by
 constructor
 · rw [Rat.num_add]
   exact Nat.lt_of_le_of_lt (Int.natAbs_ediv_le_natAbs _ _) (fadd_bd (N3 h.1 (ldi h'.2)) (N3 h'.1 (ldi h.2)))
 · rw [Rat.den_add]
   refine Nat.lt_of_le_of_lt (Nat.div_le_self _ _) (bwd (K:=K+K) ?_ (by omega))
   rw [Nat.pow_add];exact Nat.mul_lt_mul'' h.2 h'.2
theorem Bn.sub {K:Nat} {r t:Rat} (h:Bn K r) (h':Bn K t):Bn (K+K+1) (r-t):=by rw [Rat.sub_eq_add_neg];exact h.add h'.neg
theorem Bn.mul {K:Nat} {r t:Rat} (h:Bn K r) (h':Bn K t):Bn (K+K) (r*t):=by
 constructor
 · rw [fX,Int.natAbs_mul,Nat.pow_add]
   exact Nat.mul_lt_mul'' (Nat.lt_of_le_of_lt (Int.natAbs_ediv_le_natAbs _ _) h.1) (Nat.lt_of_le_of_lt (Int.natAbs_ediv_le_natAbs _ _) h'.1)
 · rw [fZ,Nat.pow_add]
   exact Nat.mul_lt_mul'' (Nat.lt_of_le_of_lt (Nat.div_le_self _ _) h.2) (Nat.lt_of_le_of_lt (Nat.div_le_self _ _) h'.2)
theorem Bn.zero {K:Nat} (hK : 1<=K):Bn K (0:Rat):=⟨Nat.pow_pos D7,Nat.one_lt_pow (by omega) (by unfold B;omega)⟩
def Bp (K:Nat) (p:Pq):Prop:=Bn K p.1/\Bn K p.2
theorem Bp.mono {K M:Nat} {p:Pq} (h:Bp K p) (hK:K<=M):Bp M p:=⟨h.1.mono hK,h.2.mono hK⟩
theorem Bp.cross {K:Nat} {a b c:Pq} (ha:Bp K a) (hb:Bp K b) (hc:Bp K c):Bn (8*K+5) (B5 a b c):=by
 unfold B5
 exact (((hb.1.sub ha.1).mul (hc.2.sub ha.2)).sub ((hb.2.sub ha.2).mul (hc.1.sub ha.1))).mono (by omega)
def PtV (w:World) (v:Value) (p:Pq):Prop:=∃ a b c d e f g h:Value,v = .agg #[a,b,c,d,e,f,g,h]/\RatV w (.agg #[a,b,c,d]) p.1/\RatV w (.agg #[e,f,g,h]) p.2
theorem PtV.kept {w w':World} {v:Value} {p:Pq} (h:PtV w v p) (hg:w.grownBy w' none):PtV w' v p:=by
 obtain ⟨a,b,c,d,e,f,g,i,e1,h1,h2⟩:=h
 exact ⟨a,b,c,d,e,f,g,i,e1,h1.kept hg,h2.kept hg⟩
theorem PtV.keeps {W W':World} {v:Value} {p:Pq} (h:PtV W v p) (k:Keeps G9 W W'):PtV W' v p:=by
 obtain ⟨a,b,c,d,e,f,g,i,e1,h1,h2⟩:=h
 exact ⟨a,b,c,d,e,f,g,i,e1,h1.keeps k,h2.keeps k⟩
theorem RatV.one {w:World} {a b c d:Value} {r:Rat} (h:RatV w (.agg #[a,b,c,d]) r):a.oneCell'=true/\b.oneCell'=true/\c.oneCell'=true/\d.oneCell'=true:=by
 obtain ⟨s,xs,f,s',xs',f',e,_⟩:=h
 cases e;exact ⟨rfl,rfl,rfl,rfl⟩
theorem PtV.one {w:World} {a b c d e f g h:Value} {p:Pq} (hp:PtV w (.agg #[a,b,c,d,e,f,g,h]) p):∀ x ∈ [a,b,c,d,e,f,g,h],x.oneCell'=true:=by
 obtain ⟨a',b',c',d',e',f',g',h',q,h1,h2⟩:=hp
 cases q
 obtain ⟨i1,i2,i3,i4⟩:=h1.one
 obtain ⟨i5,i6,i7,i8⟩:=h2.one
 simp [i1,i2,i3,i4,i5,i6,i7,i8]
def sPt (p:Pq):Sp := .of (.agg 8) (fun v W=>PtV W v p) (fun v W h=>by
 have h0:=h
 obtain ⟨a,b,c,d,e,f,g,i,rfl,h1,h2⟩:=h
 exact ⟨D6 [a,b,c,d,e,f,g,i],A9 h0.one,rfl⟩) (fun v W W' k h=>h.keeps k)
theorem pt1 {W:World} {a b c d e f g h:Value} {p:Pq} : PtV W (.agg #[a,b,c,d,e,f,g,h]) p->RatV W (.agg #[a,b,c,d]) p.1:=by
 rintro ⟨a',b',c',d',e',f',g',h',q,h1,h2⟩;cases q;exact h1
theorem pt2 {W:World} {a b c d e f g h:Value} {p:Pq} : PtV W (.agg #[a,b,c,d,e,f,g,h]) p->RatV W (.agg #[e,f,g,h]) p.2:=by
 rintro ⟨a',b',c',d',e',f',g',h',q,h1,h2⟩;cases q;exact h2
theorem mkpt {W:World} {a b c d e f g h:Value} {p:Pq} (h1:RatV W (.agg #[a,b,c,d]) p.1) (h2:RatV W (.agg #[e,f,g,h]) p.2):PtV W (.agg #[a,b,c,d,e,f,g,h]) p:=⟨a,b,c,d,e,f,g,h,rfl,h1,h2⟩
def RetPt (w:World) (p:Pq) (e:Ending) (w':World):Prop:=∃ v,e = .returned v/\PtV w' v p/\w.grownBy w' none
theorem PtV.nil (w:World):PtV w (.agg #[.slice none 0 0,.bool false,.slice none 0 0,.bool false,.slice none 0 0,.bool false,.slice none 0 0,.bool false]) (0,0):=mkpt (RatV.zero w) (RatV.zero w)
def SgV (w:World) (v:Value) (p q:Pq):Prop:=∃ a b c d e f g h a' b' c' d' e' f' g' h':Value,v = .agg #[a,b,c,d,e,f,g,h,a',b',c',d',e',f',g',h']/\PtV w (.agg #[a,b,c,d,e,f,g,h]) p/\PtV w (.agg #[a',b',c',d',e',f',g',h']) q
theorem SgV.keeps {W W':World} {v:Value} {p q:Pq} (h:SgV W v p q) (k:Keeps G9 W W'):SgV W' v p q:=by
 obtain ⟨a,b,c,d,e,f,g,i,a',b',c',d',e',f',g',i',e1,h1,h2⟩:=h
 exact ⟨a,b,c,d,e,f,g,i,a',b',c',d',e',f',g',i',e1,h1.keeps k,h2.keeps k⟩
theorem SgV.kept {w w':World} {v:Value} {p q:Pq} (h:SgV w v p q) (hg:w.grownBy w' none):SgV w' v p q:=by
 obtain ⟨a,b,c,d,e,f,g,i,a',b',c',d',e',f',g',i',e1,h1,h2⟩:=h
 exact ⟨a,b,c,d,e,f,g,i,a',b',c',d',e',f',g',i',e1,h1.kept hg,h2.kept hg⟩
def sSg (p q:Pq):Sp := .of (.agg 16) (fun v W=>SgV W v p q) (fun v W h=>by
 obtain ⟨a,b,c,d,e,f,g,i,a',b',c',d',e',f',g',i',rfl,h1,h2⟩:=h
 refine ⟨D6 [a,b,c,d,e,f,g,i,a',b',c',d',e',f',g',i'],A9 (fun x hx=>?_),rfl⟩
 rcases List.mem_append.1 (show x ∈ [a,b,c,d,e,f,g,i]++[a',b',c',d',e',f',g',i'] from hx) with hx | hx
 · exact h1.one x hx
 · exact h2.one x hx) (fun v W W' k h=>h.keeps k)
theorem sg1 {W:World} {a b c d e f g h a' b' c' d' e' f' g' h':Value} {p q:Pq} : SgV W (.agg #[a,b,c,d,e,f,g,h,a',b',c',d',e',f',g',h']) p q->PtV W (.agg #[a,b,c,d,e,f,g,h]) p:=by
 rintro ⟨_,_,_,_,_,_,_,_,_,_,_,_,_,_,_,_,e,h1,h2⟩;cases e;exact h1
theorem sg2 {W:World} {a b c d e f g h a' b' c' d' e' f' g' h':Value} {p q:Pq} : SgV W (.agg #[a,b,c,d,e,f,g,h,a',b',c',d',e',f',g',h']) p q->PtV W (.agg #[a',b',c',d',e',f',g',h']) q:=by
 rintro ⟨_,_,_,_,_,_,_,_,_,_,_,_,_,_,_,_,e,h1,h2⟩;cases e;exact h2
theorem mksg {W:World} {a b c d e f g h a' b' c' d' e' f' g' h':Value} {p q:Pq} (h1:PtV W (.agg #[a,b,c,d,e,f,g,h]) p) (h2:PtV W (.agg #[a',b',c',d',e',f',g',h']) q):SgV W (.agg #[a,b,c,d,e,f,g,h,a',b',c',d',e',f',g',h']) p q:=
 ⟨_,_,_,_,_,_,_,_,_,_,_,_,_,_,_,_,rfl,h1,h2⟩
def sPP (p q:Pq):Sp := .of (.tup [(none,9),(none,9)]) (fun v W=>∃ u t,v = .tuple #[u,t]/\PtV W u p/\PtV W t q) (fun v W h=>by
 obtain ⟨u,t,rfl,h1,h2⟩:=h
 have i1:=h1;have i2:=h2
 obtain ⟨a,b,c,d,e,f,g,i,rfl,_⟩:=h1
 obtain ⟨a',b',c',d',e',f',g',i',rfl,_⟩:=h2
 refine V4 (u := .bool true) (cs:=[a,b,c,d,e,f,g,i,a',b',c',d',e',f',g',i']) (fun x hx=>?_) rfl
 rcases List.mem_append.1 (show x ∈ [a,b,c,d,e,f,g,i]++[a',b',c',d',e',f',g',i'] from hx) with hx | hx
 · exact i1.one x hx
 · exact i2.one x hx) (fun v W W' k h=>by obtain ⟨u,t,e,h,h'⟩:=h;exact ⟨u,t,e,h.keeps k,h'.keeps k⟩)
theorem pp1 {p q:Pq} {a b:Value} {W:World} : (sPP p q).F (.tuple #[a,b]) W->PtV W a p:=by rintro ⟨u,t,e,h,_⟩;cases e;exact h
theorem pp2 {p q:Pq} {a b:Value} {W:World} : (sPP p q).F (.tuple #[a,b]) W->PtV W b q:=by rintro ⟨u,t,e,_,h⟩;cases e;exact h
def RetPP (w:World) (p q:Pq) (e:Ending) (w':World):Prop:=∃ v u,e = .returned (.tuple #[v,u])/\PtV w' v p/\PtV w' u q/\w.grownBy w' none
section
variable {P:Program} {f:FuncId} {args:Array Value} {W:World}
theorem toPP {p q:Pq} (h:Calls P f args W (RetPP W p q)):Calls P f args W (Ret W (sPP p q).F):=h.mono fun _ _ ⟨v,u,a,h,h',g⟩=>⟨_,a,⟨v,u,rfl,h,h'⟩,g⟩
end
def PAt (w:World) (cs:Array Value) (o:Nat) (p:Pq):Prop:=∃ a b c d e f g h:Value,cs[o]?=some a/\cs[o+1]?=some b/\cs[o+2]?=some c/\cs[o+3]?=some d/\cs[o+4]?=some e/\cs[o+5]?=some f/\cs[o+6]?=some g/\cs[o+7]?=some h/\PtV w (.agg #[a,b,c,d,e,f,g,h]) p
def PtsV (w:World) (v:Value) (l:List Pq):Prop:=∃ s n c,v = .slice s n c/\l.length=n/\n<=c/\(l=[] \/ ∃ b off cs,s=some ⟨b,off,none⟩/\w.heap[b]?=some (.cells cs 33 (0,0)) /\ ∀ i (h:i<l.length),PAt w cs (off+8*i) l[i])
def fpS (v:Value) (q:Nat):Prop:=∃ off n c,v = .slice (some ⟨q,off,none⟩) (n+1) c
def fpP (v:Value) (q:Nat):Prop:=∃ off,v = .pointer (some ⟨q,off,none⟩)
theorem PAt.keeps {W W':World} {cs:Array Value} {o:Nat} {p:Pq} (h:PAt W cs o p) (k:Keeps G9 W W'):PAt W' cs o p:=by
 obtain ⟨a,b,c,d,e,f,g,i,h1,h2,h3,h4,h5,h6,h7,h8,h9⟩:=h
 exact ⟨a,b,c,d,e,f,g,i,h1,h2,h3,h4,h5,h6,h7,h8,h9.keeps k⟩
theorem PtsV.keeps {W W':World} {v:Value} {l:List Pq} (h:PtsV W v l) (k:Keeps G9 W W') (hq:∀ q,fpS v q->W'.heap[q]?=W.heap[q]?):PtsV W' v l:=by
 obtain ⟨s,n,c,rfl,hl,hn,h⟩:=h
 refine ⟨s,n,c,rfl,hl,hn, ?_⟩
 by_cases h0:l=[]
 · exact .inl h0
 · obtain ⟨b,off,cs,rfl,hb,hc⟩:=h.resolve_left h0
   obtain ⟨m,rfl⟩:∃ m,n=m+1:=⟨n-1,by have:=List.length_pos_iff.2 h0;omega⟩
   exact .inr ⟨b,off,cs,rfl,by rw [hq b ⟨off,m,c,rfl⟩];exact hb,fun i hi=>(hc i hi).keeps k⟩
theorem PtsV.inb {W:World} {v:Value} {l:List Pq} (h:PtsV W v l) (q:Nat) (hq:fpS v q):q<W.heap.size:=by
 obtain ⟨s,n,c,rfl,hl,hn,h⟩:=h
 obtain ⟨off,m,c',e⟩:=hq
 cases e
 rcases h with h | ⟨b,off',cs,e,hb,_⟩
 · rw [h] at hl;simp at hl
 · cases e;exact (Array.getElem?_eq_some_iff.1 hb).1
def sPts (s0:Nat) (l:List Pq):Sp where
 sh := .one
 F v W:=PtsV W v l /\ ∀ q,fpS v q->s0<=q
 fits v W h:=by obtain ⟨⟨s,n,c,rfl,_⟩,_⟩:=h;exact ⟨fun _ => .slice s n c,fun _=>rfl,rfl⟩
 row:=true
 fp v _ q:=fpS v q
 lasts v W W' k hq h:=⟨⟨h.1.keeps k hq,h.2⟩,fun _ h=>h⟩
 inb v W h q hq:=h.1.inb q hq
 flat h:=by cases h
def RetPts (w:World) (l:List Pq) (e:Ending) (w':World):Prop:=∃ v,e = .returned v/\PtsV w' v l/\w.grownBy w' none /\ ∀ q,fpS v q->w.heap.size<=q
theorem toPts {P:Program} {f:FuncId} {args:Array Value} {W:World} {l:List Pq} {old:Nat->Prop} {s0:Nat} (hs:s0<=W.heap.size) (h:Calls P f args W (RetPts W l)):Calls P f args W (RetS W (sPts s0 l) old):=
 h.mono fun _ _ ⟨v,a,h,g,hq⟩=>⟨v,a,⟨h,fun q hf=>Nat.le_trans hs (hq q hf)⟩,g,fun q hf => .inl (hq q hf)⟩
section
variable {P:Program} {ρ : Operand->Value} {o:Oper} {W:World}
end
end Go.Proofs.YtninnifpgpjfhaaGreatDoor
namespace Go.Proofs.YtninnifpgpjfhaaGreatDoor.PM
def pthS (f:Pq->Pq->Int):List Pq->Int
 | []=>0
 | [_]=>0
 | a :: b :: l=>f a b+pthS f (b :: l)
def cyL (f:Pq->Pq->Int):List Pq->Int
 | []=>0
 | a :: l=>pthS f (a :: l++[a])
def pt0 (l:List Pq) (i:Nat):Pq:=l.getD i (0,0)
def nxt (l:List Pq) (i:Nat):Pq:=pt0 l ((i+1)%l.length)
def upS (f:Pq->Pq->Int) (l:List Pq):Nat->Int
 | 0=>0
 | k+1=>upS f l k+f (pt0 l k) (nxt l k)
def opI (f:Pq->Pq->Int) (g:Nat->Pq):Nat->Int
 | 0=>0
 | k+1=>opI f g k+f (g k) (g (k+1))
theorem kV (f:Pq->Pq->Int) (g:Nat->Pq):∀ k,opI f g (k+1)=f (g 0) (g 1)+opI f (fun i=>g (i+1)) k
 | 0=>by show 0+f (g 0) (g 1)=f (g 0) (g 1)+0;omega
 | k+1=>by
   show opI f g (k+1)+f (g (k+1)) (g (k+2))=_+(opI f (fun i=>g (i+1)) k+f (g (k+1)) (g (k+2)))
   rw [kV f g k];omega
theorem pth_op (f:Pq->Pq->Int):∀ l:List Pq,pthS f l=opI f (pt0 l) (l.length-1)
 | []=>rfl
 | [a]=>rfl
 | a :: b :: l=>by
   show f a b+pthS f (b :: l)=opI f (pt0 (a :: b :: l)) (l.length+1)
   rw [kV,pth_op f (b :: l)];rfl
theorem kW {f:Pq->Pq->Int} {g h:Nat->Pq} : ∀ {k:Nat},(∀ i,i<=k->g i=h i)->opI f g k=opI f h k
 | 0,_=>rfl
 | k+1,e=>by
   show opI f g k+_=opI f h k+_
   rw [kW (fun i hi=>e i (by omega)),e k (by omega),e (k+1) (by omega)]
theorem upS_op (f:Pq->Pq->Int) (l:List Pq):∀ k,k<l.length->upS f l k=opI f (pt0 l) k
 | 0,_=>rfl
 | k+1,h=>by
   show upS f l k+f _ (pt0 l ((k+1)%l.length))=opI f (pt0 l) k+_
   rw [upS_op f l k (by omega),Nat.mod_eq_of_lt h]
theorem upS_cy (f:Pq->Pq->Int) (l:List Pq):upS f l l.length=cyL f l:=by
 cases l with
 | nil=>rfl
 | cons a l=>
   show upS f (a :: l) (l.length+1)=pthS f (a :: l++[a])
   rw [pth_op]
   have hl:(a :: l++[a]).length-1=l.length+1:=by simp
   rw [hl]
   show upS f (a :: l) l.length+f (pt0 (a :: l) l.length) (pt0 (a :: l) ((l.length+1)%(l.length+1)))=opI f (pt0 (a :: l++[a])) l.length+f (pt0 (a :: l++[a]) l.length) (pt0 (a :: l++[a]) (l.length+1))
   rw [Nat.mod_self,upS_op f (a :: l) l.length (by simp)]
   have e:∀ i,i<=l.length->pt0 (a :: l) i=pt0 (a :: l++[a]) i:=fun i hi=>by
    unfold pt0;rw [List.getD_eq_getElem?_getD,List.getD_eq_getElem?_getD,List.getElem?_append_left (by simp;omega)]
   have e2:pt0 (a :: l++[a]) (l.length+1)=a:=by unfold pt0;simp [List.getD_eq_getElem?_getD]
   rw [kW e,e l.length (Nat.le_refl _),e2];rfl
def pass (i k:Int):Int:=if i<=0/\0<k then 1 else if 0<i/\k<=0 then -1 else 0
theorem pass_or (i k:Int):pass i k = -1\/pass i k=0\/pass i k=1:=by unfold pass;split<;>(try split)<;>omega
def ahd (lf:Pq->Int) (m a b:Pq):Int:=if rsg (B5 a b m)=pass (lf a) (lf b) then pass (lf a) (lf b) else 0
def thr (lf:Pq->Int) (m a b:Pq):Int:=if rsg (B5 a b m)=0 then pass (lf a) (lf b) else 0
def lvl (m p:Pq):Int:=G3 p.2 m.2
def upr (m p:Pq):Int:=G3 m.1 p.1
def qtr (p q:Pq):Int:=
 if 0<G3 q.1 p.1/\0<=G3 q.2 p.2 then 0 else if G3 q.1 p.1<=0/\0<G3 q.2 p.2 then 1 else if G3 q.1 p.1<0/\G3 q.2 p.2<=0 then 2 else 3
def gq (p x:Pq):Int:=if G3 x.1 p.1=1/\G3 x.2 p.2=0 then 4 else qtr p x
def three:List Int:=[-1,0,1]
def OnR (l:List Pq) (p:Pq):Prop:=∃ i,i<l.length/\InS (pt0 l i) (nxt l i) p
def winds (l:List Pq) (p:Pq):Int:=cyL (ahd (lvl p) p) l
end Go.Proofs.YtninnifpgpjfhaaGreatDoor.PM
namespace Go.Proofs.YtninnifpgpjfhaaGreatDoor
open Go.RowKit Go.Shelf Mat Ex PM
attribute [local go_sem] Oper.semAt_some
def gc (cs:Array Value) (k:Nat):Value:=(cs[k]?).getD undef
def pv (cs:Array Value) (o:Nat):Value := .agg #[gc cs o,gc cs (o+1),gc cs (o+2),gc cs (o+3),gc cs (o+4),gc cs (o+5),gc cs (o+6),gc cs (o+7)]
theorem gc_get {cs:Array Value} {k:Nat} (h:k<cs.size):cs[k]?=some (gc cs k):=by unfold gc;simp [h]
theorem F8 {W:World} {b:Nat} {cs:Array Value} {t:TypeId} (h:W.heap[b]?=some (.cells cs t (0,0))) {k:Nat} (hk:k<cs.size):W.cell? ⟨b,k,none⟩=some (gc cs k):=by
 unfold World.cell?;rw [h];exact gc_get hk
def Sh8 (cs:Array Value) (o:Nat):Prop:=∃ (s:Option Addr) (n:Nat) (x:Bool) (s':Option Addr) (n':Nat) (x':Bool) (t:Option Addr) (m:Nat) (y:Bool) (t':Option Addr) (m':Nat) (y':Bool),
 gc cs o = .slice s n n/\gc cs (o+1) = .bool x/\gc cs (o+2) = .slice s' n' n'/\gc cs (o+3) = .bool x'/\gc cs (o+4) = .slice t m m/\gc cs (o+5) = .bool y/\gc cs (o+6) = .slice t' m' m'/\gc cs (o+7) = .bool y'
theorem two_ways {e:Ending} {A B:Prop} (h:(e = .returned (.bool true)/\A)\/(e = .returned (.bool false)/\B)):∃ b,e = .returned (.bool b)/\Hid ((b=true/\A)\/(b=false/\B)):=by
 rcases h with ⟨e,h⟩ | ⟨e,h⟩
 · exact ⟨true,e,Lib.hid (.inl ⟨rfl,h⟩)⟩
 · exact ⟨false,e,Lib.hid (.inr ⟨rfl,h⟩)⟩
def KpR (b Bs:Nat) (W W':World):Prop:=W'.heap[b]?=W.heap[b]?/\W'.heap[Bs]?=W.heap[Bs]?
theorem kpR_t {b Bs:Nat} {A B C:World} (h:KpR b Bs A B) (k:KpR b Bs B C):KpR b Bs A C:=⟨k.1.trans h.1,k.2.trans h.2⟩
theorem kpR_b {b Bs:Nat} {w:World} (h1:b<w.heap.size) (h2:Bs<w.heap.size) (W:World) (l:Nat) (o o':Obj) (hl:w.heap.size<=l) (h:W.heap[l]?=some o) (_:o.isCells=false) (_:o.isWalk=false):KpR b Bs W (W.putObj l o'):=
 ⟨World.putObj_heap_other (by omega),World.putObj_heap_other (by omega)⟩
attribute [local go_sem] Oper.semAt_some
set_option maxHeartbeats 2000000 in
theorem WSides1_in (n:Nat) (hn : 1<=n) (l Bs b off len cap:Nat) (cs:Array Value) (hsz:off+8*len<=cs.size) (hlen:len<=1000000) (hsh:∀ i,i<len->Sh8 cs (off+i*8)) (J Jx:List Nat->World->Prop)
 (W:World) (hJ:AbidesFrom W.heap.size J)
 (hY:∀ pre x W,J pre W->x<len->pre.length<len->YieldAt Fence.wide (n-1) Tryz.prog l #[pv cs (off+x*8),pv cs (off+(x+1)%len*8)] W fun e W'=>
  (e = .returned (.bool true)/\J (pre++[x]) W'/\KpR b Bs W W')\/(e = .returned (.bool false)/\Jx (pre++[x]) W'))
 (hb:W.heap[b]?=some (.cells cs 33 (0,0))) (hB:W.heap[Bs]?=some (.cells #[.slice (some ⟨b,off,none⟩) len cap] 23 (0,0))) (h0:J [] W) :
 CallsIn Fence.wide n Tryz.prog 91 #[.func (.yield l) #[] #[],.pointer (some ⟨Bs,0,none⟩)] W fun e W'=>(∃ v,e = .returned v) /\
  ((∃ ys,ys=List.range len/\J ys W')\/(∃ k,k<=len/\Jx (List.range k) W')):=by
 refine callsIn_of_wp Tryz.func91 rfl trivial ?_ rfl
 simp only [Tryz.ntmps91,List.size_toArray,List.length_cons,List.length_nil,Nat.reduceAdd,Nat.reduceSub,Array.replicate_succ,Array.replicate_zero,List.push_toArray,List.append_toArray,List.nil_append,List.cons_append]
 have hBc:W.cell? ⟨Bs,0,none⟩=some (.slice (some ⟨b,off,none⟩) len cap):=by unfold World.cell?;rw [hB];rfl
 gi_wp2
 gi_loopw [7] (fun i wr=>∃ k:Nat,k<=len/\i = .int .i64 k/\J (List.range k) wr/\wr.heap[b]?=W.heap[b]?/\wr.heap[Bs]?=W.heap[Bs]?)
  (fun i _=>len-(intOf i).toNat)
 case atStart=>exact ⟨0,Nat.zero_le _,rfl,h0,rfl,rfl⟩
 case round=>
  obtain ⟨k,hk,rfl,hJs,hbr,hBr⟩:=hrel
  by_cases hlt:k<len
  · have hb2:=hbr.trans hb
    have hB2:=hBr.trans hB
    have hbl:b<wr.heap.size:=(Array.getElem?_eq_some_iff.1 hb2).1
    have hBl:Bs<wr.heap.size:=(Array.getElem?_eq_some_iff.1 hB2).1
    have hBc2:wr.cell? ⟨Bs,0,none⟩=some (.slice (some ⟨b,off,none⟩) len cap):=by unfold World.cell?;rw [hB2];rfl
    have c0:=F8 hb2 (k:=off+k*8) (by omega)
    have c1:=F8 hb2 (k:=off+k*8+1) (by omega)
    have c2:=F8 hb2 (k:=off+k*8+2) (by omega)
    have c3:=F8 hb2 (k:=off+k*8+3) (by omega)
    have c4:=F8 hb2 (k:=off+k*8+4) (by omega)
    have c5:=F8 hb2 (k:=off+k*8+5) (by omega)
    have c6:=F8 hb2 (k:=off+k*8+6) (by omega)
    have c7:=F8 hb2 (k:=off+k*8+7) (by omega)
    obtain ⟨s0,n0,x0,s1,n1,x1,s2,n2,x2,s3,n3,x3,e0,e1,e2,e3,e4,e5,e6,e7⟩:=hsh k hlt
    rw [e0] at c0;rw [e1] at c1;rw [e2] at c2;rw [e3] at c3;rw [e4] at c4;rw [e5] at c5;rw [e6] at c6;rw [e7] at c7
    have hg1:wr.grownBy (wr.alloc (.cells #[.slice s0 n0 n0,.bool x0,.slice s1 n1 n1,.bool x1,.slice s2 n2 n2,.bool x2,.slice s3 n3 n3,.bool x3] 33)).drew none:=
     (World.grownBy_alloc _ _ none).trans ⟨rfl,rfl,rfl,Nat.le_refl _,fun _ _ _=>rfl⟩
    have hkeep:∀ q,q<wr.heap.size->(wr.alloc (.cells #[.slice s0 n0 n0,.bool x0,.slice s1 n1 n1,.bool x1,.slice s2 n2 n2,.bool x2,.slice s3 n3 n3,.bool x3] 33)).drew.heap[q]?=wr.heap[q]?:=fun q hq=>hg1.block q hq (by simp)
    obtain ⟨fn,tmps,assign,body,hy,hR⟩:=hY _ k _ (hJ _ _ _ none hJs hg1 (fun r e=>nomatch e)) hlt (by simpa using hlt)
    unfold pv at hy
    rw [e0,e1,e2,e3,e4,e5,e6,e7] at hy
    clear e0 e1 e2 e3 e4 e5 e6 e7
    gi_wp2
    have hmx:Tryz.prog.follows .mixedOrders=true:=by kernel_rfl
    have hm0:(k+1)%len<len:=Nat.mod_lt _ (by omega)
    obtain ⟨m,hm⟩:∃ m,(k+1)%len=m:=⟨_,rfl⟩
    rw [hm] at hm0 hy
    have d0:=F8 hb2 (k:=off+m*8) (by omega)
    have d1:=F8 hb2 (k:=off+m*8+1) (by omega)
    have d2:=F8 hb2 (k:=off+m*8+2) (by omega)
    have d3:=F8 hb2 (k:=off+m*8+3) (by omega)
    have d4:=F8 hb2 (k:=off+m*8+4) (by omega)
    have d5:=F8 hb2 (k:=off+m*8+5) (by omega)
    have d6:=F8 hb2 (k:=off+m*8+6) (by omega)
    have d7:=F8 hb2 (k:=off+m*8+7) (by omega)
    have hmi:((k:Int)+1)%(len:Int)=(m:Int):=by rw [<- hm];push_cast;rfl
    gi_region_with (refine hR.mono ?_;rintro e W3 hor;obtain ⟨bb,rfl,hfin⟩:=two_ways hor)
    all_goals (
     rcases hfin.out with ⟨rfl,hJ3,hk3,hk4⟩ | ⟨rfl,hJx3⟩
     · gi_wp2
       go_roundw
       case rel=>exact ⟨k+1,by omega,by simp,by rw [List.range_succ];exact hJ3,by rw [hk3];exact (hkeep b hbl).trans hbr,by rw [hk4];exact (hkeep Bs hBl).trans hBr⟩
       case measure=>simp [intOf];omega
     · gi_wp2
       refine bodyPost_ret (results_none rfl _ _ _) rfl ?_
       exact ⟨⟨_,rfl⟩,.inr ⟨k+1,by omega,by rw [List.range_succ];exact hJx3⟩⟩)
  · obtain rfl:k=len:=by omega
    gi_wp2
    go_end0
    exact ⟨⟨_,rfl⟩,.inl ⟨_,rfl,hJs⟩⟩
set_option maxHeartbeats 2000000 in
theorem WSides0_in (n:Nat) (l Bs:Nat) (v:Value) (s:Option Addr) (c:Nat) (J:List Nat->World->Prop) (W:World) (hB:W.heap[Bs]?=some (.cells #[.slice s 0 c] 23 (0,0))) (h0:J [] W) :
 CallsIn Fence.wide n Tryz.prog 91 #[.func (.yield l) #[] #[],.pointer (some ⟨Bs,0,none⟩)] W fun e W'=>(∃ v,e = .returned v)/\J [] W':=by
 refine callsIn_of_wp Tryz.func91 rfl trivial ?_ rfl
 simp only [Tryz.ntmps91,List.size_toArray,List.length_cons,List.length_nil,Nat.reduceAdd,Nat.reduceSub,Array.replicate_succ,Array.replicate_zero,List.push_toArray,List.append_toArray,List.nil_append,List.cons_append]
 have hBc:W.cell? ⟨Bs,0,none⟩=some (.slice s 0 c):=by unfold World.cell?;rw [hB];rfl
 gi_wp2
 gi_loopw [7] (fun i wr=>i = .int .i64 0/\J [] wr) (fun _ _=>0)
 case atStart=>exact ⟨rfl,h0⟩
 case round=>
  obtain ⟨rfl,hJs⟩:=hrel
  gi_wp2
  go_end0
  exact ⟨⟨_,rfl⟩,hJs⟩
theorem dV (n:Nat) (v:Value) (w:World) (hv:v.oneCell'=true) :
 CallsIn Fence.wide n Tryz.prog 49 #[v] w fun e w'=>e = .returned (.func (.func 91) #[] #[.pointer (some ⟨w.heap.size,0,none⟩)])/\w'=w.alloc (.cells #[v] 23):=by
 cases v<;>simp [Value.oneCell'] at hv<;>(
 refine callsIn_of_wp Tryz.func49 rfl trivial ?_ rfl
 simp only [Tryz.ntmps49,List.size_toArray,List.length_cons,List.length_nil,Nat.reduceAdd,Nat.reduceSub,Array.replicate_succ,Array.replicate_zero,List.push_toArray,List.append_toArray,List.nil_append,List.cons_append]
 gi_wp2
 go_ret
 exact ⟨rfl,rfl⟩)
theorem V2 (n:Nat) (hn : 1<=n) (Bs:Nat) (w1 w:World) (hg1:w1.grownBy w none) (v:Value) (l:List Pq) (hB:w.heap[Bs]?=some (.cells #[v] 23 (0,0))) (hP:PtsV w1 v l) (hl:l.length<=1000000) :
 ∃ (b:Nat) (encs:Fin l.length->Array Value),b<w.heap.size/\(∀ x,(encs x).size=2)/\(∀ x,∃ p q,encs x = #[p,q]/\PtV w1 p (pt0 l x)/\PtV w1 q (nxt l x))/\(∀ x:Fin l.length,b<w1.heap.size)/\((b=Bs\/fpS v b) /\ ∃ cs t,w.heap[b]?=some (.cells cs t (0,0))) /\
   SeqStopsK Fence.wide n Tryz.prog 91 #[.pointer (some ⟨Bs,0,none⟩)] encs (KpR b Bs) (fun xs=>xs.map Fin.val=List.range l.length) (fun pre=>∃ k,k<=l.length/\pre.map Fin.val=List.range k) l.length w:=by
 obtain ⟨s,m,c,rfl,hm,hc,h⟩:=hP
 have hBl:Bs<w.heap.size:=(Array.getElem?_eq_some_iff.1 hB).1
 by_cases hnil:l=[]
 · subst hnil
   have hm:m=0:=hm.symm
   subst hm
   refine ⟨Bs,fun _ => #[undef,undef],hBl,fun _=>rfl,fun x=>absurd x.2 (Nat.not_lt_zero x.1),fun x=>absurd x.2 (Nat.not_lt_zero x.1),⟨.inl rfl,_,_,hB⟩,fun l' J Jx W hW hJ _ hY h0=>?_⟩
   exact (WSides0_in n l' Bs undef s c (fun _ W=>J [] W) W ((hW.block Bs hBl).trans hB) h0).mono fun e W' ⟨he,hj⟩=>⟨he,.inl ⟨[],rfl,hj⟩⟩
 · obtain ⟨b,off,cs,rfl,hb1,hA⟩:=h.resolve_left hnil
   have hb1l:b<w1.heap.size:=(Array.getElem?_eq_some_iff.1 hb1).1
   have hb:w.heap[b]?=some (.cells cs 33 (0,0)):=(hg1.block b hb1l (by simp)).trans hb1
   have hbl:b<w.heap.size:=(Array.getElem?_eq_some_iff.1 hb).1
   have hpos : 0<l.length:=List.length_pos_iff.2 hnil
   have hpv:∀ i,i<l.length->PtV w1 (pv cs (off+i*8)) (pt0 l i)/\Sh8 cs (off+i*8)/\off+i*8+7<cs.size:=fun i hi=>by
    have:=hA i hi
    rw [Nat.mul_comm 8 i] at this
    obtain ⟨a0,a1,a2,a3,a4,a5,a6,a7,g0,g1,g2,g3,g4,g5,g6,g7,hv⟩:=this
    have e:∀ {k:Nat} {a:Value},cs[k]?=some a->gc cs k=a:=fun h=>by unfold gc;rw [h];rfl
    have e2:pt0 l i=l[i]:=by unfold pt0;simp [hi]
    refine ⟨?_, ?_,(Array.getElem?_eq_some_iff.1 g7).1⟩
    · unfold pv;rw [e g0,e g1,e g2,e g3,e g4,e g5,e g6,e g7,e2];exact hv
    · unfold Sh8
      rw [e g0,e g1,e g2,e g3,e g4,e g5,e g6,e g7]
      have h1:=pt1 hv
      have h2:=pt2 hv
      obtain ⟨s,xs,x,s',xs',x',q1,_⟩:=h1
      obtain ⟨t,ys,y,t',ys',y',q2,_⟩:=h2
      cases q1;cases q2
      exact ⟨_,_,_,_,_,_,_,_,_,_,_,_,rfl,rfl,rfl,rfl,rfl,rfl,rfl,rfl⟩
   refine ⟨b,fun x => #[pv cs (off+x.1*8),pv cs (off+(x.1+1)%l.length*8)],hbl,fun _=>rfl,fun x=>⟨_,_,rfl,(hpv x.1 x.2).1,(hpv _ (Nat.mod_lt _ hpos)).1⟩,fun _=>hb1l,⟨.inr (by obtain ⟨m1,rfl⟩:∃ m1,m=m1+1:=⟨m-1,by omega⟩;exact ⟨_,_,_,rfl⟩),_,_,hb⟩,fun l' J Jx W hW hJ _ hY h0=>?_⟩
   have hsz:off+8*l.length<=cs.size:=by
    have:=(hpv (l.length-1) (by omega)).2.2
    omega
   rw [<- hm] at hB
   refine (WSides1_in n hn l' Bs b off l.length c cs hsz hl (fun i hi=>(hpv i hi).2.1) (fun pre W=>∃ q:List (Fin l.length),q.map Fin.val=pre/\J q W) (fun pre W=>∃ q:List (Fin l.length),q.map Fin.val=pre/\Jx q W) W
    (fun s A B row hs hg hr=>by obtain ⟨q,h1,h2⟩:=hs;exact ⟨q,h1,hJ q A B row h2 hg hr⟩) (fun pre x W1 h1 hx h2=>?_) ((hW.block b hbl).trans hb) ((hW.block Bs hBl).trans hB) ⟨[],rfl,h0⟩).mono
    fun e W' ⟨he,h⟩=>⟨he,h.imp (fun ⟨ys,h,q,h1,hj⟩=>⟨q,h1.trans h,hj⟩) fun ⟨k,hk,q,h1,hj⟩=>⟨q,⟨k,hk,h1⟩,hj⟩⟩
   obtain ⟨q,rfl,hq⟩:=h1
   obtain ⟨fn,tmps,assign,body,hy,hR⟩:=hY q ⟨x,hx⟩ W1 hq (by simpa using h2)
   refine ⟨fn,tmps,assign,body,hy,hR.mono fun e W' h=>?_⟩
   rcases h with ⟨rfl,h3,h4⟩ | ⟨rfl,h3⟩
   · exact .inl ⟨rfl,⟨q++[⟨x,hx⟩],by simp,h3⟩,h4⟩
   · exact .inr ⟨rfl,⟨q++[⟨x,hx⟩],by simp,h3⟩⟩
end Go.Proofs.YtninnifpgpjfhaaGreatDoor
namespace Go.Proofs.YtninnifpgpjfhaaGreatDoor
open Go.RowKit Mat Ex
section
variable {P:Program} (w:World)
theorem fU (base:Nat) (t ty e:TypeId) (i:TypeInfo) (z:Value) (size bytes:Nat) (ht:P.underlying t=some (.slice e)) (hi:P.info? e=some i) (hz:i.zero=some z)
 (hsize:i.size=size) (hby:i.bytes=bytes) (hzs:z.cells.size=size) (hsz : 0<size)
 (v:Value) (n:Nat) (xs:List Value) (hown:w.ownsRow base e size v n xs)
 (a:Addr) (m c:Nat) (news:List Value) (hl:news.length=m*size) (hnews:∀ j u,news[j]?=some u->w.cell? (a.add j)=some u) (h1:∀ u ∈ news,u.oneCell'=true)
 (h63:n+m<=maxLen) (hbytes:(n+m)*bytes<=140737488355328) (hbase:base<=w.heap.size) (hm : 0<m) :
 ∃ v' w',(Builtin.append_ #[t,t] ty #[v,.slice (some a) m c]).run P w = .ok v' w'/\w'.ownsRow base e size v' (n+m) (xs++news)/\w'.ownsRow base e size v n xs/\w.grownBy w' v.ownBlock /\
   (v'.ownBlock=v.ownBlock\/v'.ownBlock=some w.heap.size):=by
 subst hsize
 subst hby
 have hsmall:n+m<=9223372036854775807:=by simp only [maxLen] at h63;omega
 have hlen:(xs++news).length=(n+m)*i.size:=by rw [List.length_append,hown.1,hl,Nat.add_mul]
 have grown:∀ (old:Nat),old<n+m -> ∀ (row:Option Nat),
  (w.drew.alloc (.cells (xs.toArray++news.toArray++Builtin.zeroCells z.cells (grownCap w (n+m) old e-(n+m))) e)).ownsRow base e i.size
   (.slice (some ⟨w.heap.size,0,none⟩) (n+m) (grownCap w (n+m) old e)) (n+m) (xs++news) /\
  w.grownBy (w.drew.alloc (.cells (xs.toArray++news.toArray++Builtin.zeroCells z.cells (grownCap w (n+m) old e-(n+m))) e)) row:=by
  intro old ho row
  have hge:=grownCap_ge w (n+m) old e
  have hcm:grownCap w (n+m) old e<=maxLen:=grownCap_le_maxLen w (n+m) old e h63
  refine ⟨⟨hlen,.inr ⟨w.heap.size,_,_,rfl,hbase,heap_alloc_new w.drew _,hge,hcm, ?_, ?_⟩⟩,⟨rfl,rfl,rfl,by simp,fun k hk _=>_root_.Go.heap_alloc_old w.drew _ hk⟩⟩
  · simp only [Array.size_append,List.size_toArray,size_zeroCells,hzs,hown.1,hl, <- Nat.add_mul]
    congr 1
    omega
  · simp only [Array.toList_append,List.append_assoc]
    rw [<- List.append_assoc, <- hlen]
    exact List.take_left
 have hown0:=hown
 rcases hown.2 with ⟨rfl,rfl⟩ | ⟨g,cap,cur,rfl,hbg,hg,hnc,hcm,hcs,htake⟩
 · have hx:xs=[]:=List.eq_nil_of_length_eq_zero (by simpa using hown.1)
   subst hx
   have hr:=run_append_nil (P:=P) w t ty e i z ht hi hz a m c news hl hnews (by omega) (by omega) (by have hb:=hbytes;simp only [Nat.zero_add] at hb;omega)
   have hgr:=grown 0 (by omega) (Value.ownBlock (.slice none 0 0))
   simp only [Nat.zero_add,List.nil_append,Array.empty_append] at hgr ⊢
   exact ⟨_,_,hr,hgr.1,World.ownsRow_nil _ base e i.size,hgr.2,Or.inr rfl⟩
 · by_cases hroom:n+m<=cap
   · have hfit:n*i.size+news.length<=cur.size:=by rw [hl,hcs, <- Nat.add_mul];exact Nat.mul_le_mul_right _ hroom
     have hr:=run_append_room (P:=P) w t ty e i ht hi g n cap cur hg a m c news hl hnews h1 hroom hfit
     have hlx:(cur.toList.take (n*i.size)).length=n*i.size:=by rw [htake];exact hown.1
     refine ⟨_,_,hr,⟨hlen,.inr ⟨g,cap,_,rfl,hbg,setRow_heap w g cur _ e _ hg,hroom,hcm, ?_, ?_⟩⟩,⟨hown.1,.inr ⟨g,cap,_,rfl,hbg,setRow_heap w g cur _ e _ hg,hnc,hcm, ?_, ?_⟩⟩,⟨rfl,rfl,rfl,by simp,fun k _ hk=>setRow_other w g k _ (fun e=>hk (by simp [Value.ownBlock,e]))⟩,Or.inl rfl⟩
     · simp only [List.size_toArray,List.length_append,List.length_take,List.length_drop,Array.length_toList]
       omega
     · rw [htake, <- hlen]
       exact List.take_left
     · simp only [List.size_toArray,List.length_append,List.length_take,List.length_drop,Array.length_toList]
       omega
     · rw [htake,List.append_assoc, <- hown.1]
       exact List.take_left
   · have holds:∀ j u,xs[j]?=some u->w.cell? ((⟨g,0,none⟩:Addr).add j)=some u:=hown.cells (g:=g) rfl
     have hr:=run_append_grow (P:=P) w t ty e i z ht hi hz ⟨g,0,none⟩ n cap xs hown.1 holds a m c news hl hnews (by omega) (by omega) (growslice_fits (by omega) hbytes)
     have hgr:=grown cap (by omega) (Value.ownBlock (.slice (some ⟨g,0,none⟩) n cap))
     refine ⟨_,_,hr,hgr.1,⟨hown.1,.inr ⟨g,cap,cur,rfl,hbg, ?_,hnc,hcm,hcs,htake⟩⟩,hgr.2,Or.inr rfl⟩
     rw [_root_.Go.heap_alloc_old w.drew _ (Array.getElem?_eq_some_iff.1 hg).1];exact hg
end
structure dY (α : Type) where
 T:TypeId
 z:Nat
 A:World->List Value->α->Prop
 keeps:∀ {W W':World} {cs:List Value} {x : α},A W cs x->Keeps G9 W W'->A W' cs x
 notLimb:G9 T=false
def OwV {α : Type} (k:dY α) (base:Nat) (w:World) (v:Value) (l:List α):Prop:=∃ xs,w.ownsRow base k.T k.z v l.length xs /\ ∀ i (h:i<l.length),k.A w ((xs.drop (k.z*i)).take k.z) l[i]
theorem kA {w w':World} {base:Nat} {e:TypeId} {size:Nat} {v:Value} {n:Nat} {xs:List Value} (h:w.ownsRow base e size v n xs) (hb:∀ q,v.ownBlock=some q->w'.heap[q]?=w.heap[q]?):w'.ownsRow base e size v n xs:=by
 refine ⟨h.1, ?_⟩
 rcases h.2 with h2 | ⟨g,cap,cur,rfl,hbg,hg,h3⟩
 · exact .inl h2
 · exact .inr ⟨g,cap,cur,rfl,hbg,(hb g rfl).trans hg,h3⟩
theorem OwV.keeps {α : Type} {k:dY α} {base:Nat} {W W':World} {v:Value} {l:List α} (h:OwV k base W v l) (hk:Keeps G9 W W') (hb:∀ q,v.ownBlock=some q->W'.heap[q]?=W.heap[q]?):OwV k base W' v l:=by
 obtain ⟨xs,h1,h2⟩:=h
 exact ⟨xs,kA h1 hb,fun i hi=>k.keeps (h2 i hi) hk⟩
theorem OwV.nil {α : Type} (k:dY α) (base:Nat) (w:World):OwV k base w (.slice none 0 0) ([]:List α):=⟨[],World.ownsRow_nil w base k.T k.z,fun i h=>absurd h (by simp)⟩
theorem OwV.inb {α : Type} {k:dY α} {base:Nat} {W:World} {v:Value} {l:List α} (h:OwV k base W v l) {q:Nat} (hq:v.ownBlock=some q):q<W.heap.size/\base<=q /\ ∃ cur,W.heap[q]?=some (.cells cur k.T (0,0)):=by
 obtain ⟨xs,h1,_⟩:=h
 rcases h1.2 with ⟨rfl,_⟩ | ⟨g,cap,cur,rfl,hbg,hg,_⟩
 · cases hq
 · cases hq;exact ⟨(Array.getElem?_eq_some_iff.1 hg).1,hbg,cur,hg⟩
def sOw {α : Type} (k:dY α) (base:Nat) (l:List α):Sp where
 sh := .one
 F v W:=OwV k base W v l
 fits v W h:=by
  obtain ⟨xs,h1,_⟩:=h
  rcases h1.2 with ⟨rfl,_⟩ | ⟨g,cap,cur,rfl,_⟩
  · exact ⟨fun _ => .slice none 0 0,fun _=>rfl,rfl⟩
  · exact ⟨fun _ => .slice (some ⟨g,0,none⟩) l.length cap,fun _=>rfl,rfl⟩
 row:=true
 fp v _ q:=v.ownBlock=some q
 lasts v W W' k hq h:=⟨h.keeps k hq,fun _ h=>h⟩
 inb v W h q hq:=(h.inb hq).1
 flat h:=by cases h
def AppW (base:Nat) (v v':Value) (W W':World):Prop:=W.grownBy W' v.ownBlock/\(v'.ownBlock=v.ownBlock\/v'.ownBlock=some W.heap.size)
def Older {α : Type} (k:dY α) (base:Nat) (W W':World) (v:Value) (l:List α):Prop:=∀ u l',OwV k base W u l'->l'.length<=l.length->u.ownBlock=v.ownBlock->OwV k base W' u l'
theorem older_of {α : Type} {k:dY α} {base:Nat} {W W':World} {v:Value} {l:List α} {xs:List Value} (hown:W.ownsRow base k.T k.z v l.length xs) (h3:W'.ownsRow base k.T k.z v l.length xs) (hkp:Keeps G9 W W'):Older k base W W' v l:=by
 rintro u l' ⟨ys,hu,hB⟩ hle hb
 refine ⟨ys,⟨hu.1, ?_⟩,fun j hj=>k.keeps (hB j hj) hkp⟩
 rcases hu.2 with h0 | ⟨g,cap,cur,rfl,hbg,hg,hnc,hcm,hcs,htk⟩
 · exact .inl h0
 · rcases hown.2 with ⟨rfl,_⟩ | ⟨g2,cap2,cur2,rfl,_,hg2,_,_,hcs2,htk2⟩
   · cases hb
   · cases hb
     rcases h3.2 with ⟨e3,_⟩ | ⟨g3,cap3,cur3,e3,_,hg3,_,_,hcs3,htk3⟩
     · cases e3
     · cases e3
       rw [hg] at hg2;cases hg2
       refine .inr ⟨g,cap,cur3,rfl,hbg,hg3,hnc,hcm,by rw [hcs3, <- hcs2,hcs], ?_⟩
       have hmul:l'.length*k.z<=l.length*k.z:=Nat.mul_le_mul_right _ hle
       rw [<- htk, <- Nat.min_eq_left hmul, <- List.take_take, <- List.take_take,htk3,htk2]
theorem jX {α : Type} {P:Program} (k:dY α) {t:TypeId} {i:TypeInfo} {z:Value} {bytes:Nat} (ht:P.underlying t=some (.slice k.T)) (hi:P.info? k.T=some i) (hz:i.zero=some z) (hsize:i.size=k.z) (hby:i.bytes=bytes)
 (hzs:z.cells.size=k.z) (hsz : 0<k.z) {W:World} {base:Nat} {v:Value} {l:List α} (h:OwV k base W v l) {x : α} {q c:Nat} {cs:List Value} (hc:cs.length=k.z) (hq:W.heap[q]?=some (.cells cs.toArray k.T (0,0))) (hx:k.A W cs x)
 (h1:∀ u ∈ cs,u.oneCell'=true) (hn:l.length+1<=1000000) (hb:bytes<=1000000) (hbase:base<=W.heap.size) {ρ : Operand->Value} {o:Oper} {a b:Operand} (ho:o.op = .call ⟨.builtin .append, #[a,b], #[t,t]⟩) (ha : ρ a=v) (hbv : ρ b = .slice (some ⟨q,0,none⟩) 1 c) :
 ∃ v' W',(execOp ρ o).run P W = .ok (.value v') W'/\OwV k base W' v' (l++[x])/\OwV k base W' v l/\AppW base v v' W W'/\Keeps G9 W W'/\Older k base W W' v l:=by
 obtain ⟨xs,hown,hA⟩:=h
 have hlen:xs.length=l.length*k.z:=hown.1
 obtain ⟨v',W',hr,h2,h3,h4,h5⟩:=fU (P:=P) W base t o.type k.T i z k.z bytes ht hi hz hsize hby hzs hsz v l.length xs hown ⟨q,0,none⟩ 1 c cs (by rw [hc,Nat.one_mul])
  (fun j u hj=>by rw [Addr.add_lit];simp [World.cell?,hq,hj]) h1 (by simp only [maxLen];omega) (by have:=Nat.mul_le_mul hn hb;omega) hbase (by omega)
 have hkp:Keeps G9 W W':=fun g arr ty fr hp hg=>by
  rw [h4.block g (Array.getElem?_eq_some_iff.1 hg).1 fun e=>?_]; · exact hg
  obtain ⟨_,_,cur,h6⟩:=OwV.inb (k:=k) ⟨xs,hown,hA⟩ e.symm
  rw [hg] at h6;cases h6
  rw [k.notLimb] at hp;cases hp
 refine ⟨v',W', ?_,⟨xs++cs,by simpa using h2,fun j hj=>?_⟩,⟨xs,h3,fun j hj=>k.keeps (hA j hj) hkp⟩,⟨h4,h5⟩,hkp,older_of hown h3 hkp⟩
 · unfold execOp
   simp only [ho,resolve,invoke,builtin,Sem.run_bind,Sem.run_pure,Result.andThen_ok,List.map_toArray,List.map_cons,List.map_nil,ha,hbv,hr]
 · have hj:j<l.length+1:=by simpa using hj
   rcases Nat.lt_or_ge j l.length with hlt | hge
   · have:=k.keeps (hA j hlt) hkp
     rw [List.getElem_append_left hlt]
     have hle:k.z*j+k.z<=xs.length:=by
      rw [hlen, <- Nat.mul_succ,Nat.mul_comm];exact Nat.mul_le_mul_right _ hlt
     rw [List.drop_append_of_le_length (by omega),List.take_append_of_le_length (by simp;omega)]
     exact this
   · obtain rfl:j=l.length:=by omega
     rw [show k.z*l.length=xs.length by rw [hlen,Nat.mul_comm],List.drop_left,List.take_of_length_le (by omega)]
     simpa using k.keeps hx hkp
end Go.Proofs.YtninnifpgpjfhaaGreatDoor
