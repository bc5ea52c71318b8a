/- What the laws lean on, part 11. -/
import Derived.Below
import Derived.BigCall
import Derived.BigQuiet
import Derived.BigRegion
import Derived.Deep.AppendLies
import Derived.Deep.CutBlock
import Derived.Deep.CutRange
import Derived.Deep.DeepCutAuto
import Derived.Deep.DeepHandedRow
import Derived.Deep.LoopGhost
import Derived.Deep.MidRow
import Derived.Deep.QuietTactic
import Derived.Deep.RegionHeld3
import Derived.Deep.RegionLaw
import Derived.Deep.WholeRow
import Derived.Laws.AppendOwn
import Derived.Laws.Concat
import Derived.Laws.CopyOwn
import Derived.Laws.Externs
import Derived.Laws.IdiomStrings
import Derived.Lib.BitFns
import Derived.Lib.Bytealg
import Derived.Lib.Hide
import Derived.Lib.Slices
import Derived.Lib.Small
import Derived.Lib.Strings
import Derived.Lib.Walk
import Derived.LoopN
import Derived.OpenShut
import Derived.OrdersHeld
import Derived.OrdersIn
import Derived.Outline
import Derived.OwnWalk
import Derived.ProofKit
import Derived.RangeFuncCalls
import Derived.RangeFuncNested
import Derived.RangeFuncOwn
import Derived.Shelf.Bits.Mul64
import Derived.Shelf.Spec.TrailingZeros
import Derived.StillTailTactics
import Derived.WalkKit
import Derived.WalkLawsBesides
import Derived.WalkSpells
import Derived.Test.YtamdnbbgpacfkaaGreatDoorProg
import Derived.Test.YtamdnbbgpacfkaaGreatDoorRows
import Derived.Test.YtamdnbbgpacfkaaGreatDoorMd9
import Derived.Test.YtamdnbbgpacfkaaGreatDoorMd10
set_option linter.unusedVariables false
set_option linter.unusedSimpArgs false
set_option maxRecDepth 100000
namespace Go.Proofs.YtamdnbbgpacfkaaGreatDoor
open Go.RowKit Mat
theorem rof_1 (w:World):Calls Tryz.prog 82 #[.int .u64 1] w (X3 w 1):=rH w 1 (by decide)
theorem neg_lt {y:Int} {E:Nat} (h:y.natAbs<E):(-y).natAbs<E:=by rw [Int.natAbs_neg];exact h
theorem lt_DE {m E:Nat} (h:m<B) (hE : 5<=E):m<D^E:=
 Nat.lt_of_lt_of_le h (Nat.le_trans (show B<=D^5 by unfold B D;decide) (Nat.pow_le_pow_right bX hE))
theorem lt_D1 {m:Nat} (h:m<B):m<D^1000000:=by
 obtain ⟨E,hE⟩:∃ E,E=1000000:=⟨_,rfl⟩
 rw [<- hE];exact lt_DE h (by omega)
theorem radd_same {x y:Int} (h:x.sign=y.sign):(x+y).natAbs=x.natAbs+y.natAbs/\(x+y).sign=x.sign:=by
 rcases S5 x with ⟨h1,e1⟩ | ⟨h1,e1⟩ | ⟨h1,e1⟩<;>rcases S5 y with ⟨h2,e2⟩ | ⟨h2,e2⟩ | ⟨h2,e2⟩<;>rcases S5 (x+y) with ⟨h3,e3⟩ | ⟨h3,e3⟩ | ⟨h3,e3⟩<;>omega
theorem rG {x y:Int} (h:x.sign≠y.sign) (h0:x≠0) (h9:y≠0) (hle:y.natAbs<=x.natAbs):(x+y).natAbs=x.natAbs-y.natAbs/\(x.natAbs-y.natAbs=0\/(x+y).sign=x.sign):=by
 rcases S5 x with ⟨h1,e1⟩ | ⟨h1,e1⟩ | ⟨h1,e1⟩<;>rcases S5 y with ⟨h2,e2⟩ | ⟨h2,e2⟩ | ⟨h2,e2⟩<;>rcases S5 (x+y) with ⟨h3,e3⟩ | ⟨h3,e3⟩ | ⟨h3,e3⟩<;>omega
set_option maxHeartbeats 8000000 in
theorem C6 (w:World) (va vb:Value) (x y:Int) (Ha:RIntV w va x) (Hb:RIntV w vb y) (la':x.natAbs<D^1000000) (lb':y.natAbs<D^1000000) :
 Calls Tryz.prog 89 #[va,vb] w (G7 w (x*y)):=by
 have Hla:=Lib.hid la'
 have Hlb:=Lib.hid lb'
 clear la' lb'
 obtain ⟨ga,sa,la,ca,rfl,ha,ma⟩:=Ha
 obtain ⟨gb,sb,lb,cb,rfl,hb,mb⟩:=Hb
 have hG:w.grownBy (((w.alloc (.cells #[.int .i64 ga,.slice sa la ca] 32)).alloc (.cells #[.int .i64 gb,.slice sb lb cb] 32)).alloc (.cells #[.int .i64 0,.slice none 0 0] 32)) none:=(A7 (A7 (World.grownBy_alloc _ _ _) _) _)
 have Ba:=A1 (A7 (World.grownBy_alloc _ (.cells #[.int .i64 gb,.slice sb lb cb] 32) none) (.cells #[.int .i64 0,.slice none 0 0] 32)) (A8 w (.cells #[.int .i64 ga,.slice sa la ca] 32) (w.heap.size) rfl)
 have Bb:=A1 (World.grownBy_alloc _ (.cells #[.int .i64 0,.slice none 0 0] 32) none) (A8 (w.alloc (.cells #[.int .i64 ga,.slice sa la ca] 32)) (.cells #[.int .i64 gb,.slice sb lb cb] 32) (w.heap.size+1) (by simp))
 have Bq:=(A8 ((w.alloc (.cells #[.int .i64 ga,.slice sa la ca] 32)).alloc (.cells #[.int .i64 gb,.slice sb lb cb] 32)) (.cells #[.int .i64 0,.slice none 0 0] 32) (w.heap.size+1+1) (by simp))
 have ra:RIntV (((w.alloc (.cells #[.int .i64 ga,.slice sa la ca] 32)).alloc (.cells #[.int .i64 gb,.slice sb lb cb] 32)).alloc (.cells #[.int .i64 0,.slice none 0 0] 32)) (.agg #[.int .i64 ga,.slice sa la ca]) (x):=⟨ga,sa,la,ca,rfl,ha,ma.kept hG⟩
 have ma':RefV (((w.alloc (.cells #[.int .i64 ga,.slice sa la ca] 32)).alloc (.cells #[.int .i64 gb,.slice sb lb cb] 32)).alloc (.cells #[.int .i64 0,.slice none 0 0] 32)) (.agg #[.slice sa la ca]) (x).natAbs:=ma.kept hG
 have rb:RIntV (((w.alloc (.cells #[.int .i64 ga,.slice sa la ca] 32)).alloc (.cells #[.int .i64 gb,.slice sb lb cb] 32)).alloc (.cells #[.int .i64 0,.slice none 0 0] 32)) (.agg #[.int .i64 gb,.slice sb lb cb]) (y):=⟨gb,sb,lb,cb,rfl,hb,mb.kept hG⟩
 have mb':RefV (((w.alloc (.cells #[.int .i64 ga,.slice sa la ca] 32)).alloc (.cells #[.int .i64 gb,.slice sb lb cb] 32)).alloc (.cells #[.int .i64 0,.slice none 0 0] 32)) (.agg #[.slice sb lb cb]) (y).natAbs:=mb.kept hG
 have oa:RIntV w (.agg #[.int .i64 ga,.slice sa la ca]) (x):=⟨ga,sa,la,ca,rfl,ha,ma⟩
 clear ma
 have ob:RIntV w (.agg #[.int .i64 gb,.slice sb lb cb]) (y):=⟨gb,sb,lb,cb,rfl,hb,mb⟩
 clear mb
 go_enter Tryz.func89,Tryz.ntmps89
 obtain ⟨P,hP⟩:∃ P,(x*y).sign=P:=⟨_,rfl⟩
 have HP:Hid ((x*y).sign=P):=hP
 have HN:Hid ((x*y).natAbs=x.natAbs*y.natAbs):=Int.natAbs_mul x y
 have hw:IntKind.i64.wrap (ga*gb)=P:=by
  rw [ha.out,hb.out, <- Int.sign_mul,hP,IntKind.wrap_i64]
  have:=rA (x*y);rw [hP] at this;omega
 clear hP
 obtain ⟨Ca0,Ca1,Fa0,Fa1⟩:=A3 Ba
 obtain ⟨Cb0,Cb1,Fb0,Fb1⟩:=A3 Bb
 obtain ⟨Cq0,Cq1,Fq0,Fq1⟩:=A3 Bq
 go_wp2_with fail
 generalize (((w.alloc (.cells #[.int .i64 ga,.slice sa la ca] 32)).alloc (.cells #[.int .i64 gb,.slice sb lb cb] 32)).alloc (.cells #[.int .i64 0,.slice none 0 0] 32))=w0 at *
 go_region_held3 (fun w'=>w'.cell? ⟨w.heap.size,0,none⟩=some (.int .i64 ga)/\w'.cell? ⟨w.heap.size,1,none⟩=some (.slice sa la ca)/\w'.cell? ⟨w.heap.size+1,0,none⟩=some (.int .i64 gb)/\w'.cell? ⟨w.heap.size+1,1,none⟩=some (.slice sb lb cb))
  (first | assumption | exact ⟨Ca0,Ca1,Cb0,Cb1⟩ | exact HSw1_20 | go_keep)
  (first
   | (go_at_call 137;(with_reducible refine (rMul_any w0.drew _ _ x.natAbs y.natAbs (ma'.kept (C4 (B0 _ _))) (mb'.kept (C4 (B0 _ _))) Hla.out Hlb.out).mono ?_);rintro e w1_1 ⟨vp,rfl,mp,gw1_1⟩;have hGw1_1:=H5 w0 gw1_1 rfl rfl rfl rfl;have hSw1_1:=(And.intro (hGw1_1.cell Ca0 (by simp)) (And.intro (hGw1_1.cell Ca1 (by simp)) (And.intro (hGw1_1.cell Cb0 (by simp)) (hGw1_1.cell Cb1 (by simp)))));clear gw1_1)
   | (go_at_call 80;(with_reducible refine (Q9 w1_1 _ P (x.natAbs*y.natAbs) (x*y) mp HN.out (Or.inr HP.out)).mono ?_);rintro e w1_2 ⟨_,rfl,⟨gd,sd,ld,cd,rfl,hd,md⟩,gw1_2⟩;have hGw1_2:=A2 hGw1_1 gw1_2;replace mp:=mp.kept gw1_2;have rd:RIntV w1_2 (.agg #[.int .i64 gd,.slice sd ld cd]) (x*y):=⟨gd,sd,ld,cd,rfl,hd,md⟩;have hSw1_2:=(And.intro (hGw1_2.cell Ca0 (by simp)) (And.intro (hGw1_2.cell Ca1 (by simp)) (And.intro (hGw1_2.cell Cb0 (by simp)) (hGw1_2.cell Cb1 (by simp)))));clear gw1_2;clear md;(obtain ⟨dq0,dq1,dq2,dq3⟩:=A3 (A1 hGw1_2 Bq));have HSw1_20:=(And.intro ((A3 (B9 (A1 hGw1_2 Ba) (show w.heap.size≠w.heap.size+1+1 by omega) (.int .i64 gd) (.slice sd ld cd))).1) (And.intro ((A3 (B9 (A1 hGw1_2 Ba) (show w.heap.size≠w.heap.size+1+1 by omega) (.int .i64 gd) (.slice sd ld cd))).2.1) (And.intro ((A3 (B9 (A1 hGw1_2 Bb) (show w.heap.size+1≠w.heap.size+1+1 by omega) (.int .i64 gd) (.slice sd ld cd))).1) ((A3 (B9 (A1 hGw1_2 Bb) (show w.heap.size+1≠w.heap.size+1+1 by omega) (.int .i64 gd) (.slice sd ld cd))).2.1))))))
 replace Ba:=A1 hGw1_2 Ba
 replace Bb:=A1 hGw1_2 Bb
 replace Bq:=A1 hGw1_2 Bq
 replace ra:=ra.kept hGw1_2
 replace ma':=ma'.kept hGw1_2
 replace rb:=rb.kept hGw1_2
 replace mb':=mb'.kept hGw1_2
 replace hG:=A2 hG hGw1_2
 clear Ca0 Fa0 Ca1 Fa1 Cb0 Fb0 Cb1 Fb1 Cq0 Fq0 Cq1 Fq1
 obtain ⟨k90,k91,k92,k93⟩:=A3 Bq
 obtain ⟨q90,q91,q92,q93⟩:=A3 (D5 Bq (.int .i64 gd) (.slice sd ld cd))
 have hF:Hid (G7 w (x*y) (.returned (.agg #[.int .i64 gd,.slice sd ld cd])) ((w1_2.setCell ⟨w.heap.size+1+1,0,none⟩ (.int .i64 gd)).setCell ⟨w.heap.size+1+1,1,none⟩ (.slice sd ld cd))):=O8 hG Bq (by omega) rd
 clear ra ma' rb mb' mp rd
 go_wp2_with fail
 exact bodyPost_ret (v := .agg #[.int .i64 gd,.slice sd ld cd]) (by simp [results,Tryz.results89,go_sem,q90,q91]) rfl hF.out
set_option maxHeartbeats 8000000 in
theorem T1 (w:World) (va vb:Value) (x y:Int) (Ha:RIntV w va x) (Hb:RIntV w vb y) (la':x.natAbs<D^1000000) (lb':y.natAbs<D^1000000) :
 Calls Tryz.prog 90 #[va,vb] w (G7 w (x+y)):=by
 have Hla:=Lib.hid la'
 have Hlb:=Lib.hid lb'
 clear la' lb'
 obtain ⟨ga,sa,la,ca,rfl,ha,ma⟩:=Ha
 obtain ⟨gb,sb,lb,cb,rfl,hb,mb⟩:=Hb
 have hG:w.grownBy (((w.alloc (.cells #[.int .i64 ga,.slice sa la ca] 32)).alloc (.cells #[.int .i64 gb,.slice sb lb cb] 32)).alloc (.cells #[.int .i64 0,.slice none 0 0] 32)) none:=(A7 (A7 (World.grownBy_alloc _ _ _) _) _)
 have Ba:=A1 (A7 (World.grownBy_alloc _ (.cells #[.int .i64 gb,.slice sb lb cb] 32) none) (.cells #[.int .i64 0,.slice none 0 0] 32)) (A8 w (.cells #[.int .i64 ga,.slice sa la ca] 32) (w.heap.size) rfl)
 have Bb:=A1 (World.grownBy_alloc _ (.cells #[.int .i64 0,.slice none 0 0] 32) none) (A8 (w.alloc (.cells #[.int .i64 ga,.slice sa la ca] 32)) (.cells #[.int .i64 gb,.slice sb lb cb] 32) (w.heap.size+1) (by simp))
 have Bq:=(A8 ((w.alloc (.cells #[.int .i64 ga,.slice sa la ca] 32)).alloc (.cells #[.int .i64 gb,.slice sb lb cb] 32)) (.cells #[.int .i64 0,.slice none 0 0] 32) (w.heap.size+1+1) (by simp))
 have ra:RIntV (((w.alloc (.cells #[.int .i64 ga,.slice sa la ca] 32)).alloc (.cells #[.int .i64 gb,.slice sb lb cb] 32)).alloc (.cells #[.int .i64 0,.slice none 0 0] 32)) (.agg #[.int .i64 ga,.slice sa la ca]) (x):=⟨ga,sa,la,ca,rfl,ha,ma.kept hG⟩
 have ma':RefV (((w.alloc (.cells #[.int .i64 ga,.slice sa la ca] 32)).alloc (.cells #[.int .i64 gb,.slice sb lb cb] 32)).alloc (.cells #[.int .i64 0,.slice none 0 0] 32)) (.agg #[.slice sa la ca]) (x).natAbs:=ma.kept hG
 have rb:RIntV (((w.alloc (.cells #[.int .i64 ga,.slice sa la ca] 32)).alloc (.cells #[.int .i64 gb,.slice sb lb cb] 32)).alloc (.cells #[.int .i64 0,.slice none 0 0] 32)) (.agg #[.int .i64 gb,.slice sb lb cb]) (y):=⟨gb,sb,lb,cb,rfl,hb,mb.kept hG⟩
 have mb':RefV (((w.alloc (.cells #[.int .i64 ga,.slice sa la ca] 32)).alloc (.cells #[.int .i64 gb,.slice sb lb cb] 32)).alloc (.cells #[.int .i64 0,.slice none 0 0] 32)) (.agg #[.slice sb lb cb]) (y).natAbs:=mb.kept hG
 have oa:RIntV w (.agg #[.int .i64 ga,.slice sa la ca]) (x):=⟨ga,sa,la,ca,rfl,ha,ma⟩
 clear ma
 have ob:RIntV w (.agg #[.int .i64 gb,.slice sb lb cb]) (y):=⟨gb,sb,lb,cb,rfl,hb,mb⟩
 clear mb
 go_enter Tryz.func90,Tryz.ntmps90
 obtain ⟨z,hz⟩:∃ z,x+y=z:=⟨_,rfl⟩
 obtain ⟨cc,hcc⟩:∃ cc,G3 x.natAbs y.natAbs=cc:=⟨_,rfl⟩
 have HCC:=Lib.hid hcc
 have key:((ga == 0)=true/\Hid (z=y))\/((ga == 0)=false/\(gb == 0)=true/\Hid (z=x))\/((ga == 0)=false/\(gb == 0)=false/\(ga == gb)=true/\Hid (z.natAbs=x.natAbs+y.natAbs/\z.sign=ga))\/((ga == 0)=false/\(gb == 0)=false/\(ga == gb)=false/\decide (0<=cc)=true/\y.natAbs<=x.natAbs/\Hid (z.natAbs=x.natAbs-y.natAbs/\(x.natAbs-y.natAbs=0\/z.sign=ga)))\/((ga == 0)=false/\(gb == 0)=false/\(ga == gb)=false/\decide (0<=cc)=false/\x.natAbs<=y.natAbs/\Hid (z.natAbs=y.natAbs-x.natAbs/\(y.natAbs-x.natAbs=0\/z.sign=gb))):=by
  have ea:=ha.out
  have eb:=hb.out
  by_cases h1:x=0
  · left;subst h1;exact ⟨by rw [ea];rfl,by show z=y;omega⟩
  · right
    have na:(ga == 0)=false:=beq_eq_false_iff_ne.2 (by rw [ea];intro h;exact h1 (Int.sign_eq_zero_iff_zero.1 h))
    by_cases h2:y=0
    · left;subst h2;exact ⟨na,by rw [eb];rfl,by show z=x;omega⟩
    · right
      have nb:(gb == 0)=false:=beq_eq_false_iff_ne.2 (by rw [eb];intro h;exact h2 (Int.sign_eq_zero_iff_zero.1 h))
      by_cases h3:x.sign=y.sign
      · left;exact ⟨na,nb,beq_iff_eq.2 (by rw [ea,eb,h3]),by rw [ea, <- hz];exact radd_same h3⟩
      · right
        have nc:(ga == gb)=false:=beq_eq_false_iff_ne.2 (by rw [ea,eb];exact h3)
        rcases Nat.lt_trichotomy x.natAbs y.natAbs with h4 | h4 | h4
        · right;exact ⟨na,nb,nc,decide_eq_false (by rw [<- hcc,R4 h4];omega),by omega,by rw [eb, <- hz,Int.add_comm];exact rG (Ne.symm h3) h2 h1 (by omega)⟩
        · left;exact ⟨na,nb,nc,decide_eq_true (by rw [<- hcc,Y8 h4];omega),by omega,by rw [ea, <- hz];exact rG h3 h1 h2 (by omega)⟩
        · left;exact ⟨na,nb,nc,decide_eq_true (by rw [<- hcc,R5 h4];omega),by omega,by rw [ea, <- hz];exact rG h3 h1 h2 (by omega)⟩
 rw [hz]
 clear hz hcc
 rcases key with ⟨f1,hz⟩ | ⟨f1,f2,hz⟩ | ⟨f1,f2,f3,hz⟩ | ⟨f1,f2,f3,f4,hle,hz⟩ | ⟨f1,f2,f3,f4,hle,hz⟩
 · skip
   obtain ⟨Ca0,Ca1,Fa0,Fa1⟩:=A3 Ba
   obtain ⟨Cb0,Cb1,Fb0,Fb1⟩:=A3 Bb
   obtain ⟨Cq0,Cq1,Fq0,Fq1⟩:=A3 Bq
   obtain rfl:z=y:=hz.out
   have hG':w.grownBy (((w.alloc (.cells #[.int .i64 ga,.slice sa la ca] 32)).alloc (.cells #[.int .i64 gb,.slice sb lb cb] 32)).alloc (.cells #[.int .i64 gb,.slice sb lb cb] 32)) none:=(A7 (A7 (World.grownBy_alloc _ _ _) _) _)
   have hF:Hid (G7 w (z) (.returned (.agg #[.int .i64 gb,.slice sb lb cb])) (((w.alloc (.cells #[.int .i64 ga,.slice sa la ca] 32)).alloc (.cells #[.int .i64 gb,.slice sb lb cb] 32)).alloc (.cells #[.int .i64 gb,.slice sb lb cb] 32))):=⟨_,rfl,ob.kept hG',hG'⟩
   clear hG' ra ma' rb mb'
   go_wp2_with fail
   exact bodyPost_ret (v := .agg #[.int .i64 gb,.slice sb lb cb]) (by simp [results,Tryz.results90,go_sem]) rfl hF.out
 · skip
   obtain ⟨Ca0,Ca1,Fa0,Fa1⟩:=A3 Ba
   obtain ⟨Cb0,Cb1,Fb0,Fb1⟩:=A3 Bb
   obtain ⟨Cq0,Cq1,Fq0,Fq1⟩:=A3 Bq
   obtain rfl:z=x:=hz.out
   have hG':w.grownBy (((w.alloc (.cells #[.int .i64 ga,.slice sa la ca] 32)).alloc (.cells #[.int .i64 gb,.slice sb lb cb] 32)).alloc (.cells #[.int .i64 ga,.slice sa la ca] 32)) none:=(A7 (A7 (World.grownBy_alloc _ _ _) _) _)
   have hF:Hid (G7 w (z) (.returned (.agg #[.int .i64 ga,.slice sa la ca])) (((w.alloc (.cells #[.int .i64 ga,.slice sa la ca] 32)).alloc (.cells #[.int .i64 gb,.slice sb lb cb] 32)).alloc (.cells #[.int .i64 ga,.slice sa la ca] 32))):=⟨_,rfl,oa.kept hG',hG'⟩
   clear hG' ra ma' rb mb'
   go_wp2_with fail
   exact bodyPost_ret (v := .agg #[.int .i64 ga,.slice sa la ca]) (by simp [results,Tryz.results90,go_sem]) rfl hF.out
 · skip
   obtain ⟨Ca0,Ca1,Fa0,Fa1⟩:=A3 Ba
   obtain ⟨Cb0,Cb1,Fb0,Fb1⟩:=A3 Bb
   obtain ⟨Cq0,Cq1,Fq0,Fq1⟩:=A3 Bq
   go_wp2_with fail
   generalize (((w.alloc (.cells #[.int .i64 ga,.slice sa la ca] 32)).alloc (.cells #[.int .i64 gb,.slice sb lb cb] 32)).alloc (.cells #[.int .i64 0,.slice none 0 0] 32))=w0 at *
   go_region_held3 (fun w'=>w'.cell? ⟨w.heap.size,0,none⟩=some (.int .i64 ga)/\w'.cell? ⟨w.heap.size,1,none⟩=some (.slice sa la ca)/\w'.cell? ⟨w.heap.size+1,0,none⟩=some (.int .i64 gb)/\w'.cell? ⟨w.heap.size+1,1,none⟩=some (.slice sb lb cb))
    (first | assumption | exact ⟨Ca0,Ca1,Cb0,Cb1⟩ | exact HSw1_20 | go_keep)
    (first
     | (go_at_call 81;(with_reducible refine (rAdd_any w0.drew _ _ x.natAbs y.natAbs (ma'.kept (C4 (B0 _ _))) (mb'.kept (C4 (B0 _ _))) Hla.out Hlb.out).mono ?_);rintro e w1_1 ⟨vp,rfl,mp,gw1_1⟩;have hGw1_1:=H5 w0 gw1_1 rfl rfl rfl rfl;have hSw1_1:=(And.intro (hGw1_1.cell Ca0 (by simp)) (And.intro (hGw1_1.cell Ca1 (by simp)) (And.intro (hGw1_1.cell Cb0 (by simp)) (hGw1_1.cell Cb1 (by simp)))));clear gw1_1)
     | (go_at_call 80;(with_reducible refine (Q9 w1_1 _ ga (x.natAbs+y.natAbs) z mp hz.out.1 (Or.inr hz.out.2)).mono ?_);rintro e w1_2 ⟨_,rfl,⟨gd,sd,ld,cd,rfl,hd,md⟩,gw1_2⟩;have hGw1_2:=A2 hGw1_1 gw1_2;replace mp:=mp.kept gw1_2;have rd:RIntV w1_2 (.agg #[.int .i64 gd,.slice sd ld cd]) (z):=⟨gd,sd,ld,cd,rfl,hd,md⟩;have hSw1_2:=(And.intro (hGw1_2.cell Ca0 (by simp)) (And.intro (hGw1_2.cell Ca1 (by simp)) (And.intro (hGw1_2.cell Cb0 (by simp)) (hGw1_2.cell Cb1 (by simp)))));clear gw1_2;clear md;(obtain ⟨dq0,dq1,dq2,dq3⟩:=A3 (A1 hGw1_2 Bq));have HSw1_20:=(And.intro ((A3 (B9 (A1 hGw1_2 Ba) (show w.heap.size≠w.heap.size+1+1 by omega) (.int .i64 gd) (.slice sd ld cd))).1) (And.intro ((A3 (B9 (A1 hGw1_2 Ba) (show w.heap.size≠w.heap.size+1+1 by omega) (.int .i64 gd) (.slice sd ld cd))).2.1) (And.intro ((A3 (B9 (A1 hGw1_2 Bb) (show w.heap.size+1≠w.heap.size+1+1 by omega) (.int .i64 gd) (.slice sd ld cd))).1) ((A3 (B9 (A1 hGw1_2 Bb) (show w.heap.size+1≠w.heap.size+1+1 by omega) (.int .i64 gd) (.slice sd ld cd))).2.1))))))
   replace Ba:=A1 hGw1_2 Ba
   replace Bb:=A1 hGw1_2 Bb
   replace Bq:=A1 hGw1_2 Bq
   replace ra:=ra.kept hGw1_2
   replace ma':=ma'.kept hGw1_2
   replace rb:=rb.kept hGw1_2
   replace mb':=mb'.kept hGw1_2
   replace hG:=A2 hG hGw1_2
   clear Ca0 Fa0 Ca1 Fa1 Cb0 Fb0 Cb1 Fb1 Cq0 Fq0 Cq1 Fq1
   obtain ⟨k90,k91,k92,k93⟩:=A3 Bq
   obtain ⟨q90,q91,q92,q93⟩:=A3 (D5 Bq (.int .i64 gd) (.slice sd ld cd))
   have hF:Hid (G7 w (z) (.returned (.agg #[.int .i64 gd,.slice sd ld cd])) ((w1_2.setCell ⟨w.heap.size+1+1,0,none⟩ (.int .i64 gd)).setCell ⟨w.heap.size+1+1,1,none⟩ (.slice sd ld cd))):=O8 hG Bq (by omega) rd
   clear ra ma' rb mb' mp rd
   go_wp2_with fail
   exact bodyPost_ret (v := .agg #[.int .i64 gd,.slice sd ld cd]) (by simp [results,Tryz.results90,go_sem,q90,q91]) rfl hF.out
 · skip
   obtain ⟨Ca0,Ca1,Fa0,Fa1⟩:=A3 Ba
   obtain ⟨Cb0,Cb1,Fb0,Fb1⟩:=A3 Bb
   obtain ⟨Cq0,Cq1,Fq0,Fq1⟩:=A3 Bq
   have HLE:=Lib.hid hle
   clear hle
   go_wp2_with fail
   generalize (((w.alloc (.cells #[.int .i64 ga,.slice sa la ca] 32)).alloc (.cells #[.int .i64 gb,.slice sb lb cb] 32)).alloc (.cells #[.int .i64 0,.slice none 0 0] 32))=w0 at *
   clear Ca0 Fa0 Ca1 Fa1 Cb0 Fb0 Cb1 Fb1 Cq0 Fq0 Cq1 Fq1
   refine (lR w0 _ _ x.natAbs y.natAbs ma' mb' Hla.out Hlb.out).mono ?_
   rintro e w1 ⟨rfl,gw1⟩
   rw [HCC.out]
   replace Ba:=A1 gw1 Ba
   replace Bb:=A1 gw1 Bb
   replace Bq:=A1 gw1 Bq
   replace ra:=ra.kept gw1
   replace ma':=ma'.kept gw1
   replace rb:=rb.kept gw1
   replace mb':=mb'.kept gw1
   replace hG:=A2 hG gw1
   clear gw1
   obtain ⟨Ca0,Ca1,Fa0,Fa1⟩:=A3 Ba
   obtain ⟨Cb0,Cb1,Fb0,Fb1⟩:=A3 Bb
   obtain ⟨Cq0,Cq1,Fq0,Fq1⟩:=A3 Bq
   go_wp2_with fail
   go_region_held3 (fun w'=>w'.cell? ⟨w.heap.size,0,none⟩=some (.int .i64 ga)/\w'.cell? ⟨w.heap.size,1,none⟩=some (.slice sa la ca)/\w'.cell? ⟨w.heap.size+1,0,none⟩=some (.int .i64 gb)/\w'.cell? ⟨w.heap.size+1,1,none⟩=some (.slice sb lb cb))
    (first | assumption | exact ⟨Ca0,Ca1,Cb0,Cb1⟩ | exact HSw2_20 | go_keep)
    (first
     | (go_at_call 138;(with_reducible refine (pF w1.drew _ _ x.natAbs y.natAbs (ma'.kept (C4 (B0 _ _))) (mb'.kept (C4 (B0 _ _))) HLE.out Hla.out).mono ?_);rintro e w2_1 ⟨vp,rfl,mp,gw2_1⟩;have hGw2_1:=H5 w1 gw2_1 rfl rfl rfl rfl;have hSw2_1:=(And.intro (hGw2_1.cell Ca0 (by simp)) (And.intro (hGw2_1.cell Ca1 (by simp)) (And.intro (hGw2_1.cell Cb0 (by simp)) (hGw2_1.cell Cb1 (by simp)))));clear gw2_1)
     | (go_at_call 80;(with_reducible refine (Q9 w2_1 _ ga (x.natAbs-y.natAbs) z mp hz.out.1 hz.out.2).mono ?_);rintro e w2_2 ⟨_,rfl,⟨gd,sd,ld,cd,rfl,hd,md⟩,gw2_2⟩;have hGw2_2:=A2 hGw2_1 gw2_2;replace mp:=mp.kept gw2_2;have rd:RIntV w2_2 (.agg #[.int .i64 gd,.slice sd ld cd]) (z):=⟨gd,sd,ld,cd,rfl,hd,md⟩;have hSw2_2:=(And.intro (hGw2_2.cell Ca0 (by simp)) (And.intro (hGw2_2.cell Ca1 (by simp)) (And.intro (hGw2_2.cell Cb0 (by simp)) (hGw2_2.cell Cb1 (by simp)))));clear gw2_2;clear md;(obtain ⟨dq0,dq1,dq2,dq3⟩:=A3 (A1 hGw2_2 Bq));have HSw2_20:=(And.intro ((A3 (B9 (A1 hGw2_2 Ba) (show w.heap.size≠w.heap.size+1+1 by omega) (.int .i64 gd) (.slice sd ld cd))).1) (And.intro ((A3 (B9 (A1 hGw2_2 Ba) (show w.heap.size≠w.heap.size+1+1 by omega) (.int .i64 gd) (.slice sd ld cd))).2.1) (And.intro ((A3 (B9 (A1 hGw2_2 Bb) (show w.heap.size+1≠w.heap.size+1+1 by omega) (.int .i64 gd) (.slice sd ld cd))).1) ((A3 (B9 (A1 hGw2_2 Bb) (show w.heap.size+1≠w.heap.size+1+1 by omega) (.int .i64 gd) (.slice sd ld cd))).2.1))))))
   replace Ba:=A1 hGw2_2 Ba
   replace Bb:=A1 hGw2_2 Bb
   replace Bq:=A1 hGw2_2 Bq
   replace ra:=ra.kept hGw2_2
   replace ma':=ma'.kept hGw2_2
   replace rb:=rb.kept hGw2_2
   replace mb':=mb'.kept hGw2_2
   replace hG:=A2 hG hGw2_2
   clear Ca0 Fa0 Ca1 Fa1 Cb0 Fb0 Cb1 Fb1 Cq0 Fq0 Cq1 Fq1
   obtain ⟨k90,k91,k92,k93⟩:=A3 Bq
   obtain ⟨q90,q91,q92,q93⟩:=A3 (D5 Bq (.int .i64 gd) (.slice sd ld cd))
   have hF:Hid (G7 w (z) (.returned (.agg #[.int .i64 gd,.slice sd ld cd])) ((w2_2.setCell ⟨w.heap.size+1+1,0,none⟩ (.int .i64 gd)).setCell ⟨w.heap.size+1+1,1,none⟩ (.slice sd ld cd))):=O8 hG Bq (by omega) rd
   clear ra ma' rb mb' mp rd
   go_wp2_with fail
   exact bodyPost_ret (v := .agg #[.int .i64 gd,.slice sd ld cd]) (by simp [results,Tryz.results90,go_sem,q90,q91]) rfl hF.out
 · skip
   obtain ⟨Ca0,Ca1,Fa0,Fa1⟩:=A3 Ba
   obtain ⟨Cb0,Cb1,Fb0,Fb1⟩:=A3 Bb
   obtain ⟨Cq0,Cq1,Fq0,Fq1⟩:=A3 Bq
   have HLE:=Lib.hid hle
   clear hle
   go_wp2_with fail
   generalize (((w.alloc (.cells #[.int .i64 ga,.slice sa la ca] 32)).alloc (.cells #[.int .i64 gb,.slice sb lb cb] 32)).alloc (.cells #[.int .i64 0,.slice none 0 0] 32))=w0 at *
   clear Ca0 Fa0 Ca1 Fa1 Cb0 Fb0 Cb1 Fb1 Cq0 Fq0 Cq1 Fq1
   refine (lR w0 _ _ x.natAbs y.natAbs ma' mb' Hla.out Hlb.out).mono ?_
   rintro e w1 ⟨rfl,gw1⟩
   rw [HCC.out]
   replace Ba:=A1 gw1 Ba
   replace Bb:=A1 gw1 Bb
   replace Bq:=A1 gw1 Bq
   replace ra:=ra.kept gw1
   replace ma':=ma'.kept gw1
   replace rb:=rb.kept gw1
   replace mb':=mb'.kept gw1
   replace hG:=A2 hG gw1
   clear gw1
   obtain ⟨Ca0,Ca1,Fa0,Fa1⟩:=A3 Ba
   obtain ⟨Cb0,Cb1,Fb0,Fb1⟩:=A3 Bb
   obtain ⟨Cq0,Cq1,Fq0,Fq1⟩:=A3 Bq
   go_wp2_with fail
   go_region_held3 (fun w'=>w'.cell? ⟨w.heap.size,0,none⟩=some (.int .i64 ga)/\w'.cell? ⟨w.heap.size,1,none⟩=some (.slice sa la ca)/\w'.cell? ⟨w.heap.size+1,0,none⟩=some (.int .i64 gb)/\w'.cell? ⟨w.heap.size+1,1,none⟩=some (.slice sb lb cb))
    (first | assumption | exact ⟨Ca0,Ca1,Cb0,Cb1⟩ | exact HSw2_20 | go_keep)
    (first
     | (go_at_call 138;(with_reducible refine (pF w1.drew _ _ y.natAbs x.natAbs (mb'.kept (C4 (B0 _ _))) (ma'.kept (C4 (B0 _ _))) HLE.out Hlb.out).mono ?_);rintro e w2_1 ⟨vp,rfl,mp,gw2_1⟩;have hGw2_1:=H5 w1 gw2_1 rfl rfl rfl rfl;have hSw2_1:=(And.intro (hGw2_1.cell Ca0 (by simp)) (And.intro (hGw2_1.cell Ca1 (by simp)) (And.intro (hGw2_1.cell Cb0 (by simp)) (hGw2_1.cell Cb1 (by simp)))));clear gw2_1)
     | (go_at_call 80;(with_reducible refine (Q9 w2_1 _ gb (y.natAbs-x.natAbs) z mp hz.out.1 hz.out.2).mono ?_);rintro e w2_2 ⟨_,rfl,⟨gd,sd,ld,cd,rfl,hd,md⟩,gw2_2⟩;have hGw2_2:=A2 hGw2_1 gw2_2;replace mp:=mp.kept gw2_2;have rd:RIntV w2_2 (.agg #[.int .i64 gd,.slice sd ld cd]) (z):=⟨gd,sd,ld,cd,rfl,hd,md⟩;have hSw2_2:=(And.intro (hGw2_2.cell Ca0 (by simp)) (And.intro (hGw2_2.cell Ca1 (by simp)) (And.intro (hGw2_2.cell Cb0 (by simp)) (hGw2_2.cell Cb1 (by simp)))));clear gw2_2;clear md;(obtain ⟨dq0,dq1,dq2,dq3⟩:=A3 (A1 hGw2_2 Bq));have HSw2_20:=(And.intro ((A3 (B9 (A1 hGw2_2 Ba) (show w.heap.size≠w.heap.size+1+1 by omega) (.int .i64 gd) (.slice sd ld cd))).1) (And.intro ((A3 (B9 (A1 hGw2_2 Ba) (show w.heap.size≠w.heap.size+1+1 by omega) (.int .i64 gd) (.slice sd ld cd))).2.1) (And.intro ((A3 (B9 (A1 hGw2_2 Bb) (show w.heap.size+1≠w.heap.size+1+1 by omega) (.int .i64 gd) (.slice sd ld cd))).1) ((A3 (B9 (A1 hGw2_2 Bb) (show w.heap.size+1≠w.heap.size+1+1 by omega) (.int .i64 gd) (.slice sd ld cd))).2.1))))))
   replace Ba:=A1 hGw2_2 Ba
   replace Bb:=A1 hGw2_2 Bb
   replace Bq:=A1 hGw2_2 Bq
   replace ra:=ra.kept hGw2_2
   replace ma':=ma'.kept hGw2_2
   replace rb:=rb.kept hGw2_2
   replace mb':=mb'.kept hGw2_2
   replace hG:=A2 hG hGw2_2
   clear Ca0 Fa0 Ca1 Fa1 Cb0 Fb0 Cb1 Fb1 Cq0 Fq0 Cq1 Fq1
   obtain ⟨k90,k91,k92,k93⟩:=A3 Bq
   obtain ⟨q90,q91,q92,q93⟩:=A3 (D5 Bq (.int .i64 gd) (.slice sd ld cd))
   have hF:Hid (G7 w (z) (.returned (.agg #[.int .i64 gd,.slice sd ld cd])) ((w2_2.setCell ⟨w.heap.size+1+1,0,none⟩ (.int .i64 gd)).setCell ⟨w.heap.size+1+1,1,none⟩ (.slice sd ld cd))):=O8 hG Bq (by omega) rd
   clear ra ma' rb mb' mp rd
   go_wp2_with fail
   exact bodyPost_ret (v := .agg #[.int .i64 gd,.slice sd ld cd]) (by simp [results,Tryz.results90,go_sem,q90,q91]) rfl hF.out
set_option maxHeartbeats 4000000 in
theorem P5 (w:World) (n:Int) (h1 : -9223372036854775808<=n) (h2:n<=9223372036854775807) :
 Calls Tryz.prog 36 #[.int .i64 n] w (G7 w n):=by
 by_cases hn:n<0
 · skip
   have f1:decide (n<0)=true:=decide_eq_true hn
   obtain ⟨m,hm⟩:∃ m:Nat,n = -(m:Int)-1:=⟨(-(n+1)).toNat,by omega⟩
   obtain ⟨k1,hk1⟩:∃ k,IntKind.i64.wrap (n+1)=k:=⟨_,rfl⟩
   obtain ⟨k2,hk2⟩:∃ k,IntKind.i64.wrap (-k1)=k:=⟨_,rfl⟩
   have hk3:IntKind.u64.wrap k2=(m:Int):=by rw [IntKind.wrap_i64] at hk1 hk2;rw [IntKind.wrap_u64];omega
   have HM:Hid (m<B):=by show m<B;unfold B;omega
   have HB1:Hid (m<D^1000000):=Lib.hid (lt_D1 HM.out)
   have HB2:Hid (1<D^1000000):=Lib.hid (lt_D1 (show 1<B by unfold B;omega))
   have HN:Hid (n.natAbs=m+1):=by show _=_;omega
   have HSG:Hid (n.sign = -1):=Int.sign_eq_neg_one_of_neg hn
   clear hm h1 h2 hn
   have hG:w.grownBy (w.alloc (.cells #[.int .i64 0,.slice none 0 0] 32)) none:=(World.grownBy_alloc _ _ _)
   have Bq:=(A8 w (.cells #[.int .i64 0,.slice none 0 0] 32) (w.heap.size) rfl)
   go_enter Tryz.func36,Tryz.ntmps36
   obtain ⟨Cq0,Cq1,Fq0,Fq1⟩:=A3 Bq
   go_wp2_with fail
   generalize (w.alloc (.cells #[.int .i64 0,.slice none 0 0] 32))=w0 at *
   clear Cq0 Fq0 Cq1 Fq1
   refine (rH w0 m HM.out).mono ?_
   rintro e w1 ⟨vp,rfl,mp,gw1⟩
   replace Bq:=A1 gw1 Bq
   replace hG:=A2 hG gw1
   clear gw1
   obtain ⟨Cq0,Cq1,Fq0,Fq1⟩:=A3 Bq
   go_wp2_with fail
   clear Cq0 Fq0 Cq1 Fq1
   refine (rof_1 w1).mono ?_
   rintro e w2 ⟨vo,rfl,mo,gw2⟩
   replace Bq:=A1 gw2 Bq
   replace mp:=mp.kept gw2
   replace hG:=A2 hG gw2
   clear gw2
   obtain ⟨Cq0,Cq1,Fq0,Fq1⟩:=A3 Bq
   go_wp2_with fail
   clear Cq0 Fq0 Cq1 Fq1
   refine (rAdd_any w2 _ _ m 1 mp mo HB1.out HB2.out).mono ?_
   rintro e w3 ⟨vs,rfl,ms,gw3⟩
   replace Bq:=A1 gw3 Bq
   replace mp:=mp.kept gw3
   replace mo:=mo.kept gw3
   replace hG:=A2 hG gw3
   clear gw3
   obtain ⟨Cq0,Cq1,Fq0,Fq1⟩:=A3 Bq
   go_wp2_with fail
   clear Cq0 Fq0 Cq1 Fq1
   refine (Q9 w3 _ (-1) (m+1) n ms HN.out (Or.inr HSG.out)).mono ?_
   rintro e w4 ⟨_,rfl,⟨gd,sd,ld,cd,rfl,hd,md⟩,gw4⟩
   have rd:RIntV w4 (.agg #[.int .i64 gd,.slice sd ld cd]) (n):=⟨gd,sd,ld,cd,rfl,hd,md⟩
   replace Bq:=A1 gw4 Bq
   replace mp:=mp.kept gw4
   replace mo:=mo.kept gw4
   replace ms:=ms.kept gw4
   replace hG:=A2 hG gw4
   clear gw4
   clear md
   obtain ⟨Cq0,Cq1,Fq0,Fq1⟩:=A3 Bq
   clear Cq0 Fq0 Cq1 Fq1
   obtain ⟨k90,k91,k92,k93⟩:=A3 Bq
   obtain ⟨q90,q91,q92,q93⟩:=A3 (D5 Bq (.int .i64 gd) (.slice sd ld cd))
   have hF:Hid (G7 w (n) (.returned (.agg #[.int .i64 gd,.slice sd ld cd])) ((w4.setCell ⟨w.heap.size,0,none⟩ (.int .i64 gd)).setCell ⟨w.heap.size,1,none⟩ (.slice sd ld cd))):=O8 hG Bq (by omega) rd
   clear mp mo ms rd
   go_wp2_with fail
   exact bodyPost_ret (v := .agg #[.int .i64 gd,.slice sd ld cd]) (by simp [results,Tryz.results36,go_sem,q90,q91]) rfl hF.out
 · skip
   have f1:decide (n<0)=false:=decide_eq_false hn
   obtain ⟨m,hm⟩:∃ m:Nat,n=(m:Int):=⟨n.toNat,by omega⟩
   have hk3:IntKind.u64.wrap n=(m:Int):=by rw [IntKind.wrap_u64];omega
   have HM:Hid (m<B):=by show m<B;unfold B;omega
   have HN:Hid (n.natAbs=m):=by show _=_;omega
   have HSG:Hid (m=0\/n.sign=1):=by
    show _\/_
    rcases S5 n with ⟨h,e⟩ | ⟨h,e⟩ | ⟨h,e⟩
    · omega
    · left;omega
    · right;exact e
   clear hm h1 h2 hn
   have hG:w.grownBy (w.alloc (.cells #[.int .i64 0,.slice none 0 0] 32)) none:=(World.grownBy_alloc _ _ _)
   have Bq:=(A8 w (.cells #[.int .i64 0,.slice none 0 0] 32) (w.heap.size) rfl)
   go_enter Tryz.func36,Tryz.ntmps36
   obtain ⟨Cq0,Cq1,Fq0,Fq1⟩:=A3 Bq
   go_wp2_with fail
   generalize (w.alloc (.cells #[.int .i64 0,.slice none 0 0] 32))=w0 at *
   clear Cq0 Fq0 Cq1 Fq1
   refine (rH w0 m HM.out).mono ?_
   rintro e w1 ⟨vp,rfl,mp,gw1⟩
   replace Bq:=A1 gw1 Bq
   replace hG:=A2 hG gw1
   clear gw1
   obtain ⟨Cq0,Cq1,Fq0,Fq1⟩:=A3 Bq
   go_wp2_with fail
   clear Cq0 Fq0 Cq1 Fq1
   refine (Q9 w1 _ 1 m n mp HN.out HSG.out).mono ?_
   rintro e w2 ⟨_,rfl,⟨gd,sd,ld,cd,rfl,hd,md⟩,gw2⟩
   have rd:RIntV w2 (.agg #[.int .i64 gd,.slice sd ld cd]) (n):=⟨gd,sd,ld,cd,rfl,hd,md⟩
   replace Bq:=A1 gw2 Bq
   replace mp:=mp.kept gw2
   replace hG:=A2 hG gw2
   clear gw2
   clear md
   obtain ⟨Cq0,Cq1,Fq0,Fq1⟩:=A3 Bq
   clear Cq0 Fq0 Cq1 Fq1
   obtain ⟨k90,k91,k92,k93⟩:=A3 Bq
   obtain ⟨q90,q91,q92,q93⟩:=A3 (D5 Bq (.int .i64 gd) (.slice sd ld cd))
   have hF:Hid (G7 w (n) (.returned (.agg #[.int .i64 gd,.slice sd ld cd])) ((w2.setCell ⟨w.heap.size,0,none⟩ (.int .i64 gd)).setCell ⟨w.heap.size,1,none⟩ (.slice sd ld cd))):=O8 hG Bq (by omega) rd
   clear mp rd
   go_wp2_with fail
   exact bodyPost_ret (v := .agg #[.int .i64 gd,.slice sd ld cd]) (by simp [results,Tryz.results36,go_sem,q90,q91]) rfl hF.out
end Go.Proofs.YtamdnbbgpacfkaaGreatDoor
namespace Go.Proofs.YtamdnbbgpacfkaaGreatDoor
open Go.ChangeShapes Go.WideShapes Go.ChangeAt Go.RowKit Go.ChangeMaps Mat
theorem law_own:ownKnob Tryz.prog.godebug=none:=by kernel_rfl
theorem oU {W W':World} (h:W.grownBy W' none):W.keptBut W' (fun _=>False):=by
 refine ⟨h.os,h.output,fun i hi=>?_⟩
 rw [h.block i hi (by simp)]
 cases W.heap[i]? with
 | none=>rfl
 | some o=>cases o<;>simp
end Go.Proofs.YtamdnbbgpacfkaaGreatDoor
namespace Go.Proofs.YtamdnbbgpacfkaaGreatDoor
open Go.RowKit Mat Ex PM
def Bn (K:Nat) (r:Rat):Prop:=r.num.natAbs<B^K/\r.den<B^K
theorem bwd {a K M:Nat} (h:a<B^K) (hK:K<=M):a<B^M:=Nat.lt_of_lt_of_le h (Nat.pow_le_pow_right F5 hK)
theorem Bn.mono {K M:Nat} {r:Rat} (h:Bn K r) (hK:K<=M):Bn M r:=⟨bwd h.1 hK,bwd h.2 hK⟩
theorem Bn.neg {K:Nat} {r:Rat} (h:Bn K r):Bn K (-r):=⟨by rw [Rat.neg_num,Int.natAbs_neg];exact h.1,by rw [Rat.neg_den];exact h.2⟩
theorem Bn.add {K:Nat} {r t:Rat} (h:Bn K r) (h':Bn K t):Bn (K+K+1) (r+t):=by
 constructor
 · rw [Rat.num_add]
   exact Nat.lt_of_le_of_lt (Int.natAbs_ediv_le_natAbs _ _) (fadd_bd (R6 h.1 (ldi h'.2)) (R6 h'.1 (ldi h.2)))
 · rw [Rat.den_add]
   refine Nat.lt_of_le_of_lt (Nat.div_le_self _ _) (bwd (K:=K+K) ?_ (by omega))
   rw [Nat.pow_add];exact Nat.mul_lt_mul'' h.2 h'.2
theorem Bn.sub {K:Nat} {r t:Rat} (h:Bn K r) (h':Bn K t):Bn (K+K+1) (r-t):=by rw [Rat.sub_eq_add_neg];exact h.add h'.neg
theorem Bn.mul {K:Nat} {r t:Rat} (h:Bn K r) (h':Bn K t):Bn (K+K) (r*t):=by
 constructor
 · rw [lJ,Int.natAbs_mul,Nat.pow_add]
   exact Nat.mul_lt_mul'' (Nat.lt_of_le_of_lt (Int.natAbs_ediv_le_natAbs _ _) h.1) (Nat.lt_of_le_of_lt (Int.natAbs_ediv_le_natAbs _ _) h'.1)
 · rw [lK,Nat.pow_add]
   exact Nat.mul_lt_mul'' (Nat.lt_of_le_of_lt (Nat.div_le_self _ _) h.2) (Nat.lt_of_le_of_lt (Nat.div_le_self _ _) h'.2)
theorem Bn.zero {K:Nat} (hK : 1<=K):Bn K (0:Rat):=⟨Nat.pow_pos F5,Nat.one_lt_pow (by omega) (by unfold B;omega)⟩
def Bp (K:Nat) (p:Pq):Prop:=Bn K p.1/\Bn K p.2
theorem Bp.mono {K M:Nat} {p:Pq} (h:Bp K p) (hK:K<=M):Bp M p:=⟨h.1.mono hK,h.2.mono hK⟩
theorem Bp.cross {K:Nat} {a b c:Pq} (ha:Bp K a) (hb:Bp K b) (hc:Bp K c):Bn (8*K+5) (A4 a b c):=by
 unfold A4
 exact (((hb.1.sub ha.1).mul (hc.2.sub ha.2)).sub ((hb.2.sub ha.2).mul (hc.1.sub ha.1))).mono (by omega)
def PtV (w:World) (v:Value) (p:Pq):Prop:=∃ a b c d e f g h:Value,v = .agg #[a,b,c,d,e,f,g,h]/\RatV w (.agg #[a,b,c,d]) p.1/\RatV w (.agg #[e,f,g,h]) p.2
theorem PtV.kept {w w':World} {v:Value} {p:Pq} (h:PtV w v p) (hg:w.grownBy w' none):PtV w' v p:=by
 obtain ⟨a,b,c,d,e,f,g,i,e1,h1,h2⟩:=h
 exact ⟨a,b,c,d,e,f,g,i,e1,h1.kept hg,h2.kept hg⟩
theorem PtV.keeps {W W':World} {v:Value} {p:Pq} (h:PtV W v p) (k:Keeps J1 W W'):PtV W' v p:=by
 obtain ⟨a,b,c,d,e,f,g,i,e1,h1,h2⟩:=h
 exact ⟨a,b,c,d,e,f,g,i,e1,h1.keeps k,h2.keeps k⟩
theorem RatV.one {w:World} {a b c d:Value} {r:Rat} (h:RatV w (.agg #[a,b,c,d]) r):a.oneCell'=true/\b.oneCell'=true/\c.oneCell'=true/\d.oneCell'=true:=by
 obtain ⟨s,xs,f,s',xs',f',e,_⟩:=h
 cases e;exact ⟨rfl,rfl,rfl,rfl⟩
theorem PtV.one {w:World} {a b c d e f g h:Value} {p:Pq} (hp:PtV w (.agg #[a,b,c,d,e,f,g,h]) p):∀ x ∈ [a,b,c,d,e,f,g,h],x.oneCell'=true:=by
 obtain ⟨a',b',c',d',e',f',g',h',q,h1,h2⟩:=hp
 cases q
 obtain ⟨i1,i2,i3,i4⟩:=h1.one
 obtain ⟨i5,i6,i7,i8⟩:=h2.one
 simp [i1,i2,i3,i4,i5,i6,i7,i8]
def sPt (p:Pq):Sp := .of (.agg 8) (fun v W=>PtV W v p) (fun v W h=>by
 have h0:=h
 obtain ⟨a,b,c,d,e,f,g,i,rfl,h1,h2⟩:=h
 exact ⟨E8 [a,b,c,d,e,f,g,i],B8 h0.one,rfl⟩) (fun v W W' k h=>h.keeps k)
theorem pt1 {W:World} {a b c d e f g h:Value} {p:Pq} : PtV W (.agg #[a,b,c,d,e,f,g,h]) p->RatV W (.agg #[a,b,c,d]) p.1:=by
 rintro ⟨a',b',c',d',e',f',g',h',q,h1,h2⟩;cases q;exact h1
theorem pt2 {W:World} {a b c d e f g h:Value} {p:Pq} : PtV W (.agg #[a,b,c,d,e,f,g,h]) p->RatV W (.agg #[e,f,g,h]) p.2:=by
 rintro ⟨a',b',c',d',e',f',g',h',q,h1,h2⟩;cases q;exact h2
theorem mkpt {W:World} {a b c d e f g h:Value} {p:Pq} (h1:RatV W (.agg #[a,b,c,d]) p.1) (h2:RatV W (.agg #[e,f,g,h]) p.2):PtV W (.agg #[a,b,c,d,e,f,g,h]) p:=⟨a,b,c,d,e,f,g,h,rfl,h1,h2⟩
def RetPt (w:World) (p:Pq) (e:Ending) (w':World):Prop:=∃ v,e = .returned v/\PtV w' v p/\w.grownBy w' none
theorem PtV.nil (w:World):PtV w (.agg #[.slice none 0 0,.bool false,.slice none 0 0,.bool false,.slice none 0 0,.bool false,.slice none 0 0,.bool false]) (0,0):=mkpt (RatV.zero w) (RatV.zero w)
def SgV (w:World) (v:Value) (p q:Pq):Prop:=∃ a b c d e f g h a' b' c' d' e' f' g' h':Value,v = .agg #[a,b,c,d,e,f,g,h,a',b',c',d',e',f',g',h']/\PtV w (.agg #[a,b,c,d,e,f,g,h]) p/\PtV w (.agg #[a',b',c',d',e',f',g',h']) q
theorem SgV.keeps {W W':World} {v:Value} {p q:Pq} (h:SgV W v p q) (k:Keeps J1 W W'):SgV W' v p q:=by
 obtain ⟨a,b,c,d,e,f,g,i,a',b',c',d',e',f',g',i',e1,h1,h2⟩:=h
 exact ⟨a,b,c,d,e,f,g,i,a',b',c',d',e',f',g',i',e1,h1.keeps k,h2.keeps k⟩
theorem SgV.kept {w w':World} {v:Value} {p q:Pq} (h:SgV w v p q) (hg:w.grownBy w' none):SgV w' v p q:=by
 obtain ⟨a,b,c,d,e,f,g,i,a',b',c',d',e',f',g',i',e1,h1,h2⟩:=h
 exact ⟨a,b,c,d,e,f,g,i,a',b',c',d',e',f',g',i',e1,h1.kept hg,h2.kept hg⟩
def sSg (p q:Pq):Sp := .of (.agg 16) (fun v W=>SgV W v p q) (fun v W h=>by
 obtain ⟨a,b,c,d,e,f,g,i,a',b',c',d',e',f',g',i',rfl,h1,h2⟩:=h
 refine ⟨E8 [a,b,c,d,e,f,g,i,a',b',c',d',e',f',g',i'],B8 (fun x hx=>?_),rfl⟩
 rcases List.mem_append.1 (show x ∈ [a,b,c,d,e,f,g,i]++[a',b',c',d',e',f',g',i'] from hx) with hx | hx
 · exact h1.one x hx
 · exact h2.one x hx) (fun v W W' k h=>h.keeps k)
theorem sg1 {W:World} {a b c d e f g h a' b' c' d' e' f' g' h':Value} {p q:Pq} : SgV W (.agg #[a,b,c,d,e,f,g,h,a',b',c',d',e',f',g',h']) p q->PtV W (.agg #[a,b,c,d,e,f,g,h]) p:=by
 rintro ⟨_,_,_,_,_,_,_,_,_,_,_,_,_,_,_,_,e,h1,h2⟩;cases e;exact h1
theorem sg2 {W:World} {a b c d e f g h a' b' c' d' e' f' g' h':Value} {p q:Pq} : SgV W (.agg #[a,b,c,d,e,f,g,h,a',b',c',d',e',f',g',h']) p q->PtV W (.agg #[a',b',c',d',e',f',g',h']) q:=by
 rintro ⟨_,_,_,_,_,_,_,_,_,_,_,_,_,_,_,_,e,h1,h2⟩;cases e;exact h2
theorem mksg {W:World} {a b c d e f g h a' b' c' d' e' f' g' h':Value} {p q:Pq} (h1:PtV W (.agg #[a,b,c,d,e,f,g,h]) p) (h2:PtV W (.agg #[a',b',c',d',e',f',g',h']) q):SgV W (.agg #[a,b,c,d,e,f,g,h,a',b',c',d',e',f',g',h']) p q:=
 ⟨_,_,_,_,_,_,_,_,_,_,_,_,_,_,_,_,rfl,h1,h2⟩
def sPP (p q:Pq):Sp := .of (.tup [(none,9),(none,9)]) (fun v W=>∃ u t,v = .tuple #[u,t]/\PtV W u p/\PtV W t q) (fun v W h=>by
 obtain ⟨u,t,rfl,h1,h2⟩:=h
 have i1:=h1;have i2:=h2
 obtain ⟨a,b,c,d,e,f,g,i,rfl,_⟩:=h1
 obtain ⟨a',b',c',d',e',f',g',i',rfl,_⟩:=h2
 refine V8 (u := .bool true) (cs:=[a,b,c,d,e,f,g,i,a',b',c',d',e',f',g',i']) (fun x hx=>?_) rfl
 rcases List.mem_append.1 (show x ∈ [a,b,c,d,e,f,g,i]++[a',b',c',d',e',f',g',i'] from hx) with hx | hx
 · exact i1.one x hx
 · exact i2.one x hx) (fun v W W' k h=>by obtain ⟨u,t,e,h,h'⟩:=h;exact ⟨u,t,e,h.keeps k,h'.keeps k⟩)
theorem pp1 {p q:Pq} {a b:Value} {W:World} : (sPP p q).F (.tuple #[a,b]) W->PtV W a p:=by rintro ⟨u,t,e,h,_⟩;cases e;exact h
theorem pp2 {p q:Pq} {a b:Value} {W:World} : (sPP p q).F (.tuple #[a,b]) W->PtV W b q:=by rintro ⟨u,t,e,_,h⟩;cases e;exact h
def RetPP (w:World) (p q:Pq) (e:Ending) (w':World):Prop:=∃ v u,e = .returned (.tuple #[v,u])/\PtV w' v p/\PtV w' u q/\w.grownBy w' none
section
variable {P:Program} {f:FuncId} {args:Array Value} {W:World}
theorem toPP {p q:Pq} (h:Calls P f args W (RetPP W p q)):Calls P f args W (Ret W (sPP p q).F):=h.mono fun _ _ ⟨v,u,a,h,h',g⟩=>⟨_,a,⟨v,u,rfl,h,h'⟩,g⟩
end
def PAt (w:World) (cs:Array Value) (o:Nat) (p:Pq):Prop:=∃ a b c d e f g h:Value,cs[o]?=some a/\cs[o+1]?=some b/\cs[o+2]?=some c/\cs[o+3]?=some d/\cs[o+4]?=some e/\cs[o+5]?=some f/\cs[o+6]?=some g/\cs[o+7]?=some h/\PtV w (.agg #[a,b,c,d,e,f,g,h]) p
def PtsV (w:World) (v:Value) (l:List Pq):Prop:=∃ s n c,v = .slice s n c/\l.length=n/\n<=c/\(l=[] \/ ∃ b off cs,s=some ⟨b,off,none⟩/\w.heap[b]?=some (.cells cs 50 (0,0)) /\ ∀ i (h:i<l.length),PAt w cs (off+8*i) l[i])
def fpS (v:Value) (q:Nat):Prop:=∃ off n c,v = .slice (some ⟨q,off,none⟩) (n+1) c
def fpP (v:Value) (q:Nat):Prop:=∃ off,v = .pointer (some ⟨q,off,none⟩)
theorem PAt.keeps {W W':World} {cs:Array Value} {o:Nat} {p:Pq} (h:PAt W cs o p) (k:Keeps J1 W W'):PAt W' cs o p:=by
 obtain ⟨a,b,c,d,e,f,g,i,h1,h2,h3,h4,h5,h6,h7,h8,h9⟩:=h
 exact ⟨a,b,c,d,e,f,g,i,h1,h2,h3,h4,h5,h6,h7,h8,h9.keeps k⟩
theorem PtsV.keeps {W W':World} {v:Value} {l:List Pq} (h:PtsV W v l) (k:Keeps J1 W W') (hq:∀ q,fpS v q->W'.heap[q]?=W.heap[q]?):PtsV W' v l:=by
 obtain ⟨s,n,c,rfl,hl,hn,h⟩:=h
 refine ⟨s,n,c,rfl,hl,hn, ?_⟩
 by_cases h0:l=[]
 · exact .inl h0
 · obtain ⟨b,off,cs,rfl,hb,hc⟩:=h.resolve_left h0
   obtain ⟨m,rfl⟩:∃ m,n=m+1:=⟨n-1,by have:=List.length_pos_iff.2 h0;omega⟩
   exact .inr ⟨b,off,cs,rfl,by rw [hq b ⟨off,m,c,rfl⟩];exact hb,fun i hi=>(hc i hi).keeps k⟩
theorem PtsV.inb {W:World} {v:Value} {l:List Pq} (h:PtsV W v l) (q:Nat) (hq:fpS v q):q<W.heap.size:=by
 obtain ⟨s,n,c,rfl,hl,hn,h⟩:=h
 obtain ⟨off,m,c',e⟩:=hq
 cases e
 rcases h with h | ⟨b,off',cs,e,hb,_⟩
 · rw [h] at hl;simp at hl
 · cases e;exact (Array.getElem?_eq_some_iff.1 hb).1
def sPts (s0:Nat) (l:List Pq):Sp where
 sh := .one
 F v W:=PtsV W v l /\ ∀ q,fpS v q->s0<=q
 fits v W h:=by obtain ⟨⟨s,n,c,rfl,_⟩,_⟩:=h;exact ⟨fun _ => .slice s n c,fun _=>rfl,rfl⟩
 row:=true
 fp v _ q:=fpS v q
 lasts v W W' k hq h:=⟨⟨h.1.keeps k hq,h.2⟩,fun _ h=>h⟩
 inb v W h q hq:=h.1.inb q hq
 flat h:=by cases h
def RetPts (w:World) (l:List Pq) (e:Ending) (w':World):Prop:=∃ v,e = .returned v/\PtsV w' v l/\w.grownBy w' none /\ ∀ q,fpS v q->w.heap.size<=q
theorem toPts {P:Program} {f:FuncId} {args:Array Value} {W:World} {l:List Pq} {old:Nat->Prop} {s0:Nat} (hs:s0<=W.heap.size) (h:Calls P f args W (RetPts W l)):Calls P f args W (RetS W (sPts s0 l) old):=
 h.mono fun _ _ ⟨v,a,h,g,hq⟩=>⟨v,a,⟨h,fun q hf=>Nat.le_trans hs (hq q hf)⟩,g,fun q hf => .inl (hq q hf)⟩
section
variable {P:Program} {ρ : Operand->Value} {o:Oper} {W:World}
end
theorem G6 {P:Program} {ρ : Operand->Value} {o:Oper} {t t':TypeId} {x y:Operand} {a:Int} {W:World} (b:Bool) (ho:o.op = .binOp .gtr t x y t') (hx : ρ x = .int .i64 a) (hy : ρ y = .int .i64 0) (h:decide (0<a)=b):(execOp ρ o).run P W = .ok (.value (.bool b)) W:=
 C5 ho hx hy (by rw [<- h];rfl)
theorem P8 {P:Program} {ρ : Operand->Value} {o:Oper} {t t':TypeId} {x y:Operand} {a:Int} {W:World} (b:Bool) (ho:o.op = .binOp .lss t x y t') (hx : ρ x = .int .i64 a) (hy : ρ y = .int .i64 0) (h:decide (a<0)=b):(execOp ρ o).run P W = .ok (.value (.bool b)) W:=
 C5 ho hx hy (by rw [<- h];rfl)
theorem L5 {P:Program} {ρ : Operand->Value} {o:Oper} {t t':TypeId} {x y:Operand} {a:Int} {W:World} (b:Bool) (ho:o.op = .binOp .leq t x y t') (hx : ρ x = .int .i64 a) (hy : ρ y = .int .i64 0) (h:decide (a<=0)=b):(execOp ρ o).run P W = .ok (.value (.bool b)) W:=
 C5 ho hx hy (by rw [<- h];rfl)
theorem D7 {P:Program} {ρ : Operand->Value} {o:Oper} {t t':TypeId} {x y:Operand} {a c:Int} {W:World} (b:Bool) (ho:o.op = .binOp .eql t x y t') (hx : ρ x = .int .i64 a) (hy : ρ y = .int .i64 c) (h:decide (a=c)=b):(execOp ρ o).run P W = .ok (.value (.bool b)) W:=
 C5 ho hx hy (by rw [<- h,show decide (a=c)=(a == c) from (Bool.beq_eq_decide_eq a c).symm];rfl)
theorem N0 {P:Program} {ρ : Operand->Value} {o:Oper} {t t':TypeId} {x y:Operand} {a c:Int} {W:World} (b:Bool) (ho:o.op = .binOp .neq t x y t') (hx : ρ x = .int .i64 a) (hy : ρ y = .int .i64 c) (h:decide (a=c) = !b):(execOp ρ o).run P W = .ok (.value (.bool b)) W:=
 C5 ho hx hy (by rw [show b = !decide (a=c) by rw [h,Bool.not_not],show decide (a=c)=(a == c) from (Bool.beq_eq_decide_eq a c).symm];rfl)
theorem jK {n:Int} (h1 : -9223372036854775808<=n) (h2:n<=9223372036854775807):n.natAbs<B^1:=by
 have:(18446744073709551616:Nat)=B^1:=by unfold B;decide
 omega
def sPI (x y:Int):Sp := .of (.agg 2) (fun v _=>v = .agg #[.int .i64 x,.int .i64 y]) (fun v W h=>⟨E8 [.int .i64 x,.int .i64 y],B8 (by simp [Value.oneCell']),h⟩) (fun _ _ _ _ h=>h)
theorem pi1 {x y:Int} {a b:Value} {W:World} : (sPI x y).F (.agg #[a,b]) W->a = .int .i64 x:=fun h=>by cases h;rfl
theorem pi2 {x y:Int} {a b:Value} {W:World} : (sPI x y).F (.agg #[a,b]) W->b = .int .i64 y:=fun h=>by cases h;rfl
def J4 (x y:Int):Pq:=((x:Rat),(y:Rat))
theorem oC (w:World) (n:Int) (h1 : -9223372036854775808<=n) (h2:n<=9223372036854775807) :
 Calls Tryz.prog 87 #[.int .i64 n] w (X4 w (n:Rat)):=by
 refine A6 B6 Tryz.func87 [sZ n] [sI n,sQ (n:Rat)] (.cons rfl .nil) (rs:=[cl 1 69 [on 0],cl 2 136 [ag 2 1]]) (out:=ag 4 2) (nc:=3) (by kernel_rfl)
  ⟨fun σ W g h hb=>kE (h 0 rfl) (cZ W n h1 h2),
  fun σ W g h hb=>tA W _ n 1 (h 1 rfl) (by omega) (jK h1 h2),
  trivial⟩ fun τ W g h=>⟨_,rfl,h 2 rfl,g⟩
theorem T8 (w:World) (x y:Int) (h1 : -9223372036854775808<=x) (h2:x<=9223372036854775807) (h3 : -9223372036854775808<=y) (h4:y<=9223372036854775807) :
 Calls Tryz.prog 41 #[.agg #[.int .i64 x,.int .i64 y]] w (RetPt w (J4 x y)):=by
 refine A6 B6 Tryz.func41 [sPI x y] [sQ (x:Rat),sQ (y:Rat)] (.cons rfl .nil) (rs:=[cl 1 87 [on 0],cl 2 87 [.v false [.an 0 1]]]) (out := .v true [.an 1 0,.an 1 1,.an 1 2,.an 1 3,.an 2 0,.an 2 1,.an 2 2,.an 2 3]) (nc:=3) (by kernel_rfl)
  ⟨fun σ W g h hb=>kE (pi1 (h 0 rfl)) (oC W x h1 h2),
  fun σ W g h hb=>kE (pi2 (h 0 rfl)) (oC W y h3 h4),
  trivial⟩ fun τ W g h=>⟨_,rfl,mkpt (h 1 rfl) (h 2 rfl),g⟩
theorem oD (w:World) (va vb:Value) (p q:Pq) (K:Nat) (Ha:PtV w va p) (Hb:PtV w vb q) (hK:K<=100000) (ba:Bp K p) (bb:Bp K q) (hTab:Tab w) :
 Calls Tryz.prog 122 #[va,vb] w (RetPt w (p.1-q.1,p.2-q.2)):=by
 refine A6 B6 Tryz.func122 [sPt p,sPt q] [sQ (p.1-q.1),sQ (p.2-q.2)] (.cons Ha (.cons Hb .nil)) (rs:=[cl 2 31 [ag 4 0,ag 4 1],cl 3 31 [.v true [.an 0 4,.an 0 5,.an 0 6,.an 0 7],.v true [.an 1 4,.an 1 5,.an 1 6,.an 1 7]]]) (out := .v true [.an 2 0,.an 2 1,.an 2 2,.an 2 3,.an 3 0,.an 3 1,.an 3 2,.an 3 3]) (nc:=4) (by kernel_rfl)
  ⟨fun σ W g h hb=>oI W _ _ p.1 q.1 K (pt1 (h 0 rfl)) (pt1 (h 1 rfl)) (by omega) ba.1.1 ba.1.2 bb.1.1 bb.1.2 (hTab.kept g (by simp)),
  fun σ W g h hb=>oI W _ _ p.2 q.2 K (pt2 (h 0 rfl)) (pt2 (h 1 rfl)) (by omega) ba.2.1 ba.2.2 bb.2.1 bb.2.2 (hTab.kept g (by simp)),
  trivial⟩ fun τ W g h=>⟨_,rfl,mkpt (h 2 rfl) (h 3 rfl),g⟩
theorem Bp.nil {K:Nat} (hK : 1<=K):Bp K ((0:Rat),(0:Rat)):=⟨.zero hK,.zero hK⟩
theorem PXross_any (w:World) (va vb:Value) (p q:Pq) (K:Nat) (Ha:PtV w va p) (Hb:PtV w vb q) (hK:K<=100000) (ba:Bp K p) (bb:Bp K q) (hTab:Tab w) :
 Calls Tryz.prog 173 #[va,vb] w (X4 w (p.1*q.2-p.2*q.1)):=by
 refine A6 B6 Tryz.func173 [sPt p,sPt q] [sQ (p.1*q.2),sQ (p.2*q.1),sQ (p.1*q.2-p.2*q.1)] (.cons Ha (.cons Hb .nil)) (rs:=[cl 2 32 [ag 4 0,.v true [.an 1 4,.an 1 5,.an 1 6,.an 1 7]],cl 3 32 [.v true [.an 0 4,.an 0 5,.an 0 6,.an 0 7],ag 4 1],cl 4 31 [ag 4 2,ag 4 3]]) (out:=ag 4 4) (nc:=5) (by kernel_rfl)
  ⟨fun σ W g h hb=>fU W _ _ (p.1) (q.2) K (pt1 (h 0 rfl)) (pt2 (h 1 rfl)) (by omega) ba.1.1 ba.1.2 bb.2.1 bb.2.2 (hTab.kept g (by simp)),
  fun σ W g h hb=>fU W _ _ (p.2) (q.1) K (pt2 (h 0 rfl)) (pt1 (h 1 rfl)) (by omega) ba.2.1 ba.2.2 bb.1.1 bb.1.2 (hTab.kept g (by simp)),
  fun σ W g h hb=>oI W _ _ (p.1*q.2) (p.2*q.1) (K+K) (h 2 rfl) (h 3 rfl) (by omega) (ba.1.mul bb.2).1 (ba.1.mul bb.2).2 (ba.2.mul bb.1).1 (ba.2.mul bb.1).2 (hTab.kept g (by simp)),
  trivial⟩ fun τ W g h=>⟨_,rfl,h 4 rfl,g⟩
theorem Bp.sub {K:Nat} {p q:Pq} (h:Bp K p) (h':Bp K q):Bp (K+K+1) (p.1-q.1,p.2-q.2):=⟨h.1.sub h'.1,h.2.sub h'.2⟩
theorem PCross_any (w:World) (va vb vc:Value) (a b c:Pq) (K:Nat) (Ha:PtV w va a) (Hb:PtV w vb b) (Hc:PtV w vc c) (hK:K<=10000) (ba:Bp K a) (bb:Bp K b) (bc:Bp K c) (hTab:Tab w) :
 Calls Tryz.prog 117 #[va,vb,vc] w (X4 w (A4 a b c)):=by
 refine A6 B6 Tryz.func117 [sPt a,sPt b,sPt c] [sPt (b.1-a.1,b.2-a.2),sPt (c.1-a.1,c.2-a.2),sQ (A4 a b c)] (.cons Ha (.cons Hb (.cons Hc .nil))) (rs:=[cl 3 122 [ag 8 1,ag 8 0],cl 4 122 [ag 8 2,ag 8 0],cl 5 173 [ag 8 3,ag 8 4]]) (out:=ag 4 5) (nc:=6) (by kernel_rfl)
  ⟨fun σ W g h hb=>oD W _ _ b a K (h 1 rfl) (h 0 rfl) (by omega) bb ba (hTab.kept g (by simp)),
  fun σ W g h hb=>oD W _ _ c a K (h 2 rfl) (h 0 rfl) (by omega) bc ba (hTab.kept g (by simp)),
  fun σ W g h hb=>PXross_any W _ _ _ _ (K+K+1) (h 3 rfl) (h 4 rfl) (by omega) (bb.sub ba) (bc.sub ba) (hTab.kept g (by simp)),
  trivial⟩ fun τ W g h=>⟨_,rfl,h 5 rfl,g⟩
theorem dA (w:World) (va vb vc:Value) (a b c:Pq) (K:Nat) (Ha:PtV w va a) (Hb:PtV w vb b) (Hc:PtV w vc c) (hK:K<=10000) (ba:Bp K a) (bb:Bp K b) (bc:Bp K c) (hTab:Tab w) :
 Calls Tryz.prog 79 #[va,vb,vc] w (fun e w'=>e = .returned (.int .i64 (rsg (A4 a b c)))/\w.grownBy w' none):=by
 refine A6 B6 Tryz.func79 [sPt a,sPt b,sPt c] [sQ (A4 a b c),sZ (rsg (A4 a b c))] (.cons Ha (.cons Hb (.cons Hc .nil))) (rs:=[cl 3 117 [ag 8 0,ag 8 1,ag 8 2],cl 4 65 [ag 4 3]]) (out:=on 4) (nc:=5) (by kernel_rfl)
  ⟨fun σ W g h hb=>PCross_any W _ _ _ a b c K (h 0 rfl) (h 1 rfl) (h 2 rfl) hK ba bb bc (hTab.kept g (by simp)),
  fun σ W g h hb=>toZ (FSign_any W _ _ (8*K+5) (h 3 rfl) (by omega) (ba.cross bb bc).1) rfl,
  trivial⟩ fun τ W g h=>⟨congrArg Ending.returned (h 4 rfl),g⟩
theorem PFirst_any (w:World) (p:Nat) (i j:Int) (Bq:w.heap[p]?=some (.cells #[.int .i64 i,.int .i64 j] 3 (0,0))) :
 Calls Tryz.prog 60 #[.slice (some ⟨p,0,none⟩) 2 2] w (fun e w'=>e = .returned (.int .i64 (if i=0 then j else i))/\w.grownBy w' none):=by
 rcases (show i≠0\/(i=0/\j≠0)\/(i=0/\j=0) by omega) with h1 | ⟨h1,h2⟩ | ⟨h1,h2⟩
 · rw [if_neg h1]
   exact K3 B6 Tryz.func60 [sZ i,sZ j,sV (.bool true)] 2 [.v false [.row 0 0 2 2]] [(3,[.an 0 0,.an 1 0])] (rs:=[co 2 (.binOp .neq 3 (.tmp 11) (.const (.int .i64 0)) 3) 4 [on 0,.v false [.lit (.int .i64 0)]] [0,1] []]) (out:=on 0) (nc:=3) (by kernel_rfl) w
    ⟨fun n=>match n with | 0=>E8 [.int .i64 i] | 1=>E8 [.int .i64 j] | _=>fun _ => .bool false,fun b=>match b with | 0=>p | _=>0,fun _=>undef⟩
    (fun n c=>match n with
     | 0=>B8 (by simp [Value.oneCell']) c
     | 1=>B8 (by simp [Value.oneCell']) c
     | _+2=>rfl)
    (fun b q hq=>match b,q,hq with
     | 0,_,rfl=>Bq
     | _+1,_,hq=>nomatch hq)
    (fun b c hb hc hq=>match b,c,hb,hc with
     | 0,0,_,_=>rfl
     | _+1,_,hb,_=>absurd hb (by simp)
     | _,_+1,_,hc=>absurd hc (by simp))
    (fun jn hn=>match jn,hn with
     | 0,_=>rfl
     | 1,_=>rfl
     | _+2,hn=>absurd hn (by omega))
    ⟨fun σ W g h hb=>fun ρ o ho _ hv=>⟨_,N0 true ho ((A0 hv).1.trans (h 0 rfl)) (A0 hv).2 (decide_eq_false h1),rfl⟩,
    trivial⟩ _ fun τ W g h=>⟨congrArg Ending.returned (h 0 rfl),g⟩
 · rw [if_pos h1]
   exact K3 B6 Tryz.func60 [sZ i,sZ j,sV (.bool false),sV (.bool true)] 2 [.v false [.row 0 0 2 2]] [(3,[.an 0 0,.an 1 0])] (rs:=[co 2 (.binOp .neq 3 (.tmp 11) (.const (.int .i64 0)) 3) 4 [on 0,.v false [.lit (.int .i64 0)]] [0,1] [],co 3 (.binOp .neq 3 (.tmp 11) (.const (.int .i64 0)) 3) 4 [on 1,.v false [.lit (.int .i64 0)]] [0,1,2] []]) (out:=on 1) (nc:=4) (by kernel_rfl) w
    ⟨fun n=>match n with | 0=>E8 [.int .i64 i] | 1=>E8 [.int .i64 j] | _=>fun _ => .bool false,fun b=>match b with | 0=>p | _=>0,fun _=>undef⟩
    (fun n c=>match n with
     | 0=>B8 (by simp [Value.oneCell']) c
     | 1=>B8 (by simp [Value.oneCell']) c
     | _+2=>rfl)
    (fun b q hq=>match b,q,hq with
     | 0,_,rfl=>Bq
     | _+1,_,hq=>nomatch hq)
    (fun b c hb hc hq=>match b,c,hb,hc with
     | 0,0,_,_=>rfl
     | _+1,_,hb,_=>absurd hb (by simp)
     | _,_+1,_,hc=>absurd hc (by simp))
    (fun jn hn=>match jn,hn with
     | 0,_=>rfl
     | 1,_=>rfl
     | _+2,hn=>absurd hn (by omega))
    ⟨fun σ W g h hb=>fun ρ o ho _ hv=>⟨_,N0 false ho ((A0 hv).1.trans (h 0 rfl)) (A0 hv).2 (decide_eq_true h1),rfl⟩,
    fun σ W g h hb=>fun ρ o ho _ hv=>⟨_,N0 true ho ((A0 hv).1.trans (h 1 rfl)) (A0 hv).2 (decide_eq_false h2),rfl⟩,
    trivial⟩ _ fun τ W g h=>⟨congrArg Ending.returned (h 1 rfl),g⟩
 · rw [if_pos h1,h2]
   exact K3 B6 Tryz.func60 [sZ i,sZ j,sV (.bool false),sV (.bool false)] 2 [.v false [.row 0 0 2 2]] [(3,[.an 0 0,.an 1 0])] (rs:=[co 2 (.binOp .neq 3 (.tmp 11) (.const (.int .i64 0)) 3) 4 [on 0,.v false [.lit (.int .i64 0)]] [0,1] [],co 3 (.binOp .neq 3 (.tmp 11) (.const (.int .i64 0)) 3) 4 [on 1,.v false [.lit (.int .i64 0)]] [0,1,2] []]) (out := .v false [.lit (.int .i64 0)]) (nc:=4) (by kernel_rfl) w
    ⟨fun n=>match n with | 0=>E8 [.int .i64 i] | 1=>E8 [.int .i64 j] | _=>fun _ => .bool false,fun b=>match b with | 0=>p | _=>0,fun _=>undef⟩
    (fun n c=>match n with
     | 0=>B8 (by simp [Value.oneCell']) c
     | 1=>B8 (by simp [Value.oneCell']) c
     | _+2=>rfl)
    (fun b q hq=>match b,q,hq with
     | 0,_,rfl=>Bq
     | _+1,_,hq=>nomatch hq)
    (fun b c hb hc hq=>match b,c,hb,hc with
     | 0,0,_,_=>rfl
     | _+1,_,hb,_=>absurd hb (by simp)
     | _,_+1,_,hc=>absurd hc (by simp))
    (fun jn hn=>match jn,hn with
     | 0,_=>rfl
     | 1,_=>rfl
     | _+2,hn=>absurd hn (by omega))
    ⟨fun σ W g h hb=>fun ρ o ho _ hv=>⟨_,N0 false ho ((A0 hv).1.trans (h 0 rfl)) (A0 hv).2 (decide_eq_true h1),rfl⟩,
    fun σ W g h hb=>fun ρ o ho _ hv=>⟨_,N0 false ho ((A0 hv).1.trans (h 1 rfl)) (A0 hv).2 (decide_eq_true h2),rfl⟩,
    trivial⟩ _ fun τ W g h=>⟨rfl,g⟩
theorem L0 (w:World) (va vb:Value) (p q:Pq) (K:Nat) (Ha:PtV w va p) (Hb:PtV w vb q) (hK:K<=100000) (ba:Bp K p) (bb:Bp K q) :
 Calls Tryz.prog 26 #[va,vb] w (fun e w'=>e = .returned (.int .i64 (F0 p q))/\w.grownBy w' none):=by
 refine A6 B6 Tryz.func26 [sPt p,sPt q] [sZ (E9 p.1 q.1),sZ (E9 p.2 q.2),sZ (F0 p q)] (.cons Ha (.cons Hb .nil)) (rs:=[cl 2 61 [ag 4 0,ag 4 1],cl 3 61 [.v true [.an 0 4,.an 0 5,.an 0 6,.an 0 7],.v true [.an 1 4,.an 1 5,.an 1 6,.an 1 7]],clb 4 60 [.v false [.row 2 0 2 2]] [0,1,2,3] [(2,3,[.an 2 0,.an 3 0])]]) (out:=on 4) (nc:=5) (by kernel_rfl)
  ⟨fun σ W g h hb=>toZ (Z6 W _ _ p.1 q.1 K (pt1 (h 0 rfl)) (pt1 (h 1 rfl)) (by omega) ba.1.1 ba.1.2 bb.1.1 bb.1.2) rfl,
  fun σ W g h hb=>toZ (Z6 W _ _ p.2 q.2 K (pt2 (h 0 rfl)) (pt2 (h 1 rfl)) (by omega) ba.2.1 ba.2.2 bb.2.1 bb.2.2) rfl,
  fun σ W g h hb=>toZ (PFirst_any W _ _ _ (by
   have e1 : σ.an 2 0 = .int .i64 (E9 p.1 q.1):=h 2 rfl
   have e2 : σ.an 3 0 = .int .i64 (E9 p.2 q.2):=h 3 rfl
   rw [<- e1, <- e2];exact hb.1 _ (.head _))) rfl,
  trivial⟩ fun τ W g h=>⟨congrArg Ending.returned (h 4 rfl),g⟩
theorem ends_le {a b:Pq} (h:ple a b):lo a b=a/\hi a b=b:=by unfold lo hi;simp [h]
theorem ends_gt {a b:Pq} (h:¬ ple a b):lo a b=b/\hi a b=a:=by unfold lo hi;simp [h]
theorem pgt {a b:Pq} : ¬ ple a b ↔ 0<F0 a b:=by rw [<- pcmp_le];omega
theorem Bp.lo {K:Nat} {a b:Pq} (h:Bp K a) (h':Bp K b):Bp K (lo a b):=by rcases jE a b with e | e<;>rw [e]<;>assumption
theorem Bp.hi {K:Nat} {a b:Pq} (h:Bp K a) (h':Bp K b):Bp K (hi a b):=by rcases jG a b with e | e<;>rw [e]<;>assumption
theorem Bp.max {K:Nat} {a b:Pq} (h:Bp K a) (h':Bp K b):Bp K (eX a b):=by rcases rN a b with e | e<;>rw [e]<;>assumption
theorem Bp.min {K:Nat} {a b:Pq} (h:Bp K a) (h':Bp K b):Bp K (eW a b):=by rcases rM a b with e | e<;>rw [e]<;>assumption
theorem dB (w:World) (va:Value) (a b:Pq) (K:Nat) (Ha:SgV w va a b) (hK : 1<=K/\K<=10000) (ba:Bp K a) (bb:Bp K b) :
 Calls Tryz.prog 78 #[va] w (RetPP w (lo a b) (hi a b)):=by
 by_cases h1:ple a b
 · skip
   rw [(ends_le h1).1,(ends_le h1).2]
   refine A6 B6 Tryz.func78 [sSg a b] [sZ (F0 a b),sV (.bool false)] (.cons Ha .nil) (rs:=[cl 1 26 [ag 8 0,.v true [.an 0 8,.an 0 9,.an 0 10,.an 0 11,.an 0 12,.an 0 13,.an 0 14,.an 0 15]],co 2 (.binOp .gtr 3 (.tmp 8) (.const (.int .i64 0)) 3) 4 [on 1,.v false [.lit (.int .i64 0)]] [0,1] []]) (out := .tup [(true,[.an 0 0,.an 0 1,.an 0 2,.an 0 3,.an 0 4,.an 0 5,.an 0 6,.an 0 7]),(true,[.an 0 8,.an 0 9,.an 0 10,.an 0 11,.an 0 12,.an 0 13,.an 0 14,.an 0 15])]) (nc:=3) (by kernel_rfl)
    ⟨fun σ W g h hb=>toZ (L0 W _ _ a b K (sg1 (h 0 rfl)) (sg2 (h 0 rfl)) (by omega) ba bb) rfl,
    fun σ W g h hb=>fun ρ o ho _ hv=>⟨_,G6 false ho ((A0 hv).1.trans (h 1 rfl)) (A0 hv).2 (decide_eq_false (by have:=pcmp_le.2 h1;omega)),rfl⟩,
    trivial⟩ fun τ W g h=>⟨_,_,rfl,sg1 (h 0 rfl),sg2 (h 0 rfl),g⟩
 · skip
   rw [(ends_gt h1).1,(ends_gt h1).2]
   refine A6 B6 Tryz.func78 [sSg a b] [sZ (F0 a b),sV (.bool true)] (.cons Ha .nil) (rs:=[cl 1 26 [ag 8 0,.v true [.an 0 8,.an 0 9,.an 0 10,.an 0 11,.an 0 12,.an 0 13,.an 0 14,.an 0 15]],co 2 (.binOp .gtr 3 (.tmp 8) (.const (.int .i64 0)) 3) 4 [on 1,.v false [.lit (.int .i64 0)]] [0,1] []]) (out := .tup [(true,[.an 0 8,.an 0 9,.an 0 10,.an 0 11,.an 0 12,.an 0 13,.an 0 14,.an 0 15]),(true,[.an 0 0,.an 0 1,.an 0 2,.an 0 3,.an 0 4,.an 0 5,.an 0 6,.an 0 7])]) (nc:=3) (by kernel_rfl)
    ⟨fun σ W g h hb=>toZ (L0 W _ _ a b K (sg1 (h 0 rfl)) (sg2 (h 0 rfl)) (by omega) ba bb) rfl,
    fun σ W g h hb=>fun ρ o ho _ hv=>⟨_,G6 true ho ((A0 hv).1.trans (h 1 rfl)) (A0 hv).2 (decide_eq_true (pgt.1 h1)),rfl⟩,
    trivial⟩ fun τ W g h=>⟨_,_,rfl,sg2 (h 0 rfl),sg1 (h 0 rfl),g⟩
noncomputable def dec (p:Prop):Bool:=open Classical in decide p
theorem O0 {p:Prop} (h:p):dec p=true:=by unfold dec;simp [h]
theorem I1 {p:Prop} (h:¬ p):dec p=false:=by unfold dec;simp [h]
theorem Bp.one {K:Nat} {a:Pq} (h:Bp K a):Bn K a.1/\Bn K a.2:=h
theorem fp_new {w:World} {b n c:Nat} (hb:w.heap.size<=b) (q:Nat) (hq:fpS (.slice (some ⟨b,0,none⟩) n c) q):w.heap.size<=q:=by obtain ⟨o,m,c,e⟩:=hq;cases e;exact hb
theorem fp_nil {w:World} (q:Nat) (hq:fpS (.slice none 0 0) q):w.heap.size<=q:=by obtain ⟨o,m,c,e⟩:=hq;cases e
theorem btw_f {p q:Pq} (h:p≠q):btw p q=[p,q]:=by unfold btw;rw [if_neg h]
theorem POn_any (w:World) (va vb:Value) (a b p:Pq) (K:Nat) (Ha:SgV w va a b) (Hb:PtV w vb p) (hK : 1<=K/\K<=10000) (ba:Bp K a) (bb:Bp K b) (bp:Bp K p) (hTab:Tab w) :
 Calls Tryz.prog 34 #[va,vb] w (RetB w (dec (InS a b p))):=by
 rcases (show ¬ ple (lo a b) p\/(ple (lo a b) p /\ ¬ ple p (hi a b))\/(ple (lo a b) p/\ple p (hi a b)/\A4 a b p≠0)\/(ple (lo a b) p/\ple p (hi a b)/\A4 a b p=0) by grind) with h1 | ⟨h1,h2⟩ | ⟨h1,h2,h3⟩ | ⟨h1,h2,h3⟩
 · skip
   rw [I1 (fun q=>h1 (ins_prog.1 q).1)]
   refine A6 B6 Tryz.func34 [sSg a b,sPt p] [sPP (lo a b) (hi a b),sZ (F0 (lo a b) p),sV (.bool false)] (.cons Ha (.cons Hb .nil)) (rs:=[cl 2 78 [ag 16 0],cl 3 26 [ag 8 2,ag 8 1],co 4 (.binOp .leq 3 (.tmp 14) (.const (.int .i64 0)) 3) 4 [on 3,.v false [.lit (.int .i64 0)]] [0,1,2,3] []]) (out := .v false [.lit (.bool false)]) (nc:=5) (by kernel_rfl)
    ⟨fun σ W g h hb=>toPP (dB W _ a b K (h 0 rfl) hK ba bb),
    fun σ W g h hb=>toZ (L0 W _ _ (lo a b) p K (pp1 (h 2 rfl)) (h 1 rfl) (by omega) (ba.lo bb) bp) rfl,
    fun σ W g h hb=>fun ρ o ho _ hv=>⟨_,L5 false ho ((A0 hv).1.trans (h 3 rfl)) (A0 hv).2 (decide_eq_false (fun q=>h1 (pcmp_le.1 q))),rfl⟩,
    trivial⟩ fun τ W g h=>⟨rfl,g⟩
 · skip
   rw [I1 (fun q=>h2 (ins_prog.1 q).2.1)]
   refine A6 B6 Tryz.func34 [sSg a b,sPt p] [sPP (lo a b) (hi a b),sZ (F0 (lo a b) p),sV (.bool true),sZ (F0 p (hi a b)),sV (.bool false)] (.cons Ha (.cons Hb .nil)) (rs:=[cl 2 78 [ag 16 0],cl 3 26 [ag 8 2,ag 8 1],co 4 (.binOp .leq 3 (.tmp 14) (.const (.int .i64 0)) 3) 4 [on 3,.v false [.lit (.int .i64 0)]] [0,1,2,3] [],cl 5 26 [ag 8 1,.v true [.an 2 8,.an 2 9,.an 2 10,.an 2 11,.an 2 12,.an 2 13,.an 2 14,.an 2 15]],co 6 (.binOp .leq 3 (.tmp 19) (.const (.int .i64 0)) 3) 4 [on 5,.v false [.lit (.int .i64 0)]] [0,1,2,3,4,5] []]) (out := .v false [.lit (.bool false)]) (nc:=7) (by kernel_rfl)
    ⟨fun σ W g h hb=>toPP (dB W _ a b K (h 0 rfl) hK ba bb),
    fun σ W g h hb=>toZ (L0 W _ _ (lo a b) p K (pp1 (h 2 rfl)) (h 1 rfl) (by omega) (ba.lo bb) bp) rfl,
    fun σ W g h hb=>fun ρ o ho _ hv=>⟨_,L5 true ho ((A0 hv).1.trans (h 3 rfl)) (A0 hv).2 (decide_eq_true (pcmp_le.2 h1)),rfl⟩,
    fun σ W g h hb=>toZ (L0 W _ _ p (hi a b) K (h 1 rfl) (pp2 (h 2 rfl)) (by omega) bp (ba.hi bb)) rfl,
    fun σ W g h hb=>fun ρ o ho _ hv=>⟨_,L5 false ho ((A0 hv).1.trans (h 5 rfl)) (A0 hv).2 (decide_eq_false (fun q=>h2 (pcmp_le.1 q))),rfl⟩,
    trivial⟩ fun τ W g h=>⟨rfl,g⟩
 · skip
   rw [I1 (fun q=>h3 (ins_prog.1 q).2.2)]
   refine A6 B6 Tryz.func34 [sSg a b,sPt p] [sPP (lo a b) (hi a b),sZ (F0 (lo a b) p),sV (.bool true),sZ (F0 p (hi a b)),sV (.bool true),sZ (rsg (A4 a b p)),sV (.bool false)] (.cons Ha (.cons Hb .nil)) (rs:=[cl 2 78 [ag 16 0],cl 3 26 [ag 8 2,ag 8 1],co 4 (.binOp .leq 3 (.tmp 14) (.const (.int .i64 0)) 3) 4 [on 3,.v false [.lit (.int .i64 0)]] [0,1,2,3] [],cl 5 26 [ag 8 1,.v true [.an 2 8,.an 2 9,.an 2 10,.an 2 11,.an 2 12,.an 2 13,.an 2 14,.an 2 15]],co 6 (.binOp .leq 3 (.tmp 19) (.const (.int .i64 0)) 3) 4 [on 5,.v false [.lit (.int .i64 0)]] [0,1,2,3,4,5] [],cl 7 79 [ag 8 0,.v true [.an 0 8,.an 0 9,.an 0 10,.an 0 11,.an 0 12,.an 0 13,.an 0 14,.an 0 15],ag 8 1],co 8 (.binOp .eql 3 (.tmp 28) (.const (.int .i64 0)) 3) 4 [on 7,.v false [.lit (.int .i64 0)]] [0,1,2,3,4,5,6,7] []]) (out := .v false [.lit (.bool false)]) (nc:=9) (by kernel_rfl)
    ⟨fun σ W g h hb=>toPP (dB W _ a b K (h 0 rfl) hK ba bb),
    fun σ W g h hb=>toZ (L0 W _ _ (lo a b) p K (pp1 (h 2 rfl)) (h 1 rfl) (by omega) (ba.lo bb) bp) rfl,
    fun σ W g h hb=>fun ρ o ho _ hv=>⟨_,L5 true ho ((A0 hv).1.trans (h 3 rfl)) (A0 hv).2 (decide_eq_true (pcmp_le.2 h1)),rfl⟩,
    fun σ W g h hb=>toZ (L0 W _ _ p (hi a b) K (h 1 rfl) (pp2 (h 2 rfl)) (by omega) bp (ba.hi bb)) rfl,
    fun σ W g h hb=>fun ρ o ho _ hv=>⟨_,L5 true ho ((A0 hv).1.trans (h 5 rfl)) (A0 hv).2 (decide_eq_true (pcmp_le.2 h2)),rfl⟩,
    fun σ W g h hb=>toZ (dA W _ _ _ a b p K (sg1 (h 0 rfl)) (sg2 (h 0 rfl)) (h 1 rfl) hK.2 ba bb bp (hTab.kept g (by simp))) rfl,
    fun σ W g h hb=>fun ρ o ho _ hv=>⟨_,D7 false ho ((A0 hv).1.trans (h 7 rfl)) (A0 hv).2 (decide_eq_false (fun q=>h3 (rsg_zero.1 q))),rfl⟩,
    trivial⟩ fun τ W g h=>⟨rfl,g⟩
 · skip
   rw [O0 (ins_prog.2 ⟨h1,h2,h3⟩)]
   refine A6 B6 Tryz.func34 [sSg a b,sPt p] [sPP (lo a b) (hi a b),sZ (F0 (lo a b) p),sV (.bool true),sZ (F0 p (hi a b)),sV (.bool true),sZ (rsg (A4 a b p)),sV (.bool true)] (.cons Ha (.cons Hb .nil)) (rs:=[cl 2 78 [ag 16 0],cl 3 26 [ag 8 2,ag 8 1],co 4 (.binOp .leq 3 (.tmp 14) (.const (.int .i64 0)) 3) 4 [on 3,.v false [.lit (.int .i64 0)]] [0,1,2,3] [],cl 5 26 [ag 8 1,.v true [.an 2 8,.an 2 9,.an 2 10,.an 2 11,.an 2 12,.an 2 13,.an 2 14,.an 2 15]],co 6 (.binOp .leq 3 (.tmp 19) (.const (.int .i64 0)) 3) 4 [on 5,.v false [.lit (.int .i64 0)]] [0,1,2,3,4,5] [],cl 7 79 [ag 8 0,.v true [.an 0 8,.an 0 9,.an 0 10,.an 0 11,.an 0 12,.an 0 13,.an 0 14,.an 0 15],ag 8 1],co 8 (.binOp .eql 3 (.tmp 28) (.const (.int .i64 0)) 3) 4 [on 7,.v false [.lit (.int .i64 0)]] [0,1,2,3,4,5,6,7] []]) (out := .v false [.lit (.bool true)]) (nc:=9) (by kernel_rfl)
    ⟨fun σ W g h hb=>toPP (dB W _ a b K (h 0 rfl) hK ba bb),
    fun σ W g h hb=>toZ (L0 W _ _ (lo a b) p K (pp1 (h 2 rfl)) (h 1 rfl) (by omega) (ba.lo bb) bp) rfl,
    fun σ W g h hb=>fun ρ o ho _ hv=>⟨_,L5 true ho ((A0 hv).1.trans (h 3 rfl)) (A0 hv).2 (decide_eq_true (pcmp_le.2 h1)),rfl⟩,
    fun σ W g h hb=>toZ (L0 W _ _ p (hi a b) K (h 1 rfl) (pp2 (h 2 rfl)) (by omega) bp (ba.hi bb)) rfl,
    fun σ W g h hb=>fun ρ o ho _ hv=>⟨_,L5 true ho ((A0 hv).1.trans (h 5 rfl)) (A0 hv).2 (decide_eq_true (pcmp_le.2 h2)),rfl⟩,
    fun σ W g h hb=>toZ (dA W _ _ _ a b p K (sg1 (h 0 rfl)) (sg2 (h 0 rfl)) (h 1 rfl) hK.2 ba bb bp (hTab.kept g (by simp))) rfl,
    fun σ W g h hb=>fun ρ o ho _ hv=>⟨_,D7 true ho ((A0 hv).1.trans (h 7 rfl)) (A0 hv).2 (decide_eq_true (rsg_zero.2 h3)),rfl⟩,
    trivial⟩ fun τ W g h=>⟨rfl,g⟩
end Go.Proofs.YtamdnbbgpacfkaaGreatDoor
namespace Go.Proofs.YtamdnbbgpacfkaaGreatDoor
open Go.RowKit Mat
def Far (g:Nat) (w:World) (s:Option Addr) (xs:List Nat):Prop:=xs=[] \/ ∃ (b off:Nat) (cs:Array Value),s=some ⟨b,off,none⟩/\b≠g/\RBlk w b cs/\RAt cs off xs
theorem Far.rd {g:Nat} {w:World} {s:Option Addr} {xs:List Nat} (h:Far g w s xs):RRdo w s xs:=by
 rcases h with h | ⟨b,off,cs,e,_,h1,h2⟩
 · exact Or.inl h
 · exact Or.inr ⟨b,off,cs,e,h1,h2⟩
theorem Far.kept {g:Nat} {w w':World} {s:Option Addr} {xs:List Nat} (h:Far g w s xs) (hg:w.grownBy w' none):Far g w' s xs:=by
 rcases h with h | ⟨b,off,cs,e,hn,h1,h2⟩
 · exact Or.inl h
 · exact Or.inr ⟨b,off,cs,e,hn,h1.kept hg (by simp),h2⟩
theorem Far.setCell {g:Nat} {w:World} {s:Option Addr} {xs:List Nat} (h:Far g w s xs) (o:Nat) (v:Value):Far g (w.setCell ⟨g,o,none⟩ v) s xs:=by
 rcases h with h | ⟨b,off,cs,e,hn,h1,h2⟩
 · exact Or.inl h
 · refine Or.inr ⟨b,off,cs,e,hn,(Below.heap_setCell _ _ _ _ ?_).trans h1,h2⟩
   simpa using hn
theorem Ints.kept {w w':World} {g:Nat} {zs:List Nat} (h:Ints w g zs) (hg:w.grownBy w' none):Ints w' g zs:=RBlk.kept h hg (by simp)
def Boxed (w:World) (b n:Nat):Prop:=∃ s k c,w.heap[b]?=some (.cells #[.slice s k c] 30 (0,0))/\RefV w (.agg #[.slice s k c]) n
theorem Far.take {g:Nat} {w:World} {s:Option Addr} {xs:List Nat} (h:Far g w s xs) (k:Nat):Far g w s (xs.take k):=by
 rcases h with h | ⟨b,off,cs,e,hn,h1,h2⟩
 · exact Or.inl (by rw [h];simp)
 · exact Or.inr ⟨b,off,cs,e,hn,h1,h2.take k⟩
theorem Far.set_other {w:World} {s:Option Addr} {xs:List Nat} {g b7:Nat} {c:Array Value} {t:TypeId} (h:Far g w s xs) (hbox:w.heap[b7]?=some (.cells c t (0,0))) (ht:t≠3) (o:Nat) (u:Value):Far g (w.setCell ⟨b7,o,none⟩ u) s xs:=by
 rcases h with h | ⟨b,off,cs,e,hn,h1,h2⟩
 · exact Or.inl h
 · refine Or.inr ⟨b,off,cs,e,hn,(Below.heap_setCell _ _ _ _ ?_).trans h1,h2⟩
   intro e2
   simp only at e2
   unfold RBlk at h1
   subst e2
   rw [hbox] at h1
   simp at h1
   exact ht h1.2
theorem far_of {w:World} {g g2:Nat} {xs:List Nat} (h:RRdo w (some ⟨g2,0,none⟩) xs) (hne:g2≠g):Far g w (some ⟨g2,0,none⟩) xs:=by
 rcases h with h | ⟨b,off,cs,e,h1,h2⟩
 · exact Or.inl h
 · refine Or.inr ⟨b,off,cs,e, ?_,h1,h2⟩
   cases e;exact hne
theorem Boxed.cell {w:World} {b n:Nat} (h:Boxed w b n):∃ s k c,w.heap[b]?=some (.cells #[.slice s k c] 30 (0,0))/\RefV w (.agg #[.slice s k c]) n:=h
theorem Boxed.kept {w w':World} {b n:Nat} (h:Boxed w b n) (hg:w.grownBy w' none):Boxed w' b n:=by
 obtain ⟨s,k,c,h1,h2⟩:=h
 exact ⟨s,k,c,A1 hg h1,h2.kept hg⟩
theorem Boxed.set {w:World} {b n:Nat} {u:Value} {s:Option Addr} {k c:Nat} (h:w.heap[b]?=some (.cells #[u] 30 (0,0))) (hv:RefV w (.agg #[.slice s k c]) n):Boxed (w.setCell ⟨b,0,none⟩ (.slice s k c)) b n:=
 ⟨s,k,c,heap_set h _,hv.set_other h (by decide) 0 _⟩
end Go.Proofs.YtamdnbbgpacfkaaGreatDoor
