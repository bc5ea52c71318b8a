/- What the laws lean on, part 12. -/
import Derived.Below
import Derived.BigCall
import Derived.BigQuiet
import Derived.BigRegion
import Derived.Deep.AppendLies
import Derived.Deep.CutBlock
import Derived.Deep.CutRange
import Derived.Deep.DeepCutAuto
import Derived.Deep.DeepHandedRow
import Derived.Deep.LoopGhost
import Derived.Deep.MidRow
import Derived.Deep.QuietTactic
import Derived.Deep.RegionHeld3
import Derived.Deep.WholeRow
import Derived.Laws.AppendOwn
import Derived.Laws.Concat
import Derived.Laws.CopyOwn
import Derived.Laws.Externs
import Derived.Laws.IdiomStrings
import Derived.Lib.BitFns
import Derived.Lib.Bytealg
import Derived.Lib.Hide
import Derived.Lib.Slices
import Derived.Lib.Small
import Derived.Lib.Strings
import Derived.Lib.Walk
import Derived.LoopN
import Derived.OpenShut
import Derived.OrdersHeld
import Derived.OrdersIn
import Derived.Outline
import Derived.OwnWalk
import Derived.ProofKit
import Derived.RangeFuncCalls
import Derived.RangeFuncNested
import Derived.RangeFuncOwn
import Derived.Shelf.Bits.Mul64
import Derived.Shelf.Spec.TrailingZeros
import Derived.StillTailTactics
import Derived.WalkKit
import Derived.WalkLawsBesides
import Derived.WalkSpells
import Derived.Test.YtninnifpgpjfhaaGreatDoorProg
import Derived.Test.YtninnifpgpjfhaaGreatDoorRows
import Derived.Test.YtninnifpgpjfhaaGreatDoorMa8
import Derived.Test.YtninnifpgpjfhaaGreatDoorMa10
import Derived.Test.YtninnifpgpjfhaaGreatDoorMa11
set_option linter.unusedVariables false
set_option linter.unusedSimpArgs false
set_option maxRecDepth 100000
namespace Go.Proofs.YtninnifpgpjfhaaGreatDoor
open Go.RowKit Mat
theorem mG (w:World) (va:Value) (a:Nat) (ha:RefV w va a) (ba:a<D^1000000) :
 Calls Tryz.prog 87 #[va] w (O3 w a):=by
 rcases Nat.eq_zero_or_pos a with h | h
 · subst h;exact rText_zero w va ha
 · exact rText_some w va a ha h ba
theorem rof_1 (w:World):Calls Tryz.prog 67 #[.int .u64 1] w (O1 w 1):=gH w 1 (by decide)
theorem neg_lt {y:Int} {E:Nat} (h:y.natAbs<E):(-y).natAbs<E:=by rw [Int.natAbs_neg];exact h
theorem lt_DE {m E:Nat} (h:m<B) (hE : 5<=E):m<D^E:=
 Nat.lt_of_lt_of_le h (Nat.le_trans (show B<=D^5 by unfold B D;decide) (Nat.pow_le_pow_right N6 hE))
theorem lt_D1 {m:Nat} (h:m<B):m<D^1000000:=by
 obtain ⟨E,hE⟩:∃ E,E=1000000:=⟨_,rfl⟩
 rw [<- hE];exact lt_DE h (by omega)
theorem radd_same {x y:Int} (h:x.sign=y.sign):(x+y).natAbs=x.natAbs+y.natAbs/\(x+y).sign=x.sign:=by
 rcases M0 x with ⟨h1,e1⟩ | ⟨h1,e1⟩ | ⟨h1,e1⟩<;>rcases M0 y with ⟨h2,e2⟩ | ⟨h2,e2⟩ | ⟨h2,e2⟩<;>rcases M0 (x+y) with ⟨h3,e3⟩ | ⟨h3,e3⟩ | ⟨h3,e3⟩<;>omega
theorem oJ {x y:Int} (h:x.sign≠y.sign) (h0:x≠0) (h9:y≠0) (hle:y.natAbs<=x.natAbs):(x+y).natAbs=x.natAbs-y.natAbs/\(x.natAbs-y.natAbs=0\/(x+y).sign=x.sign):=by
 rcases M0 x with ⟨h1,e1⟩ | ⟨h1,e1⟩ | ⟨h1,e1⟩<;>rcases M0 y with ⟨h2,e2⟩ | ⟨h2,e2⟩ | ⟨h2,e2⟩<;>rcases M0 (x+y) with ⟨h3,e3⟩ | ⟨h3,e3⟩ | ⟨h3,e3⟩<;>omega
theorem dlen {l:List Nat} {n E:Nat} (h:lT l) (hv:N3 l=n) (hn:n<D^E) (hE : 1<=E):l.length<=4*E:=
 pB h (by rw [hv,Nat.pow_mul];exact hn) (by omega)
set_option maxHeartbeats 8000000 in
theorem Q3 (w:World) (va vb:Value) (x y:Int) (Ha:RIntV w va x) (Hb:RIntV w vb y) (la':x.natAbs<D^1000000) (lb':y.natAbs<D^1000000) :
 Calls Tryz.prog 61 #[va,vb] w (F0 w (x*y)):=by
 have Hla:=Lib.hid la'
 have Hlb:=Lib.hid lb'
 clear la' lb'
 obtain ⟨ga,sa,la,ca,rfl,ha,ma⟩:=Ha
 obtain ⟨gb,sb,lb,cb,rfl,hb,mb⟩:=Hb
 have hG:w.grownBy (((w.alloc (.cells #[.int .i64 ga,.slice sa la ca] 41)).alloc (.cells #[.int .i64 gb,.slice sb lb cb] 41)).alloc (.cells #[.int .i64 0,.slice none 0 0] 41)) none:=(A5 (A5 (World.grownBy_alloc _ _ _) _) _)
 have Ba:=A0 (A5 (World.grownBy_alloc _ (.cells #[.int .i64 gb,.slice sb lb cb] 41) none) (.cells #[.int .i64 0,.slice none 0 0] 41)) (A8 w (.cells #[.int .i64 ga,.slice sa la ca] 41) (w.heap.size) rfl)
 have Bb:=A0 (World.grownBy_alloc _ (.cells #[.int .i64 0,.slice none 0 0] 41) none) (A8 (w.alloc (.cells #[.int .i64 ga,.slice sa la ca] 41)) (.cells #[.int .i64 gb,.slice sb lb cb] 41) (w.heap.size+1) (by simp))
 have Bq:=(A8 ((w.alloc (.cells #[.int .i64 ga,.slice sa la ca] 41)).alloc (.cells #[.int .i64 gb,.slice sb lb cb] 41)) (.cells #[.int .i64 0,.slice none 0 0] 41) (w.heap.size+1+1) (by simp))
 have ra:RIntV (((w.alloc (.cells #[.int .i64 ga,.slice sa la ca] 41)).alloc (.cells #[.int .i64 gb,.slice sb lb cb] 41)).alloc (.cells #[.int .i64 0,.slice none 0 0] 41)) (.agg #[.int .i64 ga,.slice sa la ca]) (x):=⟨ga,sa,la,ca,rfl,ha,ma.kept hG⟩
 have ma':RefV (((w.alloc (.cells #[.int .i64 ga,.slice sa la ca] 41)).alloc (.cells #[.int .i64 gb,.slice sb lb cb] 41)).alloc (.cells #[.int .i64 0,.slice none 0 0] 41)) (.agg #[.slice sa la ca]) (x).natAbs:=ma.kept hG
 have rb:RIntV (((w.alloc (.cells #[.int .i64 ga,.slice sa la ca] 41)).alloc (.cells #[.int .i64 gb,.slice sb lb cb] 41)).alloc (.cells #[.int .i64 0,.slice none 0 0] 41)) (.agg #[.int .i64 gb,.slice sb lb cb]) (y):=⟨gb,sb,lb,cb,rfl,hb,mb.kept hG⟩
 have mb':RefV (((w.alloc (.cells #[.int .i64 ga,.slice sa la ca] 41)).alloc (.cells #[.int .i64 gb,.slice sb lb cb] 41)).alloc (.cells #[.int .i64 0,.slice none 0 0] 41)) (.agg #[.slice sb lb cb]) (y).natAbs:=mb.kept hG
 have oa:RIntV w (.agg #[.int .i64 ga,.slice sa la ca]) (x):=⟨ga,sa,la,ca,rfl,ha,ma⟩
 clear ma
 have ob:RIntV w (.agg #[.int .i64 gb,.slice sb lb cb]) (y):=⟨gb,sb,lb,cb,rfl,hb,mb⟩
 clear mb
 go_enter Tryz.func61,Tryz.ntmps61
 obtain ⟨P,hP⟩:∃ P,(x*y).sign=P:=⟨_,rfl⟩
 have HP:Hid ((x*y).sign=P):=hP
 have HN:Hid ((x*y).natAbs=x.natAbs*y.natAbs):=Int.natAbs_mul x y
 have hw:IntKind.i64.wrap (ga*gb)=P:=by
  rw [ha.out,hb.out, <- Int.sign_mul,hP,IntKind.wrap_i64]
  have:=oE (x*y);rw [hP] at this;omega
 clear hP
 obtain ⟨Ca0,Ca1,Fa0,Fa1⟩:=A2 Ba
 obtain ⟨Cb0,Cb1,Fb0,Fb1⟩:=A2 Bb
 obtain ⟨Cq0,Cq1,Fq0,Fq1⟩:=A2 Bq
 go_wp2_with fail
 generalize (((w.alloc (.cells #[.int .i64 ga,.slice sa la ca] 41)).alloc (.cells #[.int .i64 gb,.slice sb lb cb] 41)).alloc (.cells #[.int .i64 0,.slice none 0 0] 41))=w0 at *
 go_region_held3 (fun w'=>w'.cell? ⟨w.heap.size,0,none⟩=some (.int .i64 ga)/\w'.cell? ⟨w.heap.size,1,none⟩=some (.slice sa la ca)/\w'.cell? ⟨w.heap.size+1,0,none⟩=some (.int .i64 gb)/\w'.cell? ⟨w.heap.size+1,1,none⟩=some (.slice sb lb cb))
  (first | assumption | exact ⟨Ca0,Ca1,Cb0,Cb1⟩ | exact HSw1_20 | go_keep)
  (first
   | (go_at_call 102;(with_reducible refine (rMul_any w0.drew _ _ x.natAbs y.natAbs (ma'.kept (B3 (A7 _ _))) (mb'.kept (B3 (A7 _ _))) Hla.out Hlb.out).mono ?_);rintro e w1_1 ⟨vp,rfl,mp,gw1_1⟩;have hGw1_1:=D7 w0 gw1_1 rfl rfl rfl rfl;have hSw1_1:=(And.intro (hGw1_1.cell Ca0 (by simp)) (And.intro (hGw1_1.cell Ca1 (by simp)) (And.intro (hGw1_1.cell Cb0 (by simp)) (hGw1_1.cell Cb1 (by simp)))));clear gw1_1)
   | (go_at_call 65;(with_reducible refine (J4 w1_1 _ P (x.natAbs*y.natAbs) (x*y) mp HN.out (Or.inr HP.out)).mono ?_);rintro e w1_2 ⟨_,rfl,⟨gd,sd,ld,cd,rfl,hd,md⟩,gw1_2⟩;have hGw1_2:=A1 hGw1_1 gw1_2;replace mp:=mp.kept gw1_2;have rd:RIntV w1_2 (.agg #[.int .i64 gd,.slice sd ld cd]) (x*y):=⟨gd,sd,ld,cd,rfl,hd,md⟩;have hSw1_2:=(And.intro (hGw1_2.cell Ca0 (by simp)) (And.intro (hGw1_2.cell Ca1 (by simp)) (And.intro (hGw1_2.cell Cb0 (by simp)) (hGw1_2.cell Cb1 (by simp)))));clear gw1_2;clear md;(obtain ⟨dq0,dq1,dq2,dq3⟩:=A2 (A0 hGw1_2 Bq));have HSw1_20:=(And.intro ((A2 (B4 (A0 hGw1_2 Ba) (show w.heap.size≠w.heap.size+1+1 by omega) (.int .i64 gd) (.slice sd ld cd))).1) (And.intro ((A2 (B4 (A0 hGw1_2 Ba) (show w.heap.size≠w.heap.size+1+1 by omega) (.int .i64 gd) (.slice sd ld cd))).2.1) (And.intro ((A2 (B4 (A0 hGw1_2 Bb) (show w.heap.size+1≠w.heap.size+1+1 by omega) (.int .i64 gd) (.slice sd ld cd))).1) ((A2 (B4 (A0 hGw1_2 Bb) (show w.heap.size+1≠w.heap.size+1+1 by omega) (.int .i64 gd) (.slice sd ld cd))).2.1))))))
 replace Ba:=A0 hGw1_2 Ba
 replace Bb:=A0 hGw1_2 Bb
 replace Bq:=A0 hGw1_2 Bq
 replace ra:=ra.kept hGw1_2
 replace ma':=ma'.kept hGw1_2
 replace rb:=rb.kept hGw1_2
 replace mb':=mb'.kept hGw1_2
 replace hG:=A1 hG hGw1_2
 clear Ca0 Fa0 Ca1 Fa1 Cb0 Fb0 Cb1 Fb1 Cq0 Fq0 Cq1 Fq1
 obtain ⟨k90,k91,k92,k93⟩:=A2 Bq
 obtain ⟨q90,q91,q92,q93⟩:=A2 (C2 Bq (.int .i64 gd) (.slice sd ld cd))
 have hF:Hid (F0 w (x*y) (.returned (.agg #[.int .i64 gd,.slice sd ld cd])) ((w1_2.setCell ⟨w.heap.size+1+1,0,none⟩ (.int .i64 gd)).setCell ⟨w.heap.size+1+1,1,none⟩ (.slice sd ld cd))):=K9 hG Bq (by omega) rd
 clear ra ma' rb mb' mp rd
 go_wp2_with fail
 exact bodyPost_ret (v := .agg #[.int .i64 gd,.slice sd ld cd]) (by simp [results,Tryz.results61,go_sem,q90,q91]) rfl hF.out
set_option maxHeartbeats 8000000 in
theorem eB (w:World) (va vb:Value) (x y:Int) (Ha:RIntV w va x) (Hb:RIntV w vb y) (la':x.natAbs<D^1000000) (lb':y.natAbs<D^1000000) :
 Calls Tryz.prog 60 #[va,vb] w (F0 w (x+y)):=by
 have Hla:=Lib.hid la'
 have Hlb:=Lib.hid lb'
 clear la' lb'
 obtain ⟨ga,sa,la,ca,rfl,ha,ma⟩:=Ha
 obtain ⟨gb,sb,lb,cb,rfl,hb,mb⟩:=Hb
 have hG:w.grownBy (((w.alloc (.cells #[.int .i64 ga,.slice sa la ca] 41)).alloc (.cells #[.int .i64 gb,.slice sb lb cb] 41)).alloc (.cells #[.int .i64 0,.slice none 0 0] 41)) none:=(A5 (A5 (World.grownBy_alloc _ _ _) _) _)
 have Ba:=A0 (A5 (World.grownBy_alloc _ (.cells #[.int .i64 gb,.slice sb lb cb] 41) none) (.cells #[.int .i64 0,.slice none 0 0] 41)) (A8 w (.cells #[.int .i64 ga,.slice sa la ca] 41) (w.heap.size) rfl)
 have Bb:=A0 (World.grownBy_alloc _ (.cells #[.int .i64 0,.slice none 0 0] 41) none) (A8 (w.alloc (.cells #[.int .i64 ga,.slice sa la ca] 41)) (.cells #[.int .i64 gb,.slice sb lb cb] 41) (w.heap.size+1) (by simp))
 have Bq:=(A8 ((w.alloc (.cells #[.int .i64 ga,.slice sa la ca] 41)).alloc (.cells #[.int .i64 gb,.slice sb lb cb] 41)) (.cells #[.int .i64 0,.slice none 0 0] 41) (w.heap.size+1+1) (by simp))
 have ra:RIntV (((w.alloc (.cells #[.int .i64 ga,.slice sa la ca] 41)).alloc (.cells #[.int .i64 gb,.slice sb lb cb] 41)).alloc (.cells #[.int .i64 0,.slice none 0 0] 41)) (.agg #[.int .i64 ga,.slice sa la ca]) (x):=⟨ga,sa,la,ca,rfl,ha,ma.kept hG⟩
 have ma':RefV (((w.alloc (.cells #[.int .i64 ga,.slice sa la ca] 41)).alloc (.cells #[.int .i64 gb,.slice sb lb cb] 41)).alloc (.cells #[.int .i64 0,.slice none 0 0] 41)) (.agg #[.slice sa la ca]) (x).natAbs:=ma.kept hG
 have rb:RIntV (((w.alloc (.cells #[.int .i64 ga,.slice sa la ca] 41)).alloc (.cells #[.int .i64 gb,.slice sb lb cb] 41)).alloc (.cells #[.int .i64 0,.slice none 0 0] 41)) (.agg #[.int .i64 gb,.slice sb lb cb]) (y):=⟨gb,sb,lb,cb,rfl,hb,mb.kept hG⟩
 have mb':RefV (((w.alloc (.cells #[.int .i64 ga,.slice sa la ca] 41)).alloc (.cells #[.int .i64 gb,.slice sb lb cb] 41)).alloc (.cells #[.int .i64 0,.slice none 0 0] 41)) (.agg #[.slice sb lb cb]) (y).natAbs:=mb.kept hG
 have oa:RIntV w (.agg #[.int .i64 ga,.slice sa la ca]) (x):=⟨ga,sa,la,ca,rfl,ha,ma⟩
 clear ma
 have ob:RIntV w (.agg #[.int .i64 gb,.slice sb lb cb]) (y):=⟨gb,sb,lb,cb,rfl,hb,mb⟩
 clear mb
 go_enter Tryz.func60,Tryz.ntmps60
 obtain ⟨z,hz⟩:∃ z,x+y=z:=⟨_,rfl⟩
 obtain ⟨cc,hcc⟩:∃ cc,D9 x.natAbs y.natAbs=cc:=⟨_,rfl⟩
 have HCC:=Lib.hid hcc
 have key:((ga == 0)=true/\Hid (z=y))\/((ga == 0)=false/\(gb == 0)=true/\Hid (z=x))\/((ga == 0)=false/\(gb == 0)=false/\(ga == gb)=true/\Hid (z.natAbs=x.natAbs+y.natAbs/\z.sign=ga))\/((ga == 0)=false/\(gb == 0)=false/\(ga == gb)=false/\decide (0<=cc)=true/\y.natAbs<=x.natAbs/\Hid (z.natAbs=x.natAbs-y.natAbs/\(x.natAbs-y.natAbs=0\/z.sign=ga)))\/((ga == 0)=false/\(gb == 0)=false/\(ga == gb)=false/\decide (0<=cc)=false/\x.natAbs<=y.natAbs/\Hid (z.natAbs=y.natAbs-x.natAbs/\(y.natAbs-x.natAbs=0\/z.sign=gb))):=by
  have ea:=ha.out
  have eb:=hb.out
  by_cases h1:x=0
  · left;subst h1;exact ⟨by rw [ea];rfl,by show z=y;omega⟩
  · right
    have na:(ga == 0)=false:=beq_eq_false_iff_ne.2 (by rw [ea];intro h;exact h1 (Int.sign_eq_zero_iff_zero.1 h))
    by_cases h2:y=0
    · left;subst h2;exact ⟨na,by rw [eb];rfl,by show z=x;omega⟩
    · right
      have nb:(gb == 0)=false:=beq_eq_false_iff_ne.2 (by rw [eb];intro h;exact h2 (Int.sign_eq_zero_iff_zero.1 h))
      by_cases h3:x.sign=y.sign
      · left;exact ⟨na,nb,beq_iff_eq.2 (by rw [ea,eb,h3]),by rw [ea, <- hz];exact radd_same h3⟩
      · right
        have nc:(ga == gb)=false:=beq_eq_false_iff_ne.2 (by rw [ea,eb];exact h3)
        rcases Nat.lt_trichotomy x.natAbs y.natAbs with h4 | h4 | h4
        · right;exact ⟨na,nb,nc,decide_eq_false (by rw [<- hcc,L3 h4];omega),by omega,by rw [eb, <- hz,Int.add_comm];exact oJ (Ne.symm h3) h2 h1 (by omega)⟩
        · left;exact ⟨na,nb,nc,decide_eq_true (by rw [<- hcc,Q5 h4];omega),by omega,by rw [ea, <- hz];exact oJ h3 h1 h2 (by omega)⟩
        · left;exact ⟨na,nb,nc,decide_eq_true (by rw [<- hcc,L4 h4];omega),by omega,by rw [ea, <- hz];exact oJ h3 h1 h2 (by omega)⟩
 rw [hz]
 clear hz hcc
 rcases key with ⟨f1,hz⟩ | ⟨f1,f2,hz⟩ | ⟨f1,f2,f3,hz⟩ | ⟨f1,f2,f3,f4,hle,hz⟩ | ⟨f1,f2,f3,f4,hle,hz⟩
 · skip
   obtain ⟨Ca0,Ca1,Fa0,Fa1⟩:=A2 Ba
   obtain ⟨Cb0,Cb1,Fb0,Fb1⟩:=A2 Bb
   obtain ⟨Cq0,Cq1,Fq0,Fq1⟩:=A2 Bq
   obtain rfl:z=y:=hz.out
   have hG':w.grownBy (((w.alloc (.cells #[.int .i64 ga,.slice sa la ca] 41)).alloc (.cells #[.int .i64 gb,.slice sb lb cb] 41)).alloc (.cells #[.int .i64 gb,.slice sb lb cb] 41)) none:=(A5 (A5 (World.grownBy_alloc _ _ _) _) _)
   have hF:Hid (F0 w (z) (.returned (.agg #[.int .i64 gb,.slice sb lb cb])) (((w.alloc (.cells #[.int .i64 ga,.slice sa la ca] 41)).alloc (.cells #[.int .i64 gb,.slice sb lb cb] 41)).alloc (.cells #[.int .i64 gb,.slice sb lb cb] 41))):=⟨_,rfl,ob.kept hG',hG'⟩
   clear hG' ra ma' rb mb'
   go_wp2_with fail
   exact bodyPost_ret (v := .agg #[.int .i64 gb,.slice sb lb cb]) (by simp [results,Tryz.results60,go_sem]) rfl hF.out
 · skip
   obtain ⟨Ca0,Ca1,Fa0,Fa1⟩:=A2 Ba
   obtain ⟨Cb0,Cb1,Fb0,Fb1⟩:=A2 Bb
   obtain ⟨Cq0,Cq1,Fq0,Fq1⟩:=A2 Bq
   obtain rfl:z=x:=hz.out
   have hG':w.grownBy (((w.alloc (.cells #[.int .i64 ga,.slice sa la ca] 41)).alloc (.cells #[.int .i64 gb,.slice sb lb cb] 41)).alloc (.cells #[.int .i64 ga,.slice sa la ca] 41)) none:=(A5 (A5 (World.grownBy_alloc _ _ _) _) _)
   have hF:Hid (F0 w (z) (.returned (.agg #[.int .i64 ga,.slice sa la ca])) (((w.alloc (.cells #[.int .i64 ga,.slice sa la ca] 41)).alloc (.cells #[.int .i64 gb,.slice sb lb cb] 41)).alloc (.cells #[.int .i64 ga,.slice sa la ca] 41))):=⟨_,rfl,oa.kept hG',hG'⟩
   clear hG' ra ma' rb mb'
   go_wp2_with fail
   exact bodyPost_ret (v := .agg #[.int .i64 ga,.slice sa la ca]) (by simp [results,Tryz.results60,go_sem]) rfl hF.out
 · skip
   obtain ⟨Ca0,Ca1,Fa0,Fa1⟩:=A2 Ba
   obtain ⟨Cb0,Cb1,Fb0,Fb1⟩:=A2 Bb
   obtain ⟨Cq0,Cq1,Fq0,Fq1⟩:=A2 Bq
   go_wp2_with fail
   generalize (((w.alloc (.cells #[.int .i64 ga,.slice sa la ca] 41)).alloc (.cells #[.int .i64 gb,.slice sb lb cb] 41)).alloc (.cells #[.int .i64 0,.slice none 0 0] 41))=w0 at *
   go_region_held3 (fun w'=>w'.cell? ⟨w.heap.size,0,none⟩=some (.int .i64 ga)/\w'.cell? ⟨w.heap.size,1,none⟩=some (.slice sa la ca)/\w'.cell? ⟨w.heap.size+1,0,none⟩=some (.int .i64 gb)/\w'.cell? ⟨w.heap.size+1,1,none⟩=some (.slice sb lb cb))
    (first | assumption | exact ⟨Ca0,Ca1,Cb0,Cb1⟩ | exact HSw1_20 | go_keep)
    (first
     | (go_at_call 66;(with_reducible refine (rAdd_any w0.drew _ _ x.natAbs y.natAbs (ma'.kept (B3 (A7 _ _))) (mb'.kept (B3 (A7 _ _))) Hla.out Hlb.out).mono ?_);rintro e w1_1 ⟨vp,rfl,mp,gw1_1⟩;have hGw1_1:=D7 w0 gw1_1 rfl rfl rfl rfl;have hSw1_1:=(And.intro (hGw1_1.cell Ca0 (by simp)) (And.intro (hGw1_1.cell Ca1 (by simp)) (And.intro (hGw1_1.cell Cb0 (by simp)) (hGw1_1.cell Cb1 (by simp)))));clear gw1_1)
     | (go_at_call 65;(with_reducible refine (J4 w1_1 _ ga (x.natAbs+y.natAbs) z mp hz.out.1 (Or.inr hz.out.2)).mono ?_);rintro e w1_2 ⟨_,rfl,⟨gd,sd,ld,cd,rfl,hd,md⟩,gw1_2⟩;have hGw1_2:=A1 hGw1_1 gw1_2;replace mp:=mp.kept gw1_2;have rd:RIntV w1_2 (.agg #[.int .i64 gd,.slice sd ld cd]) (z):=⟨gd,sd,ld,cd,rfl,hd,md⟩;have hSw1_2:=(And.intro (hGw1_2.cell Ca0 (by simp)) (And.intro (hGw1_2.cell Ca1 (by simp)) (And.intro (hGw1_2.cell Cb0 (by simp)) (hGw1_2.cell Cb1 (by simp)))));clear gw1_2;clear md;(obtain ⟨dq0,dq1,dq2,dq3⟩:=A2 (A0 hGw1_2 Bq));have HSw1_20:=(And.intro ((A2 (B4 (A0 hGw1_2 Ba) (show w.heap.size≠w.heap.size+1+1 by omega) (.int .i64 gd) (.slice sd ld cd))).1) (And.intro ((A2 (B4 (A0 hGw1_2 Ba) (show w.heap.size≠w.heap.size+1+1 by omega) (.int .i64 gd) (.slice sd ld cd))).2.1) (And.intro ((A2 (B4 (A0 hGw1_2 Bb) (show w.heap.size+1≠w.heap.size+1+1 by omega) (.int .i64 gd) (.slice sd ld cd))).1) ((A2 (B4 (A0 hGw1_2 Bb) (show w.heap.size+1≠w.heap.size+1+1 by omega) (.int .i64 gd) (.slice sd ld cd))).2.1))))))
   replace Ba:=A0 hGw1_2 Ba
   replace Bb:=A0 hGw1_2 Bb
   replace Bq:=A0 hGw1_2 Bq
   replace ra:=ra.kept hGw1_2
   replace ma':=ma'.kept hGw1_2
   replace rb:=rb.kept hGw1_2
   replace mb':=mb'.kept hGw1_2
   replace hG:=A1 hG hGw1_2
   clear Ca0 Fa0 Ca1 Fa1 Cb0 Fb0 Cb1 Fb1 Cq0 Fq0 Cq1 Fq1
   obtain ⟨k90,k91,k92,k93⟩:=A2 Bq
   obtain ⟨q90,q91,q92,q93⟩:=A2 (C2 Bq (.int .i64 gd) (.slice sd ld cd))
   have hF:Hid (F0 w (z) (.returned (.agg #[.int .i64 gd,.slice sd ld cd])) ((w1_2.setCell ⟨w.heap.size+1+1,0,none⟩ (.int .i64 gd)).setCell ⟨w.heap.size+1+1,1,none⟩ (.slice sd ld cd))):=K9 hG Bq (by omega) rd
   clear ra ma' rb mb' mp rd
   go_wp2_with fail
   exact bodyPost_ret (v := .agg #[.int .i64 gd,.slice sd ld cd]) (by simp [results,Tryz.results60,go_sem,q90,q91]) rfl hF.out
 · skip
   obtain ⟨Ca0,Ca1,Fa0,Fa1⟩:=A2 Ba
   obtain ⟨Cb0,Cb1,Fb0,Fb1⟩:=A2 Bb
   obtain ⟨Cq0,Cq1,Fq0,Fq1⟩:=A2 Bq
   have HLE:=Lib.hid hle
   clear hle
   go_wp2_with fail
   generalize (((w.alloc (.cells #[.int .i64 ga,.slice sa la ca] 41)).alloc (.cells #[.int .i64 gb,.slice sb lb cb] 41)).alloc (.cells #[.int .i64 0,.slice none 0 0] 41))=w0 at *
   clear Ca0 Fa0 Ca1 Fa1 Cb0 Fb0 Cb1 Fb1 Cq0 Fq0 Cq1 Fq1
   refine (X5 w0 _ _ x.natAbs y.natAbs ma' mb' Hla.out Hlb.out).mono ?_
   rintro e w1 ⟨rfl,gw1⟩
   rw [HCC.out]
   replace Ba:=A0 gw1 Ba
   replace Bb:=A0 gw1 Bb
   replace Bq:=A0 gw1 Bq
   replace ra:=ra.kept gw1
   replace ma':=ma'.kept gw1
   replace rb:=rb.kept gw1
   replace mb':=mb'.kept gw1
   replace hG:=A1 hG gw1
   clear gw1
   obtain ⟨Ca0,Ca1,Fa0,Fa1⟩:=A2 Ba
   obtain ⟨Cb0,Cb1,Fb0,Fb1⟩:=A2 Bb
   obtain ⟨Cq0,Cq1,Fq0,Fq1⟩:=A2 Bq
   go_wp2_with fail
   go_region_held3 (fun w'=>w'.cell? ⟨w.heap.size,0,none⟩=some (.int .i64 ga)/\w'.cell? ⟨w.heap.size,1,none⟩=some (.slice sa la ca)/\w'.cell? ⟨w.heap.size+1,0,none⟩=some (.int .i64 gb)/\w'.cell? ⟨w.heap.size+1,1,none⟩=some (.slice sb lb cb))
    (first | assumption | exact ⟨Ca0,Ca1,Cb0,Cb1⟩ | exact HSw2_20 | go_keep)
    (first
     | (go_at_call 101;(with_reducible refine (eC w1.drew _ _ x.natAbs y.natAbs (ma'.kept (B3 (A7 _ _))) (mb'.kept (B3 (A7 _ _))) HLE.out Hla.out).mono ?_);rintro e w2_1 ⟨vp,rfl,mp,gw2_1⟩;have hGw2_1:=D7 w1 gw2_1 rfl rfl rfl rfl;have hSw2_1:=(And.intro (hGw2_1.cell Ca0 (by simp)) (And.intro (hGw2_1.cell Ca1 (by simp)) (And.intro (hGw2_1.cell Cb0 (by simp)) (hGw2_1.cell Cb1 (by simp)))));clear gw2_1)
     | (go_at_call 65;(with_reducible refine (J4 w2_1 _ ga (x.natAbs-y.natAbs) z mp hz.out.1 hz.out.2).mono ?_);rintro e w2_2 ⟨_,rfl,⟨gd,sd,ld,cd,rfl,hd,md⟩,gw2_2⟩;have hGw2_2:=A1 hGw2_1 gw2_2;replace mp:=mp.kept gw2_2;have rd:RIntV w2_2 (.agg #[.int .i64 gd,.slice sd ld cd]) (z):=⟨gd,sd,ld,cd,rfl,hd,md⟩;have hSw2_2:=(And.intro (hGw2_2.cell Ca0 (by simp)) (And.intro (hGw2_2.cell Ca1 (by simp)) (And.intro (hGw2_2.cell Cb0 (by simp)) (hGw2_2.cell Cb1 (by simp)))));clear gw2_2;clear md;(obtain ⟨dq0,dq1,dq2,dq3⟩:=A2 (A0 hGw2_2 Bq));have HSw2_20:=(And.intro ((A2 (B4 (A0 hGw2_2 Ba) (show w.heap.size≠w.heap.size+1+1 by omega) (.int .i64 gd) (.slice sd ld cd))).1) (And.intro ((A2 (B4 (A0 hGw2_2 Ba) (show w.heap.size≠w.heap.size+1+1 by omega) (.int .i64 gd) (.slice sd ld cd))).2.1) (And.intro ((A2 (B4 (A0 hGw2_2 Bb) (show w.heap.size+1≠w.heap.size+1+1 by omega) (.int .i64 gd) (.slice sd ld cd))).1) ((A2 (B4 (A0 hGw2_2 Bb) (show w.heap.size+1≠w.heap.size+1+1 by omega) (.int .i64 gd) (.slice sd ld cd))).2.1))))))
   replace Ba:=A0 hGw2_2 Ba
   replace Bb:=A0 hGw2_2 Bb
   replace Bq:=A0 hGw2_2 Bq
   replace ra:=ra.kept hGw2_2
   replace ma':=ma'.kept hGw2_2
   replace rb:=rb.kept hGw2_2
   replace mb':=mb'.kept hGw2_2
   replace hG:=A1 hG hGw2_2
   clear Ca0 Fa0 Ca1 Fa1 Cb0 Fb0 Cb1 Fb1 Cq0 Fq0 Cq1 Fq1
   obtain ⟨k90,k91,k92,k93⟩:=A2 Bq
   obtain ⟨q90,q91,q92,q93⟩:=A2 (C2 Bq (.int .i64 gd) (.slice sd ld cd))
   have hF:Hid (F0 w (z) (.returned (.agg #[.int .i64 gd,.slice sd ld cd])) ((w2_2.setCell ⟨w.heap.size+1+1,0,none⟩ (.int .i64 gd)).setCell ⟨w.heap.size+1+1,1,none⟩ (.slice sd ld cd))):=K9 hG Bq (by omega) rd
   clear ra ma' rb mb' mp rd
   go_wp2_with fail
   exact bodyPost_ret (v := .agg #[.int .i64 gd,.slice sd ld cd]) (by simp [results,Tryz.results60,go_sem,q90,q91]) rfl hF.out
 · skip
   obtain ⟨Ca0,Ca1,Fa0,Fa1⟩:=A2 Ba
   obtain ⟨Cb0,Cb1,Fb0,Fb1⟩:=A2 Bb
   obtain ⟨Cq0,Cq1,Fq0,Fq1⟩:=A2 Bq
   have HLE:=Lib.hid hle
   clear hle
   go_wp2_with fail
   generalize (((w.alloc (.cells #[.int .i64 ga,.slice sa la ca] 41)).alloc (.cells #[.int .i64 gb,.slice sb lb cb] 41)).alloc (.cells #[.int .i64 0,.slice none 0 0] 41))=w0 at *
   clear Ca0 Fa0 Ca1 Fa1 Cb0 Fb0 Cb1 Fb1 Cq0 Fq0 Cq1 Fq1
   refine (X5 w0 _ _ x.natAbs y.natAbs ma' mb' Hla.out Hlb.out).mono ?_
   rintro e w1 ⟨rfl,gw1⟩
   rw [HCC.out]
   replace Ba:=A0 gw1 Ba
   replace Bb:=A0 gw1 Bb
   replace Bq:=A0 gw1 Bq
   replace ra:=ra.kept gw1
   replace ma':=ma'.kept gw1
   replace rb:=rb.kept gw1
   replace mb':=mb'.kept gw1
   replace hG:=A1 hG gw1
   clear gw1
   obtain ⟨Ca0,Ca1,Fa0,Fa1⟩:=A2 Ba
   obtain ⟨Cb0,Cb1,Fb0,Fb1⟩:=A2 Bb
   obtain ⟨Cq0,Cq1,Fq0,Fq1⟩:=A2 Bq
   go_wp2_with fail
   go_region_held3 (fun w'=>w'.cell? ⟨w.heap.size,0,none⟩=some (.int .i64 ga)/\w'.cell? ⟨w.heap.size,1,none⟩=some (.slice sa la ca)/\w'.cell? ⟨w.heap.size+1,0,none⟩=some (.int .i64 gb)/\w'.cell? ⟨w.heap.size+1,1,none⟩=some (.slice sb lb cb))
    (first | assumption | exact ⟨Ca0,Ca1,Cb0,Cb1⟩ | exact HSw2_20 | go_keep)
    (first
     | (go_at_call 101;(with_reducible refine (eC w1.drew _ _ y.natAbs x.natAbs (mb'.kept (B3 (A7 _ _))) (ma'.kept (B3 (A7 _ _))) HLE.out Hlb.out).mono ?_);rintro e w2_1 ⟨vp,rfl,mp,gw2_1⟩;have hGw2_1:=D7 w1 gw2_1 rfl rfl rfl rfl;have hSw2_1:=(And.intro (hGw2_1.cell Ca0 (by simp)) (And.intro (hGw2_1.cell Ca1 (by simp)) (And.intro (hGw2_1.cell Cb0 (by simp)) (hGw2_1.cell Cb1 (by simp)))));clear gw2_1)
     | (go_at_call 65;(with_reducible refine (J4 w2_1 _ gb (y.natAbs-x.natAbs) z mp hz.out.1 hz.out.2).mono ?_);rintro e w2_2 ⟨_,rfl,⟨gd,sd,ld,cd,rfl,hd,md⟩,gw2_2⟩;have hGw2_2:=A1 hGw2_1 gw2_2;replace mp:=mp.kept gw2_2;have rd:RIntV w2_2 (.agg #[.int .i64 gd,.slice sd ld cd]) (z):=⟨gd,sd,ld,cd,rfl,hd,md⟩;have hSw2_2:=(And.intro (hGw2_2.cell Ca0 (by simp)) (And.intro (hGw2_2.cell Ca1 (by simp)) (And.intro (hGw2_2.cell Cb0 (by simp)) (hGw2_2.cell Cb1 (by simp)))));clear gw2_2;clear md;(obtain ⟨dq0,dq1,dq2,dq3⟩:=A2 (A0 hGw2_2 Bq));have HSw2_20:=(And.intro ((A2 (B4 (A0 hGw2_2 Ba) (show w.heap.size≠w.heap.size+1+1 by omega) (.int .i64 gd) (.slice sd ld cd))).1) (And.intro ((A2 (B4 (A0 hGw2_2 Ba) (show w.heap.size≠w.heap.size+1+1 by omega) (.int .i64 gd) (.slice sd ld cd))).2.1) (And.intro ((A2 (B4 (A0 hGw2_2 Bb) (show w.heap.size+1≠w.heap.size+1+1 by omega) (.int .i64 gd) (.slice sd ld cd))).1) ((A2 (B4 (A0 hGw2_2 Bb) (show w.heap.size+1≠w.heap.size+1+1 by omega) (.int .i64 gd) (.slice sd ld cd))).2.1))))))
   replace Ba:=A0 hGw2_2 Ba
   replace Bb:=A0 hGw2_2 Bb
   replace Bq:=A0 hGw2_2 Bq
   replace ra:=ra.kept hGw2_2
   replace ma':=ma'.kept hGw2_2
   replace rb:=rb.kept hGw2_2
   replace mb':=mb'.kept hGw2_2
   replace hG:=A1 hG hGw2_2
   clear Ca0 Fa0 Ca1 Fa1 Cb0 Fb0 Cb1 Fb1 Cq0 Fq0 Cq1 Fq1
   obtain ⟨k90,k91,k92,k93⟩:=A2 Bq
   obtain ⟨q90,q91,q92,q93⟩:=A2 (C2 Bq (.int .i64 gd) (.slice sd ld cd))
   have hF:Hid (F0 w (z) (.returned (.agg #[.int .i64 gd,.slice sd ld cd])) ((w2_2.setCell ⟨w.heap.size+1+1,0,none⟩ (.int .i64 gd)).setCell ⟨w.heap.size+1+1,1,none⟩ (.slice sd ld cd))):=K9 hG Bq (by omega) rd
   clear ra ma' rb mb' mp rd
   go_wp2_with fail
   exact bodyPost_ret (v := .agg #[.int .i64 gd,.slice sd ld cd]) (by simp [results,Tryz.results60,go_sem,q90,q91]) rfl hF.out
set_option maxHeartbeats 4000000 in
theorem M3 (w:World) (n:Int) (h1 : -9223372036854775808<=n) (h2:n<=9223372036854775807) :
 Calls Tryz.prog 28 #[.int .i64 n] w (F0 w n):=by
 by_cases hn:n<0
 · skip
   have f1:decide (n<0)=true:=decide_eq_true hn
   obtain ⟨m,hm⟩:∃ m:Nat,n = -(m:Int)-1:=⟨(-(n+1)).toNat,by omega⟩
   obtain ⟨k1,hk1⟩:∃ k,IntKind.i64.wrap (n+1)=k:=⟨_,rfl⟩
   obtain ⟨k2,hk2⟩:∃ k,IntKind.i64.wrap (-k1)=k:=⟨_,rfl⟩
   have hk3:IntKind.u64.wrap k2=(m:Int):=by rw [IntKind.wrap_i64] at hk1 hk2;rw [IntKind.wrap_u64];omega
   have HM:Hid (m<B):=by show m<B;unfold B;omega
   have HB1:Hid (m<D^1000000):=Lib.hid (lt_D1 HM.out)
   have HB2:Hid (1<D^1000000):=Lib.hid (lt_D1 (show 1<B by unfold B;omega))
   have HN:Hid (n.natAbs=m+1):=by show _=_;omega
   have HSG:Hid (n.sign = -1):=Int.sign_eq_neg_one_of_neg hn
   clear hm h1 h2 hn
   have hG:w.grownBy (w.alloc (.cells #[.int .i64 0,.slice none 0 0] 41)) none:=(World.grownBy_alloc _ _ _)
   have Bq:=(A8 w (.cells #[.int .i64 0,.slice none 0 0] 41) (w.heap.size) rfl)
   go_enter Tryz.func28,Tryz.ntmps28
   obtain ⟨Cq0,Cq1,Fq0,Fq1⟩:=A2 Bq
   go_wp2_with fail
   generalize (w.alloc (.cells #[.int .i64 0,.slice none 0 0] 41))=w0 at *
   clear Cq0 Fq0 Cq1 Fq1
   refine (gH w0 m HM.out).mono ?_
   rintro e w1 ⟨vp,rfl,mp,gw1⟩
   replace Bq:=A0 gw1 Bq
   replace hG:=A1 hG gw1
   clear gw1
   obtain ⟨Cq0,Cq1,Fq0,Fq1⟩:=A2 Bq
   go_wp2_with fail
   clear Cq0 Fq0 Cq1 Fq1
   refine (rof_1 w1).mono ?_
   rintro e w2 ⟨vo,rfl,mo,gw2⟩
   replace Bq:=A0 gw2 Bq
   replace mp:=mp.kept gw2
   replace hG:=A1 hG gw2
   clear gw2
   obtain ⟨Cq0,Cq1,Fq0,Fq1⟩:=A2 Bq
   go_wp2_with fail
   clear Cq0 Fq0 Cq1 Fq1
   refine (rAdd_any w2 _ _ m 1 mp mo HB1.out HB2.out).mono ?_
   rintro e w3 ⟨vs,rfl,ms,gw3⟩
   replace Bq:=A0 gw3 Bq
   replace mp:=mp.kept gw3
   replace mo:=mo.kept gw3
   replace hG:=A1 hG gw3
   clear gw3
   obtain ⟨Cq0,Cq1,Fq0,Fq1⟩:=A2 Bq
   go_wp2_with fail
   clear Cq0 Fq0 Cq1 Fq1
   refine (J4 w3 _ (-1) (m+1) n ms HN.out (Or.inr HSG.out)).mono ?_
   rintro e w4 ⟨_,rfl,⟨gd,sd,ld,cd,rfl,hd,md⟩,gw4⟩
   have rd:RIntV w4 (.agg #[.int .i64 gd,.slice sd ld cd]) (n):=⟨gd,sd,ld,cd,rfl,hd,md⟩
   replace Bq:=A0 gw4 Bq
   replace mp:=mp.kept gw4
   replace mo:=mo.kept gw4
   replace ms:=ms.kept gw4
   replace hG:=A1 hG gw4
   clear gw4
   clear md
   obtain ⟨Cq0,Cq1,Fq0,Fq1⟩:=A2 Bq
   clear Cq0 Fq0 Cq1 Fq1
   obtain ⟨k90,k91,k92,k93⟩:=A2 Bq
   obtain ⟨q90,q91,q92,q93⟩:=A2 (C2 Bq (.int .i64 gd) (.slice sd ld cd))
   have hF:Hid (F0 w (n) (.returned (.agg #[.int .i64 gd,.slice sd ld cd])) ((w4.setCell ⟨w.heap.size,0,none⟩ (.int .i64 gd)).setCell ⟨w.heap.size,1,none⟩ (.slice sd ld cd))):=K9 hG Bq (by omega) rd
   clear mp mo ms rd
   go_wp2_with fail
   exact bodyPost_ret (v := .agg #[.int .i64 gd,.slice sd ld cd]) (by simp [results,Tryz.results28,go_sem,q90,q91]) rfl hF.out
 · skip
   have f1:decide (n<0)=false:=decide_eq_false hn
   obtain ⟨m,hm⟩:∃ m:Nat,n=(m:Int):=⟨n.toNat,by omega⟩
   have hk3:IntKind.u64.wrap n=(m:Int):=by rw [IntKind.wrap_u64];omega
   have HM:Hid (m<B):=by show m<B;unfold B;omega
   have HN:Hid (n.natAbs=m):=by show _=_;omega
   have HSG:Hid (m=0\/n.sign=1):=by
    show _\/_
    rcases M0 n with ⟨h,e⟩ | ⟨h,e⟩ | ⟨h,e⟩
    · omega
    · left;omega
    · right;exact e
   clear hm h1 h2 hn
   have hG:w.grownBy (w.alloc (.cells #[.int .i64 0,.slice none 0 0] 41)) none:=(World.grownBy_alloc _ _ _)
   have Bq:=(A8 w (.cells #[.int .i64 0,.slice none 0 0] 41) (w.heap.size) rfl)
   go_enter Tryz.func28,Tryz.ntmps28
   obtain ⟨Cq0,Cq1,Fq0,Fq1⟩:=A2 Bq
   go_wp2_with fail
   generalize (w.alloc (.cells #[.int .i64 0,.slice none 0 0] 41))=w0 at *
   clear Cq0 Fq0 Cq1 Fq1
   refine (gH w0 m HM.out).mono ?_
   rintro e w1 ⟨vp,rfl,mp,gw1⟩
   replace Bq:=A0 gw1 Bq
   replace hG:=A1 hG gw1
   clear gw1
   obtain ⟨Cq0,Cq1,Fq0,Fq1⟩:=A2 Bq
   go_wp2_with fail
   clear Cq0 Fq0 Cq1 Fq1
   refine (J4 w1 _ 1 m n mp HN.out HSG.out).mono ?_
   rintro e w2 ⟨_,rfl,⟨gd,sd,ld,cd,rfl,hd,md⟩,gw2⟩
   have rd:RIntV w2 (.agg #[.int .i64 gd,.slice sd ld cd]) (n):=⟨gd,sd,ld,cd,rfl,hd,md⟩
   replace Bq:=A0 gw2 Bq
   replace mp:=mp.kept gw2
   replace hG:=A1 hG gw2
   clear gw2
   clear md
   obtain ⟨Cq0,Cq1,Fq0,Fq1⟩:=A2 Bq
   clear Cq0 Fq0 Cq1 Fq1
   obtain ⟨k90,k91,k92,k93⟩:=A2 Bq
   obtain ⟨q90,q91,q92,q93⟩:=A2 (C2 Bq (.int .i64 gd) (.slice sd ld cd))
   have hF:Hid (F0 w (n) (.returned (.agg #[.int .i64 gd,.slice sd ld cd])) ((w2.setCell ⟨w.heap.size,0,none⟩ (.int .i64 gd)).setCell ⟨w.heap.size,1,none⟩ (.slice sd ld cd))):=K9 hG Bq (by omega) rd
   clear mp rd
   go_wp2_with fail
   exact bodyPost_ret (v := .agg #[.int .i64 gd,.slice sd ld cd]) (by simp [results,Tryz.results28,go_sem,q90,q91]) rfl hF.out
def RetZText (w:World) (z:Int) (e:Ending) (w':World):Prop:=∃ s,e = .returned (.string s)/\D5 s z/\w.grownBy w' none
set_option maxHeartbeats 4000000 in
theorem bU (w:World) (va:Value) (x:Int) (Ha:RIntV w va x) (la':x.natAbs<D^1000000) :
 Calls Tryz.prog 41 #[va] w (RetZText w x):=by
 have Hla:=Lib.hid la'
 clear la'
 obtain ⟨ga,sa,la,ca,rfl,ha,ma⟩:=Ha
 have hG:w.grownBy (w.alloc (.cells #[.int .i64 ga,.slice sa la ca] 41)) none:=(World.grownBy_alloc _ _ _)
 have Ba:=(A8 w (.cells #[.int .i64 ga,.slice sa la ca] 41) (w.heap.size) rfl)
 have ra:RIntV (w.alloc (.cells #[.int .i64 ga,.slice sa la ca] 41)) (.agg #[.int .i64 ga,.slice sa la ca]) (x):=⟨ga,sa,la,ca,rfl,ha,ma.kept hG⟩
 have ma':RefV (w.alloc (.cells #[.int .i64 ga,.slice sa la ca] 41)) (.agg #[.slice sa la ca]) (x).natAbs:=ma.kept hG
 have oa:RIntV w (.agg #[.int .i64 ga,.slice sa la ca]) (x):=⟨ga,sa,la,ca,rfl,ha,ma⟩
 clear ma
 go_enter Tryz.func41,Tryz.ntmps41
 have hc:(decide (ga<0)=true/\Hid (x<0))\/(decide (ga<0)=false/\Hid (¬ x<0)):=by
  have ea:=ha.out
  rcases M0 x with ⟨h,e⟩ | ⟨h,e⟩ | ⟨h,e⟩
  · left;exact ⟨decide_eq_true (by omega),h⟩
  · right;exact ⟨decide_eq_false (by omega),by show ¬ _;omega⟩
  · right;exact ⟨decide_eq_false (by omega),by show ¬ _;omega⟩
 rcases hc with ⟨f1,HZ⟩ | ⟨f1,HZ⟩
 · skip
   obtain ⟨Ca0,Ca1,Fa0,Fa1⟩:=A2 Ba
   go_wp2_with fail
   generalize (w.alloc (.cells #[.int .i64 ga,.slice sa la ca] 41))=w0 at *
   clear Ca0 Fa0 Ca1 Fa1
   refine (mG w0 _ x.natAbs ma' Hla.out).mono ?_
   rintro e w1 ⟨s,rfl,hd,hdv,gw1⟩
   replace Ba:=A0 gw1 Ba
   replace ra:=ra.kept gw1
   replace ma':=ma'.kept gw1
   replace hG:=A1 hG gw1
   clear gw1
   obtain ⟨Ca0,Ca1,Fa0,Fa1⟩:=A2 Ba
   have hsz:s.size<=4000000:=by
    rw [<- K6]
    exact dlen hd hdv Hla.out (by omega)
   have hF:Hid (D5 ({ data := #[45] } ++ s) x):=⟨bts s,hd,hdv,by rw [gT,if_pos HZ.out];rfl⟩
   clear hd hdv
   go_wp2_with fail
   go_ret
   exact ⟨_,rfl,hF.out,hG⟩
 · skip
   obtain ⟨Ca0,Ca1,Fa0,Fa1⟩:=A2 Ba
   go_wp2_with fail
   generalize (w.alloc (.cells #[.int .i64 ga,.slice sa la ca] 41))=w0 at *
   clear Ca0 Fa0 Ca1 Fa1
   refine (mG w0 _ x.natAbs ma' Hla.out).mono ?_
   rintro e w1 ⟨s,rfl,hd,hdv,gw1⟩
   replace Ba:=A0 gw1 Ba
   replace ra:=ra.kept gw1
   replace ma':=ma'.kept gw1
   replace hG:=A1 hG gw1
   clear gw1
   obtain ⟨Ca0,Ca1,Fa0,Fa1⟩:=A2 Ba
   have hF:Hid (D5 s x):=⟨bts s,hd,hdv,by rw [if_neg (by have:=HZ.out;omega)]⟩
   clear hd hdv
   go_wp2_with fail
   go_ret
   exact ⟨_,rfl,hF.out,hG⟩
end Go.Proofs.YtninnifpgpjfhaaGreatDoor
namespace Go.Proofs.YtninnifpgpjfhaaGreatDoor
open Go.ChangeShapes Go.WideShapes Go.ChangeAt Go.RowKit Go.ChangeMaps Mat
theorem law_own:ownKnob Tryz.prog.godebug=none:=by kernel_rfl
theorem lP {W W':World} (h:W.grownBy W' none):W.keptBut W' (fun _=>False):=by
 refine ⟨h.os,h.output,fun i hi=>?_⟩
 rw [h.block i hi (by simp)]
 cases W.heap[i]? with
 | none=>rfl
 | some o=>cases o<;>simp
end Go.Proofs.YtninnifpgpjfhaaGreatDoor
namespace Go.Proofs.YtninnifpgpjfhaaGreatDoor
open Go.RowKit Mat
theorem bK {s t:ByteArray} {z:Int} (hs:D5 s z) (ht:D5 t z):s=t:=by
 obtain ⟨l,hl,vl,el⟩:=hs
 obtain ⟨m,hm,vm,em⟩:=ht
 have:l=m:=dec_uniqL hl hm (vl.trans vm.symm)
 subst this
 exact bts_inj (el.trans em.symm)
theorem cF (w:World) (va:Value) (z:Int) (K:Nat) (ha:IntV w va z) (hK:K<=900000) (la:z.natAbs<B^K) :
 Calls Tryz.prog 39 #[va] w (RetZText w z):=ZText_any w va z K ha hK la
theorem Q2 {s:ByteArray} {z:Int} {K:Nat} (h:D5 s z) (la:z.natAbs<B^K):s.size<=20*K+2:=by
 obtain ⟨l,hl,vl,el⟩:=h
 have h1:l.length<=20*K+1:=by
  refine pB hl ?_ (by omega)
  rw [vl]
  refine Nat.lt_of_lt_of_le la ?_
  have q1:B^K<=(10^20)^K:=Nat.pow_le_pow_left (by decide) K
  rw [<- Nat.pow_mul] at q1
  exact Nat.le_trans q1 (Nat.pow_le_pow_right (by omega) (by omega))
 have h2:=congrArg List.length el
 rw [K6] at h2
 rw [h2]
 split
 · rw [List.length_cons];omega
 · omega
def I4 (s:ByteArray) (r:Rat):Prop:=(r.den=1/\D5 s r.num)\/(r.den≠1 /\ ∃ p q:ByteArray,D5 p r.num/\D5 q (r.den:Int)/\s=p ++ { data := #[47] } ++ q)
theorem U7 {s t:ByteArray} {r:Rat} (hs:I4 s r) (ht:I4 t r):s=t:=by
 rcases hs with ⟨h1,h2⟩ | ⟨h1,p,q,h2,h3,h4⟩
 · rcases ht with ⟨g1,g2⟩ | ⟨g1,_⟩
   · exact bK h2 g2
   · exact absurd h1 g1
 · rcases ht with ⟨g1,g2⟩ | ⟨g1,p',q',g2,g3,g4⟩
   · exact absurd g1 h1
   · rw [h4,g4,bK h2 g2,bK h3 g3]
def kU (w:World) (r:Rat) (e:Ending) (w':World):Prop:=∃ s,e = .returned (.string s)/\I4 s r/\w.grownBy w' none
end Go.Proofs.YtninnifpgpjfhaaGreatDoor
namespace Go.Proofs.YtninnifpgpjfhaaGreatDoor
open Go.RowKit Mat Ex
theorem T9 {P:Program} {ρ : Operand->Value} {o:Oper} {t t':TypeId} {x y:Operand} {s u:ByteArray} {W:World} (ho:o.op = .binOp .add t x y t') (hx : ρ x = .string s) (hy : ρ y = .string u) (h:s.size+u.size<=9223372036854775807) :
 (execOp ρ o).run P W = .ok (.value (.string (s++u))) W:=by
 have hg:eqGuard .add t x y (.string s) (.string u)=pure ():=by unfold eqGuard;rfl
 have hb:binOp .add t (.string s) (.string u)=Op.stringOp .add s u:=by simp [binOp]
 simp only [execOp,ho,hx,hy,hg,hb,Sem.run_bind,Sem.run_pure,Result.andThen_ok,run_string_add_sum W s u h]
theorem aY (w:World) (va:Value) (r:Rat) (K:Nat) (Ha:RatV w va r) (hK:K<=800000) (ln:r.num.natAbs<B^K) (ld:r.den<B^K) :
 Calls Tryz.prog 11 #[va] w (kU w r):=by
 by_cases h1:r.den=1
 · skip
   refine A6 B5 Tryz.func11 [sQ r] [sV (.bool true),sT (fun s=>D5 s r.num)] (.cons Ha .nil) (rs:=[cl 1 38 [ag 4 0],cl 2 39 [ag 2 0]]) (out:=on 2) (nc:=3) (by kernel_rfl)
    ⟨fun σ W g h hb=>toV (C0 W _ r K (h 0 rfl) (by omega) ld) (by rw [decide_eq_true h1]),
    fun σ W g h hb=>toT (cF W _ r.num K (qn (h 0 rfl)) (by omega) ln),
    trivial⟩ fun τ W g h=>by
     obtain ⟨s,e,hs⟩:=h 2 rfl
     exact ⟨s,congrArg Ending.returned e,Or.inl ⟨h1,hs⟩,g⟩
 · skip
   refine A6 B5 Tryz.func11 [sQ r] [sV (.bool false),sT (fun s=>D5 s r.num),sT (fun s=>∃ p,D5 p r.num/\s=p ++ { data := #[47] }),sT (fun s=>D5 s (r.den:Int)),sT (fun s=>I4 s r)] (.cons Ha .nil) (rs:=[cl 1 38 [ag 4 0],cl 2 39 [ag 2 0],co 3 (.binOp .add 9 (.tmp 10) (.const (.string ({ data := #[47] }))) 9) 9 [on 2,.v false [.lit (.string ({ data := #[47] }))]] [0,1,2] [],cla 4 39 [.v true [.an 0 2,.an 0 3]] [0,1,2],co 5 (.binOp .add 9 (.tmp 11) (.tmp 14) 9) 9 [on 3,on 4] [0,1,2,3,4] []]) (out:=on 5) (nc:=6) (by kernel_rfl)
    ⟨fun σ W g h hb=>toV (C0 W _ r K (h 0 rfl) (by omega) ld) (by rw [decide_eq_false h1]),
    fun σ W g h hb=>toT (cF W _ r.num K (qn (h 0 rfl)) (by omega) ln),
    fun σ W g h hb=>fun ρ o ho _ hv=>by
     obtain ⟨s,es,hs⟩:=h 2 rfl
     have hl:=Q2 hs ln
     exact ⟨_,T9 ho ((A4 hv).1.trans es) (A4 hv).2 (by have:ByteArray.size { data := #[47] } = 1:=rfl;omega),_,rfl,s,hs,rfl⟩,
    fun σ W g h hb=>toT (cF W _ (r.den:Int) K (gP h1 ▸ qd (h 0 rfl)) (by omega) (ldi ld)),
    fun σ W g h hb=>fun ρ o ho _ hv=>by
     obtain ⟨s,es,p,hp,rfl⟩:=h 3 rfl
     obtain ⟨t,et,ht⟩:=h 4 rfl
     have hl:=Q2 hp ln
     have hm:=Q2 ht (ldi ld)
     have h47:ByteArray.size { data := #[47] } = 1:=rfl
     exact ⟨_,T9 ho ((A4 hv).1.trans es) ((A4 hv).2.trans et) (by rw [ByteArray.size_append];omega),_,rfl,Or.inr ⟨h1,p,t,hp,ht,rfl⟩⟩,
    trivial⟩ fun τ W g h=>by
     obtain ⟨s,e,hs⟩:=h 5 rfl
     exact ⟨s,congrArg Ending.returned e,hs,g⟩
theorem FDiv_any (w:World) (va vb:Value) (r t:Rat) (K:Nat) (Ha:RatV w va r) (Hb:RatV w vb t) (hK:K<=300000) (ln:r.num.natAbs<B^K) (ld:r.den<B^K) (mn:t.num.natAbs<B^K) (md:t.den<B^K) (hTab:Tab w) :
 Calls Tryz.prog 36 #[va,vb] w (aW w (r / t) (if t=0 then 5 else 0)):=by
 rcases M0 t.num with ⟨h0,hs⟩ | ⟨h0,hs⟩ | ⟨h0,hs⟩
 · skip
   have ht:t≠0:=fun e=>by rw [e] at h0;simp at h0
   rw [if_neg ht,Rat.div_def]
   have hp:=rinv_neg t h0
   have n1:(t⁻¹).num.natAbs<B^K:=by rw [hp.1,Int.natAbs_neg,Int.natAbs_natCast];exact md
   have n2:(t⁻¹).den<B^K:=by have h:=congrArg Int.natAbs hp.2;rw [Int.natAbs_natCast,Int.natAbs_neg] at h;omega
   refine A6 B5 Tryz.func36 [sQ r,sQ t] [sI (t.den:Int),sV (.int .i64 (-1)),sI (-(t.den:Int)),sI (-t.num),sI (r.den:Int),sQ (r*t⁻¹)] (.cons Ha (.cons Hb .nil)) (rs:=[cl 2 77 [ag 4 1],cl 3 71 [ag 4 1],cl 4 80 [ag 2 2],cl 5 80 [ag 2 1],cl 6 77 [ag 4 0],cl 7 81 [ag 2 0,ag 2 6,ag 2 4,ag 2 5]]) (out := .tup [(true,[.an 7 0,.an 7 1,.an 7 2,.an 7 3]),(false,[.lit (.int .i64 0)])]) (nc:=8) (by kernel_rfl)
    ⟨fun σ W g h hb=>C4 W _ t K (h 1 rfl) (by omega) md,
    fun σ W g h hb=>toV (C6 W _ t K (h 1 rfl) (by omega) mn) (by rw [hs]),
    fun σ W g h hb=>U0 W _ _ K (h 2 rfl) (by omega) (ldi md),
    fun σ W g h hb=>U0 W _ _ K (qn (h 1 rfl)) (by omega) mn,
    fun σ W g h hb=>C4 W _ r K (h 0 rfl) (by omega) ld,
    fun σ W g h hb=>Q0 W _ _ _ _ r t⁻¹ K (qn (h 0 rfl)) (h 6 rfl) (hp.1 ▸ h 4 rfl) (hp.2 ▸ h 5 rfl) hK ln ld n1 n2 (hTab.kept g (by simp)),
    trivial⟩ fun τ W g h=>⟨_,rfl,h 7 rfl,g⟩
 · skip
   have ht:t=0:=Rat.num_eq_zero.1 h0
   rw [if_pos ht,ht,Rat.div_def,Rat.inv_zero,Rat.mul_zero]
   refine A6 B5 Tryz.func36 [sQ r,sQ t] [sI (t.den:Int),sV (.int .i64 0)] (.cons Ha (.cons Hb .nil)) (rs:=[cl 2 77 [ag 4 1],cl 3 71 [ag 4 1]]) (out := .tup [(true,[.lit (.slice none 0 0),.lit (.bool false),.lit (.slice none 0 0),.lit (.bool false)]),(false,[.lit (.int .i64 5)])]) (nc:=4) (by kernel_rfl)
    ⟨fun σ W g h hb=>C4 W _ t K (h 1 rfl) (by omega) md,
    fun σ W g h hb=>toV (C6 W _ t K (h 1 rfl) (by omega) mn) (by rw [hs]),
    trivial⟩ fun τ W g h=>⟨_,rfl,RatV.zero W,g⟩
 · skip
   have ht:t≠0:=fun e=>by rw [e] at h0;simp at h0
   rw [if_neg ht,Rat.div_def]
   have hp:=rinv_pos t h0
   have n1:(t⁻¹).num.natAbs<B^K:=by rw [hp.1,Int.natAbs_natCast];exact md
   have n2:(t⁻¹).den<B^K:=by have h:=congrArg Int.natAbs hp.2;rw [Int.natAbs_natCast] at h;omega
   refine A6 B5 Tryz.func36 [sQ r,sQ t] [sI (t.den:Int),sV (.int .i64 1),sI (r.den:Int),sQ (r*t⁻¹)] (.cons Ha (.cons Hb .nil)) (rs:=[cl 2 77 [ag 4 1],cl 3 71 [ag 4 1],cl 4 77 [ag 4 0],cl 5 81 [ag 2 0,ag 2 4,ag 2 2,ag 2 1]]) (out := .tup [(true,[.an 5 0,.an 5 1,.an 5 2,.an 5 3]),(false,[.lit (.int .i64 0)])]) (nc:=6) (by kernel_rfl)
    ⟨fun σ W g h hb=>C4 W _ t K (h 1 rfl) (by omega) md,
    fun σ W g h hb=>toV (C6 W _ t K (h 1 rfl) (by omega) mn) (by rw [hs]),
    fun σ W g h hb=>C4 W _ r K (h 0 rfl) (by omega) ld,
    fun σ W g h hb=>Q0 W _ _ _ _ r t⁻¹ K (qn (h 0 rfl)) (h 4 rfl) (hp.1 ▸ h 2 rfl) (hp.2 ▸ qn (h 1 rfl)) hK ln ld n1 n2 (hTab.kept g (by simp)),
    trivial⟩ fun τ W g h=>⟨_,rfl,h 5 rfl,g⟩
end Go.Proofs.YtninnifpgpjfhaaGreatDoor
namespace Go.Proofs.YtninnifpgpjfhaaGreatDoor
open Go.RowKit Mat Ex PM
def Bn (K:Nat) (r:Rat):Prop:=r.num.natAbs<B^K/\r.den<B^K
theorem bwd {a K M:Nat} (h:a<B^K) (hK:K<=M):a<B^M:=Nat.lt_of_lt_of_le h (Nat.pow_le_pow_right C9 hK)
theorem Bn.mono {K M:Nat} {r:Rat} (h:Bn K r) (hK:K<=M):Bn M r:=⟨bwd h.1 hK,bwd h.2 hK⟩
theorem Bn.neg {K:Nat} {r:Rat} (h:Bn K r):Bn K (-r):=⟨by rw [Rat.neg_num,Int.natAbs_neg];exact h.1,by rw [Rat.neg_den];exact h.2⟩
theorem Bn.add {K:Nat} {r t:Rat} (h:Bn K r) (h':Bn K t):Bn (K+K+1) (r+t):=by
 constructor
 · rw [Rat.num_add]
   exact Nat.lt_of_le_of_lt (Int.natAbs_ediv_le_natAbs _ _) (oX (K5 h.1 (ldi h'.2)) (K5 h'.1 (ldi h.2)))
 · rw [Rat.den_add]
   refine Nat.lt_of_le_of_lt (Nat.div_le_self _ _) (bwd (K:=K+K) ?_ (by omega))
   rw [Nat.pow_add];exact Nat.mul_lt_mul'' h.2 h'.2
theorem Bn.sub {K:Nat} {r t:Rat} (h:Bn K r) (h':Bn K t):Bn (K+K+1) (r-t):=by rw [Rat.sub_eq_add_neg];exact h.add h'.neg
theorem Bn.mul {K:Nat} {r t:Rat} (h:Bn K r) (h':Bn K t):Bn (K+K) (r*t):=by
 constructor
 · rw [iL,Int.natAbs_mul,Nat.pow_add]
   exact Nat.mul_lt_mul'' (Nat.lt_of_le_of_lt (Int.natAbs_ediv_le_natAbs _ _) h.1) (Nat.lt_of_le_of_lt (Int.natAbs_ediv_le_natAbs _ _) h'.1)
 · rw [iM,Nat.pow_add]
   exact Nat.mul_lt_mul'' (Nat.lt_of_le_of_lt (Nat.div_le_self _ _) h.2) (Nat.lt_of_le_of_lt (Nat.div_le_self _ _) h'.2)
theorem Bn.inv {K:Nat} {r:Rat} (h:Bn K r) (hK : 1<=K):Bn K r⁻¹:=by
 rcases M0 r.num with ⟨h0,_⟩ | ⟨h0,_⟩ | ⟨h0,_⟩
 · have e:=rinv_neg r h0
   exact ⟨by rw [e.1,Int.natAbs_neg,Int.natAbs_natCast];exact h.2,by have e2:=congrArg Int.natAbs e.2;rw [Int.natAbs_natCast,Int.natAbs_neg] at e2;rw [e2];exact h.1⟩
 · have:r=0:=Rat.num_eq_zero.1 h0
   rw [this,Rat.inv_zero]
   exact ⟨Nat.pow_pos C9,Nat.one_lt_pow (by omega) (by unfold B;omega)⟩
 · have e:=rinv_pos r h0
   exact ⟨by rw [e.1,Int.natAbs_natCast];exact h.2,by have e2:=congrArg Int.natAbs e.2;rw [Int.natAbs_natCast] at e2;rw [e2];exact h.1⟩
theorem Bn.div {K:Nat} {r t:Rat} (h:Bn K r) (h':Bn K t) (hK : 1<=K):Bn (K+K) (r / t):=by rw [Rat.div_def];exact h.mul (h'.inv hK)
theorem Bn.zero {K:Nat} (hK : 1<=K):Bn K (0:Rat):=⟨Nat.pow_pos C9,Nat.one_lt_pow (by omega) (by unfold B;omega)⟩
def Bp (K:Nat) (p:Pq):Prop:=Bn K p.1/\Bn K p.2
theorem Bp.mono {K M:Nat} {p:Pq} (h:Bp K p) (hK:K<=M):Bp M p:=⟨h.1.mono hK,h.2.mono hK⟩
theorem Bp.cross {K:Nat} {a b c:Pq} (ha:Bp K a) (hb:Bp K b) (hc:Bp K c):Bn (8*K+5) (A3 a b c):=by
 unfold A3
 exact (((hb.1.sub ha.1).mul (hc.2.sub ha.2)).sub ((hb.2.sub ha.2).mul (hc.1.sub ha.1))).mono (by omega)
theorem Bp.onl {K M:Nat} {a b:Pq} {t:Rat} (ha:Bp K a) (hb:Bp K b) (ht:Bn M t) (hK : 2*K+1<=M):Bp (4*M+1) (pat a b t):=
 ⟨((ha.1.mono (by omega)).add (((hb.1.sub ha.1).mono (by omega)).mul ht)).mono (by omega),((ha.2.mono (by omega)).add (((hb.2.sub ha.2).mono (by omega)).mul ht)).mono (by omega)⟩
theorem Bp.cut {K:Nat} {a b c d:Pq} (ha:Bp K a) (hb:Bp K b) (hc:Bp K c) (hd:Bp K d):Bp (128*K+100) (pat a b (A3 c d a / (A3 c d a-A3 c d b))):=
 by
 have h1:Bn (16*K+11) (A3 c d a):=(hc.cross hd ha).mono (by omega)
 have h2:Bn (16*K+11) (A3 c d a-A3 c d b):=((hc.cross hd ha).sub (hc.cross hd hb)).mono (by omega)
 have h3:Bn (32*K+22) (A3 c d a / (A3 c d a-A3 c d b)):=(h1.div h2 (by omega)).mono (by omega)
 exact (Bp.onl ha hb h3 (by omega)).mono (by omega)
def PtV (w:World) (v:Value) (p:Pq):Prop:=∃ a b c d e f g h:Value,v = .agg #[a,b,c,d,e,f,g,h]/\RatV w (.agg #[a,b,c,d]) p.1/\RatV w (.agg #[e,f,g,h]) p.2
theorem PtV.kept {w w':World} {v:Value} {p:Pq} (h:PtV w v p) (hg:w.grownBy w' none):PtV w' v p:=by
 obtain ⟨a,b,c,d,e,f,g,i,e1,h1,h2⟩:=h
 exact ⟨a,b,c,d,e,f,g,i,e1,h1.kept hg,h2.kept hg⟩
theorem PtV.keeps {W W':World} {v:Value} {p:Pq} (h:PtV W v p) (k:Keeps G6 W W'):PtV W' v p:=by
 obtain ⟨a,b,c,d,e,f,g,i,e1,h1,h2⟩:=h
 exact ⟨a,b,c,d,e,f,g,i,e1,h1.keeps k,h2.keeps k⟩
theorem RatV.one {w:World} {a b c d:Value} {r:Rat} (h:RatV w (.agg #[a,b,c,d]) r):a.oneCell'=true/\b.oneCell'=true/\c.oneCell'=true/\d.oneCell'=true:=by
 obtain ⟨s,xs,f,s',xs',f',e,_⟩:=h
 cases e;exact ⟨rfl,rfl,rfl,rfl⟩
theorem PtV.one {w:World} {a b c d e f g h:Value} {p:Pq} (hp:PtV w (.agg #[a,b,c,d,e,f,g,h]) p):∀ x ∈ [a,b,c,d,e,f,g,h],x.oneCell'=true:=by
 obtain ⟨a',b',c',d',e',f',g',h',q,h1,h2⟩:=hp
 cases q
 obtain ⟨i1,i2,i3,i4⟩:=h1.one
 obtain ⟨i5,i6,i7,i8⟩:=h2.one
 simp [i1,i2,i3,i4,i5,i6,i7,i8]
def sPt (p:Pq):Sp := .of (.agg 8) (fun v W=>PtV W v p) (fun v W h=>by
 have h0:=h
 obtain ⟨a,b,c,d,e,f,g,i,rfl,h1,h2⟩:=h
 exact ⟨H8 [a,b,c,d,e,f,g,i],C5 h0.one,rfl⟩) (fun v W W' k h=>h.keeps k)
theorem pt1 {W:World} {a b c d e f g h:Value} {p:Pq} : PtV W (.agg #[a,b,c,d,e,f,g,h]) p->RatV W (.agg #[a,b,c,d]) p.1:=by
 rintro ⟨a',b',c',d',e',f',g',h',q,h1,h2⟩;cases q;exact h1
theorem pt2 {W:World} {a b c d e f g h:Value} {p:Pq} : PtV W (.agg #[a,b,c,d,e,f,g,h]) p->RatV W (.agg #[e,f,g,h]) p.2:=by
 rintro ⟨a',b',c',d',e',f',g',h',q,h1,h2⟩;cases q;exact h2
theorem mkpt {W:World} {a b c d e f g h:Value} {p:Pq} (h1:RatV W (.agg #[a,b,c,d]) p.1) (h2:RatV W (.agg #[e,f,g,h]) p.2):PtV W (.agg #[a,b,c,d,e,f,g,h]) p:=⟨a,b,c,d,e,f,g,h,rfl,h1,h2⟩
def kV (w:World) (p:Pq) (e:Ending) (w':World):Prop:=∃ v,e = .returned v/\PtV w' v p/\w.grownBy w' none
theorem PtV.nil (w:World):PtV w (.agg #[.slice none 0 0,.bool false,.slice none 0 0,.bool false,.slice none 0 0,.bool false,.slice none 0 0,.bool false]) (0,0):=mkpt (RatV.zero w) (RatV.zero w)
def SgV (w:World) (v:Value) (p q:Pq):Prop:=∃ a b c d e f g h a' b' c' d' e' f' g' h':Value,v = .agg #[a,b,c,d,e,f,g,h,a',b',c',d',e',f',g',h']/\PtV w (.agg #[a,b,c,d,e,f,g,h]) p/\PtV w (.agg #[a',b',c',d',e',f',g',h']) q
theorem SgV.keeps {W W':World} {v:Value} {p q:Pq} (h:SgV W v p q) (k:Keeps G6 W W'):SgV W' v p q:=by
 obtain ⟨a,b,c,d,e,f,g,i,a',b',c',d',e',f',g',i',e1,h1,h2⟩:=h
 exact ⟨a,b,c,d,e,f,g,i,a',b',c',d',e',f',g',i',e1,h1.keeps k,h2.keeps k⟩
theorem SgV.kept {w w':World} {v:Value} {p q:Pq} (h:SgV w v p q) (hg:w.grownBy w' none):SgV w' v p q:=by
 obtain ⟨a,b,c,d,e,f,g,i,a',b',c',d',e',f',g',i',e1,h1,h2⟩:=h
 exact ⟨a,b,c,d,e,f,g,i,a',b',c',d',e',f',g',i',e1,h1.kept hg,h2.kept hg⟩
def sSg (p q:Pq):Sp := .of (.agg 16) (fun v W=>SgV W v p q) (fun v W h=>by
 obtain ⟨a,b,c,d,e,f,g,i,a',b',c',d',e',f',g',i',rfl,h1,h2⟩:=h
 refine ⟨H8 [a,b,c,d,e,f,g,i,a',b',c',d',e',f',g',i'],C5 (fun x hx=>?_),rfl⟩
 rcases List.mem_append.1 (show x ∈ [a,b,c,d,e,f,g,i]++[a',b',c',d',e',f',g',i'] from hx) with hx | hx
 · exact h1.one x hx
 · exact h2.one x hx) (fun v W W' k h=>h.keeps k)
theorem sg1 {W:World} {a b c d e f g h a' b' c' d' e' f' g' h':Value} {p q:Pq} : SgV W (.agg #[a,b,c,d,e,f,g,h,a',b',c',d',e',f',g',h']) p q->PtV W (.agg #[a,b,c,d,e,f,g,h]) p:=by
 rintro ⟨_,_,_,_,_,_,_,_,_,_,_,_,_,_,_,_,e,h1,h2⟩;cases e;exact h1
theorem sg2 {W:World} {a b c d e f g h a' b' c' d' e' f' g' h':Value} {p q:Pq} : SgV W (.agg #[a,b,c,d,e,f,g,h,a',b',c',d',e',f',g',h']) p q->PtV W (.agg #[a',b',c',d',e',f',g',h']) q:=by
 rintro ⟨_,_,_,_,_,_,_,_,_,_,_,_,_,_,_,_,e,h1,h2⟩;cases e;exact h2
theorem mksg {W:World} {a b c d e f g h a' b' c' d' e' f' g' h':Value} {p q:Pq} (h1:PtV W (.agg #[a,b,c,d,e,f,g,h]) p) (h2:PtV W (.agg #[a',b',c',d',e',f',g',h']) q):SgV W (.agg #[a,b,c,d,e,f,g,h,a',b',c',d',e',f',g',h']) p q:=
 ⟨_,_,_,_,_,_,_,_,_,_,_,_,_,_,_,_,rfl,h1,h2⟩
def sPP (p q:Pq):Sp := .of (.tup [(none,9),(none,9)]) (fun v W=>∃ u t,v = .tuple #[u,t]/\PtV W u p/\PtV W t q) (fun v W h=>by
 obtain ⟨u,t,rfl,h1,h2⟩:=h
 have i1:=h1;have i2:=h2
 obtain ⟨a,b,c,d,e,f,g,i,rfl,_⟩:=h1
 obtain ⟨a',b',c',d',e',f',g',i',rfl,_⟩:=h2
 refine Y4 (u := .bool true) (cs:=[a,b,c,d,e,f,g,i,a',b',c',d',e',f',g',i']) (fun x hx=>?_) rfl
 rcases List.mem_append.1 (show x ∈ [a,b,c,d,e,f,g,i]++[a',b',c',d',e',f',g',i'] from hx) with hx | hx
 · exact i1.one x hx
 · exact i2.one x hx) (fun v W W' k h=>by obtain ⟨u,t,e,h,h'⟩:=h;exact ⟨u,t,e,h.keeps k,h'.keeps k⟩)
theorem pp1 {p q:Pq} {a b:Value} {W:World} : (sPP p q).F (.tuple #[a,b]) W->PtV W a p:=by rintro ⟨u,t,e,h,_⟩;cases e;exact h
theorem pp2 {p q:Pq} {a b:Value} {W:World} : (sPP p q).F (.tuple #[a,b]) W->PtV W b q:=by rintro ⟨u,t,e,_,h⟩;cases e;exact h
def RetPP (w:World) (p q:Pq) (e:Ending) (w':World):Prop:=∃ v u,e = .returned (.tuple #[v,u])/\PtV w' v p/\PtV w' u q/\w.grownBy w' none
def sQQ (r t:Rat):Sp := .of (.tup [(none,5),(none,5)]) (fun v W=>∃ u s,v = .tuple #[u,s]/\RatV W u r/\RatV W s t) (fun v W h=>by
 obtain ⟨u,t,rfl,⟨s,xs,b,s',xs',b',rfl,_⟩,z,ys,c,z',ys',c',rfl,_⟩:=h
 exact Y4 (u := .bool true) (cs:=[.slice s xs.length xs.length,.bool b,.slice s' xs'.length xs'.length,.bool b',.slice z ys.length ys.length,.bool c,.slice z' ys'.length ys'.length,.bool c']) (by simp [Value.oneCell']) rfl) (fun v W W' k h=>by obtain ⟨u,t,e,h,h'⟩:=h;exact ⟨u,t,e,h.keeps k,h'.keeps k⟩)
theorem qq1 {r t:Rat} {a b:Value} {W:World} : (sQQ r t).F (.tuple #[a,b]) W->RatV W a r:=by rintro ⟨u,s,e,h,_⟩;cases e;exact h
theorem qq2 {r t:Rat} {a b:Value} {W:World} : (sQQ r t).F (.tuple #[a,b]) W->RatV W b t:=by rintro ⟨u,s,e,_,h⟩;cases e;exact h
def RetQQ (w:World) (r t:Rat) (e:Ending) (w':World):Prop:=∃ v u,e = .returned (.tuple #[v,u])/\RatV w' v r/\RatV w' u t/\w.grownBy w' none
section
variable {P:Program} {f:FuncId} {args:Array Value} {W:World}
theorem cN {p q:Pq} (h:Calls P f args W (RetPP W p q)):Calls P f args W (Ret W (sPP p q).F):=h.mono fun _ _ ⟨v,u,a,h,h',g⟩=>⟨_,a,⟨v,u,rfl,h,h'⟩,g⟩
theorem dU {r t:Rat} (h:Calls P f args W (RetQQ W r t)):Calls P f args W (Ret W (sQQ r t).F):=h.mono fun _ _ ⟨v,u,a,h,h',g⟩=>⟨_,a,⟨v,u,rfl,h,h'⟩,g⟩
end
def PAt (w:World) (cs:Array Value) (o:Nat) (p:Pq):Prop:=∃ a b c d e f g h:Value,cs[o]?=some a/\cs[o+1]?=some b/\cs[o+2]?=some c/\cs[o+3]?=some d/\cs[o+4]?=some e/\cs[o+5]?=some f/\cs[o+6]?=some g/\cs[o+7]?=some h/\PtV w (.agg #[a,b,c,d,e,f,g,h]) p
def PtsV (w:World) (v:Value) (l:List Pq):Prop:=∃ s n c,v = .slice s n c/\l.length=n/\n<=c/\(l=[] \/ ∃ b off cs,s=some ⟨b,off,none⟩/\w.heap[b]?=some (.cells cs 33 (0,0)) /\ ∀ i (h:i<l.length),PAt w cs (off+8*i) l[i])
def fpS (v:Value) (q:Nat):Prop:=∃ off n c,v = .slice (some ⟨q,off,none⟩) (n+1) c
def fpP (v:Value) (q:Nat):Prop:=∃ off,v = .pointer (some ⟨q,off,none⟩)
theorem PAt.keeps {W W':World} {cs:Array Value} {o:Nat} {p:Pq} (h:PAt W cs o p) (k:Keeps G6 W W'):PAt W' cs o p:=by
 obtain ⟨a,b,c,d,e,f,g,i,h1,h2,h3,h4,h5,h6,h7,h8,h9⟩:=h
 exact ⟨a,b,c,d,e,f,g,i,h1,h2,h3,h4,h5,h6,h7,h8,h9.keeps k⟩
theorem PtsV.keeps {W W':World} {v:Value} {l:List Pq} (h:PtsV W v l) (k:Keeps G6 W W') (hq:∀ q,fpS v q->W'.heap[q]?=W.heap[q]?):PtsV W' v l:=by
 obtain ⟨s,n,c,rfl,hl,hn,h⟩:=h
 refine ⟨s,n,c,rfl,hl,hn, ?_⟩
 by_cases h0:l=[]
 · exact .inl h0
 · obtain ⟨b,off,cs,rfl,hb,hc⟩:=h.resolve_left h0
   obtain ⟨m,rfl⟩:∃ m,n=m+1:=⟨n-1,by have:=List.length_pos_iff.2 h0;omega⟩
   exact .inr ⟨b,off,cs,rfl,by rw [hq b ⟨off,m,c,rfl⟩];exact hb,fun i hi=>(hc i hi).keeps k⟩
theorem PtsV.inb {W:World} {v:Value} {l:List Pq} (h:PtsV W v l) (q:Nat) (hq:fpS v q):q<W.heap.size:=by
 obtain ⟨s,n,c,rfl,hl,hn,h⟩:=h
 obtain ⟨off,m,c',e⟩:=hq
 cases e
 rcases h with h | ⟨b,off',cs,e,hb,_⟩
 · rw [h] at hl;simp at hl
 · cases e;exact (Array.getElem?_eq_some_iff.1 hb).1
def lL (s0:Nat) (l:List Pq):Sp where
 sh := .one
 F v W:=PtsV W v l /\ ∀ q,fpS v q->s0<=q
 fits v W h:=by obtain ⟨⟨s,n,c,rfl,_⟩,_⟩:=h;exact ⟨fun _ => .slice s n c,fun _=>rfl,rfl⟩
 row:=true
 fp v _ q:=fpS v q
 lasts v W W' k hq h:=⟨⟨h.1.keeps k hq,h.2⟩,fun _ h=>h⟩
 inb v W h q hq:=h.1.inb q hq
 flat h:=by cases h
def AtV (w:World) (v:Value) (p:Pq):Prop:=∃ b off cs,v = .pointer (some ⟨b,off,none⟩)/\w.heap[b]?=some (.cells cs 33 (0,0))/\PAt w cs off p
def sAt (p:Pq):Sp where
 sh := .one
 F v W:=AtV W v p
 fits v W h:=by obtain ⟨b,off,cs,rfl,_⟩:=h;exact ⟨fun _ => .pointer (some ⟨b,off,none⟩),fun _=>rfl,rfl⟩
 row:=true
 fp v _ q:=fpP v q
 lasts v W W' k hq h:=by
  obtain ⟨b,off,cs,rfl,hb,hc⟩:=h
  exact ⟨⟨b,off,cs,rfl,by rw [hq b ⟨off,rfl⟩];exact hb,hc.keeps k⟩,fun _ h=>h⟩
 inb v W h q hq:=by
  obtain ⟨b,off,cs,rfl,hb,hc⟩:=h
  obtain ⟨o,e⟩:=hq
  cases e;exact (Array.getElem?_eq_some_iff.1 hb).1
 flat h:=by cases h
def pL (w:World) (l:List Pq) (e:Ending) (w':World):Prop:=∃ v,e = .returned v/\PtsV w' v l/\w.grownBy w' none /\ ∀ q,fpS v q->w.heap.size<=q
theorem cM {P:Program} {f:FuncId} {args:Array Value} {W:World} {l:List Pq} {old:Nat->Prop} {s0:Nat} (hs:s0<=W.heap.size) (h:Calls P f args W (pL W l)):Calls P f args W (RetS W (lL s0 l) old):=
 h.mono fun _ _ ⟨v,a,h,g,hq⟩=>⟨v,a,⟨h,fun q hf=>Nat.le_trans hs (hq q hf)⟩,g,fun q hf => .inl (hq q hf)⟩
section
variable {P:Program} {ρ : Operand->Value} {o:Oper} {W:World}
theorem oK {t:TypeId} {x:Operand} {v:Value} {l:List Pq} (h:PtsV W v l) (ho:o.op = .call ⟨.builtin .len, #[x], #[t]⟩) (hx : ρ x=v) (hu:∃ el,Tryz.prog.underlying t=some (.slice el)) :
 (execOp ρ o).run Tryz.prog W = .ok (.value (.int .i64 l.length)) W:=by
 obtain ⟨s,n,c,rfl,hl,hn,h⟩:=h
 obtain ⟨el,hu⟩:=hu
 simp [execOp,ho,resolve,invoke,builtin,Builtin.len_,run_underlying hu W,hx,goInt,hl]
theorem oL {x y:Operand} {v:Value} {l:List Pq} (h:PtsV W v l) (ho:o.op = .indexAddr 23 x y) (hx : ρ x=v) (k:Nat) (hk:k<l.length) (hy : ρ y = .int .i64 k) :
 ∃ u,(execOp ρ o).run Tryz.prog W = .ok (.value u) W/\AtV W u l[k] /\ ∀ q,fpP u q->fpS v q:=by
 obtain ⟨s,n,c,rfl,hl,hn,h⟩:=h
 obtain ⟨b,off,cs,rfl,hb,hc⟩:=h.resolve_left (fun e=>by rw [e] at hk;simp at hk)
 have hu:Tryz.prog.underlying 23=some (.slice 33):=by kernel_rfl
 have hz:I7 Tryz.prog 33=some 8:=by kernel_rfl
 obtain ⟨m,rfl⟩:∃ m,n=m+1:=⟨n-1,by omega⟩
 have hk':(0:Int)<=(k:Int)/\(k:Int)<((m+1:Nat):Int):=by omega
 refine ⟨.pointer (some ⟨b,off+8*k,none⟩), ?_,⟨b,off+8*k,cs,rfl,hb,hc k hk⟩,fun q ⟨o',e⟩=>by cases e;exact ⟨off,m,c,rfl⟩⟩
 simp only [execOp,ho,hx,hy,Instr.indexAt,asIntOf,Sem.run_bind,Sem.run_pure,run_underlying hu W,Result.andThen_ok,hk',and_self,if_true,D3 Tryz.prog hz W,Instr.sureAddr,Addr.add_mid]
 rw [show (k:Int).toNat*8=8*k by omega]
theorem cV {x:Operand} {v:Value} {p:Pq} (h:AtV W v p) (ho:o.op = .load 33 x) (hx : ρ x=v) :
 ∃ u,(execOp ρ o).run Tryz.prog W = .ok (.value u) W/\PtV W u p:=by
 obtain ⟨q,off,cs,rfl,hb,a,b,c,d,e,f,g,i,h1,h2,h3,h4,h5,h6,h7,h8,hp⟩:=h
 refine ⟨_, ?_,hp⟩
 have ha:lQ Tryz.prog 33=some true:=by kernel_rfl
 have hz:I7 Tryz.prog 33=some 8:=by kernel_rfl
 have hl:(loadCells ⟨q,off,none⟩ [a,b,c,d,e,f,g,i].length).run Tryz.prog W = .ok [a,b,c,d,e,f,g,i].toArray W:=
  run_loadCells_list (P:=Tryz.prog) W ⟨q,off,none⟩ _ fun j v hv=>by
   rw [Addr.add_mid]
   simp only [World.cell?,hb]
   match j,hv with
   | 0,hv=>cases hv;simpa using h1
   | 1,hv=>cases hv;simpa using h2
   | 2,hv=>cases hv;simpa using h3
   | 3,hv=>cases hv;simpa using h4
   | 4,hv=>cases hv;simpa using h5
   | 5,hv=>cases hv;simpa using h6
   | 6,hv=>cases hv;simpa using h7
   | 7,hv=>cases hv;simpa using h8
   | n+8,hv=>simp at hv
 simp only [execOp,ho,hx,Instr.loadAt,Instr.sureAddr,loadVar,Sem.run_bind,Sem.run_pure,Result.andThen_ok,M8 Tryz.prog ha W,D3 Tryz.prog hz W,if_true]
 simp only [List.length_cons,List.length_nil] at hl
 rw [hl];rfl
end
end Go.Proofs.YtninnifpgpjfhaaGreatDoor
namespace Go.Proofs.YtninnifpgpjfhaaGreatDoor.PM
def pt0 (l:List Pq) (i:Nat):Pq:=l.getD i (0,0)
def nxt (l:List Pq) (i:Nat):Pq:=pt0 l ((i+1)%l.length)
def pass (i k:Int):Int:=if i<=0/\0<k then 1 else if 0<i/\k<=0 then -1 else 0
def qtr (p q:Pq):Int:=
 if 0<L9 q.1 p.1/\0<=L9 q.2 p.2 then 0 else if L9 q.1 p.1<=0/\0<L9 q.2 p.2 then 1 else if L9 q.1 p.1<0/\L9 q.2 p.2<=0 then 2 else 3
def gq (p x:Pq):Int:=if L9 x.1 p.1=1/\L9 x.2 p.2=0 then 4 else qtr p x
def three:List Int:=[-1,0,1]
end Go.Proofs.YtninnifpgpjfhaaGreatDoor.PM
