/- What the laws lean on, part 5. -/
import Derived.BigQuiet
import Derived.BigRegion
import Derived.Deep.AppendLies
import Derived.Deep.CutBlock
import Derived.Deep.CutRange
import Derived.Deep.DeepCutAuto
import Derived.Deep.LoopGhost
import Derived.Deep.QuietTactic
import Derived.Deep.RegionHeld3
import Derived.Laws.CopyOwn
import Derived.Laws.Externs
import Derived.Laws.IdiomStrings
import Derived.Lib.BitFns
import Derived.Lib.Hide
import Derived.Lib.Slices
import Derived.Lib.Small
import Derived.Lib.Strings
import Derived.Lib.Walk
import Derived.Outline
import Derived.OwnWalk
import Derived.Shelf.Bits.Mul64
import Derived.Shelf.Spec.TrailingZeros
import Derived.StillTailTactics
import Derived.WalkKit
import Derived.WalkLawsBesides
import Derived.WalkSpells
import Derived.Test.YtamdnbbgpacfkaaDoorProg
import Derived.Test.YtamdnbbgpacfkaaDoorMe4
set_option linter.unusedVariables false
set_option linter.unusedSimpArgs false
set_option maxRecDepth 100000
namespace Go.Proofs.YtamdnbbgpacfkaaDoor
open Go.RowKit Mat
theorem RRdo.below {w w':World} {N:Nat} {s:Option Addr} {xs:List Nat} (h:RRdo w s xs) (hb:Below N w w') (hN:w.heap.size<=N):RRdo w' s xs:=by
 rcases h with h | ⟨b,off,cs,e,h1,h2⟩
 · exact Or.inl h
 · exact Or.inr ⟨b,off,cs,e,(hb.block b (Nat.lt_of_lt_of_le h1.lt hN)).trans h1,h2⟩
theorem RefV.zero (w:World):RefV w (.agg #[.slice none 0 0]) 0:=⟨none,0,0,[],rfl,rfl,Nat.le_refl _,Or.inl rfl,fun x hx=>by simp at hx,Dig.nil _,rfl⟩
theorem RefV.set_other {w:World} {v:Value} {n g:Nat} {c:Array Value} {t:TypeId} (h:RefV w v n) (hbox:w.heap[g]?=some (.cells c t (0,0))) (ht:t≠3) (o:Nat) (u:Value):RefV (w.setCell ⟨g,o,none⟩ u) v n:=by
 obtain ⟨s,k,cap,xs,e,h1,h2,h3,h4⟩:=h
 exact ⟨s,k,cap,xs,e,h1,h2,h3.set_other hbox ht o u,h4⟩
def DigL (l:List Nat):Prop:=∀ k (h:k<l.length),48<=l[k]/\l[k]<=57
theorem DigL.append {l m:List Nat} (h:DigL l) (g:DigL m):DigL (l++m):=by
 intro k hk
 rcases Nat.lt_or_ge k l.length with h1 | h1
 · rw [List.getElem_append_left h1];exact h k h1
 · rw [List.getElem_append_right h1];exact g _ _
theorem DigL.drop {l:List Nat} (h:DigL l) (n:Nat):DigL (l.drop n):=by
 intro k hk
 rw [List.getElem_drop];exact h _ _
def dC (x y:Int):Int:=if x<y then -1 else if x=y then 0 else 1
theorem zcmp_pos {x y:Int} (hx : 0<=x) (hy : 0<=y):K7 x.natAbs y.natAbs=dC x y:=by
 unfold K7 dC
 rcases Int.lt_trichotomy x y with h | h | h
 · rw [if_pos (by omega),if_pos h]
 · rw [if_neg (by omega),if_pos (by omega),if_neg (by omega),if_pos h]
 · rw [if_neg (by omega),if_neg (by omega),if_neg (by omega),if_neg (by omega)]
theorem zcmp_neg {x y:Int} (hx:x<0) (hy:y<0):K7 y.natAbs x.natAbs=dC x y:=by
 unfold K7 dC
 rcases Int.lt_trichotomy x y with h | h | h
 · rw [if_pos (by omega),if_pos h]
 · rw [if_neg (by omega),if_pos (by omega),if_neg (by omega),if_pos h]
 · rw [if_neg (by omega),if_neg (by omega),if_neg (by omega),if_neg (by omega)]
theorem eE (x:Int):(x<0/\x.sign = -1)\/(x=0/\x.sign=0)\/(0<x/\x.sign=1):=by
 rcases Int.lt_trichotomy x 0 with h | h | h
 · left;exact ⟨h,Int.sign_eq_neg_one_of_neg h⟩
 · right;left;subst h;exact ⟨rfl,rfl⟩
 · right;right;exact ⟨h,Int.sign_eq_one_of_pos h⟩
theorem zcmp_cases (x y:Int):(x.sign<y.sign/\dC x y = -1)\/(y.sign<x.sign/\dC x y=1)\/(x.sign=y.sign/\x.sign<0/\x<0/\y<0)\/(x.sign=y.sign /\ ¬ x.sign<0/\0<=x/\0<=y):=by
 unfold dC
 rcases eE x with ⟨h,e⟩ | ⟨h,e⟩ | ⟨h,e⟩<;>rcases eE y with ⟨k,f⟩ | ⟨k,f⟩ | ⟨k,f⟩<;>rw [e,f]
 · right;right;left;exact ⟨rfl,by omega,h,k⟩
 · left;exact ⟨by omega,if_pos (by omega)⟩
 · left;exact ⟨by omega,if_pos (by omega)⟩
 · right;left;refine ⟨by omega, ?_⟩;rw [if_neg (by omega),if_neg (by omega)]
 · right;right;right;exact ⟨rfl,by omega,by omega,by omega⟩
 · left;exact ⟨by omega,if_pos (by omega)⟩
 · right;left;refine ⟨by omega, ?_⟩;rw [if_neg (by omega),if_neg (by omega)]
 · right;left;refine ⟨by omega, ?_⟩;rw [if_neg (by omega),if_neg (by omega)]
 · right;right;right;exact ⟨rfl,by omega,by omega,by omega⟩
set_option maxHeartbeats 8000000 in
theorem nH (w:World) (va vb:Value) (x y:Int) (K:Nat) (ha:IntV w va x) (hb:IntV w vb y) (hK:K<=900000) (la:x.natAbs<B^K) (lb:y.natAbs<B^K) :
 Calls Tryd.prog 26 #[va,vb] w (fun e w'=>e = .returned (.int .i64 (dC x y))/\w.grownBy w' none):=by
 obtain ⟨sa,xs,za,rfl,hx,hv,hza⟩:=ha
 obtain ⟨sb,ys,zb,rfl,hy,hvy,hzb⟩:=hb
 have hgw0:w.grownBy ((w.alloc (.cells #[.slice sa xs.length xs.length,.bool za] 29)).alloc (.cells #[.slice sb ys.length ys.length,.bool zb] 29)) none:=B1 (World.grownBy_alloc _ _ _) _
 have hbb:=A9 (w.alloc (.cells #[.slice sa xs.length xs.length,.bool za] 29)) (.cells #[.slice sb ys.length ys.length,.bool zb] 29) (w.heap.size+1) (by simp)
 have hba:=A5 (World.grownBy_alloc _ (.cells #[.slice sb ys.length ys.length,.bool zb] 29) none) (A9 w (.cells #[.slice sa xs.length xs.length,.bool za] 29) w.heap.size rfl)
 have ia:IntV ((w.alloc (.cells #[.slice sa xs.length xs.length,.bool za] 29)).alloc (.cells #[.slice sb ys.length ys.length,.bool zb] 29)) (.agg #[.slice sa xs.length xs.length,.bool za]) x:=⟨sa,xs,za,rfl,hx.kept hgw0,hv,hza⟩
 have ib:IntV ((w.alloc (.cells #[.slice sa xs.length xs.length,.bool za] 29)).alloc (.cells #[.slice sb ys.length ys.length,.bool zb] 29)) (.agg #[.slice sb ys.length ys.length,.bool zb]) y:=⟨sb,ys,zb,rfl,hy.kept hgw0,hvy,hzb⟩
 have na:NatV ((w.alloc (.cells #[.slice sa xs.length xs.length,.bool za] 29)).alloc (.cells #[.slice sb ys.length ys.length,.bool zb] 29)) (.agg #[.slice sa xs.length xs.length]) x.natAbs:=⟨sa,xs,rfl,hx.kept hgw0,hv⟩
 have nn:NatV ((w.alloc (.cells #[.slice sa xs.length xs.length,.bool za] 29)).alloc (.cells #[.slice sb ys.length ys.length,.bool zb] 29)) (.agg #[.slice sb ys.length ys.length]) y.natAbs:=⟨sb,ys,rfl,hy.kept hgw0,hvy⟩
 have Hla:=Lib.hid la
 have Hlb:=Lib.hid lb
 have hc:=zcmp_cases x y
 obtain ⟨s1,h1⟩:∃ s,x.sign=s:=⟨_,rfl⟩
 obtain ⟨s2,h2⟩:∃ s,y.sign=s:=⟨_,rfl⟩
 rw [h1,h2] at hc
 have H1:=Lib.hid h1
 have H2:=Lib.hid h2
 clear hx hv hy hvy la lb hza hzb h1 h2
 have hc4:(decide (s1<s2)=true/\Hid (dC x y = -1))\/(decide (s1<s2)=false/\decide (s2<s1)=true/\Hid (dC x y=1))\/(decide (s1<s2)=false/\decide (s2<s1)=false/\decide (s1<0)=true/\Hid (K7 y.natAbs x.natAbs=dC x y))\/(decide (s1<s2)=false/\decide (s2<s1)=false/\decide (s1<0)=false/\Hid (K7 x.natAbs y.natAbs=dC x y)):=by
  rcases hc with ⟨q,r⟩ | ⟨q,r⟩ | ⟨q,r,t,u⟩ | ⟨q,r,t,u⟩
  · left;exact ⟨decide_eq_true q,r⟩
  · right;left;exact ⟨decide_eq_false (by omega),decide_eq_true q,r⟩
  · right;right;left;exact ⟨decide_eq_false (by omega),decide_eq_false (by omega),decide_eq_true r,zcmp_neg t u⟩
  · right;right;right;exact ⟨decide_eq_false (by omega),decide_eq_false (by omega),decide_eq_false r,zcmp_pos t u⟩
 clear hc
 rcases hc4 with ⟨f1,hz⟩ | ⟨f1,f2,hz⟩ | ⟨f1,f2,f3,hz⟩ | ⟨f1,f2,f3,hz⟩
 all_goals (
  go_enter Tryd.func26,Tryd.ntmps26
  go_wp2_with fail
  generalize ((w.alloc (.cells #[.slice sa xs.length xs.length,.bool za] 29)).alloc (.cells #[.slice sb ys.length ys.length,.bool zb] 29))=w0 at *
  obtain ⟨ca0,ca1,fa0,fa1⟩:=A7 hba
  obtain ⟨cb0,cb1,fb0,fb1⟩:=A7 hbb
  go_region_held3 (fun w'=>w'.cell? ⟨w.heap.size,0,none⟩=some (.slice sa xs.length xs.length)/\w'.cell? ⟨w.heap.size,1,none⟩=some (.bool za)/\w'.cell? ⟨w.heap.size+1,0,none⟩=some (.slice sb ys.length ys.length)/\w'.cell? ⟨w.heap.size+1,1,none⟩=some (.bool zb))
   (first | assumption | exact ⟨ca0,ca1,cb0,cb1⟩ | go_keep)
   (first
    | (go_at_call 55;(with_reducible refine (F7 w0.drew _ x K (ia.kept (C7 (B5 _ _))) (by omega) Hla.out).mono ?_);rintro e w1 ⟨rfl,g1⟩;rw [H1.out];have hG1:=O1 w0 g1 rfl rfl rfl rfl;have hS1:=And.intro (hG1.cell ca0 (by simp)) (And.intro (hG1.cell ca1 (by simp)) (And.intro (hG1.cell cb0 (by simp)) (hG1.cell cb1 (by simp)))))
    | (go_at_call 55;(with_reducible refine (F7 w1 _ y K (ib.kept hG1) (by omega) Hlb.out).mono ?_);rintro e w2 ⟨rfl,g2⟩;rw [H2.out];have hG2:=A4 hG1 g2;have hS2:=And.intro (hG2.cell ca0 (by simp)) (And.intro (hG2.cell ca1 (by simp)) (And.intro (hG2.cell cb0 (by simp)) (hG2.cell cb1 (by simp))))))
  have hgw:=A4 hgw0 hG2
  obtain ⟨da0,da1,ga0,ga1⟩:=A7 (A5 hG2 hba)
  obtain ⟨db0,db1,gb0,gb1⟩:=A7 (A5 hG2 hbb)
  have na2:=na.kept hG2
  have nn2:=nn.kept hG2
  go_wp2_with fail)
 · go_ret
   exact ⟨by rw [hz.out];rfl,hgw⟩
 · go_ret
   exact ⟨by rw [hz.out];rfl,hgw⟩
 · refine (Cmp_any w2 _ _ y.natAbs x.natAbs K nn2 na2 (by omega) Hlb.out Hla.out).mono ?_
   rintro e w3 ⟨rfl,g3⟩
   go_wp2_with fail
   go_ret
   exact ⟨by rw [<- hz.out];rfl,A4 hgw g3⟩
 · refine (Cmp_any w2 _ _ x.natAbs y.natAbs K na2 nn2 (by omega) Hla.out Hlb.out).mono ?_
   rintro e w3 ⟨rfl,g3⟩
   go_wp2_with fail
   go_ret
   exact ⟨by rw [<- hz.out];rfl,A4 hgw g3⟩
def bW (z:Int):Prop := -9223372036854775808<=z/\z<=9223372036854775807
instance (z:Int):Decidable (bW z):=by unfold bW;infer_instance
def Z1 (w:World) (z:Int) (e:Ending) (w':World):Prop:=
 e = .returned (.tuple #[.int .i64 (if bW z then z else 0),.bool (decide (bW z))])/\w.grownBy w' none
theorem dK {w w':World} {z c:Int} (h:bW z) (hc:c=z) (hg:w.grownBy w' none):Z1 w z (.returned (.tuple #[.int .i64 c,.bool true])) w':=
 ⟨by rw [if_pos h,decide_eq_true h,hc],hg⟩
theorem Z7 {w w':World} {z:Int} (h:¬ bW z) (hg:w.grownBy w' none):Z1 w z (.returned (.tuple #[.int .i64 0,.bool false])) w':=
 ⟨by rw [if_neg h,decide_eq_false h],hg⟩
set_option maxHeartbeats 4000000 in
theorem nG (w:World) (va:Value) (z:Int) (K:Nat) (ha:IntV w va z) (hK:K<=900000) (la:z.natAbs<B^K) :
 Calls Tryd.prog 105 #[va] w (Z1 w z):=by
 obtain ⟨sa,xs,za,rfl,hx,hv,hza⟩:=ha
 have hgw0:=World.grownBy_alloc w (.cells #[.slice sa xs.length xs.length,.bool za] 29) none
 have hba:=A9 w (.cells #[.slice sa xs.length xs.length,.bool za] 29) w.heap.size rfl
 have ia:IntV (w.alloc (.cells #[.slice sa xs.length xs.length,.bool za] 29)) (.agg #[.slice sa xs.length xs.length,.bool za]) z:=⟨sa,xs,za,rfl,hx.kept hgw0,hv,hza⟩
 have na:NatV (w.alloc (.cells #[.slice sa xs.length xs.length,.bool za] 29)) (.agg #[.slice sa xs.length xs.length]) z.natAbs:=⟨sa,xs,rfl,hx.kept hgw0,hv⟩
 have Hla:=Lib.hid la
 obtain ⟨s1,h1⟩:∃ s,z.sign=s:=⟨_,rfl⟩
 have H1:=Lib.hid h1
 have hB:B=18446744073709551616:=rfl
 have hc:(Hid (¬ bW z)/\decide (z.natAbs<B)=false) \/
  (decide (z.natAbs<B)=true/\decide (s1<0)=true/\decide ((z.natAbs:Int)<=9223372036854775808)=true/\Hid (bW z/\z<0)) \/
  (decide (z.natAbs<B)=true/\decide (s1<0)=true/\decide (0<=s1)=false/\decide ((z.natAbs:Int)<=9223372036854775808)=false/\Hid (¬ bW z)) \/
  (decide (z.natAbs<B)=true/\decide (s1<0)=false/\decide (0<=s1)=true/\decide ((z.natAbs:Int)<9223372036854775808)=true/\Hid (bW z/\0<=z)) \/
  (decide (z.natAbs<B)=true/\decide (s1<0)=false/\decide (0<=s1)=true/\decide ((z.natAbs:Int)<9223372036854775808)=false/\Hid (¬ bW z)):=by
  have hs:(z<0/\s1<0)\/(0<=z/\0<=s1):=by
   rcases eE z with ⟨h,e⟩ | ⟨h,e⟩ | ⟨h,e⟩<;>omega
  have hf:bW z ↔ (-9223372036854775808<=z/\z<=9223372036854775807):=Iff.rfl
  by_cases q:z.natAbs<B
  · right
    rcases hs with ⟨h,k⟩ | ⟨h,k⟩
    · by_cases r:(z.natAbs:Int)<=9223372036854775808
      · left;exact ⟨decide_eq_true q,decide_eq_true k,decide_eq_true r,hf.2 (by omega),h⟩
      · right;left;exact ⟨decide_eq_true q,decide_eq_true k,decide_eq_false (by omega),decide_eq_false r,fun t=>by have:=hf.1 t;omega⟩
    · by_cases r:(z.natAbs:Int)<9223372036854775808
      · right;right;left;exact ⟨decide_eq_true q,decide_eq_false (by omega),decide_eq_true k,decide_eq_true r,hf.2 (by omega),h⟩
      · right;right;right;exact ⟨decide_eq_true q,decide_eq_false (by omega),decide_eq_true k,decide_eq_false r,fun t=>by have:=hf.1 t;omega⟩
  · left;exact ⟨fun t=>by have:=hf.1 t;omega,decide_eq_false q⟩
 clear hx hv la h1 hza hB
 obtain ⟨x,hx⟩:∃ x,z.natAbs=x:=⟨_,rfl⟩
 have HX:=Lib.hid hx
 rw [hx] at hc na Hla
 clear hx
 rcases hc with ⟨hz,f0⟩ | ⟨f0,f1,f2,hz⟩ | ⟨f0,f1,f3,f2,hz⟩ | ⟨f0,f1,f3,f2,hz⟩ | ⟨f0,f1,f3,f2,hz⟩
 all_goals (
  obtain ⟨ca0,ca1,fa0,fa1⟩:=A7 hba
  go_enter Tryd.func105,Tryd.ntmps105
  go_wp2_with fail
  refine (Word_any _ _ x K na (by omega) Hla.out).mono ?_
  rintro e w1 ⟨⟨y,rfl,hy,hy0⟩,g1⟩
  rw [f0]
  have hgw:=A4 hgw0 g1
  have ia1:=ia.kept g1
  have hba1:=A5 g1 hba
  obtain ⟨da0,da1,ga0,ga1⟩:=A7 hba1
  clear g1 ia hba ca0 ca1 fa0 fa1 na hgw0)
 · clear hy hy0
   have hF:Hid (Z1 w z (.returned (.tuple #[.int .i64 0,.bool false])) w1):=Z7 hz.out hgw
   go_wp2_with fail
   go_ret2
   exact hF.out
 · obtain rfl:y=x:=hy (of_decide_eq_true f0)
   clear hy hy0
   go_wp2_with fail
   refine (F7 w1 _ z K ia1 (by omega) (by rw [HX.out];exact Hla.out)).mono ?_
   rintro e w2 ⟨rfl,g2⟩
   rw [H1.out]
   obtain ⟨ea0,ea1,ha0,ha1⟩:=A7 (A5 g2 hba1)
   have hgw2:=A4 hgw g2
   go_wp2_with fail
   go_ret2
   refine dK hz.out.1 ?_ hgw2
   have q1:=HX.out
   have q2:=hz.out.2
   have q3:=of_decide_eq_true f2
   simp only [IntKind.wrap_u64]
   unfold wrap64
   omega
 · obtain rfl:y=x:=hy (of_decide_eq_true f0)
   clear hy hy0
   go_wp2_with fail
   refine (F7 w1 _ z K ia1 (by omega) (by rw [HX.out];exact Hla.out)).mono ?_
   rintro e w2 ⟨rfl,g2⟩
   rw [H1.out]
   have hba2:=A5 g2 hba1
   obtain ⟨ea0,ea1,ha0,ha1⟩:=A7 hba2
   have hgw2:=A4 hgw g2
   have ia2:=ia1.kept g2
   go_wp2_with fail
   refine (F7 w2 _ z K ia2 (by omega) (by rw [HX.out];exact Hla.out)).mono ?_
   rintro e w3 ⟨rfl,g3⟩
   rw [H1.out]
   have hF:Hid (Z1 w z (.returned (.tuple #[.int .i64 0,.bool false])) w3):=Z7 hz.out (A4 hgw2 g3)
   go_wp2_with fail
   go_ret2
   exact hF.out
 · obtain rfl:y=x:=hy (of_decide_eq_true f0)
   clear hy hy0
   go_wp2_with fail
   refine (F7 w1 _ z K ia1 (by omega) (by rw [HX.out];exact Hla.out)).mono ?_
   rintro e w2 ⟨rfl,g2⟩
   rw [H1.out]
   have hba2:=A5 g2 hba1
   obtain ⟨ea0,ea1,ha0,ha1⟩:=A7 hba2
   have hgw2:=A4 hgw g2
   have ia2:=ia1.kept g2
   go_wp2_with fail
   refine (F7 w2 _ z K ia2 (by omega) (by rw [HX.out];exact Hla.out)).mono ?_
   rintro e w3 ⟨rfl,g3⟩
   rw [H1.out]
   have hgw3:=A4 hgw2 g3
   go_wp2_with fail
   go_ret2
   refine dK hz.out.1 ?_ hgw3
   have q1:=HX.out
   have q2:=hz.out.2
   have q3:=of_decide_eq_true f2
   try unfold wrap64
   omega
 · obtain rfl:y=x:=hy (of_decide_eq_true f0)
   clear hy hy0
   go_wp2_with fail
   refine (F7 w1 _ z K ia1 (by omega) (by rw [HX.out];exact Hla.out)).mono ?_
   rintro e w2 ⟨rfl,g2⟩
   rw [H1.out]
   have hba2:=A5 g2 hba1
   obtain ⟨ea0,ea1,ha0,ha1⟩:=A7 hba2
   have hgw2:=A4 hgw g2
   have ia2:=ia1.kept g2
   go_wp2_with fail
   refine (F7 w2 _ z K ia2 (by omega) (by rw [HX.out];exact Hla.out)).mono ?_
   rintro e w3 ⟨rfl,g3⟩
   rw [H1.out]
   have hF:Hid (Z1 w z (.returned (.tuple #[.int .i64 0,.bool false])) w3):=Z7 hz.out (A4 hgw2 g3)
   go_wp2_with fail
   go_ret2
   exact hF.out
theorem zfl {x y q r:Int} (h0 : 0<=r) (h1:r<y.natAbs) (h:r+y*q=x):q=x / y/\r=x%y:=by
 rcases Int.lt_trichotomy y 0 with hy | hy | hy
 · have t:x / (-y) = -q/\x%(-y)=r:=(Int.ediv_emod_unique (by omega)).2 ⟨by rw [Int.neg_mul_neg];exact h,h0,by omega⟩
   rw [Int.ediv_neg,Int.emod_neg] at t
   exact ⟨by omega,t.2.symm⟩
 · subst hy;simp at h1;omega
 · have t:x / y=q/\x%y=r:=(Int.ediv_emod_unique hy).2 ⟨h,h0,by omega⟩
   exact ⟨t.1.symm,t.2.symm⟩
theorem gV {x y:Int} {za zb:Bool} (ha:za=true ↔ x<0) (hb:zb=true ↔ y<0) (k r:Nat) (hr:r<y.natAbs) (h:(¬ x<0/\y.natAbs*k+r=x.natAbs)\/(x<0/\y.natAbs*k=x.natAbs+r)) :
 (if (za != zb)=true then -(k:Int) else k)=x / y/\(r:Int)=x%y:=by
 refine zfl (by omega) (by omega) ?_
 have e:((y.natAbs*k:Nat):Int)=(y.natAbs:Int)*(k:Int):=Int.natCast_mul _ _
 have e1:=aY ha
 have e2:=aY hb
 obtain ⟨m,hm⟩:∃ m:Int,(y.natAbs:Int)=m:=⟨_,rfl⟩
 have f1:m * -(k:Int) = -(m*k):=Int.mul_neg _ _
 have f2 : -m*(k:Int) = -(m*k):=Int.neg_mul _ _
 have f3 : -m * -(k:Int)=m*k:=Int.neg_mul_neg _ _
 rw [hm] at e e2
 generalize y.natAbs*k=p at *
 cases za<;>cases zb<;>simp at e1 e2 ha hb ⊢
 · rw [<- e2];omega
 · rw [<- e2,f3];omega
 · rw [<- e2,f1];omega
 · rw [<- e2,f2];omega
def bV (w:World) (n k:Int) (code:Int) (e:Ending) (w':World):Prop:=∃ v u,e = .returned (.tuple #[v,u,.int .i64 code])/\IntV w' v n/\IntV w' u k/\w.grownBy w' none
theorem IntV.zero (w:World):IntV w (.agg #[.slice none 0 0,.bool false]) 0:=⟨none,[],false,rfl,⟨Or.inl rfl,fun _=>rfl,by intro x hx;simp at hx,Dig.nil _⟩,rfl,by simp⟩
theorem IntV.set_other {w:World} {v:Value} {n:Int} {g:Nat} {c:Array Value} {t:TypeId} (h:IntV w v n) (hbox:w.heap[g]?=some (.cells c t (0,0))) (ht:t≠52) (o:Nat) (u:Value):IntV (w.setCell ⟨g,o,none⟩ u) v n:=by
 obtain ⟨sa,xs,b,e,h1,h2⟩:=h
 exact ⟨sa,xs,b,e,h1.set_other hbox ht o u,h2⟩
theorem run_field (v:Value) (W:World):(Instr.field 27 (.agg #[v]) 0).run Tryd.prog W = .ok v W:=by kernel_rfl
def Tab (w:World):Prop:=TabAt 0 Lib.deBruijn64tab w
theorem Tab.kept {w w':World} {row:Option Nat} (h:Tab w) (hg:w.grownBy w' row) (hr:some 0≠row):Tab w':=fun j hj=>hg.cell (h j hj) hr
theorem Tab.size {w:World} (h:Tab w) : 0<w.heap.size:=by
 have:=h 0 (by decide)
 unfold World.cell? at this
 rcases Nat.lt_or_ge 0 w.heap.size with h1 | h1
 · exact h1
 · rw [Array.getElem?_eq_none h1] at this;simp at this
set_option maxHeartbeats 1000000 in
theorem tz_core (x k idx:Nat) (w:World) (hx0:((x:Int) == 0)=false)
 (key:IntKind.u64.wrap (bits BinOp.and IntKind.u64 (x:Int) (IntKind.u64.wrap (-(x:Int)))*285870213051353865) / 288230376151711744=(idx:Int))
 (hi:idx<64) (hk:k<64) (hcell:w.cell? ⟨0,idx,none⟩=some (.int .u8 k)) :
 Calls Tryd.prog 118 #[.int .u64 x] w fun e w'=>e = .returned (.int .i64 k)/\w'=w:=by
 go_enter Tryd.func118,Tryd.ntmps118
 go_wp2_with (simp only [key])
 go_ret
 exact ⟨rfl,rfl⟩
theorem tz_any (x:Nat) (hx:x<B) (h0:x≠0) (w:World) (hT:Tab w) :
 Calls Tryd.prog 118 #[.int .u64 x] w fun e w'=>e = .returned (.int .i64 (Lib.ctz 64 x))/\w'=w:=by
 have hx':x<18446744073709551616:=hx
 obtain ⟨hlow,hk⟩:=Lib.lowest_bit 64 x h0 hx'
 obtain ⟨hi,htab⟩:=Lib.deBruijn64_at _ hk
 have hcell:=hT _ hi
 rw [htab] at hcell
 exact tz_core x _ _ w (by simp;omega) (tz64_key x _ hx' h0 hlow) hi hk hcell
theorem mO (x:Nat) (hx:x<B) (h0:x≠0):∃ m,x=2^Lib.ctz 64 x*(2*m+1)/\Lib.ctz 64 x<64:=by
 have hx':x<2^64:=hx
 have:=Lib.ctzFrom_spec 64 x (by omega) hx'
 unfold Lib.ctz
 rw [if_neg h0]
 exact this
theorem twos_spec {xs:List Nat} (dx:Dig B xs) (k x:Nat) (hk:k<xs.length) (ex:xs[k]=x) (h0:val B (xs.take k)=0) (hx:x≠0):∃ m,val B xs=2^(k*64+Lib.ctz 64 x)*(2*m+1)/\Lib.ctz 64 x<64:=by
 have hxB:x<B:=ex ▸ dx.get k _
 obtain ⟨m,hm,ht⟩:=mO x hxB hx
 generalize Lib.ctz 64 x=t at *
 have h1:=J6 B xs k (by omega)
 rw [h0,Nat.zero_add,List.drop_eq_getElem_cons hk,ex] at h1
 have h2:val B (x :: xs.drop (k+1))=x+B*val B (xs.drop (k+1)):=rfl
 rw [h2] at h1
 obtain ⟨d,hd⟩:∃ d,64=t+(d+1):=⟨63-t,by omega⟩
 have hB:B=2^t*(2^d*2):=by rw [<- Nat.pow_succ, <- Nat.pow_add, <- hd, <- Z5]
 have hBk:B^k=2^(k*64):=by rw [Z5, <- Nat.pow_mul,Nat.mul_comm]
 refine ⟨m+2^d*val B (xs.drop (k+1)), ?_,ht⟩
 rw [h1,hBk,Nat.pow_add,Nat.mul_assoc]
 congr 1
 rw [hB]
 generalize val B (xs.drop (k+1))=r
 rw [hm]
 generalize 2^t=a
 generalize 2^d=b
 grind
def TwosOf (w:World) (v:Nat) (n:Nat) (e:Ending) (w':World):Prop:=∃ t m:Nat,e = .returned (.int .i64 (t:Int))/\v=2^t*(2*m+1)/\t<64*n/\w=w'
set_option maxHeartbeats 1000000 in
theorem eF (w:World) (sa:Option Addr) (n cap:Nat) (xs:List Nat) (hn:xs.length=n) (hx:Rdo w sa xs) (dx:Dig B xs) (h0 : 0<val B xs) (bn:n<=1073741824) (hT:Tab w) :
 Calls Tryd.prog 107 #[.slice sa n cap] w (TwosOf w (val B xs) n):=by
 have Hn:=Lib.hid hn
 have H0:=Lib.hid h0
 have HT:=Lib.hid hT
 have hn0 : 0<n:=by
  rw [<- hn]
  rcases Nat.eq_zero_or_pos xs.length with h | h
  · rw [List.length_eq_zero_iff.1 h] at h0;simp [val] at h0
  · exact h
 clear hn h0 hT
 go_enter Tryd.func107,Tryd.ntmps107
 go_wp2_with fail
 go_loopw [3] (fun i wr=>∃ (k:Nat),k<n/\i = .int .i64 k/\w=wr/\Hid (val B (xs.take k)=0)) (fun i _=>n-(intOf i).toNat)
 case atStart=>exact ⟨0,hn0,rfl,rfl,by show _=_;rw [List.take_zero];rfl⟩
 case round=>
  obtain ⟨k,hk,rfl,rfl,hv⟩:=hrel
  obtain ⟨b1,o1,rfl,c1⟩:=hx.cell (by rw [Hn.out];omega)
  have c1:=c1 k (by rw [Hn.out];omega)
  obtain ⟨x,ex⟩:∃ x,xs[k]'(by rw [Hn.out];omega)=x:=⟨_,rfl⟩
  rw [ex] at c1
  have hxB:x<B:=ex ▸ dx.get k _
  have EX:=Lib.hid ex
  clear ex
  by_cases hz:x=0
  · subst hz
    have hv2:val B (xs.take (k+1))=0:=by rw [B9 B xs k (by rw [Hn.out];omega),EX.out,hv.out];omega
    have hk2:k+1<n:=by
     rcases Nat.lt_or_ge (k+1) n with h | h
     · exact h
     · have:=H0.out
       rw [List.take_of_length_le (by rw [Hn.out];omega)] at hv2
       omega
    have HV2:=Lib.hid hv2
    clear hv2
    go_wp2_with fail
    go_roundw
    case rel=>exact ⟨k+1,by omega,by go_num,by trivial,HV2⟩
    case measure=>simp [intOf];omega
  · have t:((x:Int) == 0)=false:=beq_eq_false_iff_ne.2 (by omega)
    obtain ⟨m,hm,ht⟩:=twos_spec dx k x (by rw [Hn.out];omega) EX.out hv.out hz
    obtain ⟨q,hq⟩:∃ q,Lib.ctz 64 x=q:=⟨_,rfl⟩
    have hC:=tz_any x hxB hz w HT.out
    rw [hq] at hm ht hC
    have HC:=Lib.hid hC
    have HM:=Lib.hid hm
    clear hC hm hq hxB hz
    go_wp2_with fail
    refine HC.out.mono ?_
    rintro e w' ⟨rfl,rfl⟩
    go_wp2_with fail
    go_ret
    exact ⟨k*64+q,m,congrArg Ending.returned (congrArg (Value.int IntKind.i64) (by omega)),HM.out,by omega,rfl⟩
theorem fA {x y t m:Nat} (hy:y%2=1) (hxy:y<x) (h:x-y=2^t*(2*m+1)):Nat.gcd (2*m+1) y=Nat.gcd x y:=by
 have h1:Nat.gcd x y=Nat.gcd (x-y) y:=(Nat.gcd_sub_self_left (Nat.le_of_lt hxy)).symm
 rw [h1,h]
 have hc:Nat.Coprime (2^t) y:=by
  apply Nat.Coprime.pow_left
  rw [Nat.coprime_comm]
  unfold Nat.Coprime
  rw [Nat.gcd_comm,Nat.gcd_rec,hy]
  rfl
 rw [Nat.Coprime.gcd_mul_left_cancel _ hc]
set_option maxHeartbeats 1000000 in
theorem lL (w:World) (x0 y0:Nat) (hx:x0<B) (hy:y0<B) (ox:x0%2=1) (oy:y0%2=1) (hT:Tab w) :
 Calls Tryd.prog 119 #[.int .u64 x0,.int .u64 y0] w fun e w'=>e = .returned (.int .u64 (Nat.gcd x0 y0:Int))/\w=w':=by
 have HT:=Lib.hid hT
 clear hT
 obtain ⟨g,hg⟩:∃ g,Nat.gcd x0 y0=g:=⟨_,rfl⟩
 rw [hg]
 have HG:=Lib.hid hg
 clear hg
 go_enter Tryd.func119,Tryd.ntmps119
 go_wp2_with fail
 go_loopw [0,1] (fun a b wr=>∃ (x y:Nat),a = .int .u64 x/\b = .int .u64 y/\x<B/\y<B/\x%2=1/\y%2=1/\w=wr/\Hid (Nat.gcd x y=g)) (fun a b _=>(intOf a).toNat+(intOf b).toNat)
 case atStart=>exact ⟨x0,y0,rfl,rfl,hx,hy,ox,oy,rfl,HG⟩
 case round=>
  obtain ⟨x,y,rfl,rfl,hxB,hyB,ox,oy,rfl,hg⟩:=hrel
  rcases Nat.lt_trichotomy y x with h | h | h
  · have f1:((x:Int) == (y:Int))=false:=beq_eq_false_iff_ne.2 (by omega)
    have f2:decide (x<y)=false:=decide_eq_false (by omega)
    have f3:IntKind.u64.wrap ((x:Int)-(y:Int))=((x-y:Nat):Int):=by rw [IntKind.wrap_u64];unfold B at *;omega
    obtain ⟨d,hd⟩:∃ d,x-y=d:=⟨_,rfl⟩
    rw [hd] at f3
    have hC:=tz_any d (by omega) (by omega) w HT.out
    obtain ⟨m,hm,hq64⟩:=mO d (by omega) (by omega)
    obtain ⟨q,hq⟩:∃ q,Lib.ctz 64 d=q:=⟨_,rfl⟩
    rw [hq] at hm hC hq64
    have HC:=Lib.hid hC
    have HM:=Lib.hid hm
    have HD:=Lib.hid hd
    have HX:=Lib.hid h
    clear hC hm hd h
    go_wp2_with fail
    refine HC.out.mono ?_
    rintro e w' ⟨rfl,rfl⟩
    go_wp2_with fail
    have hgc:Hid (Nat.gcd (2*m+1) y=g):=by show _=_;rw [fA oy HX.out (HD.out.trans HM.out)];exact hg.out
    have hdv:d / 2^q=2*m+1:=by rw [HM.out];exact Nat.mul_div_cancel_left _ (Nat.two_pow_pos q)
    have hle : 2*m+1<=d:=by rw [HM.out];exact Nat.le_mul_of_pos_left _ (Nat.two_pow_pos q)
    have hdx:d<x:=by have:=HD.out;omega
    have hdi:(d:Int) / 2^q=((2*m+1:Nat):Int):=by rw [<- hdv];norm_cast
    go_roundw
    case rel=>
     refine ⟨2*m+1,y, ?_,rfl,by omega,hyB,by omega,oy,by trivial,hgc⟩
     rw [hdi]
    case measure=>
     rw [hdi]
     simp only [intOf]
     omega
  · subst h
    have f1:((y:Int) == (y:Int))=true:=beq_self_eq_true _
    rw [Nat.gcd_self] at hg
    have HG2:=hg.out
    subst HG2
    go_wp2_with fail
    go_ret
    exact ⟨rfl,rfl⟩
  · have f1:((x:Int) == (y:Int))=false:=beq_eq_false_iff_ne.2 (by omega)
    have f2:decide (x<y)=true:=decide_eq_true (by omega)
    have f3:IntKind.u64.wrap ((y:Int)-(x:Int))=((y-x:Nat):Int):=by rw [IntKind.wrap_u64];unfold B at *;omega
    obtain ⟨d,hd⟩:∃ d,y-x=d:=⟨_,rfl⟩
    rw [hd] at f3
    have hC:=tz_any d (by omega) (by omega) w HT.out
    obtain ⟨m,hm,hq64⟩:=mO d (by omega) (by omega)
    obtain ⟨q,hq⟩:∃ q,Lib.ctz 64 d=q:=⟨_,rfl⟩
    rw [hq] at hm hC hq64
    have HC:=Lib.hid hC
    have HM:=Lib.hid hm
    have HD:=Lib.hid hd
    have HX:=Lib.hid h
    clear hC hm hd h
    go_wp2_with fail
    refine HC.out.mono ?_
    rintro e w' ⟨rfl,rfl⟩
    go_wp2_with fail
    have hgc:Hid (Nat.gcd (2*m+1) x=g):=by show _=_;rw [fA ox HX.out (HD.out.trans HM.out),Nat.gcd_comm];exact hg.out
    have hdv:d / 2^q=2*m+1:=by rw [HM.out];exact Nat.mul_div_cancel_left _ (Nat.two_pow_pos q)
    have hle : 2*m+1<=d:=by rw [HM.out];exact Nat.le_mul_of_pos_left _ (Nat.two_pow_pos q)
    have hdx:d<y:=by have:=HD.out;omega
    have hdi:(d:Int) / 2^q=((2*m+1:Nat):Int):=by rw [<- hdv];norm_cast
    go_roundw
    case rel=>
     refine ⟨2*m+1,x, ?_,rfl,by omega,hxB,by omega,ox,by trivial,hgc⟩
     rw [hdi]
    case measure=>
     rw [hdi]
     simp only [intOf]
     omega
structure OddIn (N:Nat) (w:World) (b n:Nat) (xs:List Nat) (cs:Array Value):Prop where
 lo:N<=b
 blk:Blk w b cs
 lies:At cs 0 xs
 len:Hid (xs.length=n)
 top:Top xs
 dig:Dig B xs
 odd:Hid (val B xs%2=1)
 bnd:n<=1073741824
theorem OddIn.lm {N:Nat} {w:World} {b n:Nat} {xs:List Nat} {cs:Array Value} (h:OddIn N w b n xs cs):Lm w (some ⟨b,0,none⟩) xs:=
 ⟨Rdo.of h.blk h.lies,by intro e;have:=h.odd.out;rw [e] at this;simp [val] at this,h.top,h.dig⟩
theorem OddIn.pos {N:Nat} {w:World} {b n:Nat} {xs:List Nat} {cs:Array Value} (h:OddIn N w b n xs cs) : 0<n:=by
 have:=h.odd.out
 rw [<- h.len.out]
 rcases Nat.eq_zero_or_pos xs.length with e | e
 · rw [List.length_eq_zero_iff.1 e] at this;simp [val] at this
 · exact e
theorem OddIn.kept {N:Nat} {w w':World} {b n:Nat} {xs:List Nat} {cs:Array Value} {row:Option Nat} (h:OddIn N w b n xs cs) (hg:w.grownBy w' row) (hr:some b≠row):OddIn N w' b n xs cs:=
 ⟨h.lo,h.blk.kept hg hr,h.lies,h.len,h.top,h.dig,h.odd,h.bnd⟩
theorem OddIn.size {N:Nat} {w:World} {b n:Nat} {xs:List Nat} {cs:Array Value} (h:OddIn N w b n xs cs):N<=w.heap.size:=Nat.le_trans h.lo (Nat.le_of_lt h.blk.lt)
theorem Tab.below {N:Nat} {w w':World} (h:Tab w) (hb:Below N w w') (hN : 0<N):Tab w':=by
 intro j hj
 have:=h j hj
 unfold World.cell? at *
 rw [hb.block 0 hN]
 exact this
theorem OddIn.one {N:Nat} {w:World} {b:Nat} {xs:List Nat} {cs:Array Value} (h:OddIn N w b 1 xs cs):∃ x,val B xs=x/\w.cell? ⟨b,0,none⟩=some (.int .u64 (x:Int))/\x<B/\x%2=1:=by
 obtain ⟨x,rfl⟩:=List.length_eq_one_iff.1 h.len.out
 have e:val B [x]=x:=by simp [val]
 refine ⟨x,e, ?_,h.dig x (by simp),by have:=h.odd.out;rw [e] at this;exact this⟩
 have:=h.blk.at h.lies 0 (by simp)
 simpa using this
theorem X2 {zs:List Nat} {k:Nat} {v:Nat} (h:val B (zs.take k)=v) (h0 : 0<v) : 0<k:=by
 rcases Nat.eq_zero_or_pos k with e | e
 · rw [e,List.take_zero] at h;simp [val] at h;omega
 · exact e
theorem one_lies (g:Nat):At #[.int .u64 (g:Int)] 0 [g]:=fun i hi=>by
 obtain rfl:i=0:=by simpa using hi
 rfl
def RetOdd (N:Nat) (w:World) (g n:Nat) (e:Ending) (w':World):Prop:=
 ∃ (s:Option Addr) (k:Nat) (zs:List Nat),e = .returned (.slice s k k)/\zs.length=k/\k<=n/\Rdo w' s zs/\Dig B zs/\val B zs=g/\Below N w w'
set_option maxHeartbeats 4000000 in
theorem oddGcd_any (w:World) (N px nx:Nat) (xs:List Nat) (cx:Array Value) (py ny:Nat) (ys:List Nat) (cy:Array Value) (hx:OddIn N w px nx xs cx) (hy:OddIn N w py ny ys cy) (hne:px≠py) (hN : 0<N) (hT:Tab w) (M:Nat) (hMx:nx<=M) (hMy:ny<=M) :
 Calls Tryd.prog 108 #[.slice (some ⟨px,0,none⟩) nx nx,.slice (some ⟨py,0,none⟩) ny ny] w (RetOdd N w (Nat.gcd (val B xs) (val B ys)) M):=by
 have HT:=Lib.hid hT
 obtain ⟨g,hg⟩:∃ g,Nat.gcd (val B xs) (val B ys)=g:=⟨_,rfl⟩
 rw [hg]
 have HG:=Lib.hid hg
 have hNs:=hx.size
 clear hg hT
 go_enter Tryd.func108,Tryd.ntmps108
 go_wp2_with fail
 go_loopg [0,1] (val B xs+val B ys) (fun gh a b wr=>∃ (px nx:Nat) (xs:List Nat) (cx:Array Value) (py ny:Nat) (ys:List Nat) (cy:Array Value),a = .slice (some ⟨px,0,none⟩) nx nx/\b = .slice (some ⟨py,0,none⟩) ny ny/\OddIn N wr px nx xs cx/\OddIn N wr py ny ys cy/\px≠py/\nx<=M/\ny<=M/\Hid (Nat.gcd (val B xs) (val B ys)=g)/\Below N w wr/\Hid (val B xs+val B ys<=gh))
 case atStart=>exact ⟨px,nx,xs,cx,py,ny,ys,cy,rfl,rfl,hx,hy,hne,hMx,hMy,HG,Below.refl _ _,Nat.le_refl _⟩
 case round=>
  clear hx hy hne HG hMx hMy
  obtain ⟨px,nx,xs,cx,py,ny,ys,cy,rfl,rfl,hx,hy,hne,hMx,hMy,hg,hb,hgh⟩:=hrel
  have hxp:=hx.pos
  have hyp:=hy.pos
  by_cases h1:nx=1/\ny=1
  · obtain ⟨rfl,rfl⟩:=h1
    obtain ⟨x,e1,c1,hxB,ox⟩:=hx.one
    obtain ⟨y,e2,c2,hyB,oy⟩:=hy.one
    rw [e1,e2] at hg
    have hTW:Hid (∀ W,wr.grownBy W none->Tab W):=fun W hW=>(HT.out.below hb hN).kept hW (by simp)
    have hBW:Hid (∀ W,wr.grownBy W none->Below N w W):=fun W hW=>hb.trans (M1 hW hx.size)
    clear hx hy hb
    go_wp2_with fail
    go_region_held3 (fun w'=>w'.cell? ⟨px,0,none⟩=some (.int .u64 (x:Int))/\w'.cell? ⟨py,0,none⟩=some (.int .u64 (y:Int)))
     (first | go_keep)
     (first | (go_at_call 119;(with_reducible refine (lL wr.drew x y hxB hyB ox oy (hTW.out _ (C7 (B5 _ _)))).mono ?_);rintro e w' ⟨rfl,rfl⟩))
    go_wp2_with fail
    go_ret
    have hox : 0<x:=by omega
    have hgxB:Nat.gcd x y<B:=Nat.lt_of_le_of_lt (Nat.gcd_le_left y hox) hxB
    exact ⟨_,1,[Nat.gcd x y],rfl,rfl,hMx,Rdo.of (Blk.drew (hZ _ _)) (one_lies _),Dig.cons hgxB (Dig.nil _),by simp [val];exact hg.out,hBW.out _ (C7 (World.grownBy_alloc _ _ _))⟩
  · have hh:decide ((1:Int)<(nx:Int))=true\/(decide ((1:Int)<(nx:Int))=false/\decide ((1:Int)<(ny:Int))=true):=by
     by_cases h2 : 1<nx
     · exact Or.inl (decide_eq_true (by omega))
     · exact Or.inr ⟨decide_eq_false (by omega),decide_eq_true (by omega)⟩
    clear h1
    rcases hh with f1 | ⟨f1,f2⟩
    all_goals
     rcases Nat.lt_trichotomy (val B ys) (val B xs) with h | h | h
     · have oH:val B ys<val B xs:=h
       have t2:K7 (val B xs) (val B ys)=1:=cU oH
       have T2:=Lib.hid t2
       have HM:=Lib.hid oH
       have hyl:ny<=nx:=by have:=cK hy.lm hx.lm (Nat.le_of_lt oH);rw [hy.len.out,hx.len.out] at this;exact this
       clear t2 oH h
       go_wp2_with fail
       refine (dW _ _ _ nx ny xs ys hx.len.out hy.len.out hx.lm hy.lm (by have:=hx.bnd;omega) (by have:=hy.bnd;omega)).mono ?_
       rintro e w' ⟨rfl,q,rfl⟩
       rw [T2.out]
       have hx1:=hx.kept (C1 wr q none) (by simp)
       have hy1:=hy.kept (C1 wr q none) (by simp)
       have hb1:=hb.trans (M1 (C1 wr q none) (Nat.le_trans hNs hb.size))
       generalize wr.drewN q=w1 at *
       clear hx hy hb
       go_wp2_with fail
       refine (aX w1 px 0 nx nx xs cx (some ⟨py,0,none⟩) ny ny ys hx1.len.out hy1.len.out hx1.blk hx1.lies (Or.inr ⟨py,0,cy,rfl,Ne.symm hne,hy1.blk,hy1.lies⟩) hyl (by have:=hx1.bnd;omega) hx1.dig hy1.dig (Nat.le_of_lt HM.out)).mono ?_
       rintro e w2 ⟨zs,cs2,rfl,hk2,hw2,hg2,hl2,hd2,hv2⟩
       have hy2:=hy1.kept hg2 (by simp;omega)
       have hb2:=hb1.trans (Q6 hg2 hx1.lo hx1.size)
       have hlo:=hx1.lo
       have hbx:=hx1.bnd
       have hsz2:=hy2.size
       have hln2:zs.length=nx:=hl2.trans hx1.len.out
       have HL2:=Lib.hid hln2
       have hev:Hid (val B zs%2=0/\0<val B zs/\val B zs=val B xs-val B ys):=by
        have h3:=hx1.odd.out;have h4:=hy1.odd.out;have h5:=HM.out
        refine ⟨?_, ?_, ?_⟩<;>omega
       have HOY:=hy1.odd
       clear hg2 hl2 hln2 hv2 hb1 hx1 hy1
       go_wp2_with fail
       refine (bN w2 (some ⟨px,0,none⟩) nx nx zs HL2.out (Rdo.of hk2 hw2.lies) (by omega) (Nat.le_refl _)).mono ?_
       rintro e w3 ⟨k,hk,rfl,ht3,hv3,rfl⟩
       have hkp : 0<k:=X2 hv3 hev.out.2.1
       rw [bT hkp]
       have hlk:(zs.take k).length=k:=by rw [List.length_take];omega
       have HLK:=Lib.hid hlk
       have hkn:k<=nx:=by rw [HL2.out] at hk;exact hk
       have hat3:=hw2.lies.take k
       have hd3:=hd2.take k
       have HV3:=Lib.hid hv3
       have hT2:=HT.out.below hb2 hN
       clear hv3 hk hlk
       go_wp2_with fail
       refine (eF w2 _ k k (zs.take k) HLK.out (Rdo.of hk2 hat3) hd3 (by rw [HV3.out];exact hev.out.2.1) (by omega) hT2).mono ?_
       rintro e w3 ⟨tt,mm,rfl,hf3,htt,rfl⟩
       have HF3:=Lib.hid hf3
       clear hf3
       go_wp2_with fail
       refine (X7 w2 px 0 k k (zs.take k) cs2 tt HLK.out hk2 hat3 hd3 (Nat.le_refl _) (by omega) (by omega)).mono ?_
       rintro e w4 ⟨s4,m4,cap4,cs4,zs4,rfl,hm4,hl4,hlx4,hd4,hv4,hs4,_,hk4,hat4,hg4⟩
       have hv4':val B zs4=2*mm+1:=by rw [hv4,HF3.out];exact Nat.mul_div_cancel_left _ (Nat.two_pow_pos tt)
       have hp4 : 0<m4:=by
        rcases Nat.eq_zero_or_pos m4 with e | e
        · rw [List.length_eq_zero_iff.1 (hl4.trans e)] at hv4';simp [val] at hv4'
        · exact e
       obtain rfl:=hs4 hp4
       have hy4:=hy2.kept hg4 (by simp;omega)
       have hb4:=hb2.trans (Q6 hg4 hlo hsz2)
       have hm4k:m4<=k:=by rw [HLK.out] at hlx4;exact hlx4
       have HL4:=Lib.hid hl4
       have HV4:=Lib.hid hv4'
       clear hv4 hv4' hl4 hs4 hg4 hy2 hb2 hlx4 hk2 hw2 hd2 hat3 hd3 hT2
       go_wp2_with fail
       refine (bN w4 (some ⟨px,0,none⟩) m4 cap4 zs4 HL4.out (Rdo.of hk4 hat4) (by omega) hm4).mono ?_
       rintro e w5 ⟨k5,hk5,rfl,ht5,hv5,rfl⟩
       have hkp5 : 0<k5:=X2 hv5 (by rw [HV4.out];omega)
       rw [bT hkp5]
       have hk5m:k5<=m4:=by rw [HL4.out] at hk5;exact hk5
       have hlk5:(zs4.take k5).length=k5:=by rw [List.length_take];omega
       have hnew:OddIn N w4 px k5 (zs4.take k5) cs4:=⟨hlo,hk4,hat4.take k5,hlk5,ht5,hd4.take k5,by show _=_;rw [hv5,HV4.out];omega,by omega⟩
       have hgn:Hid (Nat.gcd (val B (zs4.take k5)) (val B ys)=g):=by
        show _=_
        have h6:=hev.out.2.2
        rw [<- HV3.out,HF3.out] at h6
        rw [hv5,HV4.out,fA HOY.out HM.out h6.symm];exact hg.out
       have hms:Hid (val B (zs4.take k5)+val B ys<gk):=by
        show _<_
        have h6:=hev.out.2.2
        have h7:=HV3.out
        have h8 : 2*mm+1<=2^tt*(2*mm+1):=Nat.le_mul_of_pos_left _ (Nat.two_pow_pos tt)
        have h9:=HF3.out
        have h10:=HM.out
        have h11:val B ys%2=1:=HOY.out
        have h12:=hgh.out
        rw [hv5,HV4.out];omega
       clear hv5 hlk5 hk5 ht5 hk4 hat4 hd4
       go_wp2_with fail
       go_roundg (val B (zs4.take k5)+val B ys)
       case measure=>exact hms.out
       case rel=>exact ⟨px,k5,zs4.take k5,cs4,py,ny,ys,cy,rfl,rfl,hnew,hy4,hne,by omega,hMy,hgn,hb4,Nat.le_refl _⟩
     · have t2:K7 (val B xs) (val B ys)=0:=hO h.symm
       have T2:=Lib.hid t2
       have hgx:val B xs=g:=by rw [<- hg.out, <- h,Nat.gcd_self]
       have HGX:=Lib.hid hgx
       clear t2 h hgx
       go_wp2_with fail
       refine (dW _ _ _ nx ny xs ys hx.len.out hy.len.out hx.lm hy.lm (by have:=hx.bnd;omega) (by have:=hy.bnd;omega)).mono ?_
       rintro e w' ⟨rfl,q,rfl⟩
       rw [T2.out]
       have hF:Hid (RetOdd N w g M (.returned (.slice (some ⟨px,0,none⟩) nx nx)) (wr.drewN q)):=⟨_,nx,xs,rfl,hx.len.out,hMx,(Rdo.of hx.blk hx.lies).kept (C1 _ _ _),hx.dig,HGX.out,hb.trans (M1 (C1 wr q none) (Nat.le_trans hNs hb.size))⟩
       go_wp2_with fail
       go_ret
       exact hF
     · have oH:val B xs<val B ys:=h
       have t2:K7 (val B xs) (val B ys) = -1:=cT oH
       have T2:=Lib.hid t2
       have HM:=Lib.hid oH
       have hyl:nx<=ny:=by have:=cK hx.lm hy.lm (Nat.le_of_lt oH);rw [hx.len.out,hy.len.out] at this;exact this
       clear t2 oH h
       go_wp2_with fail
       refine (dW _ _ _ nx ny xs ys hx.len.out hy.len.out hx.lm hy.lm (by have:=hx.bnd;omega) (by have:=hy.bnd;omega)).mono ?_
       rintro e w' ⟨rfl,q,rfl⟩
       rw [T2.out]
       have hx1:=hx.kept (C1 wr q none) (by simp)
       have hy1:=hy.kept (C1 wr q none) (by simp)
       have hb1:=hb.trans (M1 (C1 wr q none) (Nat.le_trans hNs hb.size))
       generalize wr.drewN q=w1 at *
       clear hx hy hb
       go_wp2_with fail
       refine (aX w1 py 0 ny ny ys cy (some ⟨px,0,none⟩) nx nx xs hy1.len.out hx1.len.out hy1.blk hy1.lies (Or.inr ⟨px,0,cx,rfl,hne,hx1.blk,hx1.lies⟩) hyl (by have:=hy1.bnd;omega) hy1.dig hx1.dig (Nat.le_of_lt HM.out)).mono ?_
       rintro e w2 ⟨zs,cs2,rfl,hk2,hw2,hg2,hl2,hd2,hv2⟩
       have hy2:=hx1.kept hg2 (by simp;omega)
       have hb2:=hb1.trans (Q6 hg2 hy1.lo hy1.size)
       have hlo:=hy1.lo
       have hbx:=hy1.bnd
       have hsz2:=hy2.size
       have hln2:zs.length=ny:=hl2.trans hy1.len.out
       have HL2:=Lib.hid hln2
       have hev:Hid (val B zs%2=0/\0<val B zs/\val B zs=val B ys-val B xs):=by
        have h3:=hy1.odd.out;have h4:=hx1.odd.out;have h5:=HM.out
        refine ⟨?_, ?_, ?_⟩<;>omega
       have HOY:=hx1.odd
       clear hg2 hl2 hln2 hv2 hb1 hx1 hy1
       go_wp2_with fail
       refine (bN w2 (some ⟨py,0,none⟩) ny ny zs HL2.out (Rdo.of hk2 hw2.lies) (by omega) (Nat.le_refl _)).mono ?_
       rintro e w3 ⟨k,hk,rfl,ht3,hv3,rfl⟩
       have hkp : 0<k:=X2 hv3 hev.out.2.1
       rw [bT hkp]
       have hlk:(zs.take k).length=k:=by rw [List.length_take];omega
       have HLK:=Lib.hid hlk
       have hkn:k<=ny:=by rw [HL2.out] at hk;exact hk
       have hat3:=hw2.lies.take k
       have hd3:=hd2.take k
       have HV3:=Lib.hid hv3
       have hT2:=HT.out.below hb2 hN
       clear hv3 hk hlk
       go_wp2_with fail
       refine (eF w2 _ k k (zs.take k) HLK.out (Rdo.of hk2 hat3) hd3 (by rw [HV3.out];exact hev.out.2.1) (by omega) hT2).mono ?_
       rintro e w3 ⟨tt,mm,rfl,hf3,htt,rfl⟩
       have HF3:=Lib.hid hf3
       clear hf3
       go_wp2_with fail
       refine (X7 w2 py 0 k k (zs.take k) cs2 tt HLK.out hk2 hat3 hd3 (Nat.le_refl _) (by omega) (by omega)).mono ?_
       rintro e w4 ⟨s4,m4,cap4,cs4,zs4,rfl,hm4,hl4,hlx4,hd4,hv4,hs4,_,hk4,hat4,hg4⟩
       have hv4':val B zs4=2*mm+1:=by rw [hv4,HF3.out];exact Nat.mul_div_cancel_left _ (Nat.two_pow_pos tt)
       have hp4 : 0<m4:=by
        rcases Nat.eq_zero_or_pos m4 with e | e
        · rw [List.length_eq_zero_iff.1 (hl4.trans e)] at hv4';simp [val] at hv4'
        · exact e
       obtain rfl:=hs4 hp4
       have hy4:=hy2.kept hg4 (by simp;omega)
       have hb4:=hb2.trans (Q6 hg4 hlo hsz2)
       have hm4k:m4<=k:=by rw [HLK.out] at hlx4;exact hlx4
       have HL4:=Lib.hid hl4
       have HV4:=Lib.hid hv4'
       clear hv4 hv4' hl4 hs4 hg4 hy2 hb2 hlx4 hk2 hw2 hd2 hat3 hd3 hT2
       go_wp2_with fail
       refine (bN w4 (some ⟨py,0,none⟩) m4 cap4 zs4 HL4.out (Rdo.of hk4 hat4) (by omega) hm4).mono ?_
       rintro e w5 ⟨k5,hk5,rfl,ht5,hv5,rfl⟩
       have hkp5 : 0<k5:=X2 hv5 (by rw [HV4.out];omega)
       rw [bT hkp5]
       have hk5m:k5<=m4:=by rw [HL4.out] at hk5;exact hk5
       have hlk5:(zs4.take k5).length=k5:=by rw [List.length_take];omega
       have hnew:OddIn N w4 py k5 (zs4.take k5) cs4:=⟨hlo,hk4,hat4.take k5,hlk5,ht5,hd4.take k5,by show _=_;rw [hv5,HV4.out];omega,by omega⟩
       have hgn:Hid (Nat.gcd (val B (zs4.take k5)) (val B xs)=g):=by
        show _=_
        have h6:=hev.out.2.2
        rw [<- HV3.out,HF3.out] at h6
        rw [hv5,HV4.out,fA HOY.out HM.out h6.symm,Nat.gcd_comm];exact hg.out
       have hms:Hid (val B (zs4.take k5)+val B xs<gk):=by
        show _<_
        have h6:=hev.out.2.2
        have h7:=HV3.out
        have h8 : 2*mm+1<=2^tt*(2*mm+1):=Nat.le_mul_of_pos_left _ (Nat.two_pow_pos tt)
        have h9:=HF3.out
        have h10:=HM.out
        have h11:val B xs%2=1:=HOY.out
        have h12:=hgh.out
        rw [hv5,HV4.out];omega
       clear hv5 hlk5 hk5 ht5 hk4 hat4 hd4
       go_wp2_with fail
       go_roundg (val B (zs4.take k5)+val B xs)
       case measure=>exact hms.out
       case rel=>exact ⟨py,k5,zs4.take k5,cs4,px,nx,xs,cx,rfl,rfl,hnew,hy4,Ne.symm hne,by omega,hMx,hgn,hb4,Nat.le_refl _⟩
structure OwnLm (N:Nat) (w:World) (s:Option Addr) (n cap:Nat) (xs:List Nat) (K:Nat):Prop where
 lm:Lm w s xs
 len:Hid (xs.length=n)
 capn:n<=cap
 cap0:n=0->cap=0
 fr:FreshAt N s
 bnd:n<=K
def Apart (s t:Option Addr):Prop:=∀ a b,s=some a->t=some b->a.block≠b.block
theorem Apart.symm {s t:Option Addr} (h:Apart s t):Apart t s:=fun a b e1 e2=>Ne.symm (h b a e2 e1)
theorem qJ {w:World} {s t:Option Addr} {xs:List Nat} (h:Lm w s xs) (k:FreshAt w.heap.size t):Apart s t:=by
 intro a b e1 e2
 have h1:=h.lt e1
 have h2:=(k b e2).1
 omega
theorem OwnLm.kept {N K:Nat} {w w':World} {s:Option Addr} {n cap:Nat} {xs:List Nat} (h:OwnLm N w s n cap xs K) (hg:w.grownBy w' none):OwnLm N w' s n cap xs K:=
 ⟨h.lm.kept hg,h.len,h.capn,h.cap0,h.fr,h.bnd⟩
theorem gcd_twos (k m a b:Nat):Nat.gcd (2^k*(2*a+1)) (2^m*(2*b+1))=Nat.gcd (2*a+1) (2*b+1)*2^(min k m):=by
 have co:∀ (t c:Nat),Nat.Coprime (2^t) (2*c+1):=by
  intro t c
  apply Nat.Coprime.pow_left
  unfold Nat.Coprime
  rw [Nat.gcd_rec,show (2*c+1)%2=1 from by omega]
  rfl
 rcases Nat.le_total k m with h | h
 · obtain ⟨d,rfl⟩:∃ d,m=k+d:=⟨m-k,by omega⟩
   rw [Nat.min_eq_left h,Nat.pow_add,Nat.mul_assoc,Nat.gcd_mul_left,Nat.mul_comm (2^k)]
   congr 1
   rw [Nat.gcd_comm,Nat.Coprime.gcd_mul_left_cancel _ (co d a),Nat.gcd_comm]
 · obtain ⟨d,rfl⟩:∃ d,k=m+d:=⟨k-m,by omega⟩
   rw [Nat.min_eq_right h,Nat.pow_add,Nat.mul_assoc,Nat.gcd_mul_left,Nat.mul_comm (2^m)]
   congr 1
   rw [Nat.Coprime.gcd_mul_left_cancel _ (co d b)]
def Copies (W:World) (N K:Nat) (xs ys:List Nat) (nx ny:Nat) (u v:Value) (wx:World):Prop:=
 ∃ sx cx sy cy,u = .slice sx nx cx/\v = .slice sy ny cy/\OwnLm N wx sx nx cx xs K/\OwnLm N wx sy ny cy ys K/\Apart sx sy/\W.grownBy wx none
set_option maxHeartbeats 8000000 in
theorem Gcd_any (w:World) (va vb:Value) (a b K:Nat) (ha:NatV w va a) (hb:NatV w vb b) (hK:K<=1073741000) (la:a<B^K) (lb:b<B^K) (hT:Tab w) :
 Calls Tryd.prog 91 #[va,vb] w (RetNat w (Nat.gcd a b)):=by
 obtain ⟨sa,xs,rfl,hx,rfl⟩:=ha
 obtain ⟨sb,ys,rfl,hy,rfl⟩:=hb
 have h1:=hx.len la
 have h2:=hy.len lb
 have h2s:=hT.size
 have HT:=Lib.hid hT
 obtain ⟨g,hg⟩:∃ g,Nat.gcd (val B xs) (val B ys)=g:=⟨_,rfl⟩
 rw [hg]
 have HG:=Lib.hid hg
 obtain ⟨nx,hnx⟩:∃ n,xs.length=n:=⟨_,rfl⟩
 obtain ⟨ny,hny⟩:∃ n,ys.length=n:=⟨_,rfl⟩
 rw [hnx] at h1 ⊢
 rw [hny] at h2 ⊢
 have HNX:=Lib.hid hnx
 have HNY:=Lib.hid hny
 clear hg la lb hT hnx hny
 have hgw0:w.grownBy (((w.alloc (.cells #[.slice sa nx nx] 27)).alloc (.cells #[.slice sb ny ny] 27)).alloc (.cells #[.slice none 0 0] 27)) none:=B1 (B1 (World.grownBy_alloc _ _ _) _) _
 have hbox0:=A9 ((w.alloc (.cells #[.slice sa nx nx] 27)).alloc (.cells #[.slice sb ny ny] 27)) (.cells #[.slice none 0 0] 27) (w.heap.size+1+1) (by simp)
 have hboxb0:=(Below.heap_alloc _ (.cells #[.slice none 0 0] 27) (w.heap.size+1) (by simp)).trans (A9 (w.alloc (.cells #[.slice sa nx nx] 27)) (.cells #[.slice sb ny ny] 27) (w.heap.size+1) (by simp))
 have hboxa0:=((Below.heap_alloc _ (.cells #[.slice none 0 0] 27) w.heap.size (by simp;omega)).trans (Below.heap_alloc _ (.cells #[.slice sb ny ny] 27) w.heap.size (by simp))).trans (A9 w (.cells #[.slice sa nx nx] 27) w.heap.size rfl)
 have hs0:(((w.alloc (.cells #[.slice sa nx nx] 27)).alloc (.cells #[.slice sb ny ny] 27)).alloc (.cells #[.slice none 0 0] 27)).heap.size=w.heap.size+1+1+1:=by simp
 go_enter Tryd.func91,Tryd.ntmps91
 go_wp2_with fail
 generalize (((w.alloc (.cells #[.slice sa nx nx] 27)).alloc (.cells #[.slice sb ny ny] 27)).alloc (.cells #[.slice none 0 0] 27))=w0 at *
 have hx0:=hx.kept hgw0
 have hy0:=hy.kept hgw0
 obtain ⟨ca,fa⟩:=B8 hboxa0
 obtain ⟨cb,fb⟩:=B8 hboxb0
 have HX0:∀ W,w0.grownBy W none->Lm W sa xs:=fun W hW=>hx0.kept hW
 have HY0:∀ W,w0.grownBy W none->Lm W sb ys:=fun W hW=>hy0.kept hW
 have HX0:=Lib.hid HX0
 have HY0:=Lib.hid HY0
 clear hx0 hy0
 have hfld:=run_field
 go_cut [5,6] (fun u v wx=>Copies w0 w0.heap.size K xs ys nx ny u v wx)
 case first=>
  go_region_held3 (fun w'=>w'.cell? ⟨w.heap.size,0,none⟩=some (.slice sa nx nx)/\w'.cell? ⟨w.heap.size+1,0,none⟩=some (.slice sb ny ny))
   (first | go_keep | exact ⟨hG1.cell ca (by simp),hG1.cell cb (by simp)⟩ | exact ⟨hG2.cell ca (by simp),hG2.cell cb (by simp)⟩)
   (first
    | (go_at_call 103;(with_reducible refine (fV w0.drew sa nx xs HNX.out (HX0.out _ (C7 (B5 _ _))) (by omega)).mono ?_);rintro e w1 ⟨s1,c1,rfl,hl1,hc1,hz1,hf1,hg1⟩;have hG1:=O1 w0 hg1 rfl rfl rfl rfl)
    | (go_at_call 103;(with_reducible refine (fV w0.drew sb ny ys HNY.out (HY0.out _ (C7 (B5 _ _))) (by omega)).mono ?_);rintro e w1 ⟨s1,c1,rfl,hl1,hc1,hz1,hf1,hg1⟩;have hG1:=O1 w0 hg1 rfl rfl rfl rfl)
    | (go_at_call 103;(with_reducible refine (fV w1 sa nx xs HNX.out (HX0.out _ hG1) (by omega)).mono ?_);rintro e w2 ⟨s2,c2,rfl,hl2,hc2,hz2,hf2,hg2⟩;have hG2:=A4 hG1 hg2)
    | (go_at_call 103;(with_reducible refine (fV w1 sb ny ys HNY.out (HY0.out _ hG1) (by omega)).mono ?_);rintro e w2 ⟨s2,c2,rfl,hl2,hc2,hz2,hf2,hg2⟩;have hG2:=A4 hG1 hg2))
  go_wp2_with fail
  go_meet
  exact ⟨s1,c1,s2,c2,rfl,rfl,⟨hl1.kept hg2,HNX,hc1,hz1,hf1,h1⟩,⟨hl2,HNY,hc2,hz2,hf2.mono hG1.size,h2⟩,qJ hl1 hf2,hG2⟩
 case rest=>
  obtain ⟨sx,cx,sy,cy,rfl,rfl,hox,hoy,hap,hgc⟩:=hcut
  have hbox:=A5 hgc hbox0
  have hgw:=A4 hgw0 hgc
  clear HX0 HY0 hgc hbox0 hboxa0 hboxb0 ca fa cb fb hx hy hfld
  generalize w0.heap.size=N at *
  go_wp2_with fail
  go_loopg [5,6] (val B ys) (fun gh a b wr=>∃ (sx:Option Addr) (nx cx:Nat) (xs:List Nat) (sy:Option Addr) (ny cy:Nat) (ys:List Nat),a = .slice sx nx cx/\b = .slice sy ny cy/\OwnLm N wr sx nx cx xs K/\OwnLm N wr sy ny cy ys K/\Apart sx sy/\Hid (Nat.gcd (val B xs) (val B ys)=g)/\w.grownBy wr none/\wr.heap[w.heap.size+1+1]?=some (.cells #[.slice none 0 0] 27 (0,0))/\Hid (val B ys<=gh))
  case atStart=>exact ⟨sx,nx,cx,xs,sy,ny,cy,ys,rfl,rfl,hox,hoy,hap,HG,hgw,hbox,Nat.le_refl _⟩
  case round=>
   clear hox hoy hap HG hgw hbox HNX HNY h1 h2
   obtain ⟨sx,nx,cx,xs,sy,ny,cy,ys,rfl,rfl,hx,hy,hap,hg,hgw,hbox,hgh⟩:=hrel
   have bx:=hx.bnd
   have byy:=hy.bnd
   have hNr:N<=wr.heap.size:=by have:=(Array.getElem?_eq_some_iff.1 hbox).1;omega
   rcases Nat.eq_zero_or_pos ny with h0 | h0
   · subst h0
     obtain rfl:ys=[]:=List.length_eq_zero_iff.1 hy.len.out
     have hgx:Hid (val B xs=g):=by show _=_;rw [<- hg.out];simp [val]
     clear hy hap hg hgh
     go_wp2_with fail
     refine (gM _ sx nx cx xs hx.len.out hx.lm.rd (by omega) hx.capn hx.lm.dig).mono ?_
     rintro e w4 ⟨v,rfl,⟨sc,zs,rfl,hl4,hv4⟩,hg4⟩
     have hbox4:=A5 hg4 hbox
     obtain ⟨hc4,hf4⟩:=B8 hbox4
     have hF:=Lib.hid (eV (A4 hgw hg4) hbox4 (by decide) (by omega) hl4 (hv4.trans hgx.out) (.slice sc zs.length zs.length))
     clear hv4 hbox4 hbox hg4 hgw
     go_wp2_with fail
     exact bodyPost_ret (v := .agg #[.slice sc zs.length zs.length]) (by simp [results,Tryd.results91,go_sem,hc4]) rfl hF.out
   · by_cases hne:nx=ny
     · subst hne
       have f1:((nx:Int) != (nx:Int))=false:=by simp
       have f2:((nx:Int) == 0)=false:=beq_eq_false_iff_ne.2 (by omega)
       have hxp : 0<val B xs:=hx.lm.pos (by rw [hx.len.out];exact h0)
       have hyp : 0<val B ys:=hy.lm.pos (by rw [hy.len.out];exact h0)
       have hTr:=HT.out.kept hgw (by simp)
       have HTr:=Lib.hid hTr
       obtain ⟨px,ox,csx,rfl,hbx,hatx⟩:=hx.lm.rd.get 0 (by rw [hx.len.out];exact h0)
       obtain ⟨py,oy,csy,rfl,hby,haty⟩:=hy.lm.rd.get 0 (by rw [hy.len.out];exact h0)
       clear hTr
       go_wp2_with fail
       refine (eF wr _ nx cx xs hx.len.out hx.lm.rd hx.lm.dig hxp (by omega) HTr.out).mono ?_
       rintro e w' ⟨k,ma,rfl,hka,hkl,rfl⟩
       have HKA:=Lib.hid hka
       clear hka
       go_wp2_with fail
       refine (eF wr _ nx cy ys hy.len.out hy.lm.rd hy.lm.dig hyp (by omega) HTr.out).mono ?_
       rintro e w' ⟨m,mb,rfl,hkb,hml,rfl⟩
       have HKB:=Lib.hid hkb
       clear hkb
       obtain rfl:ox=0:=by have:=(hx.fr _ rfl).2;simpa using this
       obtain rfl:oy=0:=by have:=(hy.fr _ rfl).2;simpa using this
       have hpx:N<=px:=(hx.fr _ rfl).1
       have hpy:N<=py:=(hy.fr _ rfl).1
       have hpne:px≠py:=hap _ _ rfl rfl
       have hNs:=hNr
       go_wp2_with fail
       refine (X7 wr px 0 nx cx xs csx k hx.len.out hbx hatx hx.lm.dig hx.capn (by omega) (by omega)).mono ?_
       rintro e w4 ⟨s4,m4,cap4,cs4,zs4,rfl,hm4,hl4,hlx4,hd4,hv4,hs4,_,hk4,hat4,hg4⟩
       have hv4':val B zs4=2*ma+1:=by rw [hv4,HKA.out];exact Nat.mul_div_cancel_left _ (Nat.two_pow_pos k)
       have hp4 : 0<m4:=by
        rcases Nat.eq_zero_or_pos m4 with e | e
        · rw [List.length_eq_zero_iff.1 (hl4.trans e)] at hv4';simp [val] at hv4'
        · exact e
       obtain rfl:=hs4 hp4
       have hby4:=hby.kept hg4 (by simp;omega)
       have hbox4:=Y2 hg4 hbox (by omega)
       have hgw4:=D2 hgw hg4 (by omega)
       have hm4k:m4<=nx:=by rw [hx.len.out] at hlx4;exact hlx4
       have HL4:=Lib.hid hl4
       have HV4:=Lib.hid hv4'
       clear hv4 hv4' hl4 hs4 hg4 hlx4 hbx hatx hbox hgw hby HTr hNr
       go_wp2_with fail
       refine (bN w4 (some ⟨px,0,none⟩) m4 cap4 zs4 HL4.out (Rdo.of hk4 hat4) (by omega) hm4).mono ?_
       rintro e w5 ⟨k5,hk5,rfl,ht5,hv5,rfl⟩
       have hkp5 : 0<k5:=X2 hv5 (by rw [HV4.out];omega)
       rw [bT hkp5]
       have hk5m:k5<=m4:=by rw [HL4.out] at hk5;exact hk5
       have hlk5:(zs4.take k5).length=k5:=by rw [List.length_take];omega
       have hX:OddIn N w4 px k5 (zs4.take k5) cs4:=⟨hpx,hk4,hat4.take k5,hlk5,ht5,hd4.take k5,by show _=_;rw [hv5,HV4.out];omega,by omega⟩
       have HVX:Hid (val B (zs4.take k5)=2*ma+1):=hv5.trans HV4.out
       clear hv5 hlk5 hk5 ht5 hk4 hat4 hd4 HV4 HL4
       go_wp2_with fail
       refine (X7 w4 py 0 nx cy ys csy m hy.len.out hby4 haty hy.lm.dig hy.capn (by omega) (by omega)).mono ?_
       rintro e w6 ⟨s6,m6,cap6,cs6,zs6,rfl,hm6,hl6,hlx6,hd6,hv6,hs6,_,hk6,hat6,hg6⟩
       have hv6':val B zs6=2*mb+1:=by rw [hv6,HKB.out];exact Nat.mul_div_cancel_left _ (Nat.two_pow_pos m)
       have hp6 : 0<m6:=by
        rcases Nat.eq_zero_or_pos m6 with e | e
        · rw [List.length_eq_zero_iff.1 (hl6.trans e)] at hv6';simp [val] at hv6'
        · exact e
       obtain rfl:=hs6 hp6
       have hX6:=hX.kept hg6 (by simp;omega)
       have hbox6:=Y2 hg6 hbox4 (by omega)
       have hgw6:=D2 hgw4 hg6 (by omega)
       have hm6k:m6<=nx:=by rw [hy.len.out] at hlx6;exact hlx6
       have HL6:=Lib.hid hl6
       have HV6:=Lib.hid hv6'
       clear hv6 hv6' hl6 hs6 hg6 hlx6 hby4 haty hbox4 hgw4 hX
       go_wp2_with fail
       refine (bN w6 (some ⟨py,0,none⟩) m6 cap6 zs6 HL6.out (Rdo.of hk6 hat6) (by omega) hm6).mono ?_
       rintro e w7 ⟨k7,hk7,rfl,ht7,hv7,rfl⟩
       have hkp7 : 0<k7:=X2 hv7 (by rw [HV6.out];omega)
       rw [bT hkp7]
       have hk7m:k7<=m6:=by rw [HL6.out] at hk7;exact hk7
       have hlk7:(zs6.take k7).length=k7:=by rw [List.length_take];omega
       have hY:OddIn N w6 py k7 (zs6.take k7) cs6:=⟨hpy,hk6,hat6.take k7,hlk7,ht7,hd6.take k7,by show _=_;rw [hv7,HV6.out];omega,by omega⟩
       have HVY:Hid (val B (zs6.take k7)=2*mb+1):=hv7.trans HV6.out
       have HT6:=Lib.hid (HT.out.kept hgw6 (by simp))
       clear hv7 hlk7 hk7 ht7 hk6 hat6 hd6 HV6 HL6
       go_wp2_with fail
       refine (oddGcd_any w6 N px k5 (zs4.take k5) cs4 py k7 (zs6.take k7) cs6 hX6 hY hpne (by omega) HT6.out K (by omega) (by omega)).mono ?_
       rintro e w8 ⟨s8,k8,zs8,rfl,hl8,hk8,hr8,hd8,hv8,hb8⟩
       rw [HVX.out,HVY.out] at hv8
       have hbox8:=Q4 hb8 hbox6 (by omega)
       have hgw8:=J9 hgw6 hb8 (by omega)
       have HV8:=Lib.hid hv8
       have HL8:=Lib.hid hl8
       clear hv8 hl8 hb8 hX6 hY hbox6 hgw6 HT6 hm4 hm6
       go_wp2_with fail
       obtain ⟨q,hq⟩:∃ q,min k m=q:=⟨_,rfl⟩
       rw [show min (k:Int) (m:Int)=(q:Int) from by omega]
       refine (dT w8 s8 k8 k8 zs8 q HL8.out hr8 hd8 (by omega) (by omega)).mono ?_
       rintro e w9 ⟨g9,n9,cs9,zs9,rfl,hge9,hb9,hat9,hl9,hn9,hd9,hv9,hg9⟩
       have hn9':n9<=4000000000:=by rw [hn9,HL8.out];omega
       have hbox9:=A5 hg9 hbox8
       have hgw9:=A4 hgw8 hg9
       have HV9:Hid (val B zs9=g):=by
        show _=_
        rw [hv9,HV8.out, <- hq, <- gcd_twos k m ma mb, <- HKA.out, <- HKB.out];exact hg.out
       have HL9:=Lib.hid hl9
       clear hn9 hl9 hv9 hge9 hg9 hbox8 hgw8 hr8 hd8 hk8
       go_wp2_with fail
       refine (gM w9 _ n9 n9 zs9 HL9.out (Rdo.of hb9 hat9) (by omega) (Nat.le_refl _) hd9).mono ?_
       rintro e w10 ⟨v,rfl,⟨sc,zs,rfl,hl10,hv10⟩,hg10⟩
       have hbox10:=A5 hg10 hbox9
       obtain ⟨hc10,hf10⟩:=B8 hbox10
       have hF:=Lib.hid (eV (A4 hgw9 hg10) hbox10 (by decide) (by omega) hl10 (hv10.trans HV9.out) (.slice sc zs.length zs.length))
       clear hv10 hbox10 hbox9 hg10 hgw9 hb9 hat9
       go_wp2_with fail
       exact bodyPost_ret (v := .agg #[.slice sc zs.length zs.length]) (by simp [results,Tryd.results91,go_sem,hc10]) rfl hF.out
     · have f1:((nx:Int) != (ny:Int))=true:=by simp;omega
       have hyp : 0<val B ys:=hy.lm.pos (by rw [hy.len.out];exact h0)
       go_wp2_with fail
       refine (mJ wr sx sy nx cx ny cy xs ys hx.lm hy.lm hx.len.out hy.len.out h0 hx.cap0 hx.capn (by omega) (by omega)).mono ?_
       rintro e w3 ⟨sq,sr,nq,cq,nr,cr,qs,rs,rfl,hlq,hcq,hnq,hlr,hcr,hnr,hrq,hrr,hdq,hdr,hvq,hvr,hg3,hfr⟩
       have hbox3:=A5 hg3 hbox
       have hgw3:=A4 hgw hg3
       have hy3:=hy.kept hg3
       have hfrN:FreshAt N sr:=hfr.mono hNr
       have hap3:Apart sy sr:=qJ hy.lm hfr
       have HVR:=Lib.hid hvr
       have HLR:=Lib.hid hlr
       clear hlq hcq hnq hrq hdq hvq hvr hlr hg3 hfr hbox hgw hap hx
       go_wp2_with fail
       refine (bN w3 sr nr cr rs HLR.out hrr (by omega) hcr).mono ?_
       rintro e w4 ⟨k,hk,rfl,ht,hv,rfl⟩
       have hkl:(rs.take k).length=k:=by rw [List.length_take];omega
       have hvm:Hid (val B (rs.take k)=val B xs%val B ys):=hv.trans HVR.out
       have hlm:Lm w3 (Sa sr k) (rs.take k):=⟨hrr.take k,by intro e;rw [e] at hkl;simp at hkl;rw [<- hkl];rfl,ht,hdr.take k⟩
       have hlt:Hid (val B (rs.take k)<val B ys):=by show _<_;rw [hvm.out];exact Nat.mod_lt _ hyp
       have hkK:k<=K:=by
        have:=cK hlm hy3.lm (Nat.le_of_lt hlt.out)
        rw [hkl,hy3.len.out] at this
        omega
       have hnew:OwnLm N w3 (Sa sr k) k k (rs.take k) K:=⟨hlm,hkl,Nat.le_refl _,fun e=>e,hfrN.sa,hkK⟩
       have hap4:Apart sy (Sa sr k):=by
        unfold Sa;split
        · intro a b e1 e2;cases e2
        · exact hap3
       have hgn:Hid (Nat.gcd (val B ys) (val B (rs.take k))=g):=by
        show _=_;rw [hvm.out,Nat.gcd_comm (val B ys), <- Nat.gcd_rec,Nat.gcd_comm];exact hg.out
       have hlt2:Hid (val B (rs.take k)<gk):=Nat.lt_of_lt_of_le hlt.out hgh.out
       clear hv hk hkl hlm ht hrr hdr hfrN
       go_wp2_with fail
       go_roundg (val B (rs.take k))
       case measure=>exact hlt2.out
       case rel=>exact ⟨sy,ny,cy,ys,Sa sr k,k,k,rs.take k,rfl,rfl,hy3,hnew,hap4,hgn,hgw3,hbox3,Nat.le_refl _⟩
def dn (r:Rat):Int:=if r.den=1 then 0 else (r.den:Int)
def RatV (w:World) (v:Value) (r:Rat):Prop:=∃ (s:Option Addr) (xs:List Nat) (b:Bool) (s':Option Addr) (xs':List Nat) (b':Bool),v = .agg #[.slice s xs.length xs.length,.bool b,.slice s' xs'.length xs'.length,.bool b']/\IntV w (.agg #[.slice s xs.length xs.length,.bool b]) r.num/\IntV w (.agg #[.slice s' xs'.length xs'.length,.bool b']) (dn r)
theorem RatV.kept {w w':World} {v:Value} {r:Rat} (h:RatV w v r) (hg:w.grownBy w' none):RatV w' v r:=by
 obtain ⟨s,xs,b,s',xs',b',e,h1,h2⟩:=h
 exact ⟨s,xs,b,s',xs',b',e,h1.kept hg,h2.kept hg⟩
theorem RatV.zero (w:World):RatV w (.agg #[.slice none 0 0,.bool false,.slice none 0 0,.bool false]) 0:=⟨none,[],false,none,[],false,rfl,IntV.zero w,IntV.zero w⟩
def S2 (w:World) (r:Rat) (e:Ending) (w':World):Prop:=∃ v,e = .returned v/\RatV w' v r/\w.grownBy w' none
def cY (w:World) (r:Rat) (code:Int) (e:Ending) (w':World):Prop:=∃ v,e = .returned (.tuple #[v,.int .i64 code])/\RatV w' v r/\w.grownBy w' none
def RetB (w:World) (b:Bool) (e:Ending) (w':World):Prop:=e = .returned (.bool b)/\w.grownBy w' none
theorem dn_bd {r:Rat} {K:Nat} (h:r.den<B^K):(dn r).natAbs<B^K:=by
 unfold dn
 split
 · exact Nat.pow_pos E5
 · rw [Int.natAbs_natCast];exact h
theorem N6 {x y:Int} {K L:Nat} (hx:x.natAbs<B^K) (hy:y.natAbs<B^L):(x*y).natAbs<B^(K+L):=by
 rw [Int.natAbs_mul,Nat.pow_add]
 exact Nat.mul_lt_mul'' hx hy
def G4 (a b:Rat):Int:=dC (a.num*(b.den:Int)) (b.num*(a.den:Int))
theorem rcmp_whole {a b:Rat} (ha:a.den=1) (hb:b.den=1):dC a.num b.num=G4 a b:=by
 unfold G4;rw [ha,hb];simp
theorem dn_int (x:Int):dn (x:Rat)=0:=by unfold dn;rw [if_pos (Rat.den_intCast x)]
theorem kZ (a b:Rat):(a*b).num=(a.num / ((Nat.gcd a.num.natAbs b.den:Nat):Int))*(b.num / ((Nat.gcd b.num.natAbs a.den:Nat):Int)):=by
 show (Rat.mul a b).num=_
 unfold Rat.mul
 rfl
theorem lA (a b:Rat):(a*b).den=(a.den / Nat.gcd b.num.natAbs a.den)*(b.den / Nat.gcd a.num.natAbs b.den):=by
 show (Rat.mul a b).den=_
 unfold Rat.mul
 rfl
theorem lD (a b:Rat) (g g1:Nat) (n:Int) (hg:g=Nat.gcd a.den b.den) (hn:n=a.num*((b.den / g:Nat):Int)+b.num*((a.den / g:Nat):Int)) (hg1:g1=Nat.gcd n.natAbs g) :
 (a+b).num=n / (g1:Int)/\(a+b).den=(a.den / g)*(b.den / g1):=by
 have hd:g1 ∣ b.den:=by rw [hg1,hg];exact Nat.dvd_trans (Nat.gcd_dvd_right _ _) (Nat.gcd_dvd_right _ _)
 have hgn:g1 ∣ n.natAbs:=by rw [hg1];exact Nat.gcd_dvd_left _ _
 have hmul:(a.den / g)*(b.den / g1)=(a.den / g)*b.den / g1:=(Nat.mul_div_assoc _ hd).symm
 show (Rat.add a b).num=_/\(Rat.add a b).den=_
 unfold Rat.add
 by_cases h:g=1
 · have h1:g1=1:=by rw [hg1,h,Nat.gcd_one_right]
   rw [dif_pos (by rw [<- hg];exact h)]
   dsimp only
   rw [hn,h1]
   have e1:b.den / g=b.den:=by rw [h,Nat.div_one]
   have e2:a.den / g=a.den:=by rw [h,Nat.div_one]
   rw [e1,e2,Nat.div_one]
   exact ⟨(Int.ediv_one _).symm,rfl⟩
 · rw [dif_neg (by rw [<- hg];exact h)]
   dsimp only
   rw [Rat.maybeNormalize_eq]
   dsimp only
   rw [Int.divExact_eq_ediv,hmul]
   subst hg
   subst hn
   subst hg1
   exact ⟨rfl,rfl⟩
def rsg (r:Rat):Int:=r.num.sign
theorem sign_ediv {n:Int} {g:Nat} (h:(g:Int) ∣ n) (hg : 0<g):(n / (g:Int)).sign=n.sign:=by
 obtain ⟨k,rfl⟩:=h
 rw [Int.mul_ediv_cancel_left _ (by omega),Int.sign_mul,Int.sign_eq_one_of_pos (by omega:(0:Int)<g),Int.one_mul]
theorem rsg_divInt {n d:Int} (hd : 0<d):rsg (Rat.divInt n d)=n.sign:=by
 unfold rsg
 rw [Rat.num_divInt,Int.sign_eq_one_of_pos hd,Int.one_mul]
 exact sign_ediv (Int.gcd_dvd_right _ _) (by rw [Int.gcd_comm];exact Int.gcd_pos_of_ne_zero_right _ (by omega))
theorem zcmp_subE (x y:Int):(x-y).sign=dC x y:=by
 unfold dC
 rcases Int.lt_trichotomy x y with h | h | h
 · rw [if_pos h];exact Int.sign_eq_neg_one_of_neg (by omega)
 · rw [if_neg (by omega),if_pos h,show x-y=0 by omega];rfl
 · rw [if_neg (by omega),if_neg (by omega)];exact Int.sign_eq_one_of_pos (by omega)
theorem sign_bdE (z:Int) : -1<=z.sign/\z.sign<=1:=by
 rcases eE z with ⟨_,e⟩ | ⟨_,e⟩ | ⟨_,e⟩<;>omega
theorem R1 (a b:Rat):G4 a b=rsg (a-b):=by
 have h:a-b=Rat.divInt (a.num*(b.den:Int)-b.num*(a.den:Int)) ((a.den:Int)*(b.den:Int)):=by
  rw [Rat.sub_def', <- Int.natCast_mul,Rat.divInt_ofNat]
 have h1:=a.den_pos
 have h2:=b.den_pos
 rw [h,rsg_divInt (by exact_mod_cast Nat.mul_pos h1 h2),zcmp_subE]
 rfl
theorem rsg_neg (a:Rat):rsg (-a) = -rsg a:=by unfold rsg;rw [Rat.neg_num,Int.sign_neg]
theorem oY (a b:Rat):G4 b a = -G4 a b:=by
 rw [R1,R1, <- rsg_neg];congr 1;grind
theorem rsg_zero {a:Rat} : rsg a=0 ↔ a=0:=by
 unfold rsg
 rw [Int.sign_eq_zero_iff_zero,Rat.num_eq_zero]
theorem rC {a:Rat} : rsg a = -1 ↔ a<0:=by
 unfold rsg
 rw [Int.sign_eq_neg_one_iff_neg,Rat.lt_iff];simp
theorem rcmp_lt {a b:Rat} : G4 a b = -1 ↔ a<b:=by rw [R1,rC];constructor<;>intro h<;>grind
theorem rcmp_zero {a b:Rat} : G4 a b=0 ↔ a=b:=by rw [R1,rsg_zero];constructor<;>intro h<;>grind
theorem rcmp_or (a b:Rat):G4 a b = -1\/G4 a b=0\/G4 a b=1:=by
 rcases Int.lt_trichotomy ((a-b).num) 0 with h | h | h
 · left;rw [R1];exact Int.sign_eq_neg_one_of_neg h
 · right;left;rw [R1];unfold rsg;rw [h];rfl
 · right;right;rw [R1];exact Int.sign_eq_one_of_pos h
theorem rdiv_num (x y:Int):(Rat.divInt x y).num=y.sign*x / ((Nat.gcd x.natAbs y.natAbs:Nat):Int):=by
 rw [Rat.num_divInt,show Int.gcd y x=Nat.gcd x.natAbs y.natAbs from Nat.gcd_comm _ _]
theorem rdiv_den (x y:Int) (h:y≠0):(((Rat.divInt x y).den:Nat):Int)=(y.natAbs:Int) / ((Nat.gcd x.natAbs y.natAbs:Nat):Int):=by
 rw [Rat.den_divInt,if_neg h,show Int.gcd y x=Nat.gcd x.natAbs y.natAbs from Nat.gcd_comm _ _];rfl
theorem eW {x y:Int} {K:Nat} (h:x.natAbs<B^K):(Rat.divInt x y).num.natAbs<B^K:=by
 rw [rdiv_num]
 refine Nat.lt_of_le_of_lt (Int.natAbs_ediv_le_natAbs _ _) (Nat.lt_of_le_of_lt ?_ h)
 rw [Int.natAbs_mul]
 have:y.sign.natAbs<=1:=by have:=sign_bdE y;omega
 exact Nat.le_trans (Nat.mul_le_mul_right _ this) (by omega)
theorem eX {x y:Int} {K:Nat} (h:y.natAbs<B^K) (h0:y≠0):(Rat.divInt x y).den<B^K:=by
 rw [Rat.den_divInt,if_neg h0]
 exact Nat.lt_of_le_of_lt (Nat.div_le_self _ _) h
theorem kY {a b:Rat} (ha:a.den=1) (hb:b.den=1):(a*b).num=a.num*b.num/\dn (a*b)=0:=by
 constructor
 · rw [kZ,ha,hb];simp
 · unfold dn;rw [if_pos (by rw [lA,ha,hb];simp)]
theorem fbw {a K L:Nat} (h:a<B^K) (hl:K<=L):a<B^L:=Nat.lt_of_lt_of_le h (Nat.pow_le_pow_right E5 hl)
theorem rT {x y:Int} {K:Nat} (hx:x.natAbs<B^K) (hy:y.natAbs<B^K):(x+y).natAbs<B^(K+1):=by
 have h1:=Int.natAbs_add_le x y
 rw [Nat.pow_succ]
 have h2:B^K*2<=B^K*B:=Nat.mul_le_mul_left _ (by unfold B;omega)
 omega
theorem dU {a b:Rat} (ha:a.den=1) (hb:b.den=1):(a+b).num=a.num+b.num/\dn (a+b)=0:=by
 have h:=lD a b 1 1 (a.num+b.num) (by rw [ha,hb];rfl) (by rw [ha,hb];simp) (by rw [Nat.gcd_one_right])
 constructor
 · rw [h.1];simp
 · unfold dn;rw [if_pos (by rw [h.2,ha,hb])]
theorem kW {a b:Rat} (ha:a.den=1) (hb:b.den=1):(a-b).num=a.num-b.num/\dn (a-b)=0:=by
 rw [Rat.sub_eq_add_neg]
 have h:=dU ha (show (-b).den=1 by rw [Rat.neg_den];exact hb)
 rw [Rat.neg_num] at h
 exact h
theorem pS (x y:Int) (h : 0<y):(Rat.divInt x y).num=x / ((Nat.gcd x.natAbs y.natAbs:Nat):Int)/\(((Rat.divInt x y).den:Nat):Int)=y / ((Nat.gcd x.natAbs y.natAbs:Nat):Int):=by
 constructor
 · rw [rdiv_num,Int.sign_eq_one_of_pos h,Int.one_mul]
 · rw [rdiv_den x y (by omega),Int.natAbs_of_nonneg (by omega)]
end Go.Proofs.YtamdnbbgpacfkaaDoor
