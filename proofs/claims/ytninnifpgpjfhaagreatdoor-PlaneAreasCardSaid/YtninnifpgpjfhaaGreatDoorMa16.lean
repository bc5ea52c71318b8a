/- What the laws lean on, part 16. -/
import Derived.Below
import Derived.BigCall
import Derived.BigQuiet
import Derived.BigRegion
import Derived.ChangeOld
import Derived.Deep.AppendLies
import Derived.Deep.CutBlock
import Derived.Deep.CutRange
import Derived.Deep.DeepCutAuto
import Derived.Deep.DeepHandedRow
import Derived.Deep.LoopGhost
import Derived.Deep.MidRow
import Derived.Deep.QuietTactic
import Derived.Deep.RegionHeld3
import Derived.Deep.RegionLaw
import Derived.Deep.Strs
import Derived.Deep.WholeRow
import Derived.Laws.AppendOwn
import Derived.Laws.Concat
import Derived.Laws.CopyOwn
import Derived.Laws.Externs
import Derived.Laws.IdiomStrings
import Derived.Lib.BitFns
import Derived.Lib.Bytealg
import Derived.Lib.Hide
import Derived.Lib.Slices
import Derived.Lib.Small
import Derived.Lib.Strings
import Derived.Lib.Walk
import Derived.LoopIn
import Derived.LoopN
import Derived.LoopNIn
import Derived.Maps.AppendAt
import Derived.OpenShut
import Derived.OrdersHeld
import Derived.OrdersIn
import Derived.Outline
import Derived.OwnWalk
import Derived.OwnWalkIn
import Derived.ProofKit
import Derived.RangeFuncBound
import Derived.RangeFuncCalls
import Derived.RangeFuncLeaves
import Derived.RangeFuncNested
import Derived.RangeFuncOwn
import Derived.Shelf.Abstract
import Derived.Shelf.Bits.Mul64
import Derived.Shelf.RegionOpen
import Derived.Shelf.Spec.TrailingZeros
import Derived.StillTailTactics
import Derived.TacticsInMore
import Derived.WalkKit
import Derived.WalkLawsBesides
import Derived.WalkSpells
import Derived.WideKeyArgs
import Derived.Test.YtninnifpgpjfhaaGreatDoorProg
import Derived.Test.YtninnifpgpjfhaaGreatDoorRows
import Derived.Test.YtninnifpgpjfhaaGreatDoorMa15
set_option linter.unusedVariables false
set_option linter.unusedSimpArgs false
set_option maxRecDepth 100000
namespace Go.Proofs.YtninnifpgpjfhaaGreatDoor
open Go.RowKit Mat Ex PM
theorem zt_0:D5 { data := #[48] } 0:=⟨[48],dec_of (by decide +kernel),by decide +kernel,by decide +kernel⟩
theorem zt_2:D5 { data := #[50] } 2:=⟨[50],dec_of (by decide +kernel),by decide +kernel,by decide +kernel⟩
theorem zt_4:D5 { data := #[52] } 4:=⟨[52],dec_of (by decide +kernel),by decide +kernel,by decide +kernel⟩
theorem gJ {a b:Int} {s t:ByteArray} (h:D5 s a) (h':D5 t b):P9 (s ++ { data := #[32] } ++ t) (B0 a b):=
 ⟨s,t,.inl ⟨Rat.den_intCast a,by show D5 s ((a:Rat)).num;rw [Rat.num_intCast];exact h⟩,.inl ⟨Rat.den_intCast b,by show D5 t ((b:Rat)).num;rw [Rat.num_intCast];exact h'⟩,rfl⟩
theorem k_meet1:W4 (B0 0 0) (B0 4 4) (B0 0 4) (B0 4 0)=[B0 2 2]:=by
 refine told_uniq (meetP_told _ _ _ _) (.one _ fun q=>?_)
 have hne:A3 (B0 0 4) (B0 4 0) (B0 0 0)≠A3 (B0 0 4) (B0 4 0) (B0 4 4):=by decide +kernel
 have hp:pat (B0 0 0) (B0 4 4) (A3 (B0 0 4) (B0 4 0) (B0 0 0) / (A3 (B0 0 4) (B0 4 0) (B0 0 0)-A3 (B0 0 4) (B0 4 0) (B0 4 4)))=B0 2 2:=by decide +kernel
 rw [<- hp]
 have e1:A3 (B0 0 4) (B0 4 0) (B0 0 0) = -16:=by decide +kernel
 have e2:A3 (B0 0 4) (B0 4 0) (B0 4 4)=16:=by decide +kernel
 have e3:A3 (B0 0 0) (B0 4 4) (B0 0 4)=16:=by decide +kernel
 have e4:A3 (B0 0 0) (B0 4 4) (B0 4 0) = -16:=by decide +kernel
 exact nL hne (by rw [e1,e2];unfold M9;grind) (by rw [e3,e4];unfold M9;grind) q
theorem gL {p q:Pq} (h:I9 p q<=0):ple p q:=pcmp_le.1 h
theorem k_meet2:W4 (B0 0 0) (B0 4 0) (B0 1 0) (B0 9 0)=[B0 1 0,B0 4 0]:=by
 have h1:ple (B0 0 0) (B0 4 0):=gL (by decide +kernel)
 have h2:ple (B0 1 0) (B0 9 0):=gL (by decide +kernel)
 have h3:¬ ple (B0 1 0) (B0 0 0):=fun h=>absurd (pcmp_le.2 h) (by decide +kernel)
 have h4:ple (B0 4 0) (B0 9 0):=gL (by decide +kernel)
 have h5:ple (B0 1 0) (B0 4 0):=gL (by decide +kernel)
 have e1:A3 (B0 0 0) (B0 4 0) (B0 1 0)=0:=by decide +kernel
 have e2:A3 (B0 0 0) (B0 4 0) (B0 9 0)=0:=by decide +kernel
 have e3:A3 (B0 1 0) (B0 9 0) (B0 0 0)=0:=by decide +kernel
 have e4:A3 (B0 1 0) (B0 9 0) (B0 4 0)=0:=by decide +kernel
 unfold W4
 rw [(aO h1).1,(aO h1).2,(aO h2).1,(aO h2).2,pmax_f h3,pmin_t h4,if_pos h5,e1,e2,e3,e4,if_neg (by unfold M9;grind),if_neg (by unfold M9;grind),if_pos ⟨rfl,rfl⟩,btw_f (by decide +kernel)]
theorem k_clip:kC (B0 0 (-2)) (B0 0 4) (B0 0 0) (B0 1 0)=[B0 0 0,B0 0 4]:=by
 have e1:A3 (B0 0 0) (B0 1 0) (B0 0 (-2)) = -2:=by decide +kernel
 have e2:A3 (B0 0 0) (B0 1 0) (B0 0 4)=4:=by decide +kernel
 have hp:pat (B0 0 (-2)) (B0 0 4) ((-2:Rat) / (-2-4))=B0 0 0:=by decide +kernel
 unfold kC
 rw [e1,e2,if_neg (by grind),if_pos (by grind),hp,btw_f (by decide +kernel)]
theorem K0 {x y:Int} (h1 : -9223372036854775808<=x) (h2:x<=9223372036854775807) (h3 : -9223372036854775808<=y) (h4:y<=9223372036854775807):Bp 1 (B0 x y):=by
 have h1':(1:Nat)<B^1:=by unfold B;decide
 exact ⟨⟨by show ((x:Rat)).num.natAbs<_;rw [Rat.num_intCast];exact nO h1 h2,by show ((x:Rat)).den<_;rw [Rat.den_intCast];exact h1'⟩,⟨by show ((y:Rat)).num.natAbs<_;rw [Rat.num_intCast];exact nO h3 h4,by show ((y:Rat)).den<_;rw [Rat.den_intCast];exact h1'⟩⟩
theorem congr2 {a b c d:Value} (h:a=c) (h2:b=d):[Value.agg #[a,b]]=[Value.agg #[c,d]]:=by rw [h,h2]
theorem L6 (w:World) (p q r s:Int) (hp1 : -9223372036854775808<=p) (hp2:p<=9223372036854775807) (hq1 : -9223372036854775808<=q) (hq2:q<=9223372036854775807) (hr1 : -9223372036854775808<=r) (hr2:r<=9223372036854775807) (hs1 : -9223372036854775808<=s) (hs2:s<=9223372036854775807) :
 Calls Tryz.prog 29 #[.int .i64 p,.int .i64 q,.int .i64 r,.int .i64 s] w (fun e w'=>∃ v,e = .returned v/\SgV w' v (B0 p q) (B0 r s)/\w.grownBy w' none):=by
 refine A6 B5 Tryz.func29 [sZ p,sZ q,sZ r,sZ s] [sPt (B0 p q),sPt (B0 r s)] (.cons rfl (.cons rfl (.cons rfl (.cons rfl .nil)))) (rs:=[cl 4 25 [.v true [.an 0 0,.an 1 0]],cl 5 25 [.v true [.an 2 0,.an 3 0]]]) (out := .v true [.an 4 0,.an 4 1,.an 4 2,.an 4 3,.an 4 4,.an 4 5,.an 4 6,.an 4 7,.an 5 0,.an 5 1,.an 5 2,.an 5 3,.an 5 4,.an 5 5,.an 5 6,.an 5 7]) (nc:=6) (by kernel_rfl)
  ⟨fun σ W g h hb=>argl (congr2 (h 0 rfl) (h 1 rfl)) (nV W p q hp1 hp2 hq1 hq2),
  fun σ W g h hb=>argl (congr2 (h 2 rfl) (h 3 rfl)) (nV W r s hr1 hr2 hs1 hs2),
  trivial⟩ fun τ W g h=>⟨_,rfl,mksg (h 4 rfl) (h 5 rfl),g⟩
theorem lC (w:World) (hTab:Tab w) :
 Calls Tryz.prog 9 #[] w (fun e w'=>e = .returned (.bool true)/\w.grownBy w' none):=by
 refine A6 B5 Tryz.func9 [] [sSg (B0 0 0) (B0 4 4),sSg (B0 0 4) (B0 4 0),lL 0 [B0 2 2],sSg (B0 0 0) (B0 4 0),sSg (B0 1 0) (B0 9 0),lL 0 [B0 1 0,B0 4 0],sSg (B0 0 (-2)) (B0 0 4),sSg (B0 0 0) (B0 1 0),lL 0 [B0 0 0,B0 0 4],sV (.int .i64 1),sAt (B0 2 2),sPt (B0 2 2),sT (fun s=>P9 s (B0 2 2)),sV (.bool true),sV (.int .i64 2),sAt (B0 4 0),sPt (B0 4 0),sT (fun s=>P9 s (B0 4 0)),sV (.bool true),sV (.int .i64 2),sAt (B0 0 0),sPt (B0 0 0),sT (fun s=>P9 s (B0 0 0)),sV (.bool true),sAt (B0 0 4),sPt (B0 0 4),sT (fun s=>P9 s (B0 0 4)),sV (.bool true)] .nil (rs:=[cl 0 29 [.v false [.lit (.int .i64 0)],.v false [.lit (.int .i64 0)],.v false [.lit (.int .i64 4)],.v false [.lit (.int .i64 4)]],cl 1 29 [.v false [.lit (.int .i64 0)],.v false [.lit (.int .i64 4)],.v false [.lit (.int .i64 4)],.v false [.lit (.int .i64 0)]],cl 2 30 [ag 16 0,ag 16 1],cl 3 29 [.v false [.lit (.int .i64 0)],.v false [.lit (.int .i64 0)],.v false [.lit (.int .i64 4)],.v false [.lit (.int .i64 0)]],cl 4 29 [.v false [.lit (.int .i64 1)],.v false [.lit (.int .i64 0)],.v false [.lit (.int .i64 9)],.v false [.lit (.int .i64 0)]],cl 5 30 [ag 16 3,ag 16 4],cl 6 29 [.v false [.lit (.int .i64 0)],.v false [.lit (.int .i64 (-2))],.v false [.lit (.int .i64 0)],.v false [.lit (.int .i64 4)]],cl 7 29 [.v false [.lit (.int .i64 0)],.v false [.lit (.int .i64 0)],.v false [.lit (.int .i64 1)],.v false [.lit (.int .i64 0)]],cl 8 31 [ag 16 6,ag 16 7],co 9 (.call ⟨.builtin .len, #[(.tmp 20)], #[23]⟩) 3 [on 2] [0,1,2,3,4,5,6,7,8] [],co 10 (.indexAddr 23 (.tmp 24) (.const (.int .i64 0))) 0 [on 2,.v false [.lit (.int .i64 0)]] [0,1,2,3,4,5,6,7,8,9] [],co 11 (.load 33 (.tmp 25)) 33 [on 10] [0,1,2,3,4,5,6,7,8,9,10] [],cl 12 32 [ag 8 11],co 13 (.binOp .eql 9 (.tmp 27) (.const (.string ({ data := #[50,32,50] }))) 9) 4 [on 12,.v false [.lit (.string ({ data := #[50,32,50] }))]] [0,1,2,3,4,5,6,7,8,9,10,11,12] [],co 14 (.call ⟨.builtin .len, #[(.tmp 31)], #[23]⟩) 3 [on 5] [0,1,2,3,4,5,6,7,8,9,10,11,12,13] [],co 15 (.indexAddr 23 (.tmp 36) (.const (.int .i64 1))) 0 [on 5,.v false [.lit (.int .i64 1)]] [0,1,2,3,4,5,6,7,8,9,10,11,12,13,14] [],co 16 (.load 33 (.tmp 37)) 33 [on 15] [0,1,2,3,4,5,6,7,8,9,10,11,12,13,14,15] [],cl 17 32 [ag 8 16],co 18 (.binOp .eql 9 (.tmp 39) (.const (.string ({ data := #[52,32,48] }))) 9) 4 [on 17,.v false [.lit (.string ({ data := #[52,32,48] }))]] [0,1,2,3,4,5,6,7,8,9,10,11,12,13,14,15,16,17] [],co 19 (.call ⟨.builtin .len, #[(.tmp 43)], #[23]⟩) 3 [on 8] [0,1,2,3,4,5,6,7,8,9,10,11,12,13,14,15,16,17,18] [],co 20 (.indexAddr 23 (.tmp 48) (.const (.int .i64 0))) 0 [on 8,.v false [.lit (.int .i64 0)]] [0,1,2,3,4,5,6,7,8,9,10,11,12,13,14,15,16,17,18,19] [],co 21 (.load 33 (.tmp 49)) 33 [on 20] [0,1,2,3,4,5,6,7,8,9,10,11,12,13,14,15,16,17,18,19,20] [],cl 22 32 [ag 8 21],co 23 (.binOp .eql 9 (.tmp 51) (.const (.string ({ data := #[48,32,48] }))) 9) 4 [on 22,.v false [.lit (.string ({ data := #[48,32,48] }))]] [0,1,2,3,4,5,6,7,8,9,10,11,12,13,14,15,16,17,18,19,20,21,22] [],co 24 (.indexAddr 23 (.tmp 55) (.const (.int .i64 1))) 0 [on 8,.v false [.lit (.int .i64 1)]] [0,1,2,3,4,5,6,7,8,9,10,11,12,13,14,15,16,17,18,19,20,21,22,23] [],co 25 (.load 33 (.tmp 56)) 33 [on 24] [0,1,2,3,4,5,6,7,8,9,10,11,12,13,14,15,16,17,18,19,20,21,22,23,24] [],cl 26 32 [ag 8 25],co 27 (.binOp .eql 9 (.tmp 58) (.const (.string ({ data := #[48,32,52] }))) 9) 4 [on 26,.v false [.lit (.string ({ data := #[48,32,52] }))]] [0,1,2,3,4,5,6,7,8,9,10,11,12,13,14,15,16,17,18,19,20,21,22,23,24,25,26] []]) (out := .v false [.lit (.bool true)]) (nc:=28) (by kernel_rfl)
  ⟨fun σ W g h hb=>L6 W 0 0 4 4 (by decide) (by decide) (by decide) (by decide) (by decide) (by decide) (by decide) (by decide),
  fun σ W g h hb=>L6 W 0 4 4 0 (by decide) (by decide) (by decide) (by decide) (by decide) (by decide) (by decide) (by decide),
  fun σ W g h hb=>cM (Nat.zero_le _) (k_meet1 ▸ nU W _ _ (B0 0 0) (B0 4 4) (B0 0 4) (B0 4 0) 1 (h 0 rfl) (h 1 rfl) (by omega) (K0 (x:=0) (y:=0) (by decide) (by decide) (by decide) (by decide)) (K0 (x:=4) (y:=4) (by decide) (by decide) (by decide) (by decide)) (K0 (x:=0) (y:=4) (by decide) (by decide) (by decide) (by decide)) (K0 (x:=4) (y:=0) (by decide) (by decide) (by decide) (by decide)) (hTab.kept g (by simp))),
  fun σ W g h hb=>L6 W 0 0 4 0 (by decide) (by decide) (by decide) (by decide) (by decide) (by decide) (by decide) (by decide),
  fun σ W g h hb=>L6 W 1 0 9 0 (by decide) (by decide) (by decide) (by decide) (by decide) (by decide) (by decide) (by decide),
  fun σ W g h hb=>cM (Nat.zero_le _) (k_meet2 ▸ nU W _ _ (B0 0 0) (B0 4 0) (B0 1 0) (B0 9 0) 1 (h 3 rfl) (h 4 rfl) (by omega) (K0 (x:=0) (y:=0) (by decide) (by decide) (by decide) (by decide)) (K0 (x:=4) (y:=0) (by decide) (by decide) (by decide) (by decide)) (K0 (x:=1) (y:=0) (by decide) (by decide) (by decide) (by decide)) (K0 (x:=9) (y:=0) (by decide) (by decide) (by decide) (by decide)) (hTab.kept g (by simp))),
  fun σ W g h hb=>L6 W 0 (-2) 0 4 (by decide) (by decide) (by decide) (by decide) (by decide) (by decide) (by decide) (by decide),
  fun σ W g h hb=>L6 W 0 0 1 0 (by decide) (by decide) (by decide) (by decide) (by decide) (by decide) (by decide) (by decide),
  fun σ W g h hb=>cM (Nat.zero_le _) (k_clip ▸ PClip_any W _ _ (B0 0 (-2)) (B0 0 4) (B0 0 0) (B0 1 0) 1 (h 6 rfl) (h 7 rfl) (by omega) (K0 (x:=0) (y:=(-2)) (by decide) (by decide) (by decide) (by decide)) (K0 (x:=0) (y:=4) (by decide) (by decide) (by decide) (by decide)) (K0 (x:=0) (y:=0) (by decide) (by decide) (by decide) (by decide)) (K0 (x:=1) (y:=0) (by decide) (by decide) (by decide) (by decide)) (hTab.kept g (by simp))),
  fun σ W g h hb=>fun ρ o ho _ hv=>⟨_,oK (h 2 rfl).1 ho (G9 hv) ⟨33,by kernel_rfl⟩,rfl⟩,
  fun σ W g h hb=>fun ρ o ho _ hv=>by
   obtain ⟨u,h1,h2,h3⟩:=oL (h 2 rfl).1 ho (A4 hv).1 0 (by simp) (A4 hv).2
   exact ⟨u,h1,h2,fun q hq=>⟨2,rfl,h3 q hq⟩⟩,
  fun σ W g h hb=>fun ρ o ho _ hv=>cV (h 10 rfl) ho (G9 hv),
  fun σ W g h hb=>toT (aX W _ (B0 2 2) 1 (h 11 rfl) (by omega) (K0 (by decide) (by decide) (by decide) (by decide))),
  fun σ W g h hb=>fun ρ o ho _ hv=>by
   obtain ⟨s,e,hs⟩:=h 12 rfl
   exact ⟨_,S7 ho ((A4 hv).1.trans e) (A4 hv).2 (V0 hs (gJ zt_2 zt_2)),rfl⟩,
  fun σ W g h hb=>fun ρ o ho _ hv=>⟨_,oK (h 5 rfl).1 ho (G9 hv) ⟨33,by kernel_rfl⟩,rfl⟩,
  fun σ W g h hb=>fun ρ o ho _ hv=>by
   obtain ⟨u,h1,h2,h3⟩:=oL (h 5 rfl).1 ho (A4 hv).1 1 (by simp) (A4 hv).2
   exact ⟨u,h1,h2,fun q hq=>⟨5,rfl,h3 q hq⟩⟩,
  fun σ W g h hb=>fun ρ o ho _ hv=>cV (h 15 rfl) ho (G9 hv),
  fun σ W g h hb=>toT (aX W _ (B0 4 0) 1 (h 16 rfl) (by omega) (K0 (by decide) (by decide) (by decide) (by decide))),
  fun σ W g h hb=>fun ρ o ho _ hv=>by
   obtain ⟨s,e,hs⟩:=h 17 rfl
   exact ⟨_,S7 ho ((A4 hv).1.trans e) (A4 hv).2 (V0 hs (gJ zt_4 zt_0)),rfl⟩,
  fun σ W g h hb=>fun ρ o ho _ hv=>⟨_,oK (h 8 rfl).1 ho (G9 hv) ⟨33,by kernel_rfl⟩,rfl⟩,
  fun σ W g h hb=>fun ρ o ho _ hv=>by
   obtain ⟨u,h1,h2,h3⟩:=oL (h 8 rfl).1 ho (A4 hv).1 0 (by simp) (A4 hv).2
   exact ⟨u,h1,h2,fun q hq=>⟨8,rfl,h3 q hq⟩⟩,
  fun σ W g h hb=>fun ρ o ho _ hv=>cV (h 20 rfl) ho (G9 hv),
  fun σ W g h hb=>toT (aX W _ (B0 0 0) 1 (h 21 rfl) (by omega) (K0 (by decide) (by decide) (by decide) (by decide))),
  fun σ W g h hb=>fun ρ o ho _ hv=>by
   obtain ⟨s,e,hs⟩:=h 22 rfl
   exact ⟨_,S7 ho ((A4 hv).1.trans e) (A4 hv).2 (V0 hs (gJ zt_0 zt_0)),rfl⟩,
  fun σ W g h hb=>fun ρ o ho _ hv=>by
   obtain ⟨u,h1,h2,h3⟩:=oL (h 8 rfl).1 ho (A4 hv).1 1 (by simp) (A4 hv).2
   exact ⟨u,h1,h2,fun q hq=>⟨8,rfl,h3 q hq⟩⟩,
  fun σ W g h hb=>fun ρ o ho _ hv=>cV (h 24 rfl) ho (G9 hv),
  fun σ W g h hb=>toT (aX W _ (B0 0 4) 1 (h 25 rfl) (by omega) (K0 (by decide) (by decide) (by decide) (by decide))),
  fun σ W g h hb=>fun ρ o ho _ hv=>by
   obtain ⟨s,e,hs⟩:=h 26 rfl
   exact ⟨_,S7 ho ((A4 hv).1.trans e) (A4 hv).2 (V0 hs (gJ zt_0 zt_4)),rfl⟩,
  trivial⟩ fun τ W g h=>⟨rfl,g⟩
end Go.Proofs.YtninnifpgpjfhaaGreatDoor
namespace Go.Proofs.YtninnifpgpjfhaaGreatDoor.PM
def pX (p q:Pq):Rat:=p.1*q.2-p.2*q.1
def shS (g:Nat->Pq) (n:Nat):Nat->Rat
 | 0=>0
 | k+1=>shS g n k+pX (g k) (g ((k+1)%n))
def oW (g:Nat->Pq):Nat->Rat
 | 0=>0
 | k+1=>oW g k+A3 (g 0) (g (k+1)) (g (k+2))
def opS (g:Nat->Pq):Nat->Rat
 | 0=>0
 | k+1=>opS g k+pX (g k) (g (k+1))
theorem pX_self (p:Pq):pX p p=0:=by unfold pX;grind
theorem pX_swap (p q:Pq):pX q p = - pX p q:=by unfold pX;grind
theorem pcross_X (o p q:Pq):A3 o p q=pX p q+pX o p-pX o q:=by unfold A3 pX;grind
theorem shS_op (g:Nat->Pq) (n:Nat):∀ k,k<n->shS g n k=opS g k
 | 0,_=>rfl
 | k+1,h=>by
   show shS g n k+pX (g k) (g ((k+1)%n))=opS g k+pX (g k) (g (k+1))
   rw [shS_op g n k (by omega),Nat.mod_eq_of_lt h]
theorem shS_all (g:Nat->Pq) (n:Nat):shS g (n+1) (n+1)=opS g n+pX (g n) (g 0):=by
 show shS g (n+1) n+pX (g n) (g ((n+1)%(n+1)))=_
 rw [shS_op g (n+1) n (by omega),Nat.mod_self]
theorem fanS_op (g:Nat->Pq):∀ k,oW g k=opS g (k+1)-pX (g 0) (g (k+1))
 | 0=>by show (0:Rat)=0+pX (g 0) (g 1)-pX (g 0) (g 1);grind
 | k+1=>by
   show oW g k+A3 (g 0) (g (k+1)) (g (k+2))=opS g (k+1)+pX (g (k+1)) (g (k+2))-pX (g 0) (g (k+2))
   rw [fanS_op g k,pcross_X];grind
theorem area_fan (g:Nat->Pq) (n:Nat):shS g n n=oW g (n-2):=by
 match n with
 | 0=>rfl
 | 1=>show (0:Rat)+pX (g 0) (g 0)=0;rw [pX_self];grind
 | n+2=>
   rw [shS_all,show n+2-2=n from rfl,fanS_op,pX_swap (g 0) (g (n+1))];grind
def at0 (l:List Pq) (i:Nat):Pq:=l.getD i (0,0)
def M7 (l:List Pq):Rat:=shS (at0 l) l.length l.length / 2
theorem areaP_fan (l:List Pq):M7 l=oW (at0 l) (l.length-2) / 2:=by unfold M7;rw [area_fan]
end Go.Proofs.YtninnifpgpjfhaaGreatDoor.PM
namespace Go.Proofs.YtninnifpgpjfhaaGreatDoor
open Go.RowKit Mat Ex PM
def sRQ (r:Rat) (E:Nat):Sp := .of (.agg 4) (fun v W=>RQ W v r E) (fun v W h=>by
 obtain ⟨g,s,l,c,g',s',l',c',n,d,rfl,_⟩:=h
 exact ⟨H8 [.int .i64 g,.slice s l c,.int .i64 g',.slice s' l' c'],C5 (by simp [Value.oneCell']),rfl⟩) (fun v W W' k h=>h.keeps k)
def sZc (p:Prop) (z:Int):Sp := .of .one (fun v _=>v = .int .i64 z/\p) (fun v W e=>⟨fun _ => .int .i64 z,fun _=>rfl,e.1⟩) (fun _ _ _ _ h=>h)
theorem rQAdd_any (w:World) (va vb:Value) (r t:Rat) (m e:Int) (E F:Nat) (Ha:RQ w va r E) (Hb:RF w vb m e) (he : 0<e) (ht:Rat.divInt m e=t) (hE:E+F<=400000) (l3:m.natAbs<D^F) (l4:e.natAbs<D^F) :
 Calls Tryz.prog 44 #[va,vb] w (RetRQ w (r+t) (E+F+1)):=by
 obtain ⟨n,d,HA,hd,hr,ln,ld⟩:=Ha.rf
 refine (rFAdd_any w va vb n d m e HA Hb (E+F) hE (dpw ln (by omega)) (dpw ld (by omega)) (dpw l3 (by omega)) (dpw l4 (by omega))).mono fun x w' ⟨v,e1,h,g⟩=>⟨v,e1, ?_,g⟩
 by_cases h1:d=e
 · rw [if_pos h1,if_pos h1] at h
   exact h.rq hd (rq_add1 hd hr (by rw [h1];exact ht)) (aP (dpw ln (by omega)) (dpw l3 (by omega))) (dpw ld (by omega))
 · rw [if_neg h1,if_neg h1] at h
   exact h.rq (Int.mul_pos hd he) (rq_add hd he hr ht) (aP (E1 ln l4) (dpw (E1 l3 ld) (by omega))) (dpw (E1 ld l4) (by omega))
theorem rQMul_any (w:World) (va vb:Value) (r t:Rat) (m e:Int) (E F:Nat) (Ha:RQ w va r E) (Hb:RF w vb m e) (he : 0<e) (ht:Rat.divInt m e=t) (hE:E+F<=400000) (l3:m.natAbs<D^F) (l4:e.natAbs<D^F) :
 Calls Tryz.prog 46 #[va,vb] w (RetRQ w (r*t) (E+F)):=by
 obtain ⟨n,d,HA,hd,hr,ln,ld⟩:=Ha.rf
 refine (rFMul_any w va vb n d m e HA Hb (E+F) hE (dpw ln (by omega)) (dpw ld (by omega)) (dpw l3 (by omega)) (dpw l4 (by omega))).mono fun x w' ⟨v,e1,h,g⟩=>⟨v,e1, ?_,g⟩
 exact h.rq (Int.mul_pos hd he) (rq_mul hr ht) (E1 ln l3) (E1 ld l4)
theorem iU (w:World) (va:Value) (r:Rat) (E:Nat) (Ha:RQ w va r E) (hE : 1<=E/\E<=200000):Calls Tryz.prog 12 #[va] w (kU w r):=by
 obtain ⟨n,d,H,h0,hr,l1,l2⟩:=Ha.rf
 exact rFText_any w va n d r H E hE h0 hr l1 l2
def hg (l:List H3) (k:Nat):H3:=l.getD k ⟨0,0,1⟩
theorem hg_at {l:List H3} {k:Nat} (h:k<l.length):l[k]=hg l k:=by simp [hg,h]
theorem eQ {l:List H3} {k:Nat} (h:k<l.length):hg l k ∈ l:=by rw [<- hg_at h];exact List.getElem_mem h
theorem hg_rp (l:List H3) (k:Nat) (h:k<l.length):rp (hg l k)=at0 (l.map rp) k:=by simp [hg,at0,h]
theorem hr_nth {P:Program} {ρ : Operand->Value} {o:Oper} {W:World} {x y:Operand} {v:Value} {l:List H3} (h:HrV W v l) (ho:o.op = .indexAddr 24 x y) (hx : ρ x=v) (k:Nat) (z:Int) (hz:z=k) (hk:k<l.length) (hy : ρ y = .int .i64 z) :
 ∃ u,(execOp ρ o).run Tryz.prog W = .ok (.value u) W/\HaV W u (hg l k) /\ ∀ q,fpP u q->fpS v q:=by
 rw [<- hg_at hk];subst hz;exact hr_at h ho hx k hk hy
theorem hr_lt {ρ : Operand->Value} {o:Oper} {t t':TypeId} {x y:Operand} {a b:Int} {n m:Nat} {W:World} (ho:o.op = .binOp .lss t x y t') (hx : ρ x = .int .i64 a) (hy : ρ y = .int .i64 b) (ha:a=n) (hb:b=m) :
 (execOp ρ o).run Tryz.prog W = .ok (.value (.bool (decide (n<m)))) W:=by
 have h:binOp .lss t (.int .i64 a) (.int .i64 b) = .pure (.bool (decide (a<b))):=rfl
 rw [E4 ho hx hy h,show decide (a<b)=decide (n<m) by subst ha hb;exact decide_eq_decide.2 (by omega)]
theorem P3 {v:Value} {n m:Nat} {b:Bool} (h:v = .bool (decide (n<m))) (h2:v = .bool b):decide (n<m)=b:=by rw [h] at h2;exact Value.bool.inj h2
theorem d51':(1:Int).natAbs<D^5/\(2:Int).natAbs<D^5:=by unfold D;decide
theorem d0':(0:Int).natAbs<D^1/\(1:Int).natAbs<D^1:=by unfold D;decide
theorem iW (w:World) (va:Value) (l:List H3) (E:Nat) (Ha:HrV w va l) (hE : 1<=E/\E<=1000) (hn:l.length<=40) (hl:∀ p ∈ l,HB E p/\0<p.z) :
 Calls Tryz.prog 13 #[va] w (RetRQ w (M7 (l.map rp)) (40*(4*E+4)+6)):=by
 refine fK B5 Tryz.func13 [sHr 0 l] (fun k:Nat=>[sRF 0 1,sZc (k=0\/k+2<=l.length) ((k:Int)+1),sRQ (oW (at0 (l.map rp)) k) (k*(4*E+4)+1),sZ ((k:Int)+1+1),sZ l.length,sC (.bool (decide (k+2<l.length))) rfl,sHa (hg l (0)),sH (hg l (0)),sHa (hg l (k+1)),sH (hg l (k+1)),sZ ((k:Int)+1+1),sHa (hg l (k+2)),sH (hg l (k+2)),sRF (hcr (hg l 0) (hg l (k+1)) (hg l (k+2))) (hdn (hg l 0) (hg l (k+1)) (hg l (k+2))),sRQ (oW (at0 (l.map rp)) (k+1)) ((k+1)*(4*E+4)+1),sZ ((k:Int)+1+1),sRF 1 2,sRQ (oW (at0 (l.map rp)) k*Rat.divInt 1 2) (k*(4*E+4)+1+5)]) (fun m k=>if m=2 then l.length-k else 0) (0) (fun _=>rfl) [1000000] [some [[.t 6,.t 7,.t 8,.t 9,.t 10,.t 11,.t 12,.t 13,.t 14,.t 15,.t 16,.t 17,.t 18,.t 19,.t 20,.t 21,.t 22,.t 23,.t 24,.t 25,.t 26,.t 27],[.t 4],[.c 1 0,.c 1 1,.c 1 2,.c 1 3]]] (.cons ⟨Ha,fun _ _=>Nat.zero_le _⟩ .nil) (rs:=[(cl 1 43 [.v false [.lit (.int .i64 0)]],[]),(co 4 (.binOp .add 3 (.tmp 6) (.const (.int .i64 1)) 3) 3 [on 2,.v false [.lit (.int .i64 1)]] [0,1,2,3] [],[]),(co 5 (.call ⟨.builtin .len, #[(.tmp 8)], #[24]⟩) 3 [on 0] [0,1,2,3] [],[]),(co 6 (.binOp .lss 3 (.tmp 7) (.tmp 9) 3) 4 [on 4,on 5] [0,1,2,3,4,5] [],[]),(co 7 (.indexAddr 24 (.tmp 14) (.const (.int .i64 0))) 0 [on 0,.v false [.lit (.int .i64 0)]] [0,1,2,3,4,5,6] [],[(6,0,true)]),(co 8 (.load 43 (.tmp 15)) 43 [on 7] [0,1,2,3,4,5,6,7] [],[(6,0,true)]),(co 9 (.indexAddr 24 (.tmp 17) (.tmp 18)) 0 [on 0,on 2] [0,1,2,3,4,5,6] [],[(6,0,true)]),(co 10 (.load 43 (.tmp 19)) 43 [on 9] [0,1,2,3,4,5,6,9] [],[(6,0,true)]),(co 11 (.binOp .add 3 (.tmp 22) (.const (.int .i64 1)) 3) 3 [on 2,.v false [.lit (.int .i64 1)]] [0,1,2,3,4,5,6] [],[(6,0,true)]),(co 12 (.indexAddr 24 (.tmp 21) (.tmp 23)) 0 [on 0,on 11] [0,1,2,3,4,5,6,11] [],[(6,0,true)]),(co 13 (.load 43 (.tmp 24)) 43 [on 12] [0,1,2,3,4,5,6,11,12] [],[(6,0,true)]),(cl 14 45 [ag 6 8,ag 6 10,ag 6 13],[(6,0,true)]),(cl 15 44 [ag 4 3,ag 4 14],[(6,0,true)]),(co 16 (.binOp .add 3 (.tmp 11) (.const (.int .i64 1)) 3) 3 [on 2,.v false [.lit (.int .i64 1)]] [0,1,2,3,4,5,6,7,8,9,10,11,12,13,14,15] [],[(6,0,true)]),(cla 17 47 [.v false [.lit (.int .i64 1)],.v false [.lit (.int .i64 2)]] [0,1,2,3,4,5,6],[(6,0,false)]),(cla 18 46 [ag 4 3,ag 4 17] [0,1,2,3,4,5,6,17],[(6,0,false)])]) (js:=[.loop false 2 [(2,.v false [.lit (.int .i64 1)]),(3,ag 4 1)] (List.range 2) [],.test 6 0 (List.range 7) [],.loop true 2 [(2,on 16),(3,ag 4 15)] (List.range 17) [(6,0,true)]]) (outs:=[⟨ag 4 18,[0,1,2,3,4,5,6,17,18],[(6,0,false)],[],[]⟩]) (nc:=19) (by kernel_rfl)
  (fun k=>⟨fun σ W g h hp hb=>rFOf_any W 0 (by omega) (by omega),
  fun σ W g h hp hb=>fun ρ o ho _ hv=>by
   have q:k=0\/k+2<=l.length:=(h 2 rfl).2
   exact ⟨_,E4 ho ((A4 hv).1.trans (h 2 rfl).1) (A4 hv).2 (dJ (by omega) (by omega)),rfl⟩,
  fun σ W g h hp hb=>fun ρ o ho _ hv=>⟨_,hr_len (h 0 rfl).1 ho (G9 hv) ⟨43,by kernel_rfl⟩,rfl⟩,
  fun σ W g h hp hb=>fun ρ o ho _ hv=>⟨_,hr_lt ho ((A4 hv).1.trans (h 4 rfl)) ((A4 hv).2.trans (h 5 rfl)) (by omega) rfl,rfl⟩,
  fun σ W g h hp hb=>fun ρ o ho _ hv=>by
   have q:=of_decide_eq_true (P3 (h 6 rfl) (hp 6 0 true rfl))
   obtain ⟨u,h1,h2,h3⟩:=hr_nth (P:=Tryz.prog) (h 0 rfl).1 ho (A4 hv).1 (0) _ rfl (by omega) (A4 hv).2
   exact ⟨u,h1,h2,fun q hq=>⟨0,rfl,h3 q hq⟩⟩,
  fun σ W g h hp hb=>fun ρ o ho _ hv=>oT (h 7 rfl) ho (G9 hv),
  fun σ W g h hp hb=>fun ρ o ho _ hv=>by
   have q:=of_decide_eq_true (P3 (h 6 rfl) (hp 6 0 true rfl))
   obtain ⟨u,h1,h2,h3⟩:=hr_nth (P:=Tryz.prog) (h 0 rfl).1 ho (A4 hv).1 (k+1) _ (by omega) (by omega) ((A4 hv).2.trans (h 2 rfl).1)
   exact ⟨u,h1,h2,fun q hq=>⟨0,rfl,h3 q hq⟩⟩,
  fun σ W g h hp hb=>fun ρ o ho _ hv=>oT (h 9 rfl) ho (G9 hv),
  fun σ W g h hp hb=>fun ρ o ho _ hv=>by
   have q:=of_decide_eq_true (P3 (h 6 rfl) (hp 6 0 true rfl))
   exact ⟨_,E4 ho ((A4 hv).1.trans (h 2 rfl).1) (A4 hv).2 (dJ (by omega) (by omega)),rfl⟩,
  fun σ W g h hp hb=>fun ρ o ho _ hv=>by
   have q:=of_decide_eq_true (P3 (h 6 rfl) (hp 6 0 true rfl))
   obtain ⟨u,h1,h2,h3⟩:=hr_nth (P:=Tryz.prog) (h 0 rfl).1 ho (A4 hv).1 (k+2) _ (by omega) (by omega) ((A4 hv).2.trans (h 11 rfl))
   exact ⟨u,h1,h2,fun q hq=>⟨0,rfl,h3 q hq⟩⟩,
  fun σ W g h hp hb=>fun ρ o ho _ hv=>oT (h 12 rfl) ho (G9 hv),
  fun σ W g h hp hb=>by
   have q:=of_decide_eq_true (P3 (h 6 rfl) (hp 6 0 true rfl))
   exact rHCross_any W _ _ _ _ _ _ E (h 8 rfl) (h 10 rfl) (h 13 rfl) (by omega) (hl _ (eQ (by omega))).1 (hl _ (eQ (by omega))).1 (hl _ (eQ (by omega))).1,
  fun σ W g h hp hb=>by
   have q:=of_decide_eq_true (P3 (h 6 rfl) (hp 6 0 true rfl))
   have a0:=hl _ (eQ (l:=l) (k:=0) (by omega))
   have a1:=hl _ (eQ (l:=l) (k:=k+1) (by omega))
   have a2:=hl _ (eQ (l:=l) (k:=k+2) (by omega))
   have hc:=a0.1.cr a1.1 a2.1
   have hb1:k*(4*E+4)<=40*(4*E+4):=Nat.mul_le_mul_right _ (by omega)
   refine (rQAdd_any W _ _ _ _ _ _ (k*(4*E+4)+1) (4*E+3) (h 3 rfl) (h 14 rfl) (hdn_pos a0.2 a1.2 a2.2) (rp_cross a0.2 a1.2 a2.2) (by omega) hc.1 hc.2.2).mono fun x w' ⟨v,e1,h,g⟩=>⟨v,e1, ?_,g⟩
   rw [hg_rp l _ (by omega),hg_rp l _ (by omega),hg_rp l _ (by omega)] at h
   exact h.mono (by rw [Nat.add_mul];omega),
  fun σ W g h hp hb=>fun ρ o ho _ hv=>by
   have q:=of_decide_eq_true (P3 (h 6 rfl) (hp 6 0 true rfl))
   exact ⟨_,E4 ho ((A4 hv).1.trans (h 2 rfl).1) (A4 hv).2 (dJ (by omega) (by omega)),rfl⟩,
  fun σ W g h hp hb=>rFFrac_any W 1 2 (by omega) (by omega) (by omega) (by omega),
  fun σ W g h hp hb=>by
   have q:k=0\/k+2<=l.length:=(h 2 rfl).2
   have hb1:k*(4*E+4)<=40*(4*E+4):=Nat.mul_le_mul_right _ (by omega)
   exact rQMul_any W _ _ _ _ _ _ (k*(4*E+4)+1) 5 (h 3 rfl) (h 17 rfl) (by omega) rfl (by omega) d51'.1 d51'.2,
  trivial⟩)
  (fun k=>⟨fun σ W g h hp=>⟨0,(fun e=>nomatch e),⟨rfl,fun m hm=>(if_neg (by omega)).trans (if_neg (by omega)).symm⟩,⟨rfl,.inl rfl⟩,(RF.rq (h 1 rfl) (by omega) (by show Rat.divInt 0 1=0;exact Rat.zero_divInt 1) d0'.1 d0'.2).mono (by omega),trivial⟩,
  fun σ W g h hp=>⟨_,h 6 rfl⟩,
  fun σ W g h hp=>by
   have q:=of_decide_eq_true (P3 (h 6 rfl) (hp 6 0 true rfl))
   exact ⟨k+1,fun _=>by show (if 2=2 then l.length-(k+1) else 0)<(if 2=2 then l.length-k else 0);rw [if_pos rfl,if_pos rfl];omega,⟨rfl,fun m hm=>(if_neg (by omega)).trans (if_neg (by omega)).symm⟩,⟨(h 16 rfl).trans (by push_cast;rfl),.inr (by omega)⟩,h 15 rfl,trivial⟩,
  trivial⟩)
  (fun k hk=>⟨fun τ W g h hp hb=>by
   have q:k=0\/k+2<=l.length:=(h 2 rfl).2
   have q2:=of_decide_eq_false (P3 (h 6 rfl) (hp 6 0 false rfl))
   have hb1:k*(4*E+4)<=40*(4*E+4):=Nat.mul_le_mul_right _ (by omega)
   refine ⟨_,rfl, ?_,g⟩
   have e:M7 (l.map rp)=oW (at0 (l.map rp)) k*Rat.divInt 1 2:=by
    rw [areaP_fan,List.length_map,show l.length-2=k by omega,Rat.div_def,show (2:Rat)⁻¹ = Rat.divInt 1 2 by decide +kernel]
   rw [e];exact RQ.mono (h 18 rfl) (by omega),
  trivial⟩)
theorem Bn.add' {K M:Nat} {r t:Rat} (h:Bn K r) (h':Bn M t):Bn (K+M+1) (r+t):=by
 constructor
 · rw [Rat.num_add]
   exact Nat.lt_of_le_of_lt (Int.natAbs_ediv_le_natAbs _ _) (oX (K5 h.1 (ldi h'.2)) (Nat.add_comm M K ▸ K5 h'.1 (ldi h.2)))
 · rw [Rat.den_add]
   refine Nat.lt_of_le_of_lt (Nat.div_le_self _ _) (bwd (K:=K+M) ?_ (by omega))
   rw [Nat.pow_add];exact Nat.mul_lt_mul'' h.2 h'.2
theorem pX_b {K:Nat} {p q:Pq} (hp:Bp K p) (hq:Bp K q):Bn (4*K+1) (pX p q):=by unfold pX;exact ((hp.1.mul hq.2).sub (hp.2.mul hq.1)).mono (by omega)
theorem shS_b {g:Nat->Pq} {n:Nat} (h:∀ i,i<n->Bp 1 (g i)):∀ k,k<=n->Bn (6*k+1) (shS g n k)
 | 0,_=>Bn.zero (by omega)
 | k+1,hk=>((shS_b h k (by omega)).add' (pX_b (h k (by omega)) (h ((k+1)%n) (Nat.mod_lt _ (by omega))))).mono (by omega)
theorem two_b:Bn 1 (2:Rat):=⟨by show (2:Nat)<_;unfold B;omega,by show (1:Nat)<_;unfold B;omega⟩
theorem area_b {l:List Pq} (h:∀ p ∈ l,Bp 1 p) (hn:l.length<=40):Bn 482 (M7 l):=by
 unfold M7
 refine (((shS_b (g:=at0 l) (n:=l.length) (fun i hi=>?_) l.length (Nat.le_refl _)).mono (M:=241) (by omega)).div (two_b.mono (by omega)) (by omega)).mono (by omega)
 have:at0 l i=l[i]:=by simp [at0,hi]
 rw [this];exact h _ (List.getElem_mem hi)
def lp (l:List Dt3):List Pq:=l.map fun d=>lat d.1 d.2.1 d.2.2
def lh (l:List Dt3):List H3:=l.map fun d=>⟨d.1,d.2.1,und d.2.2⟩
theorem lh_rp (l:List Dt3):(lh l).map rp=lp l:=by unfold lh lp;rw [List.map_map];rfl
def Small (d:Dt3):Prop:=(-9223372036854775808<=d.1/\d.1<=9223372036854775807)/\(-9223372036854775808<=d.2.1/\d.2.1<=9223372036854775807)
theorem lp_b {l:List Dt3} (h:∀ d ∈ l,Small d):∀ p ∈ lp l,Bp 1 p:=by
 intro p hp
 obtain ⟨d,hd,rfl⟩:=List.mem_map.1 hp
 have:=h d hd
 exact lat_b this.1.1 this.1.2 this.2.1 this.2.2
theorem lh_b {l:List Dt3} (h:∀ d ∈ l,Small d):∀ p ∈ lh l,HB 5 p/\0<p.z:=by
 intro p hp
 obtain ⟨d,hd,rfl⟩:=List.mem_map.1 hp
 have:=h d hd
 exact ⟨lat_h this.1.1 this.1.2 this.2.1 this.2.2,(cJ d.2.2).1⟩
theorem lp_next {l:List Dt3} {k:Nat} (h:k<l.length):lp (l.take (k+1))=lp (l.take k)++[lat (dg l k).1 (dg l k).2.1 (dg l k).2.2]:=by rw [lX h];simp [lp]
theorem lh_next {l:List Dt3} {k:Nat} (h:k<l.length):lh (l.take (k+1))=lh (l.take k)++[⟨(dg l k).1,(dg l k).2.1,und (dg l k).2.2⟩]:=by rw [lX h];simp [lh]
theorem jG {P:Program} {ρ : Operand->Value} {o:Oper} {t t':TypeId} {x y:Operand} {a b:Int} {W:World} {c:Bool} (ho:o.op = .binOp .lss t x y t') (hx : ρ x = .int .i64 a) (hy : ρ y = .int .i64 b) (h:decide (a<b)=c) :
 (execOp ρ o).run P W = .ok (.value (.bool c)) W:=E4 ho hx hy (by rw [<- h];rfl)
def sBq (b:Bool):Sp:=sC (.bool b) rfl
theorem vB {v:Value} {a b:Bool} (h:v = .bool a) (h2:v = .bool b):a=b:=by rw [h] at h2;exact Value.bool.inj h2
theorem eF (w:World) (va:Value) (l:List Dt3) (Ha:DtsV w.heap.size w va l) (hL:∀ d ∈ l,Small d) (hTab:Tab w) (hA:∀ (W:World) (v:Value) (m:List Pq),PtsV W v m->m.length<=40->(∀ p ∈ m,Bp 1 p)->Tab W->Calls Tryz.prog 10 #[v] W (P1 W (M7 m))) :
 Calls Tryz.prog 3 #[va] w (fun e w'=>e = .returned (.bool true)/\w.grownBy w' none):=by
 refine fK B5 Tryz.func3 [sDts w.heap.size l] (fun k:Nat=>[sZc (k<=40/\k<=l.length) (k:Int),sOw kPt w.heap.size (lp (l.take k)),sOw kH w.heap.size (lh (l.take k)),sBq (decide (k<l.length)),sZ l.length,sV (.bool true),sBq (decide (k<40)),sZ l.length,sV (.bool false),sDa w.heap.size (dg l k),sDt (dg l k).1 (dg l k).2.1 (dg l k).2.2,sPt (lat (dg l k).1 (dg l k).2.1 (dg l k).2.2),sOw kPt w.heap.size (lp (l.take (k+1))),sDa w.heap.size (dg l k),sDt (dg l k).1 (dg l k).2.1 (dg l k).2.2,sH ⟨(dg l k).1,(dg l k).2.1,und (dg l k).2.2⟩,sOw kH w.heap.size (lh (l.take (k+1))),sZ ((k:Int)+1),sV (.bool true),sQ (M7 (lp (l.take k))),sT (fun s=>I4 s (M7 (lp (l.take k)))),sRQ (M7 (lp (l.take k))) (40*(4*5+4)+6),sT (fun s=>I4 s (M7 (lp (l.take k)))),sV (.bool true),sV (.bool true),sQ (M7 (lp (l.take k))),sT (fun s=>I4 s (M7 (lp (l.take k)))),sRQ (M7 (lp (l.take k))) (40*(4*5+4)+6),sT (fun s=>I4 s (M7 (lp (l.take k)))),sV (.bool true)]) (fun m k=>if m=1 then 40-k else 0) (0) (fun _=>rfl) [1000000,4] [some [[.t 6,.t 7,.t 8,.t 9,.t 10,.t 11,.t 12,.t 13,.t 14,.t 15,.t 16,.t 17,.t 18,.t 19,.t 20,.t 21,.t 22,.t 23,.t 24,.t 25,.t 26,.t 27,.t 28,.t 29,.t 30,.t 31],[.t 5],[.t 3],[.t 4]]] (.cons Ha .nil) (rs:=[(co 5 (.call ⟨.builtin .len, #[(.tmp 7)], #[22]⟩) 3 [on 0] [0,1,2,3,4] [],[(4,0,true)]),(co 6 (.binOp .lss 3 (.tmp 6) (.tmp 8) 3) 4 [on 1,on 5] [0,1,2,3,4,5] [],[(4,0,true)]),(co 7 (.binOp .lss 3 (.tmp 11) (.const (.int .i64 40)) 3) 4 [on 1,.v false [.lit (.int .i64 40)]] [0,1,2,3,4,5,6] [],[(4,0,true)]),(co 8 (.call ⟨.builtin .len, #[(.tmp 7)], #[22]⟩) 3 [on 0] [0,1,2,3,4] [],[(4,0,false)]),(co 9 (.binOp .lss 3 (.tmp 6) (.tmp 8) 3) 4 [on 1,on 8] [0,1,2,3,4,8] [],[(4,0,false)]),(co 10 (.indexAddr 22 (.tmp 17) (.tmp 18)) 0 [on 0,on 1] [0,1,2,3,4,5,6,7] [],[(7,0,true),(4,0,true)]),(co 11 (.load 36 (.tmp 19)) 36 [on 10] [0,1,2,3,4,5,6,7,10] [],[(7,0,true),(4,0,true)]),(cla 12 7 [ag 3 11] [0,1,2,3,4,5,6,7,10,11],[(7,0,true),(4,0,true)]),(cow 13 (.call ⟨.builtin .append, #[(.tmp 16),(.tmp 22)], #[23,23]⟩) 23 [on 2,.v false [.row 0 0 1 1]] [0,1,2,3,4,5,6,7,10,11,12] [(0,33,[.an 12 0,.an 12 1,.an 12 2,.an 12 3,.an 12 4,.an 12 5,.an 12 6,.an 12 7])],[(7,0,true),(4,0,true)]),(co 14 (.indexAddr 22 (.tmp 25) (.tmp 26)) 0 [on 0,on 1] [0,1,2,3,4,5,6,7,10,11,12,13] [],[(7,0,true),(4,0,true)]),(co 15 (.load 36 (.tmp 27)) 36 [on 14] [0,1,2,3,4,5,6,7,10,11,12,13,14] [],[(7,0,true),(4,0,true)]),(cla 16 8 [ag 3 15] [0,1,2,3,4,5,6,7,10,11,12,13,14,15],[(7,0,true),(4,0,true)]),(cow 17 (.call ⟨.builtin .append, #[(.tmp 24),(.tmp 30)], #[24,24]⟩) 24 [on 3,.v false [.row 1 0 1 1]] [0,1,2,3,4,5,6,7,10,11,12,13,14,15,16] [(1,43,[.an 16 0,.an 16 1,.an 16 2,.an 16 3,.an 16 4,.an 16 5])],[(7,0,true),(4,0,true)]),(co 18 (.binOp .add 3 (.tmp 14) (.const (.int .i64 1)) 3) 3 [on 1,.v false [.lit (.int .i64 1)]] [0,1,2,3,4,5,6,7,10,11,12,13,14,15,16,17] [],[(7,0,true),(4,0,true)]),(cla 19 9 [] [0,1,2,3,4,5,6,7],[(7,0,false),(4,0,true)]),(cla 20 10 [on 2] [0,1,2,3,4,5,6,7,19],[(7,0,false),(4,0,true)]),(cla 21 11 [ag 4 20] [0,1,2,3,4,5,6,7,19,20],[(7,0,false),(4,0,true)]),(cla 22 13 [on 3] [0,1,2,3,4,5,6,7,19,20,21],[(7,0,false),(4,0,true)]),(cla 23 12 [ag 4 22] [0,1,2,3,4,5,6,7,19,20,21,22],[(7,0,false),(4,0,true)]),(co 24 (.binOp .eql 9 (.tmp 36) (.tmp 39) 9) 4 [on 21,on 23] [0,1,2,3,4,5,6,7,19,20,21,22,23] [],[(7,0,false),(4,0,true)]),(cla 25 9 [] [0,1,2,3,4,8,9],[(4,0,false)]),(cla 26 10 [on 2] [0,1,2,3,4,8,9,25],[(4,0,false)]),(cla 27 11 [ag 4 26] [0,1,2,3,4,8,9,25,26],[(4,0,false)]),(cla 28 13 [on 3] [0,1,2,3,4,8,9,25,26,27],[(4,0,false)]),(cla 29 12 [ag 4 28] [0,1,2,3,4,8,9,25,26,27,28],[(4,0,false)]),(co 30 (.binOp .eql 9 (.tmp 36) (.tmp 39) 9) 4 [on 27,on 29] [0,1,2,3,4,8,9,25,26,27,28,29] [],[(4,0,false)])]) (js:=[.loop false 1 [(1,.v false [.lit (.int .i64 0)]),(2,.v false [.lit (.slice none 0 0)]),(3,.v false [.lit (.slice none 0 0)])] (List.range 1) [],.ghost 4 (List.range 4) [],.test 7 0 (List.range 8) [(4,0,true)],.loop true 1 [(1,on 18),(2,on 13),(3,on 17)] [0,1,2,3,4,5,6,7,10,11,12,13,14,15,16,17,18] [(7,0,true),(4,0,true)]]) (outs:=[⟨.v false [.lit (.bool true)],[0,1,2,3,4,5,6,7,19,20,21,22,23,24],[(7,0,false),(4,0,true)],[],[]⟩,⟨.v false [.lit (.bool true)],[0,1,2,3,4,8,9,25,26,27,28,29,30],[(4,0,false)],[],[]⟩]) (nc:=31) (by kernel_rfl)
  (fun k=>⟨fun σ W g h hp hb=>fun ρ o ho _ hv=>⟨_,dts_len (h 0 rfl) ho (G9 hv) ⟨36,by kernel_rfl⟩,rfl⟩,
  fun σ W g h hp hb=>fun ρ o ho _ hv=>by
   have hi:k<l.length:=by have q:=of_decide_eq_true (vB (h 4 rfl) (hp 4 0 true rfl));exact q
   exact ⟨_,jG ho ((A4 hv).1.trans (h 1 rfl).1) ((A4 hv).2.trans (h 5 rfl)) (decide_eq_true (by omega)),rfl⟩,
  fun σ W g h hp hb=>fun ρ o ho _ hv=>⟨_,jG ho ((A4 hv).1.trans (h 1 rfl).1) (A4 hv).2 (decide_eq_decide.2 (by omega)),rfl⟩,
  fun σ W g h hp hb=>fun ρ o ho _ hv=>⟨_,dts_len (h 0 rfl) ho (G9 hv) ⟨36,by kernel_rfl⟩,rfl⟩,
  fun σ W g h hp hb=>fun ρ o ho _ hv=>by
   have q:=of_decide_eq_false (vB (h 4 rfl) (hp 4 0 false rfl))
   exact ⟨_,jG ho ((A4 hv).1.trans (h 1 rfl).1) ((A4 hv).2.trans (h 8 rfl)) (decide_eq_false (by omega)),rfl⟩,
  fun σ W g h hp hb=>fun ρ o ho _ hv=>by
   have hi:k<l.length:=by have q:=of_decide_eq_true (vB (h 4 rfl) (hp 4 0 true rfl));exact q
   obtain ⟨u,h1,h2,h3⟩:=dts_at (h 0 rfl) ho (A4 hv).1 k hi ((A4 hv).2.trans (h 1 rfl).1)
   exact ⟨u,h1,h2,fun q hq=>⟨0,rfl,h3 q hq⟩⟩,
  fun σ W g h hp hb=>fun ρ o ho _ hv=>dts_load (h 10 rfl) ho (G9 hv),
  fun σ W g h hp hb=>by
   have hi:k<l.length:=by have q:=of_decide_eq_true (vB (h 4 rfl) (hp 4 0 true rfl));exact q
   have hs:=hL _ (dg_mem hi)
   exact argl (congrArg (fun v=>[v]) (h 11 rfl)) (LAt_any W _ _ _ hs.1.1 hs.1.2 hs.2.1 hs.2.2 (hTab.kept g (by simp))),
  fun σ W g h hp hb=>fun ρ o ho _ hv=>by
   have hi:k<l.length:=by have q:=of_decide_eq_true (vB (h 4 rfl) (hp 4 0 true rfl));exact q
   have q:k<=40/\k<=l.length:=(h 1 rfl).2
   exact appS kPt g rfl (m0:=2) rfl rfl (by rw [<- lp_next hi];rfl) (h 2 rfl) (app_step kPt (by kernel_rfl) (info_k _ _ (by kernel_rfl)) (by decide) (h 2 rfl) (cs:=[σ.an 12 0, σ.an 12 1, σ.an 12 2, σ.an 12 3, σ.an 12 4, σ.an 12 5, σ.an 12 6, σ.an 12 7]) rfl (hb.1 _ (.head _)) (h 12 rfl) (PtV.one (h 12 rfl)) (by simp [lp];omega) g.size ho (A4 hv).1 (A4 hv).2)
    (fun m hm hne hr=>by
    match m,hm,hne,hr with
    | 0,_,_,_=>exact .inl ⟨h 0 rfl,fun q hq=>dG (h 2 rfl) (DtsV.block (h 0 rfl) hq)⟩
    | 1,_,_,hr=>exact absurd hr Bool.false_ne_true
    | 2,_,hne,_=>exact absurd rfl hne
    | 3,_,_,_=>exact .inl ⟨h 3 rfl,fun q hq=>own_ne (h 2 rfl) (h 3 rfl) hq (by decide)⟩
    | 4,_,_,hr=>exact absurd hr Bool.false_ne_true
    | 5,_,_,hr=>exact absurd hr Bool.false_ne_true
    | 6,_,_,hr=>exact absurd hr Bool.false_ne_true
    | 7,_,_,hr=>exact absurd hr Bool.false_ne_true
    | 8,hm,_,_=>exact absurd hm Bool.false_ne_true
    | 9,hm,_,_=>exact absurd hm Bool.false_ne_true
    | 10,_,_,_=>exact .inl ⟨h 10 rfl,fun q hq=>dG (h 2 rfl) (DaV.block (h 10 rfl) hq)⟩
    | 11,_,_,hr=>exact absurd hr Bool.false_ne_true
    | 12,_,_,hr=>exact absurd hr Bool.false_ne_true
    | j+13,hm,_,_=>exact absurd hm (by simp)),
  fun σ W g h hp hb=>fun ρ o ho _ hv=>by
   have hi:k<l.length:=by have q:=of_decide_eq_true (vB (h 4 rfl) (hp 4 0 true rfl));exact q
   obtain ⟨u,h1,h2,h3⟩:=dts_at (h 0 rfl) ho (A4 hv).1 k hi ((A4 hv).2.trans (h 1 rfl).1)
   exact ⟨u,h1,h2,fun q hq=>⟨0,rfl,h3 q hq⟩⟩,
  fun σ W g h hp hb=>fun ρ o ho _ hv=>dts_load (h 14 rfl) ho (G9 hv),
  fun σ W g h hp hb=>by
   have hi:k<l.length:=by have q:=of_decide_eq_true (vB (h 4 rfl) (hp 4 0 true rfl));exact q
   have hs:=hL _ (dg_mem hi)
   exact argl (congrArg (fun v=>[v]) (h 15 rfl)) (rHAt_any W _ _ _ hs.1.1 hs.1.2 hs.2.1 hs.2.2),
  fun σ W g h hp hb=>fun ρ o ho _ hv=>by
   have hi:k<l.length:=by have q:=of_decide_eq_true (vB (h 4 rfl) (hp 4 0 true rfl));exact q
   have q:k<=40/\k<=l.length:=(h 1 rfl).2
   exact appS kH g rfl (m0:=3) rfl rfl (by rw [<- lh_next hi];rfl) (h 3 rfl) (app_step kH (by kernel_rfl) (info_k _ _ (by kernel_rfl)) (by decide) (h 3 rfl) (cs:=[σ.an 16 0, σ.an 16 1, σ.an 16 2, σ.an 16 3, σ.an 16 4, σ.an 16 5]) rfl (hb.1 _ (.head _)) (h 16 rfl) (HV.one (h 16 rfl)) (by simp [lh];omega) g.size ho (A4 hv).1 (A4 hv).2)
    (fun m hm hne hr=>by
    match m,hm,hne,hr with
    | 0,_,_,_=>exact .inl ⟨h 0 rfl,fun q hq=>dG (h 3 rfl) (DtsV.block (h 0 rfl) hq)⟩
    | 1,_,_,hr=>exact absurd hr Bool.false_ne_true
    | 2,_,_,_=>exact .inl ⟨h 2 rfl,fun q hq=>own_ne (h 3 rfl) (h 2 rfl) hq (by decide)⟩
    | 3,_,hne,_=>exact absurd rfl hne
    | 4,_,_,hr=>exact absurd hr Bool.false_ne_true
    | 5,_,_,hr=>exact absurd hr Bool.false_ne_true
    | 6,_,_,hr=>exact absurd hr Bool.false_ne_true
    | 7,_,_,hr=>exact absurd hr Bool.false_ne_true
    | 8,hm,_,_=>exact absurd hm Bool.false_ne_true
    | 9,hm,_,_=>exact absurd hm Bool.false_ne_true
    | 10,_,_,_=>exact .inl ⟨h 10 rfl,fun q hq=>dG (h 3 rfl) (DaV.block (h 10 rfl) hq)⟩
    | 11,_,_,hr=>exact absurd hr Bool.false_ne_true
    | 12,_,_,hr=>exact absurd hr Bool.false_ne_true
    | 13,_,_,_=>exact .inl ⟨h 13 rfl,fun q hq=>own_ne (h 3 rfl) (h 13 rfl) hq (by decide)⟩
    | 14,_,_,_=>exact .inl ⟨h 14 rfl,fun q hq=>dG (h 3 rfl) (DaV.block (h 14 rfl) hq)⟩
    | 15,_,_,hr=>exact absurd hr Bool.false_ne_true
    | 16,_,_,hr=>exact absurd hr Bool.false_ne_true
    | j+17,hm,_,_=>exact absurd hm (by simp)),
  fun σ W g h hp hb=>fun ρ o ho _ hv=>by
   have q:k<=40/\k<=l.length:=(h 1 rfl).2
   exact ⟨_,E4 ho ((A4 hv).1.trans (h 1 rfl).1) (A4 hv).2 (dJ (by omega) (by omega)),rfl⟩,
  fun σ W g h hp hb=>toV (lC W (hTab.kept g (by simp))) rfl,
  fun σ W g h hp hb=>by
   have q:k<=40/\k<=l.length:=(h 1 rfl).2
   exact hA W _ _ (OwV.pts (h 2 rfl)) (by simp [lp];omega) (lp_b fun d hd=>hL d (List.mem_of_mem_take hd)) (hTab.kept g (by simp)),
  fun σ W g h hp hb=>by
   have q:k<=40/\k<=l.length:=(h 1 rfl).2
   have hb2:=area_b (l:=lp (l.take k)) (lp_b fun d hd=>hL d (List.mem_of_mem_take hd)) (by simp [lp];omega)
   exact toT (aY W _ _ 482 (h 20 rfl) (by omega) hb2.1 hb2.2),
  fun σ W g h hp hb=>by
   have q:k<=40/\k<=l.length:=(h 1 rfl).2
   have hh:=iW W _ _ 5 (OwV.hr (h 3 rfl)) (by omega) (by simp [lh];omega) (lh_b fun d hd=>hL d (List.mem_of_mem_take hd))
   rw [lh_rp] at hh;exact hh,
  fun σ W g h hp hb=>toT (iU W _ _ _ (h 22 rfl) (by omega)),
  fun σ W g h hp hb=>fun ρ o ho _ hv=>by
   obtain ⟨s,e,hs⟩:=h 21 rfl
   obtain ⟨t,e2,ht⟩:=h 23 rfl
   exact ⟨_,S7 ho ((A4 hv).1.trans e) ((A4 hv).2.trans e2) (U7 hs ht),rfl⟩,
  fun σ W g h hp hb=>toV (lC W (hTab.kept g (by simp))) rfl,
  fun σ W g h hp hb=>by
   have q:k<=40/\k<=l.length:=(h 1 rfl).2
   exact hA W _ _ (OwV.pts (h 2 rfl)) (by simp [lp];omega) (lp_b fun d hd=>hL d (List.mem_of_mem_take hd)) (hTab.kept g (by simp)),
  fun σ W g h hp hb=>by
   have q:k<=40/\k<=l.length:=(h 1 rfl).2
   have hb2:=area_b (l:=lp (l.take k)) (lp_b fun d hd=>hL d (List.mem_of_mem_take hd)) (by simp [lp];omega)
   exact toT (aY W _ _ 482 (h 26 rfl) (by omega) hb2.1 hb2.2),
  fun σ W g h hp hb=>by
   have q:k<=40/\k<=l.length:=(h 1 rfl).2
   have hh:=iW W _ _ 5 (OwV.hr (h 3 rfl)) (by omega) (by simp [lh];omega) (lh_b fun d hd=>hL d (List.mem_of_mem_take hd))
   rw [lh_rp] at hh;exact hh,
  fun σ W g h hp hb=>toT (iU W _ _ _ (h 28 rfl) (by omega)),
  fun σ W g h hp hb=>fun ρ o ho _ hv=>by
   obtain ⟨s,e,hs⟩:=h 27 rfl
   obtain ⟨t,e2,ht⟩:=h 29 rfl
   exact ⟨_,S7 ho ((A4 hv).1.trans e) ((A4 hv).2.trans e2) (U7 hs ht),rfl⟩,
  trivial⟩)
  (fun k=>⟨fun σ W g h hp=>⟨0,(fun e=>nomatch e),⟨rfl,fun m hm=>(if_neg (by omega)).trans (if_neg (by omega)).symm⟩,⟨rfl,by omega,by omega⟩,⟨OwV.nil kPt _ _,fun q hq=>by cases hq⟩,⟨OwV.nil kH _ _,fun q hq=>by cases hq⟩,trivial⟩,
  fun σ W g h hp=>⟨rfl,_,rfl⟩,
  fun σ W g h hp=>⟨_,h 7 rfl⟩,
  fun σ W g h hp=>by
   have hi:k<l.length:=of_decide_eq_true (vB (h 4 rfl) (hp 4 0 true rfl))
   have h40:k<40:=of_decide_eq_true (vB (h 7 rfl) (hp 7 0 true rfl))
   exact ⟨k+1,fun _=>by show (if 1=1 then 40-(k+1) else 0)<(if 1=1 then 40-k else 0);rw [if_pos rfl,if_pos rfl];omega,⟨rfl,fun m hm=>(if_neg (by omega)).trans (if_neg (by omega)).symm⟩,⟨(h 18 rfl).trans (by push_cast;rfl),by omega,by omega⟩,⟨h 13 rfl,fun q hq=>⟨13,rfl,hq⟩⟩,⟨h 17 rfl,fun q hq=>⟨17,rfl,hq⟩⟩,trivial⟩,
  trivial⟩)
  (fun k hk=>⟨fun τ W g h hp hb=>⟨rfl,g⟩,
  fun τ W g h hp hb=>⟨rfl,g⟩,
  trivial⟩)
end Go.Proofs.YtninnifpgpjfhaaGreatDoor
namespace Go.Proofs.YtninnifpgpjfhaaGreatDoor
open Go.RowKit Go.Shelf Mat Ex PM
attribute [local go_sem] Oper.semAt_some
section
variable {B:Nat} {X Y:World} {row:Option Nat}
def cH (B:Nat) (X:World) (row:Option Nat):Prop:=∀ r,row=some r->B<=r /\ ∃ o:Obj,X.heap[r]?=some o/\o.isCells=false
theorem far_none (B:Nat) (X:World):cH B X none:=fun r e=>nomatch e
theorem K8 (hg:X.grownBy Y row) (hr:cH B X row) {k:Nat} {cs:Array Value} {t:TypeId} {fr:Nat × Nat} (h:X.heap[k]?=some (.cells cs t fr)):Y.heap[k]?=some (.cells cs t fr):=by
 rw [hg.block k (Array.getElem?_eq_some_iff.1 h).1 (fun e=>?_)]; · exact h
 obtain ⟨_,o,ho,hc⟩:=hr k e.symm
 rw [h] at ho;cases ho;cases hc
theorem U6 (hg:X.grownBy Y row) (hr:cH B X row):Keeps G6 X Y:=fun g arr ty fr hp hb=>K8 hg hr hb
theorem mE {w:World} (hB:w.heap.size<=B) (hw:w.grownBy X none) (hg:X.grownBy Y row) (hr:cH B X row):w.grownBy Y none:=
 ⟨hg.os.trans hw.os,hg.tape.trans hw.tape,hg.output.trans hw.output,Nat.le_trans hw.size hg.size,fun i hi _=>by
  rw [hg.block i (Nat.lt_of_lt_of_le hi hw.size) (fun e=>?_)]
  · exact hw.block i hi (by simp)
  · have:=(hr i e.symm).1;omega⟩
end
def sX (u:Value) (hu:u.oneCell'=true):Sp:=sC u hu
theorem PtV.shape {w:World} {v:Value} {p:Pq} (h:PtV w v p):∃ (s:Option Addr) (n:Nat) (x:Bool) (s':Option Addr) (n':Nat) (x':Bool) (t:Option Addr) (m:Nat) (y:Bool) (t':Option Addr) (m':Nat) (y':Bool),
 v = .agg #[.slice s n n,.bool x,.slice s' n' n',.bool x',.slice t m m,.bool y,.slice t' m' m',.bool y']:=by
 obtain ⟨a,b,c,d,e,f,g,i,rfl,h1,h2⟩:=h
 obtain ⟨s,xs,x,s',xs',x',q1,_⟩:=h1
 obtain ⟨t,ys,y,t',ys',y',q2,_⟩:=h2
 cases q1;cases q2
 exact ⟨_,_,_,_,_,_,_,_,_,_,_,_,rfl⟩
theorem pair_box {W:World} {g:Nat} {cs:List Value} {t:TypeId} (h:W.heap[g]?=some (.cells cs.toArray t (0,0))):(loadCells ⟨g,0,none⟩ cs.length).run Tryz.prog W = .ok cs.toArray W:=
 run_loadCells_list (P:=Tryz.prog) W ⟨g,0,none⟩ cs fun j v hv=>by
  rw [Addr.add_lit];simp [World.cell?,h,hv]
theorem results_box {fn:Func} {a:Tmp} {ty:TypeId} (h:fn.results = #[.cell a ty]) {tmps:Array Value} {W:World} {g:Nat} {cs:List Value} (hp:tmps.getD a undef = .pointer (some ⟨g,0,none⟩)) (hc:W.heap[g]?=some (.cells cs.toArray ty (0,0)))
 (ha:lQ Tryz.prog ty=some true) (hz:I7 Tryz.prog ty=some cs.length):(results fn tmps).run Tryz.prog W = .ok (.agg cs.toArray) W:=by
 simp only [Array.getD_eq_getD_getElem?] at hp
 simp [results,h,hp,asAddr,loadVar,Sem.run_bind,Sem.run_pure,Result.andThen_ok,M8 Tryz.prog ha W,D3 Tryz.prog hz W,pair_box hc]
def fT (l:List Pq) (pre:List (Fin l.length)):Rat:=pre.foldl (fun s x=>s+pX (pt0 l x.val) (nxt l x.val)) 0
theorem dY (l:List Pq) (pre:List (Fin l.length)) (x:Fin l.length):fT l (pre++[x])=fT l pre+pX (pt0 l x) (nxt l x):=by unfold fT;rw [List.foldl_append];rfl
theorem sumQ_all (l:List Pq):∀ (k:Nat) (pre:List (Fin l.length)),pre.map Fin.val=List.range k->fT l pre=shS (at0 l) l.length k
 | 0,pre,h=>by
   have:pre=[]:=by cases pre with | nil=>rfl | cons a b=>simp at h
   subst this;rfl
 | k+1,pre,h=>by
   rw [List.range_succ] at h
   obtain ⟨q,s,rfl,h1,h2⟩:=List.map_eq_append_iff.1 h
   obtain ⟨x,rfl,hx⟩:∃ x,s=[x]/\x.val=k:=by
    match s,h2 with
    | [x],h2=>exact ⟨x,rfl,by simpa using h2⟩
   rw [dY,sumQ_all l k q h1]
   show _=shS (at0 l) l.length k+pX (at0 l k) (at0 l ((k+1)%l.length))
   subst hx;rfl
theorem pt0_b {K:Nat} {l:List Pq} (hb:∀ p ∈ l,Bp K p) {i:Nat} (hi:i<l.length):Bp K (pt0 l i):=by
 have:pt0 l i=l[i]:=by unfold pt0;simp [hi]
 rw [this];exact hb _ (List.getElem_mem hi)
theorem nxt_b {K:Nat} {l:List Pq} (hb:∀ p ∈ l,Bp K p) {i:Nat} (hi:i<l.length):Bp K (nxt l i):=pt0_b hb (Nat.mod_lt _ (by omega))
theorem sumQ_b (l:List Pq) (hb:∀ p ∈ l,Bp 1 p):∀ (n:Nat) (pre:List (Fin l.length)),pre.length=n->Bn (6*n+1) (fT l pre)
 | 0,pre,h=>by
   have:pre=[]:=List.eq_nil_of_length_eq_zero h
   subst this;exact Bn.zero (by omega)
 | n+1,pre,h=>by
   obtain ⟨q,x,rfl⟩:∃ q x,pre=q++[x]:=by
    rcases List.eq_nil_or_concat pre with rfl | ⟨q,x,rfl⟩
    · simp at h
    · exact ⟨q,x,by simp⟩
   rw [dY]
   exact ((sumQ_b l hb n q (by simpa using h)).add' (pX_b (pt0_b hb x.2) (nxt_b hb x.2))).mono (by omega)
def ArI (w:World) (R0 T Bs:Nat) (v:Value) (l:List Pq) (pre:List (Fin l.length)) (W:World):Prop:=
 w.grownBy W none/\(∃ a b c d,W.heap[T]?=some (.cells #[a,b,c,d] 31 (0,0))/\RatV W (.agg #[a,b,c,d]) (fT l pre)) /\
 W.heap[R0]?=some (.cells #[.slice none 0 0,.bool false,.slice none 0 0,.bool false] 31 (0,0))/\W.heap[Bs]?=some (.cells #[v] 23 (0,0))
theorem ArI.soft {w:World} {R0 T Bs B:Nat} {v:Value} {l:List Pq} {pre:List (Fin l.length)} {X Y:World} {row:Option Nat} (hB:w.heap.size<=B) (h:ArI w R0 T Bs v l pre X) (hg:X.grownBy Y row) (hr:cH B X row):ArI w R0 T Bs v l pre Y:=by
 obtain ⟨h1,⟨a,b,c,d,h2,h3⟩,h4,h5⟩:=h
 exact ⟨mE hB h1 hg hr,⟨a,b,c,d,K8 hg hr h2,h3.keeps (U6 hg hr)⟩,K8 hg hr h4,K8 hg hr h5⟩
def PQs (W:World) (Bp:Nat) (cp cq:List Value) (p q:Pq):Prop:=W.heap[Bp]?=some (.cells cp.toArray 33 (0,0))/\W.heap[Bp+1]?=some (.cells cq.toArray 33 (0,0))/\PtV W (.agg cp.toArray) p/\PtV W (.agg cq.toArray) q
theorem PQs.soft {B Bp:Nat} {X Y:World} {row:Option Nat} {cp cq:List Value} {p q:Pq} (h:PQs X Bp cp cq p q) (hg:X.grownBy Y row) (hr:cH B X row):PQs Y Bp cp cq p q:=
 ⟨K8 hg hr h.1,K8 hg hr h.2.1,h.2.2.1.keeps (U6 hg hr),h.2.2.2.keeps (U6 hg hr)⟩
theorem areaP_sum (l:List Pq) (xs:List (Fin l.length)) (h:xs.map Fin.val=List.range l.length):M7 l=fT l xs / 2:=by unfold M7;rw [sumQ_all l _ xs h]
theorem FArea_any (w:World) (v:Value) (l:List Pq) (Hv:PtsV w v l) (hn:l.length<=40) (hbd:∀ p ∈ l,Bp 1 p) (hTab:Tab w) (hv:v.oneCell'=true):Calls Tryz.prog 10 #[v] w (P1 w (M7 l)):=by
 refine (callsIn_wide (n:=4)).1 ?_
 refine callsIn_of_wp_marks Tryz.func10 rfl trivial ?_ rfl
 simp only [Tryz.ntmps10,List.size_toArray,List.length_cons,List.length_nil,Nat.reduceAdd,Nat.reduceSub,Array.replicate_succ,Array.replicate_zero,List.push_toArray,List.append_toArray,List.nil_append,List.cons_append]
 gi_wp2_with (refine ⟨trivial, ?_⟩;gi_at_call 33;refine (PSides_in 3 v _ hv).mono ?_;rintro e w' ⟨rfl,rfl⟩)
 rename_i hK
 have a1:=World.grownBy_alloc w (.cells #[.slice none 0 0,.bool false,.slice none 0 0,.bool false] 31) none
 have a2:=World.grownBy_alloc (w.alloc (.cells #[.slice none 0 0,.bool false,.slice none 0 0,.bool false] 31)) (.cells #[.slice none 0 0,.bool false,.slice none 0 0,.bool false] 31) none
 have a3:=World.grownBy_alloc ((w.alloc (.cells #[.slice none 0 0,.bool false,.slice none 0 0,.bool false] 31)).alloc (.cells #[.slice none 0 0,.bool false,.slice none 0 0,.bool false] 31)) (.cells #[v] 23) none
 have r0:=A0 a3 (A0 a2 (A8 w (.cells #[.slice none 0 0,.bool false,.slice none 0 0,.bool false] 31) w.heap.size rfl))
 have r1:=A0 a3 (A8 (w.alloc (.cells #[.slice none 0 0,.bool false,.slice none 0 0,.bool false] 31)) (.cells #[.slice none 0 0,.bool false,.slice none 0 0,.bool false] 31) (w.heap.size+1) (by simp))
 have r2:=A8 ((w.alloc (.cells #[.slice none 0 0,.bool false,.slice none 0 0,.bool false] 31)).alloc (.cells #[.slice none 0 0,.bool false,.slice none 0 0,.bool false] 31)) (.cells #[v] 23) (w.heap.size+1+1) (by simp)
 have g0:=A1 (A1 a1 a2) a3
 have e1:(((w.alloc (.cells #[.slice none 0 0,.bool false,.slice none 0 0,.bool false] 31)).alloc (.cells #[.slice none 0 0,.bool false,.slice none 0 0,.bool false] 31)).alloc (.cells #[v] 23)).heap.size=w.heap.size+3:=by simp
 clear a1 a2 a3
 generalize (((w.alloc (.cells #[.slice none 0 0,.bool false,.slice none 0 0,.bool false] 31)).alloc (.cells #[.slice none 0 0,.bool false,.slice none 0 0,.bool false] 31)).alloc (.cells #[v] 23))=W0 at *
 obtain ⟨b,encs,hb0,hsz,hen,hbw, -,hstop⟩:=pM 3 (by omega) (w.heap.size+1+1) w W0 g0 v l r2 Hv (by omega)
 refine wpIn_rangeFunc_ownH rfl (by omega) (gf:=74) (lb := #[.pointer (some ⟨w.heap.size+1+1,0,none⟩)]) rfl trivial (enters_of Tryz.func74 (by kernel_rfl) rfl) hstop kpR_t (kpR_b hb0 (by omega)) (Below.refl _ _) (fun x=>hsz x)
  (fun pre W=>ArI w w.heap.size (w.heap.size+1) (w.heap.size+1+1) v l pre W) (fun _ _ _=>False)
  (fun s X Y row hs hg hr=>hs.soft (B:=W0.heap.size) (by omega) hg hr) (fun _ _ _ _ _ hs _ _=>hs) ⟨g0,⟨_,_,_,_,r1,RatV.zero W0⟩,r0,r2⟩
  (fun x a' W=>∃ (Bx:Nat) (p0 p1 p2 p3 p4 p5 p6 p7 q0 q1 q2 q3 q4 q5 q6 q7:Value),W0.heap.size<=Bx/\PQs W Bx [p0,p1,p2,p3,p4,p5,p6,p7] [q0,q1,q2,q3,q4,q5,q6,q7] (pt0 l x) (nxt l x)/\a' = { tmps := #[v,undef,.pointer (some ⟨w.heap.size,0,none⟩),.pointer (some ⟨w.heap.size+1,0,none⟩),.pointer (some ⟨Bx,0,none⟩),.pointer (some ⟨Bx+1,0,none⟩),undef,undef,v,.func (.func 74) #[] #[.pointer (some ⟨w.heap.size+1+1,0,none⟩)],.agg #[p0,p1,p2,p3,p4,p5,p6,p7],.agg #[q0,q1,q2,q3,q4,q5,q6,q7],undef,undef,undef,undef,undef,undef,undef,undef,undef,undef,undef,undef],defers:=[] })
  (fun x a' _ X Y row hs hg hr=>by obtain ⟨Bx,p0,p1,p2,p3,p4,p5,p6,p7,q0,q1,q2,q3,q4,q5,q6,q7,h1,h2,h3⟩:=hs;exact ⟨Bx,p0,p1,p2,p3,p4,p5,p6,p7,q0,q1,q2,q3,q4,q5,q6,q7,h1,h2.soft (B:=W0.heap.size) hg hr,h3⟩)
  ?assign ?body ?done ?stop
 case assign=>
  intro lr pre x W K hI hKK
  obtain ⟨p,q,he,hp,hq⟩:=hen x
  rw [he]
  have hp:=hp.kept hI.1
  have hq:=hq.kept hI.1
  obtain ⟨s0,n0,x0,s1,n1,x1,s2,n2,x2,s3,n3,x3,rfl⟩:=hp.shape
  obtain ⟨s4,n4,x4,s5,n5,x5,s6,n6,x6,s7,n7,x7,rfl⟩:=hq.shape
  have hbl:=hI.1.size
  have hBl:=(Array.getElem?_eq_some_iff.1 hI.2.2.2).1
  have c1:=World.grownBy_alloc W (.cells #[.slice s0 n0 n0,.bool x0,.slice s1 n1 n1,.bool x1,.slice s2 n2 n2,.bool x2,.slice s3 n3 n3,.bool x3] 33) none
  have c2:=World.grownBy_alloc (W.alloc (.cells #[.slice s0 n0 n0,.bool x0,.slice s1 n1 n1,.bool x1,.slice s2 n2 n2,.bool x2,.slice s3 n3 n3,.bool x3] 33)) (.cells #[.slice s4 n4 n4,.bool x4,.slice s5 n5 n5,.bool x5,.slice s6 n6 n6,.bool x6,.slice s7 n7 n7,.bool x7] 33) none
  gi_wp2
  refine hKK _ _ (((KeepsOthers.alloc _ _).trans (KeepsOthers.alloc _ _)).from _) ⟨(A1 c1 c2).block _ (by have:=hbw x;omega) (by simp),(A1 c1 c2).block _ hBl (by simp)⟩ (hI.soft (B:=w.heap.size) (Nat.le_refl _) (A1 c1 c2) (far_none _ _))
   ⟨W.heap.size,_,_,_,_,_,_,_,_,_,_,_,_,_,_,_,_, ?_,⟨A0 c2 (A8 W _ _ rfl),A8 _ _ _ (by simp),hp.kept (A1 c1 c2),hq.kept (A1 c1 c2)⟩,rfl⟩
  omega
 case body=>
  rintro lr pre x a' W hl'-hI ⟨Bx,p0,p1,p2,p3,p4,p5,p6,p7,q0,q1,q2,q3,q4,q5,q6,q7,hBx,⟨hBp,hBq,hPp,hPq⟩,rfl⟩ hlt
  obtain ⟨hw,⟨a,b9,c,d,hT,hRt⟩,hR0,hBs⟩:=hI
  have hs1:=(sumQ_b l hbd _ pre rfl).mono (M:=241) (by omega)
  have hs2:=(pX_b (pt0_b hbd x.2) (nxt_b hbd x.2)).mono (M:=241) (by omega)
  have ne01:w.heap.size+1≠Bx:=by omega
  have ne02:w.heap.size+1≠Bx+1:=by omega
  have ne03:w.heap.size+1≠w.heap.size+1+1:=by omega
  have ne04:w.heap.size+1≠w.heap.size:=by omega
  have ne12:Bx≠Bx+1:=by omega
  have ne13:Bx≠w.heap.size+1+1:=by omega
  have ne14:Bx≠w.heap.size:=by omega
  have ne23:Bx+1≠w.heap.size+1+1:=by omega
  have ne24:Bx+1≠w.heap.size:=by omega
  have ne34:w.heap.size+1+1≠w.heap.size:=by omega
  refine nG (Fc.round lr _ Tryz.prog) B5 (prot:=G6) [sQ (fT l pre),sPt (pt0 l x),sPt (nxt l x),sX v hv,sQ (pX (pt0 l x) (nxt l x)),sQ (fT l (pre++[x]))] [] [] 24 4 [.any 0,.any 1,.any 2,.v false [.ptr 0 0],.v false [.ptr 1 0],.v false [.ptr 2 0],.any 6,.any 7,.any 8,.any 9,.any 10,.any 11,.any 12,.any 13,.any 14,.any 15,.any 16,.any 17,.any 18,.any 19,.any 20,.any 21,.any 22,.any 23] [(31,[.an 0 0,.an 0 1,.an 0 2,.an 0 3],true),(33,[.an 1 0,.an 1 1,.an 1 2,.an 1 3,.an 1 4,.an 1 5,.an 1 6,.an 1 7],false),(33,[.an 2 0,.an 2 1,.an 2 2,.an 2 3,.an 2 4,.an 2 5,.an 2 6,.an 2 7],false),(23,[.an 3 0],false),(31,[.lit (.slice none 0 0),.lit (.bool false),.lit (.slice none 0 0),.lit (.bool false)],false)] (rs:=[(cl 4 35 [ag 8 1,ag 8 2],[]),(cl 5 34 [ag 4 0,ag 4 4],[])]) (js:=[]) (outs:=[⟨.normal,(List.range 6),[],[.any 0,.any 1,.any 2,.v false [.ptr 0 0],.v false [.ptr 1 0],.v false [.ptr 2 0],.any 6,.any 7,.any 8,.any 9,.any 10,.any 11,ag 4 0,ag 8 1,ag 8 2,ag 4 4,ag 4 5,.any 17,.any 18,.any 19,.any 20,.any 21,.any 22,.any 23],[(0,31,[.an 5 0,.an 5 1,.an 5 2,.an 5 3]),(1,33,[.an 1 0,.an 1 1,.an 1 2,.an 1 3,.an 1 4,.an 1 5,.an 1 6,.an 1 7]),(2,33,[.an 2 0,.an 2 1,.an 2 2,.an 2 3,.an 2 4,.an 2 5,.an 2 6,.an 2 7]),(3,23,[.an 3 0]),(4,31,[.lit (.slice none 0 0),.lit (.bool false),.lit (.slice none 0 0),.lit (.bool false)])],[0]⟩]) (nc:=6) (by kernel_rfl) hw
   ⟨fun n=>match n with | 0=>H8 [a,b9,c,d] | 1=>H8 [p0,p1,p2,p3,p4,p5,p6,p7] | 2=>H8 [q0,q1,q2,q3,q4,q5,q6,q7] | 3=>H8 [v] | _=>fun _ => .bool false,fun b=>match b with | 0=>w.heap.size+1 | 1=>Bx | 2=>Bx+1 | 3=>w.heap.size+1+1 | 4=>w.heap.size | _=>0,fun i=>(#[v,undef,.pointer (some ⟨w.heap.size,0,none⟩),.pointer (some ⟨w.heap.size+1,0,none⟩),.pointer (some ⟨Bx,0,none⟩),.pointer (some ⟨Bx+1,0,none⟩),undef,undef,v,.func (.func 74) #[] #[.pointer (some ⟨w.heap.size+1+1,0,none⟩)],.agg #[p0,p1,p2,p3,p4,p5,p6,p7],.agg #[q0,q1,q2,q3,q4,q5,q6,q7],undef,undef,undef,undef,undef,undef,undef,undef,undef,undef,undef,undef]:Array Value).getD i undef⟩
   (fun n c=>match n with | 0=>C5 (by obtain ⟨i0,i1,i2,i3⟩:=hRt.one;simp [i0,i1,i2,i3]) c | 1=>C5 hPp.one c | 2=>C5 hPq.one c | 3=>C5 (by simp [hv]) c | _+4=>rfl) rfl (fun i=>match i with | 0=>rfl | 1=>rfl | 2=>rfl | 3=>rfl | 4=>rfl | 5=>rfl | 6=>rfl | 7=>rfl | 8=>rfl | 9=>rfl | 10=>rfl | 11=>rfl | 12=>rfl | 13=>rfl | 14=>rfl | 15=>rfl | 16=>rfl | 17=>rfl | 18=>rfl | 19=>rfl | 20=>rfl | 21=>rfl | 22=>rfl | 23=>rfl | _+24=>rfl)
   (fun b q hq=>match b,q,hq with
    | 0,_,rfl=>⟨hT,fun _=>Nat.le_succ _⟩
    | 1,_,rfl=>⟨hBp,fun e=>nomatch e⟩
    | 2,_,rfl=>⟨hBq,fun e=>nomatch e⟩
    | 3,_,rfl=>⟨hBs,fun e=>nomatch e⟩
    | 4,_,rfl=>⟨hR0,fun e=>nomatch e⟩
    | _+5,_,hq=>nomatch hq)
   (fun b c hb hc hq=>match b,c,hb,hc with
    | 0,0,_,_=>rfl
    | 0,1,_,_=>absurd hq ne01
    | 0,2,_,_=>absurd hq ne02
    | 0,3,_,_=>absurd hq ne03
    | 0,4,_,_=>absurd hq ne04
    | 1,0,_,_=>absurd hq (Ne.symm ne01)
    | 1,1,_,_=>rfl
    | 1,2,_,_=>absurd hq ne12
    | 1,3,_,_=>absurd hq ne13
    | 1,4,_,_=>absurd hq ne14
    | 2,0,_,_=>absurd hq (Ne.symm ne02)
    | 2,1,_,_=>absurd hq (Ne.symm ne12)
    | 2,2,_,_=>rfl
    | 2,3,_,_=>absurd hq ne23
    | 2,4,_,_=>absurd hq ne24
    | 3,0,_,_=>absurd hq (Ne.symm ne03)
    | 3,1,_,_=>absurd hq (Ne.symm ne13)
    | 3,2,_,_=>absurd hq (Ne.symm ne23)
    | 3,3,_,_=>rfl
    | 3,4,_,_=>absurd hq ne34
    | 4,0,_,_=>absurd hq (Ne.symm ne04)
    | 4,1,_,_=>absurd hq (Ne.symm ne14)
    | 4,2,_,_=>absurd hq (Ne.symm ne24)
    | 4,3,_,_=>absurd hq (Ne.symm ne34)
    | 4,4,_,_=>rfl
    | _+5,_,hb,_=>absurd hb (by simp)
    | _,_+5,_,hc=>absurd hc (by simp))
   (fun jn hn=>match jn,hn with
    | 0,_=>hRt
    | 1,_=>hPp
    | 2,_=>hPq
    | 3,_=>rfl
    | _+4,hn=>absurd hn (by omega))
   (fun jn hn=>match jn,hn with
    | 0,_=>jC rfl _ _ _ _
    | 1,_=>jC rfl _ _ _ _
    | 2,_=>jC rfl _ _ _ _
    | 3,_=>jC rfl _ _ _ _
    | _+4,hn=>absurd hn (by omega))
   ⟨fun σ W g h hp hb=>kZ W _ _ (pt0 l x) (nxt l x) 1 (h 1 rfl) (h 2 rfl) (by omega) (pt0_b hbd x.2) (nxt_b hbd x.2) (hTab.kept g (by simp)),
   fun σ W g h hp hb=>by
    rw [dY]
    exact lF W _ _ (fT l pre) (pX (pt0 l x) (nxt l x)) 241 (h 0 rfl) (h 4 rfl) (by omega) hs1.1 hs1.2 hs2.1 hs2.2 (hTab.kept g (by simp)),
   trivial⟩
   trivial
   ⟨fun τ W' g hk h hp hb0 had how a' hts hdf=>by
    obtain ⟨hbx,hne⟩:=hb0
    have k0:=hbx _ (.head _)
    have k3:=hbx _ (.tail _ (.tail _ (.tail _ (.head _))))
    have k4:=hbx _ (.tail _ (.tail _ (.tail _ (.tail _ (.head _)))))
    unfold W7 at k0 k3 k4
    rw [had 0 (by decide)] at k0
    rw [had 3 (by decide)] at k3
    rw [had 4 (by decide)] at k4
    have k3':W'.heap[w.heap.size+1+1]?=some (.cells #[v] 23 (0,0)):=by
     have e3 : τ.an 3 0=v:=h 3 rfl
     rw [<- e3];exact k3
    refine ⟨hk.from _,⟨(g.block _ (hbw x) (by simp)).trans ((hw.block _ (hbw x) (by simp)).symm),k3'.trans hBs.symm⟩,g,⟨_,_,_,_,k0,h 5 rfl⟩,k4,k3'⟩,
   trivial⟩
 case done=>
  intro D xs W hDB hxs hI hD
  refine hK _ _ ?_
  obtain ⟨hw,⟨a,b9,c,d,hT,hRt⟩,hR0,hBs⟩:=hI
  have hxl:xs.length=l.length:=by have:=congrArg List.length hxs;simpa using this
  have hs1:=(sumQ_b l hbd _ xs rfl).mono (M:=241) (by omega)
  have ne01:w.heap.size+1≠w.heap.size:=by omega
  refine nG (Fc.wide _ Tryz.prog) B5 (prot:=G6) [sQ (fT l xs),sQ (2:Rat),sQE (M7 l) 0] [] [] 24 1 [.any 0,.any 1,.v false [.ptr 1 0],.v false [.ptr 0 0],.any 4,.any 5,.any 6,.any 7,.any 8,.any 9,.any 10,.any 11,.any 12,.any 13,.any 14,.any 15,.any 16,.any 17,.any 18,.any 19,.any 20,.any 21,.any 22,.any 23] [(31,[.an 0 0,.an 0 1,.an 0 2,.an 0 3],true),(31,[.lit (.slice none 0 0),.lit (.bool false),.lit (.slice none 0 0),.lit (.bool false)],true)] (rs:=[(cl 1 37 [.v false [.lit (.int .i64 2)]],[]),(cl 2 36 [ag 4 0,ag 4 1],[])]) (js:=[]) (outs:=[⟨.ret,(List.range 3),[],[.any 0,.any 1,.v false [.ptr 1 0],.v false [.ptr 0 0],.any 4,.any 5,.v false [.ptr 2 0],.v false [.lit (.int .i64 0)],.any 8,.any 9,.any 10,.any 11,.any 12,.any 13,.any 14,.any 15,.any 16,.tup [(true,[.an 2 0,.an 2 1,.an 2 2,.an 2 3]),(false,[.lit (.int .i64 0)])],ag 4 0,ag 4 1,.tup [(true,[.an 2 0,.an 2 1,.an 2 2,.an 2 3]),(false,[.lit (.int .i64 0)])],ag 4 2,.v false [.lit (.int .i64 0)],ag 4 2],[(0,31,[.an 0 0,.an 0 1,.an 0 2,.an 0 3]),(1,31,[.an 2 0,.an 2 1,.an 2 2,.an 2 3]),(2,31,[.an 2 0,.an 2 1,.an 2 2,.an 2 3])],[0,1,2]⟩]) (nc:=3) (by kernel_rfl) hw
   ⟨fun n=>match n with | 0=>H8 [a,b9,c,d] | _=>fun _ => .bool false,fun b=>match b with | 0=>w.heap.size+1 | 1=>w.heap.size | _=>0,fun i=>(#[v,undef,.pointer (some ⟨w.heap.size,0,none⟩),.pointer (some ⟨w.heap.size+1,0,none⟩),undef,undef,undef,undef,v,.func (.func 74) #[] #[.pointer (some ⟨w.heap.size+1+1,0,none⟩)],undef,undef,undef,undef,undef,undef,undef,undef,undef,undef,undef,undef,undef,undef]:Array Value).getD i undef⟩
   (fun n c=>match n with | 0=>C5 (by obtain ⟨i0,i1,i2,i3⟩:=hRt.one;simp [i0,i1,i2,i3]) c | _+1=>rfl) rfl (fun i=>match i with | 0=>rfl | 1=>rfl | 2=>rfl | 3=>rfl | 4=>rfl | 5=>rfl | 6=>rfl | 7=>rfl | 8=>rfl | 9=>rfl | 10=>rfl | 11=>rfl | 12=>rfl | 13=>rfl | 14=>rfl | 15=>rfl | 16=>rfl | 17=>rfl | 18=>rfl | 19=>rfl | 20=>rfl | 21=>rfl | 22=>rfl | 23=>rfl | _+24=>rfl)
   (fun b q hq=>match b,q,hq with
    | 0,_,rfl=>⟨hT,fun _=>Nat.le_succ _⟩
    | 1,_,rfl=>⟨hR0,fun _=>Nat.le_refl _⟩
    | _+2,_,hq=>nomatch hq)
   (fun b c hb hc hq=>match b,c,hb,hc with
    | 0,0,_,_=>rfl
    | 0,1,_,_=>absurd hq ne01
    | 1,0,_,_=>absurd hq (Ne.symm ne01)
    | 1,1,_,_=>rfl
    | _+2,_,hb,_=>absurd hb (by simp)
    | _,_+2,_,hc=>absurd hc (by simp))
   (fun jn hn=>match jn,hn with
    | 0,_=>hRt
    | _+1,hn=>absurd hn (by omega))
   (fun jn hn=>match jn,hn with
    | 0,_=>jC rfl _ _ _ _
    | _+1,hn=>absurd hn (by omega))
   ⟨fun σ W g h hp hb=>cC W 2 (by omega) (by omega),
   fun σ W g h hp hb=>by
    rw [areaP_sum l xs hxs]
    exact toQE (FDiv_any W _ _ (fT l xs) 2 241 (h 0 rfl) (h 1 rfl) (by omega) hs1.1 hs1.2 (two_b.mono (by omega)).1 (two_b.mono (by omega)).2 (hTab.kept g (by simp))) (by rw [if_neg (by decide)]),
   trivial⟩
   trivial
   ⟨fun τ W' g hk h hp hb0 had how a' hts hdf=>by
    obtain ⟨hbx,hne⟩:=hb0
    have k1:=hbx _ (.tail _ (.head _))
    unfold W7 at k1
    rw [had 1 (by decide)] at k1
    have hD':=hk.same D _ hD rfl
    have hfar:cH W0.heap.size W' (some D):=fun r e=>by cases e;exact ⟨hDB,_,hD',rfl⟩
    have hpo:=grownBy_putObj' W' D (.deferred none)
    have k1':=K8 hpo hfar k1
    show LeavesInM _ _ _ _ _ _ _ _ _
    rw [hdf]
    refine ⟨by simp,.inl ⟨_,_,rfl,run_takeDeferred hD', ?_⟩⟩
    refine ⟨_,results_box (cs:=[τ.an 2 0, τ.an 2 1, τ.an 2 2, τ.an 2 3]) rfl ?_ k1' (by kernel_rfl) (by kernel_rfl),_,rfl,RatV.keeps (qE (h 2 rfl)) (U6 hpo hfar),mE (by omega) g hpo hfar⟩
    rw [hts 2];show Value.pointer (some ⟨τ.ad 1,0,none⟩)=_;rw [had 1 (by decide)],
   trivial⟩
 case stop=>
  rintro D c pre W _ _ h _
  exact h.elim
end Go.Proofs.YtninnifpgpjfhaaGreatDoor
namespace Go.Proofs.YtninnifpgpjfhaaGreatDoor
open Go.ChangeShapes Go.WideShapes Go.ChangeAt Go.RowKit Go.ChangeMaps
theorem grown_same {W W':World} (h:W.grownBy W' none) {p:MemPlace} (hp:p.block<W.heap.size):W.sameAt W' p:=by
 cases p with
 | cell b o=>exact World.cell?_of_block (w:=W) (h.block b hp (by simp))
 | map b=>exact h.block b hp (by simp)
theorem oU {W W':World} (h:W.grownBy W' none) {b off:Nat} (hp:b<W.heap.size):W'.frozen? ⟨b,off,none⟩=W.frozen? ⟨b,off,none⟩:=by
 unfold World.frozen?
 rw [h.block b hp (by simp)]
theorem post_places {H:Type} {enc:TypeId × Value->H} {P:Program} {f:Func} {s:ChangeSpec} {apart fresh handsOn again:Bool} {W W':World} {args:Array Value} {v:Value} {ds gs:List (DataW H)} {before:List MemPlace}
 (hW:DataW.Whole enc P f.params.toList s.vars apart W args.toList ds gs before)
 (hlt:∀ p ∈ before,p.block<W.heap.size)
 (hres:∀ (b:Nat) (sp:Nat->Bool) (hd:Bool),DataW.TrodAll enc P W' b sp hd f.resultTypes.toList (v.resultList f.resultTypes.size) (s.fn H (ds++gs)).results [])
 (hargs:∀ sp:Nat->Bool,(∀ p ∈ before,sp p.block=true)->DataW.TrodAll enc P W' 0 sp true f.params.toList args.toList (s.fn H (ds++gs)).args before)
 (hvars:∀ sp:Nat->Bool,DataW.TrodVars enc P W' sp s.vars (s.fn H (ds++gs)).vars [])
 (hg:W.grownBy W' none)
 (hok:∀ (j:Nat) (t:TypeId) (r:Value),f.resultTypes[j]?=some t->(v.resultList f.resultTypes.size)[j]?=some r->Value.okWide P W' .any 0 t r) :
 s.post enc P f apart fresh handsOn again W args v W':=by
 have hW2:=hW
 obtain ⟨_,_,_,_,_,hfz,hnd⟩:=hW2
 have hA:=hargs (fun b=>decide (b<W.heap.size)) (fun p hp=>decide_eq_true (hlt p hp))
 refine ⟨ds,gs,before,[],before,[],hW,hres _ _ _,hA,hvars _,World.keptBut_mono (fun p hp=>hp.elim) (lP hg),fun _=>?_⟩
 refine ⟨hok,_,_,before,⟨before,[],trodAll_append (hargs (fun _=>true) (fun _ _=>rfl)) (hres _ _ _),hvars _,(List.append_nil _).symm, ?_,hnd⟩,fun p hp _=>hp⟩
 intro b off hp
 rw [oU hg (show b<W.heap.size from hlt _ hp)]
 exact hfz b off hp
end Go.Proofs.YtninnifpgpjfhaaGreatDoor
