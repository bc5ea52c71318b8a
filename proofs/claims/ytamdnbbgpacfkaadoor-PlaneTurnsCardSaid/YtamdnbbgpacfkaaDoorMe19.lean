/- What the laws lean on, part 19. -/
import Derived.Below
import Derived.BigCall
import Derived.BigQuiet
import Derived.BigRegion
import Derived.ChangeOld
import Derived.Deep.AppendLies
import Derived.Deep.CutBlock
import Derived.Deep.CutRange
import Derived.Deep.DeepCutAuto
import Derived.Deep.DeepHandedRow
import Derived.Deep.LoopGhost
import Derived.Deep.MidRow
import Derived.Deep.QuietTactic
import Derived.Deep.RegionHeld3
import Derived.Deep.RegionLaw
import Derived.Deep.Slices
import Derived.Deep.Strs
import Derived.Deep.WholeRow
import Derived.Laws.AppendOwn
import Derived.Laws.Concat
import Derived.Laws.CopyOwn
import Derived.Laws.Externs
import Derived.Laws.IdiomStrings
import Derived.Lib.BitFns
import Derived.Lib.Bytealg
import Derived.Lib.Hide
import Derived.Lib.LaidTab
import Derived.Lib.Slices
import Derived.Lib.Small
import Derived.Lib.Strings
import Derived.Lib.Walk
import Derived.LoopIn
import Derived.LoopN
import Derived.LoopNIn
import Derived.Maps.AppendAt
import Derived.OpenShut
import Derived.OrdersHeld
import Derived.OrdersIn
import Derived.Outline
import Derived.OwnWalk
import Derived.OwnWalkIn
import Derived.ProofKit
import Derived.RangeFuncBound
import Derived.RangeFuncCalls
import Derived.RangeFuncLeaves
import Derived.RangeFuncNested
import Derived.RangeFuncOwn
import Derived.Shelf.Abstract
import Derived.Shelf.Bits.Mul64
import Derived.Shelf.RegionOpen
import Derived.Shelf.Spec.TrailingZeros
import Derived.StillTailTactics
import Derived.TacticsInMore
import Derived.WalkKit
import Derived.WalkLawsBesides
import Derived.WalkSpells
import Derived.WideKeyArgs
import Derived.Test.YtamdnbbgpacfkaaDoorCards
import Derived.Test.YtamdnbbgpacfkaaDoorProg
import Derived.Test.YtamdnbbgpacfkaaDoorRows
import Derived.Test.YtamdnbbgpacfkaaDoorTie
import Derived.Test.YtamdnbbgpacfkaaDoorMe18
set_option linter.unusedVariables false
set_option linter.unusedSimpArgs false
set_option maxRecDepth 100000
namespace Go.Proofs.YtamdnbbgpacfkaaDoor
open Go.RowKit Mat Ex PM
theorem zt_0:G5 { data := #[48] } 0:=⟨[48],dec_of (by decide +kernel),by decide +kernel,by decide +kernel⟩
theorem zt_2:G5 { data := #[50] } 2:=⟨[50],dec_of (by decide +kernel),by decide +kernel,by decide +kernel⟩
theorem zt_4:G5 { data := #[52] } 4:=⟨[52],dec_of (by decide +kernel),by decide +kernel,by decide +kernel⟩
theorem jM {a b:Int} {s t:ByteArray} (h:G5 s a) (h':G5 t b):T3 (s ++ { data := #[32] } ++ t) (B0 a b):=
 ⟨s,t,.inl ⟨Rat.den_intCast a,by show G5 s ((a:Rat)).num;rw [Rat.num_intCast];exact h⟩,.inl ⟨Rat.den_intCast b,by show G5 t ((b:Rat)).num;rw [Rat.num_intCast];exact h'⟩,rfl⟩
theorem k_meet1:aM (B0 0 0) (B0 4 4) (B0 0 4) (B0 4 0)=[B0 2 2]:=by
 refine told_uniq (meetP_told _ _ _ _) (.one _ fun q=>?_)
 have hne:A3 (B0 0 4) (B0 4 0) (B0 0 0)≠A3 (B0 0 4) (B0 4 0) (B0 4 4):=by decide +kernel
 have hp:pat (B0 0 0) (B0 4 4) (A3 (B0 0 4) (B0 4 0) (B0 0 0) / (A3 (B0 0 4) (B0 4 0) (B0 0 0)-A3 (B0 0 4) (B0 4 0) (B0 4 4)))=B0 2 2:=by decide +kernel
 rw [<- hp]
 have e1:A3 (B0 0 4) (B0 4 0) (B0 0 0) = -16:=by decide +kernel
 have e2:A3 (B0 0 4) (B0 4 0) (B0 4 4)=16:=by decide +kernel
 have e3:A3 (B0 0 0) (B0 4 4) (B0 0 4)=16:=by decide +kernel
 have e4:A3 (B0 0 0) (B0 4 4) (B0 4 0) = -16:=by decide +kernel
 exact qD hne (by rw [e1,e2];unfold P4;grind) (by rw [e3,e4];unfold P4;grind) q
theorem jO {p q:Pq} (h:H6 p q<=0):ple p q:=pcmp_le.1 h
theorem k_meet2:aM (B0 0 0) (B0 4 0) (B0 1 0) (B0 9 0)=[B0 1 0,B0 4 0]:=by
 have h1:ple (B0 0 0) (B0 4 0):=jO (by decide +kernel)
 have h2:ple (B0 1 0) (B0 9 0):=jO (by decide +kernel)
 have h3:¬ ple (B0 1 0) (B0 0 0):=fun h=>absurd (pcmp_le.2 h) (by decide +kernel)
 have h4:ple (B0 4 0) (B0 9 0):=jO (by decide +kernel)
 have h5:ple (B0 1 0) (B0 4 0):=jO (by decide +kernel)
 have e1:A3 (B0 0 0) (B0 4 0) (B0 1 0)=0:=by decide +kernel
 have e2:A3 (B0 0 0) (B0 4 0) (B0 9 0)=0:=by decide +kernel
 have e3:A3 (B0 1 0) (B0 9 0) (B0 0 0)=0:=by decide +kernel
 have e4:A3 (B0 1 0) (B0 9 0) (B0 4 0)=0:=by decide +kernel
 unfold aM
 rw [(cR h1).1,(cR h1).2,(cR h2).1,(cR h2).2,pmax_f h3,pmin_t h4,if_pos h5,e1,e2,e3,e4,if_neg (by unfold P4;grind),if_neg (by unfold P4;grind),if_pos ⟨rfl,rfl⟩,btw_f (by decide +kernel)]
theorem k_clip:mT (B0 0 (-2)) (B0 0 4) (B0 0 0) (B0 1 0)=[B0 0 0,B0 0 4]:=by
 have e1:A3 (B0 0 0) (B0 1 0) (B0 0 (-2)) = -2:=by decide +kernel
 have e2:A3 (B0 0 0) (B0 1 0) (B0 0 4)=4:=by decide +kernel
 have hp:pat (B0 0 (-2)) (B0 0 4) ((-2:Rat) / (-2-4))=B0 0 0:=by decide +kernel
 unfold mT
 rw [e1,e2,if_neg (by grind),if_pos (by grind),hp,btw_f (by decide +kernel)]
theorem congr2 {a b c d:Value} (h:a=c) (h2:b=d):[Value.agg #[a,b]]=[Value.agg #[c,d]]:=by rw [h,h2]
theorem O5 (w:World) (p q r s:Int) (hp1 : -9223372036854775808<=p) (hp2:p<=9223372036854775807) (hq1 : -9223372036854775808<=q) (hq2:q<=9223372036854775807) (hr1 : -9223372036854775808<=r) (hr2:r<=9223372036854775807) (hs1 : -9223372036854775808<=s) (hs2:s<=9223372036854775807) :
 Calls Tryd.prog 20 #[.int .i64 p,.int .i64 q,.int .i64 r,.int .i64 s] w (fun e w'=>∃ v,e = .returned v/\SgV w' v (B0 p q) (B0 r s)/\w.grownBy w' none):=by
 refine A6 B3 Tryd.func20 [sZ p,sZ q,sZ r,sZ s] [sPt (B0 p q),sPt (B0 r s)] (.cons rfl (.cons rfl (.cons rfl (.cons rfl .nil)))) (rs:=[cl 4 21 [.v true [.an 0 0,.an 1 0]],cl 5 21 [.v true [.an 2 0,.an 3 0]]]) (out := .v true [.an 4 0,.an 4 1,.an 4 2,.an 4 3,.an 4 4,.an 4 5,.an 4 6,.an 4 7,.an 5 0,.an 5 1,.an 5 2,.an 5 3,.an 5 4,.an 5 5,.an 5 6,.an 5 7]) (nc:=6) (by kernel_rfl)
  ⟨fun σ W g h hb=>V3 (congr2 (h 0 rfl) (h 1 rfl)) (O4 W p q hp1 hp2 hq1 hq2),
  fun σ W g h hb=>V3 (congr2 (h 2 rfl) (h 3 rfl)) (O4 W r s hr1 hr2 hs1 hs2),
  trivial⟩ fun τ W g h=>⟨_,rfl,mksg (h 4 rfl) (h 5 rfl),g⟩
theorem nQ (w:World) (hTab:Tab w) :
 Calls Tryd.prog 8 #[] w (fun e w'=>e = .returned (.bool true)/\w.grownBy w' none):=by
 refine A6 B3 Tryd.func8 [] [sSg (B0 0 0) (B0 4 4),sSg (B0 0 4) (B0 4 0),eR 0 [B0 2 2],sSg (B0 0 0) (B0 4 0),sSg (B0 1 0) (B0 9 0),eR 0 [B0 1 0,B0 4 0],sSg (B0 0 (-2)) (B0 0 4),sSg (B0 0 0) (B0 1 0),eR 0 [B0 0 0,B0 0 4],sV (.int .i64 1),sAt (B0 2 2),sPt (B0 2 2),sT (fun s=>T3 s (B0 2 2)),sV (.bool true),sV (.int .i64 2),sAt (B0 4 0),sPt (B0 4 0),sT (fun s=>T3 s (B0 4 0)),sV (.bool true),sV (.int .i64 2),sAt (B0 0 0),sPt (B0 0 0),sT (fun s=>T3 s (B0 0 0)),sV (.bool true),sAt (B0 0 4),sPt (B0 0 4),sT (fun s=>T3 s (B0 0 4)),sV (.bool true)] .nil (rs:=[cl 0 20 [.v false [.lit (.int .i64 0)],.v false [.lit (.int .i64 0)],.v false [.lit (.int .i64 4)],.v false [.lit (.int .i64 4)]],cl 1 20 [.v false [.lit (.int .i64 0)],.v false [.lit (.int .i64 4)],.v false [.lit (.int .i64 4)],.v false [.lit (.int .i64 0)]],cl 2 22 [ag 16 0,ag 16 1],cl 3 20 [.v false [.lit (.int .i64 0)],.v false [.lit (.int .i64 0)],.v false [.lit (.int .i64 4)],.v false [.lit (.int .i64 0)]],cl 4 20 [.v false [.lit (.int .i64 1)],.v false [.lit (.int .i64 0)],.v false [.lit (.int .i64 9)],.v false [.lit (.int .i64 0)]],cl 5 22 [ag 16 3,ag 16 4],cl 6 20 [.v false [.lit (.int .i64 0)],.v false [.lit (.int .i64 (-2))],.v false [.lit (.int .i64 0)],.v false [.lit (.int .i64 4)]],cl 7 20 [.v false [.lit (.int .i64 0)],.v false [.lit (.int .i64 0)],.v false [.lit (.int .i64 1)],.v false [.lit (.int .i64 0)]],cl 8 23 [ag 16 6,ag 16 7],co 9 (.call ⟨.builtin .len, #[(.tmp 20)], #[40]⟩) 3 [on 2] [0,1,2,3,4,5,6,7,8] [],co 10 (.indexAddr 40 (.tmp 24) (.const (.int .i64 0))) 0 [on 2,.v false [.lit (.int .i64 0)]] [0,1,2,3,4,5,6,7,8,9] [],co 11 (.load 33 (.tmp 25)) 33 [on 10] [0,1,2,3,4,5,6,7,8,9,10] [],cl 12 24 [ag 8 11],co 13 (.binOp .eql 9 (.tmp 27) (.const (.string ({ data := #[50,32,50] }))) 9) 4 [on 12,.v false [.lit (.string ({ data := #[50,32,50] }))]] [0,1,2,3,4,5,6,7,8,9,10,11,12] [],co 14 (.call ⟨.builtin .len, #[(.tmp 31)], #[40]⟩) 3 [on 5] [0,1,2,3,4,5,6,7,8,9,10,11,12,13] [],co 15 (.indexAddr 40 (.tmp 36) (.const (.int .i64 1))) 0 [on 5,.v false [.lit (.int .i64 1)]] [0,1,2,3,4,5,6,7,8,9,10,11,12,13,14] [],co 16 (.load 33 (.tmp 37)) 33 [on 15] [0,1,2,3,4,5,6,7,8,9,10,11,12,13,14,15] [],cl 17 24 [ag 8 16],co 18 (.binOp .eql 9 (.tmp 39) (.const (.string ({ data := #[52,32,48] }))) 9) 4 [on 17,.v false [.lit (.string ({ data := #[52,32,48] }))]] [0,1,2,3,4,5,6,7,8,9,10,11,12,13,14,15,16,17] [],co 19 (.call ⟨.builtin .len, #[(.tmp 43)], #[40]⟩) 3 [on 8] [0,1,2,3,4,5,6,7,8,9,10,11,12,13,14,15,16,17,18] [],co 20 (.indexAddr 40 (.tmp 48) (.const (.int .i64 0))) 0 [on 8,.v false [.lit (.int .i64 0)]] [0,1,2,3,4,5,6,7,8,9,10,11,12,13,14,15,16,17,18,19] [],co 21 (.load 33 (.tmp 49)) 33 [on 20] [0,1,2,3,4,5,6,7,8,9,10,11,12,13,14,15,16,17,18,19,20] [],cl 22 24 [ag 8 21],co 23 (.binOp .eql 9 (.tmp 51) (.const (.string ({ data := #[48,32,48] }))) 9) 4 [on 22,.v false [.lit (.string ({ data := #[48,32,48] }))]] [0,1,2,3,4,5,6,7,8,9,10,11,12,13,14,15,16,17,18,19,20,21,22] [],co 24 (.indexAddr 40 (.tmp 55) (.const (.int .i64 1))) 0 [on 8,.v false [.lit (.int .i64 1)]] [0,1,2,3,4,5,6,7,8,9,10,11,12,13,14,15,16,17,18,19,20,21,22,23] [],co 25 (.load 33 (.tmp 56)) 33 [on 24] [0,1,2,3,4,5,6,7,8,9,10,11,12,13,14,15,16,17,18,19,20,21,22,23,24] [],cl 26 24 [ag 8 25],co 27 (.binOp .eql 9 (.tmp 58) (.const (.string ({ data := #[48,32,52] }))) 9) 4 [on 26,.v false [.lit (.string ({ data := #[48,32,52] }))]] [0,1,2,3,4,5,6,7,8,9,10,11,12,13,14,15,16,17,18,19,20,21,22,23,24,25,26] []]) (out := .v false [.lit (.bool true)]) (nc:=28) (by kernel_rfl)
  ⟨fun σ W g h hb=>O5 W 0 0 4 4 (by decide) (by decide) (by decide) (by decide) (by decide) (by decide) (by decide) (by decide),
  fun σ W g h hb=>O5 W 0 4 4 0 (by decide) (by decide) (by decide) (by decide) (by decide) (by decide) (by decide) (by decide),
  fun σ W g h hb=>dI (Nat.zero_le _) (k_meet1 ▸ qP W _ _ (B0 0 0) (B0 4 4) (B0 0 4) (B0 4 0) 1 (h 0 rfl) (h 1 rfl) (by omega) (K6 (x:=0) (y:=0) (by decide) (by decide) (by decide) (by decide)) (K6 (x:=4) (y:=4) (by decide) (by decide) (by decide) (by decide)) (K6 (x:=0) (y:=4) (by decide) (by decide) (by decide) (by decide)) (K6 (x:=4) (y:=0) (by decide) (by decide) (by decide) (by decide)) (hTab.kept g (by simp))),
  fun σ W g h hb=>O5 W 0 0 4 0 (by decide) (by decide) (by decide) (by decide) (by decide) (by decide) (by decide) (by decide),
  fun σ W g h hb=>O5 W 1 0 9 0 (by decide) (by decide) (by decide) (by decide) (by decide) (by decide) (by decide) (by decide),
  fun σ W g h hb=>dI (Nat.zero_le _) (k_meet2 ▸ qP W _ _ (B0 0 0) (B0 4 0) (B0 1 0) (B0 9 0) 1 (h 3 rfl) (h 4 rfl) (by omega) (K6 (x:=0) (y:=0) (by decide) (by decide) (by decide) (by decide)) (K6 (x:=4) (y:=0) (by decide) (by decide) (by decide) (by decide)) (K6 (x:=1) (y:=0) (by decide) (by decide) (by decide) (by decide)) (K6 (x:=9) (y:=0) (by decide) (by decide) (by decide) (by decide)) (hTab.kept g (by simp))),
  fun σ W g h hb=>O5 W 0 (-2) 0 4 (by decide) (by decide) (by decide) (by decide) (by decide) (by decide) (by decide) (by decide),
  fun σ W g h hb=>O5 W 0 0 1 0 (by decide) (by decide) (by decide) (by decide) (by decide) (by decide) (by decide) (by decide),
  fun σ W g h hb=>dI (Nat.zero_le _) (k_clip ▸ PClip_any W _ _ (B0 0 (-2)) (B0 0 4) (B0 0 0) (B0 1 0) 1 (h 6 rfl) (h 7 rfl) (by omega) (K6 (x:=0) (y:=(-2)) (by decide) (by decide) (by decide) (by decide)) (K6 (x:=0) (y:=4) (by decide) (by decide) (by decide) (by decide)) (K6 (x:=0) (y:=0) (by decide) (by decide) (by decide) (by decide)) (K6 (x:=1) (y:=0) (by decide) (by decide) (by decide) (by decide)) (hTab.kept g (by simp))),
  fun σ W g h hb=>fun ρ o ho _ hv=>⟨_,Z8 (h 2 rfl).1 ho (B2 hv) ⟨33,by kernel_rfl⟩,rfl⟩,
  fun σ W g h hb=>fun ρ o ho _ hv=>by
   obtain ⟨u,h1,h2,h3⟩:=gJ (h 2 rfl).1 ho (A1 hv).1 0 (by simp) (A1 hv).2
   exact ⟨u,h1,h2,fun q hq=>⟨2,rfl,h3 q hq⟩⟩,
  fun σ W g h hb=>fun ρ o ho _ hv=>X1 (h 10 rfl) ho (B2 hv),
  fun σ W g h hb=>toT (cZ W _ (B0 2 2) 1 (h 11 rfl) (by omega) (K6 (by decide) (by decide) (by decide) (by decide))),
  fun σ W g h hb=>fun ρ o ho _ hv=>by
   obtain ⟨s,e,hs⟩:=h 12 rfl
   exact ⟨_,eQ ho ((A1 hv).1.trans e) (A1 hv).2 (Z9 hs (jM zt_2 zt_2)),rfl⟩,
  fun σ W g h hb=>fun ρ o ho _ hv=>⟨_,Z8 (h 5 rfl).1 ho (B2 hv) ⟨33,by kernel_rfl⟩,rfl⟩,
  fun σ W g h hb=>fun ρ o ho _ hv=>by
   obtain ⟨u,h1,h2,h3⟩:=gJ (h 5 rfl).1 ho (A1 hv).1 1 (by simp) (A1 hv).2
   exact ⟨u,h1,h2,fun q hq=>⟨5,rfl,h3 q hq⟩⟩,
  fun σ W g h hb=>fun ρ o ho _ hv=>X1 (h 15 rfl) ho (B2 hv),
  fun σ W g h hb=>toT (cZ W _ (B0 4 0) 1 (h 16 rfl) (by omega) (K6 (by decide) (by decide) (by decide) (by decide))),
  fun σ W g h hb=>fun ρ o ho _ hv=>by
   obtain ⟨s,e,hs⟩:=h 17 rfl
   exact ⟨_,eQ ho ((A1 hv).1.trans e) (A1 hv).2 (Z9 hs (jM zt_4 zt_0)),rfl⟩,
  fun σ W g h hb=>fun ρ o ho _ hv=>⟨_,Z8 (h 8 rfl).1 ho (B2 hv) ⟨33,by kernel_rfl⟩,rfl⟩,
  fun σ W g h hb=>fun ρ o ho _ hv=>by
   obtain ⟨u,h1,h2,h3⟩:=gJ (h 8 rfl).1 ho (A1 hv).1 0 (by simp) (A1 hv).2
   exact ⟨u,h1,h2,fun q hq=>⟨8,rfl,h3 q hq⟩⟩,
  fun σ W g h hb=>fun ρ o ho _ hv=>X1 (h 20 rfl) ho (B2 hv),
  fun σ W g h hb=>toT (cZ W _ (B0 0 0) 1 (h 21 rfl) (by omega) (K6 (by decide) (by decide) (by decide) (by decide))),
  fun σ W g h hb=>fun ρ o ho _ hv=>by
   obtain ⟨s,e,hs⟩:=h 22 rfl
   exact ⟨_,eQ ho ((A1 hv).1.trans e) (A1 hv).2 (Z9 hs (jM zt_0 zt_0)),rfl⟩,
  fun σ W g h hb=>fun ρ o ho _ hv=>by
   obtain ⟨u,h1,h2,h3⟩:=gJ (h 8 rfl).1 ho (A1 hv).1 1 (by simp) (A1 hv).2
   exact ⟨u,h1,h2,fun q hq=>⟨8,rfl,h3 q hq⟩⟩,
  fun σ W g h hb=>fun ρ o ho _ hv=>X1 (h 24 rfl) ho (B2 hv),
  fun σ W g h hb=>toT (cZ W _ (B0 0 4) 1 (h 25 rfl) (by omega) (K6 (by decide) (by decide) (by decide) (by decide))),
  fun σ W g h hb=>fun ρ o ho _ hv=>by
   obtain ⟨s,e,hs⟩:=h 26 rfl
   exact ⟨_,eQ ho ((A1 hv).1.trans e) (A1 hv).2 (Z9 hs (jM zt_0 zt_4)),rfl⟩,
  trivial⟩ fun τ W g h=>⟨rfl,g⟩
end Go.Proofs.YtamdnbbgpacfkaaDoor
namespace Go.Proofs.YtamdnbbgpacfkaaDoor.PM
def shS (g:Nat->Pq) (n:Nat):Nat->Rat
 | 0=>0
 | k+1=>shS g n k+pX (g k) (g ((k+1)%n))
def opS (g:Nat->Pq):Nat->Rat
 | 0=>0
 | k+1=>opS g k+pX (g k) (g (k+1))
theorem pX_swap (p q:Pq):pX q p = - pX p q:=by unfold pX;grind
theorem shS_op (g:Nat->Pq) (n:Nat):∀ k,k<n->shS g n k=opS g k
 | 0,_=>rfl
 | k+1,h=>by
   show shS g n k+pX (g k) (g ((k+1)%n))=opS g k+pX (g k) (g (k+1))
   rw [shS_op g n k (by omega),Nat.mod_eq_of_lt h]
theorem shS_all (g:Nat->Pq) (n:Nat):shS g (n+1) (n+1)=opS g n+pX (g n) (g 0):=by
 show shS g (n+1) n+pX (g n) (g ((n+1)%(n+1)))=_
 rw [shS_op g (n+1) n (by omega),Nat.mod_self]
theorem gG {g h:Nat->Pq} {n:Nat} (e:∀ i,i<n->g i=h i):∀ k,k<=n->shS g n k=shS h n k
 | 0,_=>rfl
 | k+1,hk=>by
   show shS g n k+_=shS h n k+_
   rw [gG e k (by omega),e k (by omega),e ((k+1)%n) (Nat.mod_lt _ (by omega))]
theorem shS_turn (g:Nat->Pq) (n:Nat):∀ k,k<=n->shS (fun i=>g ((i+1)%n)) n k=shS g n k+pX (g (k%n)) (g ((k+1)%n))-pX (g 0) (g (1%n))
 | 0,_=>by rw [Nat.zero_mod];show (0:Rat)=0+pX (g 0) (g ((0+1)%n))-pX (g 0) (g (1%n));rw [Nat.zero_add];grind
 | k+1,h=>by
   show shS (fun i=>g ((i+1)%n)) n k+pX (g ((k+1)%n)) (g (((k+1)%n+1)%n))=shS g n k+pX (g k) (g ((k+1)%n))+pX (g ((k+1)%n)) (g ((k+1+1)%n))-pX (g 0) (g (1%n))
   rw [shS_turn g n k (by omega),Nat.mod_add_mod,Nat.mod_eq_of_lt (show k<n by omega)];grind
theorem area_turn (g:Nat->Pq) (n:Nat):shS (fun i=>g ((i+1)%n)) n n=shS g n n:=by
 rw [shS_turn g n n (Nat.le_refl n),Nat.mod_self]
 have:(n+1)%n=1%n:=by rw [Nat.add_mod_left]
 rw [this];grind
theorem opS_back (g:Nat->Pq) (n:Nat):∀ k,k<=n->opS (fun i=>g (n-i)) k=opS g (n-k)-opS g n
 | 0,_=>by show (0:Rat)=opS g n-opS g n;grind
 | k+1,h=>by
   show opS (fun i=>g (n-i)) k+pX (g (n-k)) (g (n-(k+1)))=_
   rw [opS_back g n k (by omega)]
   obtain ⟨m,hm⟩:∃ m,n-k=m+1:=⟨n-k-1,by omega⟩
   rw [hm,show n-(k+1)=m by omega]
   show opS g m+pX (g m) (g (m+1))-opS g n+pX (g (m+1)) (g m)=opS g m-opS g n
   rw [pX_swap (g m) (g (m+1))];grind
theorem area_back (g:Nat->Pq) (n:Nat):shS (fun i=>g (n-1-i)) n n = - shS g n n:=by
 match n with
 | 0=>show (0:Rat) = -0;grind
 | n+1=>
   rw [shS_all,shS_all,show n+1-1=n from rfl,opS_back g n n (Nat.le_refl n),Nat.sub_self,Nat.sub_zero]
   show (0:Rat)-opS g n+pX (g 0) (g n)=_
   rw [pX_swap (g n) (g 0)];grind
def at0 (l:List Pq) (i:Nat):Pq:=l.getD i (0,0)
def E1 (l:List Pq):Rat:=shS (at0 l) l.length l.length / 2
theorem aI (l:List Pq):E1 l.reverse = - E1 l:=by
 unfold E1
 have h:=area_back (at0 l) l.length
 have e:shS (at0 l.reverse) l.length l.length=shS (fun i=>at0 l (l.length-1-i)) l.length l.length:=
  gG (fun i hi=>by simp [at0,List.getD_eq_getElem?_getD,List.getElem?_reverse hi]) _ (Nat.le_refl _)
 rw [List.length_reverse,e,h];grind
theorem areaP_turn (p:Pq) (l:List Pq):E1 (l++[p])=E1 (p :: l):=by
 unfold E1
 have e:shS (at0 (l++[p])) (p :: l).length (p :: l).length=shS (fun i=>at0 (p :: l) ((i+1)%(p :: l).length)) (p :: l).length (p :: l).length:=
  gG (fun i hi=>by
   simp only [List.length_cons] at hi ⊢
   by_cases h:i<l.length
   · rw [Nat.mod_eq_of_lt (by omega)];simp [at0,List.getD_eq_getElem?_getD,List.getElem?_append_left h]
   · obtain rfl:i=l.length:=by omega
     rw [Nat.mod_self];simp [at0,List.getD_eq_getElem?_getD]) _ (Nat.le_refl _)
 rw [show (l++[p]).length=(p :: l).length by simp,e,area_turn]
end Go.Proofs.YtamdnbbgpacfkaaDoor.PM
namespace Go.Proofs.YtamdnbbgpacfkaaDoor
open Go.RowKit Mat Ex PM
theorem Bn.add' {K M:Nat} {r t:Rat} (h:Bn K r) (h':Bn M t):Bn (K+M+1) (r+t):=by
 constructor
 · rw [Rat.num_add]
   exact Nat.lt_of_le_of_lt (Int.natAbs_ediv_le_natAbs _ _) (rT (N6 h.1 (ldi h'.2)) (Nat.add_comm M K ▸ N6 h'.1 (ldi h.2)))
 · rw [Rat.den_add]
   refine Nat.lt_of_le_of_lt (Nat.div_le_self _ _) (bwd (K:=K+M) ?_ (by omega))
   rw [Nat.pow_add];exact Nat.mul_lt_mul'' h.2 h'.2
theorem pX_b {K:Nat} {p q:Pq} (hp:Bp K p) (hq:Bp K q):Bn (4*K+1) (pX p q):=by unfold pX;exact ((hp.1.mul hq.2).sub (hp.2.mul hq.1)).mono (by omega)
theorem shS_b {g:Nat->Pq} {n:Nat} (h:∀ i,i<n->Bp 1 (g i)):∀ k,k<=n->Bn (6*k+1) (shS g n k)
 | 0,_=>Bn.zero (by omega)
 | k+1,hk=>((shS_b h k (by omega)).add' (pX_b (h k (by omega)) (h ((k+1)%n) (Nat.mod_lt _ (by omega))))).mono (by omega)
theorem two_b:Bn 1 (2:Rat):=⟨by show (2:Nat)<_;unfold B;omega,by show (1:Nat)<_;unfold B;omega⟩
theorem K2 {l:List Pq} (h:∀ p ∈ l,Bp 1 p) (hn:l.length<=40):Bn 482 (E1 l):=by
 unfold E1
 refine (((shS_b (g:=at0 l) (n:=l.length) (fun i hi=>?_) l.length (Nat.le_refl _)).mono (M:=241) (by omega)).div (two_b.mono (by omega)) (by omega)).mono (by omega)
 have:at0 l i=l[i]:=by simp [at0,hi]
 rw [this];exact h _ (List.getElem_mem hi)
def lp (l:List Dt3):List Pq:=l.map fun d=>lat d.1 d.2.1 d.2.2
theorem M8 {l:List Dt3} (h:∀ d ∈ l,Small d):∀ p ∈ lp l,Bp 1 p:=by
 intro p hp
 obtain ⟨d,hd,rfl⟩:=List.mem_map.1 hp
 have:=h d hd
 exact A8 this.1.1 this.1.2 this.2.1 this.2.2
theorem jP {l:List Dt3} {k:Nat} (h:k<l.length):lp (l.take (k+1))=lp (l.take k)++[lat (dg l k).1 (dg l k).2.1 (dg l k).2.2]:=by rw [take_next h];simp [lp]
end Go.Proofs.YtamdnbbgpacfkaaDoor
namespace Go.Proofs.YtamdnbbgpacfkaaDoor
open Go.RowKit Go.Shelf Mat Ex PM
attribute [local go_sem] Oper.semAt_some
section
variable {B:Nat} {X Y:World} {row:Option Nat}
end
def sX (u:Value) (hu:u.oneCell'=true):Sp:=sC u hu
theorem pair_box {W:World} {g:Nat} {cs:List Value} {t:TypeId} (h:W.heap[g]?=some (.cells cs.toArray t (0,0))):(loadCells ⟨g,0,none⟩ cs.length).run Tryd.prog W = .ok cs.toArray W:=
 run_loadCells_list (P:=Tryd.prog) W ⟨g,0,none⟩ cs fun j v hv=>by
  rw [Addr.add_lit];simp [World.cell?,h,hv]
theorem results_box {fn:Func} {a:Tmp} {ty:TypeId} (h:fn.results = #[.cell a ty]) {tmps:Array Value} {W:World} {g:Nat} {cs:List Value} (hp:tmps.getD a undef = .pointer (some ⟨g,0,none⟩)) (hc:W.heap[g]?=some (.cells cs.toArray ty (0,0)))
 (ha:iC Tryd.prog ty=some true) (hz:I3 Tryd.prog ty=some cs.length):(results fn tmps).run Tryd.prog W = .ok (.agg cs.toArray) W:=by
 simp only [Array.getD_eq_getD_getElem?] at hp
 simp [results,h,hp,asAddr,loadVar,Sem.run_bind,Sem.run_pure,Result.andThen_ok,K8 Tryd.prog ha W,C6 Tryd.prog hz W,pair_box hc]
theorem gF (l:List Pq) (pre:List (Fin l.length)) (x:Fin l.length):jD l (pre++[x])=jD l pre+pX (pt0 l x) (nxt l x):=by unfold jD;rw [List.foldl_append];rfl
theorem sumQ_all (l:List Pq):∀ (k:Nat) (pre:List (Fin l.length)),pre.map Fin.val=List.range k->jD l pre=shS (at0 l) l.length k
 | 0,pre,h=>by
   have:pre=[]:=by cases pre with | nil=>rfl | cons a b=>simp at h
   subst this;rfl
 | k+1,pre,h=>by
   rw [List.range_succ] at h
   obtain ⟨q,s,rfl,h1,h2⟩:=List.map_eq_append_iff.1 h
   obtain ⟨x,rfl,hx⟩:∃ x,s=[x]/\x.val=k:=by
    match s,h2 with
    | [x],h2=>exact ⟨x,rfl,by simpa using h2⟩
   rw [gF,sumQ_all l k q h1]
   show _=shS (at0 l) l.length k+pX (at0 l k) (at0 l ((k+1)%l.length))
   subst hx;rfl
theorem sumQ_b (l:List Pq) (hb:∀ p ∈ l,Bp 1 p):∀ (n:Nat) (pre:List (Fin l.length)),pre.length=n->Bn (6*n+1) (jD l pre)
 | 0,pre,h=>by
   have:pre=[]:=List.eq_nil_of_length_eq_zero h
   subst this;exact Bn.zero (by omega)
 | n+1,pre,h=>by
   obtain ⟨q,x,rfl⟩:∃ q x,pre=q++[x]:=by
    rcases List.eq_nil_or_concat pre with rfl | ⟨q,x,rfl⟩
    · simp at h
    · exact ⟨q,x,by simp⟩
   rw [gF]
   exact ((sumQ_b l hb n q (by simpa using h)).add' (pX_b (eY hb x.2) (iO hb x.2))).mono (by omega)
theorem areaP_sum (l:List Pq) (xs:List (Fin l.length)) (h:xs.map Fin.val=List.range l.length):E1 l=jD l xs / 2:=by unfold E1;rw [sumQ_all l _ xs h]
theorem F8 (w:World) (v:Value) (l:List Pq) (Hv:PtsV w v l) (hn:l.length<=40) (hbd:∀ p ∈ l,Bp 1 p) (hTab:Tab w) (hv:v.oneCell'=true):Calls Tryd.prog 12 #[v] w (S2 w (E1 l)):=by
 refine (callsIn_wide (n:=4)).1 ?_
 refine callsIn_of_wp_marks Tryd.func12 rfl trivial ?_ rfl
 simp only [Tryd.ntmps12,List.size_toArray,List.length_cons,List.length_nil,Nat.reduceAdd,Nat.reduceSub,Array.replicate_succ,Array.replicate_zero,List.push_toArray,List.append_toArray,List.nil_append,List.cons_append]
 gi_wp2_with (refine ⟨trivial, ?_⟩;gi_at_call 33;refine (PSides_in 3 v _ hv).mono ?_;rintro e w' ⟨rfl,rfl⟩)
 rename_i hK
 have a1:=World.grownBy_alloc w (.cells #[.slice none 0 0,.bool false,.slice none 0 0,.bool false] 31) none
 have a2:=World.grownBy_alloc (w.alloc (.cells #[.slice none 0 0,.bool false,.slice none 0 0,.bool false] 31)) (.cells #[.slice none 0 0,.bool false,.slice none 0 0,.bool false] 31) none
 have a3:=World.grownBy_alloc ((w.alloc (.cells #[.slice none 0 0,.bool false,.slice none 0 0,.bool false] 31)).alloc (.cells #[.slice none 0 0,.bool false,.slice none 0 0,.bool false] 31)) (.cells #[v] 40) none
 have r0:=A5 a3 (A5 a2 (A9 w (.cells #[.slice none 0 0,.bool false,.slice none 0 0,.bool false] 31) w.heap.size rfl))
 have r1:=A5 a3 (A9 (w.alloc (.cells #[.slice none 0 0,.bool false,.slice none 0 0,.bool false] 31)) (.cells #[.slice none 0 0,.bool false,.slice none 0 0,.bool false] 31) (w.heap.size+1) (by simp))
 have r2:=A9 ((w.alloc (.cells #[.slice none 0 0,.bool false,.slice none 0 0,.bool false] 31)).alloc (.cells #[.slice none 0 0,.bool false,.slice none 0 0,.bool false] 31)) (.cells #[v] 40) (w.heap.size+1+1) (by simp)
 have g0:=A4 (A4 a1 a2) a3
 have e1:(((w.alloc (.cells #[.slice none 0 0,.bool false,.slice none 0 0,.bool false] 31)).alloc (.cells #[.slice none 0 0,.bool false,.slice none 0 0,.bool false] 31)).alloc (.cells #[v] 40)).heap.size=w.heap.size+3:=by simp
 clear a1 a2 a3
 generalize (((w.alloc (.cells #[.slice none 0 0,.bool false,.slice none 0 0,.bool false] 31)).alloc (.cells #[.slice none 0 0,.bool false,.slice none 0 0,.bool false] 31)).alloc (.cells #[v] 40))=W0 at *
 obtain ⟨b,encs,hb0,hsz,hen,hbw, -,hstop⟩:=sP 3 (by omega) (w.heap.size+1+1) w W0 g0 v l r2 Hv (by omega)
 refine wpIn_rangeFunc_ownH rfl (by omega) (gf:=64) (lb := #[.pointer (some ⟨w.heap.size+1+1,0,none⟩)]) rfl trivial (enters_of Tryd.func64 (by kernel_rfl) rfl) hstop kpR_t (kpR_b hb0 (by omega)) (Below.refl _ _) (fun x=>hsz x)
  (fun pre W=>ArI w w.heap.size (w.heap.size+1) (w.heap.size+1+1) v l pre W) (fun _ _ _=>False)
  (fun s X Y row hs hg hr=>hs.soft (B:=W0.heap.size) (by omega) hg hr) (fun _ _ _ _ _ hs _ _=>hs) ⟨g0,⟨_,_,_,_,r1,RatV.zero W0⟩,r0,r2⟩
  (fun x a' W=>∃ (Bx:Nat) (p0 p1 p2 p3 p4 p5 p6 p7 q0 q1 q2 q3 q4 q5 q6 q7:Value),W0.heap.size<=Bx/\PQs W Bx [p0,p1,p2,p3,p4,p5,p6,p7] [q0,q1,q2,q3,q4,q5,q6,q7] (pt0 l x) (nxt l x)/\a' = { tmps := #[v,undef,.pointer (some ⟨w.heap.size,0,none⟩),.pointer (some ⟨w.heap.size+1,0,none⟩),.pointer (some ⟨Bx,0,none⟩),.pointer (some ⟨Bx+1,0,none⟩),undef,undef,v,.func (.func 64) #[] #[.pointer (some ⟨w.heap.size+1+1,0,none⟩)],.agg #[p0,p1,p2,p3,p4,p5,p6,p7],.agg #[q0,q1,q2,q3,q4,q5,q6,q7],undef,undef,undef,undef,undef,undef,undef,undef,undef,undef,undef,undef],defers:=[] })
  (fun x a' _ X Y row hs hg hr=>by obtain ⟨Bx,p0,p1,p2,p3,p4,p5,p6,p7,q0,q1,q2,q3,q4,q5,q6,q7,h1,h2,h3⟩:=hs;exact ⟨Bx,p0,p1,p2,p3,p4,p5,p6,p7,q0,q1,q2,q3,q4,q5,q6,q7,h1,h2.soft (B:=W0.heap.size) hg hr,h3⟩)
  ?assign ?body ?done ?stop
 case assign=>
  intro lr pre x W K hI hKK
  obtain ⟨p,q,he,hp,hq⟩:=hen x
  rw [he]
  have hp:=hp.kept hI.1
  have hq:=hq.kept hI.1
  obtain ⟨s0,n0,x0,s1,n1,x1,s2,n2,x2,s3,n3,x3,rfl⟩:=hp.shape
  obtain ⟨s4,n4,x4,s5,n5,x5,s6,n6,x6,s7,n7,x7,rfl⟩:=hq.shape
  have hbl:=hI.1.size
  have hBl:=(Array.getElem?_eq_some_iff.1 hI.2.2.2).1
  have c1:=World.grownBy_alloc W (.cells #[.slice s0 n0 n0,.bool x0,.slice s1 n1 n1,.bool x1,.slice s2 n2 n2,.bool x2,.slice s3 n3 n3,.bool x3] 33) none
  have c2:=World.grownBy_alloc (W.alloc (.cells #[.slice s0 n0 n0,.bool x0,.slice s1 n1 n1,.bool x1,.slice s2 n2 n2,.bool x2,.slice s3 n3 n3,.bool x3] 33)) (.cells #[.slice s4 n4 n4,.bool x4,.slice s5 n5 n5,.bool x5,.slice s6 n6 n6,.bool x6,.slice s7 n7 n7,.bool x7] 33) none
  gi_wp2
  refine hKK _ _ (((KeepsOthers.alloc _ _).trans (KeepsOthers.alloc _ _)).from _) ⟨(A4 c1 c2).block _ (by have:=hbw x;omega) (by simp),(A4 c1 c2).block _ hBl (by simp)⟩ (hI.soft (B:=w.heap.size) (Nat.le_refl _) (A4 c1 c2) (fK _ _))
   ⟨W.heap.size,_,_,_,_,_,_,_,_,_,_,_,_,_,_,_,_, ?_,⟨A5 c2 (A9 W _ _ rfl),A9 _ _ _ (by simp),hp.kept (A4 c1 c2),hq.kept (A4 c1 c2)⟩,rfl⟩
  omega
 case body=>
  rintro lr pre x a' W hl'-hI ⟨Bx,p0,p1,p2,p3,p4,p5,p6,p7,q0,q1,q2,q3,q4,q5,q6,q7,hBx,⟨hBp,hBq,hPp,hPq⟩,rfl⟩ hlt
  obtain ⟨hw,⟨a,b9,c,d,hT,hRt⟩,hR0,hBs⟩:=hI
  have hs1:=(sumQ_b l hbd _ pre rfl).mono (M:=241) (by omega)
  have hs2:=(pX_b (eY hbd x.2) (iO hbd x.2)).mono (M:=241) (by omega)
  have ne01:w.heap.size+1≠Bx:=by omega
  have ne02:w.heap.size+1≠Bx+1:=by omega
  have ne03:w.heap.size+1≠w.heap.size+1+1:=by omega
  have ne04:w.heap.size+1≠w.heap.size:=by omega
  have ne12:Bx≠Bx+1:=by omega
  have ne13:Bx≠w.heap.size+1+1:=by omega
  have ne14:Bx≠w.heap.size:=by omega
  have ne23:Bx+1≠w.heap.size+1+1:=by omega
  have ne24:Bx+1≠w.heap.size:=by omega
  have ne34:w.heap.size+1+1≠w.heap.size:=by omega
  refine O3 (Fc.round lr _ Tryd.prog) B3 (prot:=G0) [sQ (jD l pre),sPt (pt0 l x),sPt (nxt l x),sX v hv,sQ (pX (pt0 l x) (nxt l x)),sQ (jD l (pre++[x]))] [] [] 24 4 [.any 0,.any 1,.any 2,.v false [.ptr 0 0],.v false [.ptr 1 0],.v false [.ptr 2 0],.any 6,.any 7,.any 8,.any 9,.any 10,.any 11,.any 12,.any 13,.any 14,.any 15,.any 16,.any 17,.any 18,.any 19,.any 20,.any 21,.any 22,.any 23] [(31,[.an 0 0,.an 0 1,.an 0 2,.an 0 3],true),(33,[.an 1 0,.an 1 1,.an 1 2,.an 1 3,.an 1 4,.an 1 5,.an 1 6,.an 1 7],false),(33,[.an 2 0,.an 2 1,.an 2 2,.an 2 3,.an 2 4,.an 2 5,.an 2 6,.an 2 7],false),(40,[.an 3 0],false),(31,[.lit (.slice none 0 0),.lit (.bool false),.lit (.slice none 0 0),.lit (.bool false)],false)] (rs:=[(cl 4 18 [ag 8 1,ag 8 2],[]),(cl 5 11 [ag 4 0,ag 4 4],[])]) (js:=[]) (outs:=[⟨.normal,(List.range 6),[],[.any 0,.any 1,.any 2,.v false [.ptr 0 0],.v false [.ptr 1 0],.v false [.ptr 2 0],.any 6,.any 7,.any 8,.any 9,.any 10,.any 11,ag 4 0,ag 8 1,ag 8 2,ag 4 4,ag 4 5,.any 17,.any 18,.any 19,.any 20,.any 21,.any 22,.any 23],[(0,31,[.an 5 0,.an 5 1,.an 5 2,.an 5 3]),(1,33,[.an 1 0,.an 1 1,.an 1 2,.an 1 3,.an 1 4,.an 1 5,.an 1 6,.an 1 7]),(2,33,[.an 2 0,.an 2 1,.an 2 2,.an 2 3,.an 2 4,.an 2 5,.an 2 6,.an 2 7]),(3,40,[.an 3 0]),(4,31,[.lit (.slice none 0 0),.lit (.bool false),.lit (.slice none 0 0),.lit (.bool false)])],[0]⟩]) (nc:=6) (by kernel_rfl) hw
   ⟨fun n=>match n with | 0=>D7 [a,b9,c,d] | 1=>D7 [p0,p1,p2,p3,p4,p5,p6,p7] | 2=>D7 [q0,q1,q2,q3,q4,q5,q6,q7] | 3=>D7 [v] | _=>fun _ => .bool false,fun b=>match b with | 0=>w.heap.size+1 | 1=>Bx | 2=>Bx+1 | 3=>w.heap.size+1+1 | 4=>w.heap.size | _=>0,fun i=>(#[v,undef,.pointer (some ⟨w.heap.size,0,none⟩),.pointer (some ⟨w.heap.size+1,0,none⟩),.pointer (some ⟨Bx,0,none⟩),.pointer (some ⟨Bx+1,0,none⟩),undef,undef,v,.func (.func 64) #[] #[.pointer (some ⟨w.heap.size+1+1,0,none⟩)],.agg #[p0,p1,p2,p3,p4,p5,p6,p7],.agg #[q0,q1,q2,q3,q4,q5,q6,q7],undef,undef,undef,undef,undef,undef,undef,undef,undef,undef,undef,undef]:Array Value).getD i undef⟩
   (fun n c=>match n with | 0=>B4 (by obtain ⟨i0,i1,i2,i3⟩:=hRt.one;simp [i0,i1,i2,i3]) c | 1=>B4 hPp.one c | 2=>B4 hPq.one c | 3=>B4 (by simp [hv]) c | _+4=>rfl) rfl (fun i=>match i with | 0=>rfl | 1=>rfl | 2=>rfl | 3=>rfl | 4=>rfl | 5=>rfl | 6=>rfl | 7=>rfl | 8=>rfl | 9=>rfl | 10=>rfl | 11=>rfl | 12=>rfl | 13=>rfl | 14=>rfl | 15=>rfl | 16=>rfl | 17=>rfl | 18=>rfl | 19=>rfl | 20=>rfl | 21=>rfl | 22=>rfl | 23=>rfl | _+24=>rfl)
   (fun b q hq=>match b,q,hq with
    | 0,_,rfl=>⟨hT,fun _=>Nat.le_succ _⟩
    | 1,_,rfl=>⟨hBp,fun e=>nomatch e⟩
    | 2,_,rfl=>⟨hBq,fun e=>nomatch e⟩
    | 3,_,rfl=>⟨hBs,fun e=>nomatch e⟩
    | 4,_,rfl=>⟨hR0,fun e=>nomatch e⟩
    | _+5,_,hq=>nomatch hq)
   (fun b c hb hc hq=>match b,c,hb,hc with
    | 0,0,_,_=>rfl
    | 0,1,_,_=>absurd hq ne01
    | 0,2,_,_=>absurd hq ne02
    | 0,3,_,_=>absurd hq ne03
    | 0,4,_,_=>absurd hq ne04
    | 1,0,_,_=>absurd hq (Ne.symm ne01)
    | 1,1,_,_=>rfl
    | 1,2,_,_=>absurd hq ne12
    | 1,3,_,_=>absurd hq ne13
    | 1,4,_,_=>absurd hq ne14
    | 2,0,_,_=>absurd hq (Ne.symm ne02)
    | 2,1,_,_=>absurd hq (Ne.symm ne12)
    | 2,2,_,_=>rfl
    | 2,3,_,_=>absurd hq ne23
    | 2,4,_,_=>absurd hq ne24
    | 3,0,_,_=>absurd hq (Ne.symm ne03)
    | 3,1,_,_=>absurd hq (Ne.symm ne13)
    | 3,2,_,_=>absurd hq (Ne.symm ne23)
    | 3,3,_,_=>rfl
    | 3,4,_,_=>absurd hq ne34
    | 4,0,_,_=>absurd hq (Ne.symm ne04)
    | 4,1,_,_=>absurd hq (Ne.symm ne14)
    | 4,2,_,_=>absurd hq (Ne.symm ne24)
    | 4,3,_,_=>absurd hq (Ne.symm ne34)
    | 4,4,_,_=>rfl
    | _+5,_,hb,_=>absurd hb (by simp)
    | _,_+5,_,hc=>absurd hc (by simp))
   (fun jn hn=>match jn,hn with
    | 0,_=>hRt
    | 1,_=>hPp
    | 2,_=>hPq
    | 3,_=>rfl
    | _+4,hn=>absurd hn (by omega))
   (fun jn hn=>match jn,hn with
    | 0,_=>G9 rfl _ _ _ _
    | 1,_=>G9 rfl _ _ _ _
    | 2,_=>G9 rfl _ _ _ _
    | 3,_=>G9 rfl _ _ _ _
    | _+4,hn=>absurd hn (by omega))
   ⟨fun σ W g h hp hb=>nO W _ _ (pt0 l x) (nxt l x) 1 (h 1 rfl) (h 2 rfl) (by omega) (eY hbd x.2) (iO hbd x.2) (hTab.kept g (by simp)),
   fun σ W g h hp hb=>by
    rw [gF]
    exact P6 W _ _ (jD l pre) (pX (pt0 l x) (nxt l x)) 241 (h 0 rfl) (h 4 rfl) (by omega) hs1.1 hs1.2 hs2.1 hs2.2 (hTab.kept g (by simp)),
   trivial⟩
   trivial
   ⟨fun τ W' g hk h hp hb0 had how a' hts hdf=>by
    obtain ⟨hbx,hne⟩:=hb0
    have k0:=hbx _ (.head _)
    have k3:=hbx _ (.tail _ (.tail _ (.tail _ (.head _))))
    have k4:=hbx _ (.tail _ (.tail _ (.tail _ (.tail _ (.head _)))))
    unfold I8 at k0 k3 k4
    rw [had 0 (by decide)] at k0
    rw [had 3 (by decide)] at k3
    rw [had 4 (by decide)] at k4
    have k3':W'.heap[w.heap.size+1+1]?=some (.cells #[v] 40 (0,0)):=by
     have e3 : τ.an 3 0=v:=h 3 rfl
     rw [<- e3];exact k3
    refine ⟨hk.from _,⟨(g.block _ (hbw x) (by simp)).trans ((hw.block _ (hbw x) (by simp)).symm),k3'.trans hBs.symm⟩,g,⟨_,_,_,_,k0,h 5 rfl⟩,k4,k3'⟩,
   trivial⟩
 case done=>
  intro D xs W hDB hxs hI hD
  refine hK _ _ ?_
  obtain ⟨hw,⟨a,b9,c,d,hT,hRt⟩,hR0,hBs⟩:=hI
  have hxl:xs.length=l.length:=by have:=congrArg List.length hxs;simpa using this
  have hs1:=(sumQ_b l hbd _ xs rfl).mono (M:=241) (by omega)
  have ne01:w.heap.size+1≠w.heap.size:=by omega
  refine O3 (Fc.wide _ Tryd.prog) B3 (prot:=G0) [sQ (jD l xs),sQ (2:Rat),sQE (E1 l) 0] [] [] 24 1 [.any 0,.any 1,.v false [.ptr 1 0],.v false [.ptr 0 0],.any 4,.any 5,.any 6,.any 7,.any 8,.any 9,.any 10,.any 11,.any 12,.any 13,.any 14,.any 15,.any 16,.any 17,.any 18,.any 19,.any 20,.any 21,.any 22,.any 23] [(31,[.an 0 0,.an 0 1,.an 0 2,.an 0 3],true),(31,[.lit (.slice none 0 0),.lit (.bool false),.lit (.slice none 0 0),.lit (.bool false)],true)] (rs:=[(cl 1 35 [.v false [.lit (.int .i64 2)]],[]),(cl 2 34 [ag 4 0,ag 4 1],[])]) (js:=[]) (outs:=[⟨.ret,(List.range 3),[],[.any 0,.any 1,.v false [.ptr 1 0],.v false [.ptr 0 0],.any 4,.any 5,.v false [.ptr 2 0],.v false [.lit (.int .i64 0)],.any 8,.any 9,.any 10,.any 11,.any 12,.any 13,.any 14,.any 15,.any 16,.tup [(true,[.an 2 0,.an 2 1,.an 2 2,.an 2 3]),(false,[.lit (.int .i64 0)])],ag 4 0,ag 4 1,.tup [(true,[.an 2 0,.an 2 1,.an 2 2,.an 2 3]),(false,[.lit (.int .i64 0)])],ag 4 2,.v false [.lit (.int .i64 0)],ag 4 2],[(0,31,[.an 0 0,.an 0 1,.an 0 2,.an 0 3]),(1,31,[.an 2 0,.an 2 1,.an 2 2,.an 2 3]),(2,31,[.an 2 0,.an 2 1,.an 2 2,.an 2 3])],[0,1,2]⟩]) (nc:=3) (by kernel_rfl) hw
   ⟨fun n=>match n with | 0=>D7 [a,b9,c,d] | _=>fun _ => .bool false,fun b=>match b with | 0=>w.heap.size+1 | 1=>w.heap.size | _=>0,fun i=>(#[v,undef,.pointer (some ⟨w.heap.size,0,none⟩),.pointer (some ⟨w.heap.size+1,0,none⟩),undef,undef,undef,undef,v,.func (.func 64) #[] #[.pointer (some ⟨w.heap.size+1+1,0,none⟩)],undef,undef,undef,undef,undef,undef,undef,undef,undef,undef,undef,undef,undef,undef]:Array Value).getD i undef⟩
   (fun n c=>match n with | 0=>B4 (by obtain ⟨i0,i1,i2,i3⟩:=hRt.one;simp [i0,i1,i2,i3]) c | _+1=>rfl) rfl (fun i=>match i with | 0=>rfl | 1=>rfl | 2=>rfl | 3=>rfl | 4=>rfl | 5=>rfl | 6=>rfl | 7=>rfl | 8=>rfl | 9=>rfl | 10=>rfl | 11=>rfl | 12=>rfl | 13=>rfl | 14=>rfl | 15=>rfl | 16=>rfl | 17=>rfl | 18=>rfl | 19=>rfl | 20=>rfl | 21=>rfl | 22=>rfl | 23=>rfl | _+24=>rfl)
   (fun b q hq=>match b,q,hq with
    | 0,_,rfl=>⟨hT,fun _=>Nat.le_succ _⟩
    | 1,_,rfl=>⟨hR0,fun _=>Nat.le_refl _⟩
    | _+2,_,hq=>nomatch hq)
   (fun b c hb hc hq=>match b,c,hb,hc with
    | 0,0,_,_=>rfl
    | 0,1,_,_=>absurd hq ne01
    | 1,0,_,_=>absurd hq (Ne.symm ne01)
    | 1,1,_,_=>rfl
    | _+2,_,hb,_=>absurd hb (by simp)
    | _,_+2,_,hc=>absurd hc (by simp))
   (fun jn hn=>match jn,hn with
    | 0,_=>hRt
    | _+1,hn=>absurd hn (by omega))
   (fun jn hn=>match jn,hn with
    | 0,_=>G9 rfl _ _ _ _
    | _+1,hn=>absurd hn (by omega))
   ⟨fun σ W g h hp hb=>dZ W 2 (by omega) (by omega),
   fun σ W g h hp hb=>by
    rw [areaP_sum l xs hxs]
    exact toQE (FDiv_any W _ _ (jD l xs) 2 241 (h 0 rfl) (h 1 rfl) (by omega) hs1.1 hs1.2 (two_b.mono (by omega)).1 (two_b.mono (by omega)).2 (hTab.kept g (by simp))) (by rw [if_neg (by decide)]),
   trivial⟩
   trivial
   ⟨fun τ W' g hk h hp hb0 had how a' hts hdf=>by
    obtain ⟨hbx,hne⟩:=hb0
    have k1:=hbx _ (.tail _ (.head _))
    unfold I8 at k1
    rw [had 1 (by decide)] at k1
    have hD':=hk.same D _ hD rfl
    have hfar:M7 W0.heap.size W' (some D):=fun r e=>by cases e;exact ⟨hDB,_,hD',rfl⟩
    have hpo:=grownBy_putObj' W' D (.deferred none)
    have k1':=B6 hpo hfar k1
    show LeavesInM _ _ _ _ _ _ _ _ _
    rw [hdf]
    refine ⟨by simp,.inl ⟨_,_,rfl,run_takeDeferred hD', ?_⟩⟩
    refine ⟨_,results_box (cs:=[τ.an 2 0, τ.an 2 1, τ.an 2 2, τ.an 2 3]) rfl ?_ k1' (by kernel_rfl) (by kernel_rfl),_,rfl,RatV.keeps (qE (h 2 rfl)) (L9 hpo hfar),K9 (by omega) g hpo hfar⟩
    rw [hts 2];show Value.pointer (some ⟨τ.ad 1,0,none⟩)=_;rw [had 1 (by decide)],
   trivial⟩
 case stop=>
  rintro D c pre W _ _ h _
  exact h.elim
end Go.Proofs.YtamdnbbgpacfkaaDoor
namespace Go.Proofs.YtamdnbbgpacfkaaDoor
open Go.RowKit Mat Ex PM
section
variable {ρ : Operand->Value} {o:Oper} {W:World}
end
theorem newO {specs:List Sp} {av:List Nat} {σ : Env} {W:World} {n:Nat} {run:Value->World->Prop} (hr:∃ v W',run v W'/\W.grownBy W' none/\(sp specs n).F v W' /\ ∀ q,(sp specs n).fp v W' q->W.heap.size<=q\/dF specs av σ W q) :
 ∃ v W',run v W'/\RetS W (sp specs n) (dF specs av σ W) (.returned v) W':=by
 obtain ⟨v,W',h1,h2,h3,h4⟩:=hr
 refine ⟨v,W',h1, ?_⟩
 unfold RetS
 cases hr:(sp specs n).row with
 | false=>exact ⟨v,rfl,h3,h2⟩
 | true=>exact ⟨v,rfl,h3,h2,h4⟩
theorem run_appM {α : Type} (kd:N9 α) {t:TypeId} (ht:Tryd.prog.underlying t=some (.slice kd.T)) (hi:∃ i z,Tryd.prog.info? kd.T=some i/\i.zero=some z/\i.size=kd.z/\i.bytes<=1000000/\z.cells.size=kd.z) (hsz : 0<kd.z)
 (hone:∀ W cs d,kd.A W cs d -> ∀ u ∈ cs,u.oneCell'=true) {W:World} {base:Nat} {v u:Value} {l0 l:List α} (h:OwV kd base W v l0) (hcap:∃ s,v = .slice s l0.length l0.length) (hu:RwV kd W u l) (hn:l0.length+l.length<=1000000) (hb:base<=W.heap.size) {ρ : Operand->Value} {o:Oper} {a b:Operand}
 (ho:o.op = .call ⟨.builtin .append, #[a,b], #[t,t]⟩) (ha : ρ a=v) (hbv : ρ b=u) :
 ∃ v' W',(execOp ρ o).run Tryd.prog W = .ok (.value v') W'/\W.grownBy W' none/\OwV kd base W' v' (l0++l)/\(v'.ownBlock=some W.heap.size\/v'=v):=by
 by_cases h0:l=[]
 · subst h0
   obtain ⟨s,n,c,rfl,hl,hnc,hd⟩:=hu
   obtain ⟨s0,rfl⟩:=hcap
   have hn0:n=0:=hl.symm
   subst hn0
   obtain ⟨i,z,i1,_⟩:=hi
   refine ⟨_,W, ?_,⟨rfl,rfl,rfl,Nat.le_refl _,fun _ _ _=>rfl⟩,by rw [List.append_nil];exact h,.inr rfl⟩
   simp only [execOp,ho,resolve,invoke,builtin,Sem.run_bind,Sem.run_pure,Result.andThen_ok,List.map_toArray,List.map_cons,List.map_nil,ha,hbv]
   rw [app_none W t o.type kd.T i ht i1 s0 l0.length l0.length c s (Nat.le_refl _)];rfl
 · obtain ⟨v',W',r1,r2,r3,r4⟩:=bB kd ht hi hsz hone h hcap hu h0 hn hb ho ha hbv
   exact ⟨v',W',r1,r2,r3,.inl r4⟩
theorem V5 {α : Type} {k:N9 α} {base:Nat} {W:World} {v:Value} {l:List α} (h:OwV k base W v l) {q:Nat} (hq:fpS v q):v.ownBlock=some q:=by
 obtain ⟨xs,⟨hl,h2⟩,hA⟩:=h
 obtain ⟨off,n,c,rfl⟩:=hq
 rcases h2 with ⟨e,_⟩ | ⟨g,cap,cur,e,_⟩
 · cases e
 · obtain ⟨e1,_⟩:=Value.slice.inj e
   cases e1;rfl
def sRw {α : Type} (k:N9 α) (hz : 0<k.z) (B:Option Nat) (l:List α):Sp where
 sh := .one
 F v W:=RwV k W v l /\ ∀ q,fpS v q->B=some q
 fits v W h:=by obtain ⟨⟨s,n,c,rfl,_⟩,_⟩:=h;exact ⟨fun _ => .slice s n c,fun _=>rfl,rfl⟩
 row:=true
 fp v _ q:=fpS v q
 lasts v W W' kk hq h:=⟨⟨h.1.keeps kk hq,h.2⟩,fun _ h=>h⟩
 inb v W h q hq:=by
  obtain ⟨⟨s,n,c,rfl,hl,hnc,hd⟩,_⟩:=h
  obtain ⟨off',m,c',e⟩:=hq
  cases e
  obtain ⟨b,off,xs,e,hx,hc,hA⟩:=hd.resolve_left fun e=>by rw [e] at hl;simp at hl
  cases e
  have : 0<xs.length:=by rw [hx,hl];exact Nat.mul_pos (Nat.succ_pos _) hz
  exact W4 (hc 0 _ (List.getElem?_eq_getElem this))
 flat h:=by cases h
section
variable {ρ : Operand->Value} {o:Oper} {W:World}
theorem rw_drop {α : Type} {kd:N9 α} {t:TypeId} (ht:Tryd.prog.underlying t=some (.slice kd.T)) (hz:I3 Tryd.prog kd.T=some kd.z) {x:Operand} {lo:Option Operand} {v:Value} {l:List α} {i:Nat} (h:RwV kd W v l) (ho:o.op = .slice t x lo none none) (hx : ρ x=v)
 (hlo:lo.map ρ=some (.int .i64 i)) (hi:i<=l.length) :
 ∃ u,(execOp ρ o).run Tryd.prog W = .ok (.value u) W/\RwV kd W u (l.drop i) /\ ∀ q,fpS u q->fpS v q:=by
 obtain ⟨s,n,c,rfl,hln,hn,h⟩:=h
 subst hln
 have hr:=oT (W:=W) ht hz ho hx (.inl hlo) (.inr ⟨rfl,rfl⟩) hi (Nat.le_refl _) hn
 refine ⟨_,hr,⟨_,_,_,rfl,by simp,by omega, ?_⟩, ?_⟩
 · by_cases h0:l.drop i=[]
   · exact .inl h0
   · have hpos:=List.length_pos_iff.2 h0
     obtain ⟨b,off,xs,rfl,hxl,hc,hA⟩:=h.resolve_left (fun e=>by rw [e] at h0;simp at h0)
     have hlt:i<l.length:=by simp at hpos;omega
     refine .inr ⟨b,off+i*kd.z,xs.drop (kd.z*i),by rw [if_neg (by omega),Option.map_some,Addr.add_mid],by rw [List.length_drop,hxl,List.length_drop,Nat.sub_mul,Nat.mul_comm i]; ,fun j u hj=>?_,fun j hj=>?_⟩
     · rw [List.getElem?_drop] at hj
       have:=hc _ _ hj
       rw [show off+(kd.z*i+j)=off+i*kd.z+j by rw [Nat.mul_comm];omega] at this
       exact this
     · rw [List.getElem_drop,List.drop_drop, <- Nat.mul_add]
       exact hA (i+j) (by simp at hj;omega)
 · rintro q ⟨off,m,c',e⟩
   obtain ⟨e1,e2,e3⟩:=Value.slice.inj e
   rcases h with h | ⟨b,off',xs,rfl,hx,hc⟩
   · rw [h] at hi;simp at hi;subst hi;rw [h] at e2;simp at e2
   · obtain ⟨n',hn'⟩:∃ n',l.length=n'+1:=⟨l.length-1,by omega⟩
     rw [if_neg (by omega),Option.map_some,Addr.add_mid] at e1
     cases e1
     exact ⟨off',n',c,by rw [hn']⟩
end
end Go.Proofs.YtamdnbbgpacfkaaDoor
namespace Go.Proofs.YtamdnbbgpacfkaaDoor
open Go.ChangeShapes Go.WideShapes Go.ChangeAt Go.RowKit Go.ChangeMaps Go.Deep
section
variable {H:Type} {enc:TypeId × Value->H} {W:World} {sp:Nat->Bool}
theorem open_dots {a0:Option Addr} {len cap:Nat} {d:DataW H} {p:List MemPlace} (h:DataW.Trod enc Tryd.prog W 0 sp true 24 (.slice a0 len cap) d p) :
 ∃ l:List Dt3,DtsV W.heap.size W (.slice a0 len cap) l /\ ∀ d ∈ l,(-9223372036854775808<=d.1/\d.1<=9223372036854775807)/\(-9223372036854775808<=d.2.1/\d.2.1<=9223372036854775807):=by
 obtain ⟨n,hn⟩:=h
 rcases open_slice Tryd.underlying24 hn with ⟨hcs,_⟩ | ⟨a,ln,cp,m,k,D,Pl,hcs,_,hl,hm,hmm,_,hx⟩
 · simp [Value.cells] at hcs
   obtain ⟨rfl,rfl,rfl⟩:=hcs
   exact ⟨[],⟨none,0,0,rfl,rfl,Nat.le_refl _,.inl rfl⟩,fun d hd=>by cases hd⟩
 · simp [Value.cells] at hcs
   obtain ⟨rfl,rfl,rfl⟩:=hcs
   have hlm:len<=m:=by rw [hmm];split<;>omega
   obtain ⟨f0,f1,f2,he,o0,o1,o2,t0,t1,t2⟩:=mH
   have each:∀ i,i<len -> ∃ q:Dt3,W.cell? (a.add (i*3))=some (.int .i64 q.1)/\W.cell? (a.add (i*3+1))=some (.int .i64 q.2.1)/\W.cell? (a.add (i*3+2))=some (.int .i64 q.2.2) /\
    (-9223372036854775808<=q.1/\q.1<=9223372036854775807)/\(-9223372036854775808<=q.2.1/\q.2.1<=9223372036854775807):=fun i hi=>by
    obtain ⟨cs',h1,h2⟩:=hx i (by omega)
    rw [pY] at h1
    obtain ⟨_,hlen,hcell⟩:=World.cells?_some h1
    obtain ⟨xs,k',_,_,_,hxl,hf⟩:=DataW.trod_struct he h2
    match xs,hxl,cs',hlen with
    | [y0,y1,y2],_,[v0,v1,v2],_=>
      have g0:=hf 0 f0 rfl
      have g1:=hf 1 f1 rfl
      have g2:=hf 2 f2 rfl
      simp [o0,o1,o2,t0,t1,t2,gT] at g0 g1 g2
      have e0:=hcell 0 (by omega)
      have e1:=hcell 1 (by omega)
      have e2:=hcell 2 (by omega)
      rw [Go.Deep.add_add] at e0 e1 e2
      obtain ⟨x0,hx0,_,w0⟩:=DataW.trod_int Tryd.underlying3 g0
      obtain ⟨x1,hx1,_,w1⟩:=DataW.trod_int Tryd.underlying3 g1
      obtain ⟨x2,hx2,_,w2⟩:=DataW.trod_int Tryd.underlying3 g2
      simp at hx0 hx1 hx2
      subst hx0;subst hx1;subst hx2
      exact ⟨(x0,x1,x2),by simpa using e0,by simpa using e1,by simpa using e2,U6 w0,U6 w1⟩
   obtain ⟨q,hq⟩:=choose_lt (α:=Dt3) each
   refine ⟨(List.range len).map q,⟨some a,len,cap,rfl,by simp,hl, ?_⟩,fun d hd=>?_⟩
   · by_cases h0:len=0
     · subst h0;exact .inl rfl
     · obtain ⟨c0,_⟩:=hq 0 (by omega)
       obtain ⟨b,off,spot⟩:=a
       have hs:=qG c0
       have hs:spot=none:=by simpa [Addr.add] using hs
       subst hs
       refine .inr ⟨b,off,rfl, ?_,fun i hi=>?_⟩
       · rw [Addr.add_lit] at c0;exact W4 c0
       · have hi:i<len:=by simpa using hi
         obtain ⟨c0,c1,c2,_⟩:=hq i hi
         rw [Addr.add_lit] at c0 c1 c2
         rw [Nat.mul_comm] at c0 c1 c2
         simp only [List.getElem_map,List.getElem_range]
         exact ⟨c0,c1,c2⟩
   · obtain ⟨i,hi,rfl⟩:=List.mem_map.1 hd
     have:=hq i (by simpa using hi)
     exact ⟨this.2.2.2.1,this.2.2.2.2⟩
end
end Go.Proofs.YtamdnbbgpacfkaaDoor
namespace Go.Proofs.YtamdnbbgpacfkaaDoor
open Go.RowKit Mat Ex PM
theorem vb {v:Value} {a b:Bool} (h:v = .bool a) (h2:v = .bool b):a=b:=by rw [h] at h2;exact Value.bool.inj h2
noncomputable def oH (x m:H3):H3:=open Classical in if plt (rp x) (rp m) then x else m
noncomputable def nx (P:Prop) (u v:H3):H3:=open Classical in if P then u else v
end Go.Proofs.YtamdnbbgpacfkaaDoor
