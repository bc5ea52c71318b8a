/- What the laws lean on, part 16. -/
import Derived.Below
import Derived.BigCall
import Derived.BigQuiet
import Derived.BigRegion
import Derived.ChangeOld
import Derived.Deep.AppendLies
import Derived.Deep.CutBlock
import Derived.Deep.CutRange
import Derived.Deep.DeepCutAuto
import Derived.Deep.DeepHandedRow
import Derived.Deep.LoopGhost
import Derived.Deep.MidRow
import Derived.Deep.QuietTactic
import Derived.Deep.RegionHeld3
import Derived.Deep.RegionLaw
import Derived.Deep.Slices
import Derived.Deep.Strs
import Derived.Deep.WholeRow
import Derived.Laws.AppendOwn
import Derived.Laws.Concat
import Derived.Laws.CopyOwn
import Derived.Laws.Externs
import Derived.Laws.IdiomStrings
import Derived.Lib.BitFns
import Derived.Lib.Bytealg
import Derived.Lib.Hide
import Derived.Lib.LaidTab
import Derived.Lib.Slices
import Derived.Lib.Small
import Derived.Lib.Strings
import Derived.Lib.Walk
import Derived.LoopIn
import Derived.LoopN
import Derived.LoopNIn
import Derived.Maps.AppendAt
import Derived.OpenShut
import Derived.OrdersHeld
import Derived.OrdersIn
import Derived.Outline
import Derived.OwnWalk
import Derived.OwnWalkIn
import Derived.ProofKit
import Derived.RangeFuncBound
import Derived.RangeFuncCalls
import Derived.RangeFuncLeaves
import Derived.RangeFuncNested
import Derived.RangeFuncOwn
import Derived.Shelf.Abstract
import Derived.Shelf.Bits.Mul64
import Derived.Shelf.RegionOpen
import Derived.Shelf.Spec.TrailingZeros
import Derived.StillTailTactics
import Derived.TacticsInMore
import Derived.WalkKit
import Derived.WalkLawsBesides
import Derived.WalkSpells
import Derived.WideKeyArgs
import Derived.Test.YtninnifpgpjfhaaGreatDoorCards
import Derived.Test.YtninnifpgpjfhaaGreatDoorProg
import Derived.Test.YtninnifpgpjfhaaGreatDoorRows
import Derived.Test.YtninnifpgpjfhaaGreatDoorTie
import Derived.Test.YtninnifpgpjfhaaGreatDoorMb14
set_option linter.unusedVariables false
set_option linter.unusedSimpArgs false
set_option maxRecDepth 100000
namespace Go.Proofs.YtninnifpgpjfhaaGreatDoor
open Go.RowKit Mat Ex PM
def clr (l:List Pq) (p:Pq) (k:Nat):Prop:=∀ i,i<k -> ¬ InS (pt0 l i) (nxt l i) p
theorem qst_b (p a b:Pq) : -2<=qst p a b/\qst p a b<=2:=by
 have:=T8 (B5 a b p)
 unfold qst
 split
 · omega
 · split<;>omega
theorem upS_b (p:Pq) (l:List Pq):∀ k:Nat, -(2*(k:Int))<=upS (qst p) l k/\upS (qst p) l k<=2*k
 | 0=>by show -(2*((0:Nat):Int))<=0/\(0:Int)<=2*((0:Nat):Int);omega
 | k+1=>by
   have h1:=upS_b p l k
   have h2:=qst_b p (pt0 l k) (nxt l k)
   show -(2*((k+1:Nat):Int))<=upS (qst p) l k+qst p (pt0 l k) (nxt l k)/\upS (qst p) l k+qst p (pt0 l k) (nxt l k)<=2*((k+1:Nat):Int)
   omega
theorem kA (p q:Pq) : 0<=qtr p q/\qtr p q<=3:=by unfold qtr;split<;>(try split)<;>(try split)<;>omega
theorem hg_pt (l:List H3) (k:Nat) (h:k<l.length):rp (hg l k)=pt0 (l.map rp) k:=by simp [hg,pt0,h]
theorem hg_nx (l:List H3) (k:Nat) (h:k<l.length):rp (hg l ((k+1)%l.length))=nxt (l.map rp) k:=by
 have:=Nat.mod_lt (k+1) (show 0<l.length by omega)
 unfold nxt
 rw [hg_pt l _ this,List.length_map]
theorem vBx {v:Value} {a b:Bool} (h:v = .bool a) (h2:v = .bool b):a=b:=by rw [h] at h2;exact Value.bool.inj h2
theorem dstep (p a b:Pq):(if (if (qtr p b-qtr p a+4)%4=3 then -1 else (qtr p b-qtr p a+4)%4)=2 then 2*rsg (B5 a b p) else (if (qtr p b-qtr p a+4)%4=3 then -1 else (qtr p b-qtr p a+4)%4))=qst p a b:=by
 unfold qst
 by_cases h1:(qtr p b-qtr p a+4)%4=3
 · rw [if_pos h1,if_pos h1,if_neg (by omega)]
 · rw [if_neg h1,if_neg h1]
theorem lR (w:World) (va vb:Value) (l:List H3) (c:H3) (E:Nat) (Ha:HrV w va l) (Hb:HV w vb c) (hE : 1<=E/\E<=10000) (hn:l.length<=40) (hl:∀ p ∈ l,HB E p/\0<p.z) (bc:HB E c) (zc : 0<c.z) :
 Calls Tryz.prog 16 #[va,vb] w (fun e w'=>e = .returned (.tuple #[.int .i64 (arN (l.map rp) (rp c)),.bool (dec (OnR (l.map rp) (rp c)))])/\w.grownBy w' none):=by
 refine N2 B1 Tryz.func16 [sHr 0 l,sH c] (fun k:Nat=>[sZc (k<=l.length/\clr (l.map rp) (rp c) k) (k:Int),sZ (upS (qst (rp c)) (l.map rp) k),sZ l.length,sC (.bool (decide (k<l.length))) rfl,sHa (hg l (k)),sH (hg l (k)),sZ ((k:Int)+1),sZ l.length,sZ (((k+1)%l.length:Nat):Int),sHa (hg l (((k+1)%l.length))),sH (hg l (((k+1)%l.length))),sC (.bool (dec (InS (rp (hg l k)) (rp (hg l ((k+1)%l.length))) (rp c)))) rfl,sZ (qtr (rp c) (rp (hg l ((k+1)%l.length)))),sZ (qtr (rp c) (rp (hg l k))),sZ (qtr (rp c) (rp (hg l ((k+1)%l.length)))-qtr (rp c) (rp (hg l k))),sZ (qtr (rp c) (rp (hg l ((k+1)%l.length)))-qtr (rp c) (rp (hg l k))+4),sZ ((qtr (rp c) (rp (hg l ((k+1)%l.length)))-qtr (rp c) (rp (hg l k))+4)%4),sC (.bool (decide (((qtr (rp c) (rp (hg l ((k+1)%l.length)))-qtr (rp c) (rp (hg l k))+4)%4)=3))) rfl,sZ (if ((qtr (rp c) (rp (hg l ((k+1)%l.length)))-qtr (rp c) (rp (hg l k))+4)%4)=3 then -1 else ((qtr (rp c) (rp (hg l ((k+1)%l.length)))-qtr (rp c) (rp (hg l k))+4)%4)),sC (.bool (decide ((if ((qtr (rp c) (rp (hg l ((k+1)%l.length)))-qtr (rp c) (rp (hg l k))+4)%4)=3 then -1 else ((qtr (rp c) (rp (hg l ((k+1)%l.length)))-qtr (rp c) (rp (hg l k))+4)%4))=2))) rfl,sZ (rsg (B5 (rp (hg l k)) (rp (hg l ((k+1)%l.length))) (rp c))),sZ (2*rsg (B5 (rp (hg l k)) (rp (hg l ((k+1)%l.length))) (rp c))),sZ (if (if ((qtr (rp c) (rp (hg l ((k+1)%l.length)))-qtr (rp c) (rp (hg l k))+4)%4)=3 then -1 else ((qtr (rp c) (rp (hg l ((k+1)%l.length)))-qtr (rp c) (rp (hg l k))+4)%4))=2 then 2*rsg (B5 (rp (hg l k)) (rp (hg l ((k+1)%l.length))) (rp c)) else (if ((qtr (rp c) (rp (hg l ((k+1)%l.length)))-qtr (rp c) (rp (hg l k))+4)%4)=3 then -1 else ((qtr (rp c) (rp (hg l ((k+1)%l.length)))-qtr (rp c) (rp (hg l k))+4)%4))),sZ (upS (qst (rp c)) (l.map rp) (k+1)),sZ ((k:Int)+1),sZ (winds (l.map rp) (rp c))]) (fun m k=>if m=2 then l.length-k else 0) (0) (fun _=>rfl) [1000000] [some [[.t 8,.t 9,.t 10,.t 11,.t 12,.t 13,.t 14,.t 15,.t 16,.t 17,.t 18,.t 19,.t 20,.t 21,.t 22,.t 23,.t 24,.t 25,.t 26,.t 27,.t 28,.t 29,.t 30,.t 31,.t 32,.t 33,.t 34,.t 35,.t 36,.t 37,.t 38,.t 39,.t 40,.t 41,.t 42,.t 43,.t 44,.t 45,.t 46,.t 47,.t 48,.t 49,.t 50,.t 51,.t 52,.t 53,.t 54],[.t 7],[.t 6]],some [[.t 10]],some [[.t 10]]] (.cons ⟨Ha,fun _ _=>Nat.zero_le _⟩ (.cons Hb .nil)) (rs:=[(co 4 (.call ⟨.builtin .len, #[(.tmp 12)], #[24]⟩) 3 [on 0] [0,1,2,3] [],[]),(co 5 (.binOp .lss 3 (.tmp 11) (.tmp 13) 3) 4 [on 2,on 4] [0,1,2,3,4] [],[]),(co 6 (.indexAddr 24 (.tmp 17) (.tmp 18)) 0 [on 0,on 2] [0,1,2,3,4,5] [],[(5,0,true)]),(co 7 (.load 43 (.tmp 19)) 43 [on 6] [0,1,2,3,4,5,6] [],[(5,0,true)]),(co 8 (.binOp .add 3 (.tmp 22) (.const (.int .i64 1)) 3) 3 [on 2,.v false [.lit (.int .i64 1)]] [0,1,2,3,4,5] [],[(5,0,true)]),(co 9 (.call ⟨.builtin .len, #[(.tmp 24)], #[24]⟩) 3 [on 0] [0,1,2,3,4,5] [],[(5,0,true)]),(co 10 (.binOp .rem 3 (.tmp 23) (.tmp 25) 3) 3 [on 8,on 9] [0,1,2,3,4,5,8,9] [],[(5,0,true)]),(co 11 (.indexAddr 24 (.tmp 21) (.tmp 26)) 0 [on 0,on 10] [0,1,2,3,4,5,8,9,10] [],[(5,0,true)]),(co 12 (.load 43 (.tmp 27)) 43 [on 11] [0,1,2,3,4,5,8,9,10,11] [],[(5,0,true)]),(cl 13 24 [.v true [.an 7 0,.an 7 1,.an 7 2,.an 7 3,.an 7 4,.an 7 5,.an 12 0,.an 12 1,.an 12 2,.an 12 3,.an 12 4,.an 12 5],ag 6 1],[(5,0,true)]),(cl 14 53 [ag 6 1,ag 6 12],[(13,0,false),(5,0,true)]),(cl 15 53 [ag 6 1,ag 6 7],[(13,0,false),(5,0,true)]),(co 16 (.binOp .sub 3 (.tmp 36) (.tmp 39) 3) 3 [on 14,on 15] [0,1,2,3,4,5,6,7,8,9,10,11,12,13,14,15] [],[(13,0,false),(5,0,true)]),(co 17 (.binOp .add 3 (.tmp 40) (.const (.int .i64 4)) 3) 3 [on 16,.v false [.lit (.int .i64 4)]] [0,1,2,3,4,5,6,7,8,9,10,11,12,13,14,15,16] [],[(13,0,false),(5,0,true)]),(co 18 (.binOp .rem 3 (.tmp 41) (.const (.int .i64 4)) 3) 3 [on 17,.v false [.lit (.int .i64 4)]] [0,1,2,3,4,5,6,7,8,9,10,11,12,13,14,15,16,17] [],[(13,0,false),(5,0,true)]),(co 19 (.binOp .eql 3 (.tmp 43) (.const (.int .i64 3)) 3) 4 [on 18,.v false [.lit (.int .i64 3)]] [0,1,2,3,4,5,6,7,8,9,10,11,12,13,14,15,16,17,18] [],[(13,0,false),(5,0,true)]),(co 21 (.binOp .eql 3 (.tmp 45) (.const (.int .i64 2)) 3) 4 [on 20,.v false [.lit (.int .i64 2)]] [0,1,2,3,4,5,6,7,8,9,10,11,12,13,14,15,16,17,18,19,20] [],[(13,0,false),(5,0,true)]),(cl 22 54 [ag 6 7,ag 6 12,ag 6 1],[(21,0,true),(13,0,false),(5,0,true)]),(co 23 (.binOp .mul 3 (.const (.int .i64 2)) (.tmp 50) 3) 3 [.v false [.lit (.int .i64 2)],on 22] [0,1,2,3,4,5,6,7,8,9,10,11,12,13,14,15,16,17,18,19,20,21,22] [],[(21,0,true),(13,0,false),(5,0,true)]),(co 25 (.binOp .add 3 (.tmp 52) (.tmp 53) 3) 3 [on 3,on 24] [0,1,2,3,4,5,6,7,8,9,10,11,12,13,14,15,16,17,18,19,20,21,24] [],[(13,0,false),(5,0,true)]),(co 26 (.binOp .add 3 (.tmp 15) (.const (.int .i64 1)) 3) 3 [on 2,.v false [.lit (.int .i64 1)]] [0,1,2,3,4,5,6,7,8,9,10,11,12,13,14,15,16,17,18,19,20,21,24,25] [],[(13,0,false),(5,0,true)]),(co 27 (.binOp .quo 3 (.tmp 55) (.const (.int .i64 4)) 3) 3 [on 3,.v false [.lit (.int .i64 4)]] [0,1,2,3,4,5] [],[(5,0,false)])]) (js:=[.loop false 2 [(2,.v false [.lit (.int .i64 0)]),(3,.v false [.lit (.int .i64 0)])] (List.range 2) [],.test 5 0 (List.range 6) [],.test 13 0 (List.range 14) [(5,0,true)],.test 19 0 (List.range 20) [(13,0,false),(5,0,true)],.meet [(20,.v false [.lit (.int .i64 (-1))])] (List.range 20) [(19,0,true),(13,0,false),(5,0,true)],.meet [(20,on 18)] (List.range 20) [(19,0,false),(13,0,false),(5,0,true)],.test 21 0 (List.range 22) [(13,0,false),(5,0,true)],.meet [(24,on 23)] (List.range 24) [(21,0,true),(13,0,false),(5,0,true)],.meet [(24,on 20)] (List.range 22) [(21,0,false),(13,0,false),(5,0,true)],.loop true 2 [(2,on 26),(3,on 25)] [0,1,2,3,4,5,6,7,8,9,10,11,12,13,14,15,16,17,18,19,20,21,24,25,26] [(13,0,false),(5,0,true)]]) (outs:=[⟨.tup [(false,[.lit (.int .i64 0)]),(false,[.lit (.bool true)])],(List.range 14),[(13,0,true),(5,0,true)],[],[]⟩,⟨.tup [(false,[.an 27 0]),(false,[.lit (.bool false)])],[0,1,2,3,4,5,27],[(5,0,false)],[],[]⟩]) (nc:=28) (by kernel_rfl)
  (fun k=>⟨fun σ W g h hp hb=>fun ρ o ho _ hv=>⟨_,hr_len (h 0 rfl).1 ho (E6 hv) ⟨43,by kernel_rfl⟩,rfl⟩,
  fun σ W g h hp hb=>fun ρ o ho _ hv=>⟨_,hr_lt ho ((A0 hv).1.trans (h 2 rfl).1) ((A0 hv).2.trans (h 4 rfl)) rfl rfl,rfl⟩,
  fun σ W g h hp hb=>fun ρ o ho _ hv=>by
   have q:=of_decide_eq_true (D8 (h 5 rfl) (hp 5 0 true rfl))
   obtain ⟨u,h1,h2,h3⟩:=hr_nth (P:=Tryz.prog) (h 0 rfl).1 ho (A0 hv).1 (k) _ rfl (by omega) ((A0 hv).2.trans (h 2 rfl).1)
   exact ⟨u,h1,h2,fun q hq=>⟨0,rfl,h3 q hq⟩⟩,
  fun σ W g h hp hb=>fun ρ o ho _ hv=>hr_load (h 6 rfl) ho (E6 hv),
  fun σ W g h hp hb=>fun ρ o ho _ hv=>by
   have q:=of_decide_eq_true (D8 (h 5 rfl) (hp 5 0 true rfl))
   exact ⟨_,B8 ho ((A0 hv).1.trans (h 2 rfl).1) (A0 hv).2 (P8 (by omega) (by omega)),rfl⟩,
  fun σ W g h hp hb=>fun ρ o ho _ hv=>⟨_,hr_len (h 0 rfl).1 ho (E6 hv) ⟨43,by kernel_rfl⟩,rfl⟩,
  fun σ W g h hp hb=>fun ρ o ho _ hv=>by
   have q:=of_decide_eq_true (D8 (h 5 rfl) (hp 5 0 true rfl))
   exact ⟨_,rem_sm ho ((A0 hv).1.trans (h 8 rfl)) ((A0 hv).2.trans (h 9 rfl)) (by omega) (by omega) (by omega),congrArg (Value.int .i64) (by push_cast;rfl)⟩,
  fun σ W g h hp hb=>fun ρ o ho _ hv=>by
   have q:=of_decide_eq_true (D8 (h 5 rfl) (hp 5 0 true rfl))
   obtain ⟨u,h1,h2,h3⟩:=hr_nth (P:=Tryz.prog) (h 0 rfl).1 ho (A0 hv).1 (((k+1)%l.length)) _ rfl (Nat.mod_lt _ (by omega)) ((A0 hv).2.trans (h 10 rfl))
   exact ⟨u,h1,h2,fun q hq=>⟨0,rfl,h3 q hq⟩⟩,
  fun σ W g h hp hb=>fun ρ o ho _ hv=>hr_load (h 11 rfl) ho (E6 hv),
  fun σ W g h hp hb=>by
   have q:=of_decide_eq_true (D8 (h 5 rfl) (hp 5 0 true rfl))
   have a0:=hl _ (dB (l:=l) (k:=k) (by omega))
   have a1:=hl _ (dB (l:=l) (k:=(k+1)%l.length) (Nat.mod_lt _ (by omega)))
   exact (rHOn_any W _ _ _ _ c E (mkhs (h 7 rfl) (h 12 rfl)) (h 1 rfl) hE.2 a0.1 a1.1 bc a0.2 a1.2 zc).mono fun _ _ ⟨a,g⟩=>⟨_,a,rfl,g⟩,
  fun σ W g h hp hb=>by
   have q:=of_decide_eq_true (D8 (h 5 rfl) (hp 5 0 true rfl))
   have a1:=hl _ (dB (l:=l) (k:=(k+1)%l.length) (Nat.mod_lt _ (by omega)))
   exact (rQtr_any W _ _ c _ E (h 1 rfl) (h 12 rfl) hE.2 bc a1.1 zc a1.2).mono fun _ _ ⟨a,g⟩=>⟨_,a,rfl,g⟩,
  fun σ W g h hp hb=>by
   have q:=of_decide_eq_true (D8 (h 5 rfl) (hp 5 0 true rfl))
   have a0:=hl _ (dB (l:=l) (k:=k) (by omega))
   exact (rQtr_any W _ _ c _ E (h 1 rfl) (h 7 rfl) hE.2 bc a0.1 zc a0.2).mono fun _ _ ⟨a,g⟩=>⟨_,a,rfl,g⟩,
  fun σ W g h hp hb=>fun ρ o ho _ hv=>by
   have q:=of_decide_eq_true (D8 (h 5 rfl) (hp 5 0 true rfl))
   have qb:=kA (rp c) (rp (hg l ((k+1)%l.length)))
   have qa:=kA (rp c) (rp (hg l k))
   exact ⟨_,B8 ho ((A0 hv).1.trans (h 14 rfl)) ((A0 hv).2.trans (h 15 rfl)) (sub_sm (by omega) (by omega)),rfl⟩,
  fun σ W g h hp hb=>fun ρ o ho _ hv=>by
   have q:=of_decide_eq_true (D8 (h 5 rfl) (hp 5 0 true rfl))
   have qb:=kA (rp c) (rp (hg l ((k+1)%l.length)))
   have qa:=kA (rp c) (rp (hg l k))
   exact ⟨_,B8 ho ((A0 hv).1.trans (h 16 rfl)) (A0 hv).2 (P8 (by omega) (by omega)),rfl⟩,
  fun σ W g h hp hb=>fun ρ o ho _ hv=>by
   have q:=of_decide_eq_true (D8 (h 5 rfl) (hp 5 0 true rfl))
   have qb:=kA (rp c) (rp (hg l ((k+1)%l.length)))
   have qa:=kA (rp c) (rp (hg l k))
   exact ⟨_,rem_sm ho ((A0 hv).1.trans (h 17 rfl)) (A0 hv).2 (by omega) (by omega) (by omega),rfl⟩,
  fun σ W g h hp hb=>fun ρ o ho _ hv=>⟨_,F7 _ ho ((A0 hv).1.trans (h 18 rfl)) (A0 hv).2 rfl,rfl⟩,
  fun σ W g h hp hb=>fun ρ o ho _ hv=>⟨_,F7 _ ho ((A0 hv).1.trans (h 20 rfl)) (A0 hv).2 rfl,rfl⟩,
  fun σ W g h hp hb=>by
   have q:=of_decide_eq_true (D8 (h 5 rfl) (hp 5 0 true rfl))
   have a0:=hl _ (dB (l:=l) (k:=k) (by omega))
   have a1:=hl _ (dB (l:=l) (k:=(k+1)%l.length) (Nat.mod_lt _ (by omega)))
   exact (U2 W _ _ _ _ _ c E (h 7 rfl) (h 12 rfl) (h 1 rfl) hE.2 a0.1 a1.1 bc a0.2 a1.2 zc).mono fun _ _ ⟨a,g⟩=>⟨_,a,rfl,g⟩,
  fun σ W g h hp hb=>fun ρ o ho _ hv=>by
   have q:=of_decide_eq_true (D8 (h 5 rfl) (hp 5 0 true rfl))
   have hs:=T8 (B5 (rp (hg l k)) (rp (hg l ((k+1)%l.length))) (rp c))
   exact ⟨_,B8 ho (A0 hv).1 ((A0 hv).2.trans (h 22 rfl)) (mul_sm (by omega) (by omega)),rfl⟩,
  fun σ W g h hp hb=>fun ρ o ho _ hv=>by
   have q:=of_decide_eq_true (D8 (h 5 rfl) (hp 5 0 true rfl))
   have e:(if (if ((qtr (rp c) (rp (hg l ((k+1)%l.length)))-qtr (rp c) (rp (hg l k))+4)%4)=3 then -1 else ((qtr (rp c) (rp (hg l ((k+1)%l.length)))-qtr (rp c) (rp (hg l k))+4)%4))=2 then 2*rsg (B5 (rp (hg l k)) (rp (hg l ((k+1)%l.length))) (rp c)) else (if ((qtr (rp c) (rp (hg l ((k+1)%l.length)))-qtr (rp c) (rp (hg l k))+4)%4)=3 then -1 else ((qtr (rp c) (rp (hg l ((k+1)%l.length)))-qtr (rp c) (rp (hg l k))+4)%4)))=qst (rp c) (pt0 (l.map rp) k) (nxt (l.map rp) k):=by rw [hg_pt l k (by omega),hg_nx l k (by omega)];exact dstep _ _ _
   have b1:=upS_b (rp c) (l.map rp) k
   have b2:=qst_b (rp c) (pt0 (l.map rp) k) (nxt (l.map rp) k)
   exact ⟨_,B8 ho ((A0 hv).1.trans (h 3 rfl)) ((A0 hv).2.trans ((h 24 rfl).trans (congrArg (Value.int .i64) e))) (P8 (by omega) (by omega)),rfl⟩,
  fun σ W g h hp hb=>fun ρ o ho _ hv=>by
   have q:=of_decide_eq_true (D8 (h 5 rfl) (hp 5 0 true rfl))
   exact ⟨_,B8 ho ((A0 hv).1.trans (h 2 rfl).1) (A0 hv).2 (P8 (by omega) (by omega)),rfl⟩,
  fun σ W g h hp hb=>fun ρ o ho _ hv=>by
   have q:=of_decide_eq_false (D8 (h 5 rfl) (hp 5 0 false rfl))
   have hc:=(h 2 rfl).2
   have hk2:k=l.length:=by have:=hc.1;omega
   have hno:¬ OnR (l.map rp) (rp c):=by rintro ⟨i,hi,hin⟩;rw [List.length_map] at hi;exact hc.2 i (by omega) hin
   have e:upS (qst (rp c)) (l.map rp) k=4*winds (l.map rp) (rp c):=by rw [hk2,show l.length=(l.map rp).length by simp,upS_cy];exact eI hno
   have b1:=upS_b (rp c) (l.map rp) k
   exact ⟨_,quo_sm ho ((A0 hv).1.trans ((h 3 rfl).trans (congrArg (Value.int .i64) e))) (A0 hv).2 (by omega) (by omega),rfl⟩,
  trivial⟩)
  (fun k=>⟨fun σ W g h hp=>⟨0,(fun e=>nomatch e),⟨rfl,fun m hm=>(if_neg (by omega)).trans (if_neg (by omega)).symm⟩,⟨rfl,Nat.zero_le _,fun i hi=>absurd hi (Nat.not_lt_zero i)⟩,rfl,trivial⟩,
  fun σ W g h hp=>⟨_,h 5 rfl⟩,
  fun σ W g h hp=>⟨_,h 13 rfl⟩,
  fun σ W g h hp=>⟨_,h 19 rfl⟩,
  fun σ W g h hp=>⟨congrArg (Value.int .i64) (by rw [if_pos (of_decide_eq_true (vBx (h 19 rfl) (hp 19 0 true rfl)))]),trivial⟩,
  fun σ W g h hp=>⟨(h 18 rfl).trans (congrArg (Value.int .i64) (by rw [if_neg (of_decide_eq_false (vBx (h 19 rfl) (hp 19 0 false rfl)))])),trivial⟩,
  fun σ W g h hp=>⟨_,h 21 rfl⟩,
  fun σ W g h hp=>⟨(h 23 rfl).trans (congrArg (Value.int .i64) (by rw [if_pos (of_decide_eq_true (vBx (h 21 rfl) (hp 21 0 true rfl)))])),trivial⟩,
  fun σ W g h hp=>⟨(h 20 rfl).trans (congrArg (Value.int .i64) (by rw [if_neg (of_decide_eq_false (vBx (h 21 rfl) (hp 21 0 false rfl)))])),trivial⟩,
  fun σ W g h hp=>by
   have q:=of_decide_eq_true (D8 (h 5 rfl) (hp 5 0 true rfl))
   have hc:=(h 2 rfl).2
   have hno:=decNo (vBx (h 13 rfl) (hp 13 0 false rfl))
   refine ⟨k+1,fun _=>by show (if 2=2 then l.length-(k+1) else 0)<(if 2=2 then l.length-k else 0);rw [if_pos rfl,if_pos rfl];omega,⟨rfl,fun m hm=>(if_neg (by omega)).trans (if_neg (by omega)).symm⟩,⟨(h 26 rfl).trans (by push_cast;rfl),by omega, ?_⟩,h 25 rfl,trivial⟩
   intro i hi
   by_cases e:i=k
   · rw [e, <- hg_pt l k (by omega), <- hg_nx l k (by omega)];exact hno
   · exact hc.2 i (by omega),
  trivial⟩)
  (fun k hk=>⟨fun τ W g h hp hb=>by
   have q:=of_decide_eq_true (D8 (h 5 rfl) (hp 5 0 true rfl))
   have hin:=decOf (vBx (h 13 rfl) (hp 13 0 true rfl))
   have hon:OnR (l.map rp) (rp c):=⟨k,by rw [List.length_map];exact q,by rw [<- hg_pt l k q, <- hg_nx l k q];exact hin⟩
   exact ⟨by unfold arN;rw [lA hon];rfl,g⟩,
  fun τ W g h hp hb=>by
   have q:=of_decide_eq_false (D8 (h 5 rfl) (hp 5 0 false rfl))
   have hc:=(h 2 rfl).2
   have hno:¬ OnR (l.map rp) (rp c):=by rintro ⟨i,hi,hin⟩;rw [List.length_map] at hi;exact hc.2 i (by omega) hin
   refine ⟨?_,g⟩
   unfold arN
   rw [cD hno,if_neg (by decide)]
   exact congrArg (fun v=>Ending.returned (Value.tuple #[v,.bool false])) (h 27 rfl),
  trivial⟩)
end Go.Proofs.YtninnifpgpjfhaaGreatDoor
namespace Go.Proofs.YtninnifpgpjfhaaGreatDoor
open Go.ChangeShapes Go.WideShapes Go.ChangeAt Go.RowKit Go.ChangeMaps
theorem gQ {W W':World} (h:W.grownBy W' none) {p:MemPlace} (hp:p.block<W.heap.size):W.sameAt W' p:=by
 cases p with
 | cell b o=>exact World.cell?_of_block (w:=W) (h.block b hp (by simp))
 | map b=>exact h.block b hp (by simp)
theorem mG {W W':World} (h:W.grownBy W' none) {b off:Nat} (hp:b<W.heap.size):W'.frozen? ⟨b,off,none⟩=W.frozen? ⟨b,off,none⟩:=by
 unfold World.frozen?
 rw [h.block b hp (by simp)]
theorem post_places {H:Type} {enc:TypeId × Value->H} {P:Program} {f:Func} {s:ChangeSpec} {apart fresh handsOn again:Bool} {W W':World} {args:Array Value} {v:Value} {ds gs:List (DataW H)} {before:List MemPlace}
 (hW:DataW.Whole enc P f.params.toList s.vars apart W args.toList ds gs before)
 (hlt:∀ p ∈ before,p.block<W.heap.size)
 (hres:∀ (b:Nat) (sp:Nat->Bool) (hd:Bool),DataW.TrodAll enc P W' b sp hd f.resultTypes.toList (v.resultList f.resultTypes.size) (s.fn H (ds++gs)).results [])
 (hargs:∀ sp:Nat->Bool,(∀ p ∈ before,sp p.block=true)->DataW.TrodAll enc P W' 0 sp true f.params.toList args.toList (s.fn H (ds++gs)).args before)
 (hvars:∀ sp:Nat->Bool,DataW.TrodVars enc P W' sp s.vars (s.fn H (ds++gs)).vars [])
 (hg:W.grownBy W' none)
 (hok:∀ (j:Nat) (t:TypeId) (r:Value),f.resultTypes[j]?=some t->(v.resultList f.resultTypes.size)[j]?=some r->Value.okWide P W' .any 0 t r) :
 s.post enc P f apart fresh handsOn again W args v W':=by
 have hW2:=hW
 obtain ⟨_,_,_,_,_,hfz,hnd⟩:=hW2
 have hA:=hargs (fun b=>decide (b<W.heap.size)) (fun p hp=>decide_eq_true (hlt p hp))
 refine ⟨ds,gs,before,[],before,[],hW,hres _ _ _,hA,hvars _,World.keptBut_mono (fun p hp=>hp.elim) (jM hg),fun _=>?_⟩
 refine ⟨hok,_,_,before,⟨before,[],trodAll_append (hargs (fun _=>true) (fun _ _=>rfl)) (hres _ _ _),hvars _,(List.append_nil _).symm, ?_,hnd⟩,fun p hp _=>hp⟩
 intro b off hp
 rw [mG hg (show b<W.heap.size from hlt _ hp)]
 exact hfz b off hp
end Go.Proofs.YtninnifpgpjfhaaGreatDoor
namespace Go.Proofs.YtninnifpgpjfhaaGreatDoor
open Go.ChangeShapes Go.WideShapes Go.ChangeAt Go.RowKit Go.ChangeMaps Mat
theorem jS : Tryz.prog.globalNamed "math/bits.deBruijn64tab" = some 2 := by kernel_rfl
theorem tab_typed:(Tryz.prog.globals[2]?).map (·.type)=some 195:=by kernel_rfl
theorem tab_cells:Tryz.prog.cellsOf 195=64:=by kernel_rfl
theorem u8_cells:Tryz.prog.cellsOf 5=1:=by kernel_rfl
theorem tab_of {W : World} (h : laidMetH Tryz.prog [("math/bits.deBruijn64tab", Rows.laid_math_bits_deBruijn64tab)] W) : Tab W := by
 have h1 : Lib.TabIs Tryz.prog W "math/bits.deBruijn64tab" .u8 (Lib.deBruijn64tab.map fun n : Nat => (n : Int)) := Lib.tabIs_of_head (rest := []) jS tab_typed Tryz.underlying195 Tryz.underlying5 u8_cells tab_cells h
 intro j hj
 rw [h1.cell jS j (by simpa using hj)]
 simp [List.getD_eq_getElem?_getD,List.getElem?_map,List.getElem?_eq_getElem hj]
noncomputable def dA (os:Os):World:=
 { World.holding Tryz.prog os ⟨#[], #[],[]⟩ with heap:=(World.holding Tryz.prog os ⟨#[], #[],[]⟩).heap.modify 2 fun
  | .cells _ t frozen => .cells (Lib.deBruijn64tab.map fun z:Nat=>Value.int .u8 (z:Int)).toArray t frozen
  | o=>o }
end Go.Proofs.YtninnifpgpjfhaaGreatDoor
namespace Go.Proofs.YtninnifpgpjfhaaGreatDoor
open Go.ChangeShapes Go.WideShapes Go.ChangeAt Go.RowKit Go.ChangeMaps
section
variable {H:Type} {enc:TypeId × Value->H} {W:World} {sp:Nat->Bool}
theorem gN {n:Int} (h:(Lit.int .i64 n).wf=true) : -9223372036854775808<=n/\n<=9223372036854775807:=by
 simp [Lit.wf,IntKind.min,IntKind.max,IntKind.signed,IntKind.bits] at h
 omega
theorem kR:Tryz.prog.cellsOf 3=1:=by kernel_rfl
theorem dot_cells:Tryz.prog.cellsOf 36=3:=by kernel_rfl
theorem dot_fields:∃ f0 f1 f2:Field,Tryz.prog.underlying 36=some (.struct #[f0,f1,f2])/\f0.offset=0/\f1.offset=1/\f2.offset=2/\f0.type=3/\f1.type=3/\f2.type=3:=⟨_,_,_,Tryz.underlying36,rfl,rfl,rfl,rfl,rfl,rfl⟩
theorem open_dot {b0:Nat} {r:Reach} {v:Value} {d:DataW H} {p:List MemPlace} (hval:Value.okWide Tryz.prog W r b0 36 v) (h:DataW.Trod enc Tryz.prog W 0 sp true 36 v d p) :
 ∃ x y z:Int,v = .agg #[.int .i64 x,.int .i64 y,.int .i64 z]/\(-9223372036854775808<=x/\x<=9223372036854775807)/\(-9223372036854775808<=y/\y<=9223372036854775807)/\(-9223372036854775808<=z/\z<=9223372036854775807):=by
 obtain ⟨cs,rfl,hcs⟩:=okWide_struct Tryz.underlying36 hval
 rw [dot_cells] at hcs
 obtain ⟨n,hn⟩:=h
 obtain ⟨f0,f1,f2,he,o0,o1,o2,t0,t1,t2⟩:=dot_fields
 obtain ⟨xs,k',_,_,_,hxl,hf⟩:=DataW.trod_struct he hn
 obtain ⟨l0,rfl⟩:∃ l0:List Value,cs=l0.toArray:=⟨cs.toList,by simp⟩
 have hl0:l0.length=3:=by simpa using hcs
 match xs,hxl,l0,hl0 with
 | [y0,y1,y2],_,[v0,v1,v2],_=>
   have g0:=hf 0 f0 rfl
   have g1:=hf 1 f1 rfl
   have g2:=hf 2 f2 rfl
   simp [o0,o1,o2,t0,t1,t2,kR,Value.cells] at g0 g1 g2
   obtain ⟨x0,hx0,_,w0⟩:=DataW.trod_int Tryz.underlying3 g0
   obtain ⟨x1,hx1,_,w1⟩:=DataW.trod_int Tryz.underlying3 g1
   obtain ⟨x2,hx2,_,w2⟩:=DataW.trod_int Tryz.underlying3 g2
   simp at hx0 hx1 hx2
   subst hx0;subst hx1;subst hx2
   exact ⟨x0,x1,x2,rfl,gN w0,gN w1,gN w2⟩
theorem pt_cells:Tryz.prog.cellsOf 60=2:=by kernel_rfl
theorem pt_fields:∃ f0 f1:Field,Tryz.prog.underlying 60=some (.struct #[f0,f1])/\f0.offset=0/\f1.offset=1/\f0.type=3/\f1.type=3:=⟨_,_,Tryz.underlying60,rfl,rfl,rfl,rfl⟩
end
end Go.Proofs.YtninnifpgpjfhaaGreatDoor
namespace Go.Proofs.YtninnifpgpjfhaaGreatDoor
open Go.ChangeShapes Go.WideShapes Go.ChangeAt Go.RowKit Go.ChangeMaps Go.Deep
section
variable {H:Type} {enc:TypeId × Value->H} {W:World} {sp:Nat->Bool}
theorem cell_spot {w:World} {a:Addr} {v:Value} (h:w.cell? a=some v):a.spot=none:=by
 unfold World.cell? at h
 cases hs:a.spot with
 | none=>rfl
 | some x=>rw [hs] at h;revert h;cases w.heap[a.block]? with
   | none=>intro h;cases h
   | some o=>cases o<;>simp
end
section
variable {H:Type} {enc:TypeId × Value->H} {W:World} {sp:Nat->Bool}
theorem open_gs {a0:Option Addr} {len cap:Nat} {d:DataW H} {p:List MemPlace} (h:DataW.Trod enc Tryz.prog W 0 sp true 53 (.slice a0 len cap) d p) :
 ∃ l:List G2,GsV W.heap.size W (.slice a0 len cap) l /\ ∀ d ∈ l,eK d:=by
 obtain ⟨n,hn⟩:=h
 rcases open_slice Tryz.underlying53 hn with ⟨hcs,_⟩ | ⟨a,ln,cp,m,k,D,Pl,hcs,_,hl,hm,hmm,_,hx⟩
 · simp [Value.cells] at hcs
   obtain ⟨rfl,rfl,rfl⟩:=hcs
   exact ⟨[],⟨none,0,0,rfl,rfl,Nat.le_refl _,.inl rfl⟩,fun d hd=>by cases hd⟩
 · simp [Value.cells] at hcs
   obtain ⟨rfl,rfl,rfl⟩:=hcs
   have hlm:len<=m:=by rw [hmm];split<;>omega
   obtain ⟨f0,f1,he,o0,o1,t0,t1⟩:=pt_fields
   have each:∀ i,i<len -> ∃ q:G2,W.cell? (a.add (i*2))=some (.int .i64 q.1)/\W.cell? (a.add (i*2+1))=some (.int .i64 q.2)/\eK q:=fun i hi=>by
    obtain ⟨cs',h1,h2⟩:=hx i (by omega)
    rw [pt_cells] at h1
    obtain ⟨_,hlen,hcell⟩:=World.cells?_some h1
    obtain ⟨xs,k',_,_,_,hxl,hf⟩:=DataW.trod_struct he h2
    match xs,hxl,cs',hlen with
    | [y0,y1],_,[v0,v1],_=>
      have g0:=hf 0 f0 rfl
      have g1:=hf 1 f1 rfl
      simp [o0,o1,t0,t1,kR] at g0 g1
      have e0:=hcell 0 (by omega)
      have e1:=hcell 1 (by omega)
      rw [Go.Deep.add_add] at e0 e1
      obtain ⟨x0,hx0,_,w0⟩:=DataW.trod_int Tryz.underlying3 g0
      obtain ⟨x1,hx1,_,w1⟩:=DataW.trod_int Tryz.underlying3 g1
      simp at hx0 hx1
      subst hx0;subst hx1
      exact ⟨(x0,x1),by simpa using e0,by simpa using e1,gN w0,gN w1⟩
   obtain ⟨q,hq⟩:=choose_lt (α:=G2) each
   refine ⟨(List.range len).map q,⟨some a,len,cap,rfl,by simp,hl, ?_⟩,fun d hd=>?_⟩
   · by_cases h0:len=0
     · subst h0;exact .inl rfl
     · obtain ⟨c0,_⟩:=hq 0 (by omega)
       obtain ⟨b,off,spot⟩:=a
       have hs:=cell_spot c0
       have hs:spot=none:=by simpa [Addr.add] using hs
       subst hs
       refine .inr ⟨b,off,rfl, ?_,fun i hi=>?_⟩
       · rw [Addr.add_lit] at c0;exact Z9 c0
       · have hi:i<len:=by simpa using hi
         obtain ⟨c0,c1,_⟩:=hq i hi
         rw [Addr.add_lit] at c0 c1
         rw [Nat.mul_comm] at c0 c1
         simp only [List.getElem_map,List.getElem_range]
         exact ⟨c0,c1⟩
   · obtain ⟨i,hi,rfl⟩:=List.mem_map.1 hd
     exact (hq i (by simpa using hi)).2.2
end
end Go.Proofs.YtninnifpgpjfhaaGreatDoor
