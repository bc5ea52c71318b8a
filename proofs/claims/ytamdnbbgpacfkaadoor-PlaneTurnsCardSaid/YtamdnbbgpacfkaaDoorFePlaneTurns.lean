/- PlaneTurns: whatever the points, Cross turns its sign and stays as the chapter says, and areas turn their sign and stay: the law returns true and leaves its arguments. No condition. -/
import Derived.Below
import Derived.BigCall
import Derived.BigQuiet
import Derived.BigRegion
import Derived.ChangeOld
import Derived.Deep.AppendLies
import Derived.Deep.CutBlock
import Derived.Deep.CutRange
import Derived.Deep.DeepCutAuto
import Derived.Deep.DeepHandedRow
import Derived.Deep.LoopGhost
import Derived.Deep.MidRow
import Derived.Deep.QuietTactic
import Derived.Deep.RegionHeld3
import Derived.Deep.RegionLaw
import Derived.Deep.Slices
import Derived.Deep.Strs
import Derived.Deep.WholeRow
import Derived.Laws.AppendOwn
import Derived.Laws.Concat
import Derived.Laws.CopyOwn
import Derived.Laws.Externs
import Derived.Laws.IdiomStrings
import Derived.Lib.BitFns
import Derived.Lib.Bytealg
import Derived.Lib.Hide
import Derived.Lib.LaidTab
import Derived.Lib.Slices
import Derived.Lib.Small
import Derived.Lib.Strings
import Derived.Lib.Walk
import Derived.LoopIn
import Derived.LoopN
import Derived.LoopNIn
import Derived.Maps.AppendAt
import Derived.OpenShut
import Derived.OrdersHeld
import Derived.OrdersIn
import Derived.Outline
import Derived.OwnWalk
import Derived.OwnWalkIn
import Derived.ProofKit
import Derived.RangeFuncBound
import Derived.RangeFuncCalls
import Derived.RangeFuncLeaves
import Derived.RangeFuncNested
import Derived.RangeFuncOwn
import Derived.Shelf.Abstract
import Derived.Shelf.Bits.Mul64
import Derived.Shelf.RegionOpen
import Derived.Shelf.Spec.TrailingZeros
import Derived.StillTailTactics
import Derived.TacticsInMore
import Derived.WalkKit
import Derived.WalkLawsBesides
import Derived.WalkSpells
import Derived.WideKeyArgs
import Derived.Test.YtamdnbbgpacfkaaDoorCards
import Derived.Test.YtamdnbbgpacfkaaDoorProg
import Derived.Test.YtamdnbbgpacfkaaDoorRows
import Derived.Test.YtamdnbbgpacfkaaDoorTie
import Derived.Test.YtamdnbbgpacfkaaDoorMe19
set_option linter.unusedVariables false
set_option linter.unusedSimpArgs false
set_option maxRecDepth 100000
namespace Go.Proofs.YtamdnbbgpacfkaaDoor
open Go.RowKit Mat Ex PM
theorem qB (a b c:Pq):A3 a b c=A3 b c a:=by simp only [A3];grind
theorem mP (a b c:Pq):A3 a b c = - A3 b a c:=by simp only [A3];grind
theorem qA (a b c d:Pq):A3 a b d+A3 b c d+A3 c a d=A3 a b c:=by simp only [A3];grind
theorem N0:∃ i z,Tryd.prog.info? kPt.T=some i/\i.zero=some z/\i.size=kPt.z/\i.bytes<=1000000/\z.cells.size=kPt.z:=lW 33 8 (by kernel_rfl)
theorem jR {W:World} {cs:List Value} {p:Pq} (h:kPt.A W cs p):∀ u ∈ cs,u.oneCell'=true:=by
 have h:PtV W (.agg cs.toArray) p:=h
 have h0:=h
 obtain ⟨a,b,c,d,e,f,g,i,e1,h1,h2⟩:=h
 injection e1 with e1
 obtain rfl:cs=[a,b,c,d,e,f,g,i]:=congrArg Array.toList e1
 exact h0.one
theorem rR {l:List Pq} {i:Nat} (h:i<l.length):l.getD i (0,0)=l[i]:=by simp [h]
theorem qI {l:List Pq} (h : 0<l.length):E1 (l.drop 1++[l.getD 0 (0,0)])=E1 l:=by
 cases l with
 | nil=>simp at h
 | cons p l=>exact areaP_turn p l
theorem trn_b {l:List Pq} (h:∀ p ∈ l,Bp 1 p) (h0 : 0<l.length):∀ p ∈ l.drop 1++[l.getD 0 (0,0)],Bp 1 p:=by
 intro p hp
 rcases List.mem_append.1 hp with hp | hp
 · exact h p (List.mem_of_mem_drop hp)
 · rw [List.mem_singleton.1 hp,rR h0];exact h _ (List.getElem_mem h0)
theorem OwV.cellK {α : Type} {k:N9 α} {base:Nat} {W:World} {v:Value} {l:List α} (h:OwV k base W v l):v.oneCell'=true:=by
 obtain ⟨s,n,c,rfl,_⟩:=h.rwV;rfl
def sAb (B:Option Nat) (p:Pq):Sp where
 sh := .one
 F v W:=AtV W v p /\ ∀ q,fpP v q->B=some q
 fits v W h:=(sAt p).fits v W h.1
 row:=true
 fp v _ q:=fpP v q
 lasts v W W' k hq h:=by
  obtain ⟨h1,h2⟩:=(sAt p).lasts v W W' k hq h.1
  exact ⟨⟨h1,h.2⟩,h2⟩
 inb v W h:=(sAt p).inb v W h.1
 flat h:=by cases h
set_option maxHeartbeats 4000000 in
theorem jE (w:World) (x0 y0 d0 x1 y1 d1 x2 y2 d2 x3 y3 d3:Int) (va:Value) (l:List Dt3) (a0 : -9223372036854775808<=x0) (b0:x0<=9223372036854775807) (c0 : -9223372036854775808<=y0) (e0:y0<=9223372036854775807) (a1 : -9223372036854775808<=x1) (b1:x1<=9223372036854775807) (c1 : -9223372036854775808<=y1) (e1:y1<=9223372036854775807) (a2 : -9223372036854775808<=x2) (b2:x2<=9223372036854775807) (c2 : -9223372036854775808<=y2) (e2:y2<=9223372036854775807) (a3 : -9223372036854775808<=x3) (b3:x3<=9223372036854775807) (c3 : -9223372036854775808<=y3) (e3:y3<=9223372036854775807) (Ha:DtsV w.heap.size w va l) (hL:∀ d ∈ l,Small d) (hTab:Tab w) :
 Calls Tryd.prog 3 #[.agg #[.int .i64 x0,.int .i64 y0,.int .i64 d0],.agg #[.int .i64 x1,.int .i64 y1,.int .i64 d1],.agg #[.int .i64 x2,.int .i64 y2,.int .i64 d2],.agg #[.int .i64 x3,.int .i64 y3,.int .i64 d3],va] w (fun e w'=>e = .returned (.bool true)/\w.grownBy w' none):=by
 rcases (show 0<l.length\/l.length=0 by omega) with hl | hl
 · skip
   refine G6 B3 Tryd.func3 [sDt x0 y0 d0,sDt x1 y1 d1,sDt x2 y2 d2,sDt x3 y3 d3,sDts w.heap.size l] (fun x:Nat × Option Nat × Option Nat × Option Nat=>(sPt (lat x0 y0 d0) :: sPt (lat x1 y1 d1) :: sPt (lat x2 y2 d2) :: sPt (lat x3 y3 d3) :: sQ (A3 (lat x0 y0 d0) (lat x1 y1 d1) (lat x2 y2 d2)) :: sV (.bool true) :: sQ (A3 (lat x1 y1 d1) (lat x2 y2 d2) (lat x0 y0 d0)) :: sZ (G4 (A3 (lat x0 y0 d0) (lat x1 y1 d1) (lat x2 y2 d2)) (A3 (lat x1 y1 d1) (lat x2 y2 d2) (lat x0 y0 d0))) :: sV (.bool false) :: sQ (A3 (lat x1 y1 d1) (lat x0 y0 d0) (lat x2 y2 d2)) :: sQ (-(A3 (lat x1 y1 d1) (lat x0 y0 d0) (lat x2 y2 d2))) :: sZ (G4 (A3 (lat x0 y0 d0) (lat x1 y1 d1) (lat x2 y2 d2)) (-(A3 (lat x1 y1 d1) (lat x0 y0 d0) (lat x2 y2 d2)))) :: sV (.bool false) :: sQ (A3 (lat x0 y0 d0) (lat x1 y1 d1) (lat x3 y3 d3)) :: sQ (A3 (lat x1 y1 d1) (lat x2 y2 d2) (lat x3 y3 d3)) :: sQ ((A3 (lat x0 y0 d0) (lat x1 y1 d1) (lat x3 y3 d3))+(A3 (lat x1 y1 d1) (lat x2 y2 d2) (lat x3 y3 d3))) :: sQ (A3 (lat x2 y2 d2) (lat x0 y0 d0) (lat x3 y3 d3)) :: sQ (((A3 (lat x0 y0 d0) (lat x1 y1 d1) (lat x3 y3 d3))+(A3 (lat x1 y1 d1) (lat x2 y2 d2) (lat x3 y3 d3)))+(A3 (lat x2 y2 d2) (lat x0 y0 d0) (lat x3 y3 d3))) :: sZ (G4 (((A3 (lat x0 y0 d0) (lat x1 y1 d1) (lat x3 y3 d3))+(A3 (lat x1 y1 d1) (lat x2 y2 d2) (lat x3 y3 d3)))+(A3 (lat x2 y2 d2) (lat x0 y0 d0) (lat x3 y3 d3))) (A3 (lat x0 y0 d0) (lat x1 y1 d1) (lat x2 y2 d2))) :: sV (.bool false) :: sZc (x.1<=40/\x.1<=l.length) (x.1:Int) :: sOa false kPt w.heap.size (fun o=>o=x.2.1) (lp (l.take x.1)) :: sOa false kPt w.heap.size (fun o=>o=x.2.2.1/\(o=none\/o≠x.2.1)) (lp (l.take x.1)).reverse :: sBq (decide (x.1<l.length)) :: sZ l.length :: sV (.bool true) :: sBq (decide (x.1<40)) :: sZ l.length :: sV (.bool false) :: sDa w.heap.size (dg l x.1) :: sDt (dg l x.1).1 (dg l x.1).2.1 (dg l x.1).2.2 :: sPt (lat (dg l x.1).1 (dg l x.1).2.1 (dg l x.1).2.2) :: sOa false kPt w.heap.size (fun _=>True) (lp (l.take (x.1+1))) :: sOa false kPt w.heap.size (fun o=>o=x.2.2.2) (lp (l.take (x.1+1))) :: sDa w.heap.size (dg l x.1) :: sDt (dg l x.1).1 (dg l x.1).2.1 (dg l x.1).2.2 :: sPt (lat (dg l x.1).1 (dg l x.1).2.1 (dg l x.1).2.2) :: sOa true kPt w.heap.size (fun o=>o≠none/\o≠x.2.1/\o≠x.2.2.1/\o≠x.2.2.2) [(lat (dg l x.1).1 (dg l x.1).2.1 (dg l x.1).2.2)] :: sOa false kPt w.heap.size (fun o=>o≠none/\o≠x.2.2.2) ((lat (dg l x.1).1 (dg l x.1).2.1 (dg l x.1).2.2) :: (lp (l.take x.1)).reverse) :: sZ ((x.1:Int)+1) :: sZ ((lp (l.take x.1))).length :: sV (.bool true) :: sOe kPt w.heap.size (fun o=>o≠none/\o≠x.2.1/\o≠x.2.2.1) [] :: sRw kPt (by decide) x.2.1 (((lp (l.take x.1))).drop 1) :: sOa true kPt w.heap.size (fun o=>o≠none/\o≠x.2.1/\o≠x.2.2.1) (((lp (l.take x.1))).drop 1) :: sAb x.2.1 (((lp (l.take x.1))).getD 0 (0,0)) :: sPt (((lp (l.take x.1))).getD 0 (0,0)) :: sOa false kPt w.heap.size (fun _=>True) (((lp (l.take x.1))).drop 1++[((lp (l.take x.1))).getD 0 (0,0)]) :: sQ (E1 (lp (l.take x.1))) :: sQ (E1 (lp (l.take x.1)).reverse) :: sQ (-E1 (lp (l.take x.1)).reverse) :: sZ (G4 (E1 (lp (l.take x.1))) (-E1 (lp (l.take x.1)).reverse)) :: sV (.bool true) :: sQ (E1 (lp (l.take x.1))) :: sQ (E1 (((lp (l.take x.1))).drop 1++[((lp (l.take x.1))).getD 0 (0,0)])) :: sZ (G4 (E1 (lp (l.take x.1))) (E1 (((lp (l.take x.1))).drop 1++[((lp (l.take x.1))).getD 0 (0,0)]))) :: sV (.bool true) :: sZ ((lp (l.take x.1))).length :: sV (.bool true) :: sOe kPt w.heap.size (fun o=>o≠none/\o≠x.2.1/\o≠x.2.2.1) [] :: sRw kPt (by decide) x.2.1 (((lp (l.take x.1))).drop 1) :: sOa true kPt w.heap.size (fun o=>o≠none/\o≠x.2.1/\o≠x.2.2.1) (((lp (l.take x.1))).drop 1) :: sAb x.2.1 (((lp (l.take x.1))).getD 0 (0,0)) :: sPt (((lp (l.take x.1))).getD 0 (0,0)) :: sOa false kPt w.heap.size (fun _=>True) (((lp (l.take x.1))).drop 1++[((lp (l.take x.1))).getD 0 (0,0)]) :: sQ (E1 (lp (l.take x.1))) :: sQ (E1 (lp (l.take x.1)).reverse) :: sQ (-E1 (lp (l.take x.1)).reverse) :: sZ (G4 (E1 (lp (l.take x.1))) (-E1 (lp (l.take x.1)).reverse)) :: sV (.bool true) :: sQ (E1 (lp (l.take x.1))) :: sQ (E1 (((lp (l.take x.1))).drop 1++[((lp (l.take x.1))).getD 0 (0,0)])) :: sZ (G4 (E1 (lp (l.take x.1))) (E1 (((lp (l.take x.1))).drop 1++[((lp (l.take x.1))).getD 0 (0,0)]))) :: sV (.bool true) :: [])) (fun m x=>if m=25 then 40-x.1 else 0) ((0,none,none,none)) (fun _=>rfl) [1000000,7,2000010,3000037] [some [[.t 72,.t 73,.t 74,.t 75,.t 76,.t 77,.t 78,.t 79,.t 80,.t 81,.t 82,.t 83,.t 84,.t 85,.t 86,.t 87,.t 88,.t 89,.t 90,.t 91,.t 92,.t 93,.t 94,.t 95,.t 96,.t 97],[.t 19],[.t 16],[.t 17]],none,some [[],[.t 16]]] (.cons rfl (.cons rfl (.cons rfl (.cons rfl (.cons Ha .nil))))) (rs:=((cl 5 6 [ag 3 0],[]) :: (cl 6 6 [ag 3 1],[]) :: (cl 7 6 [ag 3 2],[]) :: (cl 8 6 [ag 3 3],[]) :: (cl 9 7 [ag 8 5,ag 8 6,ag 8 7],[]) :: (cl 10 8 [],[]) :: (cl 11 7 [ag 8 6,ag 8 7,ag 8 5],[]) :: (cl 12 9 [ag 4 9,ag 4 11],[]) :: (co 13 (.binOp .neq 3 (.tmp 40) (.const (.int .i64 0)) 3) 4 [on 12,.v false [.lit (.int .i64 0)]] [0,1,2,3,4,5,6,7,8,9,10,11,12] [],[]) :: (cl 14 7 [ag 8 6,ag 8 5,ag 8 7],[]) :: (cl 15 10 [ag 4 14],[]) :: (cl 16 9 [ag 4 9,ag 4 15],[]) :: (co 17 (.binOp .neq 3 (.tmp 50) (.const (.int .i64 0)) 3) 4 [on 16,.v false [.lit (.int .i64 0)]] [0,1,2,3,4,5,6,7,8,9,10,11,12,13,14,15,16] [],[]) :: (cl 18 7 [ag 8 5,ag 8 6,ag 8 8],[]) :: (cl 19 7 [ag 8 6,ag 8 7,ag 8 8],[]) :: (cl 20 11 [ag 4 18,ag 4 19],[]) :: (cl 21 7 [ag 8 7,ag 8 5,ag 8 8],[]) :: (cl 22 11 [ag 4 20,ag 4 21],[]) :: (cl 23 9 [ag 4 22,ag 4 9],[]) :: (co 24 (.binOp .neq 3 (.tmp 69) (.const (.int .i64 0)) 3) 4 [on 23,.v false [.lit (.int .i64 0)]] [0,1,2,3,4,5,6,7,8,9,10,11,12,13,14,15,16,17,18,19,20,21,22,23] [],[]) :: (co 29 (.call ⟨.builtin .len, #[(.tmp 73)], #[24]⟩) 3 [on 4] [0,1,2,3,4,5,6,7,8,9,10,11,12,13,14,15,16,17,18,19,20,21,22,23,24,25,26,27,28] [],[(28,0,true)]) :: (co 30 (.binOp .lss 3 (.tmp 72) (.tmp 74) 3) 4 [on 25,on 29] [0,1,2,3,4,5,6,7,8,9,10,11,12,13,14,15,16,17,18,19,20,21,22,23,24,25,26,27,28,29] [],[(28,0,true)]) :: (co 31 (.binOp .lss 3 (.tmp 77) (.const (.int .i64 40)) 3) 4 [on 25,.v false [.lit (.int .i64 40)]] [0,1,2,3,4,5,6,7,8,9,10,11,12,13,14,15,16,17,18,19,20,21,22,23,24,25,26,27,28,29,30] [],[(28,0,true)]) :: (co 32 (.call ⟨.builtin .len, #[(.tmp 73)], #[24]⟩) 3 [on 4] [0,1,2,3,4,5,6,7,8,9,10,11,12,13,14,15,16,17,18,19,20,21,22,23,24,25,26,27,28] [],[(28,0,false)]) :: (co 33 (.binOp .lss 3 (.tmp 72) (.tmp 74) 3) 4 [on 25,on 32] [0,1,2,3,4,5,6,7,8,9,10,11,12,13,14,15,16,17,18,19,20,21,22,23,24,25,26,27,28,32] [],[(28,0,false)]) :: (co 34 (.indexAddr 24 (.tmp 83) (.tmp 84)) 0 [on 4,on 25] [0,1,2,3,4,5,6,7,8,9,10,11,12,13,14,15,16,17,18,19,20,21,22,23,24,25,26,27,28,29,30,31] [],[(31,0,true),(28,0,true)]) :: (co 35 (.load 23 (.tmp 85)) 23 [on 34] [0,1,2,3,4,5,6,7,8,9,10,11,12,13,14,15,16,17,18,19,20,21,22,23,24,25,26,27,28,29,30,31,34] [],[(31,0,true),(28,0,true)]) :: (cla 36 6 [ag 3 35] [0,1,2,3,4,5,6,7,8,9,10,11,12,13,14,15,16,17,18,19,20,21,22,23,24,25,26,27,28,29,30,31,34,35],[(31,0,true),(28,0,true)]) :: (cow 37 (.call ⟨.builtin .append, #[(.tmp 82),(.tmp 88)], #[40,40]⟩) 40 [on 26,.v false [.row 9 0 1 1]] [0,1,2,3,4,5,6,7,8,9,10,11,12,13,14,15,16,17,18,19,20,21,22,23,24,25,26,27,28,29,30,31,34,35,36] [(9,33,[.an 36 0,.an 36 1,.an 36 2,.an 36 3,.an 36 4,.an 36 5,.an 36 6,.an 36 7])],[(31,0,true),(28,0,true)]) :: (co 39 (.indexAddr 24 (.tmp 90) (.tmp 91)) 0 [on 4,on 25] [0,1,2,3,4,5,6,7,8,9,10,11,12,13,14,15,16,17,18,19,20,21,22,23,24,25,26,27,28,29,30,31,34,35,36,38] [],[(31,0,true),(28,0,true)]) :: (co 40 (.load 23 (.tmp 92)) 23 [on 39] [0,1,2,3,4,5,6,7,8,9,10,11,12,13,14,15,16,17,18,19,20,21,22,23,24,25,26,27,28,29,30,31,34,35,36,38,39] [],[(31,0,true),(28,0,true)]) :: (cla 41 6 [ag 3 40] [0,1,2,3,4,5,6,7,8,9,10,11,12,13,14,15,16,17,18,19,20,21,22,23,24,25,26,27,28,29,30,31,34,35,36,38,39,40],[(31,0,true),(28,0,true)]) :: (cog 42 (.buildSlice 40 1 #[(0,Operand.tmp 94)]) 40 [ag 8 41] [0,1,2,3,4,5,6,7,8,9,10,11,12,13,14,15,16,17,18,19,20,21,22,23,24,25,26,27,28,29,30,31,34,35,36,38,39,40,41] [],[(31,0,true),(28,0,true)]) :: (cow 43 (.call ⟨.builtin .append, #[(.tmp 95),(.tmp 96)], #[40,40]⟩) 40 [on 42,on 27] [0,1,2,3,4,5,6,7,8,9,10,11,12,13,14,15,16,17,18,19,20,21,22,23,24,25,26,27,28,29,30,31,34,35,36,38,39,40,41,42] [],[(31,0,true),(28,0,true)]) :: (co 44 (.binOp .add 3 (.tmp 80) (.const (.int .i64 1)) 3) 3 [on 25,.v false [.lit (.int .i64 1)]] [0,1,2,3,4,5,6,7,8,9,10,11,12,13,14,15,16,17,18,19,20,21,22,23,24,25,26,27,28,29,30,31,34,35,36,38,39,40,41,42,43] [],[(31,0,true),(28,0,true)]) :: (co 45 (.call ⟨.builtin .len, #[(.tmp 98)], #[40]⟩) 3 [on 26] [0,1,2,3,4,5,6,7,8,9,10,11,12,13,14,15,16,17,18,19,20,21,22,23,24,25,26,27,28,29,30,31] [],[(31,0,false),(28,0,true)]) :: (co 46 (.binOp .gtr 3 (.tmp 99) (.const (.int .i64 0)) 3) 4 [on 45,.v false [.lit (.int .i64 0)]] [0,1,2,3,4,5,6,7,8,9,10,11,12,13,14,15,16,17,18,19,20,21,22,23,24,25,26,27,28,29,30,31,45] [],[(31,0,false),(28,0,true)]) :: (cog 47 (.buildSlice 40 0 #[]) 40 [] [0,1,2,3,4,5,6,7,8,9,10,11,12,13,14,15,16,17,18,19,20,21,22,23,24,25,26,27,28,29,30,31,45,46] [],[(31,0,false),(28,0,true)]) :: (co 48 (.slice 40 (.tmp 102) (some (.const (.int .i64 1))) none none) 40 [on 26,.v false [.lit (.int .i64 1)]] [0,1,2,3,4,5,6,7,8,9,10,11,12,13,14,15,16,17,18,19,20,21,22,23,24,25,26,27,28,29,30,31,45,46] [],[(31,0,false),(28,0,true)]) :: (cog 49 (.call ⟨.builtin .append, #[(.tmp 101),(.tmp 103)], #[40,40]⟩) 40 [on 47,on 48] [0,1,2,3,4,5,6,7,8,9,10,11,12,13,14,15,16,17,18,19,20,21,22,23,24,25,26,27,28,29,30,31,45,46,47,48] [],[(31,0,false),(28,0,true)]) :: (co 50 (.indexAddr 40 (.tmp 105) (.const (.int .i64 0))) 0 [on 26,.v false [.lit (.int .i64 0)]] [0,1,2,3,4,5,6,7,8,9,10,11,12,13,14,15,16,17,18,19,20,21,22,23,24,25,26,27,28,29,30,31,45,46] [],[(31,0,false),(28,0,true)]) :: (co 51 (.load 33 (.tmp 106)) 33 [on 50] [0,1,2,3,4,5,6,7,8,9,10,11,12,13,14,15,16,17,18,19,20,21,22,23,24,25,26,27,28,29,30,31,45,46,50] [],[(31,0,false),(28,0,true)]) :: (cow 52 (.call ⟨.builtin .append, #[(.tmp 104),(.tmp 108)], #[40,40]⟩) 40 [on 49,.v false [.row 10 0 1 1]] [0,1,2,3,4,5,6,7,8,9,10,11,12,13,14,15,16,17,18,19,20,21,22,23,24,25,26,27,28,29,30,31,45,46,47,48,49,50,51] [(10,33,[.an 51 0,.an 51 1,.an 51 2,.an 51 3,.an 51 4,.an 51 5,.an 51 6,.an 51 7])],[(31,0,false),(28,0,true)]) :: (cla 53 12 [on 26] [0,1,2,3,4,5,6,7,8,9,10,11,12,13,14,15,16,17,18,19,20,21,22,23,24,25,26,27,28,29,30,31,45,46,47,48,49,50,51,52],[(31,0,false),(28,0,true)]) :: (cla 54 12 [on 27] [0,1,2,3,4,5,6,7,8,9,10,11,12,13,14,15,16,17,18,19,20,21,22,23,24,25,26,27,28,29,30,31,45,46,47,48,49,50,51,52,53],[(31,0,false),(28,0,true)]) :: (cla 55 10 [ag 4 54] [0,1,2,3,4,5,6,7,8,9,10,11,12,13,14,15,16,17,18,19,20,21,22,23,24,25,26,27,28,29,30,31,45,46,47,48,49,50,51,52,53,54],[(31,0,false),(28,0,true)]) :: (cla 56 9 [ag 4 53,ag 4 55] [0,1,2,3,4,5,6,7,8,9,10,11,12,13,14,15,16,17,18,19,20,21,22,23,24,25,26,27,28,29,30,31,45,46,47,48,49,50,51,52,53,54,55],[(31,0,false),(28,0,true)]) :: (co 57 (.binOp .eql 3 (.tmp 115) (.const (.int .i64 0)) 3) 4 [on 56,.v false [.lit (.int .i64 0)]] [0,1,2,3,4,5,6,7,8,9,10,11,12,13,14,15,16,17,18,19,20,21,22,23,24,25,26,27,28,29,30,31,45,46,47,48,49,50,51,52,53,54,55,56] [],[(31,0,false),(28,0,true)]) :: (cla 58 12 [on 26] [0,1,2,3,4,5,6,7,8,9,10,11,12,13,14,15,16,17,18,19,20,21,22,23,24,25,26,27,28,29,30,31,45,46,47,48,49,50,51,52,53,54,55,56,57],[(31,0,false),(28,0,true)]) :: (cla 59 12 [on 52] [0,1,2,3,4,5,6,7,8,9,10,11,12,13,14,15,16,17,18,19,20,21,22,23,24,25,26,27,28,29,30,31,45,46,47,48,49,50,51,52,53,54,55,56,57,58],[(31,0,false),(28,0,true)]) :: (cla 60 9 [ag 4 58,ag 4 59] [0,1,2,3,4,5,6,7,8,9,10,11,12,13,14,15,16,17,18,19,20,21,22,23,24,25,26,27,28,29,30,31,45,46,47,48,49,50,51,52,53,54,55,56,57,58,59],[(31,0,false),(28,0,true)]) :: (co 61 (.binOp .eql 3 (.tmp 122) (.const (.int .i64 0)) 3) 4 [on 60,.v false [.lit (.int .i64 0)]] [0,1,2,3,4,5,6,7,8,9,10,11,12,13,14,15,16,17,18,19,20,21,22,23,24,25,26,27,28,29,30,31,45,46,47,48,49,50,51,52,53,54,55,56,57,58,59,60] [],[(31,0,false),(28,0,true)]) :: (co 62 (.call ⟨.builtin .len, #[(.tmp 98)], #[40]⟩) 3 [on 26] [0,1,2,3,4,5,6,7,8,9,10,11,12,13,14,15,16,17,18,19,20,21,22,23,24,25,26,27,28,32,33] [],[(28,0,false)]) :: (co 63 (.binOp .gtr 3 (.tmp 99) (.const (.int .i64 0)) 3) 4 [on 62,.v false [.lit (.int .i64 0)]] [0,1,2,3,4,5,6,7,8,9,10,11,12,13,14,15,16,17,18,19,20,21,22,23,24,25,26,27,28,32,33,62] [],[(28,0,false)]) :: (cog 64 (.buildSlice 40 0 #[]) 40 [] [0,1,2,3,4,5,6,7,8,9,10,11,12,13,14,15,16,17,18,19,20,21,22,23,24,25,26,27,28,32,33,62,63] [],[(28,0,false)]) :: (co 65 (.slice 40 (.tmp 102) (some (.const (.int .i64 1))) none none) 40 [on 26,.v false [.lit (.int .i64 1)]] [0,1,2,3,4,5,6,7,8,9,10,11,12,13,14,15,16,17,18,19,20,21,22,23,24,25,26,27,28,32,33,62,63] [],[(28,0,false)]) :: (cog 66 (.call ⟨.builtin .append, #[(.tmp 101),(.tmp 103)], #[40,40]⟩) 40 [on 64,on 65] [0,1,2,3,4,5,6,7,8,9,10,11,12,13,14,15,16,17,18,19,20,21,22,23,24,25,26,27,28,32,33,62,63,64,65] [],[(28,0,false)]) :: (co 67 (.indexAddr 40 (.tmp 105) (.const (.int .i64 0))) 0 [on 26,.v false [.lit (.int .i64 0)]] [0,1,2,3,4,5,6,7,8,9,10,11,12,13,14,15,16,17,18,19,20,21,22,23,24,25,26,27,28,32,33,62,63] [],[(28,0,false)]) :: (co 68 (.load 33 (.tmp 106)) 33 [on 67] [0,1,2,3,4,5,6,7,8,9,10,11,12,13,14,15,16,17,18,19,20,21,22,23,24,25,26,27,28,32,33,62,63,67] [],[(28,0,false)]) :: (cow 69 (.call ⟨.builtin .append, #[(.tmp 104),(.tmp 108)], #[40,40]⟩) 40 [on 66,.v false [.row 11 0 1 1]] [0,1,2,3,4,5,6,7,8,9,10,11,12,13,14,15,16,17,18,19,20,21,22,23,24,25,26,27,28,32,33,62,63,64,65,66,67,68] [(11,33,[.an 68 0,.an 68 1,.an 68 2,.an 68 3,.an 68 4,.an 68 5,.an 68 6,.an 68 7])],[(28,0,false)]) :: (cla 70 12 [on 26] [0,1,2,3,4,5,6,7,8,9,10,11,12,13,14,15,16,17,18,19,20,21,22,23,24,25,26,27,28,32,33,62,63,64,65,66,67,68,69],[(28,0,false)]) :: (cla 71 12 [on 27] [0,1,2,3,4,5,6,7,8,9,10,11,12,13,14,15,16,17,18,19,20,21,22,23,24,25,26,27,28,32,33,62,63,64,65,66,67,68,69,70],[(28,0,false)]) :: (cla 72 10 [ag 4 71] [0,1,2,3,4,5,6,7,8,9,10,11,12,13,14,15,16,17,18,19,20,21,22,23,24,25,26,27,28,32,33,62,63,64,65,66,67,68,69,70,71],[(28,0,false)]) :: (cla 73 9 [ag 4 70,ag 4 72] [0,1,2,3,4,5,6,7,8,9,10,11,12,13,14,15,16,17,18,19,20,21,22,23,24,25,26,27,28,32,33,62,63,64,65,66,67,68,69,70,71,72],[(28,0,false)]) :: (co 74 (.binOp .eql 3 (.tmp 115) (.const (.int .i64 0)) 3) 4 [on 73,.v false [.lit (.int .i64 0)]] [0,1,2,3,4,5,6,7,8,9,10,11,12,13,14,15,16,17,18,19,20,21,22,23,24,25,26,27,28,32,33,62,63,64,65,66,67,68,69,70,71,72,73] [],[(28,0,false)]) :: (cla 75 12 [on 26] [0,1,2,3,4,5,6,7,8,9,10,11,12,13,14,15,16,17,18,19,20,21,22,23,24,25,26,27,28,32,33,62,63,64,65,66,67,68,69,70,71,72,73,74],[(28,0,false)]) :: (cla 76 12 [on 69] [0,1,2,3,4,5,6,7,8,9,10,11,12,13,14,15,16,17,18,19,20,21,22,23,24,25,26,27,28,32,33,62,63,64,65,66,67,68,69,70,71,72,73,74,75],[(28,0,false)]) :: (cla 77 9 [ag 4 75,ag 4 76] [0,1,2,3,4,5,6,7,8,9,10,11,12,13,14,15,16,17,18,19,20,21,22,23,24,25,26,27,28,32,33,62,63,64,65,66,67,68,69,70,71,72,73,74,75,76],[(28,0,false)]) :: (co 78 (.binOp .eql 3 (.tmp 122) (.const (.int .i64 0)) 3) 4 [on 77,.v false [.lit (.int .i64 0)]] [0,1,2,3,4,5,6,7,8,9,10,11,12,13,14,15,16,17,18,19,20,21,22,23,24,25,26,27,28,32,33,62,63,64,65,66,67,68,69,70,71,72,73,74,75,76,77] [],[(28,0,false)]) :: [])) (js:=[.loop false 25 [(25,.v false [.lit (.int .i64 0)]),(26,.v false [.lit (.slice none 0 0)]),(27,.v false [.lit (.slice none 0 0)])] (List.range 25) [],.ghost 28 (List.range 28) [],.test 31 0 (List.range 32) [(28,0,true)],.loop false 38 [(38,on 37)] [0,1,2,3,4,5,6,7,8,9,10,11,12,13,14,15,16,17,18,19,20,21,22,23,24,25,26,27,28,29,30,31,34,35,36,37] [(31,0,true),(28,0,true)],.loop true 25 [(25,on 44),(26,on 38),(27,on 43)] [0,1,2,3,4,5,6,7,8,9,10,11,12,13,14,15,16,17,18,19,20,21,22,23,24,25,26,27,28,29,30,31,34,35,36,38,39,40,41,42,43,44] [(31,0,true),(28,0,true)]]) (outs:=[⟨.v false [.lit (.bool true)],[0,1,2,3,4,5,6,7,8,9,10,11,12,13,14,15,16,17,18,19,20,21,22,23,24,25,26,27,28,29,30,31,45,46,47,48,49,50,51,52,53,54,55,56,57,58,59,60,61],[(31,0,false),(28,0,true)],[],[]⟩,⟨.v false [.lit (.bool true)],[0,1,2,3,4,5,6,7,8,9,10,11,12,13,14,15,16,17,18,19,20,21,22,23,24,25,26,27,28,32,33,62,63,64,65,66,67,68,69,70,71,72,73,74,75,76,77,78],[(28,0,false)],[],[]⟩]) (nc:=79) (by kernel_rfl)
    (fun x=>⟨fun σ W g h hp hb=>V3 (congrArg (fun v=>[v]) (h 0 rfl)) (J4 W x0 y0 d0 a0 b0 c0 e0 (hTab.kept g (by simp))),
    fun σ W g h hp hb=>V3 (congrArg (fun v=>[v]) (h 1 rfl)) (J4 W x1 y1 d1 a1 b1 c1 e1 (hTab.kept g (by simp))),
    fun σ W g h hp hb=>V3 (congrArg (fun v=>[v]) (h 2 rfl)) (J4 W x2 y2 d2 a2 b2 c2 e2 (hTab.kept g (by simp))),
    fun σ W g h hp hb=>V3 (congrArg (fun v=>[v]) (h 3 rfl)) (J4 W x3 y3 d3 a3 b3 c3 e3 (hTab.kept g (by simp))),
    fun σ W g h hp hb=>F2 W _ _ _ (lat x0 y0 d0) (lat x1 y1 d1) (lat x2 y2 d2) 1 (h 5 rfl) (h 6 rfl) (h 7 rfl) (by omega) (A8 a0 b0 c0 e0) (A8 a1 b1 c1 e1) (A8 a2 b2 c2 e2) (hTab.kept g (by simp)),
    fun σ W g h hp hb=>toV (nQ W (hTab.kept g (by simp))) rfl,
    fun σ W g h hp hb=>F2 W _ _ _ (lat x1 y1 d1) (lat x2 y2 d2) (lat x0 y0 d0) 1 (h 6 rfl) (h 7 rfl) (h 5 rfl) (by omega) (A8 a1 b1 c1 e1) (A8 a2 b2 c2 e2) (A8 a0 b0 c0 e0) (hTab.kept g (by simp)),
    fun σ W g h hp hb=>toZ (F4 W _ _ (A3 (lat x0 y0 d0) (lat x1 y1 d1) (lat x2 y2 d2)) (A3 (lat x1 y1 d1) (lat x2 y2 d2) (lat x0 y0 d0)) 13 (h 9 rfl) (h 11 rfl) (by omega) ((Bp.cross (A8 a0 b0 c0 e0) (A8 a1 b1 c1 e1) (A8 a2 b2 c2 e2))).1 ((Bp.cross (A8 a0 b0 c0 e0) (A8 a1 b1 c1 e1) (A8 a2 b2 c2 e2))).2 ((Bp.cross (A8 a1 b1 c1 e1) (A8 a2 b2 c2 e2) (A8 a0 b0 c0 e0))).1 ((Bp.cross (A8 a1 b1 c1 e1) (A8 a2 b2 c2 e2) (A8 a0 b0 c0 e0))).2) rfl,
    fun σ W g h hp hb=>fun ρ o ho _ hv=>⟨_,P0 false ho ((A1 hv).1.trans (h 12 rfl)) (A1 hv).2 (by rw [L4 (qB _ _ _)];rfl),rfl⟩,
    fun σ W g h hp hb=>F2 W _ _ _ (lat x1 y1 d1) (lat x0 y0 d0) (lat x2 y2 d2) 1 (h 6 rfl) (h 5 rfl) (h 7 rfl) (by omega) (A8 a1 b1 c1 e1) (A8 a0 b0 c0 e0) (A8 a2 b2 c2 e2) (hTab.kept g (by simp)),
    fun σ W g h hp hb=>Z3 W _ (A3 (lat x1 y1 d1) (lat x0 y0 d0) (lat x2 y2 d2)) 13 (h 14 rfl) (by omega) ((Bp.cross (A8 a1 b1 c1 e1) (A8 a0 b0 c0 e0) (A8 a2 b2 c2 e2))).1 ((Bp.cross (A8 a1 b1 c1 e1) (A8 a0 b0 c0 e0) (A8 a2 b2 c2 e2))).2,
    fun σ W g h hp hb=>toZ (F4 W _ _ (A3 (lat x0 y0 d0) (lat x1 y1 d1) (lat x2 y2 d2)) (-(A3 (lat x1 y1 d1) (lat x0 y0 d0) (lat x2 y2 d2))) 13 (h 9 rfl) (h 15 rfl) (by omega) ((Bp.cross (A8 a0 b0 c0 e0) (A8 a1 b1 c1 e1) (A8 a2 b2 c2 e2))).1 ((Bp.cross (A8 a0 b0 c0 e0) (A8 a1 b1 c1 e1) (A8 a2 b2 c2 e2))).2 (((Bp.cross (A8 a1 b1 c1 e1) (A8 a0 b0 c0 e0) (A8 a2 b2 c2 e2))).neg).1 (((Bp.cross (A8 a1 b1 c1 e1) (A8 a0 b0 c0 e0) (A8 a2 b2 c2 e2))).neg).2) rfl,
    fun σ W g h hp hb=>fun ρ o ho _ hv=>⟨_,P0 false ho ((A1 hv).1.trans (h 16 rfl)) (A1 hv).2 (by rw [L4 (mP _ _ _)];rfl),rfl⟩,
    fun σ W g h hp hb=>F2 W _ _ _ (lat x0 y0 d0) (lat x1 y1 d1) (lat x3 y3 d3) 1 (h 5 rfl) (h 6 rfl) (h 8 rfl) (by omega) (A8 a0 b0 c0 e0) (A8 a1 b1 c1 e1) (A8 a3 b3 c3 e3) (hTab.kept g (by simp)),
    fun σ W g h hp hb=>F2 W _ _ _ (lat x1 y1 d1) (lat x2 y2 d2) (lat x3 y3 d3) 1 (h 6 rfl) (h 7 rfl) (h 8 rfl) (by omega) (A8 a1 b1 c1 e1) (A8 a2 b2 c2 e2) (A8 a3 b3 c3 e3) (hTab.kept g (by simp)),
    fun σ W g h hp hb=>P6 W _ _ (A3 (lat x0 y0 d0) (lat x1 y1 d1) (lat x3 y3 d3)) (A3 (lat x1 y1 d1) (lat x2 y2 d2) (lat x3 y3 d3)) 13 (h 18 rfl) (h 19 rfl) (by omega) ((Bp.cross (A8 a0 b0 c0 e0) (A8 a1 b1 c1 e1) (A8 a3 b3 c3 e3))).1 ((Bp.cross (A8 a0 b0 c0 e0) (A8 a1 b1 c1 e1) (A8 a3 b3 c3 e3))).2 ((Bp.cross (A8 a1 b1 c1 e1) (A8 a2 b2 c2 e2) (A8 a3 b3 c3 e3))).1 ((Bp.cross (A8 a1 b1 c1 e1) (A8 a2 b2 c2 e2) (A8 a3 b3 c3 e3))).2 (hTab.kept g (by simp)),
    fun σ W g h hp hb=>F2 W _ _ _ (lat x2 y2 d2) (lat x0 y0 d0) (lat x3 y3 d3) 1 (h 7 rfl) (h 5 rfl) (h 8 rfl) (by omega) (A8 a2 b2 c2 e2) (A8 a0 b0 c0 e0) (A8 a3 b3 c3 e3) (hTab.kept g (by simp)),
    fun σ W g h hp hb=>P6 W _ _ ((A3 (lat x0 y0 d0) (lat x1 y1 d1) (lat x3 y3 d3))+(A3 (lat x1 y1 d1) (lat x2 y2 d2) (lat x3 y3 d3))) (A3 (lat x2 y2 d2) (lat x0 y0 d0) (lat x3 y3 d3)) 27 (h 20 rfl) (h 21 rfl) (by omega) ((((Bp.cross (A8 a0 b0 c0 e0) (A8 a1 b1 c1 e1) (A8 a3 b3 c3 e3))).add ((Bp.cross (A8 a1 b1 c1 e1) (A8 a2 b2 c2 e2) (A8 a3 b3 c3 e3))))).1 ((((Bp.cross (A8 a0 b0 c0 e0) (A8 a1 b1 c1 e1) (A8 a3 b3 c3 e3))).add ((Bp.cross (A8 a1 b1 c1 e1) (A8 a2 b2 c2 e2) (A8 a3 b3 c3 e3))))).2 (((Bp.cross (A8 a2 b2 c2 e2) (A8 a0 b0 c0 e0) (A8 a3 b3 c3 e3))).mono (M:=27) (by omega)).1 (((Bp.cross (A8 a2 b2 c2 e2) (A8 a0 b0 c0 e0) (A8 a3 b3 c3 e3))).mono (M:=27) (by omega)).2 (hTab.kept g (by simp)),
    fun σ W g h hp hb=>toZ (F4 W _ _ (((A3 (lat x0 y0 d0) (lat x1 y1 d1) (lat x3 y3 d3))+(A3 (lat x1 y1 d1) (lat x2 y2 d2) (lat x3 y3 d3)))+(A3 (lat x2 y2 d2) (lat x0 y0 d0) (lat x3 y3 d3))) (A3 (lat x0 y0 d0) (lat x1 y1 d1) (lat x2 y2 d2)) 55 (h 22 rfl) (h 9 rfl) (by omega) (((((Bp.cross (A8 a0 b0 c0 e0) (A8 a1 b1 c1 e1) (A8 a3 b3 c3 e3))).add ((Bp.cross (A8 a1 b1 c1 e1) (A8 a2 b2 c2 e2) (A8 a3 b3 c3 e3)))).add (((Bp.cross (A8 a2 b2 c2 e2) (A8 a0 b0 c0 e0) (A8 a3 b3 c3 e3))).mono (M:=27) (by omega)))).1 (((((Bp.cross (A8 a0 b0 c0 e0) (A8 a1 b1 c1 e1) (A8 a3 b3 c3 e3))).add ((Bp.cross (A8 a1 b1 c1 e1) (A8 a2 b2 c2 e2) (A8 a3 b3 c3 e3)))).add (((Bp.cross (A8 a2 b2 c2 e2) (A8 a0 b0 c0 e0) (A8 a3 b3 c3 e3))).mono (M:=27) (by omega)))).2 (((Bp.cross (A8 a0 b0 c0 e0) (A8 a1 b1 c1 e1) (A8 a2 b2 c2 e2))).mono (M:=55) (by omega)).1 (((Bp.cross (A8 a0 b0 c0 e0) (A8 a1 b1 c1 e1) (A8 a2 b2 c2 e2))).mono (M:=55) (by omega)).2) rfl,
    fun σ W g h hp hb=>fun ρ o ho _ hv=>⟨_,P0 false ho ((A1 hv).1.trans (h 23 rfl)) (A1 hv).2 (by rw [L4 (qA _ _ _ _)];rfl),rfl⟩,
    fun σ W g h hp hb=>fun ρ o ho _ hv=>⟨_,jU (h 4 rfl) ho (B2 hv) ⟨23,by kernel_rfl⟩,rfl⟩,
    fun σ W g h hp hb=>fun ρ o ho _ hv=>by
     have hi:x.1<l.length:=of_decide_eq_true (vB (h 28 rfl) (hp 28 0 true rfl))
     exact ⟨_,U4 ho ((A1 hv).1.trans (h 25 rfl).1) ((A1 hv).2.trans (h 29 rfl)) (decide_eq_true (by omega)),rfl⟩,
    fun σ W g h hp hb=>fun ρ o ho _ hv=>⟨_,U4 ho ((A1 hv).1.trans (h 25 rfl).1) (A1 hv).2 (decide_eq_decide.2 (by omega)),rfl⟩,
    fun σ W g h hp hb=>fun ρ o ho _ hv=>⟨_,jU (h 4 rfl) ho (B2 hv) ⟨23,by kernel_rfl⟩,rfl⟩,
    fun σ W g h hp hb=>fun ρ o ho _ hv=>by
     have q:=of_decide_eq_false (vB (h 28 rfl) (hp 28 0 false rfl))
     exact ⟨_,U4 ho ((A1 hv).1.trans (h 25 rfl).1) ((A1 hv).2.trans (h 32 rfl)) (decide_eq_false (by omega)),rfl⟩,
    fun σ W g h hp hb=>fun ρ o ho _ hv=>by
     have hi:x.1<l.length:=of_decide_eq_true (vB (h 28 rfl) (hp 28 0 true rfl))
     have h40:x.1<40:=of_decide_eq_true (vB (h 31 rfl) (hp 31 0 true rfl))
     obtain ⟨u,h1,h2,h3⟩:=rV (h 4 rfl) ho (A1 hv).1 x.1 hi ((A1 hv).2.trans (h 25 rfl).1)
     exact ⟨u,h1,h2,fun q hq=>⟨4,rfl,h3 q hq⟩⟩,
    fun σ W g h hp hb=>fun ρ o ho _ hv=>fL (h 34 rfl) ho (B2 hv),
    fun σ W g h hp hb=>by
     have hi:x.1<l.length:=of_decide_eq_true (vB (h 28 rfl) (hp 28 0 true rfl))
     have h40:x.1<40:=of_decide_eq_true (vB (h 31 rfl) (hp 31 0 true rfl))
     have hs:=hL _ (rX hi)
     exact V3 (congrArg (fun v=>[v]) (h 35 rfl)) (J4 W _ _ _ hs.1.1 hs.1.2 hs.2.1 hs.2.2 (hTab.kept g (by simp))),
    fun σ W g h hp hb=>fun ρ o ho _ hv=>by
     have hi:x.1<l.length:=of_decide_eq_true (vB (h 28 rfl) (hp 28 0 true rfl))
     have h40:x.1<40:=of_decide_eq_true (vB (h 31 rfl) (hp 31 0 true rfl))
     exact aV kPt (b0:=false) (A0:=(fun o=>o=x.2.1)) (l:=(lp (l.take x.1))) (A2:=(fun _=>True)) (l2:=(lp (l.take (x.1+1)))) g (m0:=26) rfl rfl rfl rfl (h 26 rfl) (fun _ _=>trivial) (by rw [jP hi];exact R8 kPt (by kernel_rfl) N0 (by decide) (h 26 rfl).1 (cs:=[σ.an 36 0, σ.an 36 1, σ.an 36 2, σ.an 36 3, σ.an 36 4, σ.an 36 5, σ.an 36 6, σ.an 36 7]) rfl (hb.1 _ (.head _)) (h 36 rfl) (PtV.one (h 36 rfl)) (by simp [lp];omega) g.size ho (A1 hv).1 (A1 hv).2)
      (fun m hm hne hr=>by
      match m,hm,hne,hr with
      | 0,_,_,hr=>exact absurd hr Bool.false_ne_true
      | 1,_,_,hr=>exact absurd hr Bool.false_ne_true
      | 2,_,_,hr=>exact absurd hr Bool.false_ne_true
      | 3,_,_,hr=>exact absurd hr Bool.false_ne_true
      | 4,_,_,_=>exact .inl ⟨h 4 rfl,fun q hq=>C0 (h 26 rfl).1 (DtsV.block (h 4 rfl) hq)⟩
      | 5,_,_,hr=>exact absurd hr Bool.false_ne_true
      | 6,_,_,hr=>exact absurd hr Bool.false_ne_true
      | 7,_,_,hr=>exact absurd hr Bool.false_ne_true
      | 8,_,_,hr=>exact absurd hr Bool.false_ne_true
      | 9,_,_,hr=>exact absurd hr Bool.false_ne_true
      | 10,_,_,hr=>exact absurd hr Bool.false_ne_true
      | 11,_,_,hr=>exact absurd hr Bool.false_ne_true
      | 12,_,_,hr=>exact absurd hr Bool.false_ne_true
      | 13,_,_,hr=>exact absurd hr Bool.false_ne_true
      | 14,_,_,hr=>exact absurd hr Bool.false_ne_true
      | 15,_,_,hr=>exact absurd hr Bool.false_ne_true
      | 16,_,_,hr=>exact absurd hr Bool.false_ne_true
      | 17,_,_,hr=>exact absurd hr Bool.false_ne_true
      | 18,_,_,hr=>exact absurd hr Bool.false_ne_true
      | 19,_,_,hr=>exact absurd hr Bool.false_ne_true
      | 20,_,_,hr=>exact absurd hr Bool.false_ne_true
      | 21,_,_,hr=>exact absurd hr Bool.false_ne_true
      | 22,_,_,hr=>exact absurd hr Bool.false_ne_true
      | 23,_,_,hr=>exact absurd hr Bool.false_ne_true
      | 24,_,_,hr=>exact absurd hr Bool.false_ne_true
      | 25,_,_,hr=>exact absurd hr Bool.false_ne_true
      | 26,_,hne,_=>exact absurd rfl hne
      | 27,_,_,_=>exact .inl ⟨h 27 rfl,fun q hq e=>(h 27 rfl).2.2.elim (fun z=>nomatch (z.symm.trans hq)) fun z=>z (hq.trans (e.symm.trans (h 26 rfl).2))⟩
      | 28,_,_,hr=>exact absurd hr Bool.false_ne_true
      | 29,_,_,hr=>exact absurd hr Bool.false_ne_true
      | 30,_,_,hr=>exact absurd hr Bool.false_ne_true
      | 31,_,_,hr=>exact absurd hr Bool.false_ne_true
      | 32,_,_,hr=>exact absurd hr Bool.false_ne_true
      | 33,_,_,hr=>exact absurd hr Bool.false_ne_true
      | 34,_,_,_=>exact .inl ⟨h 34 rfl,fun q hq=>C0 (h 26 rfl).1 (DaV.block (h 34 rfl) hq)⟩
      | 35,_,_,hr=>exact absurd hr Bool.false_ne_true
      | 36,_,_,hr=>exact absurd hr Bool.false_ne_true
      | j+37,hm,_,_=>exact absurd hm (by simp)),
    fun σ W g h hp hb=>fun ρ o ho _ hv=>by
     have hi:x.1<l.length:=of_decide_eq_true (vB (h 28 rfl) (hp 28 0 true rfl))
     have h40:x.1<40:=of_decide_eq_true (vB (h 31 rfl) (hp 31 0 true rfl))
     obtain ⟨u,h1,h2,h3⟩:=rV (h 4 rfl) ho (A1 hv).1 x.1 hi ((A1 hv).2.trans (h 25 rfl).1)
     exact ⟨u,h1,h2,fun q hq=>⟨4,rfl,h3 q hq⟩⟩,
    fun σ W g h hp hb=>fun ρ o ho _ hv=>fL (h 39 rfl) ho (B2 hv),
    fun σ W g h hp hb=>by
     have hi:x.1<l.length:=of_decide_eq_true (vB (h 28 rfl) (hp 28 0 true rfl))
     have h40:x.1<40:=of_decide_eq_true (vB (h 31 rfl) (hp 31 0 true rfl))
     have hs:=hL _ (rX hi)
     exact V3 (congrArg (fun v=>[v]) (h 40 rfl)) (J4 W _ _ _ hs.1.1 hs.1.2 hs.2.1 hs.2.2 (hTab.kept g (by simp))),
    fun σ W g h hp hb=>fun ρ o ho _ hv=>aR (by
     obtain ⟨v,W2,r1,r2,r3,r4⟩:=kT kPt (W:=W) (d:=(lat (dg l x.1).1 (dg l x.1).2.1 (dg l x.1).2.2)) (by kernel_rfl) N0 (by kernel_rfl) (by decide) (by decide) g.size ho (cs:=[σ.an 41 0, σ.an 41 1, σ.an 41 2, σ.an 41 3, σ.an 41 4, σ.an 41 5, σ.an 41 6, σ.an 41 7]) (B2 hv) rfl (PtV.one (h 41 rfl)) (fun W2 k2=>kPt.keeps (h 41 rfl) k2)
     refine ⟨v,W2,r1,r2,⟨r3, ?_, ?_, ?_, ?_⟩,fun q hq=>by have hq:v.ownBlock=some q:=hq;rw [r4] at hq;cases hq;exact Nat.le_refl _⟩<;>rw [r4]
     · exact fun e=>nomatch e
     · exact fun e=>by have e4:(σ.an 26 0).ownBlock=x.2.1:=(h 26 rfl).2;exact absurd ((h 26 rfl).1.inb (e4.trans e.symm)).1 (Nat.lt_irrefl _)
     · exact fun e=>by have e4:(σ.an 27 0).ownBlock=x.2.2.1:=(h 27 rfl).2.1;exact absurd ((h 27 rfl).1.inb (e4.trans e.symm)).1 (Nat.lt_irrefl _)
     · exact fun e=>by have e4:(σ.an 38 0).ownBlock=x.2.2.2:=(h 38 rfl).2;exact absurd ((h 38 rfl).1.inb (e4.trans e.symm)).1 (Nat.lt_irrefl _)),
    fun σ W g h hp hb=>fun ρ o ho _ hv=>by
     have hi:x.1<l.length:=of_decide_eq_true (vB (h 28 rfl) (hp 28 0 true rfl))
     have h40:x.1<40:=of_decide_eq_true (vB (h 31 rfl) (hp 31 0 true rfl))
     exact aV kPt (b0:=true) (A0:=(fun o=>o≠none/\o≠x.2.1/\o≠x.2.2.1/\o≠x.2.2.2)) (l:=[(lat (dg l x.1).1 (dg l x.1).2.1 (dg l x.1).2.2)]) (A2:=(fun o=>o≠none/\o≠x.2.2.2)) (l2:=((lat (dg l x.1).1 (dg l x.1).2.1 (dg l x.1).2.2) :: (lp (l.take x.1)).reverse)) g (m0:=42) rfl rfl rfl rfl (h 42 rfl) (fun o ho=>by
      rcases ho with rfl | rfl
      · exact ⟨(h 42 rfl).2.1,(h 42 rfl).2.2.2.2⟩
      · exact ⟨(fun e=>nomatch e),fun e=>by have e4:(σ.an 38 0).ownBlock=x.2.2.2:=(h 38 rfl).2;exact absurd ((h 38 rfl).1.inb (e4.trans e.symm)).1 (Nat.lt_irrefl _)⟩) (J7 kPt (by kernel_rfl) N0 (by decide) (fun W cs d=>jR) (h 42 rfl).1 (h 27 rfl).1.rwV (by simp [lp];omega) g.size ho (A1 hv).1 (A1 hv).2)
      (fun m hm hne hr=>by
      match m,hm,hne,hr with
      | 0,_,_,hr=>exact absurd hr Bool.false_ne_true
      | 1,_,_,hr=>exact absurd hr Bool.false_ne_true
      | 2,_,_,hr=>exact absurd hr Bool.false_ne_true
      | 3,_,_,hr=>exact absurd hr Bool.false_ne_true
      | 4,_,_,_=>exact .inl ⟨h 4 rfl,fun q hq=>C0 (h 42 rfl).1 (DtsV.block (h 4 rfl) hq)⟩
      | 5,_,_,hr=>exact absurd hr Bool.false_ne_true
      | 6,_,_,hr=>exact absurd hr Bool.false_ne_true
      | 7,_,_,hr=>exact absurd hr Bool.false_ne_true
      | 8,_,_,hr=>exact absurd hr Bool.false_ne_true
      | 9,_,_,hr=>exact absurd hr Bool.false_ne_true
      | 10,_,_,hr=>exact absurd hr Bool.false_ne_true
      | 11,_,_,hr=>exact absurd hr Bool.false_ne_true
      | 12,_,_,hr=>exact absurd hr Bool.false_ne_true
      | 13,_,_,hr=>exact absurd hr Bool.false_ne_true
      | 14,_,_,hr=>exact absurd hr Bool.false_ne_true
      | 15,_,_,hr=>exact absurd hr Bool.false_ne_true
      | 16,_,_,hr=>exact absurd hr Bool.false_ne_true
      | 17,_,_,hr=>exact absurd hr Bool.false_ne_true
      | 18,_,_,hr=>exact absurd hr Bool.false_ne_true
      | 19,_,_,hr=>exact absurd hr Bool.false_ne_true
      | 20,_,_,hr=>exact absurd hr Bool.false_ne_true
      | 21,_,_,hr=>exact absurd hr Bool.false_ne_true
      | 22,_,_,hr=>exact absurd hr Bool.false_ne_true
      | 23,_,_,hr=>exact absurd hr Bool.false_ne_true
      | 24,_,_,hr=>exact absurd hr Bool.false_ne_true
      | 25,_,_,hr=>exact absurd hr Bool.false_ne_true
      | 26,_,_,_=>exact .inl ⟨h 26 rfl,fun q hq e=>(h 42 rfl).2.2.1 (e.trans (hq.symm.trans (h 26 rfl).2))⟩
      | 27,_,_,_=>exact .inl ⟨h 27 rfl,fun q hq e=>(h 42 rfl).2.2.2.1 (e.trans (hq.symm.trans (h 27 rfl).2.1))⟩
      | 28,_,_,hr=>exact absurd hr Bool.false_ne_true
      | 29,_,_,hr=>exact absurd hr Bool.false_ne_true
      | 30,_,_,hr=>exact absurd hr Bool.false_ne_true
      | 31,_,_,hr=>exact absurd hr Bool.false_ne_true
      | 32,_,_,hr=>exact absurd hr Bool.false_ne_true
      | 33,_,_,hr=>exact absurd hr Bool.false_ne_true
      | 34,_,_,_=>exact .inl ⟨h 34 rfl,fun q hq=>C0 (h 42 rfl).1 (DaV.block (h 34 rfl) hq)⟩
      | 35,_,_,hr=>exact absurd hr Bool.false_ne_true
      | 36,_,_,hr=>exact absurd hr Bool.false_ne_true
      | 37,hm,_,_=>exact absurd hm Bool.false_ne_true
      | 38,_,_,_=>exact .inl ⟨h 38 rfl,fun q hq e=>(h 42 rfl).2.2.2.2 (e.trans (hq.symm.trans (h 38 rfl).2))⟩
      | 39,_,_,_=>exact .inl ⟨h 39 rfl,fun q hq=>C0 (h 42 rfl).1 (DaV.block (h 39 rfl) hq)⟩
      | 40,_,_,hr=>exact absurd hr Bool.false_ne_true
      | 41,_,_,hr=>exact absurd hr Bool.false_ne_true
      | 42,_,hne,_=>exact absurd rfl hne
      | j+43,hm,_,_=>exact absurd hm (by simp)),
    fun σ W g h hp hb=>fun ρ o ho _ hv=>by
     have hi:x.1<l.length:=of_decide_eq_true (vB (h 28 rfl) (hp 28 0 true rfl))
     have h40:x.1<40:=of_decide_eq_true (vB (h 31 rfl) (hp 31 0 true rfl))
     exact ⟨_,B7 ho ((A1 hv).1.trans (h 25 rfl).1) (A1 hv).2 (kA (by omega) (by omega)),rfl⟩,
    fun σ W g h hp hb=>fun ρ o ho _ hv=>⟨_,Z8 (OwV.pts (h 26 rfl).1) ho (B2 hv) ⟨33,by kernel_rfl⟩,rfl⟩,
    fun σ W g h hp hb=>fun ρ o ho _ hv=>by
     have hi:x.1<l.length:=of_decide_eq_true (vB (h 28 rfl) (hp 28 0 true rfl))
     have h40:¬ x.1<40:=of_decide_eq_false (vB (h 31 rfl) (hp 31 0 false rfl))
     have hk:x.1<=40/\x.1<=l.length:=(h 25 rfl).2
     have hlen:((lp (l.take x.1))).length=x.1:=by simp [lp];omega
     exact ⟨_,E9 true ho ((A1 hv).1.trans (h 45 rfl)) (A1 hv).2 (decide_eq_true (by omega)),rfl⟩,
    fun σ W g h hp hb=>fun ρ o ho _ hv=>aR (by
     obtain ⟨v,W2,r1,r2,r3,r4,r5⟩:=X0 kPt (W:=W) (by kernel_rfl) (by kernel_rfl) g.size ho
     refine ⟨v,W2,r1,r2,⟨r3, ?_,r5⟩,fun q hq=>by have hq:v.ownBlock=some q:=hq;rw [r4] at hq;cases hq;exact Nat.le_refl _⟩
     rw [r4]
     exact ⟨(fun e=>nomatch e),fun e=>by have e4:(σ.an 26 0).ownBlock=x.2.1:=(h 26 rfl).2;exact absurd ((h 26 rfl).1.inb (e4.trans e.symm)).1 (Nat.lt_irrefl _),fun e=>by have e4:(σ.an 27 0).ownBlock=x.2.2.1:=(h 27 rfl).2.1;exact absurd ((h 27 rfl).1.inb (e4.trans e.symm)).1 (Nat.lt_irrefl _)⟩),
    fun σ W g h hp hb=>fun ρ o ho _ hv=>by
     have hi:x.1<l.length:=of_decide_eq_true (vB (h 28 rfl) (hp 28 0 true rfl))
     have h40:¬ x.1<40:=of_decide_eq_false (vB (h 31 rfl) (hp 31 0 false rfl))
     have hk:x.1<=40/\x.1<=l.length:=(h 25 rfl).2
     have hlen:((lp (l.take x.1))).length=x.1:=by simp [lp];omega
     obtain ⟨u,h1,h2,h3⟩:=rw_drop (i:=1) (kd:=kPt) (by kernel_rfl) (by kernel_rfl) (h 26 rfl).1.rwV ho (A1 hv).1 (congrArg some (A1 hv).2) (by omega)
     exact ⟨u,h1,⟨h2,fun q hq=>(h 26 rfl).2.symm.trans (V5 (h 26 rfl).1 (h3 q hq))⟩,fun q hq=>⟨26,rfl,V5 (h 26 rfl).1 (h3 q hq)⟩⟩,
    fun σ W g h hp hb=>fun ρ o ho _ hv=>newO (by
     have hi:x.1<l.length:=of_decide_eq_true (vB (h 28 rfl) (hp 28 0 true rfl))
     have h40:¬ x.1<40:=of_decide_eq_false (vB (h 31 rfl) (hp 31 0 false rfl))
     have hk:x.1<=40/\x.1<=l.length:=(h 25 rfl).2
     have hlen:((lp (l.take x.1))).length=x.1:=by simp [lp];omega
     obtain ⟨v,W2,r1,r2,r3,r4⟩:=run_appM kPt (by kernel_rfl) N0 (by decide) (fun W cs d=>jR) (h 47 rfl).1 (h 47 rfl).2.2 (h 48 rfl).1 (by simp [lp];omega) g.size ho (A1 hv).1 (A1 hv).2
     refine ⟨v,W2,r1,r2,⟨r3, ?_⟩,fun q hq=>?_⟩
     · rcases r4 with r4 | r4
       · rw [r4]
         exact ⟨(fun e=>nomatch e),fun e=>by have e4:(σ.an 26 0).ownBlock=x.2.1:=(h 26 rfl).2;exact absurd ((h 26 rfl).1.inb (e4.trans e.symm)).1 (Nat.lt_irrefl _),fun e=>by have e4:(σ.an 27 0).ownBlock=x.2.2.1:=(h 27 rfl).2.1;exact absurd ((h 27 rfl).1.inb (e4.trans e.symm)).1 (Nat.lt_irrefl _)⟩
       · rw [r4];exact (h 47 rfl).2.1
     · have hq:v.ownBlock=some q:=hq
       rcases r4 with r4 | r4
       · rw [r4] at hq;cases hq;exact .inl (Nat.le_refl _)
       · rw [r4] at hq;exact .inr ⟨47,rfl,hq⟩),
    fun σ W g h hp hb=>fun ρ o ho _ hv=>by
     have hi:x.1<l.length:=of_decide_eq_true (vB (h 28 rfl) (hp 28 0 true rfl))
     have h40:¬ x.1<40:=of_decide_eq_false (vB (h 31 rfl) (hp 31 0 false rfl))
     have hk:x.1<=40/\x.1<=l.length:=(h 25 rfl).2
     have hlen:((lp (l.take x.1))).length=x.1:=by simp [lp];omega
     obtain ⟨u,h1,h2,h3⟩:=gJ (OwV.pts (h 26 rfl).1) ho (A1 hv).1 0 (by omega) (A1 hv).2
     refine ⟨u,h1,⟨?_,fun q hq=>(h 26 rfl).2.symm.trans (V5 (h 26 rfl).1 (h3 q hq))⟩,fun q hq=>⟨26,rfl,V5 (h 26 rfl).1 (h3 q hq)⟩⟩
     rw [rR (by omega)];exact h2,
    fun σ W g h hp hb=>fun ρ o ho _ hv=>X1 (h 50 rfl).1 ho (B2 hv),
    fun σ W g h hp hb=>fun ρ o ho _ hv=>by
     have hi:x.1<l.length:=of_decide_eq_true (vB (h 28 rfl) (hp 28 0 true rfl))
     have h40:¬ x.1<40:=of_decide_eq_false (vB (h 31 rfl) (hp 31 0 false rfl))
     have hk:x.1<=40/\x.1<=l.length:=(h 25 rfl).2
     have hlen:((lp (l.take x.1))).length=x.1:=by simp [lp];omega
     exact aV kPt (b0:=true) (A0:=(fun o=>o≠none/\o≠x.2.1/\o≠x.2.2.1)) (l:=(((lp (l.take x.1))).drop 1)) (A2:=(fun _=>True)) (l2:=(((lp (l.take x.1))).drop 1++[((lp (l.take x.1))).getD 0 (0,0)])) g (m0:=49) rfl rfl rfl rfl (h 49 rfl) (fun _ _=>trivial) (R8 kPt (by kernel_rfl) N0 (by decide) (h 49 rfl).1 (cs:=[σ.an 51 0, σ.an 51 1, σ.an 51 2, σ.an 51 3, σ.an 51 4, σ.an 51 5, σ.an 51 6, σ.an 51 7]) rfl (hb.1 _ (.head _)) (h 51 rfl) (PtV.one (h 51 rfl)) (by simp [lp];omega) g.size ho (A1 hv).1 (A1 hv).2)
      (fun m hm hne hr=>by
      match m,hm,hne,hr with
      | 0,_,_,hr=>exact absurd hr Bool.false_ne_true
      | 1,_,_,hr=>exact absurd hr Bool.false_ne_true
      | 2,_,_,hr=>exact absurd hr Bool.false_ne_true
      | 3,_,_,hr=>exact absurd hr Bool.false_ne_true
      | 4,_,_,_=>exact .inl ⟨h 4 rfl,fun q hq=>C0 (h 49 rfl).1 (DtsV.block (h 4 rfl) hq)⟩
      | 5,_,_,hr=>exact absurd hr Bool.false_ne_true
      | 6,_,_,hr=>exact absurd hr Bool.false_ne_true
      | 7,_,_,hr=>exact absurd hr Bool.false_ne_true
      | 8,_,_,hr=>exact absurd hr Bool.false_ne_true
      | 9,_,_,hr=>exact absurd hr Bool.false_ne_true
      | 10,_,_,hr=>exact absurd hr Bool.false_ne_true
      | 11,_,_,hr=>exact absurd hr Bool.false_ne_true
      | 12,_,_,hr=>exact absurd hr Bool.false_ne_true
      | 13,_,_,hr=>exact absurd hr Bool.false_ne_true
      | 14,_,_,hr=>exact absurd hr Bool.false_ne_true
      | 15,_,_,hr=>exact absurd hr Bool.false_ne_true
      | 16,_,_,hr=>exact absurd hr Bool.false_ne_true
      | 17,_,_,hr=>exact absurd hr Bool.false_ne_true
      | 18,_,_,hr=>exact absurd hr Bool.false_ne_true
      | 19,_,_,hr=>exact absurd hr Bool.false_ne_true
      | 20,_,_,hr=>exact absurd hr Bool.false_ne_true
      | 21,_,_,hr=>exact absurd hr Bool.false_ne_true
      | 22,_,_,hr=>exact absurd hr Bool.false_ne_true
      | 23,_,_,hr=>exact absurd hr Bool.false_ne_true
      | 24,_,_,hr=>exact absurd hr Bool.false_ne_true
      | 25,_,_,hr=>exact absurd hr Bool.false_ne_true
      | 26,_,_,_=>exact .inl ⟨h 26 rfl,fun q hq e=>(h 49 rfl).2.2.1 (e.trans (hq.symm.trans (h 26 rfl).2))⟩
      | 27,_,_,_=>exact .inl ⟨h 27 rfl,fun q hq e=>(h 49 rfl).2.2.2 (e.trans (hq.symm.trans (h 27 rfl).2.1))⟩
      | 28,_,_,hr=>exact absurd hr Bool.false_ne_true
      | 29,_,_,hr=>exact absurd hr Bool.false_ne_true
      | 30,_,_,hr=>exact absurd hr Bool.false_ne_true
      | 31,_,_,hr=>exact absurd hr Bool.false_ne_true
      | 32,_,_,hr=>exact absurd hr Bool.false_ne_true
      | 33,_,_,hr=>exact absurd hr Bool.false_ne_true
      | 34,hm,_,_=>exact absurd hm Bool.false_ne_true
      | 35,_,_,hr=>exact absurd hr Bool.false_ne_true
      | 36,_,_,hr=>exact absurd hr Bool.false_ne_true
      | 37,hm,_,_=>exact absurd hm Bool.false_ne_true
      | 38,hm,_,_=>exact absurd hm Bool.false_ne_true
      | 39,hm,_,_=>exact absurd hm Bool.false_ne_true
      | 40,_,_,hr=>exact absurd hr Bool.false_ne_true
      | 41,_,_,hr=>exact absurd hr Bool.false_ne_true
      | 42,hm,_,_=>exact absurd hm Bool.false_ne_true
      | 43,hm,_,_=>exact absurd hm Bool.false_ne_true
      | 44,_,_,hr=>exact absurd hr Bool.false_ne_true
      | 45,_,_,hr=>exact absurd hr Bool.false_ne_true
      | 46,_,_,hr=>exact absurd hr Bool.false_ne_true
      | 47,_,_,_=>exact .inr (.inr ⟨(fun o=>o≠none/\o≠x.2.1/\o≠x.2.2.1),[],rfl,Nat.zero_le _,h 47 rfl⟩)
      | 48,_,_,_=>exact .inl ⟨h 48 rfl,fun q hq e=>(h 49 rfl).2.2.1 (e.trans ((h 48 rfl).2 q hq).symm)⟩
      | 49,_,hne,_=>exact absurd rfl hne
      | 50,_,_,_=>exact .inl ⟨h 50 rfl,fun q hq e=>(h 49 rfl).2.2.1 (e.trans ((h 50 rfl).2 q hq).symm)⟩
      | 51,_,_,hr=>exact absurd hr Bool.false_ne_true
      | j+52,hm,_,_=>exact absurd hm (by simp)),
    fun σ W g h hp hb=>by
     have hi:x.1<l.length:=of_decide_eq_true (vB (h 28 rfl) (hp 28 0 true rfl))
     have h40:¬ x.1<40:=of_decide_eq_false (vB (h 31 rfl) (hp 31 0 false rfl))
     have hk:x.1<=40/\x.1<=l.length:=(h 25 rfl).2
     have hlen:((lp (l.take x.1))).length=x.1:=by simp [lp];omega
     exact F8 W _ _ (OwV.pts (h 26 rfl).1) (by omega) (M8 fun d hd=>hL d (List.mem_of_mem_take hd)) (hTab.kept g (by simp)) (OwV.cellK (h 26 rfl).1),
    fun σ W g h hp hb=>by
     have hi:x.1<l.length:=of_decide_eq_true (vB (h 28 rfl) (hp 28 0 true rfl))
     have h40:¬ x.1<40:=of_decide_eq_false (vB (h 31 rfl) (hp 31 0 false rfl))
     have hk:x.1<=40/\x.1<=l.length:=(h 25 rfl).2
     have hlen:((lp (l.take x.1))).length=x.1:=by simp [lp];omega
     exact F8 W _ _ (OwV.pts (h 27 rfl).1) (by simp [lp];omega) (fun p hp=>(M8 fun d hd=>hL d (List.mem_of_mem_take hd)) p (List.mem_reverse.1 hp)) (hTab.kept g (by simp)) (OwV.cellK (h 27 rfl).1),
    fun σ W g h hp hb=>by
     have hi:x.1<l.length:=of_decide_eq_true (vB (h 28 rfl) (hp 28 0 true rfl))
     have h40:¬ x.1<40:=of_decide_eq_false (vB (h 31 rfl) (hp 31 0 false rfl))
     have hk:x.1<=40/\x.1<=l.length:=(h 25 rfl).2
     have hlen:((lp (l.take x.1))).length=x.1:=by simp [lp];omega
     have hb2:=(K2 (l:=(lp (l.take x.1)).reverse) (fun p hp=>(M8 fun d hd=>hL d (List.mem_of_mem_take hd)) p (List.mem_reverse.1 hp)) (by simp [lp];omega))
     exact Z3 W _ _ 482 (h 54 rfl) (by omega) hb2.1 hb2.2,
    fun σ W g h hp hb=>by
     have hi:x.1<l.length:=of_decide_eq_true (vB (h 28 rfl) (hp 28 0 true rfl))
     have h40:¬ x.1<40:=of_decide_eq_false (vB (h 31 rfl) (hp 31 0 false rfl))
     have hk:x.1<=40/\x.1<=l.length:=(h 25 rfl).2
     have hlen:((lp (l.take x.1))).length=x.1:=by simp [lp];omega
     have hb1:=(K2 (l:=(lp (l.take x.1))) (M8 fun d hd=>hL d (List.mem_of_mem_take hd)) (by omega))
     have hb2:=((K2 (l:=(lp (l.take x.1)).reverse) (fun p hp=>(M8 fun d hd=>hL d (List.mem_of_mem_take hd)) p (List.mem_reverse.1 hp)) (by simp [lp];omega))).neg
     exact toZ (F4 W _ _ _ _ 482 (h 53 rfl) (h 55 rfl) (by omega) hb1.1 hb1.2 hb2.1 hb2.2) rfl,
    fun σ W g h hp hb=>fun ρ o ho _ hv=>by
            exact ⟨_,C8 true ho ((A1 hv).1.trans (h 56 rfl)) (A1 hv).2 (by rw [L4 (by rw [aI,Rat.neg_neg])];rfl),rfl⟩,
    fun σ W g h hp hb=>by
     have hi:x.1<l.length:=of_decide_eq_true (vB (h 28 rfl) (hp 28 0 true rfl))
     have h40:¬ x.1<40:=of_decide_eq_false (vB (h 31 rfl) (hp 31 0 false rfl))
     have hk:x.1<=40/\x.1<=l.length:=(h 25 rfl).2
     have hlen:((lp (l.take x.1))).length=x.1:=by simp [lp];omega
     exact F8 W _ _ (OwV.pts (h 26 rfl).1) (by omega) (M8 fun d hd=>hL d (List.mem_of_mem_take hd)) (hTab.kept g (by simp)) (OwV.cellK (h 26 rfl).1),
    fun σ W g h hp hb=>by
     have hi:x.1<l.length:=of_decide_eq_true (vB (h 28 rfl) (hp 28 0 true rfl))
     have h40:¬ x.1<40:=of_decide_eq_false (vB (h 31 rfl) (hp 31 0 false rfl))
     have hk:x.1<=40/\x.1<=l.length:=(h 25 rfl).2
     have hlen:((lp (l.take x.1))).length=x.1:=by simp [lp];omega
     exact F8 W _ _ (OwV.pts (h 52 rfl).1) (by simp [lp];omega) (trn_b (M8 fun d hd=>hL d (List.mem_of_mem_take hd)) (by omega)) (hTab.kept g (by simp)) (OwV.cellK (h 52 rfl).1),
    fun σ W g h hp hb=>by
     have hi:x.1<l.length:=of_decide_eq_true (vB (h 28 rfl) (hp 28 0 true rfl))
     have h40:¬ x.1<40:=of_decide_eq_false (vB (h 31 rfl) (hp 31 0 false rfl))
     have hk:x.1<=40/\x.1<=l.length:=(h 25 rfl).2
     have hlen:((lp (l.take x.1))).length=x.1:=by simp [lp];omega
     have hb1:=(K2 (l:=(lp (l.take x.1))) (M8 fun d hd=>hL d (List.mem_of_mem_take hd)) (by omega))
     have hb2:=(K2 (l:=(((lp (l.take x.1))).drop 1++[((lp (l.take x.1))).getD 0 (0,0)])) (trn_b (M8 fun d hd=>hL d (List.mem_of_mem_take hd)) (by omega)) (by simp [lp];omega))
     exact toZ (F4 W _ _ _ _ 482 (h 58 rfl) (h 59 rfl) (by omega) hb1.1 hb1.2 hb2.1 hb2.2) rfl,
    fun σ W g h hp hb=>fun ρ o ho _ hv=>by
     have hi:x.1<l.length:=of_decide_eq_true (vB (h 28 rfl) (hp 28 0 true rfl))
     have h40:¬ x.1<40:=of_decide_eq_false (vB (h 31 rfl) (hp 31 0 false rfl))
     have hk:x.1<=40/\x.1<=l.length:=(h 25 rfl).2
     have hlen:((lp (l.take x.1))).length=x.1:=by simp [lp];omega
     exact ⟨_,C8 true ho ((A1 hv).1.trans (h 60 rfl)) (A1 hv).2 (by rw [L4 (by rw [qI (by omega)])];rfl),rfl⟩,
    fun σ W g h hp hb=>fun ρ o ho _ hv=>⟨_,Z8 (OwV.pts (h 26 rfl).1) ho (B2 hv) ⟨33,by kernel_rfl⟩,rfl⟩,
    fun σ W g h hp hb=>fun ρ o ho _ hv=>by
     have hi:¬ x.1<l.length:=of_decide_eq_false (vB (h 28 rfl) (hp 28 0 false rfl))
     have hk:x.1<=40/\x.1<=l.length:=(h 25 rfl).2
     have hlen:((lp (l.take x.1))).length=x.1:=by simp [lp];omega
     exact ⟨_,E9 true ho ((A1 hv).1.trans (h 62 rfl)) (A1 hv).2 (decide_eq_true (by omega)),rfl⟩,
    fun σ W g h hp hb=>fun ρ o ho _ hv=>aR (by
     obtain ⟨v,W2,r1,r2,r3,r4,r5⟩:=X0 kPt (W:=W) (by kernel_rfl) (by kernel_rfl) g.size ho
     refine ⟨v,W2,r1,r2,⟨r3, ?_,r5⟩,fun q hq=>by have hq:v.ownBlock=some q:=hq;rw [r4] at hq;cases hq;exact Nat.le_refl _⟩
     rw [r4]
     exact ⟨(fun e=>nomatch e),fun e=>by have e4:(σ.an 26 0).ownBlock=x.2.1:=(h 26 rfl).2;exact absurd ((h 26 rfl).1.inb (e4.trans e.symm)).1 (Nat.lt_irrefl _),fun e=>by have e4:(σ.an 27 0).ownBlock=x.2.2.1:=(h 27 rfl).2.1;exact absurd ((h 27 rfl).1.inb (e4.trans e.symm)).1 (Nat.lt_irrefl _)⟩),
    fun σ W g h hp hb=>fun ρ o ho _ hv=>by
     have hi:¬ x.1<l.length:=of_decide_eq_false (vB (h 28 rfl) (hp 28 0 false rfl))
     have hk:x.1<=40/\x.1<=l.length:=(h 25 rfl).2
     have hlen:((lp (l.take x.1))).length=x.1:=by simp [lp];omega
     obtain ⟨u,h1,h2,h3⟩:=rw_drop (i:=1) (kd:=kPt) (by kernel_rfl) (by kernel_rfl) (h 26 rfl).1.rwV ho (A1 hv).1 (congrArg some (A1 hv).2) (by omega)
     exact ⟨u,h1,⟨h2,fun q hq=>(h 26 rfl).2.symm.trans (V5 (h 26 rfl).1 (h3 q hq))⟩,fun q hq=>⟨26,rfl,V5 (h 26 rfl).1 (h3 q hq)⟩⟩,
    fun σ W g h hp hb=>fun ρ o ho _ hv=>newO (by
     have hi:¬ x.1<l.length:=of_decide_eq_false (vB (h 28 rfl) (hp 28 0 false rfl))
     have hk:x.1<=40/\x.1<=l.length:=(h 25 rfl).2
     have hlen:((lp (l.take x.1))).length=x.1:=by simp [lp];omega
     obtain ⟨v,W2,r1,r2,r3,r4⟩:=run_appM kPt (by kernel_rfl) N0 (by decide) (fun W cs d=>jR) (h 64 rfl).1 (h 64 rfl).2.2 (h 65 rfl).1 (by simp [lp];omega) g.size ho (A1 hv).1 (A1 hv).2
     refine ⟨v,W2,r1,r2,⟨r3, ?_⟩,fun q hq=>?_⟩
     · rcases r4 with r4 | r4
       · rw [r4]
         exact ⟨(fun e=>nomatch e),fun e=>by have e4:(σ.an 26 0).ownBlock=x.2.1:=(h 26 rfl).2;exact absurd ((h 26 rfl).1.inb (e4.trans e.symm)).1 (Nat.lt_irrefl _),fun e=>by have e4:(σ.an 27 0).ownBlock=x.2.2.1:=(h 27 rfl).2.1;exact absurd ((h 27 rfl).1.inb (e4.trans e.symm)).1 (Nat.lt_irrefl _)⟩
       · rw [r4];exact (h 64 rfl).2.1
     · have hq:v.ownBlock=some q:=hq
       rcases r4 with r4 | r4
       · rw [r4] at hq;cases hq;exact .inl (Nat.le_refl _)
       · rw [r4] at hq;exact .inr ⟨64,rfl,hq⟩),
    fun σ W g h hp hb=>fun ρ o ho _ hv=>by
     have hi:¬ x.1<l.length:=of_decide_eq_false (vB (h 28 rfl) (hp 28 0 false rfl))
     have hk:x.1<=40/\x.1<=l.length:=(h 25 rfl).2
     have hlen:((lp (l.take x.1))).length=x.1:=by simp [lp];omega
     obtain ⟨u,h1,h2,h3⟩:=gJ (OwV.pts (h 26 rfl).1) ho (A1 hv).1 0 (by omega) (A1 hv).2
     refine ⟨u,h1,⟨?_,fun q hq=>(h 26 rfl).2.symm.trans (V5 (h 26 rfl).1 (h3 q hq))⟩,fun q hq=>⟨26,rfl,V5 (h 26 rfl).1 (h3 q hq)⟩⟩
     rw [rR (by omega)];exact h2,
    fun σ W g h hp hb=>fun ρ o ho _ hv=>X1 (h 67 rfl).1 ho (B2 hv),
    fun σ W g h hp hb=>fun ρ o ho _ hv=>by
     have hi:¬ x.1<l.length:=of_decide_eq_false (vB (h 28 rfl) (hp 28 0 false rfl))
     have hk:x.1<=40/\x.1<=l.length:=(h 25 rfl).2
     have hlen:((lp (l.take x.1))).length=x.1:=by simp [lp];omega
     exact aV kPt (b0:=true) (A0:=(fun o=>o≠none/\o≠x.2.1/\o≠x.2.2.1)) (l:=(((lp (l.take x.1))).drop 1)) (A2:=(fun _=>True)) (l2:=(((lp (l.take x.1))).drop 1++[((lp (l.take x.1))).getD 0 (0,0)])) g (m0:=66) rfl rfl rfl rfl (h 66 rfl) (fun _ _=>trivial) (R8 kPt (by kernel_rfl) N0 (by decide) (h 66 rfl).1 (cs:=[σ.an 68 0, σ.an 68 1, σ.an 68 2, σ.an 68 3, σ.an 68 4, σ.an 68 5, σ.an 68 6, σ.an 68 7]) rfl (hb.1 _ (.head _)) (h 68 rfl) (PtV.one (h 68 rfl)) (by simp [lp];omega) g.size ho (A1 hv).1 (A1 hv).2)
      (fun m hm hne hr=>by
      match m,hm,hne,hr with
      | 0,_,_,hr=>exact absurd hr Bool.false_ne_true
      | 1,_,_,hr=>exact absurd hr Bool.false_ne_true
      | 2,_,_,hr=>exact absurd hr Bool.false_ne_true
      | 3,_,_,hr=>exact absurd hr Bool.false_ne_true
      | 4,_,_,_=>exact .inl ⟨h 4 rfl,fun q hq=>C0 (h 66 rfl).1 (DtsV.block (h 4 rfl) hq)⟩
      | 5,_,_,hr=>exact absurd hr Bool.false_ne_true
      | 6,_,_,hr=>exact absurd hr Bool.false_ne_true
      | 7,_,_,hr=>exact absurd hr Bool.false_ne_true
      | 8,_,_,hr=>exact absurd hr Bool.false_ne_true
      | 9,_,_,hr=>exact absurd hr Bool.false_ne_true
      | 10,_,_,hr=>exact absurd hr Bool.false_ne_true
      | 11,_,_,hr=>exact absurd hr Bool.false_ne_true
      | 12,_,_,hr=>exact absurd hr Bool.false_ne_true
      | 13,_,_,hr=>exact absurd hr Bool.false_ne_true
      | 14,_,_,hr=>exact absurd hr Bool.false_ne_true
      | 15,_,_,hr=>exact absurd hr Bool.false_ne_true
      | 16,_,_,hr=>exact absurd hr Bool.false_ne_true
      | 17,_,_,hr=>exact absurd hr Bool.false_ne_true
      | 18,_,_,hr=>exact absurd hr Bool.false_ne_true
      | 19,_,_,hr=>exact absurd hr Bool.false_ne_true
      | 20,_,_,hr=>exact absurd hr Bool.false_ne_true
      | 21,_,_,hr=>exact absurd hr Bool.false_ne_true
      | 22,_,_,hr=>exact absurd hr Bool.false_ne_true
      | 23,_,_,hr=>exact absurd hr Bool.false_ne_true
      | 24,_,_,hr=>exact absurd hr Bool.false_ne_true
      | 25,_,_,hr=>exact absurd hr Bool.false_ne_true
      | 26,_,_,_=>exact .inl ⟨h 26 rfl,fun q hq e=>(h 66 rfl).2.2.1 (e.trans (hq.symm.trans (h 26 rfl).2))⟩
      | 27,_,_,_=>exact .inl ⟨h 27 rfl,fun q hq e=>(h 66 rfl).2.2.2 (e.trans (hq.symm.trans (h 27 rfl).2.1))⟩
      | 28,_,_,hr=>exact absurd hr Bool.false_ne_true
      | 29,_,_,hr=>exact absurd hr Bool.false_ne_true
      | 30,_,_,hr=>exact absurd hr Bool.false_ne_true
      | 31,_,_,hr=>exact absurd hr Bool.false_ne_true
      | 32,_,_,hr=>exact absurd hr Bool.false_ne_true
      | 33,_,_,hr=>exact absurd hr Bool.false_ne_true
      | 34,hm,_,_=>exact absurd hm Bool.false_ne_true
      | 35,_,_,hr=>exact absurd hr Bool.false_ne_true
      | 36,_,_,hr=>exact absurd hr Bool.false_ne_true
      | 37,hm,_,_=>exact absurd hm Bool.false_ne_true
      | 38,hm,_,_=>exact absurd hm Bool.false_ne_true
      | 39,hm,_,_=>exact absurd hm Bool.false_ne_true
      | 40,_,_,hr=>exact absurd hr Bool.false_ne_true
      | 41,_,_,hr=>exact absurd hr Bool.false_ne_true
      | 42,hm,_,_=>exact absurd hm Bool.false_ne_true
      | 43,hm,_,_=>exact absurd hm Bool.false_ne_true
      | 44,_,_,hr=>exact absurd hr Bool.false_ne_true
      | 45,hm,_,_=>exact absurd hm Bool.false_ne_true
      | 46,hm,_,_=>exact absurd hm Bool.false_ne_true
      | 47,hm,_,_=>exact absurd hm Bool.false_ne_true
      | 48,hm,_,_=>exact absurd hm Bool.false_ne_true
      | 49,hm,_,_=>exact absurd hm Bool.false_ne_true
      | 50,hm,_,_=>exact absurd hm Bool.false_ne_true
      | 51,hm,_,_=>exact absurd hm Bool.false_ne_true
      | 52,hm,_,_=>exact absurd hm Bool.false_ne_true
      | 53,hm,_,_=>exact absurd hm Bool.false_ne_true
      | 54,hm,_,_=>exact absurd hm Bool.false_ne_true
      | 55,hm,_,_=>exact absurd hm Bool.false_ne_true
      | 56,hm,_,_=>exact absurd hm Bool.false_ne_true
      | 57,hm,_,_=>exact absurd hm Bool.false_ne_true
      | 58,hm,_,_=>exact absurd hm Bool.false_ne_true
      | 59,hm,_,_=>exact absurd hm Bool.false_ne_true
      | 60,hm,_,_=>exact absurd hm Bool.false_ne_true
      | 61,hm,_,_=>exact absurd hm Bool.false_ne_true
      | 62,_,_,hr=>exact absurd hr Bool.false_ne_true
      | 63,_,_,hr=>exact absurd hr Bool.false_ne_true
      | 64,_,_,_=>exact .inr (.inr ⟨(fun o=>o≠none/\o≠x.2.1/\o≠x.2.2.1),[],rfl,Nat.zero_le _,h 64 rfl⟩)
      | 65,_,_,_=>exact .inl ⟨h 65 rfl,fun q hq e=>(h 66 rfl).2.2.1 (e.trans ((h 65 rfl).2 q hq).symm)⟩
      | 66,_,hne,_=>exact absurd rfl hne
      | 67,_,_,_=>exact .inl ⟨h 67 rfl,fun q hq e=>(h 66 rfl).2.2.1 (e.trans ((h 67 rfl).2 q hq).symm)⟩
      | 68,_,_,hr=>exact absurd hr Bool.false_ne_true
      | j+69,hm,_,_=>exact absurd hm (by simp)),
    fun σ W g h hp hb=>by
     have hi:¬ x.1<l.length:=of_decide_eq_false (vB (h 28 rfl) (hp 28 0 false rfl))
     have hk:x.1<=40/\x.1<=l.length:=(h 25 rfl).2
     have hlen:((lp (l.take x.1))).length=x.1:=by simp [lp];omega
     exact F8 W _ _ (OwV.pts (h 26 rfl).1) (by omega) (M8 fun d hd=>hL d (List.mem_of_mem_take hd)) (hTab.kept g (by simp)) (OwV.cellK (h 26 rfl).1),
    fun σ W g h hp hb=>by
     have hi:¬ x.1<l.length:=of_decide_eq_false (vB (h 28 rfl) (hp 28 0 false rfl))
     have hk:x.1<=40/\x.1<=l.length:=(h 25 rfl).2
     have hlen:((lp (l.take x.1))).length=x.1:=by simp [lp];omega
     exact F8 W _ _ (OwV.pts (h 27 rfl).1) (by simp [lp];omega) (fun p hp=>(M8 fun d hd=>hL d (List.mem_of_mem_take hd)) p (List.mem_reverse.1 hp)) (hTab.kept g (by simp)) (OwV.cellK (h 27 rfl).1),
    fun σ W g h hp hb=>by
     have hi:¬ x.1<l.length:=of_decide_eq_false (vB (h 28 rfl) (hp 28 0 false rfl))
     have hk:x.1<=40/\x.1<=l.length:=(h 25 rfl).2
     have hlen:((lp (l.take x.1))).length=x.1:=by simp [lp];omega
     have hb2:=(K2 (l:=(lp (l.take x.1)).reverse) (fun p hp=>(M8 fun d hd=>hL d (List.mem_of_mem_take hd)) p (List.mem_reverse.1 hp)) (by simp [lp];omega))
     exact Z3 W _ _ 482 (h 71 rfl) (by omega) hb2.1 hb2.2,
    fun σ W g h hp hb=>by
     have hi:¬ x.1<l.length:=of_decide_eq_false (vB (h 28 rfl) (hp 28 0 false rfl))
     have hk:x.1<=40/\x.1<=l.length:=(h 25 rfl).2
     have hlen:((lp (l.take x.1))).length=x.1:=by simp [lp];omega
     have hb1:=(K2 (l:=(lp (l.take x.1))) (M8 fun d hd=>hL d (List.mem_of_mem_take hd)) (by omega))
     have hb2:=((K2 (l:=(lp (l.take x.1)).reverse) (fun p hp=>(M8 fun d hd=>hL d (List.mem_of_mem_take hd)) p (List.mem_reverse.1 hp)) (by simp [lp];omega))).neg
     exact toZ (F4 W _ _ _ _ 482 (h 70 rfl) (h 72 rfl) (by omega) hb1.1 hb1.2 hb2.1 hb2.2) rfl,
    fun σ W g h hp hb=>fun ρ o ho _ hv=>by
            exact ⟨_,C8 true ho ((A1 hv).1.trans (h 73 rfl)) (A1 hv).2 (by rw [L4 (by rw [aI,Rat.neg_neg])];rfl),rfl⟩,
    fun σ W g h hp hb=>by
     have hi:¬ x.1<l.length:=of_decide_eq_false (vB (h 28 rfl) (hp 28 0 false rfl))
     have hk:x.1<=40/\x.1<=l.length:=(h 25 rfl).2
     have hlen:((lp (l.take x.1))).length=x.1:=by simp [lp];omega
     exact F8 W _ _ (OwV.pts (h 26 rfl).1) (by omega) (M8 fun d hd=>hL d (List.mem_of_mem_take hd)) (hTab.kept g (by simp)) (OwV.cellK (h 26 rfl).1),
    fun σ W g h hp hb=>by
     have hi:¬ x.1<l.length:=of_decide_eq_false (vB (h 28 rfl) (hp 28 0 false rfl))
     have hk:x.1<=40/\x.1<=l.length:=(h 25 rfl).2
     have hlen:((lp (l.take x.1))).length=x.1:=by simp [lp];omega
     exact F8 W _ _ (OwV.pts (h 69 rfl).1) (by simp [lp];omega) (trn_b (M8 fun d hd=>hL d (List.mem_of_mem_take hd)) (by omega)) (hTab.kept g (by simp)) (OwV.cellK (h 69 rfl).1),
    fun σ W g h hp hb=>by
     have hi:¬ x.1<l.length:=of_decide_eq_false (vB (h 28 rfl) (hp 28 0 false rfl))
     have hk:x.1<=40/\x.1<=l.length:=(h 25 rfl).2
     have hlen:((lp (l.take x.1))).length=x.1:=by simp [lp];omega
     have hb1:=(K2 (l:=(lp (l.take x.1))) (M8 fun d hd=>hL d (List.mem_of_mem_take hd)) (by omega))
     have hb2:=(K2 (l:=(((lp (l.take x.1))).drop 1++[((lp (l.take x.1))).getD 0 (0,0)])) (trn_b (M8 fun d hd=>hL d (List.mem_of_mem_take hd)) (by omega)) (by simp [lp];omega))
     exact toZ (F4 W _ _ _ _ 482 (h 75 rfl) (h 76 rfl) (by omega) hb1.1 hb1.2 hb2.1 hb2.2) rfl,
    fun σ W g h hp hb=>fun ρ o ho _ hv=>by
     have hi:¬ x.1<l.length:=of_decide_eq_false (vB (h 28 rfl) (hp 28 0 false rfl))
     have hk:x.1<=40/\x.1<=l.length:=(h 25 rfl).2
     have hlen:((lp (l.take x.1))).length=x.1:=by simp [lp];omega
     exact ⟨_,C8 true ho ((A1 hv).1.trans (h 77 rfl)) (A1 hv).2 (by rw [L4 (by rw [qI (by omega)])];rfl),rfl⟩,
    trivial⟩)
    (fun x=>⟨fun σ W g h hp=>⟨(0,none,none,none),(fun e=>nomatch e),⟨rfl,fun m hm=>(if_neg (by omega)).trans (if_neg (by omega)).symm⟩,⟨rfl,by omega,by omega⟩,⟨⟨OwV.nil kPt _ _,rfl⟩,fun q hq=>by cases hq⟩,⟨⟨OwV.nil kPt _ _,rfl,.inl rfl⟩,fun q hq=>by cases hq⟩,trivial⟩,
    fun σ W g h hp=>⟨rfl,_,rfl⟩,
    fun σ W g h hp=>⟨_,h 31 rfl⟩,
    fun σ W g h hp=>⟨(x.1,x.2.1,x.2.2.1,(σ.an 37 0).ownBlock),(fun e=>nomatch e),⟨rfl,fun m hm=>rfl⟩,⟨⟨(h 37 rfl).1,rfl⟩,fun q hq=>⟨37,rfl,hq⟩⟩,trivial⟩,
    fun σ W g h hp=>by
     have hi:x.1<l.length:=of_decide_eq_true (vB (h 28 rfl) (hp 28 0 true rfl))
     have h40:x.1<40:=of_decide_eq_true (vB (h 31 rfl) (hp 31 0 true rfl))
     exact ⟨(x.1+1,x.2.2.2,(σ.an 43 0).ownBlock,none),fun _=>by show (if 25=25 then 40-(x.1+1) else 0)<(if 25=25 then 40-x.1 else 0);rw [if_pos rfl,if_pos rfl];omega,⟨rfl,fun m hm=>(if_neg (by omega)).trans (if_neg (by omega)).symm⟩,⟨(h 44 rfl).trans (by push_cast;rfl),by omega,by omega⟩,⟨⟨(h 38 rfl).1,(h 38 rfl).2⟩,fun q hq=>⟨38,rfl,hq⟩⟩,⟨⟨by show OwV kPt _ _ _ (lp (l.take (x.1+1))).reverse;rw [jP hi,List.reverse_append];exact (h 43 rfl).1,rfl,.inr (h 43 rfl).2.2⟩,fun q hq=>⟨43,rfl,hq⟩⟩,trivial⟩,
    trivial⟩)
    (fun x hk=>⟨fun τ W g h hp hb=>⟨rfl,g⟩,
    fun τ W g h hp hb=>⟨rfl,g⟩,
    trivial⟩)
 · skip
   refine G6 B3 Tryd.func3 [sDt x0 y0 d0,sDt x1 y1 d1,sDt x2 y2 d2,sDt x3 y3 d3,sDts w.heap.size l] (fun x:Nat × Option Nat × Option Nat × Option Nat=>(sPt (lat x0 y0 d0) :: sPt (lat x1 y1 d1) :: sPt (lat x2 y2 d2) :: sPt (lat x3 y3 d3) :: sQ (A3 (lat x0 y0 d0) (lat x1 y1 d1) (lat x2 y2 d2)) :: sV (.bool true) :: sQ (A3 (lat x1 y1 d1) (lat x2 y2 d2) (lat x0 y0 d0)) :: sZ (G4 (A3 (lat x0 y0 d0) (lat x1 y1 d1) (lat x2 y2 d2)) (A3 (lat x1 y1 d1) (lat x2 y2 d2) (lat x0 y0 d0))) :: sV (.bool false) :: sQ (A3 (lat x1 y1 d1) (lat x0 y0 d0) (lat x2 y2 d2)) :: sQ (-(A3 (lat x1 y1 d1) (lat x0 y0 d0) (lat x2 y2 d2))) :: sZ (G4 (A3 (lat x0 y0 d0) (lat x1 y1 d1) (lat x2 y2 d2)) (-(A3 (lat x1 y1 d1) (lat x0 y0 d0) (lat x2 y2 d2)))) :: sV (.bool false) :: sQ (A3 (lat x0 y0 d0) (lat x1 y1 d1) (lat x3 y3 d3)) :: sQ (A3 (lat x1 y1 d1) (lat x2 y2 d2) (lat x3 y3 d3)) :: sQ ((A3 (lat x0 y0 d0) (lat x1 y1 d1) (lat x3 y3 d3))+(A3 (lat x1 y1 d1) (lat x2 y2 d2) (lat x3 y3 d3))) :: sQ (A3 (lat x2 y2 d2) (lat x0 y0 d0) (lat x3 y3 d3)) :: sQ (((A3 (lat x0 y0 d0) (lat x1 y1 d1) (lat x3 y3 d3))+(A3 (lat x1 y1 d1) (lat x2 y2 d2) (lat x3 y3 d3)))+(A3 (lat x2 y2 d2) (lat x0 y0 d0) (lat x3 y3 d3))) :: sZ (G4 (((A3 (lat x0 y0 d0) (lat x1 y1 d1) (lat x3 y3 d3))+(A3 (lat x1 y1 d1) (lat x2 y2 d2) (lat x3 y3 d3)))+(A3 (lat x2 y2 d2) (lat x0 y0 d0) (lat x3 y3 d3))) (A3 (lat x0 y0 d0) (lat x1 y1 d1) (lat x2 y2 d2))) :: sV (.bool false) :: sZc (x.1<=40/\x.1<=l.length) (x.1:Int) :: sOa false kPt w.heap.size (fun o=>o=x.2.1) (lp (l.take x.1)) :: sOa false kPt w.heap.size (fun o=>o=x.2.2.1/\(o=none\/o≠x.2.1)) (lp (l.take x.1)).reverse :: sBq (decide (x.1<l.length)) :: sZ l.length :: sV (.bool true) :: sBq (decide (x.1<40)) :: sZ l.length :: sV (.bool false) :: sDa w.heap.size (dg l x.1) :: sDt (dg l x.1).1 (dg l x.1).2.1 (dg l x.1).2.2 :: sPt (lat (dg l x.1).1 (dg l x.1).2.1 (dg l x.1).2.2) :: sOa false kPt w.heap.size (fun _=>True) (lp (l.take (x.1+1))) :: sOa false kPt w.heap.size (fun o=>o=x.2.2.2) (lp (l.take (x.1+1))) :: sDa w.heap.size (dg l x.1) :: sDt (dg l x.1).1 (dg l x.1).2.1 (dg l x.1).2.2 :: sPt (lat (dg l x.1).1 (dg l x.1).2.1 (dg l x.1).2.2) :: sOa true kPt w.heap.size (fun o=>o≠none/\o≠x.2.1/\o≠x.2.2.1/\o≠x.2.2.2) [(lat (dg l x.1).1 (dg l x.1).2.1 (dg l x.1).2.2)] :: sOa false kPt w.heap.size (fun o=>o≠none/\o≠x.2.2.2) ((lat (dg l x.1).1 (dg l x.1).2.1 (dg l x.1).2.2) :: (lp (l.take x.1)).reverse) :: sZ ((x.1:Int)+1) :: sZ ((lp (l.take x.1))).length :: sV (.bool false) :: sQ (E1 (lp (l.take x.1))) :: sQ (E1 (lp (l.take x.1)).reverse) :: sQ (-E1 (lp (l.take x.1)).reverse) :: sZ (G4 (E1 (lp (l.take x.1))) (-E1 (lp (l.take x.1)).reverse)) :: sV (.bool true) :: sQ (E1 (lp (l.take x.1))) :: sQ (E1 []) :: sZ (G4 (E1 (lp (l.take x.1))) (E1 [])) :: sV (.bool true) :: sZ ((lp (l.take x.1))).length :: sV (.bool false) :: sQ (E1 (lp (l.take x.1))) :: sQ (E1 (lp (l.take x.1)).reverse) :: sQ (-E1 (lp (l.take x.1)).reverse) :: sZ (G4 (E1 (lp (l.take x.1))) (-E1 (lp (l.take x.1)).reverse)) :: sV (.bool true) :: sQ (E1 (lp (l.take x.1))) :: sQ (E1 []) :: sZ (G4 (E1 (lp (l.take x.1))) (E1 [])) :: sV (.bool true) :: [])) (fun m x=>if m=25 then 40-x.1 else 0) ((0,none,none,none)) (fun _=>rfl) [1000000,7,2000010,3000037] [some [[.t 72,.t 73,.t 74,.t 75,.t 76,.t 77,.t 78,.t 79,.t 80,.t 81,.t 82,.t 83,.t 84,.t 85,.t 86,.t 87,.t 88,.t 89,.t 90,.t 91,.t 92,.t 93,.t 94,.t 95,.t 96,.t 97],[.t 19],[.t 16],[.t 17]],none,some [[],[.t 16]]] (.cons rfl (.cons rfl (.cons rfl (.cons rfl (.cons Ha .nil))))) (rs:=[(cl 5 6 [ag 3 0],[]),(cl 6 6 [ag 3 1],[]),(cl 7 6 [ag 3 2],[]),(cl 8 6 [ag 3 3],[]),(cl 9 7 [ag 8 5,ag 8 6,ag 8 7],[]),(cl 10 8 [],[]),(cl 11 7 [ag 8 6,ag 8 7,ag 8 5],[]),(cl 12 9 [ag 4 9,ag 4 11],[]),(co 13 (.binOp .neq 3 (.tmp 40) (.const (.int .i64 0)) 3) 4 [on 12,.v false [.lit (.int .i64 0)]] [0,1,2,3,4,5,6,7,8,9,10,11,12] [],[]),(cl 14 7 [ag 8 6,ag 8 5,ag 8 7],[]),(cl 15 10 [ag 4 14],[]),(cl 16 9 [ag 4 9,ag 4 15],[]),(co 17 (.binOp .neq 3 (.tmp 50) (.const (.int .i64 0)) 3) 4 [on 16,.v false [.lit (.int .i64 0)]] [0,1,2,3,4,5,6,7,8,9,10,11,12,13,14,15,16] [],[]),(cl 18 7 [ag 8 5,ag 8 6,ag 8 8],[]),(cl 19 7 [ag 8 6,ag 8 7,ag 8 8],[]),(cl 20 11 [ag 4 18,ag 4 19],[]),(cl 21 7 [ag 8 7,ag 8 5,ag 8 8],[]),(cl 22 11 [ag 4 20,ag 4 21],[]),(cl 23 9 [ag 4 22,ag 4 9],[]),(co 24 (.binOp .neq 3 (.tmp 69) (.const (.int .i64 0)) 3) 4 [on 23,.v false [.lit (.int .i64 0)]] [0,1,2,3,4,5,6,7,8,9,10,11,12,13,14,15,16,17,18,19,20,21,22,23] [],[]),(co 29 (.call ⟨.builtin .len, #[(.tmp 73)], #[24]⟩) 3 [on 4] [0,1,2,3,4,5,6,7,8,9,10,11,12,13,14,15,16,17,18,19,20,21,22,23,24,25,26,27,28] [],[(28,0,true)]),(co 30 (.binOp .lss 3 (.tmp 72) (.tmp 74) 3) 4 [on 25,on 29] [0,1,2,3,4,5,6,7,8,9,10,11,12,13,14,15,16,17,18,19,20,21,22,23,24,25,26,27,28,29] [],[(28,0,true)]),(co 31 (.binOp .lss 3 (.tmp 77) (.const (.int .i64 40)) 3) 4 [on 25,.v false [.lit (.int .i64 40)]] [0,1,2,3,4,5,6,7,8,9,10,11,12,13,14,15,16,17,18,19,20,21,22,23,24,25,26,27,28,29,30] [],[(28,0,true)]),(co 32 (.call ⟨.builtin .len, #[(.tmp 73)], #[24]⟩) 3 [on 4] [0,1,2,3,4,5,6,7,8,9,10,11,12,13,14,15,16,17,18,19,20,21,22,23,24,25,26,27,28] [],[(28,0,false)]),(co 33 (.binOp .lss 3 (.tmp 72) (.tmp 74) 3) 4 [on 25,on 32] [0,1,2,3,4,5,6,7,8,9,10,11,12,13,14,15,16,17,18,19,20,21,22,23,24,25,26,27,28,32] [],[(28,0,false)]),(co 34 (.indexAddr 24 (.tmp 83) (.tmp 84)) 0 [on 4,on 25] [0,1,2,3,4,5,6,7,8,9,10,11,12,13,14,15,16,17,18,19,20,21,22,23,24,25,26,27,28,29,30,31] [],[(31,0,true),(28,0,true)]),(co 35 (.load 23 (.tmp 85)) 23 [on 34] [0,1,2,3,4,5,6,7,8,9,10,11,12,13,14,15,16,17,18,19,20,21,22,23,24,25,26,27,28,29,30,31,34] [],[(31,0,true),(28,0,true)]),(cla 36 6 [ag 3 35] [0,1,2,3,4,5,6,7,8,9,10,11,12,13,14,15,16,17,18,19,20,21,22,23,24,25,26,27,28,29,30,31,34,35],[(31,0,true),(28,0,true)]),(cow 37 (.call ⟨.builtin .append, #[(.tmp 82),(.tmp 88)], #[40,40]⟩) 40 [on 26,.v false [.row 9 0 1 1]] [0,1,2,3,4,5,6,7,8,9,10,11,12,13,14,15,16,17,18,19,20,21,22,23,24,25,26,27,28,29,30,31,34,35,36] [(9,33,[.an 36 0,.an 36 1,.an 36 2,.an 36 3,.an 36 4,.an 36 5,.an 36 6,.an 36 7])],[(31,0,true),(28,0,true)]),(co 39 (.indexAddr 24 (.tmp 90) (.tmp 91)) 0 [on 4,on 25] [0,1,2,3,4,5,6,7,8,9,10,11,12,13,14,15,16,17,18,19,20,21,22,23,24,25,26,27,28,29,30,31,34,35,36,38] [],[(31,0,true),(28,0,true)]),(co 40 (.load 23 (.tmp 92)) 23 [on 39] [0,1,2,3,4,5,6,7,8,9,10,11,12,13,14,15,16,17,18,19,20,21,22,23,24,25,26,27,28,29,30,31,34,35,36,38,39] [],[(31,0,true),(28,0,true)]),(cla 41 6 [ag 3 40] [0,1,2,3,4,5,6,7,8,9,10,11,12,13,14,15,16,17,18,19,20,21,22,23,24,25,26,27,28,29,30,31,34,35,36,38,39,40],[(31,0,true),(28,0,true)]),(cog 42 (.buildSlice 40 1 #[(0,Operand.tmp 94)]) 40 [ag 8 41] [0,1,2,3,4,5,6,7,8,9,10,11,12,13,14,15,16,17,18,19,20,21,22,23,24,25,26,27,28,29,30,31,34,35,36,38,39,40,41] [],[(31,0,true),(28,0,true)]),(cow 43 (.call ⟨.builtin .append, #[(.tmp 95),(.tmp 96)], #[40,40]⟩) 40 [on 42,on 27] [0,1,2,3,4,5,6,7,8,9,10,11,12,13,14,15,16,17,18,19,20,21,22,23,24,25,26,27,28,29,30,31,34,35,36,38,39,40,41,42] [],[(31,0,true),(28,0,true)]),(co 44 (.binOp .add 3 (.tmp 80) (.const (.int .i64 1)) 3) 3 [on 25,.v false [.lit (.int .i64 1)]] [0,1,2,3,4,5,6,7,8,9,10,11,12,13,14,15,16,17,18,19,20,21,22,23,24,25,26,27,28,29,30,31,34,35,36,38,39,40,41,42,43] [],[(31,0,true),(28,0,true)]),(co 45 (.call ⟨.builtin .len, #[(.tmp 98)], #[40]⟩) 3 [on 26] [0,1,2,3,4,5,6,7,8,9,10,11,12,13,14,15,16,17,18,19,20,21,22,23,24,25,26,27,28,29,30,31] [],[(31,0,false),(28,0,true)]),(co 46 (.binOp .gtr 3 (.tmp 99) (.const (.int .i64 0)) 3) 4 [on 45,.v false [.lit (.int .i64 0)]] [0,1,2,3,4,5,6,7,8,9,10,11,12,13,14,15,16,17,18,19,20,21,22,23,24,25,26,27,28,29,30,31,45] [],[(31,0,false),(28,0,true)]),(cla 47 12 [on 26] [0,1,2,3,4,5,6,7,8,9,10,11,12,13,14,15,16,17,18,19,20,21,22,23,24,25,26,27,28,29,30,31,45,46],[(31,0,false),(28,0,true)]),(cla 48 12 [on 27] [0,1,2,3,4,5,6,7,8,9,10,11,12,13,14,15,16,17,18,19,20,21,22,23,24,25,26,27,28,29,30,31,45,46,47],[(31,0,false),(28,0,true)]),(cla 49 10 [ag 4 48] [0,1,2,3,4,5,6,7,8,9,10,11,12,13,14,15,16,17,18,19,20,21,22,23,24,25,26,27,28,29,30,31,45,46,47,48],[(31,0,false),(28,0,true)]),(cla 50 9 [ag 4 47,ag 4 49] [0,1,2,3,4,5,6,7,8,9,10,11,12,13,14,15,16,17,18,19,20,21,22,23,24,25,26,27,28,29,30,31,45,46,47,48,49],[(31,0,false),(28,0,true)]),(co 51 (.binOp .eql 3 (.tmp 115) (.const (.int .i64 0)) 3) 4 [on 50,.v false [.lit (.int .i64 0)]] [0,1,2,3,4,5,6,7,8,9,10,11,12,13,14,15,16,17,18,19,20,21,22,23,24,25,26,27,28,29,30,31,45,46,47,48,49,50] [],[(31,0,false),(28,0,true)]),(cla 52 12 [on 26] [0,1,2,3,4,5,6,7,8,9,10,11,12,13,14,15,16,17,18,19,20,21,22,23,24,25,26,27,28,29,30,31,45,46,47,48,49,50,51],[(31,0,false),(28,0,true)]),(cla 53 12 [.v false [.lit (.slice none 0 0)]] [0,1,2,3,4,5,6,7,8,9,10,11,12,13,14,15,16,17,18,19,20,21,22,23,24,25,26,27,28,29,30,31,45,46,47,48,49,50,51,52],[(31,0,false),(28,0,true)]),(cla 54 9 [ag 4 52,ag 4 53] [0,1,2,3,4,5,6,7,8,9,10,11,12,13,14,15,16,17,18,19,20,21,22,23,24,25,26,27,28,29,30,31,45,46,47,48,49,50,51,52,53],[(31,0,false),(28,0,true)]),(co 55 (.binOp .eql 3 (.tmp 122) (.const (.int .i64 0)) 3) 4 [on 54,.v false [.lit (.int .i64 0)]] [0,1,2,3,4,5,6,7,8,9,10,11,12,13,14,15,16,17,18,19,20,21,22,23,24,25,26,27,28,29,30,31,45,46,47,48,49,50,51,52,53,54] [],[(31,0,false),(28,0,true)]),(co 56 (.call ⟨.builtin .len, #[(.tmp 98)], #[40]⟩) 3 [on 26] [0,1,2,3,4,5,6,7,8,9,10,11,12,13,14,15,16,17,18,19,20,21,22,23,24,25,26,27,28,32,33] [],[(28,0,false)]),(co 57 (.binOp .gtr 3 (.tmp 99) (.const (.int .i64 0)) 3) 4 [on 56,.v false [.lit (.int .i64 0)]] [0,1,2,3,4,5,6,7,8,9,10,11,12,13,14,15,16,17,18,19,20,21,22,23,24,25,26,27,28,32,33,56] [],[(28,0,false)]),(cla 58 12 [on 26] [0,1,2,3,4,5,6,7,8,9,10,11,12,13,14,15,16,17,18,19,20,21,22,23,24,25,26,27,28,32,33,56,57],[(28,0,false)]),(cla 59 12 [on 27] [0,1,2,3,4,5,6,7,8,9,10,11,12,13,14,15,16,17,18,19,20,21,22,23,24,25,26,27,28,32,33,56,57,58],[(28,0,false)]),(cla 60 10 [ag 4 59] [0,1,2,3,4,5,6,7,8,9,10,11,12,13,14,15,16,17,18,19,20,21,22,23,24,25,26,27,28,32,33,56,57,58,59],[(28,0,false)]),(cla 61 9 [ag 4 58,ag 4 60] [0,1,2,3,4,5,6,7,8,9,10,11,12,13,14,15,16,17,18,19,20,21,22,23,24,25,26,27,28,32,33,56,57,58,59,60],[(28,0,false)]),(co 62 (.binOp .eql 3 (.tmp 115) (.const (.int .i64 0)) 3) 4 [on 61,.v false [.lit (.int .i64 0)]] [0,1,2,3,4,5,6,7,8,9,10,11,12,13,14,15,16,17,18,19,20,21,22,23,24,25,26,27,28,32,33,56,57,58,59,60,61] [],[(28,0,false)]),(cla 63 12 [on 26] [0,1,2,3,4,5,6,7,8,9,10,11,12,13,14,15,16,17,18,19,20,21,22,23,24,25,26,27,28,32,33,56,57,58,59,60,61,62],[(28,0,false)]),(cla 64 12 [.v false [.lit (.slice none 0 0)]] [0,1,2,3,4,5,6,7,8,9,10,11,12,13,14,15,16,17,18,19,20,21,22,23,24,25,26,27,28,32,33,56,57,58,59,60,61,62,63],[(28,0,false)]),(cla 65 9 [ag 4 63,ag 4 64] [0,1,2,3,4,5,6,7,8,9,10,11,12,13,14,15,16,17,18,19,20,21,22,23,24,25,26,27,28,32,33,56,57,58,59,60,61,62,63,64],[(28,0,false)]),(co 66 (.binOp .eql 3 (.tmp 122) (.const (.int .i64 0)) 3) 4 [on 65,.v false [.lit (.int .i64 0)]] [0,1,2,3,4,5,6,7,8,9,10,11,12,13,14,15,16,17,18,19,20,21,22,23,24,25,26,27,28,32,33,56,57,58,59,60,61,62,63,64,65] [],[(28,0,false)])]) (js:=[.loop false 25 [(25,.v false [.lit (.int .i64 0)]),(26,.v false [.lit (.slice none 0 0)]),(27,.v false [.lit (.slice none 0 0)])] (List.range 25) [],.ghost 28 (List.range 28) [],.test 31 0 (List.range 32) [(28,0,true)],.loop false 38 [(38,on 37)] [0,1,2,3,4,5,6,7,8,9,10,11,12,13,14,15,16,17,18,19,20,21,22,23,24,25,26,27,28,29,30,31,34,35,36,37] [(31,0,true),(28,0,true)],.loop true 25 [(25,on 44),(26,on 38),(27,on 43)] [0,1,2,3,4,5,6,7,8,9,10,11,12,13,14,15,16,17,18,19,20,21,22,23,24,25,26,27,28,29,30,31,34,35,36,38,39,40,41,42,43,44] [(31,0,true),(28,0,true)]]) (outs:=[⟨.v false [.lit (.bool true)],[0,1,2,3,4,5,6,7,8,9,10,11,12,13,14,15,16,17,18,19,20,21,22,23,24,25,26,27,28,29,30,31,45,46,47,48,49,50,51,52,53,54,55],[(31,0,false),(28,0,true)],[],[]⟩,⟨.v false [.lit (.bool true)],[0,1,2,3,4,5,6,7,8,9,10,11,12,13,14,15,16,17,18,19,20,21,22,23,24,25,26,27,28,32,33,56,57,58,59,60,61,62,63,64,65,66],[(28,0,false)],[],[]⟩]) (nc:=67) (by kernel_rfl)
    (fun x=>⟨fun σ W g h hp hb=>V3 (congrArg (fun v=>[v]) (h 0 rfl)) (J4 W x0 y0 d0 a0 b0 c0 e0 (hTab.kept g (by simp))),
    fun σ W g h hp hb=>V3 (congrArg (fun v=>[v]) (h 1 rfl)) (J4 W x1 y1 d1 a1 b1 c1 e1 (hTab.kept g (by simp))),
    fun σ W g h hp hb=>V3 (congrArg (fun v=>[v]) (h 2 rfl)) (J4 W x2 y2 d2 a2 b2 c2 e2 (hTab.kept g (by simp))),
    fun σ W g h hp hb=>V3 (congrArg (fun v=>[v]) (h 3 rfl)) (J4 W x3 y3 d3 a3 b3 c3 e3 (hTab.kept g (by simp))),
    fun σ W g h hp hb=>F2 W _ _ _ (lat x0 y0 d0) (lat x1 y1 d1) (lat x2 y2 d2) 1 (h 5 rfl) (h 6 rfl) (h 7 rfl) (by omega) (A8 a0 b0 c0 e0) (A8 a1 b1 c1 e1) (A8 a2 b2 c2 e2) (hTab.kept g (by simp)),
    fun σ W g h hp hb=>toV (nQ W (hTab.kept g (by simp))) rfl,
    fun σ W g h hp hb=>F2 W _ _ _ (lat x1 y1 d1) (lat x2 y2 d2) (lat x0 y0 d0) 1 (h 6 rfl) (h 7 rfl) (h 5 rfl) (by omega) (A8 a1 b1 c1 e1) (A8 a2 b2 c2 e2) (A8 a0 b0 c0 e0) (hTab.kept g (by simp)),
    fun σ W g h hp hb=>toZ (F4 W _ _ (A3 (lat x0 y0 d0) (lat x1 y1 d1) (lat x2 y2 d2)) (A3 (lat x1 y1 d1) (lat x2 y2 d2) (lat x0 y0 d0)) 13 (h 9 rfl) (h 11 rfl) (by omega) ((Bp.cross (A8 a0 b0 c0 e0) (A8 a1 b1 c1 e1) (A8 a2 b2 c2 e2))).1 ((Bp.cross (A8 a0 b0 c0 e0) (A8 a1 b1 c1 e1) (A8 a2 b2 c2 e2))).2 ((Bp.cross (A8 a1 b1 c1 e1) (A8 a2 b2 c2 e2) (A8 a0 b0 c0 e0))).1 ((Bp.cross (A8 a1 b1 c1 e1) (A8 a2 b2 c2 e2) (A8 a0 b0 c0 e0))).2) rfl,
    fun σ W g h hp hb=>fun ρ o ho _ hv=>⟨_,P0 false ho ((A1 hv).1.trans (h 12 rfl)) (A1 hv).2 (by rw [L4 (qB _ _ _)];rfl),rfl⟩,
    fun σ W g h hp hb=>F2 W _ _ _ (lat x1 y1 d1) (lat x0 y0 d0) (lat x2 y2 d2) 1 (h 6 rfl) (h 5 rfl) (h 7 rfl) (by omega) (A8 a1 b1 c1 e1) (A8 a0 b0 c0 e0) (A8 a2 b2 c2 e2) (hTab.kept g (by simp)),
    fun σ W g h hp hb=>Z3 W _ (A3 (lat x1 y1 d1) (lat x0 y0 d0) (lat x2 y2 d2)) 13 (h 14 rfl) (by omega) ((Bp.cross (A8 a1 b1 c1 e1) (A8 a0 b0 c0 e0) (A8 a2 b2 c2 e2))).1 ((Bp.cross (A8 a1 b1 c1 e1) (A8 a0 b0 c0 e0) (A8 a2 b2 c2 e2))).2,
    fun σ W g h hp hb=>toZ (F4 W _ _ (A3 (lat x0 y0 d0) (lat x1 y1 d1) (lat x2 y2 d2)) (-(A3 (lat x1 y1 d1) (lat x0 y0 d0) (lat x2 y2 d2))) 13 (h 9 rfl) (h 15 rfl) (by omega) ((Bp.cross (A8 a0 b0 c0 e0) (A8 a1 b1 c1 e1) (A8 a2 b2 c2 e2))).1 ((Bp.cross (A8 a0 b0 c0 e0) (A8 a1 b1 c1 e1) (A8 a2 b2 c2 e2))).2 (((Bp.cross (A8 a1 b1 c1 e1) (A8 a0 b0 c0 e0) (A8 a2 b2 c2 e2))).neg).1 (((Bp.cross (A8 a1 b1 c1 e1) (A8 a0 b0 c0 e0) (A8 a2 b2 c2 e2))).neg).2) rfl,
    fun σ W g h hp hb=>fun ρ o ho _ hv=>⟨_,P0 false ho ((A1 hv).1.trans (h 16 rfl)) (A1 hv).2 (by rw [L4 (mP _ _ _)];rfl),rfl⟩,
    fun σ W g h hp hb=>F2 W _ _ _ (lat x0 y0 d0) (lat x1 y1 d1) (lat x3 y3 d3) 1 (h 5 rfl) (h 6 rfl) (h 8 rfl) (by omega) (A8 a0 b0 c0 e0) (A8 a1 b1 c1 e1) (A8 a3 b3 c3 e3) (hTab.kept g (by simp)),
    fun σ W g h hp hb=>F2 W _ _ _ (lat x1 y1 d1) (lat x2 y2 d2) (lat x3 y3 d3) 1 (h 6 rfl) (h 7 rfl) (h 8 rfl) (by omega) (A8 a1 b1 c1 e1) (A8 a2 b2 c2 e2) (A8 a3 b3 c3 e3) (hTab.kept g (by simp)),
    fun σ W g h hp hb=>P6 W _ _ (A3 (lat x0 y0 d0) (lat x1 y1 d1) (lat x3 y3 d3)) (A3 (lat x1 y1 d1) (lat x2 y2 d2) (lat x3 y3 d3)) 13 (h 18 rfl) (h 19 rfl) (by omega) ((Bp.cross (A8 a0 b0 c0 e0) (A8 a1 b1 c1 e1) (A8 a3 b3 c3 e3))).1 ((Bp.cross (A8 a0 b0 c0 e0) (A8 a1 b1 c1 e1) (A8 a3 b3 c3 e3))).2 ((Bp.cross (A8 a1 b1 c1 e1) (A8 a2 b2 c2 e2) (A8 a3 b3 c3 e3))).1 ((Bp.cross (A8 a1 b1 c1 e1) (A8 a2 b2 c2 e2) (A8 a3 b3 c3 e3))).2 (hTab.kept g (by simp)),
    fun σ W g h hp hb=>F2 W _ _ _ (lat x2 y2 d2) (lat x0 y0 d0) (lat x3 y3 d3) 1 (h 7 rfl) (h 5 rfl) (h 8 rfl) (by omega) (A8 a2 b2 c2 e2) (A8 a0 b0 c0 e0) (A8 a3 b3 c3 e3) (hTab.kept g (by simp)),
    fun σ W g h hp hb=>P6 W _ _ ((A3 (lat x0 y0 d0) (lat x1 y1 d1) (lat x3 y3 d3))+(A3 (lat x1 y1 d1) (lat x2 y2 d2) (lat x3 y3 d3))) (A3 (lat x2 y2 d2) (lat x0 y0 d0) (lat x3 y3 d3)) 27 (h 20 rfl) (h 21 rfl) (by omega) ((((Bp.cross (A8 a0 b0 c0 e0) (A8 a1 b1 c1 e1) (A8 a3 b3 c3 e3))).add ((Bp.cross (A8 a1 b1 c1 e1) (A8 a2 b2 c2 e2) (A8 a3 b3 c3 e3))))).1 ((((Bp.cross (A8 a0 b0 c0 e0) (A8 a1 b1 c1 e1) (A8 a3 b3 c3 e3))).add ((Bp.cross (A8 a1 b1 c1 e1) (A8 a2 b2 c2 e2) (A8 a3 b3 c3 e3))))).2 (((Bp.cross (A8 a2 b2 c2 e2) (A8 a0 b0 c0 e0) (A8 a3 b3 c3 e3))).mono (M:=27) (by omega)).1 (((Bp.cross (A8 a2 b2 c2 e2) (A8 a0 b0 c0 e0) (A8 a3 b3 c3 e3))).mono (M:=27) (by omega)).2 (hTab.kept g (by simp)),
    fun σ W g h hp hb=>toZ (F4 W _ _ (((A3 (lat x0 y0 d0) (lat x1 y1 d1) (lat x3 y3 d3))+(A3 (lat x1 y1 d1) (lat x2 y2 d2) (lat x3 y3 d3)))+(A3 (lat x2 y2 d2) (lat x0 y0 d0) (lat x3 y3 d3))) (A3 (lat x0 y0 d0) (lat x1 y1 d1) (lat x2 y2 d2)) 55 (h 22 rfl) (h 9 rfl) (by omega) (((((Bp.cross (A8 a0 b0 c0 e0) (A8 a1 b1 c1 e1) (A8 a3 b3 c3 e3))).add ((Bp.cross (A8 a1 b1 c1 e1) (A8 a2 b2 c2 e2) (A8 a3 b3 c3 e3)))).add (((Bp.cross (A8 a2 b2 c2 e2) (A8 a0 b0 c0 e0) (A8 a3 b3 c3 e3))).mono (M:=27) (by omega)))).1 (((((Bp.cross (A8 a0 b0 c0 e0) (A8 a1 b1 c1 e1) (A8 a3 b3 c3 e3))).add ((Bp.cross (A8 a1 b1 c1 e1) (A8 a2 b2 c2 e2) (A8 a3 b3 c3 e3)))).add (((Bp.cross (A8 a2 b2 c2 e2) (A8 a0 b0 c0 e0) (A8 a3 b3 c3 e3))).mono (M:=27) (by omega)))).2 (((Bp.cross (A8 a0 b0 c0 e0) (A8 a1 b1 c1 e1) (A8 a2 b2 c2 e2))).mono (M:=55) (by omega)).1 (((Bp.cross (A8 a0 b0 c0 e0) (A8 a1 b1 c1 e1) (A8 a2 b2 c2 e2))).mono (M:=55) (by omega)).2) rfl,
    fun σ W g h hp hb=>fun ρ o ho _ hv=>⟨_,P0 false ho ((A1 hv).1.trans (h 23 rfl)) (A1 hv).2 (by rw [L4 (qA _ _ _ _)];rfl),rfl⟩,
    fun σ W g h hp hb=>fun ρ o ho _ hv=>⟨_,jU (h 4 rfl) ho (B2 hv) ⟨23,by kernel_rfl⟩,rfl⟩,
    fun σ W g h hp hb=>fun ρ o ho _ hv=>by
     have hi:x.1<l.length:=of_decide_eq_true (vB (h 28 rfl) (hp 28 0 true rfl))
     exact ⟨_,U4 ho ((A1 hv).1.trans (h 25 rfl).1) ((A1 hv).2.trans (h 29 rfl)) (decide_eq_true (by omega)),rfl⟩,
    fun σ W g h hp hb=>fun ρ o ho _ hv=>⟨_,U4 ho ((A1 hv).1.trans (h 25 rfl).1) (A1 hv).2 (decide_eq_decide.2 (by omega)),rfl⟩,
    fun σ W g h hp hb=>fun ρ o ho _ hv=>⟨_,jU (h 4 rfl) ho (B2 hv) ⟨23,by kernel_rfl⟩,rfl⟩,
    fun σ W g h hp hb=>fun ρ o ho _ hv=>by
     have q:=of_decide_eq_false (vB (h 28 rfl) (hp 28 0 false rfl))
     exact ⟨_,U4 ho ((A1 hv).1.trans (h 25 rfl).1) ((A1 hv).2.trans (h 32 rfl)) (decide_eq_false (by omega)),rfl⟩,
    fun σ W g h hp hb=>fun ρ o ho _ hv=>by
     have hi:x.1<l.length:=of_decide_eq_true (vB (h 28 rfl) (hp 28 0 true rfl))
     have h40:x.1<40:=of_decide_eq_true (vB (h 31 rfl) (hp 31 0 true rfl))
     obtain ⟨u,h1,h2,h3⟩:=rV (h 4 rfl) ho (A1 hv).1 x.1 hi ((A1 hv).2.trans (h 25 rfl).1)
     exact ⟨u,h1,h2,fun q hq=>⟨4,rfl,h3 q hq⟩⟩,
    fun σ W g h hp hb=>fun ρ o ho _ hv=>fL (h 34 rfl) ho (B2 hv),
    fun σ W g h hp hb=>by
     have hi:x.1<l.length:=of_decide_eq_true (vB (h 28 rfl) (hp 28 0 true rfl))
     have h40:x.1<40:=of_decide_eq_true (vB (h 31 rfl) (hp 31 0 true rfl))
     have hs:=hL _ (rX hi)
     exact V3 (congrArg (fun v=>[v]) (h 35 rfl)) (J4 W _ _ _ hs.1.1 hs.1.2 hs.2.1 hs.2.2 (hTab.kept g (by simp))),
    fun σ W g h hp hb=>fun ρ o ho _ hv=>by
     have hi:x.1<l.length:=of_decide_eq_true (vB (h 28 rfl) (hp 28 0 true rfl))
     have h40:x.1<40:=of_decide_eq_true (vB (h 31 rfl) (hp 31 0 true rfl))
     exact aV kPt (b0:=false) (A0:=(fun o=>o=x.2.1)) (l:=(lp (l.take x.1))) (A2:=(fun _=>True)) (l2:=(lp (l.take (x.1+1)))) g (m0:=26) rfl rfl rfl rfl (h 26 rfl) (fun _ _=>trivial) (by rw [jP hi];exact R8 kPt (by kernel_rfl) N0 (by decide) (h 26 rfl).1 (cs:=[σ.an 36 0, σ.an 36 1, σ.an 36 2, σ.an 36 3, σ.an 36 4, σ.an 36 5, σ.an 36 6, σ.an 36 7]) rfl (hb.1 _ (.head _)) (h 36 rfl) (PtV.one (h 36 rfl)) (by simp [lp];omega) g.size ho (A1 hv).1 (A1 hv).2)
      (fun m hm hne hr=>by
      match m,hm,hne,hr with
      | 0,_,_,hr=>exact absurd hr Bool.false_ne_true
      | 1,_,_,hr=>exact absurd hr Bool.false_ne_true
      | 2,_,_,hr=>exact absurd hr Bool.false_ne_true
      | 3,_,_,hr=>exact absurd hr Bool.false_ne_true
      | 4,_,_,_=>exact .inl ⟨h 4 rfl,fun q hq=>C0 (h 26 rfl).1 (DtsV.block (h 4 rfl) hq)⟩
      | 5,_,_,hr=>exact absurd hr Bool.false_ne_true
      | 6,_,_,hr=>exact absurd hr Bool.false_ne_true
      | 7,_,_,hr=>exact absurd hr Bool.false_ne_true
      | 8,_,_,hr=>exact absurd hr Bool.false_ne_true
      | 9,_,_,hr=>exact absurd hr Bool.false_ne_true
      | 10,_,_,hr=>exact absurd hr Bool.false_ne_true
      | 11,_,_,hr=>exact absurd hr Bool.false_ne_true
      | 12,_,_,hr=>exact absurd hr Bool.false_ne_true
      | 13,_,_,hr=>exact absurd hr Bool.false_ne_true
      | 14,_,_,hr=>exact absurd hr Bool.false_ne_true
      | 15,_,_,hr=>exact absurd hr Bool.false_ne_true
      | 16,_,_,hr=>exact absurd hr Bool.false_ne_true
      | 17,_,_,hr=>exact absurd hr Bool.false_ne_true
      | 18,_,_,hr=>exact absurd hr Bool.false_ne_true
      | 19,_,_,hr=>exact absurd hr Bool.false_ne_true
      | 20,_,_,hr=>exact absurd hr Bool.false_ne_true
      | 21,_,_,hr=>exact absurd hr Bool.false_ne_true
      | 22,_,_,hr=>exact absurd hr Bool.false_ne_true
      | 23,_,_,hr=>exact absurd hr Bool.false_ne_true
      | 24,_,_,hr=>exact absurd hr Bool.false_ne_true
      | 25,_,_,hr=>exact absurd hr Bool.false_ne_true
      | 26,_,hne,_=>exact absurd rfl hne
      | 27,_,_,_=>exact .inl ⟨h 27 rfl,fun q hq e=>(h 27 rfl).2.2.elim (fun z=>nomatch (z.symm.trans hq)) fun z=>z (hq.trans (e.symm.trans (h 26 rfl).2))⟩
      | 28,_,_,hr=>exact absurd hr Bool.false_ne_true
      | 29,_,_,hr=>exact absurd hr Bool.false_ne_true
      | 30,_,_,hr=>exact absurd hr Bool.false_ne_true
      | 31,_,_,hr=>exact absurd hr Bool.false_ne_true
      | 32,_,_,hr=>exact absurd hr Bool.false_ne_true
      | 33,_,_,hr=>exact absurd hr Bool.false_ne_true
      | 34,_,_,_=>exact .inl ⟨h 34 rfl,fun q hq=>C0 (h 26 rfl).1 (DaV.block (h 34 rfl) hq)⟩
      | 35,_,_,hr=>exact absurd hr Bool.false_ne_true
      | 36,_,_,hr=>exact absurd hr Bool.false_ne_true
      | j+37,hm,_,_=>exact absurd hm (by simp)),
    fun σ W g h hp hb=>fun ρ o ho _ hv=>by
     have hi:x.1<l.length:=of_decide_eq_true (vB (h 28 rfl) (hp 28 0 true rfl))
     have h40:x.1<40:=of_decide_eq_true (vB (h 31 rfl) (hp 31 0 true rfl))
     obtain ⟨u,h1,h2,h3⟩:=rV (h 4 rfl) ho (A1 hv).1 x.1 hi ((A1 hv).2.trans (h 25 rfl).1)
     exact ⟨u,h1,h2,fun q hq=>⟨4,rfl,h3 q hq⟩⟩,
    fun σ W g h hp hb=>fun ρ o ho _ hv=>fL (h 39 rfl) ho (B2 hv),
    fun σ W g h hp hb=>by
     have hi:x.1<l.length:=of_decide_eq_true (vB (h 28 rfl) (hp 28 0 true rfl))
     have h40:x.1<40:=of_decide_eq_true (vB (h 31 rfl) (hp 31 0 true rfl))
     have hs:=hL _ (rX hi)
     exact V3 (congrArg (fun v=>[v]) (h 40 rfl)) (J4 W _ _ _ hs.1.1 hs.1.2 hs.2.1 hs.2.2 (hTab.kept g (by simp))),
    fun σ W g h hp hb=>fun ρ o ho _ hv=>aR (by
     obtain ⟨v,W2,r1,r2,r3,r4⟩:=kT kPt (W:=W) (d:=(lat (dg l x.1).1 (dg l x.1).2.1 (dg l x.1).2.2)) (by kernel_rfl) N0 (by kernel_rfl) (by decide) (by decide) g.size ho (cs:=[σ.an 41 0, σ.an 41 1, σ.an 41 2, σ.an 41 3, σ.an 41 4, σ.an 41 5, σ.an 41 6, σ.an 41 7]) (B2 hv) rfl (PtV.one (h 41 rfl)) (fun W2 k2=>kPt.keeps (h 41 rfl) k2)
     refine ⟨v,W2,r1,r2,⟨r3, ?_, ?_, ?_, ?_⟩,fun q hq=>by have hq:v.ownBlock=some q:=hq;rw [r4] at hq;cases hq;exact Nat.le_refl _⟩<;>rw [r4]
     · exact fun e=>nomatch e
     · exact fun e=>by have e4:(σ.an 26 0).ownBlock=x.2.1:=(h 26 rfl).2;exact absurd ((h 26 rfl).1.inb (e4.trans e.symm)).1 (Nat.lt_irrefl _)
     · exact fun e=>by have e4:(σ.an 27 0).ownBlock=x.2.2.1:=(h 27 rfl).2.1;exact absurd ((h 27 rfl).1.inb (e4.trans e.symm)).1 (Nat.lt_irrefl _)
     · exact fun e=>by have e4:(σ.an 38 0).ownBlock=x.2.2.2:=(h 38 rfl).2;exact absurd ((h 38 rfl).1.inb (e4.trans e.symm)).1 (Nat.lt_irrefl _)),
    fun σ W g h hp hb=>fun ρ o ho _ hv=>by
     have hi:x.1<l.length:=of_decide_eq_true (vB (h 28 rfl) (hp 28 0 true rfl))
     have h40:x.1<40:=of_decide_eq_true (vB (h 31 rfl) (hp 31 0 true rfl))
     exact aV kPt (b0:=true) (A0:=(fun o=>o≠none/\o≠x.2.1/\o≠x.2.2.1/\o≠x.2.2.2)) (l:=[(lat (dg l x.1).1 (dg l x.1).2.1 (dg l x.1).2.2)]) (A2:=(fun o=>o≠none/\o≠x.2.2.2)) (l2:=((lat (dg l x.1).1 (dg l x.1).2.1 (dg l x.1).2.2) :: (lp (l.take x.1)).reverse)) g (m0:=42) rfl rfl rfl rfl (h 42 rfl) (fun o ho=>by
      rcases ho with rfl | rfl
      · exact ⟨(h 42 rfl).2.1,(h 42 rfl).2.2.2.2⟩
      · exact ⟨(fun e=>nomatch e),fun e=>by have e4:(σ.an 38 0).ownBlock=x.2.2.2:=(h 38 rfl).2;exact absurd ((h 38 rfl).1.inb (e4.trans e.symm)).1 (Nat.lt_irrefl _)⟩) (J7 kPt (by kernel_rfl) N0 (by decide) (fun W cs d=>jR) (h 42 rfl).1 (h 27 rfl).1.rwV (by simp [lp];omega) g.size ho (A1 hv).1 (A1 hv).2)
      (fun m hm hne hr=>by
      match m,hm,hne,hr with
      | 0,_,_,hr=>exact absurd hr Bool.false_ne_true
      | 1,_,_,hr=>exact absurd hr Bool.false_ne_true
      | 2,_,_,hr=>exact absurd hr Bool.false_ne_true
      | 3,_,_,hr=>exact absurd hr Bool.false_ne_true
      | 4,_,_,_=>exact .inl ⟨h 4 rfl,fun q hq=>C0 (h 42 rfl).1 (DtsV.block (h 4 rfl) hq)⟩
      | 5,_,_,hr=>exact absurd hr Bool.false_ne_true
      | 6,_,_,hr=>exact absurd hr Bool.false_ne_true
      | 7,_,_,hr=>exact absurd hr Bool.false_ne_true
      | 8,_,_,hr=>exact absurd hr Bool.false_ne_true
      | 9,_,_,hr=>exact absurd hr Bool.false_ne_true
      | 10,_,_,hr=>exact absurd hr Bool.false_ne_true
      | 11,_,_,hr=>exact absurd hr Bool.false_ne_true
      | 12,_,_,hr=>exact absurd hr Bool.false_ne_true
      | 13,_,_,hr=>exact absurd hr Bool.false_ne_true
      | 14,_,_,hr=>exact absurd hr Bool.false_ne_true
      | 15,_,_,hr=>exact absurd hr Bool.false_ne_true
      | 16,_,_,hr=>exact absurd hr Bool.false_ne_true
      | 17,_,_,hr=>exact absurd hr Bool.false_ne_true
      | 18,_,_,hr=>exact absurd hr Bool.false_ne_true
      | 19,_,_,hr=>exact absurd hr Bool.false_ne_true
      | 20,_,_,hr=>exact absurd hr Bool.false_ne_true
      | 21,_,_,hr=>exact absurd hr Bool.false_ne_true
      | 22,_,_,hr=>exact absurd hr Bool.false_ne_true
      | 23,_,_,hr=>exact absurd hr Bool.false_ne_true
      | 24,_,_,hr=>exact absurd hr Bool.false_ne_true
      | 25,_,_,hr=>exact absurd hr Bool.false_ne_true
      | 26,_,_,_=>exact .inl ⟨h 26 rfl,fun q hq e=>(h 42 rfl).2.2.1 (e.trans (hq.symm.trans (h 26 rfl).2))⟩
      | 27,_,_,_=>exact .inl ⟨h 27 rfl,fun q hq e=>(h 42 rfl).2.2.2.1 (e.trans (hq.symm.trans (h 27 rfl).2.1))⟩
      | 28,_,_,hr=>exact absurd hr Bool.false_ne_true
      | 29,_,_,hr=>exact absurd hr Bool.false_ne_true
      | 30,_,_,hr=>exact absurd hr Bool.false_ne_true
      | 31,_,_,hr=>exact absurd hr Bool.false_ne_true
      | 32,_,_,hr=>exact absurd hr Bool.false_ne_true
      | 33,_,_,hr=>exact absurd hr Bool.false_ne_true
      | 34,_,_,_=>exact .inl ⟨h 34 rfl,fun q hq=>C0 (h 42 rfl).1 (DaV.block (h 34 rfl) hq)⟩
      | 35,_,_,hr=>exact absurd hr Bool.false_ne_true
      | 36,_,_,hr=>exact absurd hr Bool.false_ne_true
      | 37,hm,_,_=>exact absurd hm Bool.false_ne_true
      | 38,_,_,_=>exact .inl ⟨h 38 rfl,fun q hq e=>(h 42 rfl).2.2.2.2 (e.trans (hq.symm.trans (h 38 rfl).2))⟩
      | 39,_,_,_=>exact .inl ⟨h 39 rfl,fun q hq=>C0 (h 42 rfl).1 (DaV.block (h 39 rfl) hq)⟩
      | 40,_,_,hr=>exact absurd hr Bool.false_ne_true
      | 41,_,_,hr=>exact absurd hr Bool.false_ne_true
      | 42,_,hne,_=>exact absurd rfl hne
      | j+43,hm,_,_=>exact absurd hm (by simp)),
    fun σ W g h hp hb=>fun ρ o ho _ hv=>by
     have hi:x.1<l.length:=of_decide_eq_true (vB (h 28 rfl) (hp 28 0 true rfl))
     have h40:x.1<40:=of_decide_eq_true (vB (h 31 rfl) (hp 31 0 true rfl))
     exact ⟨_,B7 ho ((A1 hv).1.trans (h 25 rfl).1) (A1 hv).2 (kA (by omega) (by omega)),rfl⟩,
    fun σ W g h hp hb=>fun ρ o ho _ hv=>⟨_,Z8 (OwV.pts (h 26 rfl).1) ho (B2 hv) ⟨33,by kernel_rfl⟩,rfl⟩,
    fun σ W g h hp hb=>fun ρ o ho _ hv=>by
     have hi:x.1<l.length:=of_decide_eq_true (vB (h 28 rfl) (hp 28 0 true rfl))
     have h40:¬ x.1<40:=of_decide_eq_false (vB (h 31 rfl) (hp 31 0 false rfl))
     have hk:x.1<=40/\x.1<=l.length:=(h 25 rfl).2
     have hlen:((lp (l.take x.1))).length=x.1:=by simp [lp];omega
     exact ⟨_,E9 false ho ((A1 hv).1.trans (h 45 rfl)) (A1 hv).2 (decide_eq_false (by omega)),rfl⟩,
    fun σ W g h hp hb=>by
     have hi:x.1<l.length:=of_decide_eq_true (vB (h 28 rfl) (hp 28 0 true rfl))
     have h40:¬ x.1<40:=of_decide_eq_false (vB (h 31 rfl) (hp 31 0 false rfl))
     have hk:x.1<=40/\x.1<=l.length:=(h 25 rfl).2
     have hlen:((lp (l.take x.1))).length=x.1:=by simp [lp];omega
     exact F8 W _ _ (OwV.pts (h 26 rfl).1) (by omega) (M8 fun d hd=>hL d (List.mem_of_mem_take hd)) (hTab.kept g (by simp)) (OwV.cellK (h 26 rfl).1),
    fun σ W g h hp hb=>by
     have hi:x.1<l.length:=of_decide_eq_true (vB (h 28 rfl) (hp 28 0 true rfl))
     have h40:¬ x.1<40:=of_decide_eq_false (vB (h 31 rfl) (hp 31 0 false rfl))
     have hk:x.1<=40/\x.1<=l.length:=(h 25 rfl).2
     have hlen:((lp (l.take x.1))).length=x.1:=by simp [lp];omega
     exact F8 W _ _ (OwV.pts (h 27 rfl).1) (by simp [lp];omega) (fun p hp=>(M8 fun d hd=>hL d (List.mem_of_mem_take hd)) p (List.mem_reverse.1 hp)) (hTab.kept g (by simp)) (OwV.cellK (h 27 rfl).1),
    fun σ W g h hp hb=>by
     have hi:x.1<l.length:=of_decide_eq_true (vB (h 28 rfl) (hp 28 0 true rfl))
     have h40:¬ x.1<40:=of_decide_eq_false (vB (h 31 rfl) (hp 31 0 false rfl))
     have hk:x.1<=40/\x.1<=l.length:=(h 25 rfl).2
     have hlen:((lp (l.take x.1))).length=x.1:=by simp [lp];omega
     have hb2:=(K2 (l:=(lp (l.take x.1)).reverse) (fun p hp=>(M8 fun d hd=>hL d (List.mem_of_mem_take hd)) p (List.mem_reverse.1 hp)) (by simp [lp];omega))
     exact Z3 W _ _ 482 (h 48 rfl) (by omega) hb2.1 hb2.2,
    fun σ W g h hp hb=>by
     have hi:x.1<l.length:=of_decide_eq_true (vB (h 28 rfl) (hp 28 0 true rfl))
     have h40:¬ x.1<40:=of_decide_eq_false (vB (h 31 rfl) (hp 31 0 false rfl))
     have hk:x.1<=40/\x.1<=l.length:=(h 25 rfl).2
     have hlen:((lp (l.take x.1))).length=x.1:=by simp [lp];omega
     have hb1:=(K2 (l:=(lp (l.take x.1))) (M8 fun d hd=>hL d (List.mem_of_mem_take hd)) (by omega))
     have hb2:=((K2 (l:=(lp (l.take x.1)).reverse) (fun p hp=>(M8 fun d hd=>hL d (List.mem_of_mem_take hd)) p (List.mem_reverse.1 hp)) (by simp [lp];omega))).neg
     exact toZ (F4 W _ _ _ _ 482 (h 47 rfl) (h 49 rfl) (by omega) hb1.1 hb1.2 hb2.1 hb2.2) rfl,
    fun σ W g h hp hb=>fun ρ o ho _ hv=>by
            exact ⟨_,C8 true ho ((A1 hv).1.trans (h 50 rfl)) (A1 hv).2 (by rw [L4 (by rw [aI,Rat.neg_neg])];rfl),rfl⟩,
    fun σ W g h hp hb=>by
     have hi:x.1<l.length:=of_decide_eq_true (vB (h 28 rfl) (hp 28 0 true rfl))
     have h40:¬ x.1<40:=of_decide_eq_false (vB (h 31 rfl) (hp 31 0 false rfl))
     have hk:x.1<=40/\x.1<=l.length:=(h 25 rfl).2
     have hlen:((lp (l.take x.1))).length=x.1:=by simp [lp];omega
     exact F8 W _ _ (OwV.pts (h 26 rfl).1) (by omega) (M8 fun d hd=>hL d (List.mem_of_mem_take hd)) (hTab.kept g (by simp)) (OwV.cellK (h 26 rfl).1),
    fun σ W g h hp hb=>by
     have hi:x.1<l.length:=of_decide_eq_true (vB (h 28 rfl) (hp 28 0 true rfl))
     have h40:¬ x.1<40:=of_decide_eq_false (vB (h 31 rfl) (hp 31 0 false rfl))
     have hk:x.1<=40/\x.1<=l.length:=(h 25 rfl).2
     have hlen:((lp (l.take x.1))).length=x.1:=by simp [lp];omega
     exact F8 W _ _ (⟨none,0,0,rfl,rfl,Nat.le_refl _,.inl rfl⟩:PtsV W (.slice none 0 0) []) (by simp) (fun _ h=>nomatch h) (hTab.kept g (by simp)) rfl,
    fun σ W g h hp hb=>by
     have hi:x.1<l.length:=of_decide_eq_true (vB (h 28 rfl) (hp 28 0 true rfl))
     have h40:¬ x.1<40:=of_decide_eq_false (vB (h 31 rfl) (hp 31 0 false rfl))
     have hk:x.1<=40/\x.1<=l.length:=(h 25 rfl).2
     have hlen:((lp (l.take x.1))).length=x.1:=by simp [lp];omega
     have hb1:=(K2 (l:=(lp (l.take x.1))) (M8 fun d hd=>hL d (List.mem_of_mem_take hd)) (by omega))
     have hb2:=(K2 (l:=[]) (fun _ h=>nomatch h) (by simp))
     exact toZ (F4 W _ _ _ _ 482 (h 52 rfl) (h 53 rfl) (by omega) hb1.1 hb1.2 hb2.1 hb2.2) rfl,
    fun σ W g h hp hb=>fun ρ o ho _ hv=>by
     have hi:x.1<l.length:=of_decide_eq_true (vB (h 28 rfl) (hp 28 0 true rfl))
     have h40:¬ x.1<40:=of_decide_eq_false (vB (h 31 rfl) (hp 31 0 false rfl))
     have hk:x.1<=40/\x.1<=l.length:=(h 25 rfl).2
     have hlen:((lp (l.take x.1))).length=x.1:=by simp [lp];omega
     exact ⟨_,C8 true ho ((A1 hv).1.trans (h 54 rfl)) (A1 hv).2 (by rw [L4 (by rw [show (lp (l.take x.1))=[] from List.eq_nil_of_length_eq_zero (by omega)])];rfl),rfl⟩,
    fun σ W g h hp hb=>fun ρ o ho _ hv=>⟨_,Z8 (OwV.pts (h 26 rfl).1) ho (B2 hv) ⟨33,by kernel_rfl⟩,rfl⟩,
    fun σ W g h hp hb=>fun ρ o ho _ hv=>by
     have hi:¬ x.1<l.length:=of_decide_eq_false (vB (h 28 rfl) (hp 28 0 false rfl))
     have hk:x.1<=40/\x.1<=l.length:=(h 25 rfl).2
     have hlen:((lp (l.take x.1))).length=x.1:=by simp [lp];omega
     exact ⟨_,E9 false ho ((A1 hv).1.trans (h 56 rfl)) (A1 hv).2 (decide_eq_false (by omega)),rfl⟩,
    fun σ W g h hp hb=>by
     have hi:¬ x.1<l.length:=of_decide_eq_false (vB (h 28 rfl) (hp 28 0 false rfl))
     have hk:x.1<=40/\x.1<=l.length:=(h 25 rfl).2
     have hlen:((lp (l.take x.1))).length=x.1:=by simp [lp];omega
     exact F8 W _ _ (OwV.pts (h 26 rfl).1) (by omega) (M8 fun d hd=>hL d (List.mem_of_mem_take hd)) (hTab.kept g (by simp)) (OwV.cellK (h 26 rfl).1),
    fun σ W g h hp hb=>by
     have hi:¬ x.1<l.length:=of_decide_eq_false (vB (h 28 rfl) (hp 28 0 false rfl))
     have hk:x.1<=40/\x.1<=l.length:=(h 25 rfl).2
     have hlen:((lp (l.take x.1))).length=x.1:=by simp [lp];omega
     exact F8 W _ _ (OwV.pts (h 27 rfl).1) (by simp [lp];omega) (fun p hp=>(M8 fun d hd=>hL d (List.mem_of_mem_take hd)) p (List.mem_reverse.1 hp)) (hTab.kept g (by simp)) (OwV.cellK (h 27 rfl).1),
    fun σ W g h hp hb=>by
     have hi:¬ x.1<l.length:=of_decide_eq_false (vB (h 28 rfl) (hp 28 0 false rfl))
     have hk:x.1<=40/\x.1<=l.length:=(h 25 rfl).2
     have hlen:((lp (l.take x.1))).length=x.1:=by simp [lp];omega
     have hb2:=(K2 (l:=(lp (l.take x.1)).reverse) (fun p hp=>(M8 fun d hd=>hL d (List.mem_of_mem_take hd)) p (List.mem_reverse.1 hp)) (by simp [lp];omega))
     exact Z3 W _ _ 482 (h 59 rfl) (by omega) hb2.1 hb2.2,
    fun σ W g h hp hb=>by
     have hi:¬ x.1<l.length:=of_decide_eq_false (vB (h 28 rfl) (hp 28 0 false rfl))
     have hk:x.1<=40/\x.1<=l.length:=(h 25 rfl).2
     have hlen:((lp (l.take x.1))).length=x.1:=by simp [lp];omega
     have hb1:=(K2 (l:=(lp (l.take x.1))) (M8 fun d hd=>hL d (List.mem_of_mem_take hd)) (by omega))
     have hb2:=((K2 (l:=(lp (l.take x.1)).reverse) (fun p hp=>(M8 fun d hd=>hL d (List.mem_of_mem_take hd)) p (List.mem_reverse.1 hp)) (by simp [lp];omega))).neg
     exact toZ (F4 W _ _ _ _ 482 (h 58 rfl) (h 60 rfl) (by omega) hb1.1 hb1.2 hb2.1 hb2.2) rfl,
    fun σ W g h hp hb=>fun ρ o ho _ hv=>by
            exact ⟨_,C8 true ho ((A1 hv).1.trans (h 61 rfl)) (A1 hv).2 (by rw [L4 (by rw [aI,Rat.neg_neg])];rfl),rfl⟩,
    fun σ W g h hp hb=>by
     have hi:¬ x.1<l.length:=of_decide_eq_false (vB (h 28 rfl) (hp 28 0 false rfl))
     have hk:x.1<=40/\x.1<=l.length:=(h 25 rfl).2
     have hlen:((lp (l.take x.1))).length=x.1:=by simp [lp];omega
     exact F8 W _ _ (OwV.pts (h 26 rfl).1) (by omega) (M8 fun d hd=>hL d (List.mem_of_mem_take hd)) (hTab.kept g (by simp)) (OwV.cellK (h 26 rfl).1),
    fun σ W g h hp hb=>by
     have hi:¬ x.1<l.length:=of_decide_eq_false (vB (h 28 rfl) (hp 28 0 false rfl))
     have hk:x.1<=40/\x.1<=l.length:=(h 25 rfl).2
     have hlen:((lp (l.take x.1))).length=x.1:=by simp [lp];omega
     exact F8 W _ _ (⟨none,0,0,rfl,rfl,Nat.le_refl _,.inl rfl⟩:PtsV W (.slice none 0 0) []) (by simp) (fun _ h=>nomatch h) (hTab.kept g (by simp)) rfl,
    fun σ W g h hp hb=>by
     have hi:¬ x.1<l.length:=of_decide_eq_false (vB (h 28 rfl) (hp 28 0 false rfl))
     have hk:x.1<=40/\x.1<=l.length:=(h 25 rfl).2
     have hlen:((lp (l.take x.1))).length=x.1:=by simp [lp];omega
     have hb1:=(K2 (l:=(lp (l.take x.1))) (M8 fun d hd=>hL d (List.mem_of_mem_take hd)) (by omega))
     have hb2:=(K2 (l:=[]) (fun _ h=>nomatch h) (by simp))
     exact toZ (F4 W _ _ _ _ 482 (h 63 rfl) (h 64 rfl) (by omega) hb1.1 hb1.2 hb2.1 hb2.2) rfl,
    fun σ W g h hp hb=>fun ρ o ho _ hv=>by
     have hi:¬ x.1<l.length:=of_decide_eq_false (vB (h 28 rfl) (hp 28 0 false rfl))
     have hk:x.1<=40/\x.1<=l.length:=(h 25 rfl).2
     have hlen:((lp (l.take x.1))).length=x.1:=by simp [lp];omega
     exact ⟨_,C8 true ho ((A1 hv).1.trans (h 65 rfl)) (A1 hv).2 (by rw [L4 (by rw [show (lp (l.take x.1))=[] from List.eq_nil_of_length_eq_zero (by omega)])];rfl),rfl⟩,
    trivial⟩)
    (fun x=>⟨fun σ W g h hp=>⟨(0,none,none,none),(fun e=>nomatch e),⟨rfl,fun m hm=>(if_neg (by omega)).trans (if_neg (by omega)).symm⟩,⟨rfl,by omega,by omega⟩,⟨⟨OwV.nil kPt _ _,rfl⟩,fun q hq=>by cases hq⟩,⟨⟨OwV.nil kPt _ _,rfl,.inl rfl⟩,fun q hq=>by cases hq⟩,trivial⟩,
    fun σ W g h hp=>⟨rfl,_,rfl⟩,
    fun σ W g h hp=>⟨_,h 31 rfl⟩,
    fun σ W g h hp=>⟨(x.1,x.2.1,x.2.2.1,(σ.an 37 0).ownBlock),(fun e=>nomatch e),⟨rfl,fun m hm=>rfl⟩,⟨⟨(h 37 rfl).1,rfl⟩,fun q hq=>⟨37,rfl,hq⟩⟩,trivial⟩,
    fun σ W g h hp=>by
     have hi:x.1<l.length:=of_decide_eq_true (vB (h 28 rfl) (hp 28 0 true rfl))
     have h40:x.1<40:=of_decide_eq_true (vB (h 31 rfl) (hp 31 0 true rfl))
     exact ⟨(x.1+1,x.2.2.2,(σ.an 43 0).ownBlock,none),fun _=>by show (if 25=25 then 40-(x.1+1) else 0)<(if 25=25 then 40-x.1 else 0);rw [if_pos rfl,if_pos rfl];omega,⟨rfl,fun m hm=>(if_neg (by omega)).trans (if_neg (by omega)).symm⟩,⟨(h 44 rfl).trans (by push_cast;rfl),by omega,by omega⟩,⟨⟨(h 38 rfl).1,(h 38 rfl).2⟩,fun q hq=>⟨38,rfl,hq⟩⟩,⟨⟨by show OwV kPt _ _ _ (lp (l.take (x.1+1))).reverse;rw [jP hi,List.reverse_append];exact (h 43 rfl).1,rfl,.inr (h 43 rfl).2.2⟩,fun q hq=>⟨43,rfl,hq⟩⟩,trivial⟩,
    trivial⟩)
    (fun x hk=>⟨fun τ W g h hp hb=>⟨rfl,g⟩,
    fun τ W g h hp hb=>⟨rfl,g⟩,
    trivial⟩)
end Go.Proofs.YtamdnbbgpacfkaaDoor
namespace Go.Proofs.YtamdnbbgpacfkaaDoor.PlaneTurns
open Go.ChangeShapes Go.WideShapes Go.ChangeAt Go.RowKit Go.ChangeMaps
theorem contract (H:Type) (enc:TypeId × Value->H) (W:World) (base:Nat) (args:Array Value) (ds gs:List (DataW H)) (before:List MemPlace)
 (hval:∀ (j:Nat) t v,Tryd.f3.params[j]?=some t->args[j]?=some v->Value.okWide Tryd.prog W .any base t v)
 (hW:DataW.Whole enc Tryd.prog Tryd.f3.params.toList Rows.planeTurnsSpec.vars false W args.toList ds gs before) (hL:laidMetH Tryd.prog Rows.planeTurnsRow.laid W) :
 Calls Tryd.prog 3 args W fun e W'=>∃ v,e = .returned v/\Rows.planeTurnsSpec.post enc Tryd.prog Tryd.f3 false true false false W args v W':=by
 have hW':=hW
 obtain ⟨p,q,hA0,hV,rfl,hfz,hnd⟩:=hW
 have hA:DataW.TrodAll enc Tryd.prog W 0 (fun _=>true) true Tryd.f3.params.toList args.toList ds p:=hA0
 rw [Tryd.params3] at hA hval
 obtain ⟨v0,vs0,d0,ds0,p0,q0,hargs0,rfl,rfl,h0,r0⟩:=trodAll_cons hA
 obtain ⟨v1,vs1,d1,ds1,p1,q1,hargs1,rfl,rfl,h1,r1⟩:=trodAll_cons r0
 obtain ⟨v2,vs2,d2,ds2,p2,q2,hargs2,rfl,rfl,h2,r2⟩:=trodAll_cons r1
 obtain ⟨v3,vs3,d3,ds3,p3,q3,hargs3,rfl,rfl,h3,r3⟩:=trodAll_cons r2
 obtain ⟨v4,vs4,d4,ds4,p4,q4,hargs4,rfl,rfl,h4,r4⟩:=trodAll_cons r3
 obtain ⟨rfl,rfl,rfl⟩:=trodAll_nil r4
 obtain rfl:args = #[v0,v1,v2,v3,v4]:=by cases args;simp_all
 obtain ⟨rfl,rfl⟩:=trodVars_none hV
 simp only [List.append_nil] at hW' hfz
 have hlt:∀ p ∈ p0++(p1++(p2++(p3++p4))),p.block<W.heap.size:=fun p hp=>by
  have:=DataW.TrodAll.lt hA p (by simpa using hp)
  exact this
 have hv0:=hval 0 23 v0 rfl rfl
 obtain ⟨x0,y0,z0,rfl,a0,b0,c0⟩:=X4 hv0 h0
 have hv1:=hval 1 23 v1 rfl rfl
 obtain ⟨x1,y1,z1,rfl,a1,b1,c1⟩:=X4 hv1 h1
 have hv2:=hval 2 23 v2 rfl rfl
 obtain ⟨x2,y2,z2,rfl,a2,b2,c2⟩:=X4 hv2 h2
 have hv3:=hval 3 23 v3 rfl rfl
 obtain ⟨x3,y3,z3,rfl,a3,b3,c3⟩:=X4 hv3 h3
 have hv4:=hval 4 24 v4 rfl rfl
 obtain ⟨s4,ln4,cp4,rfl⟩:=okWide_slice Tryd.underlying24 hv4
 obtain ⟨l4,hd4,hs4⟩:=open_dots h4
 clear hA0
 refine (jE W x0 y0 z0 x1 y1 z1 x2 y2 z2 x3 y3 z3 _ l4 a0.1 a0.2 b0.1 b0.2 a1.1 a1.2 b1.1 b1.2 a2.1 a2.2 b2.1 b2.2 a3.1 a3.2 b3.1 b3.2 hd4 hs4 (tab_of hL)).mono fun e W' ⟨he,hg⟩=>?_
 subst he
 have hs0:∀ sp:Nat->Bool,(∀ p ∈ p0,sp p.block=true)->DataW.Trod enc Tryd.prog W' 0 sp true 23 (.agg #[.int .i64 x0,.int .i64 y0,.int .i64 z0]) d0 p0:=fun sp hsp=>
  Go.WideElems.Trod_stays (by kernel_rfl) (by kernel_rfl) (of_decide_eq_true (by kernel_rfl)) h0 (fun p hp=>I4 hg (hlt p (by simp [hp]))) hsp
 have hs1:∀ sp:Nat->Bool,(∀ p ∈ p1,sp p.block=true)->DataW.Trod enc Tryd.prog W' 0 sp true 23 (.agg #[.int .i64 x1,.int .i64 y1,.int .i64 z1]) d1 p1:=fun sp hsp=>
  Go.WideElems.Trod_stays (by kernel_rfl) (by kernel_rfl) (of_decide_eq_true (by kernel_rfl)) h1 (fun p hp=>I4 hg (hlt p (by simp [hp]))) hsp
 have hs2:∀ sp:Nat->Bool,(∀ p ∈ p2,sp p.block=true)->DataW.Trod enc Tryd.prog W' 0 sp true 23 (.agg #[.int .i64 x2,.int .i64 y2,.int .i64 z2]) d2 p2:=fun sp hsp=>
  Go.WideElems.Trod_stays (by kernel_rfl) (by kernel_rfl) (of_decide_eq_true (by kernel_rfl)) h2 (fun p hp=>I4 hg (hlt p (by simp [hp]))) hsp
 have hs3:∀ sp:Nat->Bool,(∀ p ∈ p3,sp p.block=true)->DataW.Trod enc Tryd.prog W' 0 sp true 23 (.agg #[.int .i64 x3,.int .i64 y3,.int .i64 z3]) d3 p3:=fun sp hsp=>
  Go.WideElems.Trod_stays (by kernel_rfl) (by kernel_rfl) (of_decide_eq_true (by kernel_rfl)) h3 (fun p hp=>I4 hg (hlt p (by simp [hp]))) hsp
 have hs4:∀ sp:Nat->Bool,(∀ p ∈ p4,sp p.block=true)->DataW.Trod enc Tryd.prog W' 0 sp true 24 (.slice s4 ln4 cp4) d4 p4:=fun sp hsp=>
  Go.WideElems.Trod_stays (by kernel_rfl) (by kernel_rfl) (of_decide_eq_true (by kernel_rfl)) h4 (fun p hp=>I4 hg (hlt p (by simp [hp]))) hsp
 exact ⟨_,rfl,bC hW' hlt (fun _ _ _=>trodAll_cons_mk (shut_bool Tryd.underlying4 _) trodAll_mk0) (fun sp hsp=>by
  have:=trodAll_cons_mk (hs0 sp (fun p hp=>hsp p (by simp [hp]))) (trodAll_cons_mk (hs1 sp (fun p hp=>hsp p (by simp [hp]))) (trodAll_cons_mk (hs2 sp (fun p hp=>hsp p (by simp [hp]))) (trodAll_cons_mk (hs3 sp (fun p hp=>hsp p (by simp [hp]))) (trodAll_cons_mk (hs4 sp (fun p hp=>hsp p (by simp [hp]))) (trodAll_mk0)))))
  rw [List.append_nil] at this
  exact this) (fun _=>rfl) hg (ok_one (by kernel_rfl) rfl (okWide_bool_mk Tryd.underlying4 _))⟩
theorem laid_met (os:Os):laidMet Tryd.prog Rows.planeTurnsRow.laid ((M4 os).forCall (fun _ _=>0) ⟨#[], #[.agg #[.int .i64 0,.int .i64 0,.int .i64 0],.agg #[.int .i64 0,.int .i64 0,.int .i64 0],.agg #[.int .i64 0,.int .i64 0,.int .i64 0],.agg #[.int .i64 0,.int .i64 0,.int .i64 0],.slice none 0 0],[]⟩).memory:=
 laidMet_of_run' 80 (by kernel_rfl) (by kernel_rfl)
theorem reads (os:Os) {H:Type} (enc:TypeId × Value->H):∃ places,DataW.whole enc Tryd.prog ((M4 os).forCall (fun _ _=>0) ⟨#[], #[.agg #[.int .i64 0,.int .i64 0,.int .i64 0],.agg #[.int .i64 0,.int .i64 0,.int .i64 0],.agg #[.int .i64 0,.int .i64 0,.int .i64 0],.agg #[.int .i64 0,.int .i64 0,.int .i64 0],.slice none 0 0],[]⟩).memory Tryd.f3.params.toList Rows.planeTurnsSpec.vars false #[Value.agg #[.int .i64 0,.int .i64 0,.int .i64 0],Value.agg #[.int .i64 0,.int .i64 0,.int .i64 0],Value.agg #[.int .i64 0,.int .i64 0,.int .i64 0],Value.agg #[.int .i64 0,.int .i64 0,.int .i64 0],Value.slice none 0 0].toList 8=some ([.agg [.lit (.int .i64 0),.lit (.int .i64 0),.lit (.int .i64 0)],.agg [.lit (.int .i64 0),.lit (.int .i64 0),.lit (.int .i64 0)],.agg [.lit (.int .i64 0),.lit (.int .i64 0),.lit (.int .i64 0)],.agg [.lit (.int .i64 0),.lit (.int .i64 0),.lit (.int .i64 0)],.nil],[],places):=
 ⟨[],by kernel_rfl⟩
theorem lifted (os:Os) (started:os.Started) (H:Type) (enc:TypeId × Value->H) (F:Stop.Interp) :
 ReturnsInHanded {} Tryd.checked os 3 .any ((OpenSpec.ofChange Rows.planeTurnsSpec).preRow enc Tryd.prog Tryd.f3 Rows.planeTurnsRow.domain false Rows.planeTurnsRow.laid) (((OpenSpec.ofChange Rows.planeTurnsSpec).at F).post enc Tryd.prog Tryd.f3 false true false false):=by
 obtain ⟨places,hx⟩:=reads os enc
 refine returnsInHanded_of_row (C:=Tryd.checked) (s:=OpenSpec.ofChange Rows.planeTurnsSpec) rL started (by kernel_rfl) Tryd.func3
  (witness_row_at (enc:=enc) (C:=Tryd.checked) false (M4 os) #[.agg #[.int .i64 0,.int .i64 0,.int .i64 0],.agg #[.int .i64 0,.int .i64 0,.int .i64 0],.agg #[.int .i64 0,.int .i64 0,.int .i64 0],.agg #[.int .i64 0,.int .i64 0,.int .i64 0],.slice none 0 0] rfl (by kernel_rfl) (by kernel_rfl) (by kernel_rfl)
   (OpenSpec.preRow_of_cond 8 hx (by kernel_rfl) (fun k hk=>by cases hk) (by kernel_rfl) (laid_met os))) ?_
 intro W base args ds gs before hval hW _ _ _ hL _ _
 exact contract H enc W base args ds gs before hval hW hL
theorem said:Rows.PlaneTurnsSaid:=
 OpenClaim.holds_of_cond 3 Tryd.f3 rfl rfl rfl rfl rfl rfl rfl ⟨rfl,rfl,rfl,rfl,rfl⟩ rfl rfl rfl rfl rfl (by kernel_rfl) Tryd.func3 (by kernel_rfl)
  (of_decide_eq_true (by kernel_rfl)) (by unfold Func.isWrapper;first | (rw [if_pos (by decide +kernel)];kernel_rfl) | (rw [if_neg (by decide +kernel)];exact ⟨rfl,rfl⟩))
  (fun os started H enc _ F=>by rw [OpenClaim.pre_eq_preRow];exact lifted os started H enc F)
theorem plain (f : FuncId) (fn : Func) (hf : Tryd.pinned.checked.prog.funcNamed "pellicle/pelliclelaw11.PlaneTurns" = some f) (hfn : Tryd.pinned.checked.prog.funcs[f]? = some fn) :
 false=Tryd.pinned.checked.prog.looks [] /\ ∀ (j:Nat) t,fn.params[j]?=some t->Tryd.pinned.checked.prog.wantsStandIn t=false:=by
 obtain rfl : f = 3 := Option.some.inj ((show Tryd.prog.funcNamed "pellicle/pelliclelaw11.PlaneTurns" = some 3 by kernel_rfl).symm.trans hf) |>.symm
 obtain rfl:fn=Tryd.f3:=(Option.some.inj (Tryd.func3.symm.trans hfn)).symm
 refine ⟨by kernel_rfl,fun j t ht=>?_⟩
 rw [Tryd.params3] at ht
 have ht2:=Array.mem_of_getElem? ht
 simp at ht2
 first | (rcases ht2 with rfl | rfl | rfl) | (rcases ht2 with rfl | rfl) | subst ht2
 all_goals exact (show Tryd.prog.wantsStandIn _=false by kernel_rfl)
theorem card:Rows.PlaneTurnsCardSaid:=
 Claim7.holds_tied_plain_at .later [] _ _ _ _ said (fun _ h=>by cases h) (by kernel_rfl) (fun _ h=>by cases h) planeTurns_row_tie rfl ⟨rfl,rfl⟩ (by kernel_rfl) rfl plain (by kernel_rfl)
end Go.Proofs.YtamdnbbgpacfkaaDoor.PlaneTurns
