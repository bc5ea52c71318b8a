/- WindSides: whatever the row and the number, beside a side's middle the row goes nD left as often more than right as sides lie there: the law returns true and leaves its arguments. No condition. -/
import Derived.Below
import Derived.BigCall
import Derived.BigQuiet
import Derived.BigRegion
import Derived.ChangeOld
import Derived.Deep.AppendLies
import Derived.Deep.CutBlock
import Derived.Deep.CutRange
import Derived.Deep.DeepCutAuto
import Derived.Deep.DeepHandedRow
import Derived.Deep.LoopGhost
import Derived.Deep.MidRow
import Derived.Deep.QuietTactic
import Derived.Deep.RegionHeld3
import Derived.Deep.RegionLaw
import Derived.Deep.Slices
import Derived.Deep.Strs
import Derived.Deep.WholeRow
import Derived.Laws.AppendOwn
import Derived.Laws.Concat
import Derived.Laws.CopyOwn
import Derived.Laws.Externs
import Derived.Laws.IdiomStrings
import Derived.Lib.BitFns
import Derived.Lib.Bytealg
import Derived.Lib.Hide
import Derived.Lib.LaidTab
import Derived.Lib.Slices
import Derived.Lib.Small
import Derived.Lib.Strings
import Derived.Lib.Walk
import Derived.LoopIn
import Derived.LoopN
import Derived.LoopNIn
import Derived.Maps.AppendAt
import Derived.OpenShut
import Derived.OrdersHeld
import Derived.OrdersIn
import Derived.Outline
import Derived.OwnWalk
import Derived.OwnWalkIn
import Derived.ProofKit
import Derived.RangeFuncBound
import Derived.RangeFuncCalls
import Derived.RangeFuncLeaves
import Derived.RangeFuncNested
import Derived.RangeFuncOwn
import Derived.Shelf.Abstract
import Derived.Shelf.Bits.Mul64
import Derived.Shelf.RegionOpen
import Derived.Shelf.Spec.TrailingZeros
import Derived.StillTailTactics
import Derived.TacticsInMore
import Derived.WalkKit
import Derived.WalkLawsBesides
import Derived.WalkSpells
import Derived.WideKeyArgs
import Derived.Test.YtninnifpgpjfhaaGreatDoorCards
import Derived.Test.YtninnifpgpjfhaaGreatDoorProg
import Derived.Test.YtninnifpgpjfhaaGreatDoorRows
import Derived.Test.YtninnifpgpjfhaaGreatDoorTie
import Derived.Test.YtninnifpgpjfhaaGreatDoorMc15
set_option linter.unusedVariables false
set_option linter.unusedSimpArgs false
set_option maxRecDepth 100000
namespace Go.Proofs.YtninnifpgpjfhaaGreatDoor
open Go.RowKit Mat Ex PM
noncomputable def wS (a b x y:Pq):Int:=if dec (InS x y (B7 a b))=true then (if F0 x y=F0 a b then 1 else -1) else 0
theorem wS_b (a b x y:Pq) : -1<=wS a b x y/\wS a b x y<=1:=by
 unfold wS;split
 · split<;>decide
 · decide
theorem up1_b {f:Pq->Pq->Int} (hf:∀ a b, -1<=f a b/\f a b<=1) (l:List Pq):∀ k:Nat, -(k:Int)<=upS f l k/\upS f l k<=k
 | 0=>⟨Int.le_refl _,Int.le_refl _⟩
 | k+1=>by
   have h1:=up1_b hf l k
   have h2:=hf (pt0 l k) (nxt l k)
   show -((k+1:Nat):Int)<=upS f l k+f (pt0 l k) (nxt l k)/\upS f l k+f (pt0 l k) (nxt l k)<=((k+1:Nat):Int)
   omega
theorem up_mul {f g:Pq->Pq->Int} {s:Int} {l:List Pq} : ∀ {k:Nat},(∀ i,i<k->f (pt0 l i) (nxt l i)=s*g (pt0 l i) (nxt l i))->upS f l k=s*upS g l k
 | 0,_=>by show (0:Int)=s*0;omega
 | k+1,h=>by
   show upS f l k+f (pt0 l k) (nxt l k)=s*(upS g l k+g (pt0 l k) (nxt l k))
   rw [up_mul (k:=k) fun i hi=>h i (by omega),h k (by omega),Int.mul_add]
theorem sides_ld {P:List Pq} {a b e:Pq} (hab:a≠b) (he:ld e (B7 a b) b≠0) (hf:cR P a b) (hok:∀ i,i<P.length->InS (pt0 P i) (nxt P i) (B7 a b)->pt0 P i≠B7 a b/\nxt P i≠B7 a b) :
 (cL (ld e (B7 a b)) (B7 a b) b P).1-(cL (ld e (B7 a b)) (B7 a b) b P).2=upS (wS a b) P P.length:=by
 have h1:cyL (thr (ld e (B7 a b)) (B7 a b)) P=ld e (B7 a b) b*upS (wS a b) P P.length:=by
  rw [<- upS_cy]
  refine up_mul fun i hi=>?_
  unfold wS
  by_cases hin:InS (pt0 P i) (nxt P i) (B7 a b)
  · rw [iQ hin,if_pos rfl]
    rcases hf i hi with e1 | ⟨c1,c2⟩
    · exact absurd hin e1
    · obtain ⟨n1,n2⟩:=hok i hi hin
      rw [thr_along hab he c1 c2 hin n1 n2,Int.mul_comm]
  · rw [X5 hin,if_neg (by decide),thr_off hin,Int.mul_zero]
 have hs:ld e (B7 a b) b = -1\/ld e (B7 a b) b=0\/ld e (B7 a b) b=1:=dB _
 unfold cL
 by_cases hp : 0<ld e (B7 a b) b
 · rw [if_pos hp]
   show cyL _ P+cyL _ P-cyL _ P=_
   rw [h1,show ld e (B7 a b) b=1 by omega];omega
 · rw [if_neg hp]
   show cyL _ P-(cyL _ P+cyL _ P)=_
   rw [h1,show ld e (B7 a b) b = -1 by omega];omega
theorem sides_eq {P:List Pq} {a b:Pq} (hab:F0 a b≠0) (hf:cR P a b) (hok:∀ i,i<P.length->InS (pt0 P i) (nxt P i) (B7 a b)->pt0 P i≠B7 a b/\nxt P i≠B7 a b) :
 (bes P a b).1-(bes P a b).2=upS (wS a b) P P.length:=by
 have hne:a≠b:=fun e=>hab (pcmp_zero.2 e)
 unfold bes
 rw [if_neg hab]
 by_cases h2:G3 a.2 b.2=0
 · rw [if_pos h2,upr_ld]
   refine sides_ld hne ?_ hf hok
   rw [<- upr_ld]
   unfold upr B7
   rw [G8] at h2 ⊢
   intro e
   have e2:=rsg_zero.1 h2
   have e1:=rsg_zero.1 e
   exact hne (Prod.ext (by dsimp only at e1;grind) (by grind))
 · rw [if_neg h2,lvl_ld]
   refine sides_ld hne ?_ hf hok
   rw [<- lvl_ld]
   unfold lvl B7
   rw [G8] at h2 ⊢
   intro e
   have e1:=rsg_zero.1 e
   exact h2 (rsg_zero.2 (by dsimp only at e1;grind))
theorem bes_b (l:List Pq) (a b:Pq) : -(2*(l.length:Int))<=(bes l a b).1/\(bes l a b).1<=2*l.length /\ -(2*(l.length:Int))<=(bes l a b).2/\(bes l a b).2<=2*l.length:=by
 have key:∀ (lf:Pq->Int) (m:Pq), -(2*(l.length:Int))<=(cL lf m b l).1/\(cL lf m b l).1<=2*l.length /\ -(2*(l.length:Int))<=(cL lf m b l).2/\(cL lf m b l).2<=2*l.length:=fun lf m=>by
  have h1:=cy_b (ahd_b lf m) l
  have h2:=cy_b (thr_b lf m) l
  unfold cL
  split<;>dsimp only<;>omega
 unfold bes
 split
 · dsimp only;omega
 · split<;>exact key _ _
theorem hgp (L:List G2) (i:Nat) (h:i<L.length):rp (hg (hrl L) i)=E4 (gg L i).1 (gg L i).2:=by
 rw [show hg (hrl L) i=⟨(gg L i).1,(gg L i).2,1⟩ by simp [hg,hrl,gg,h]]
 exact gridRp _ _
theorem wrapN {n:Nat} (h:n<=1000):IntKind.u64.wrap (n:Int)=n:=by simp [IntKind.wrap,IntKind.signed,IntKind.bits];omega
theorem notTold {P:Program} {ρ : Operand->Value} {o:Oper} {t:TypeId} {x:Operand} {b:Bool} {W:World} (ho:o.op = .unOp .not t x) (hx : ρ x = .bool b) :
 (execOp ρ o).run P W = .ok (.value (.bool (!b))) W:=by simp only [execOp,ho,hx];rfl
theorem Z7 {P:Program} {ρ : Operand->Value} {o:Oper} {t:TypeId} {x:Operand} {b c:Bool} {W:World} (ho:o.op = .unOp .not t x) (hx : ρ x = .bool b) (h:(!b)=c):(execOp ρ o).run P W = .ok (.value (.bool c)) W:=by
 rw [<- h];exact notTold ho hx
def okK (l:List Pq) (m:Pq) (k:Nat):Prop:=∀ i,i<k->InS (pt0 l i) (nxt l i) m->pt0 l i≠m/\nxt l i≠m
set_option maxHeartbeats 4000000 in
theorem fJ (w:World) (va:Value) (l:List G2) (x:Int) (Ha:GsV w.heap.size w va l) (hIn:∀ d ∈ l,eU d) (hx1 : -9223372036854775808<=x) (hx2:x<=9223372036854775807) (hTab:Tab w) :
 Calls Tryz.prog 6 #[va,.int .i64 x] w (fun e w'=>e = .returned (.bool true)/\w.grownBy w' none):=by
 obtain ⟨L,hLe⟩:∃ L,l.take 30=L:=⟨_,rfl⟩
 have hL30:L.length<=30:=by rw [<- hLe];simp;omega
 have hI:∀ d ∈ L,eU d:=fun d hd=>hIn d (List.mem_of_mem_take (hLe ▸ hd))
 have hbL:=hrl_b hI
 have hlen:(hrl L).length=L.length:=by simp [hrl]
 have glL:∀ p ∈ gl L,Bp 1 p:=by
  intro p hp
  obtain ⟨d,hd,rfl⟩:=List.mem_map.1 hp
  have:=hI d hd
  exact dM this.1.1 this.1.2 this.2.1 this.2.2
 have hwx:=wrap_at x
 obtain ⟨kk,hkk⟩:∃ kk:Nat,(kk:Int)=IntKind.u64.wrap x%(L.length:Int):=by
  by_cases e:L.length=0
  · exact ⟨(IntKind.u64.wrap x%(L.length:Int)).toNat,by rw [e];show ((IntKind.u64.wrap x%0).toNat:Int)=IntKind.u64.wrap x%0;rw [Int.emod_zero];omega⟩
  · exact ⟨(IntKind.u64.wrap x%(L.length:Int)).toNat,Int.toNat_of_nonneg (Int.emod_nonneg _ (by omega))⟩
 have hkl0 : 0<L.length->kk<L.length:=fun h=>by
  have:=Int.emod_lt_of_pos (IntKind.u64.wrap x) (show (0:Int)<L.length by omega)
  omega
 refine N8 B1 Tryz.func6 [sGe w.heap.size va l,sZ x] (fun k:Nat=>(sFew w.heap.size va L :: sZ L.length :: sC (.bool (decide (L.length=0))) rfl :: sV (.bool true) :: sC (.int .u64 (IntKind.u64.wrap x)) rfl :: sZ L.length :: sC (.int .u64 (L.length:Int)) rfl :: sC (.int .u64 (IntKind.u64.wrap x%(L.length:Int))) rfl :: sZ (kk:Int) :: sHa (hg (hrl L) (kk)) :: sH (hg (hrl L) (kk)) :: sZ ((kk:Int)+1) :: sZ (hrl L).length :: sZ (((kk+1)%(hrl L).length:Nat):Int) :: sHa (hg (hrl L) ((kk+1)%(hrl L).length)) :: sH (hg (hrl L) ((kk+1)%(hrl L).length)) :: sC (.bool (decide (F0 (rp (hg (hrl L) kk)) (rp (hg (hrl L) ((kk+1)%(hrl L).length)))=0))) rfl :: sC (.bool (true)) rfl :: sV (.bool false) :: sZ (F0 (rp (hg (hrl L) kk)) (rp (hg (hrl L) ((kk+1)%(hrl L).length)))) :: sV (.bool true) :: sC (.bool (true)) rfl :: sV (.bool false) :: sZ (F0 (rp (hg (hrl L) kk)) (rp (hg (hrl L) ((kk+1)%(hrl L).length)))) :: sV (.bool false) :: sC (.bool (dec (cR ((hrl L).map rp) (rp (hg (hrl L) kk)) (rp (hg (hrl L) ((kk+1)%(hrl L).length)))))) rfl :: sC (.bool (!dec (cR ((hrl L).map rp) (rp (hg (hrl L) kk)) (rp (hg (hrl L) ((kk+1)%(hrl L).length)))))) rfl :: sV (.bool true) :: sV (.bool true) :: sH (S7 (hg (hrl L) kk) (hg (hrl L) ((kk+1)%(hrl L).length))) :: sZc (k<=(hrl L).length/\okK ((hrl L).map rp) (B7 (rp (hg (hrl L) kk)) (rp (hg (hrl L) ((kk+1)%(hrl L).length)))) k) (k:Int) :: sZ (upS (wS (rp (hg (hrl L) kk)) (rp (hg (hrl L) ((kk+1)%(hrl L).length)))) ((hrl L).map rp) k) :: sZ (hrl L).length :: sC (.bool (decide (k<(hrl L).length))) rfl :: sHa (hg (hrl L) (k)) :: sH (hg (hrl L) (k)) :: sZ ((k:Int)+1) :: sZ (hrl L).length :: sZ (((k+1)%(hrl L).length:Nat):Int) :: sHa (hg (hrl L) ((k+1)%(hrl L).length)) :: sH (hg (hrl L) ((k+1)%(hrl L).length)) :: sC (.bool (dec (InS (rp (hg (hrl L) k)) (rp (hg (hrl L) ((k+1)%(hrl L).length))) (B7 (rp (hg (hrl L) kk)) (rp (hg (hrl L) ((kk+1)%(hrl L).length))))))) rfl :: sC (.bool (decide (F0 (rp (hg (hrl L) k)) (B7 (rp (hg (hrl L) kk)) (rp (hg (hrl L) ((kk+1)%(hrl L).length))))=0))) rfl :: sC (.bool (true)) rfl :: sV (.bool false) :: sZ (F0 (rp (hg (hrl L) k)) (B7 (rp (hg (hrl L) kk)) (rp (hg (hrl L) ((kk+1)%(hrl L).length))))) :: sV (.bool true) :: sC (.bool (true)) rfl :: sV (.bool false) :: sZ (F0 (rp (hg (hrl L) k)) (B7 (rp (hg (hrl L) kk)) (rp (hg (hrl L) ((kk+1)%(hrl L).length))))) :: sV (.bool false) :: sZ (F0 (rp (hg (hrl L) ((k+1)%(hrl L).length))) (B7 (rp (hg (hrl L) kk)) (rp (hg (hrl L) ((kk+1)%(hrl L).length))))) :: sC (.bool (decide (F0 (rp (hg (hrl L) ((k+1)%(hrl L).length))) (B7 (rp (hg (hrl L) kk)) (rp (hg (hrl L) ((kk+1)%(hrl L).length))))=0))) rfl :: sC (.bool (false)) rfl :: sV (.bool true) :: sV (.bool true) :: sV (.bool true) :: sV (.bool false) :: sZ (F0 (rp (hg (hrl L) k)) (rp (hg (hrl L) ((k+1)%(hrl L).length)))) :: sZ (F0 (rp (hg (hrl L) kk)) (rp (hg (hrl L) ((kk+1)%(hrl L).length)))) :: sC (.bool (decide (F0 (rp (hg (hrl L) k)) (rp (hg (hrl L) ((k+1)%(hrl L).length)))=F0 (rp (hg (hrl L) kk)) (rp (hg (hrl L) ((kk+1)%(hrl L).length)))))) rfl :: sZ (upS (wS (rp (hg (hrl L) kk)) (rp (hg (hrl L) ((kk+1)%(hrl L).length)))) ((hrl L).map rp) k+1) :: sZ (upS (wS (rp (hg (hrl L) kk)) (rp (hg (hrl L) ((kk+1)%(hrl L).length)))) ((hrl L).map rp) k-1) :: sZ ((k:Int)+1) :: sZ ((k:Int)+1) :: sZ ((k:Int)+1) :: sPts 0 (gl L) :: sGa w.heap.size (gg L (kk)) :: sGp (gg L kk) :: sPt (E4 (gg L (kk)).1 (gg L (kk)).2) :: sZ ((kk:Int)+1) :: sZ L.length :: sZ (((kk+1)%L.length:Nat):Int) :: sGa w.heap.size (gg L ((kk+1)%L.length)) :: sGp (gg L ((kk+1)%L.length)) :: sPt (E4 (gg L ((kk+1)%L.length)).1 (gg L ((kk+1)%L.length)).2) :: sZZ (bes (gl L) (E4 (gg L kk).1 (gg L kk).2) (E4 (gg L ((kk+1)%L.length)).1 (gg L ((kk+1)%L.length)).2)).1 (bes (gl L) (E4 (gg L kk).1 (gg L kk).2) (E4 (gg L ((kk+1)%L.length)).1 (gg L ((kk+1)%L.length)).2)).2 :: sZ ((bes (gl L) (E4 (gg L kk).1 (gg L kk).2) (E4 (gg L ((kk+1)%L.length)).1 (gg L ((kk+1)%L.length)).2)).1-(bes (gl L) (E4 (gg L kk).1 (gg L kk).2) (E4 (gg L ((kk+1)%L.length)).1 (gg L ((kk+1)%L.length)).2)).2) :: sV (.bool true) :: [])) (fun m k=>if m=32 then (hrl L).length-k else 0) (0) (fun _=>rfl) [1000001,7,15] [none,some [[.t 13,.t 64,.t 65,.t 66,.t 67,.t 68,.t 69,.t 70,.t 71,.t 72,.t 73,.t 74,.t 75,.t 76,.t 77,.t 78,.t 79,.t 80,.t 81,.t 82,.t 83,.t 84,.t 85,.t 86,.t 87,.t 88,.t 89,.t 90,.t 91,.t 92,.t 93,.t 94,.t 95,.t 96,.t 97,.t 98,.t 99,.t 100,.t 101,.t 102,.t 103,.t 104,.t 105,.t 106,.t 107,.t 108,.t 109,.t 110,.t 111,.t 112,.t 113,.t 114,.t 115,.t 116],[.t 12],[.t 11]]] (.cons ⟨rfl,Ha⟩ (.cons rfl .nil)) (rs:=((cl 2 14 [on 0],[]) :: (co 3 (.call ⟨.builtin .len, #[(.tmp 21)], #[53]⟩) 3 [on 2] [0,1,2] [],[]) :: (co 4 (.binOp .eql 3 (.tmp 22) (.const (.int .i64 0)) 3) 4 [on 3,.v false [.lit (.int .i64 0)]] [0,1,2,3] [],[]) :: (cl 5 17 [],[(4,0,true)]) :: (co 6 (.convert 3 73 (.tmp 25)) 73 [on 1] [0,1,2,3,4] [],[(4,0,false)]) :: (co 7 (.call ⟨.builtin .len, #[(.tmp 27)], #[53]⟩) 3 [on 2] [0,1,2,3,4] [],[(4,0,false)]) :: (co 8 (.convert 3 73 (.tmp 28)) 73 [on 7] [0,1,2,3,4,7] [],[(4,0,false)]) :: (co 9 (.binOp .rem 73 (.tmp 26) (.tmp 29) 73) 73 [on 6,on 8] [0,1,2,3,4,6,7,8] [],[(4,0,false)]) :: (co 10 (.convert 73 3 (.tmp 30)) 3 [on 9] [0,1,2,3,4,6,7,8,9] [],[(4,0,false)]) :: (co 11 (.indexAddr 24 (.tmp 32) (.tmp 33)) 0 [.v false [.an 2 1],on 10] [0,1,2,3,4,6,7,8,9,10] [],[(4,0,false)]) :: (co 12 (.load 43 (.tmp 34)) 43 [on 11] [0,1,2,3,4,6,7,8,9,10,11] [],[(4,0,false)]) :: (co 13 (.binOp .add 3 (.tmp 37) (.const (.int .i64 1)) 3) 3 [on 10,.v false [.lit (.int .i64 1)]] [0,1,2,3,4,6,7,8,9,10] [],[(4,0,false)]) :: (co 14 (.call ⟨.builtin .len, #[(.tmp 39)], #[24]⟩) 3 [.v false [.an 2 1]] [0,1,2,3,4,6,7,8,9,10] [],[(4,0,false)]) :: (co 15 (.binOp .rem 3 (.tmp 38) (.tmp 40) 3) 3 [on 13,on 14] [0,1,2,3,4,6,7,8,9,10,13,14] [],[(4,0,false)]) :: (co 16 (.indexAddr 24 (.tmp 36) (.tmp 41)) 0 [.v false [.an 2 1],on 15] [0,1,2,3,4,6,7,8,9,10,13,14,15] [],[(4,0,false)]) :: (co 17 (.load 43 (.tmp 42)) 43 [on 16] [0,1,2,3,4,6,7,8,9,10,13,14,15,16] [],[(4,0,false)]) :: (cla 19 17 [] [0,1,2,3,4,6,7,8,9,10,11,12,13,14,15,16,17,18],[(18,0,true),(4,0,false)]) :: (co 20 (.unOp .not 4 (.tmp 47)) 4 [on 19] [0,1,2,3,4,6,7,8,9,10,11,12,13,14,15,16,17,18,19] [],[(18,0,true),(4,0,false)]) :: (cla 21 20 [ag 6 12,ag 6 17] [0,1,2,3,4,6,7,8,9,10,11,12,13,14,15,16,17,18,19,20],[(18,0,true),(4,0,false)]) :: (co 22 (.binOp .eql 3 (.tmp 52) (.const (.int .i64 0)) 3) 4 [on 21,.v false [.lit (.int .i64 0)]] [0,1,2,3,4,6,7,8,9,10,11,12,13,14,15,16,17,18,19,20,21] [],[(18,0,true),(4,0,false)]) :: (cla 23 17 [] [0,1,2,3,4,6,7,8,9,10,11,12,13,14,15,16,17,18],[(18,0,false),(4,0,false)]) :: (co 24 (.unOp .not 4 (.tmp 47)) 4 [on 23] [0,1,2,3,4,6,7,8,9,10,11,12,13,14,15,16,17,18,23] [],[(18,0,false),(4,0,false)]) :: (cla 25 20 [ag 6 12,ag 6 17] [0,1,2,3,4,6,7,8,9,10,11,12,13,14,15,16,17,18,23,24],[(18,0,false),(4,0,false)]) :: (co 26 (.binOp .eql 3 (.tmp 52) (.const (.int .i64 0)) 3) 4 [on 25,.v false [.lit (.int .i64 0)]] [0,1,2,3,4,6,7,8,9,10,11,12,13,14,15,16,17,18,23,24,25] [],[(18,0,false),(4,0,false)]) :: (cla 27 21 [.v false [.an 2 1],.v true [.an 12 0,.an 12 1,.an 12 2,.an 12 3,.an 12 4,.an 12 5,.an 17 0,.an 17 1,.an 17 2,.an 17 3,.an 17 4,.an 17 5]] [0,1,2,3,4,6,7,8,9,10,11,12,13,14,15,16,17,18,23,24,25,26],[(18,0,false),(4,0,false)]) :: (co 28 (.unOp .not 4 (.tmp 58)) 4 [on 27] [0,1,2,3,4,6,7,8,9,10,11,12,13,14,15,16,17,18,23,24,25,26,27] [],[(18,0,false),(4,0,false)]) :: (cla 29 17 [] [0,1,2,3,4,6,7,8,9,10,11,12,13,14,15,16,17,18,19,20,21,22],[(18,0,true),(4,0,false)]) :: (cla 30 17 [] [0,1,2,3,4,6,7,8,9,10,11,12,13,14,15,16,17,18,23,24,25,26,27,28],[(28,0,true),(18,0,false),(4,0,false)]) :: (cla 31 23 [.v true [.an 12 0,.an 12 1,.an 12 2,.an 12 3,.an 12 4,.an 12 5,.an 17 0,.an 17 1,.an 17 2,.an 17 3,.an 17 4,.an 17 5]] [0,1,2,3,4,6,7,8,9,10,11,12,13,14,15,16,17,18,23,24,25,26,27,28],[(28,0,false),(18,0,false),(4,0,false)]) :: (co 34 (.call ⟨.builtin .len, #[(.tmp 65)], #[24]⟩) 3 [.v false [.an 2 1]] [0,1,2,3,4,6,7,8,9,10,11,12,13,14,15,16,17,18,23,24,25,26,27,28,31,32,33] [],[(28,0,false),(18,0,false),(4,0,false)]) :: (co 35 (.binOp .lss 3 (.tmp 64) (.tmp 66) 3) 4 [on 32,on 34] [0,1,2,3,4,6,7,8,9,10,11,12,13,14,15,16,17,18,23,24,25,26,27,28,31,32,33,34] [],[(28,0,false),(18,0,false),(4,0,false)]) :: (co 36 (.indexAddr 24 (.tmp 70) (.tmp 71)) 0 [.v false [.an 2 1],on 32] [0,1,2,3,4,6,7,8,9,10,11,12,13,14,15,16,17,18,23,24,25,26,27,28,31,32,33,34,35] [],[(35,0,true),(28,0,false),(18,0,false),(4,0,false)]) :: (co 37 (.load 43 (.tmp 72)) 43 [on 36] [0,1,2,3,4,6,7,8,9,10,11,12,13,14,15,16,17,18,23,24,25,26,27,28,31,32,33,34,35,36] [],[(35,0,true),(28,0,false),(18,0,false),(4,0,false)]) :: (co 38 (.binOp .add 3 (.tmp 75) (.const (.int .i64 1)) 3) 3 [on 32,.v false [.lit (.int .i64 1)]] [0,1,2,3,4,6,7,8,9,10,11,12,13,14,15,16,17,18,23,24,25,26,27,28,31,32,33,34,35] [],[(35,0,true),(28,0,false),(18,0,false),(4,0,false)]) :: (co 39 (.call ⟨.builtin .len, #[(.tmp 77)], #[24]⟩) 3 [.v false [.an 2 1]] [0,1,2,3,4,6,7,8,9,10,11,12,13,14,15,16,17,18,23,24,25,26,27,28,31,32,33,34,35] [],[(35,0,true),(28,0,false),(18,0,false),(4,0,false)]) :: (co 40 (.binOp .rem 3 (.tmp 76) (.tmp 78) 3) 3 [on 38,on 39] [0,1,2,3,4,6,7,8,9,10,11,12,13,14,15,16,17,18,23,24,25,26,27,28,31,32,33,34,35,38,39] [],[(35,0,true),(28,0,false),(18,0,false),(4,0,false)]) :: (co 41 (.indexAddr 24 (.tmp 74) (.tmp 79)) 0 [.v false [.an 2 1],on 40] [0,1,2,3,4,6,7,8,9,10,11,12,13,14,15,16,17,18,23,24,25,26,27,28,31,32,33,34,35,38,39,40] [],[(35,0,true),(28,0,false),(18,0,false),(4,0,false)]) :: (co 42 (.load 43 (.tmp 80)) 43 [on 41] [0,1,2,3,4,6,7,8,9,10,11,12,13,14,15,16,17,18,23,24,25,26,27,28,31,32,33,34,35,38,39,40,41] [],[(35,0,true),(28,0,false),(18,0,false),(4,0,false)]) :: (cla 45 24 [.v true [.an 37 0,.an 37 1,.an 37 2,.an 37 3,.an 37 4,.an 37 5,.an 42 0,.an 42 1,.an 42 2,.an 42 3,.an 42 4,.an 42 5],ag 6 31] [0,1,2,3,4,6,7,8,9,10,11,12,13,14,15,16,17,18,23,24,25,26,27,28,31,32,33,34,35,36,37,38,39,40,41,42,43,44],[(44,0,true),(43,0,true),(35,0,true),(28,0,false),(18,0,false),(4,0,false)]) :: (co 46 (.unOp .not 4 (.tmp 85)) 4 [on 45] [0,1,2,3,4,6,7,8,9,10,11,12,13,14,15,16,17,18,23,24,25,26,27,28,31,32,33,34,35,36,37,38,39,40,41,42,43,44,45] [],[(44,0,true),(43,0,true),(35,0,true),(28,0,false),(18,0,false),(4,0,false)]) :: (cla 47 20 [ag 6 37,ag 6 31] [0,1,2,3,4,6,7,8,9,10,11,12,13,14,15,16,17,18,23,24,25,26,27,28,31,32,33,34,35,36,37,38,39,40,41,42,43,44,45,46],[(44,0,true),(43,0,true),(35,0,true),(28,0,false),(18,0,false),(4,0,false)]) :: (co 48 (.binOp .eql 3 (.tmp 91) (.const (.int .i64 0)) 3) 4 [on 47,.v false [.lit (.int .i64 0)]] [0,1,2,3,4,6,7,8,9,10,11,12,13,14,15,16,17,18,23,24,25,26,27,28,31,32,33,34,35,36,37,38,39,40,41,42,43,44,45,46,47] [],[(44,0,true),(43,0,true),(35,0,true),(28,0,false),(18,0,false),(4,0,false)]) :: (cla 49 24 [.v true [.an 37 0,.an 37 1,.an 37 2,.an 37 3,.an 37 4,.an 37 5,.an 42 0,.an 42 1,.an 42 2,.an 42 3,.an 42 4,.an 42 5],ag 6 31] [0,1,2,3,4,6,7,8,9,10,11,12,13,14,15,16,17,18,23,24,25,26,27,28,31,32,33,34,35,36,37,38,39,40,41,42,43,44],[(44,0,false),(43,0,true),(35,0,true),(28,0,false),(18,0,false),(4,0,false)]) :: (co 50 (.unOp .not 4 (.tmp 85)) 4 [on 49] [0,1,2,3,4,6,7,8,9,10,11,12,13,14,15,16,17,18,23,24,25,26,27,28,31,32,33,34,35,36,37,38,39,40,41,42,43,44,49] [],[(44,0,false),(43,0,true),(35,0,true),(28,0,false),(18,0,false),(4,0,false)]) :: (cla 51 20 [ag 6 37,ag 6 31] [0,1,2,3,4,6,7,8,9,10,11,12,13,14,15,16,17,18,23,24,25,26,27,28,31,32,33,34,35,36,37,38,39,40,41,42,43,44,49,50],[(44,0,false),(43,0,true),(35,0,true),(28,0,false),(18,0,false),(4,0,false)]) :: (co 52 (.binOp .eql 3 (.tmp 91) (.const (.int .i64 0)) 3) 4 [on 51,.v false [.lit (.int .i64 0)]] [0,1,2,3,4,6,7,8,9,10,11,12,13,14,15,16,17,18,23,24,25,26,27,28,31,32,33,34,35,36,37,38,39,40,41,42,43,44,49,50,51] [],[(44,0,false),(43,0,true),(35,0,true),(28,0,false),(18,0,false),(4,0,false)]) :: (cla 53 20 [ag 6 42,ag 6 31] [0,1,2,3,4,6,7,8,9,10,11,12,13,14,15,16,17,18,23,24,25,26,27,28,31,32,33,34,35,36,37,38,39,40,41,42,43,44,49,50,51,52],[(44,0,false),(43,0,true),(35,0,true),(28,0,false),(18,0,false),(4,0,false)]) :: (co 54 (.binOp .eql 3 (.tmp 98) (.const (.int .i64 0)) 3) 4 [on 53,.v false [.lit (.int .i64 0)]] [0,1,2,3,4,6,7,8,9,10,11,12,13,14,15,16,17,18,23,24,25,26,27,28,31,32,33,34,35,36,37,38,39,40,41,42,43,44,49,50,51,52,53] [],[(44,0,false),(43,0,true),(35,0,true),(28,0,false),(18,0,false),(4,0,false)]) :: (cla 55 24 [.v true [.an 37 0,.an 37 1,.an 37 2,.an 37 3,.an 37 4,.an 37 5,.an 42 0,.an 42 1,.an 42 2,.an 42 3,.an 42 4,.an 42 5],ag 6 31] [0,1,2,3,4,6,7,8,9,10,11,12,13,14,15,16,17,18,23,24,25,26,27,28,31,32,33,34,35,36,37,38,39,40,41,42,43],[(43,0,false),(35,0,true),(28,0,false),(18,0,false),(4,0,false)]) :: (co 56 (.unOp .not 4 (.tmp 85)) 4 [on 55] [0,1,2,3,4,6,7,8,9,10,11,12,13,14,15,16,17,18,23,24,25,26,27,28,31,32,33,34,35,36,37,38,39,40,41,42,43,55] [],[(43,0,false),(35,0,true),(28,0,false),(18,0,false),(4,0,false)]) :: (cla 57 24 [.v true [.an 37 0,.an 37 1,.an 37 2,.an 37 3,.an 37 4,.an 37 5,.an 42 0,.an 42 1,.an 42 2,.an 42 3,.an 42 4,.an 42 5],ag 6 31] [0,1,2,3,4,6,7,8,9,10,11,12,13,14,15,16,17,18,23,24,25,26,27,28,31,32,33,34,35,36,37,38,39,40,41,42,43,44,45,46,47,48],[(44,0,true),(43,0,true),(35,0,true),(28,0,false),(18,0,false),(4,0,false)]) :: (cla 58 24 [.v true [.an 37 0,.an 37 1,.an 37 2,.an 37 3,.an 37 4,.an 37 5,.an 42 0,.an 42 1,.an 42 2,.an 42 3,.an 42 4,.an 42 5],ag 6 31] [0,1,2,3,4,6,7,8,9,10,11,12,13,14,15,16,17,18,23,24,25,26,27,28,31,32,33,34,35,36,37,38,39,40,41,42,43,44,49,50,51,52,53,54],[(54,0,true),(44,0,false),(43,0,true),(35,0,true),(28,0,false),(18,0,false),(4,0,false)]) :: (cla 59 24 [.v true [.an 37 0,.an 37 1,.an 37 2,.an 37 3,.an 37 4,.an 37 5,.an 42 0,.an 42 1,.an 42 2,.an 42 3,.an 42 4,.an 42 5],ag 6 31] [0,1,2,3,4,6,7,8,9,10,11,12,13,14,15,16,17,18,23,24,25,26,27,28,31,32,33,34,35,36,37,38,39,40,41,42,43,55,56],[(43,0,false),(35,0,true),(28,0,false),(18,0,false),(4,0,false)]) :: (cla 60 20 [ag 6 37,ag 6 42] [0,1,2,3,4,6,7,8,9,10,11,12,13,14,15,16,17,18,23,24,25,26,27,28,31,32,33,34,35,36,37,38,39,40,41,42,43,44,49,50,51,52,53,54],[(54,0,false),(44,0,false),(43,0,true),(35,0,true),(28,0,false),(18,0,false),(4,0,false)]) :: (cla 61 20 [ag 6 12,ag 6 17] [0,1,2,3,4,6,7,8,9,10,11,12,13,14,15,16,17,18,23,24,25,26,27,28,31,32,33,34,35,36,37,38,39,40,41,42,43,44,49,50,51,52,53,54,60],[(54,0,false),(44,0,false),(43,0,true),(35,0,true),(28,0,false),(18,0,false),(4,0,false)]) :: (co 62 (.binOp .eql 3 (.tmp 108) (.tmp 111) 3) 4 [on 60,on 61] [0,1,2,3,4,6,7,8,9,10,11,12,13,14,15,16,17,18,23,24,25,26,27,28,31,32,33,34,35,36,37,38,39,40,41,42,43,44,49,50,51,52,53,54,60,61] [],[(54,0,false),(44,0,false),(43,0,true),(35,0,true),(28,0,false),(18,0,false),(4,0,false)]) :: (co 63 (.binOp .add 3 (.tmp 113) (.const (.int .i64 1)) 3) 3 [on 33,.v false [.lit (.int .i64 1)]] [0,1,2,3,4,6,7,8,9,10,11,12,13,14,15,16,17,18,23,24,25,26,27,28,31,32,33,34,35,36,37,38,39,40,41,42,43,44,49,50,51,52,53,54,60,61,62] [],[(62,0,true),(54,0,false),(44,0,false),(43,0,true),(35,0,true),(28,0,false),(18,0,false),(4,0,false)]) :: (co 64 (.binOp .sub 3 (.tmp 115) (.const (.int .i64 1)) 3) 3 [on 33,.v false [.lit (.int .i64 1)]] [0,1,2,3,4,6,7,8,9,10,11,12,13,14,15,16,17,18,23,24,25,26,27,28,31,32,33,34,35,36,37,38,39,40,41,42,43,44,49,50,51,52,53,54,60,61,62] [],[(62,0,false),(54,0,false),(44,0,false),(43,0,true),(35,0,true),(28,0,false),(18,0,false),(4,0,false)]) :: (co 65 (.binOp .add 3 (.tmp 68) (.const (.int .i64 1)) 3) 3 [on 32,.v false [.lit (.int .i64 1)]] [0,1,2,3,4,6,7,8,9,10,11,12,13,14,15,16,17,18,23,24,25,26,27,28,31,32,33,34,35,36,37,38,39,40,41,42,43,44,49,50,51,52,53,54,60,61,62,63] [],[(62,0,true),(54,0,false),(44,0,false),(43,0,true),(35,0,true),(28,0,false),(18,0,false),(4,0,false)]) :: (co 66 (.binOp .add 3 (.tmp 68) (.const (.int .i64 1)) 3) 3 [on 32,.v false [.lit (.int .i64 1)]] [0,1,2,3,4,6,7,8,9,10,11,12,13,14,15,16,17,18,23,24,25,26,27,28,31,32,33,34,35,36,37,38,39,40,41,42,43,44,49,50,51,52,53,54,60,61,62,64] [],[(62,0,false),(54,0,false),(44,0,false),(43,0,true),(35,0,true),(28,0,false),(18,0,false),(4,0,false)]) :: (co 67 (.binOp .add 3 (.tmp 68) (.const (.int .i64 1)) 3) 3 [on 32,.v false [.lit (.int .i64 1)]] [0,1,2,3,4,6,7,8,9,10,11,12,13,14,15,16,17,18,23,24,25,26,27,28,31,32,33,34,35,36,37,38,39,40,41,42,43,55,56,59] [],[(43,0,false),(35,0,true),(28,0,false),(18,0,false),(4,0,false)]) :: (cla 68 19 [on 2] [0,1,2,3,4,6,7,8,9,10,11,12,13,14,15,16,17,18,23,24,25,26,27,28,31,32,33,34,35],[(35,0,false),(28,0,false),(18,0,false),(4,0,false)]) :: (co 69 (.indexAddr 53 (.tmp 120) (.tmp 121)) 0 [on 2,on 10] [0,1,2,3,4,6,7,8,9,10,11,12,13,14,15,16,17,18,23,24,25,26,27,28,31,32,33,34,35] [],[(35,0,false),(28,0,false),(18,0,false),(4,0,false)]) :: (co 70 (.load 60 (.tmp 122)) 60 [on 69] [0,1,2,3,4,6,7,8,9,10,11,12,13,14,15,16,17,18,23,24,25,26,27,28,31,32,33,34,35,69] [],[(35,0,false),(28,0,false),(18,0,false),(4,0,false)]) :: (cla 71 25 [ag 2 70] [0,1,2,3,4,6,7,8,9,10,11,12,13,14,15,16,17,18,23,24,25,26,27,28,31,32,33,34,35,68,69,70],[(35,0,false),(28,0,false),(18,0,false),(4,0,false)]) :: (co 72 (.binOp .add 3 (.tmp 126) (.const (.int .i64 1)) 3) 3 [on 10,.v false [.lit (.int .i64 1)]] [0,1,2,3,4,6,7,8,9,10,11,12,13,14,15,16,17,18,23,24,25,26,27,28,31,32,33,34,35] [],[(35,0,false),(28,0,false),(18,0,false),(4,0,false)]) :: (co 73 (.call ⟨.builtin .len, #[(.tmp 128)], #[53]⟩) 3 [on 2] [0,1,2,3,4,6,7,8,9,10,11,12,13,14,15,16,17,18,23,24,25,26,27,28,31,32,33,34,35] [],[(35,0,false),(28,0,false),(18,0,false),(4,0,false)]) :: (co 74 (.binOp .rem 3 (.tmp 127) (.tmp 129) 3) 3 [on 72,on 73] [0,1,2,3,4,6,7,8,9,10,11,12,13,14,15,16,17,18,23,24,25,26,27,28,31,32,33,34,35,72,73] [],[(35,0,false),(28,0,false),(18,0,false),(4,0,false)]) :: (co 75 (.indexAddr 53 (.tmp 125) (.tmp 130)) 0 [on 2,on 74] [0,1,2,3,4,6,7,8,9,10,11,12,13,14,15,16,17,18,23,24,25,26,27,28,31,32,33,34,35,72,73,74] [],[(35,0,false),(28,0,false),(18,0,false),(4,0,false)]) :: (co 76 (.load 60 (.tmp 131)) 60 [on 75] [0,1,2,3,4,6,7,8,9,10,11,12,13,14,15,16,17,18,23,24,25,26,27,28,31,32,33,34,35,72,73,74,75] [],[(35,0,false),(28,0,false),(18,0,false),(4,0,false)]) :: (cla 77 25 [ag 2 76] [0,1,2,3,4,6,7,8,9,10,11,12,13,14,15,16,17,18,23,24,25,26,27,28,31,32,33,34,35,68,69,70,71,72,73,74,75,76],[(35,0,false),(28,0,false),(18,0,false),(4,0,false)]) :: (cla 78 18 [on 68,.v true [.an 71 0,.an 71 1,.an 71 2,.an 71 3,.an 71 4,.an 71 5,.an 71 6,.an 71 7,.an 77 0,.an 77 1,.an 77 2,.an 77 3,.an 77 4,.an 77 5,.an 77 6,.an 77 7]] [0,1,2,3,4,6,7,8,9,10,11,12,13,14,15,16,17,18,23,24,25,26,27,28,31,32,33,34,35,68,69,70,71,72,73,74,75,76,77],[(35,0,false),(28,0,false),(18,0,false),(4,0,false)]) :: (co 79 (.binOp .sub 3 (.tmp 138) (.tmp 139) 3) 3 [on 78,.v false [.an 78 1]] [0,1,2,3,4,6,7,8,9,10,11,12,13,14,15,16,17,18,23,24,25,26,27,28,31,32,33,34,35,68,69,70,71,72,73,74,75,76,77,78] [],[(35,0,false),(28,0,false),(18,0,false),(4,0,false)]) :: (co 80 (.binOp .eql 3 (.tmp 140) (.tmp 141) 3) 4 [on 79,on 33] [0,1,2,3,4,6,7,8,9,10,11,12,13,14,15,16,17,18,23,24,25,26,27,28,31,32,33,34,35,68,69,70,71,72,73,74,75,76,77,78,79] [],[(35,0,false),(28,0,false),(18,0,false),(4,0,false)]) :: [])) (js:=[.test 4 0 (List.range 5) [],.ghost 18 [0,1,2,3,4,6,7,8,9,10,11,12,13,14,15,16,17] [(4,0,false)],.test 28 0 [0,1,2,3,4,6,7,8,9,10,11,12,13,14,15,16,17,18,23,24,25,26,27,28] [(18,0,false),(4,0,false)],.loop false 32 [(32,.v false [.lit (.int .i64 0)]),(33,.v false [.lit (.int .i64 0)])] [0,1,2,3,4,6,7,8,9,10,11,12,13,14,15,16,17,18,23,24,25,26,27,28,31] [(28,0,false),(18,0,false),(4,0,false)],.test 35 0 [0,1,2,3,4,6,7,8,9,10,11,12,13,14,15,16,17,18,23,24,25,26,27,28,31,32,33,34,35] [(28,0,false),(18,0,false),(4,0,false)],.ghost 43 [0,1,2,3,4,6,7,8,9,10,11,12,13,14,15,16,17,18,23,24,25,26,27,28,31,32,33,34,35,36,37,38,39,40,41,42] [(35,0,true),(28,0,false),(18,0,false),(4,0,false)],.ghost 44 [0,1,2,3,4,6,7,8,9,10,11,12,13,14,15,16,17,18,23,24,25,26,27,28,31,32,33,34,35,36,37,38,39,40,41,42,43] [(43,0,true),(35,0,true),(28,0,false),(18,0,false),(4,0,false)],.test 54 0 [0,1,2,3,4,6,7,8,9,10,11,12,13,14,15,16,17,18,23,24,25,26,27,28,31,32,33,34,35,36,37,38,39,40,41,42,43,44,49,50,51,52,53,54] [(44,0,false),(43,0,true),(35,0,true),(28,0,false),(18,0,false),(4,0,false)],.test 62 0 [0,1,2,3,4,6,7,8,9,10,11,12,13,14,15,16,17,18,23,24,25,26,27,28,31,32,33,34,35,36,37,38,39,40,41,42,43,44,49,50,51,52,53,54,60,61,62] [(54,0,false),(44,0,false),(43,0,true),(35,0,true),(28,0,false),(18,0,false),(4,0,false)],.loop true 32 [(32,on 65),(33,on 63)] [0,1,2,3,4,6,7,8,9,10,11,12,13,14,15,16,17,18,23,24,25,26,27,28,31,32,33,34,35,36,37,38,39,40,41,42,43,44,49,50,51,52,53,54,60,61,62,63,65] [(62,0,true),(54,0,false),(44,0,false),(43,0,true),(35,0,true),(28,0,false),(18,0,false),(4,0,false)],.loop true 32 [(32,on 66),(33,on 64)] [0,1,2,3,4,6,7,8,9,10,11,12,13,14,15,16,17,18,23,24,25,26,27,28,31,32,33,34,35,36,37,38,39,40,41,42,43,44,49,50,51,52,53,54,60,61,62,64,66] [(62,0,false),(54,0,false),(44,0,false),(43,0,true),(35,0,true),(28,0,false),(18,0,false),(4,0,false)],.loop true 32 [(32,on 67),(33,on 33)] [0,1,2,3,4,6,7,8,9,10,11,12,13,14,15,16,17,18,23,24,25,26,27,28,31,32,33,34,35,36,37,38,39,40,41,42,43,55,56,59,67] [(43,0,false),(35,0,true),(28,0,false),(18,0,false),(4,0,false)]]) (outs:=[⟨.v false [.lit (.bool true)],(List.range 6),[(4,0,true)],[],[]⟩,⟨.v false [.lit (.bool true)],[0,1,2,3,4,6,7,8,9,10,11,12,13,14,15,16,17,18,19,20,21,22,29],[(18,0,true),(4,0,false)],[],[]⟩,⟨.v false [.lit (.bool true)],[0,1,2,3,4,6,7,8,9,10,11,12,13,14,15,16,17,18,23,24,25,26,27,28,30],[(28,0,true),(18,0,false),(4,0,false)],[],[]⟩,⟨.v false [.lit (.bool true)],[0,1,2,3,4,6,7,8,9,10,11,12,13,14,15,16,17,18,23,24,25,26,27,28,31,32,33,34,35,36,37,38,39,40,41,42,43,44,45,46,47,48,57],[(44,0,true),(43,0,true),(35,0,true),(28,0,false),(18,0,false),(4,0,false)],[],[]⟩,⟨.v false [.lit (.bool true)],[0,1,2,3,4,6,7,8,9,10,11,12,13,14,15,16,17,18,23,24,25,26,27,28,31,32,33,34,35,36,37,38,39,40,41,42,43,44,49,50,51,52,53,54,58],[(54,0,true),(44,0,false),(43,0,true),(35,0,true),(28,0,false),(18,0,false),(4,0,false)],[],[]⟩,⟨.v false [.lit (.bool true)],[0,1,2,3,4,6,7,8,9,10,11,12,13,14,15,16,17,18,23,24,25,26,27,28,31,32,33,34,35,68,69,70,71,72,73,74,75,76,77,78,79,80],[(35,0,false),(28,0,false),(18,0,false),(4,0,false)],[],[]⟩]) (nc:=81) (by kernel_rfl)
  (fun k=>⟨fun σ W g h hp hb=>by
   have e : σ.an 0 0=va:=(h 0 rfl).1
   have h0:GsV w.heap.size W (σ.an 0 0) l:=(h 0 rfl).2
   rw [e] at h0
   show Calls _ _ #[σ.an 0 0] W _
   rw [e, <- hLe]
   exact toFew g.size (fun q hq=>⟨0,rfl,by show fpS (σ.an 0 0) q;rw [e];exact hq⟩) (fun q hq=>(h0.block hq).1) (few13_any W va l (h0.up g.size) hIn),
  fun σ W g h hp hb=>fun ρ o ho _ hv=>⟨_,X1 (few1 (h 2 rfl)) ho (C1 hv) ⟨60,by kernel_rfl⟩,rfl⟩,
  fun σ W g h hp hb=>fun ρ o ho _ hv=>⟨_,E7 _ ho ((A0 hv).1.trans (h 3 rfl)) (A0 hv).2 (decide_eq_decide.2 (by omega)),rfl⟩,
  fun σ W g h hp hb=>(N6 W (hTab.kept g (by simp))).mono fun _ _ ⟨a,g⟩=>⟨_,a,rfl,g⟩,
  fun σ W g h hp hb=>fun ρ o ho _ hv=>⟨_,conv_ui ho ((C1 hv).trans (h 1 rfl)),rfl⟩,
  fun σ W g h hp hb=>fun ρ o ho _ hv=>⟨_,X1 (few1 (h 2 rfl)) ho (C1 hv) ⟨60,by kernel_rfl⟩,rfl⟩,
  fun σ W g h hp hb=>fun ρ o ho _ hv=>⟨_,conv_ui ho ((C1 hv).trans (h 7 rfl)),congrArg (Value.int .u64) (wrapN (by omega))⟩,
  fun σ W g h hp hb=>fun ρ o ho _ hv=>by
   have n0:=of_decide_eq_false (vBx (h 4 rfl) (hp 4 0 false rfl))
   have hkl:kk<L.length:=hkl0 (by omega)
   have hlen:(hrl L).length=L.length:=by simp [hrl]
   exact ⟨_,rem_told ho ((A0 hv).1.trans (h 6 rfl)) ((A0 hv).2.trans (h 8 rfl)) (by omega),rfl⟩,
  fun σ W g h hp hb=>fun ρ o ho _ hv=>by
   have n0:=of_decide_eq_false (vBx (h 4 rfl) (hp 4 0 false rfl))
   have hkl:kk<L.length:=hkl0 (by omega)
   have hlen:(hrl L).length=L.length:=by simp [hrl]
   exact ⟨_,conv_iu ho ((C1 hv).trans (h 9 rfl)) (by omega) (by omega),congrArg (Value.int .i64) hkk.symm⟩,
  fun σ W g h hp hb=>fun ρ o ho _ hv=>by
   have n0:=of_decide_eq_false (vBx (h 4 rfl) (hp 4 0 false rfl))
   have hkl:kk<L.length:=hkl0 (by omega)
   have hlen:(hrl L).length=L.length:=by simp [hrl]
   obtain ⟨u,h1,h2,h3⟩:=dK (P:=Tryz.prog) (few2 (h 2 rfl)) ho (A0 hv).1 (kk) _ rfl (by omega) ((A0 hv).2.trans (h 10 rfl))
   exact ⟨u,h1,h2,fun q hq=>⟨2,rfl,⟨_,_,rfl,.inr (h3 q hq)⟩⟩⟩,
  fun σ W g h hp hb=>fun ρ o ho _ hv=>aD (h 11 rfl) ho (C1 hv),
  fun σ W g h hp hb=>fun ρ o ho _ hv=>by
   have n0:=of_decide_eq_false (vBx (h 4 rfl) (hp 4 0 false rfl))
   have hkl:kk<L.length:=hkl0 (by omega)
   have hlen:(hrl L).length=L.length:=by simp [hrl]
   exact ⟨_,B9 ho ((A0 hv).1.trans (h 10 rfl)) (A0 hv).2 (J7 (by omega) (by omega)),rfl⟩,
  fun σ W g h hp hb=>fun ρ o ho _ hv=>⟨_,gZ (few2 (h 2 rfl)) ho (C1 hv) ⟨43,by kernel_rfl⟩,rfl⟩,
  fun σ W g h hp hb=>fun ρ o ho _ hv=>by
   have n0:=of_decide_eq_false (vBx (h 4 rfl) (hp 4 0 false rfl))
   have hkl:kk<L.length:=hkl0 (by omega)
   have hlen:(hrl L).length=L.length:=by simp [hrl]
   exact ⟨_,mD ho ((A0 hv).1.trans (h 13 rfl)) ((A0 hv).2.trans (h 14 rfl)) (by omega) (by omega) (by omega),congrArg (Value.int .i64) (by push_cast;rfl)⟩,
  fun σ W g h hp hb=>fun ρ o ho _ hv=>by
   have n0:=of_decide_eq_false (vBx (h 4 rfl) (hp 4 0 false rfl))
   have hkl:kk<L.length:=hkl0 (by omega)
   have hlen:(hrl L).length=L.length:=by simp [hrl]
   obtain ⟨u,h1,h2,h3⟩:=dK (P:=Tryz.prog) (few2 (h 2 rfl)) ho (A0 hv).1 ((kk+1)%(hrl L).length) _ rfl (Nat.mod_lt _ (by omega)) ((A0 hv).2.trans (h 15 rfl))
   exact ⟨u,h1,h2,fun q hq=>⟨2,rfl,⟨_,_,rfl,.inr (h3 q hq)⟩⟩⟩,
  fun σ W g h hp hb=>fun ρ o ho _ hv=>aD (h 16 rfl) ho (C1 hv),
  fun σ W g h hp hb=>(N6 W (hTab.kept g (by simp))).mono fun _ _ ⟨a,g⟩=>⟨_,a,rfl,g⟩,
  fun σ W g h hp hb=>fun ρ o ho _ hv=>⟨_,Z7 ho ((C1 hv).trans (h 19 rfl)) rfl,rfl⟩,
  fun σ W g h hp hb=>by
   have n0:=of_decide_eq_false (vBx (h 4 rfl) (hp 4 0 false rfl))
   have hkl:kk<L.length:=hkl0 (by omega)
   have hlen:(hrl L).length=L.length:=by simp [hrl]
   have ha:=hbL _ (B6 (l:=hrl L) (k:=kk) (by omega))
   have hb2:=hbL _ (B6 (l:=hrl L) (k:=(kk+1)%(hrl L).length) (Nat.mod_lt _ (by omega)))
   exact (M6 W _ _ (hg (hrl L) kk) (hg (hrl L) ((kk+1)%(hrl L).length)) 5 (h 12 rfl) (h 17 rfl) (by omega) ha.1 hb2.1 ha.2 hb2.2).mono fun _ _ ⟨a,g⟩=>⟨_,a,rfl,g⟩,
  fun σ W g h hp hb=>fun ρ o ho _ hv=>⟨_,E7 true ho ((A0 hv).1.trans (h 21 rfl)) (A0 hv).2 (decide_eq_true (of_decide_eq_true (vBx (h 18 rfl) (hp 18 0 true rfl)))),rfl⟩,
  fun σ W g h hp hb=>(N6 W (hTab.kept g (by simp))).mono fun _ _ ⟨a,g⟩=>⟨_,a,rfl,g⟩,
  fun σ W g h hp hb=>fun ρ o ho _ hv=>⟨_,Z7 ho ((C1 hv).trans (h 23 rfl)) rfl,rfl⟩,
  fun σ W g h hp hb=>by
   have n0:=of_decide_eq_false (vBx (h 4 rfl) (hp 4 0 false rfl))
   have hkl:kk<L.length:=hkl0 (by omega)
   have hlen:(hrl L).length=L.length:=by simp [hrl]
   have ha:=hbL _ (B6 (l:=hrl L) (k:=kk) (by omega))
   have hb2:=hbL _ (B6 (l:=hrl L) (k:=(kk+1)%(hrl L).length) (Nat.mod_lt _ (by omega)))
   exact (M6 W _ _ (hg (hrl L) kk) (hg (hrl L) ((kk+1)%(hrl L).length)) 5 (h 12 rfl) (h 17 rfl) (by omega) ha.1 hb2.1 ha.2 hb2.2).mono fun _ _ ⟨a,g⟩=>⟨_,a,rfl,g⟩,
  fun σ W g h hp hb=>fun ρ o ho _ hv=>⟨_,E7 false ho ((A0 hv).1.trans (h 25 rfl)) (A0 hv).2 (decide_eq_false (of_decide_eq_false (vBx (h 18 rfl) (hp 18 0 false rfl)))),rfl⟩,
  fun σ W g h hp hb=>by
   have n0:=of_decide_eq_false (vBx (h 4 rfl) (hp 4 0 false rfl))
   have hkl:kk<L.length:=hkl0 (by omega)
   have hlen:(hrl L).length=L.length:=by simp [hrl]
   have ha:=hbL _ (B6 (l:=hrl L) (k:=kk) (by omega))
   have hb2:=hbL _ (B6 (l:=hrl L) (k:=(kk+1)%(hrl L).length) (Nat.mod_lt _ (by omega)))
   exact (rHFair_any W _ _ (hrl L) (hg (hrl L) kk) (hg (hrl L) ((kk+1)%(hrl L).length)) 5 (few2 (h 2 rfl)) (gR (h 12 rfl) (h 17 rfl)) (by omega) (by omega) hbL ha.1 hb2.1 ha.2 hb2.2).mono fun _ _ ⟨a,g⟩=>⟨_,a,rfl,g⟩,
  fun σ W g h hp hb=>fun ρ o ho _ hv=>⟨_,Z7 ho ((C1 hv).trans (h 27 rfl)) rfl,rfl⟩,
  fun σ W g h hp hb=>(N6 W (hTab.kept g (by simp))).mono fun _ _ ⟨a,g⟩=>⟨_,a,rfl,g⟩,
  fun σ W g h hp hb=>(N6 W (hTab.kept g (by simp))).mono fun _ _ ⟨a,g⟩=>⟨_,a,rfl,g⟩,
  fun σ W g h hp hb=>by
   have n0:=of_decide_eq_false (vBx (h 4 rfl) (hp 4 0 false rfl))
   have hkl:kk<L.length:=hkl0 (by omega)
   have hlen:(hrl L).length=L.length:=by simp [hrl]
   have ha:=hbL _ (B6 (l:=hrl L) (k:=kk) (by omega))
   have hb2:=hbL _ (B6 (l:=hrl L) (k:=(kk+1)%(hrl L).length) (Nat.mod_lt _ (by omega)))
   exact kP W _ (hg (hrl L) kk) (hg (hrl L) ((kk+1)%(hrl L).length)) 5 (gR (h 12 rfl) (h 17 rfl)) (by omega) ha.1 hb2.1,
  fun σ W g h hp hb=>fun ρ o ho _ hv=>⟨_,gZ (few2 (h 2 rfl)) ho (C1 hv) ⟨43,by kernel_rfl⟩,rfl⟩,
  fun σ W g h hp hb=>fun ρ o ho _ hv=>⟨_,hr_lt ho ((A0 hv).1.trans (h 32 rfl).1) ((A0 hv).2.trans (h 34 rfl)) rfl rfl,rfl⟩,
  fun σ W g h hp hb=>fun ρ o ho _ hv=>by
   have q:=of_decide_eq_true (C6 (h 35 rfl) (hp 35 0 true rfl))
   obtain ⟨u,h1,h2,h3⟩:=dK (P:=Tryz.prog) (few2 (h 2 rfl)) ho (A0 hv).1 (k) _ rfl q ((A0 hv).2.trans (h 32 rfl).1)
   exact ⟨u,h1,h2,fun q hq=>⟨2,rfl,⟨_,_,rfl,.inr (h3 q hq)⟩⟩⟩,
  fun σ W g h hp hb=>fun ρ o ho _ hv=>aD (h 36 rfl) ho (C1 hv),
  fun σ W g h hp hb=>fun ρ o ho _ hv=>by
   have n0:=of_decide_eq_false (vBx (h 4 rfl) (hp 4 0 false rfl))
   have hkl:kk<L.length:=hkl0 (by omega)
   have hlen:(hrl L).length=L.length:=by simp [hrl]
   have q:=of_decide_eq_true (C6 (h 35 rfl) (hp 35 0 true rfl))
   exact ⟨_,B9 ho ((A0 hv).1.trans (h 32 rfl).1) (A0 hv).2 (J7 (by omega) (by omega)),rfl⟩,
  fun σ W g h hp hb=>fun ρ o ho _ hv=>⟨_,gZ (few2 (h 2 rfl)) ho (C1 hv) ⟨43,by kernel_rfl⟩,rfl⟩,
  fun σ W g h hp hb=>fun ρ o ho _ hv=>by
   have n0:=of_decide_eq_false (vBx (h 4 rfl) (hp 4 0 false rfl))
   have hkl:kk<L.length:=hkl0 (by omega)
   have hlen:(hrl L).length=L.length:=by simp [hrl]
   have q:=of_decide_eq_true (C6 (h 35 rfl) (hp 35 0 true rfl))
   exact ⟨_,mD ho ((A0 hv).1.trans (h 38 rfl)) ((A0 hv).2.trans (h 39 rfl)) (by omega) (by omega) (by omega),congrArg (Value.int .i64) (by push_cast;rfl)⟩,
  fun σ W g h hp hb=>fun ρ o ho _ hv=>by
   have q:=of_decide_eq_true (C6 (h 35 rfl) (hp 35 0 true rfl))
   obtain ⟨u,h1,h2,h3⟩:=dK (P:=Tryz.prog) (few2 (h 2 rfl)) ho (A0 hv).1 ((k+1)%(hrl L).length) _ rfl (Nat.mod_lt _ (by omega)) ((A0 hv).2.trans (h 40 rfl))
   exact ⟨u,h1,h2,fun q hq=>⟨2,rfl,⟨_,_,rfl,.inr (h3 q hq)⟩⟩⟩,
  fun σ W g h hp hb=>fun ρ o ho _ hv=>aD (h 41 rfl) ho (C1 hv),
  fun σ W g h hp hb=>by
   have n0:=of_decide_eq_false (vBx (h 4 rfl) (hp 4 0 false rfl))
   have hkl:kk<L.length:=hkl0 (by omega)
   have hlen:(hrl L).length=L.length:=by simp [hrl]
   have q:=of_decide_eq_true (C6 (h 35 rfl) (hp 35 0 true rfl))
   have ha:=hbL _ (B6 (l:=hrl L) (k:=kk) (by omega))
   have hb2:=hbL _ (B6 (l:=hrl L) (k:=(kk+1)%(hrl L).length) (Nat.mod_lt _ (by omega)))
   have hk1:=hbL _ (B6 (l:=hrl L) (k:=k) (by omega))
   have hk2:=hbL _ (B6 (l:=hrl L) (k:=(k+1)%(hrl L).length) (Nat.mod_lt _ (by omega)))
   have bm:=ha.1.mid hb2.1 (by omega)
   have hh:=L5 W _ _ (hg (hrl L) k) (hg (hrl L) ((k+1)%(hrl L).length)) (S7 (hg (hrl L) kk) (hg (hrl L) ((kk+1)%(hrl L).length))) 12 (gR (h 37 rfl) (h 42 rfl)) (h 31 rfl) (by omega) (hbm hk1.1 (by omega)) (hbm hk2.1 (by omega)) bm hk1.2 hk2.2 (I4 ha.2 hb2.2)
   rw [K4 ha.2 hb2.2,vBx (h 43 rfl) (hp 43 0 true rfl)] at hh
   exact (hh).mono fun _ _ ⟨a,g⟩=>⟨_,a,rfl,g⟩,
  fun σ W g h hp hb=>fun ρ o ho _ hv=>⟨_,Z7 ho ((C1 hv).trans (h 45 rfl)) rfl,rfl⟩,
  fun σ W g h hp hb=>by
   have n0:=of_decide_eq_false (vBx (h 4 rfl) (hp 4 0 false rfl))
   have hkl:kk<L.length:=hkl0 (by omega)
   have hlen:(hrl L).length=L.length:=by simp [hrl]
   have q:=of_decide_eq_true (C6 (h 35 rfl) (hp 35 0 true rfl))
   have ha:=hbL _ (B6 (l:=hrl L) (k:=kk) (by omega))
   have hb2:=hbL _ (B6 (l:=hrl L) (k:=(kk+1)%(hrl L).length) (Nat.mod_lt _ (by omega)))
   have hk1:=hbL _ (B6 (l:=hrl L) (k:=k) (by omega))
   have hk2:=hbL _ (B6 (l:=hrl L) (k:=(k+1)%(hrl L).length) (Nat.mod_lt _ (by omega)))
   have bm:=ha.1.mid hb2.1 (by omega)
   have hh:=M6 W _ _ (hg (hrl L) k) (S7 (hg (hrl L) kk) (hg (hrl L) ((kk+1)%(hrl L).length))) 12 (h 37 rfl) (h 31 rfl) (by omega) (hbm hk1.1 (by omega)) bm hk1.2 (I4 ha.2 hb2.2)
   rw [K4 ha.2 hb2.2] at hh
   exact (hh).mono fun _ _ ⟨a,g⟩=>⟨_,a,rfl,g⟩,
  fun σ W g h hp hb=>fun ρ o ho _ hv=>⟨_,E7 true ho ((A0 hv).1.trans (h 47 rfl)) (A0 hv).2 (decide_eq_true (of_decide_eq_true (vBx (h 44 rfl) (hp 44 0 true rfl)))),rfl⟩,
  fun σ W g h hp hb=>by
   have n0:=of_decide_eq_false (vBx (h 4 rfl) (hp 4 0 false rfl))
   have hkl:kk<L.length:=hkl0 (by omega)
   have hlen:(hrl L).length=L.length:=by simp [hrl]
   have q:=of_decide_eq_true (C6 (h 35 rfl) (hp 35 0 true rfl))
   have ha:=hbL _ (B6 (l:=hrl L) (k:=kk) (by omega))
   have hb2:=hbL _ (B6 (l:=hrl L) (k:=(kk+1)%(hrl L).length) (Nat.mod_lt _ (by omega)))
   have hk1:=hbL _ (B6 (l:=hrl L) (k:=k) (by omega))
   have hk2:=hbL _ (B6 (l:=hrl L) (k:=(k+1)%(hrl L).length) (Nat.mod_lt _ (by omega)))
   have bm:=ha.1.mid hb2.1 (by omega)
   have hh:=L5 W _ _ (hg (hrl L) k) (hg (hrl L) ((k+1)%(hrl L).length)) (S7 (hg (hrl L) kk) (hg (hrl L) ((kk+1)%(hrl L).length))) 12 (gR (h 37 rfl) (h 42 rfl)) (h 31 rfl) (by omega) (hbm hk1.1 (by omega)) (hbm hk2.1 (by omega)) bm hk1.2 hk2.2 (I4 ha.2 hb2.2)
   rw [K4 ha.2 hb2.2,vBx (h 43 rfl) (hp 43 0 true rfl)] at hh
   exact (hh).mono fun _ _ ⟨a,g⟩=>⟨_,a,rfl,g⟩,
  fun σ W g h hp hb=>fun ρ o ho _ hv=>⟨_,Z7 ho ((C1 hv).trans (h 49 rfl)) rfl,rfl⟩,
  fun σ W g h hp hb=>by
   have n0:=of_decide_eq_false (vBx (h 4 rfl) (hp 4 0 false rfl))
   have hkl:kk<L.length:=hkl0 (by omega)
   have hlen:(hrl L).length=L.length:=by simp [hrl]
   have q:=of_decide_eq_true (C6 (h 35 rfl) (hp 35 0 true rfl))
   have ha:=hbL _ (B6 (l:=hrl L) (k:=kk) (by omega))
   have hb2:=hbL _ (B6 (l:=hrl L) (k:=(kk+1)%(hrl L).length) (Nat.mod_lt _ (by omega)))
   have hk1:=hbL _ (B6 (l:=hrl L) (k:=k) (by omega))
   have hk2:=hbL _ (B6 (l:=hrl L) (k:=(k+1)%(hrl L).length) (Nat.mod_lt _ (by omega)))
   have bm:=ha.1.mid hb2.1 (by omega)
   have hh:=M6 W _ _ (hg (hrl L) k) (S7 (hg (hrl L) kk) (hg (hrl L) ((kk+1)%(hrl L).length))) 12 (h 37 rfl) (h 31 rfl) (by omega) (hbm hk1.1 (by omega)) bm hk1.2 (I4 ha.2 hb2.2)
   rw [K4 ha.2 hb2.2] at hh
   exact (hh).mono fun _ _ ⟨a,g⟩=>⟨_,a,rfl,g⟩,
  fun σ W g h hp hb=>fun ρ o ho _ hv=>⟨_,E7 false ho ((A0 hv).1.trans (h 51 rfl)) (A0 hv).2 (decide_eq_false (of_decide_eq_false (vBx (h 44 rfl) (hp 44 0 false rfl)))),rfl⟩,
  fun σ W g h hp hb=>by
   have n0:=of_decide_eq_false (vBx (h 4 rfl) (hp 4 0 false rfl))
   have hkl:kk<L.length:=hkl0 (by omega)
   have hlen:(hrl L).length=L.length:=by simp [hrl]
   have q:=of_decide_eq_true (C6 (h 35 rfl) (hp 35 0 true rfl))
   have ha:=hbL _ (B6 (l:=hrl L) (k:=kk) (by omega))
   have hb2:=hbL _ (B6 (l:=hrl L) (k:=(kk+1)%(hrl L).length) (Nat.mod_lt _ (by omega)))
   have hk1:=hbL _ (B6 (l:=hrl L) (k:=k) (by omega))
   have hk2:=hbL _ (B6 (l:=hrl L) (k:=(k+1)%(hrl L).length) (Nat.mod_lt _ (by omega)))
   have bm:=ha.1.mid hb2.1 (by omega)
   have hh:=M6 W _ _ (hg (hrl L) ((k+1)%(hrl L).length)) (S7 (hg (hrl L) kk) (hg (hrl L) ((kk+1)%(hrl L).length))) 12 (h 42 rfl) (h 31 rfl) (by omega) (hbm hk2.1 (by omega)) bm hk2.2 (I4 ha.2 hb2.2)
   rw [K4 ha.2 hb2.2] at hh
   exact (hh).mono fun _ _ ⟨a,g⟩=>⟨_,a,rfl,g⟩,
  fun σ W g h hp hb=>fun ρ o ho _ hv=>⟨_,E7 _ ho ((A0 hv).1.trans (h 53 rfl)) (A0 hv).2 rfl,rfl⟩,
  fun σ W g h hp hb=>by
   have n0:=of_decide_eq_false (vBx (h 4 rfl) (hp 4 0 false rfl))
   have hkl:kk<L.length:=hkl0 (by omega)
   have hlen:(hrl L).length=L.length:=by simp [hrl]
   have q:=of_decide_eq_true (C6 (h 35 rfl) (hp 35 0 true rfl))
   have ha:=hbL _ (B6 (l:=hrl L) (k:=kk) (by omega))
   have hb2:=hbL _ (B6 (l:=hrl L) (k:=(kk+1)%(hrl L).length) (Nat.mod_lt _ (by omega)))
   have hk1:=hbL _ (B6 (l:=hrl L) (k:=k) (by omega))
   have hk2:=hbL _ (B6 (l:=hrl L) (k:=(k+1)%(hrl L).length) (Nat.mod_lt _ (by omega)))
   have bm:=ha.1.mid hb2.1 (by omega)
   have hh:=L5 W _ _ (hg (hrl L) k) (hg (hrl L) ((k+1)%(hrl L).length)) (S7 (hg (hrl L) kk) (hg (hrl L) ((kk+1)%(hrl L).length))) 12 (gR (h 37 rfl) (h 42 rfl)) (h 31 rfl) (by omega) (hbm hk1.1 (by omega)) (hbm hk2.1 (by omega)) bm hk1.2 hk2.2 (I4 ha.2 hb2.2)
   rw [K4 ha.2 hb2.2,vBx (h 43 rfl) (hp 43 0 false rfl)] at hh
   exact (hh).mono fun _ _ ⟨a,g⟩=>⟨_,a,rfl,g⟩,
  fun σ W g h hp hb=>fun ρ o ho _ hv=>⟨_,Z7 ho ((C1 hv).trans (h 55 rfl)) rfl,rfl⟩,
  fun σ W g h hp hb=>by
   have n0:=of_decide_eq_false (vBx (h 4 rfl) (hp 4 0 false rfl))
   have hkl:kk<L.length:=hkl0 (by omega)
   have hlen:(hrl L).length=L.length:=by simp [hrl]
   have q:=of_decide_eq_true (C6 (h 35 rfl) (hp 35 0 true rfl))
   have ha:=hbL _ (B6 (l:=hrl L) (k:=kk) (by omega))
   have hb2:=hbL _ (B6 (l:=hrl L) (k:=(kk+1)%(hrl L).length) (Nat.mod_lt _ (by omega)))
   have hk1:=hbL _ (B6 (l:=hrl L) (k:=k) (by omega))
   have hk2:=hbL _ (B6 (l:=hrl L) (k:=(k+1)%(hrl L).length) (Nat.mod_lt _ (by omega)))
   have bm:=ha.1.mid hb2.1 (by omega)
   have hh:=L5 W _ _ (hg (hrl L) k) (hg (hrl L) ((k+1)%(hrl L).length)) (S7 (hg (hrl L) kk) (hg (hrl L) ((kk+1)%(hrl L).length))) 12 (gR (h 37 rfl) (h 42 rfl)) (h 31 rfl) (by omega) (hbm hk1.1 (by omega)) (hbm hk2.1 (by omega)) bm hk1.2 hk2.2 (I4 ha.2 hb2.2)
   rw [K4 ha.2 hb2.2,vBx (h 43 rfl) (hp 43 0 true rfl)] at hh
   exact (hh).mono fun _ _ ⟨a,g⟩=>⟨_,a,rfl,g⟩,
  fun σ W g h hp hb=>by
   have n0:=of_decide_eq_false (vBx (h 4 rfl) (hp 4 0 false rfl))
   have hkl:kk<L.length:=hkl0 (by omega)
   have hlen:(hrl L).length=L.length:=by simp [hrl]
   have q:=of_decide_eq_true (C6 (h 35 rfl) (hp 35 0 true rfl))
   have ha:=hbL _ (B6 (l:=hrl L) (k:=kk) (by omega))
   have hb2:=hbL _ (B6 (l:=hrl L) (k:=(kk+1)%(hrl L).length) (Nat.mod_lt _ (by omega)))
   have hk1:=hbL _ (B6 (l:=hrl L) (k:=k) (by omega))
   have hk2:=hbL _ (B6 (l:=hrl L) (k:=(k+1)%(hrl L).length) (Nat.mod_lt _ (by omega)))
   have bm:=ha.1.mid hb2.1 (by omega)
   have hh:=L5 W _ _ (hg (hrl L) k) (hg (hrl L) ((k+1)%(hrl L).length)) (S7 (hg (hrl L) kk) (hg (hrl L) ((kk+1)%(hrl L).length))) 12 (gR (h 37 rfl) (h 42 rfl)) (h 31 rfl) (by omega) (hbm hk1.1 (by omega)) (hbm hk2.1 (by omega)) bm hk1.2 hk2.2 (I4 ha.2 hb2.2)
   rw [K4 ha.2 hb2.2,vBx (h 43 rfl) (hp 43 0 true rfl)] at hh
   exact (hh).mono fun _ _ ⟨a,g⟩=>⟨_,a,rfl,g⟩,
  fun σ W g h hp hb=>by
   have n0:=of_decide_eq_false (vBx (h 4 rfl) (hp 4 0 false rfl))
   have hkl:kk<L.length:=hkl0 (by omega)
   have hlen:(hrl L).length=L.length:=by simp [hrl]
   have q:=of_decide_eq_true (C6 (h 35 rfl) (hp 35 0 true rfl))
   have ha:=hbL _ (B6 (l:=hrl L) (k:=kk) (by omega))
   have hb2:=hbL _ (B6 (l:=hrl L) (k:=(kk+1)%(hrl L).length) (Nat.mod_lt _ (by omega)))
   have hk1:=hbL _ (B6 (l:=hrl L) (k:=k) (by omega))
   have hk2:=hbL _ (B6 (l:=hrl L) (k:=(k+1)%(hrl L).length) (Nat.mod_lt _ (by omega)))
   have bm:=ha.1.mid hb2.1 (by omega)
   have hh:=L5 W _ _ (hg (hrl L) k) (hg (hrl L) ((k+1)%(hrl L).length)) (S7 (hg (hrl L) kk) (hg (hrl L) ((kk+1)%(hrl L).length))) 12 (gR (h 37 rfl) (h 42 rfl)) (h 31 rfl) (by omega) (hbm hk1.1 (by omega)) (hbm hk2.1 (by omega)) bm hk1.2 hk2.2 (I4 ha.2 hb2.2)
   rw [K4 ha.2 hb2.2,vBx (h 43 rfl) (hp 43 0 false rfl)] at hh
   exact (hh).mono fun _ _ ⟨a,g⟩=>⟨_,a,rfl,g⟩,
  fun σ W g h hp hb=>by
   have n0:=of_decide_eq_false (vBx (h 4 rfl) (hp 4 0 false rfl))
   have hkl:kk<L.length:=hkl0 (by omega)
   have hlen:(hrl L).length=L.length:=by simp [hrl]
   have q:=of_decide_eq_true (C6 (h 35 rfl) (hp 35 0 true rfl))
   have hk1:=hbL _ (B6 (l:=hrl L) (k:=k) (by omega))
   have hk2:=hbL _ (B6 (l:=hrl L) (k:=(k+1)%(hrl L).length) (Nat.mod_lt _ (by omega)))
   exact (M6 W _ _ (hg (hrl L) k) (hg (hrl L) ((k+1)%(hrl L).length)) 5 (h 37 rfl) (h 42 rfl) (by omega) hk1.1 hk2.1 hk1.2 hk2.2).mono fun _ _ ⟨a,g⟩=>⟨_,a,rfl,g⟩,
  fun σ W g h hp hb=>by
   have n0:=of_decide_eq_false (vBx (h 4 rfl) (hp 4 0 false rfl))
   have hkl:kk<L.length:=hkl0 (by omega)
   have hlen:(hrl L).length=L.length:=by simp [hrl]
   have ha:=hbL _ (B6 (l:=hrl L) (k:=kk) (by omega))
   have hb2:=hbL _ (B6 (l:=hrl L) (k:=(kk+1)%(hrl L).length) (Nat.mod_lt _ (by omega)))
   exact (M6 W _ _ (hg (hrl L) kk) (hg (hrl L) ((kk+1)%(hrl L).length)) 5 (h 12 rfl) (h 17 rfl) (by omega) ha.1 hb2.1 ha.2 hb2.2).mono fun _ _ ⟨a,g⟩=>⟨_,a,rfl,g⟩,
  fun σ W g h hp hb=>fun ρ o ho _ hv=>⟨_,E7 _ ho ((A0 hv).1.trans (h 60 rfl)) ((A0 hv).2.trans (h 61 rfl)) rfl,rfl⟩,
  fun σ W g h hp hb=>fun ρ o ho _ hv=>by
   have n0:=of_decide_eq_false (vBx (h 4 rfl) (hp 4 0 false rfl))
   have hkl:kk<L.length:=hkl0 (by omega)
   have hlen:(hrl L).length=L.length:=by simp [hrl]
   have q:=of_decide_eq_true (C6 (h 35 rfl) (hp 35 0 true rfl))
   have ub:=up1_b (wS_b (rp (hg (hrl L) kk)) (rp (hg (hrl L) ((kk+1)%(hrl L).length)))) ((hrl L).map rp) k
   exact ⟨_,B9 ho ((A0 hv).1.trans (h 33 rfl)) (A0 hv).2 (J7 (by omega) (by omega)),rfl⟩,
  fun σ W g h hp hb=>fun ρ o ho _ hv=>by
   have n0:=of_decide_eq_false (vBx (h 4 rfl) (hp 4 0 false rfl))
   have hkl:kk<L.length:=hkl0 (by omega)
   have hlen:(hrl L).length=L.length:=by simp [hrl]
   have q:=of_decide_eq_true (C6 (h 35 rfl) (hp 35 0 true rfl))
   have ub:=up1_b (wS_b (rp (hg (hrl L) kk)) (rp (hg (hrl L) ((kk+1)%(hrl L).length)))) ((hrl L).map rp) k
   exact ⟨_,B9 ho ((A0 hv).1.trans (h 33 rfl)) (A0 hv).2 (sub_sm (by omega) (by omega)),rfl⟩,
  fun σ W g h hp hb=>fun ρ o ho _ hv=>by
   have n0:=of_decide_eq_false (vBx (h 4 rfl) (hp 4 0 false rfl))
   have hkl:kk<L.length:=hkl0 (by omega)
   have hlen:(hrl L).length=L.length:=by simp [hrl]
   have q:=of_decide_eq_true (C6 (h 35 rfl) (hp 35 0 true rfl))
   exact ⟨_,B9 ho ((A0 hv).1.trans (h 32 rfl).1) (A0 hv).2 (J7 (by omega) (by omega)),rfl⟩,
  fun σ W g h hp hb=>fun ρ o ho _ hv=>by
   have n0:=of_decide_eq_false (vBx (h 4 rfl) (hp 4 0 false rfl))
   have hkl:kk<L.length:=hkl0 (by omega)
   have hlen:(hrl L).length=L.length:=by simp [hrl]
   have q:=of_decide_eq_true (C6 (h 35 rfl) (hp 35 0 true rfl))
   exact ⟨_,B9 ho ((A0 hv).1.trans (h 32 rfl).1) (A0 hv).2 (J7 (by omega) (by omega)),rfl⟩,
  fun σ W g h hp hb=>fun ρ o ho _ hv=>by
   have n0:=of_decide_eq_false (vBx (h 4 rfl) (hp 4 0 false rfl))
   have hkl:kk<L.length:=hkl0 (by omega)
   have hlen:(hrl L).length=L.length:=by simp [hrl]
   have q:=of_decide_eq_true (C6 (h 35 rfl) (hp 35 0 true rfl))
   exact ⟨_,B9 ho ((A0 hv).1.trans (h 32 rfl).1) (A0 hv).2 (J7 (by omega) (by omega)),rfl⟩,
  fun σ W g h hp hb=>toPts (Nat.zero_le _) (dW W _ L ((few1 (h 2 rfl)).up g.size) (by omega) hI),
  fun σ W g h hp hb=>fun ρ o ho _ hv=>by
   have n0:=of_decide_eq_false (vBx (h 4 rfl) (hp 4 0 false rfl))
   have hkl:kk<L.length:=hkl0 (by omega)
   have hlen:(hrl L).length=L.length:=by simp [hrl]
   obtain ⟨u,h1,h2,h3⟩:=hS (few1 (h 2 rfl)) ho (A0 hv).1 (kk) hkl ((A0 hv).2.trans (h 10 rfl))
   exact ⟨u,h1,h2,fun q hq=>⟨2,rfl,⟨_,_,rfl,.inl (h3 q hq)⟩⟩⟩,
  fun σ W g h hp hb=>fun ρ o ho _ hv=>mS (h 69 rfl) ho (C1 hv),
  fun σ W g h hp hb=>by
   have n0:=of_decide_eq_false (vBx (h 4 rfl) (hp 4 0 false rfl))
   have hkl:kk<L.length:=hkl0 (by omega)
   have hlen:(hrl L).length=L.length:=by simp [hrl]
   have s:=hI _ (bF (l:=L) (k:=kk) hkl)
   exact argl (congrArg (fun v=>[v]) (h 70 rfl)) (K9 W _ _ s.1.1 s.1.2 s.2.1 s.2.2),
  fun σ W g h hp hb=>fun ρ o ho _ hv=>by
   have n0:=of_decide_eq_false (vBx (h 4 rfl) (hp 4 0 false rfl))
   have hkl:kk<L.length:=hkl0 (by omega)
   have hlen:(hrl L).length=L.length:=by simp [hrl]
   exact ⟨_,B9 ho ((A0 hv).1.trans (h 10 rfl)) (A0 hv).2 (J7 (by omega) (by omega)),rfl⟩,
  fun σ W g h hp hb=>fun ρ o ho _ hv=>⟨_,X1 (few1 (h 2 rfl)) ho (C1 hv) ⟨60,by kernel_rfl⟩,rfl⟩,
  fun σ W g h hp hb=>fun ρ o ho _ hv=>by
   have n0:=of_decide_eq_false (vBx (h 4 rfl) (hp 4 0 false rfl))
   have hkl:kk<L.length:=hkl0 (by omega)
   have hlen:(hrl L).length=L.length:=by simp [hrl]
   exact ⟨_,mD ho ((A0 hv).1.trans (h 72 rfl)) ((A0 hv).2.trans (h 73 rfl)) (by omega) (by omega) (by omega),congrArg (Value.int .i64) (by push_cast;rfl)⟩,
  fun σ W g h hp hb=>fun ρ o ho _ hv=>by
   have n0:=of_decide_eq_false (vBx (h 4 rfl) (hp 4 0 false rfl))
   have hkl:kk<L.length:=hkl0 (by omega)
   have hlen:(hrl L).length=L.length:=by simp [hrl]
   obtain ⟨u,h1,h2,h3⟩:=hS (few1 (h 2 rfl)) ho (A0 hv).1 ((kk+1)%L.length) (Nat.mod_lt _ (by omega)) ((A0 hv).2.trans (h 74 rfl))
   exact ⟨u,h1,h2,fun q hq=>⟨2,rfl,⟨_,_,rfl,.inl (h3 q hq)⟩⟩⟩,
  fun σ W g h hp hb=>fun ρ o ho _ hv=>mS (h 75 rfl) ho (C1 hv),
  fun σ W g h hp hb=>by
   have n0:=of_decide_eq_false (vBx (h 4 rfl) (hp 4 0 false rfl))
   have hkl:kk<L.length:=hkl0 (by omega)
   have hlen:(hrl L).length=L.length:=by simp [hrl]
   have s:=hI _ (bF (l:=L) (k:=(kk+1)%L.length) (Nat.mod_lt _ (by omega)))
   exact argl (congrArg (fun v=>[v]) (h 76 rfl)) (K9 W _ _ s.1.1 s.1.2 s.2.1 s.2.2),
  fun σ W g h hp hb=>by
   have n0:=of_decide_eq_false (vBx (h 4 rfl) (hp 4 0 false rfl))
   have hkl:kk<L.length:=hkl0 (by omega)
   have hlen:(hrl L).length=L.length:=by simp [hrl]
   have s1:=hI _ (bF (l:=L) (k:=kk) hkl)
   have s2:=hI _ (bF (l:=L) (k:=(kk+1)%L.length) (Nat.mod_lt _ (by omega)))
   exact toSZZ (eN W _ _ (gl L) _ _ 1 (h 68 rfl).1 (mksg (h 71 rfl) (h 77 rfl)) (by omega) (by simp [gl];omega) glL (dM s1.1.1 s1.1.2 s1.2.1 s1.2.2) (dM s2.1.1 s2.1.2 s2.2.1 s2.2.2) (hTab.kept g (by simp))),
  fun σ W g h hp hb=>fun ρ o ho _ hv=>by
   have bb:=bes_b (gl L) (E4 (gg L kk).1 (gg L kk).2) (E4 (gg L ((kk+1)%L.length)).1 (gg L ((kk+1)%L.length)).2)
   have hgl:(gl L).length=L.length:=by simp [gl]
   exact ⟨_,B9 ho ((A0 hv).1.trans (lV (h 78 rfl))) ((A0 hv).2.trans (szz2 (h 78 rfl))) (sub_sm (by omega) (by omega)),rfl⟩,
  fun σ W g h hp hb=>fun ρ o ho _ hv=>by
   have n0:=of_decide_eq_false (vBx (h 4 rfl) (hp 4 0 false rfl))
   have hkl:kk<L.length:=hkl0 (by omega)
   have hlen:(hrl L).length=L.length:=by simp [hrl]
   have q:=of_decide_eq_false (C6 (h 35 rfl) (hp 35 0 false rfl))
   have hc:=(h 32 rfl).2
   have hk2:k=(hrl L).length:=by have:=hc.1;omega
   have hne:=of_decide_eq_false (vBx (h 18 rfl) (hp 18 0 false rfl))
   have hfair:cR ((hrl L).map rp) (rp (hg (hrl L) kk)) (rp (hg (hrl L) ((kk+1)%(hrl L).length))):=decOf (by have:=vBx (h 28 rfl) (hp 28 0 false rfl);simpa using this)
   have e:=sides_eq hne hfair (fun i hi=>hc.2 i (by rw [List.length_map] at hi;omega))
   rw [List.length_map] at e
   have ea:(rp (hg (hrl L) kk))=E4 (gg L kk).1 (gg L kk).2:=hgp L kk hkl
   have eb:(rp (hg (hrl L) ((kk+1)%(hrl L).length)))=E4 (gg L ((kk+1)%L.length)).1 (gg L ((kk+1)%L.length)).2:=by rw [hlen];exact hgp L _ (Nat.mod_lt _ (by omega))
   refine ⟨_,E7 true ho ((A0 hv).1.trans (h 79 rfl)) ((A0 hv).2.trans (h 33 rfl)) (decide_eq_true ?_),rfl⟩
   rw [hk2, <- e,hrl_rp, <- ea, <- eb],
  trivial⟩)
  (fun k=>⟨fun σ W g h hp=>⟨_,h 4 rfl⟩,
  fun σ W g h hp=>⟨rfl,_,rfl⟩,
  fun σ W g h hp=>⟨_,h 28 rfl⟩,
  fun σ W g h hp=>⟨0,(fun e=>nomatch e),⟨rfl,fun m hm=>(if_neg (by omega)).trans (if_neg (by omega)).symm⟩,⟨rfl,Nat.zero_le _,fun i hi=>absurd hi (Nat.not_lt_zero i)⟩,rfl,trivial⟩,
  fun σ W g h hp=>⟨_,h 35 rfl⟩,
  fun σ W g h hp=>⟨rfl,_,rfl⟩,
  fun σ W g h hp=>⟨rfl,_,rfl⟩,
  fun σ W g h hp=>⟨_,h 54 rfl⟩,
  fun σ W g h hp=>⟨_,h 62 rfl⟩,
  fun σ W g h hp=>by
   have q:=of_decide_eq_true (C6 (h 35 rfl) (hp 35 0 true rfl))
   have hc:=(h 32 rfl).2
   have hu:upS (wS (rp (hg (hrl L) kk)) (rp (hg (hrl L) ((kk+1)%(hrl L).length)))) ((hrl L).map rp) (k+1)=upS (wS (rp (hg (hrl L) kk)) (rp (hg (hrl L) ((kk+1)%(hrl L).length)))) ((hrl L).map rp) k+wS (rp (hg (hrl L) kk)) (rp (hg (hrl L) ((kk+1)%(hrl L).length))) (rp (hg (hrl L) k)) (rp (hg (hrl L) ((k+1)%(hrl L).length))):=by rw [X0 (hrl L) k (by omega),aY (hrl L) k (by omega)];rfl
   refine ⟨k+1,fun _=>by show (if 32=32 then (hrl L).length-(k+1) else 0)<(if 32=32 then (hrl L).length-k else 0);rw [if_pos rfl,if_pos rfl];omega,⟨rfl,fun m hm=>(if_neg (by omega)).trans (if_neg (by omega)).symm⟩,⟨(h 65 rfl).trans (by push_cast;rfl),by omega, ?_⟩,(h 63 rfl).trans (congrArg (Value.int .i64) (by rw [hu];unfold wS;rw [vBx (h 43 rfl) (hp 43 0 true rfl),if_pos rfl,if_pos (of_decide_eq_true (vBx (h 62 rfl) (hp 62 0 true rfl)))]<;>omega)),trivial⟩
   intro i hi
   by_cases e:i=k
   · rw [e, <- X0 (hrl L) k (by omega), <- aY (hrl L) k (by omega)]
     intro hin
     exact ⟨fun e2=>of_decide_eq_false (vBx (h 44 rfl) (hp 44 0 false rfl)) (pcmp_zero.2 e2),fun e2=>of_decide_eq_false (vBx (h 54 rfl) (hp 54 0 false rfl)) (pcmp_zero.2 e2)⟩
   · exact hc.2 i (by omega),
  fun σ W g h hp=>by
   have q:=of_decide_eq_true (C6 (h 35 rfl) (hp 35 0 true rfl))
   have hc:=(h 32 rfl).2
   have hu:upS (wS (rp (hg (hrl L) kk)) (rp (hg (hrl L) ((kk+1)%(hrl L).length)))) ((hrl L).map rp) (k+1)=upS (wS (rp (hg (hrl L) kk)) (rp (hg (hrl L) ((kk+1)%(hrl L).length)))) ((hrl L).map rp) k+wS (rp (hg (hrl L) kk)) (rp (hg (hrl L) ((kk+1)%(hrl L).length))) (rp (hg (hrl L) k)) (rp (hg (hrl L) ((k+1)%(hrl L).length))):=by rw [X0 (hrl L) k (by omega),aY (hrl L) k (by omega)];rfl
   refine ⟨k+1,fun _=>by show (if 32=32 then (hrl L).length-(k+1) else 0)<(if 32=32 then (hrl L).length-k else 0);rw [if_pos rfl,if_pos rfl];omega,⟨rfl,fun m hm=>(if_neg (by omega)).trans (if_neg (by omega)).symm⟩,⟨(h 66 rfl).trans (by push_cast;rfl),by omega, ?_⟩,(h 64 rfl).trans (congrArg (Value.int .i64) (by rw [hu];unfold wS;rw [vBx (h 43 rfl) (hp 43 0 true rfl),if_pos rfl,if_neg (of_decide_eq_false (vBx (h 62 rfl) (hp 62 0 false rfl)))]<;>omega)),trivial⟩
   intro i hi
   by_cases e:i=k
   · rw [e, <- X0 (hrl L) k (by omega), <- aY (hrl L) k (by omega)]
     intro hin
     exact ⟨fun e2=>of_decide_eq_false (vBx (h 44 rfl) (hp 44 0 false rfl)) (pcmp_zero.2 e2),fun e2=>of_decide_eq_false (vBx (h 54 rfl) (hp 54 0 false rfl)) (pcmp_zero.2 e2)⟩
   · exact hc.2 i (by omega),
  fun σ W g h hp=>by
   have q:=of_decide_eq_true (C6 (h 35 rfl) (hp 35 0 true rfl))
   have hc:=(h 32 rfl).2
   have hu:upS (wS (rp (hg (hrl L) kk)) (rp (hg (hrl L) ((kk+1)%(hrl L).length)))) ((hrl L).map rp) (k+1)=upS (wS (rp (hg (hrl L) kk)) (rp (hg (hrl L) ((kk+1)%(hrl L).length)))) ((hrl L).map rp) k+wS (rp (hg (hrl L) kk)) (rp (hg (hrl L) ((kk+1)%(hrl L).length))) (rp (hg (hrl L) k)) (rp (hg (hrl L) ((k+1)%(hrl L).length))):=by rw [X0 (hrl L) k (by omega),aY (hrl L) k (by omega)];rfl
   refine ⟨k+1,fun _=>by show (if 32=32 then (hrl L).length-(k+1) else 0)<(if 32=32 then (hrl L).length-k else 0);rw [if_pos rfl,if_pos rfl];omega,⟨rfl,fun m hm=>(if_neg (by omega)).trans (if_neg (by omega)).symm⟩,⟨(h 67 rfl).trans (by push_cast;rfl),by omega, ?_⟩,(h 33 rfl).trans (congrArg (Value.int .i64) (by rw [hu];unfold wS;rw [vBx (h 43 rfl) (hp 43 0 false rfl),if_neg (by decide)];omega)),trivial⟩
   intro i hi
   by_cases e:i=k
   · rw [e, <- X0 (hrl L) k (by omega), <- aY (hrl L) k (by omega)]
     intro hin
     exact absurd hin (decNo (vBx (h 43 rfl) (hp 43 0 false rfl)))
   · exact hc.2 i (by omega),
  trivial⟩)
  (fun k hk=>⟨fun τ W g h hp hb=>⟨rfl,g⟩,
  fun τ W g h hp hb=>⟨rfl,g⟩,
  fun τ W g h hp hb=>⟨rfl,g⟩,
  fun τ W g h hp hb=>⟨rfl,g⟩,
  fun τ W g h hp hb=>⟨rfl,g⟩,
  fun τ W g h hp hb=>⟨rfl,g⟩,
  trivial⟩)
end Go.Proofs.YtninnifpgpjfhaaGreatDoor
namespace Go.Proofs.YtninnifpgpjfhaaGreatDoor.WindSides
open Go.ChangeShapes Go.WideShapes Go.ChangeAt Go.RowKit Go.ChangeMaps
theorem contract (H:Type) (enc:TypeId × Value->H) (W:World) (base:Nat) (args:Array Value) (ds gs:List (DataW H)) (before:List MemPlace)
 (hval:∀ (j:Nat) t v,Tryz.f6.params[j]?=some t->args[j]?=some v->Value.okWide Tryz.prog W .any base t v)
 (hW:DataW.Whole enc Tryz.prog Tryz.f6.params.toList Rows.windSidesSpec.vars false W args.toList ds gs before) (hL:laidMetH Tryz.prog Rows.windSidesRow.laid W) :
 Calls Tryz.prog 6 args W fun e W'=>∃ v,e = .returned v/\Rows.windSidesSpec.post enc Tryz.prog Tryz.f6 false true false false W args v W':=by
 have hW':=hW
 obtain ⟨p,q,hA0,hV,rfl,hfz,hnd⟩:=hW
 have hA:DataW.TrodAll enc Tryz.prog W 0 (fun _=>true) true Tryz.f6.params.toList args.toList ds p:=hA0
 rw [Tryz.params6] at hA hval
 obtain ⟨v0,vs0,d0,ds0,p0,q0,hargs0,rfl,rfl,h0,r0⟩:=trodAll_cons hA
 obtain ⟨v1,vs1,d1,ds1,p1,q1,hargs1,rfl,rfl,h1,r1⟩:=trodAll_cons r0
 obtain ⟨rfl,rfl,rfl⟩:=trodAll_nil r1
 obtain rfl:args = #[v0,v1]:=by cases args;simp_all
 obtain ⟨rfl,rfl⟩:=trodVars_none hV
 simp only [List.append_nil] at hW' hfz
 have hlt:∀ p ∈ p0++p1,p.block<W.heap.size:=fun p hp=>by
  have:=DataW.TrodAll.lt hA p (by simpa using hp)
  exact this
 have hv0:=hval 0 53 v0 rfl rfl
 obtain ⟨s0,ln0,cp0,rfl⟩:=okWide_slice Tryz.underlying53 hv0
 obtain ⟨l0,hd0,hs0⟩:=open_gs h0
 have hv1:=hval 1 3 v1 rfl rfl
 obtain ⟨x1,rfl,_,_,w1⟩:=open_int Tryz.underlying3 hv1 h1
 clear hA0
 refine (fJ W _ l0 x1 hd0 hs0 (mR w1).1 (mR w1).2 (tab_of hL)).mono fun e W' ⟨he,hg⟩=>?_
 subst he
 have hs0:∀ sp:Nat->Bool,(∀ p ∈ p0,sp p.block=true)->DataW.Trod enc Tryz.prog W' 0 sp true 53 (.slice s0 ln0 cp0) d0 p0:=fun sp hsp=>
  Go.WideElems.Trod_stays (by kernel_rfl) (by kernel_rfl) (of_decide_eq_true (by kernel_rfl)) h0 (fun p hp=>hU hg (hlt p (by simp [hp]))) hsp
 have hs1:∀ sp:Nat->Bool,(∀ p ∈ p1,sp p.block=true)->DataW.Trod enc Tryz.prog W' 0 sp true 3 (.int .i64 x1) d1 p1:=fun sp hsp=>
  Go.WideElems.Trod_stays (by kernel_rfl) (by kernel_rfl) (of_decide_eq_true (by kernel_rfl)) h1 (fun p hp=>hU hg (hlt p (by simp [hp]))) hsp
 exact ⟨_,rfl,post_places hW' hlt (fun _ _ _=>trodAll_cons_mk (shut_bool Tryz.underlying4 _) trodAll_mk0) (fun sp hsp=>by
  have:=trodAll_cons_mk (hs0 sp (fun p hp=>hsp p (by simp [hp]))) (trodAll_cons_mk (hs1 sp (fun p hp=>hsp p (by simp [hp]))) (trodAll_mk0))
  rw [List.append_nil] at this
  exact this) (fun _=>rfl) hg (ok_one (by kernel_rfl) rfl (okWide_bool_mk Tryz.underlying4 _))⟩
theorem laid_met (os:Os):laidMet Tryz.prog Rows.windSidesRow.laid ((dJ os).forCall (fun _ _=>0) ⟨#[], #[.slice none 0 0,.int .i64 0],[]⟩).memory:=
 laidMet_of_run' 80 (by kernel_rfl) (by kernel_rfl)
theorem reads (os:Os) {H:Type} (enc:TypeId × Value->H):∃ places,DataW.whole enc Tryz.prog ((dJ os).forCall (fun _ _=>0) ⟨#[], #[.slice none 0 0,.int .i64 0],[]⟩).memory Tryz.f6.params.toList Rows.windSidesSpec.vars false #[Value.slice none 0 0,Value.int .i64 0].toList 8=some ([.nil,.lit (.int .i64 0)],[],places):=
 ⟨[],by kernel_rfl⟩
theorem lifted (os:Os) (started:os.Started) (H:Type) (enc:TypeId × Value->H) (F:Stop.Interp) :
 ReturnsInHanded {} Tryz.checked os 6 .any ((OpenSpec.ofChange Rows.windSidesSpec).preRow enc Tryz.prog Tryz.f6 Rows.windSidesRow.domain false Rows.windSidesRow.laid) (((OpenSpec.ofChange Rows.windSidesSpec).at F).post enc Tryz.prog Tryz.f6 false true false false):=by
 obtain ⟨places,hx⟩:=reads os enc
 refine returnsInHanded_of_row (C:=Tryz.checked) (s:=OpenSpec.ofChange Rows.windSidesSpec) law_own started (by kernel_rfl) Tryz.func6
  (witness_row_at (enc:=enc) (C:=Tryz.checked) false (dJ os) #[.slice none 0 0,.int .i64 0] rfl (by kernel_rfl) (by kernel_rfl) (by kernel_rfl)
   (OpenSpec.preRow_of_cond 8 hx (by kernel_rfl) (fun k hk=>by cases hk) (by kernel_rfl) (laid_met os))) ?_
 intro W base args ds gs before hval hW _ _ _ hL _ _
 exact contract H enc W base args ds gs before hval hW hL
theorem said:Rows.WindSidesSaid:=
 OpenClaim.holds_of_cond 6 Tryz.f6 rfl rfl rfl rfl rfl rfl rfl ⟨rfl,rfl,rfl,rfl,rfl⟩ rfl rfl rfl rfl rfl (by kernel_rfl) Tryz.func6 (by kernel_rfl)
  (of_decide_eq_true (by kernel_rfl)) (by unfold Func.isWrapper;first | (rw [if_pos (by decide +kernel)];kernel_rfl) | (rw [if_neg (by decide +kernel)];exact ⟨rfl,rfl⟩))
  (fun os started H enc _ F=>by rw [OpenClaim.pre_eq_preRow];exact lifted os started H enc F)
theorem plain (f : FuncId) (fn : Func) (hf : Tryz.pinned.checked.prog.funcNamed "pellicle/pelliclelaw13.WindSides" = some f) (hfn : Tryz.pinned.checked.prog.funcs[f]? = some fn) :
 false=Tryz.pinned.checked.prog.looks [] /\ ∀ (j:Nat) t,fn.params[j]?=some t->Tryz.pinned.checked.prog.wantsStandIn t=false:=by
 obtain rfl : f = 6 := Option.some.inj ((show Tryz.prog.funcNamed "pellicle/pelliclelaw13.WindSides" = some 6 by kernel_rfl).symm.trans hf) |>.symm
 obtain rfl:fn=Tryz.f6:=(Option.some.inj (Tryz.func6.symm.trans hfn)).symm
 refine ⟨by kernel_rfl,fun j t ht=>?_⟩
 rw [Tryz.params6] at ht
 have ht2:=Array.mem_of_getElem? ht
 simp at ht2
 first | (rcases ht2 with rfl | rfl | rfl) | (rcases ht2 with rfl | rfl) | subst ht2
 all_goals exact (show Tryz.prog.wantsStandIn _=false by kernel_rfl)
theorem card:Rows.WindSidesCardSaid:=
 Claim7.holds_tied_plain_at .later [] _ _ _ _ said (fun _ h=>by cases h) (by kernel_rfl) (fun _ h=>by cases h) windSides_row_tie rfl ⟨rfl,rfl⟩ (by kernel_rfl) rfl plain (by kernel_rfl)
end Go.Proofs.YtninnifpgpjfhaaGreatDoor.WindSides
