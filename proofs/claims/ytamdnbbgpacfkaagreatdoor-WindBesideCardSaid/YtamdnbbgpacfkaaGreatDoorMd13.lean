/- What the laws lean on, part 13. -/
import Derived.Below
import Derived.BigCall
import Derived.BigQuiet
import Derived.BigRegion
import Derived.Deep.AppendLies
import Derived.Deep.CutBlock
import Derived.Deep.CutRange
import Derived.Deep.DeepCutAuto
import Derived.Deep.DeepHandedRow
import Derived.Deep.LoopGhost
import Derived.Deep.MidRow
import Derived.Deep.QuietTactic
import Derived.Deep.RegionHeld3
import Derived.Deep.RegionLaw
import Derived.Deep.WholeRow
import Derived.Laws.AppendOwn
import Derived.Laws.Concat
import Derived.Laws.CopyOwn
import Derived.Laws.Externs
import Derived.Laws.IdiomStrings
import Derived.Lib.BitFns
import Derived.Lib.Bytealg
import Derived.Lib.Hide
import Derived.Lib.Slices
import Derived.Lib.Small
import Derived.Lib.Strings
import Derived.Lib.Walk
import Derived.LoopN
import Derived.OpenShut
import Derived.OrdersHeld
import Derived.OrdersIn
import Derived.Outline
import Derived.OwnWalk
import Derived.ProofKit
import Derived.RangeFuncCalls
import Derived.RangeFuncNested
import Derived.RangeFuncOwn
import Derived.Shelf.Bits.Mul64
import Derived.Shelf.Spec.TrailingZeros
import Derived.StillTailTactics
import Derived.WalkKit
import Derived.WalkLawsBesides
import Derived.WalkSpells
import Derived.Test.YtamdnbbgpacfkaaGreatDoorProg
import Derived.Test.YtamdnbbgpacfkaaGreatDoorRows
import Derived.Test.YtamdnbbgpacfkaaGreatDoorMd12
set_option linter.unusedVariables false
set_option linter.unusedSimpArgs false
set_option maxRecDepth 100000
namespace Go.Proofs.YtamdnbbgpacfkaaGreatDoor
open Go.RowKit Mat Ex PM
def sZc (p:Prop) (z:Int):Sp := .of .one (fun v _=>v = .int .i64 z/\p) (fun v W e=>⟨fun _ => .int .i64 z,fun _=>rfl,e.1⟩) (fun _ _ _ _ h=>h)
def hg (l:List H3) (k:Nat):H3:=l.getD k ⟨0,0,1⟩
theorem hg_at {l:List H3} {k:Nat} (h:k<l.length):l[k]=hg l k:=by simp [hg,h]
theorem F6 {l:List H3} {k:Nat} (h:k<l.length):hg l k ∈ l:=by rw [<- hg_at h];exact List.getElem_mem h
theorem gS {P:Program} {ρ : Operand->Value} {o:Oper} {W:World} {x y:Operand} {v:Value} {l:List H3} (h:HrV W v l) (ho:o.op = .indexAddr 25 x y) (hx : ρ x=v) (k:Nat) (z:Int) (hz:z=k) (hk:k<l.length) (hy : ρ y = .int .i64 z) :
 ∃ u,(execOp ρ o).run Tryz.prog W = .ok (.value u) W/\HaV W u (hg l k) /\ ∀ q,fpP u q->fpS v q:=by
 rw [<- hg_at hk];subst hz;exact hr_at h ho hx k hk hy
theorem hr_lt {ρ : Operand->Value} {o:Oper} {t t':TypeId} {x y:Operand} {a b:Int} {n m:Nat} {W:World} (ho:o.op = .binOp .lss t x y t') (hx : ρ x = .int .i64 a) (hy : ρ y = .int .i64 b) (ha:a=n) (hb:b=m) :
 (execOp ρ o).run Tryz.prog W = .ok (.value (.bool (decide (n<m)))) W:=by
 have h:binOp .lss t (.int .i64 a) (.int .i64 b) = .pure (.bool (decide (a<b))):=rfl
 rw [C5 ho hx hy h,show decide (a<b)=decide (n<m) by subst ha hb;exact decide_eq_decide.2 (by omega)]
theorem E1 {v:Value} {n m:Nat} {b:Bool} (h:v = .bool (decide (n<m))) (h2:v = .bool b):decide (n<m)=b:=by rw [h] at h2;exact Value.bool.inj h2
def clr (l:List Pq) (p:Pq) (k:Nat):Prop:=∀ i,i<k -> ¬ InS (pt0 l i) (nxt l i) p
theorem qst_b (p a b:Pq) : -2<=qst p a b/\qst p a b<=2:=by
 have:=F4 (A4 a b p)
 unfold qst
 split
 · omega
 · split<;>omega
theorem upS_b (p:Pq) (l:List Pq):∀ k:Nat, -(2*(k:Int))<=upS (qst p) l k/\upS (qst p) l k<=2*k
 | 0=>by show -(2*((0:Nat):Int))<=0/\(0:Int)<=2*((0:Nat):Int);omega
 | k+1=>by
   have h1:=upS_b p l k
   have h2:=qst_b p (pt0 l k) (nxt l k)
   show -(2*((k+1:Nat):Int))<=upS (qst p) l k+qst p (pt0 l k) (nxt l k)/\upS (qst p) l k+qst p (pt0 l k) (nxt l k)<=2*((k+1:Nat):Int)
   omega
theorem pI (p q:Pq) : 0<=qtr p q/\qtr p q<=3:=by unfold qtr;split<;>(try split)<;>(try split)<;>omega
theorem aP (l:List H3) (k:Nat) (h:k<l.length):rp (hg l k)=pt0 (l.map rp) k:=by simp [hg,pt0,h]
theorem bL (l:List H3) (k:Nat) (h:k<l.length):rp (hg l ((k+1)%l.length))=nxt (l.map rp) k:=by
 have:=Nat.mod_lt (k+1) (show 0<l.length by omega)
 unfold nxt
 rw [aP l _ this,List.length_map]
theorem vBx {v:Value} {a b:Bool} (h:v = .bool a) (h2:v = .bool b):a=b:=by rw [h] at h2;exact Value.bool.inj h2
theorem dstepQ (p a b:Pq):(if (if (qtr p b-qtr p a+4)%4=3 then -1 else (qtr p b-qtr p a+4)%4)=2 then 2*rsg (A4 a b p) else (if (qtr p b-qtr p a+4)%4=3 then -1 else (qtr p b-qtr p a+4)%4))=qst p a b:=by
 unfold qst
 by_cases h1:(qtr p b-qtr p a+4)%4=3
 · rw [if_pos h1,if_pos h1,if_neg (by omega)]
 · rw [if_neg h1,if_neg h1]
theorem rI (w:World) (va vb:Value) (l:List H3) (c:H3) (E:Nat) (Ha:HrV w va l) (Hb:HV w vb c) (hE : 1<=E/\E<=10000) (hn:l.length<=40) (hl:∀ p ∈ l,HB E p/\0<p.z) (bc:HB E c) (zc : 0<c.z) :
 Calls Tryz.prog 95 #[va,vb] w (fun e w'=>e = .returned (.tuple #[.int .i64 (arN (l.map rp) (rp c)),.bool (dec (OnR (l.map rp) (rp c)))])/\w.grownBy w' none):=by
 refine P1 B6 Tryz.func95 [sHr 0 l,sH c] (fun k:Nat=>[sZc (k<=l.length/\clr (l.map rp) (rp c) k) (k:Int),sZ (upS (qst (rp c)) (l.map rp) k),sZ l.length,sC (.bool (decide (k<l.length))) rfl,sHa (hg l (k)),sH (hg l (k)),sZ ((k:Int)+1),sZ l.length,sZ (((k+1)%l.length:Nat):Int),sHa (hg l (((k+1)%l.length))),sH (hg l (((k+1)%l.length))),sC (.bool (dec (InS (rp (hg l k)) (rp (hg l ((k+1)%l.length))) (rp c)))) rfl,sZ (qtr (rp c) (rp (hg l ((k+1)%l.length)))),sZ (qtr (rp c) (rp (hg l k))),sZ (qtr (rp c) (rp (hg l ((k+1)%l.length)))-qtr (rp c) (rp (hg l k))),sZ (qtr (rp c) (rp (hg l ((k+1)%l.length)))-qtr (rp c) (rp (hg l k))+4),sZ ((qtr (rp c) (rp (hg l ((k+1)%l.length)))-qtr (rp c) (rp (hg l k))+4)%4),sC (.bool (decide (((qtr (rp c) (rp (hg l ((k+1)%l.length)))-qtr (rp c) (rp (hg l k))+4)%4)=3))) rfl,sZ (if ((qtr (rp c) (rp (hg l ((k+1)%l.length)))-qtr (rp c) (rp (hg l k))+4)%4)=3 then -1 else ((qtr (rp c) (rp (hg l ((k+1)%l.length)))-qtr (rp c) (rp (hg l k))+4)%4)),sC (.bool (decide ((if ((qtr (rp c) (rp (hg l ((k+1)%l.length)))-qtr (rp c) (rp (hg l k))+4)%4)=3 then -1 else ((qtr (rp c) (rp (hg l ((k+1)%l.length)))-qtr (rp c) (rp (hg l k))+4)%4))=2))) rfl,sZ (rsg (A4 (rp (hg l k)) (rp (hg l ((k+1)%l.length))) (rp c))),sZ (2*rsg (A4 (rp (hg l k)) (rp (hg l ((k+1)%l.length))) (rp c))),sZ (if (if ((qtr (rp c) (rp (hg l ((k+1)%l.length)))-qtr (rp c) (rp (hg l k))+4)%4)=3 then -1 else ((qtr (rp c) (rp (hg l ((k+1)%l.length)))-qtr (rp c) (rp (hg l k))+4)%4))=2 then 2*rsg (A4 (rp (hg l k)) (rp (hg l ((k+1)%l.length))) (rp c)) else (if ((qtr (rp c) (rp (hg l ((k+1)%l.length)))-qtr (rp c) (rp (hg l k))+4)%4)=3 then -1 else ((qtr (rp c) (rp (hg l ((k+1)%l.length)))-qtr (rp c) (rp (hg l k))+4)%4))),sZ (upS (qst (rp c)) (l.map rp) (k+1)),sZ ((k:Int)+1),sZ (oY (l.map rp) (rp c))]) (fun m k=>if m=2 then l.length-k else 0) (0) (fun _=>rfl) [1000000] [some [[.t 8,.t 9,.t 10,.t 11,.t 12,.t 13,.t 14,.t 15,.t 16,.t 17,.t 18,.t 19,.t 20,.t 21,.t 22,.t 23,.t 24,.t 25,.t 26,.t 27,.t 28,.t 29,.t 30,.t 31,.t 32,.t 33,.t 34,.t 35,.t 36,.t 37,.t 38,.t 39,.t 40,.t 41,.t 42,.t 43,.t 44,.t 45,.t 46,.t 47,.t 48,.t 49,.t 50,.t 51,.t 52,.t 53,.t 54],[.t 7],[.t 6]],some [[.t 10]],some [[.t 10]]] (.cons ⟨Ha,fun _ _=>Nat.zero_le _⟩ (.cons Hb .nil)) (rs:=[(co 4 (.call ⟨.builtin .len, #[(.tmp 12)], #[25]⟩) 3 [on 0] [0,1,2,3] [],[]),(co 5 (.binOp .lss 3 (.tmp 11) (.tmp 13) 3) 4 [on 2,on 4] [0,1,2,3,4] [],[]),(co 6 (.indexAddr 25 (.tmp 17) (.tmp 18)) 0 [on 0,on 2] [0,1,2,3,4,5] [],[(5,0,true)]),(co 7 (.load 34 (.tmp 19)) 34 [on 6] [0,1,2,3,4,5,6] [],[(5,0,true)]),(co 8 (.binOp .add 3 (.tmp 22) (.const (.int .i64 1)) 3) 3 [on 2,.v false [.lit (.int .i64 1)]] [0,1,2,3,4,5] [],[(5,0,true)]),(co 9 (.call ⟨.builtin .len, #[(.tmp 24)], #[25]⟩) 3 [on 0] [0,1,2,3,4,5] [],[(5,0,true)]),(co 10 (.binOp .rem 3 (.tmp 23) (.tmp 25) 3) 3 [on 8,on 9] [0,1,2,3,4,5,8,9] [],[(5,0,true)]),(co 11 (.indexAddr 25 (.tmp 21) (.tmp 26)) 0 [on 0,on 10] [0,1,2,3,4,5,8,9,10] [],[(5,0,true)]),(co 12 (.load 34 (.tmp 27)) 34 [on 11] [0,1,2,3,4,5,8,9,10,11] [],[(5,0,true)]),(cl 13 46 [.v true [.an 7 0,.an 7 1,.an 7 2,.an 7 3,.an 7 4,.an 7 5,.an 12 0,.an 12 1,.an 12 2,.an 12 3,.an 12 4,.an 12 5],ag 6 1],[(5,0,true)]),(cl 14 143 [ag 6 1,ag 6 12],[(13,0,false),(5,0,true)]),(cl 15 143 [ag 6 1,ag 6 7],[(13,0,false),(5,0,true)]),(co 16 (.binOp .sub 3 (.tmp 36) (.tmp 39) 3) 3 [on 14,on 15] [0,1,2,3,4,5,6,7,8,9,10,11,12,13,14,15] [],[(13,0,false),(5,0,true)]),(co 17 (.binOp .add 3 (.tmp 40) (.const (.int .i64 4)) 3) 3 [on 16,.v false [.lit (.int .i64 4)]] [0,1,2,3,4,5,6,7,8,9,10,11,12,13,14,15,16] [],[(13,0,false),(5,0,true)]),(co 18 (.binOp .rem 3 (.tmp 41) (.const (.int .i64 4)) 3) 3 [on 17,.v false [.lit (.int .i64 4)]] [0,1,2,3,4,5,6,7,8,9,10,11,12,13,14,15,16,17] [],[(13,0,false),(5,0,true)]),(co 19 (.binOp .eql 3 (.tmp 43) (.const (.int .i64 3)) 3) 4 [on 18,.v false [.lit (.int .i64 3)]] [0,1,2,3,4,5,6,7,8,9,10,11,12,13,14,15,16,17,18] [],[(13,0,false),(5,0,true)]),(co 21 (.binOp .eql 3 (.tmp 45) (.const (.int .i64 2)) 3) 4 [on 20,.v false [.lit (.int .i64 2)]] [0,1,2,3,4,5,6,7,8,9,10,11,12,13,14,15,16,17,18,19,20] [],[(13,0,false),(5,0,true)]),(cl 22 47 [ag 6 7,ag 6 12,ag 6 1],[(21,0,true),(13,0,false),(5,0,true)]),(co 23 (.binOp .mul 3 (.const (.int .i64 2)) (.tmp 50) 3) 3 [.v false [.lit (.int .i64 2)],on 22] [0,1,2,3,4,5,6,7,8,9,10,11,12,13,14,15,16,17,18,19,20,21,22] [],[(21,0,true),(13,0,false),(5,0,true)]),(co 25 (.binOp .add 3 (.tmp 52) (.tmp 53) 3) 3 [on 3,on 24] [0,1,2,3,4,5,6,7,8,9,10,11,12,13,14,15,16,17,18,19,20,21,24] [],[(13,0,false),(5,0,true)]),(co 26 (.binOp .add 3 (.tmp 15) (.const (.int .i64 1)) 3) 3 [on 2,.v false [.lit (.int .i64 1)]] [0,1,2,3,4,5,6,7,8,9,10,11,12,13,14,15,16,17,18,19,20,21,24,25] [],[(13,0,false),(5,0,true)]),(co 27 (.binOp .quo 3 (.tmp 55) (.const (.int .i64 4)) 3) 3 [on 3,.v false [.lit (.int .i64 4)]] [0,1,2,3,4,5] [],[(5,0,false)])]) (js:=[.loop false 2 [(2,.v false [.lit (.int .i64 0)]),(3,.v false [.lit (.int .i64 0)])] (List.range 2) [],.test 5 0 (List.range 6) [],.test 13 0 (List.range 14) [(5,0,true)],.test 19 0 (List.range 20) [(13,0,false),(5,0,true)],.meet [(20,.v false [.lit (.int .i64 (-1))])] (List.range 20) [(19,0,true),(13,0,false),(5,0,true)],.meet [(20,on 18)] (List.range 20) [(19,0,false),(13,0,false),(5,0,true)],.test 21 0 (List.range 22) [(13,0,false),(5,0,true)],.meet [(24,on 23)] (List.range 24) [(21,0,true),(13,0,false),(5,0,true)],.meet [(24,on 20)] (List.range 22) [(21,0,false),(13,0,false),(5,0,true)],.loop true 2 [(2,on 26),(3,on 25)] [0,1,2,3,4,5,6,7,8,9,10,11,12,13,14,15,16,17,18,19,20,21,24,25,26] [(13,0,false),(5,0,true)]]) (outs:=[⟨.tup [(false,[.lit (.int .i64 0)]),(false,[.lit (.bool true)])],(List.range 14),[(13,0,true),(5,0,true)],[],[]⟩,⟨.tup [(false,[.an 27 0]),(false,[.lit (.bool false)])],[0,1,2,3,4,5,27],[(5,0,false)],[],[]⟩]) (nc:=28) (by kernel_rfl)
  (fun k=>⟨fun σ W g h hp hb=>fun ρ o ho _ hv=>⟨_,bK (h 0 rfl).1 ho (D3 hv) ⟨34,by kernel_rfl⟩,rfl⟩,
  fun σ W g h hp hb=>fun ρ o ho _ hv=>⟨_,hr_lt ho ((A0 hv).1.trans (h 2 rfl).1) ((A0 hv).2.trans (h 4 rfl)) rfl rfl,rfl⟩,
  fun σ W g h hp hb=>fun ρ o ho _ hv=>by
   have q:=of_decide_eq_true (E1 (h 5 rfl) (hp 5 0 true rfl))
   obtain ⟨u,h1,h2,h3⟩:=gS (P:=Tryz.prog) (h 0 rfl).1 ho (A0 hv).1 (k) _ rfl (by omega) ((A0 hv).2.trans (h 2 rfl).1)
   exact ⟨u,h1,h2,fun q hq=>⟨0,rfl,h3 q hq⟩⟩,
  fun σ W g h hp hb=>fun ρ o ho _ hv=>cP (h 6 rfl) ho (D3 hv),
  fun σ W g h hp hb=>fun ρ o ho _ hv=>by
   have q:=of_decide_eq_true (E1 (h 5 rfl) (hp 5 0 true rfl))
   exact ⟨_,C5 ho ((A0 hv).1.trans (h 2 rfl).1) (A0 hv).2 (K9 (by omega) (by omega)),rfl⟩,
  fun σ W g h hp hb=>fun ρ o ho _ hv=>⟨_,bK (h 0 rfl).1 ho (D3 hv) ⟨34,by kernel_rfl⟩,rfl⟩,
  fun σ W g h hp hb=>fun ρ o ho _ hv=>by
   have q:=of_decide_eq_true (E1 (h 5 rfl) (hp 5 0 true rfl))
   exact ⟨_,rE ho ((A0 hv).1.trans (h 8 rfl)) ((A0 hv).2.trans (h 9 rfl)) (by omega) (by omega) (by omega),congrArg (Value.int .i64) (by push_cast;rfl)⟩,
  fun σ W g h hp hb=>fun ρ o ho _ hv=>by
   have q:=of_decide_eq_true (E1 (h 5 rfl) (hp 5 0 true rfl))
   obtain ⟨u,h1,h2,h3⟩:=gS (P:=Tryz.prog) (h 0 rfl).1 ho (A0 hv).1 (((k+1)%l.length)) _ rfl (Nat.mod_lt _ (by omega)) ((A0 hv).2.trans (h 10 rfl))
   exact ⟨u,h1,h2,fun q hq=>⟨0,rfl,h3 q hq⟩⟩,
  fun σ W g h hp hb=>fun ρ o ho _ hv=>cP (h 11 rfl) ho (D3 hv),
  fun σ W g h hp hb=>by
   have q:=of_decide_eq_true (E1 (h 5 rfl) (hp 5 0 true rfl))
   have a0:=hl _ (F6 (l:=l) (k:=k) (by omega))
   have a1:=hl _ (F6 (l:=l) (k:=(k+1)%l.length) (Nat.mod_lt _ (by omega)))
   exact (C7 W _ _ _ _ c E (gJ (h 7 rfl) (h 12 rfl)) (h 1 rfl) hE.2 a0.1 a1.1 bc a0.2 a1.2 zc).mono fun _ _ ⟨a,g⟩=>⟨_,a,rfl,g⟩,
  fun σ W g h hp hb=>by
   have q:=of_decide_eq_true (E1 (h 5 rfl) (hp 5 0 true rfl))
   have a1:=hl _ (F6 (l:=l) (k:=(k+1)%l.length) (Nat.mod_lt _ (by omega)))
   exact (rQtr_any W _ _ c _ E (h 1 rfl) (h 12 rfl) hE.2 bc a1.1 zc a1.2).mono fun _ _ ⟨a,g⟩=>⟨_,a,rfl,g⟩,
  fun σ W g h hp hb=>by
   have q:=of_decide_eq_true (E1 (h 5 rfl) (hp 5 0 true rfl))
   have a0:=hl _ (F6 (l:=l) (k:=k) (by omega))
   exact (rQtr_any W _ _ c _ E (h 1 rfl) (h 7 rfl) hE.2 bc a0.1 zc a0.2).mono fun _ _ ⟨a,g⟩=>⟨_,a,rfl,g⟩,
  fun σ W g h hp hb=>fun ρ o ho _ hv=>by
   have q:=of_decide_eq_true (E1 (h 5 rfl) (hp 5 0 true rfl))
   have qb:=pI (rp c) (rp (hg l ((k+1)%l.length)))
   have qa:=pI (rp c) (rp (hg l k))
   exact ⟨_,C5 ho ((A0 hv).1.trans (h 14 rfl)) ((A0 hv).2.trans (h 15 rfl)) (sub_sm (by omega) (by omega)),rfl⟩,
  fun σ W g h hp hb=>fun ρ o ho _ hv=>by
   have q:=of_decide_eq_true (E1 (h 5 rfl) (hp 5 0 true rfl))
   have qb:=pI (rp c) (rp (hg l ((k+1)%l.length)))
   have qa:=pI (rp c) (rp (hg l k))
   exact ⟨_,C5 ho ((A0 hv).1.trans (h 16 rfl)) (A0 hv).2 (K9 (by omega) (by omega)),rfl⟩,
  fun σ W g h hp hb=>fun ρ o ho _ hv=>by
   have q:=of_decide_eq_true (E1 (h 5 rfl) (hp 5 0 true rfl))
   have qb:=pI (rp c) (rp (hg l ((k+1)%l.length)))
   have qa:=pI (rp c) (rp (hg l k))
   exact ⟨_,rE ho ((A0 hv).1.trans (h 17 rfl)) (A0 hv).2 (by omega) (by omega) (by omega),rfl⟩,
  fun σ W g h hp hb=>fun ρ o ho _ hv=>⟨_,D7 _ ho ((A0 hv).1.trans (h 18 rfl)) (A0 hv).2 rfl,rfl⟩,
  fun σ W g h hp hb=>fun ρ o ho _ hv=>⟨_,D7 _ ho ((A0 hv).1.trans (h 20 rfl)) (A0 hv).2 rfl,rfl⟩,
  fun σ W g h hp hb=>by
   have q:=of_decide_eq_true (E1 (h 5 rfl) (hp 5 0 true rfl))
   have a0:=hl _ (F6 (l:=l) (k:=k) (by omega))
   have a1:=hl _ (F6 (l:=l) (k:=(k+1)%l.length) (Nat.mod_lt _ (by omega)))
   exact (H7 W _ _ _ _ _ c E (h 7 rfl) (h 12 rfl) (h 1 rfl) hE.2 a0.1 a1.1 bc a0.2 a1.2 zc).mono fun _ _ ⟨a,g⟩=>⟨_,a,rfl,g⟩,
  fun σ W g h hp hb=>fun ρ o ho _ hv=>by
   have q:=of_decide_eq_true (E1 (h 5 rfl) (hp 5 0 true rfl))
   have hs:=F4 (A4 (rp (hg l k)) (rp (hg l ((k+1)%l.length))) (rp c))
   exact ⟨_,C5 ho (A0 hv).1 ((A0 hv).2.trans (h 22 rfl)) (mul_sm (by omega) (by omega)),rfl⟩,
  fun σ W g h hp hb=>fun ρ o ho _ hv=>by
   have q:=of_decide_eq_true (E1 (h 5 rfl) (hp 5 0 true rfl))
   have e:(if (if ((qtr (rp c) (rp (hg l ((k+1)%l.length)))-qtr (rp c) (rp (hg l k))+4)%4)=3 then -1 else ((qtr (rp c) (rp (hg l ((k+1)%l.length)))-qtr (rp c) (rp (hg l k))+4)%4))=2 then 2*rsg (A4 (rp (hg l k)) (rp (hg l ((k+1)%l.length))) (rp c)) else (if ((qtr (rp c) (rp (hg l ((k+1)%l.length)))-qtr (rp c) (rp (hg l k))+4)%4)=3 then -1 else ((qtr (rp c) (rp (hg l ((k+1)%l.length)))-qtr (rp c) (rp (hg l k))+4)%4)))=qst (rp c) (pt0 (l.map rp) k) (nxt (l.map rp) k):=by rw [aP l k (by omega),bL l k (by omega)];exact dstepQ _ _ _
   have b1:=upS_b (rp c) (l.map rp) k
   have b2:=qst_b (rp c) (pt0 (l.map rp) k) (nxt (l.map rp) k)
   exact ⟨_,C5 ho ((A0 hv).1.trans (h 3 rfl)) ((A0 hv).2.trans ((h 24 rfl).trans (congrArg (Value.int .i64) e))) (K9 (by omega) (by omega)),rfl⟩,
  fun σ W g h hp hb=>fun ρ o ho _ hv=>by
   have q:=of_decide_eq_true (E1 (h 5 rfl) (hp 5 0 true rfl))
   exact ⟨_,C5 ho ((A0 hv).1.trans (h 2 rfl).1) (A0 hv).2 (K9 (by omega) (by omega)),rfl⟩,
  fun σ W g h hp hb=>fun ρ o ho _ hv=>by
   have q:=of_decide_eq_false (E1 (h 5 rfl) (hp 5 0 false rfl))
   have hc:=(h 2 rfl).2
   have hk2:k=l.length:=by have:=hc.1;omega
   have hno:¬ OnR (l.map rp) (rp c):=by rintro ⟨i,hi,hin⟩;rw [List.length_map] at hi;exact hc.2 i (by omega) hin
   have e:upS (qst (rp c)) (l.map rp) k=4*oY (l.map rp) (rp c):=by rw [hk2,show l.length=(l.map rp).length by simp,upS_cy];exact kD hno
   have b1:=upS_b (rp c) (l.map rp) k
   exact ⟨_,quo_sm ho ((A0 hv).1.trans ((h 3 rfl).trans (congrArg (Value.int .i64) e))) (A0 hv).2 (by omega) (by omega),rfl⟩,
  trivial⟩)
  (fun k=>⟨fun σ W g h hp=>⟨0,(fun e=>nomatch e),⟨rfl,fun m hm=>(if_neg (by omega)).trans (if_neg (by omega)).symm⟩,⟨rfl,Nat.zero_le _,fun i hi=>absurd hi (Nat.not_lt_zero i)⟩,rfl,trivial⟩,
  fun σ W g h hp=>⟨_,h 5 rfl⟩,
  fun σ W g h hp=>⟨_,h 13 rfl⟩,
  fun σ W g h hp=>⟨_,h 19 rfl⟩,
  fun σ W g h hp=>⟨congrArg (Value.int .i64) (by rw [if_pos (of_decide_eq_true (vBx (h 19 rfl) (hp 19 0 true rfl)))]),trivial⟩,
  fun σ W g h hp=>⟨(h 18 rfl).trans (congrArg (Value.int .i64) (by rw [if_neg (of_decide_eq_false (vBx (h 19 rfl) (hp 19 0 false rfl)))])),trivial⟩,
  fun σ W g h hp=>⟨_,h 21 rfl⟩,
  fun σ W g h hp=>⟨(h 23 rfl).trans (congrArg (Value.int .i64) (by rw [if_pos (of_decide_eq_true (vBx (h 21 rfl) (hp 21 0 true rfl)))])),trivial⟩,
  fun σ W g h hp=>⟨(h 20 rfl).trans (congrArg (Value.int .i64) (by rw [if_neg (of_decide_eq_false (vBx (h 21 rfl) (hp 21 0 false rfl)))])),trivial⟩,
  fun σ W g h hp=>by
   have q:=of_decide_eq_true (E1 (h 5 rfl) (hp 5 0 true rfl))
   have hc:=(h 2 rfl).2
   have hno:=decNo (vBx (h 13 rfl) (hp 13 0 false rfl))
   refine ⟨k+1,fun _=>by show (if 2=2 then l.length-(k+1) else 0)<(if 2=2 then l.length-k else 0);rw [if_pos rfl,if_pos rfl];omega,⟨rfl,fun m hm=>(if_neg (by omega)).trans (if_neg (by omega)).symm⟩,⟨(h 26 rfl).trans (by push_cast;rfl),by omega, ?_⟩,h 25 rfl,trivial⟩
   intro i hi
   by_cases e:i=k
   · rw [e, <- aP l k (by omega), <- bL l k (by omega)];exact hno
   · exact hc.2 i (by omega),
  trivial⟩)
  (fun k hk=>⟨fun τ W g h hp hb=>by
   have q:=of_decide_eq_true (E1 (h 5 rfl) (hp 5 0 true rfl))
   have hin:=jI (vBx (h 13 rfl) (hp 13 0 true rfl))
   have hon:OnR (l.map rp) (rp c):=⟨k,by rw [List.length_map];exact q,by rw [<- aP l k q, <- bL l k q];exact hin⟩
   exact ⟨by unfold arN;rw [O0 hon];rfl,g⟩,
  fun τ W g h hp hb=>by
   have q:=of_decide_eq_false (E1 (h 5 rfl) (hp 5 0 false rfl))
   have hc:=(h 2 rfl).2
   have hno:¬ OnR (l.map rp) (rp c):=by rintro ⟨i,hi,hin⟩;rw [List.length_map] at hi;exact hc.2 i (by omega) hin
   refine ⟨?_,g⟩
   unfold arN
   rw [I1 hno,if_neg (by decide)]
   exact congrArg (fun v=>Ending.returned (Value.tuple #[v,.bool false])) (h 27 rfl),
  trivial⟩)
end Go.Proofs.YtamdnbbgpacfkaaGreatDoor
namespace Go.Proofs.YtamdnbbgpacfkaaGreatDoor.PM
def dcr (e m x:Pq):Rat:=e.1*(x.2-m.2)-e.2*(x.1-m.1)
def ld (e m x:Pq):Int:=rsg (dcr e m x)
theorem mD (m:Pq):lvl m=ld (1,0) m:=funext fun x=>by unfold lvl ld dcr;rw [I0];congr 1;grind
theorem qU (m:Pq):upr m=ld (0,1) m:=funext fun x=>by unfold upr ld dcr;rw [I0];congr 1;grind
def B2 (a b:Pq):Pq:=((a.1+b.1)*(1 / 2),(a.2+b.2)*(1 / 2))
def nrm (a b:Pq):Pq:=(a.2-b.2,b.1-a.1)
def pos (i:Int):Int:=if 0<i then 1 else 0
theorem pass_pos (i k:Int):pass i k=pos k-pos i:=by unfold pass pos;split<;>split<;>(try split)<;>omega
theorem X5 {x d t:Rat} (hd : 0<d) (h:t*d=x) (h0 : 0<=x) (h1:x<=d) : 0<=t/\t<=1:=by
 constructor
 · rcases (show t<0\/0<=t by grind) with h2 | h2
   · have:=Rat.mul_pos (show 0 < -t by grind) hd;grind
   · exact h2
 · rcases (show 1<t\/t<=1 by grind) with h2 | h2
   · have:=Rat.mul_pos (show 0<t-1 by grind) hd;grind
   · exact h2
theorem bI {e m a b:Pq} (h:pass (ld e m a) (ld e m b)≠0) (hc:A4 a b m=0):InS a b m:=by
 have hd:dcr e m a≠dcr e m b:=fun h1=>h (by unfold ld;rw [h1];unfold pass;split<;>(try split)<;>omega)
 have h1:(dcr e m a<=0/\0<dcr e m b)\/(0<dcr e m a/\dcr e m b<=0):=by
  unfold pass ld at h
  rcases F4 (dcr e m a) with k1 | k1 | k1<;>rcases F4 (dcr e m b) with k2 | k2 | k2<;>simp [k1,k2] at h
  · exact .inl ⟨Rat.le_of_lt (rsg_nz.1 k1),rsg_pos.1 k2⟩
  · exact .inl ⟨by have:=rsg_zero.1 k1;grind,rsg_pos.1 k2⟩
  · exact .inr ⟨rsg_pos.1 k1,Rat.le_of_lt (rsg_nz.1 k2)⟩
  · exact .inr ⟨rsg_pos.1 k1,by have:=rsg_zero.1 k2;grind⟩
 have hs : 0<=dcr e m a / (dcr e m a-dcr e m b)/\dcr e m a / (dcr e m a-dcr e m b)<=1:=by
  have hq:dcr e m a / (dcr e m a-dcr e m b)*(dcr e m a-dcr e m b)=dcr e m a:=by grind
  rcases h1 with ⟨h1,h2⟩ | ⟨h1,h2⟩
  · exact X5 (d:=dcr e m b-dcr e m a) (x := - dcr e m a) (by grind) (by grind) (by grind) (by grind)
  · exact X5 (d:=dcr e m a-dcr e m b) (x:=dcr e m a) (by grind) hq (by grind) (by grind)
 refine ⟨_,hs.1,hs.2, ?_⟩
 have hq:dcr e m a / (dcr e m a-dcr e m b)*(dcr e m a-dcr e m b)=dcr e m a:=by grind
 generalize dcr e m a / (dcr e m a-dcr e m b)=t at *
 obtain ⟨a1,a2⟩:=a;obtain ⟨b1,b2⟩:=b;obtain ⟨m1,m2⟩:=m;obtain ⟨e1,e2⟩:=e
 simp only [A4,dcr,pat] at *
 have hz:(e1*(b2-a2)-e2*(b1-a1))≠0:=by grind
 have k1:(e1*(b2-a2)-e2*(b1-a1))*(m1-(a1+(b1-a1)*t))=0:=by grind
 have k2:(e1*(b2-a2)-e2*(b1-a1))*(m2-(a2+(b2-a2)*t))=0:=by grind
 have k3:m1-(a1+(b1-a1)*t)=0:=by rcases Rat.mul_eq_zero.1 k1 with h | h;exact absurd h hz;exact h
 have k4:m2-(a2+(b2-a2)*t)=0:=by rcases Rat.mul_eq_zero.1 k2 with h | h;exact absurd h hz;exact h
 exact Prod.ext (by dsimp only;grind) (by dsimp only;grind)
theorem thr_off {e m a b:Pq} (h:¬ InS a b m):thr (ld e m) m a b=0:=by
 unfold thr
 split
 · rename_i hc
   exact Classical.byContradiction fun h1=>h (bI h1 (rsg_zero.1 hc))
 · rfl
theorem fM {a b t:Pq} (h:a≠b) (hc:A4 a b t=0):∃ k,t=pat (B2 a b) b k:=by
 obtain ⟨k,rfl⟩:=aL h hc
 refine ⟨2*k-1, ?_⟩
 unfold pat B2;exact Prod.ext (by dsimp only;grind) (by dsimp only;grind)
theorem Y7 (e a b:Pq) (k:Rat):dcr e (B2 a b) (pat (B2 a b) b k)=k*dcr e (B2 a b) b:=by
 unfold dcr pat B2;dsimp only;grind
theorem rsg_half (x:Rat):rsg (x*(1 / 2))=rsg x:=by rw [I3,show rsg (1 / 2:Rat)=1 from rsg_pos.2 (by grind)];omega
def ahI (i k c:Int):Int:=if c=pass i k then pass i k else 0
def gI (s v u:Int):Int:=if s<0 then (if v<=0/\0<u then -1 else 0) else (if 0<v/\u<=0 then 1 else 0)
def okR (s v u v' u' c:Int):Bool:=
 (decide (0<=v*u'/\v'*u<=0 /\ ¬ (v*u'=0/\v'*u=0)) && !decide (s*c=1)) || (decide (v*u'<=0/\0<=v'*u /\ ¬ (v*u'=0/\v'*u=0)) && !decide (s*c = -1)) ||
 (decide (v*u'=0/\v'*u=0) && !decide (s*c=0)) || (decide (c=0) && decide (v*v'<=0/\u*u'<=0)) ||
 decide (ahI v v' c=ahI u u' c+gI s v' u'-gI s v u)
theorem all_okR:([-1,1].all fun s=>three.all fun a=>three.all fun b=>three.all fun c=>three.all fun d=>three.all fun e=>okR s a b c d e)=true:=by decide
theorem okR_at {s a b c d e:Int} (hs:s = -1\/s=1) (ha:a = -1\/a=0\/a=1) (hb:b = -1\/b=0\/b=1) (hc:c = -1\/c=0\/c=1) (hd:d = -1\/d=0\/d=1) (he:e = -1\/e=0\/e=1):okR s a b c d e=true:=
 List.all_eq_true.1 (List.all_eq_true.1 (List.all_eq_true.1 (List.all_eq_true.1 (List.all_eq_true.1 (List.all_eq_true.1 all_okR s (by rcases hs with h | h<;>simp [h])) a (H4 ha)) b (H4 hb)) c (H4 hc)) d (H4 hd)) e (H4 he)
def gO (v u:Int):Int:=if v<0\/v=0/\0<u then -1 else 0
def okO (v u v' u' c:Int):Bool:=
 (decide (0<=v*u'/\v'*u<=0 /\ ¬ (v*u'=0/\v'*u=0)) && !decide (-1*c=1)) || (decide (v*u'<=0/\0<=v'*u /\ ¬ (v*u'=0/\v'*u=0)) && !decide (-1*c = -1)) ||
 (decide (v*u'=0/\v'*u=0) && !decide (-1*c=0)) || (decide (c=0) && decide (v*v'<=0/\u*u'<=0)) ||
 decide (ahI v v' c=ahI (-v) (-v') c+gO v' u'-gO v u)
theorem all_okO:(three.all fun a=>three.all fun b=>three.all fun c=>three.all fun d=>three.all fun e=>okO a b c d e)=true:=by decide
theorem okO_at {a b c d e:Int} (ha:a = -1\/a=0\/a=1) (hb:b = -1\/b=0\/b=1) (hc:c = -1\/c=0\/c=1) (hd:d = -1\/d=0\/d=1) (he:e = -1\/e=0\/e=1):okO a b c d e=true:=
 List.all_eq_true.1 (List.all_eq_true.1 (List.all_eq_true.1 (List.all_eq_true.1 (List.all_eq_true.1 all_okO a (H4 ha)) b (H4 hb)) c (H4 hc)) d (H4 hd)) e (H4 he)
def crs (n e:Pq):Rat:=n.1*e.2-n.2*e.1
theorem crs_id (n e m x y:Pq):crs n e*A4 x y m=dcr n m x*dcr e m y-dcr n m y*dcr e m x:=by
 obtain ⟨n1,n2⟩:=n;obtain ⟨e1,e2⟩:=e;obtain ⟨m1,m2⟩:=m;obtain ⟨x1,x2⟩:=x;obtain ⟨y1,y2⟩:=y
 simp only [crs,A4,dcr];grind
theorem dcr_zero {n e m x:Pq} (hk:crs n e≠0) (h:dcr n m x=0) (h':dcr e m x=0):x=m:=by
 obtain ⟨n1,n2⟩:=n;obtain ⟨e1,e2⟩:=e;obtain ⟨m1,m2⟩:=m;obtain ⟨x1,x2⟩:=x
 simp only [crs,dcr] at *
 have k1:(n1*e2-n2*e1)*(x1-m1)=0:=by grind
 have k2:(n1*e2-n2*e1)*(x2-m2)=0:=by grind
 have k3:x1-m1=0:=by rcases Rat.mul_eq_zero.1 k1 with h | h;exact absurd h hk;exact h
 have k4:x2-m2=0:=by rcases Rat.mul_eq_zero.1 k2 with h | h;exact absurd h hk;exact h
 exact Prod.ext (by dsimp only;grind) (by dsimp only;grind)
theorem ins_two {n e m x y:Pq} (hk:crs n e≠0) (hc:A4 x y m=0) (h1:ld n m x*ld n m y<=0) (h2:ld e m x*ld e m y<=0):InS x y m:=by
 by_cases p1:pass (ld n m x) (ld n m y)=0
 · by_cases p2:pass (ld e m x) (ld e m y)=0
   · have hid:=crs_id n e m x y
     rw [hc,Rat.mul_zero] at hid
     have z:∀ d:Pq,ld d m x*ld d m y<=0->pass (ld d m x) (ld d m y)=0->dcr d m x=0\/dcr d m y=0:=fun d g1 g2=>by
      unfold ld at g1 g2
      rcases F4 (dcr d m x) with k1 | k1 | k1
      · rcases F4 (dcr d m y) with k2 | k2 | k2
        · simp [k1,k2] at g1
        · exact .inr (rsg_zero.1 k2)
        · simp [k1,k2,pass] at g2
      · exact .inl (rsg_zero.1 k1)
      · rcases F4 (dcr d m y) with k2 | k2 | k2
        · simp [k1,k2,pass] at g2
        · exact .inr (rsg_zero.1 k2)
        · simp [k1,k2] at g1
     have hx:dcr n m x=0->dcr e m x=0->InS x y m:=fun a b=>by have:=dcr_zero hk a b;rw [<- this];exact bJ _ _
     have hy:dcr n m y=0->dcr e m y=0->InS x y m:=fun a b=>by have:=dcr_zero hk a b;rw [<- this];exact cN _ _
     rcases z n h1 p1 with z1 | z1<;>rcases z e h2 p2 with z2 | z2
     · exact hx z1 z2
     · rw [z1,z2] at hid
       have:dcr n m y*dcr e m x=0:=by grind
       rcases Rat.mul_eq_zero.1 this with h | h
       · exact hy h z2
       · exact hx z1 h
     · rw [z1,z2] at hid
       have:dcr n m x*dcr e m y=0:=by grind
       rcases Rat.mul_eq_zero.1 this with h | h
       · exact hx h z2
       · exact hy z1 h
     · exact hy z1 z2
   · exact bI p2 hc
 · exact bI p1 hc
theorem rot_free {n e m x y:Pq} (hk:crs n e≠0) (h:¬ InS x y m) :
 ahd (ld n m) m x y=ahd (ld e m) m x y+gI (rsg (crs n e)) (ld n m y) (ld e m y)-gI (rsg (crs n e)) (ld n m x) (ld e m x):=by
 have hs:rsg (crs n e) = -1\/rsg (crs n e)=1:=by
  rcases F4 (crs n e) with h | h | h
  · exact .inl h
  · exact absurd (rsg_zero.1 h) hk
  · exact .inr h
 have hid:=congrArg rsg (crs_id n e m x y)
 rw [I3] at hid
 have ok:=okR_at hs (F4 (dcr n m x)) (F4 (dcr e m x)) (F4 (dcr n m y)) (F4 (dcr e m y)) (F4 (A4 x y m))
 unfold okR at ok
 simp only [<- I3] at ok
 simp only [Bool.or_eq_true,Bool.and_eq_true,decide_eq_true_eq,Bool.not_eq_true',decide_eq_false_iff_not] at ok
 rw [I3 (crs n e),hid] at ok
 rcases ok with (((⟨⟨k1,k2,k3⟩,k4⟩ | ⟨⟨k1,k2,k3⟩,k4⟩) | ⟨⟨k1,k2⟩,k3⟩) | ⟨k1,k2,k3⟩) | k
 · exact absurd (V3 k1 k2 k3) k4
 · exact absurd (bB k1 k2 k3) k4
 · rw [rsg_zero.1 k1,rsg_zero.1 k2] at k3;exact absurd (rsg_zero.2 (by grind)) k3
 · exact absurd (ins_two hk (rsg_zero.1 k1) (by unfold ld;rw [<- I3];exact k2) (by unfold ld;rw [<- I3];exact k3)) h
 · exact k
def prp (n:Pq):Pq:=(n.2, -n.1)
theorem crs_prp {n:Pq} (h:n≠(0,0)):crs n (prp n)<0:=by
 obtain ⟨n1,n2⟩:=n
 have:=M5 (a:=(0,0)) (b:=(n1,n2)) (fun e=>h e.symm)
 simp only [crs,prp] at *;grind
theorem rot_opp {n e m x y:Pq} (hn:n≠(0,0)) (he:∀ z,ld e m z = - ld n m z) (h:¬ InS x y m) :
 ahd (ld n m) m x y=ahd (ld e m) m x y+gO (ld n m y) (ld (prp n) m y)-gO (ld n m x) (ld (prp n) m x):=by
 have hk:=crs_prp hn
 have hk0:crs n (prp n)≠0:=by grind
 have hid:=congrArg rsg (crs_id n (prp n) m x y)
 rw [I3,rsg_nz.2 hk] at hid
 have ok:=okO_at (F4 (dcr n m x)) (F4 (dcr (prp n) m x)) (F4 (dcr n m y)) (F4 (dcr (prp n) m y)) (F4 (A4 x y m))
 unfold okO at ok
 simp only [<- I3] at ok
 simp only [Bool.or_eq_true,Bool.and_eq_true,decide_eq_true_eq,Bool.not_eq_true',decide_eq_false_iff_not] at ok
 rw [hid] at ok
 rcases ok with (((⟨⟨k1,k2,k3⟩,k4⟩ | ⟨⟨k1,k2,k3⟩,k4⟩) | ⟨⟨k1,k2⟩,k3⟩) | ⟨k1,k2,k3⟩) | k
 · exact absurd (V3 k1 k2 k3) k4
 · exact absurd (bB k1 k2 k3) k4
 · rw [rsg_zero.1 k1,rsg_zero.1 k2] at k3;exact absurd (rsg_zero.2 (by grind)) k3
 · exact absurd (ins_two hk0 (rsg_zero.1 k1) (by unfold ld;rw [<- I3];exact k2) (by unfold ld;rw [<- I3];exact k3)) h
 · have:ahd (ld e m) m x y=ahI (-rsg (dcr n m x)) (-rsg (dcr n m y)) (rsg (A4 x y m)):=by unfold ahd ahI;rw [he,he];rfl
   rw [this];exact k
theorem iL {lf:Pq->Int} {m x y:Pq} (h:A4 x y m=0):ahd lf m x y=0:=by
 unfold ahd;rw [rsg_zero.2 h];split
 · rename_i h1;exact h1.symm
 · rfl
theorem dcr_nrm (a b x:Pq):dcr (nrm a b) (B2 a b) x = -((b.1-a.1)*(x.1-(B2 a b).1)+(b.2-a.2)*(x.2-(B2 a b).2)):=by unfold dcr nrm;dsimp only;grind
theorem qL {a b:Pq} (h:a≠b):dcr (nrm a b) (B2 a b) b<0:=by
 have:=M5 h
 rw [dcr_nrm];unfold B2;dsimp only;grind
def gA (a b e:Pq) (x:Pq):Int:=
 if x=B2 a b then (if 0<rsg (crs (nrm a b) e)/\0<ld e (B2 a b) b then 1 else 0)
 else if rsg (crs (nrm a b) e)=0 then (if 0<ld e (B2 a b) b then gO (ld (nrm a b) (B2 a b) x) (ld (prp (nrm a b)) (B2 a b) x) else 0)
 else gI (rsg (crs (nrm a b) e)) (ld (nrm a b) (B2 a b) x) (ld e (B2 a b) x)
def thrL (a b e x y:Pq):Int:=if 0<ld e (B2 a b) b then thr (ld e (B2 a b)) (B2 a b) x y else 0
theorem nrm_ne {a b:Pq} (h:a≠b):nrm a b≠(0,0):=by
 obtain ⟨a1,a2⟩:=a;obtain ⟨b1,b2⟩:=b
 intro e;unfold nrm at e;simp only [Prod.mk.injEq] at e
 exact h (Prod.ext (by dsimp only;grind) (by dsimp only;grind))
theorem par_at {a b e:Pq} (h:a≠b) (hc:crs (nrm a b) e=0):∃ k:Rat,∀ x,dcr e (B2 a b) x=k*dcr (nrm a b) (B2 a b) x:=by
 have hn:=M5 h
 obtain ⟨a1,a2⟩:=a;obtain ⟨b1,b2⟩:=b;obtain ⟨e1,e2⟩:=e
 simp only [crs,nrm] at hc hn
 refine ⟨((a2-b2)*e1+(b1-a1)*e2) / ((b1-a1)*(b1-a1)+(b2-a2)*(b2-a2)),fun x=>?_⟩
 obtain ⟨x1,x2⟩:=x
 have hN0:(b1-a1)*(b1-a1)+(b2-a2)*(b2-a2)≠0:=by grind
 have hq:((a2-b2)*e1+(b1-a1)*e2) / ((b1-a1)*(b1-a1)+(b2-a2)*(b2-a2))*((b1-a1)*(b1-a1)+(b2-a2)*(b2-a2))=((a2-b2)*e1+(b1-a1)*e2):=by grind
 generalize ((a2-b2)*e1+(b1-a1)*e2) / ((b1-a1)*(b1-a1)+(b2-a2)*(b2-a2))=k at *
 simp only [dcr,nrm,B2]
 generalize (a1+b1)*(1 / 2)=m1
 generalize (a2+b2)*(1 / 2)=m2
 have k1:((b1-a1)*(b1-a1)+(b2-a2)*(b2-a2))*(e1-k*(a2-b2))=0:=by grind
 have k2:((b1-a1)*(b1-a1)+(b2-a2)*(b2-a2))*(e2-k*(b1-a1))=0:=by grind
 have k3:e1-k*(a2-b2)=0:=by rcases Rat.mul_eq_zero.1 k1 with h | h;exact absurd h hN0;exact h
 have k4:e2-k*(b1-a1)=0:=by rcases Rat.mul_eq_zero.1 k2 with h | h;exact absurd h hN0;exact h
 have k5:e1=k*(a2-b2):=by grind
 have k6:e2=k*(b1-a1):=by grind
 rw [k5,k6];grind
theorem not_mid {x y m:Pq} (h:¬ InS x y m):x≠m/\y≠m:=⟨fun e=>h (e ▸ bJ _ _),fun e=>h (e ▸ cN _ _)⟩
theorem rot_one {a b e x y:Pq} (hab:a≠b) (he:ld e (B2 a b) b≠0) (h:¬ InS x y (B2 a b)\/A4 a b x=0/\A4 a b y=0) :
 ahd (ld (nrm a b) (B2 a b)) (B2 a b) x y=ahd (ld e (B2 a b)) (B2 a b) x y+thrL a b e x y+gA a b e y-gA a b e x:=by
 have hS:=qL hab
 have hpar:rsg (crs (nrm a b) e)=0->(∃ k:Rat,(∀ x,dcr e (B2 a b) x=k*dcr (nrm a b) (B2 a b) x)/\(0<ld e (B2 a b) b->k<0)/\(¬ 0<ld e (B2 a b) b->0<k)):=fun h0=>by
  obtain ⟨k,hk⟩:=par_at hab (rsg_zero.1 h0)
  have hb:=hk b
  refine ⟨k,hk,fun h1=>?_,fun h1=>?_⟩
  · have h2:rsg (dcr e (B2 a b) b)=1:=by have:=F4 (dcr e (B2 a b) b);unfold ld at h1;omega
    rw [rsg_pos,hb] at h2
    rcases (show k<0\/k=0\/0<k by grind) with h3 | h3 | h3
    · exact h3
    · rw [h3] at h2;grind
    · have:=Rat.mul_pos h3 (show 0 < - dcr (nrm a b) (B2 a b) b by grind);grind
  · have h2:rsg (dcr e (B2 a b) b) = -1:=by have:=F4 (dcr e (B2 a b) b);unfold ld at h1 he;omega
    rw [rsg_nz,hb] at h2
    rcases (show k<0\/k=0\/0<k by grind) with h3 | h3 | h3
    · have:=Rat.mul_pos (show 0 < -k by grind) (show 0 < - dcr (nrm a b) (B2 a b) b by grind);grind
    · rw [h3] at h2;grind
    · exact h3
 by_cases hc:A4 a b x=0/\A4 a b y=0
 · obtain ⟨hx,hy⟩:=hc
   obtain ⟨i,rfl⟩:=fM hab hx
   obtain ⟨k,rfl⟩:=fM hab hy
   have hz:A4 (pat (B2 a b) b i) (pat (B2 a b) b k) (B2 a b)=0:=by unfold A4 pat;dsimp only;grind
   rw [iL hz,iL hz]
   have hlv:∀ j,ld (nrm a b) (B2 a b) (pat (B2 a b) b j) = - rsg j:=fun j=>by unfold ld;rw [Y7,I3,rsg_nz.2 hS];omega
   have hle:∀ j,ld e (B2 a b) (pat (B2 a b) b j)=rsg j*ld e (B2 a b) b:=fun j=>by unfold ld;rw [Y7,I3]
   have hlp:∀ j,ld (prp (nrm a b)) (B2 a b) (pat (B2 a b) b j)=0:=fun j=>by
    unfold ld;rw [Y7];apply rsg_zero.2
    have:dcr (prp (nrm a b)) (B2 a b) b=0:=by unfold dcr prp nrm B2;dsimp only;grind
    rw [this];grind
   have hmb:∀ j,pat (B2 a b) b j=B2 a b ↔ j=0:=fun j=>by
    constructor
    · intro h1
      have h2:=Y7 (nrm a b) a b j
      rw [h1] at h2
      have h3:dcr (nrm a b) (B2 a b) (B2 a b)=0:=by unfold dcr;grind
      rw [h3] at h2
      rcases Rat.mul_eq_zero.1 h2.symm with h4 | h4
      · exact h4
      · grind
    · rintro rfl;exact fL _ _
   have hth:thrL a b e (pat (B2 a b) b i) (pat (B2 a b) b k)=if 0<ld e (B2 a b) b then pos (rsg k)-pos (rsg i) else 0:=by
    unfold thrL thr
    split
    · rename_i h1
      rw [if_pos (rsg_zero.2 hz),pass_pos,hle,hle]
      have:ld e (B2 a b) b=1:=by have:=F4 (dcr e (B2 a b) b);unfold ld at h1 ⊢;omega
      rw [this,Int.mul_one,Int.mul_one]
    · rfl
   have hg:∀ j,gA a b e (pat (B2 a b) b j)=if 0<ld e (B2 a b) b then (if 0<rsg (crs (nrm a b) e) then 1 else 0)-pos (rsg j) else 0:=fun j=>by
    have hl1:ld e (B2 a b) b=1\/ld e (B2 a b) b = -1:=by have:=F4 (dcr e (B2 a b) b);unfold ld at he ⊢;omega
    have hj:=F4 j
    unfold gA gO gI pos
    rw [hlv,hle,hlp]
    by_cases h0:j=0
    · rw [if_pos ((hmb j).2 h0),rsg_zero.2 h0]
      rcases hl1 with h1 | h1<;>rw [h1]<;>simp
    · rw [if_neg (fun e=>h0 ((hmb j).1 e))]
      have hj0:rsg j≠0:=fun e=>h0 (rsg_zero.1 e)
      rcases F4 (crs (nrm a b) e) with h2 | h2 | h2<;>rw [h2]<;>rcases hl1 with h1 | h1<;>rw [h1]<;>rcases hj with h3 | h3 | h3<;>simp [h3] at hj0 ⊢
   rw [hth,hg,hg]
   split<;>omega
 · have hf:¬ InS x y (B2 a b):=h.resolve_right hc
   have hne:=not_mid hf
   have h0:thrL a b e x y=0:=by unfold thrL;rw [thr_off hf];split<;>rfl
   rw [h0]
   unfold gA
   rw [if_neg hne.1,if_neg hne.2]
   by_cases hk:rsg (crs (nrm a b) e)=0
   · rw [if_pos hk,if_pos hk]
     obtain ⟨k,h1,h2,h3⟩:=hpar hk
     by_cases h4 : 0<ld e (B2 a b) b
     · rw [if_pos h4,if_pos h4]
       have:=rot_opp (nrm_ne hab) (e:=e) (m:=B2 a b) (fun z=>by unfold ld;rw [h1,I3,rsg_nz.2 (h2 h4)];omega) hf
       omega
     · rw [if_neg h4,if_neg h4]
       have:ld e (B2 a b)=ld (nrm a b) (B2 a b):=funext fun z=>by unfold ld;rw [h1,I3,rsg_pos.2 (h3 h4)];omega
       rw [this];omega
   · rw [if_neg hk,if_neg hk]
     have:=rot_free (fun e=>hk (rsg_zero.2 e)) hf (n:=nrm a b) (e:=e)
     omega
def stp (a b:Pq) (t:Rat):Pq:=((B2 a b).1+t*(nrm a b).1,(B2 a b).2+t*(nrm a b).2)
theorem dcr_stp (a b x:Pq) (t:Rat):dcr (nrm a b) (stp a b t) x=dcr (nrm a b) (B2 a b) x:=by unfold dcr stp;dsimp only;grind
theorem ld_stp (a b:Pq) (t:Rat):ld (nrm a b) (stp a b t)=ld (nrm a b) (B2 a b):=funext fun x=>by unfold ld;rw [dcr_stp]
theorem stp_pat (a b:Pq) (t s:Rat):pat (B2 a b) (stp a b t) s=stp a b (s*t):=by unfold stp pat;exact Prod.ext (by dsimp only;grind) (by dsimp only;grind)
theorem cross_stp (a b x y:Pq) (t s:Rat):A4 x y (stp a b (s*t))=A4 x y (B2 a b)+s*(A4 x y (stp a b t)-A4 x y (B2 a b)):=by unfold A4 stp;dsimp only;grind
theorem line_stp {a b:Pq} (h:a≠b) {t:Rat} (ht : 0<t) : 0<A4 a b (stp a b t):=by
 have:=Rat.mul_pos ht (M5 h)
 unfold A4 stp B2 nrm;dsimp only;grind
theorem shift_one {a b x y:Pq} (hab:a≠b) {t:Rat} (ht : 0<t) (h:(∀ q,InS (B2 a b) (stp a b t) q -> ¬ InS x y q)\/A4 a b x=0/\A4 a b y=0) :
 ahd (ld (nrm a b) (stp a b t)) (stp a b t) x y=ahd (ld (nrm a b) (B2 a b)) (B2 a b) x y:=by
 have hl:=ld_stp a b t
 by_cases hw:pass (ld (nrm a b) (B2 a b) x) (ld (nrm a b) (B2 a b) y)=0
 · unfold ahd;rw [hl,hw];split<;>split<;>rfl
 · by_cases hc:A4 a b x=0/\A4 a b y=0
   · obtain ⟨hx,hy⟩:=hc
     obtain ⟨i,rfl⟩:=fM hab hx
     obtain ⟨k,rfl⟩:=fM hab hy
     have hz:A4 (pat (B2 a b) b i) (pat (B2 a b) b k) (B2 a b)=0:=by unfold A4 pat;dsimp only;grind
     rw [iL hz]
     have hS:=qL hab
     have hlv:∀ j,ld (nrm a b) (B2 a b) (pat (B2 a b) b j) = - rsg j:=fun j=>by unfold ld;rw [Y7,I3,rsg_nz.2 hS];omega
     have hcr:A4 (pat (B2 a b) b i) (pat (B2 a b) b k) (stp a b t)=(k-i)*(1 / 2)*(t*((b.1-a.1)*(b.1-a.1)+(b.2-a.2)*(b.2-a.2))):=by unfold A4 pat stp nrm B2;dsimp only;grind
     have hp:=Rat.mul_pos ht (M5 hab)
     unfold ahd
     rw [hl,hlv,hlv] at *
     rw [hcr,I3,rsg_pos.2 hp,rsg_half]
     unfold pass at hw ⊢
     have oi:=F4 i;have ok:=F4 k
     by_cases c1 : -rsg i<=0/\0 < -rsg k
     · have e1:k<0:=rsg_nz.1 (by omega)
       have e2 : 0<=i:=rsg_ge.1 (by omega)
       rw [if_pos c1,rsg_nz.2 (show k-i<0 by grind)];rfl
     · rw [if_neg c1] at hw ⊢
       by_cases c2 : 0 < -rsg i /\ -rsg k<=0
       · have e1:i<0:=rsg_nz.1 (by omega)
         have e2 : 0<=k:=rsg_ge.1 (by omega)
         rw [if_pos c2,rsg_pos.2 (show 0<k-i by grind)];rfl
       · rw [if_neg c2] at hw;exact absurd rfl hw
   · have hfree:=h.resolve_right hc
     have key:∀ s:Rat,0<=s->s<=1->A4 x y (stp a b (s*t))≠0:=fun s s0 s1 hz=>by
      refine hfree (stp a b (s*t)) ⟨s,s0,s1,(stp_pat a b t s).symm⟩ (bI (e:=nrm a b) ?_ hz)
      rw [ld_stp];exact hw
     have key0:∀ u v:Rat,u=A4 x y (B2 a b)->v=A4 x y (stp a b t)->rsg u=rsg v:=fun u v hu hv=>by
      have hcs:=fun s=>cross_stp a b x y t s
      rw [<- hu, <- hv] at hcs
      have z0:=key 0 (by grind) (by grind)
      have z1:=key 1 (by grind) (by grind)
      rw [hcs] at z0 z1
      have u0:u≠0:=by grind
      have v0:v≠0:=by grind
      rcases (show u<0\/0<u by grind) with c1 | c1<;>rcases (show v<0\/0<v by grind) with c2 | c2
      · rw [rsg_nz.2 c1,rsg_nz.2 c2]
      · exfalso
        have hd : 0<v-u:=by grind
        have hq:(-u) / (v-u)*(v-u) = -u:=by grind
        have hu1:=X5 hd hq (by grind) (by grind)
        have z:=key _ hu1.1 hu1.2
        rw [hcs] at z;exact z (by grind)
      · exfalso
        have hd : 0<u-v:=by grind
        have hq:u / (u-v)*(u-v)=u:=by grind
        have hu1:=X5 hd hq (by grind) (by grind)
        have z:=key _ hu1.1 hu1.2
        rw [hcs] at z;exact z (by grind)
      · rw [rsg_pos.2 c1,rsg_pos.2 c2]
     unfold ahd
     rw [hl,key0 _ _ rfl rfl]
def gB (n p x:Pq):Int:=if rsg (crs n (1,0))=0 then (if n.1<0 then gO (ld n p x) (ld (prp n) p x) else 0) else gI (rsg (crs n (1,0))) (ld n p x) (ld (1,0) p x)
theorem rot_lvl {n p x y:Pq} (hn:n≠(0,0)) (h:¬ InS x y p):ahd (ld n p) p x y=ahd (lvl p) p x y+gB n p y-gB n p x:=by
 rw [mD];unfold gB
 by_cases hk:rsg (crs n (1,0))=0
 · rw [if_pos hk,if_pos hk]
   have hc:=rsg_zero.1 hk
   obtain ⟨n1,n2⟩:=n
   have h2:n2=0:=by unfold crs at hc;dsimp only at hc;grind
   subst h2
   have h1:n1≠0:=fun e=>hn (by rw [e])
   have hd:∀ z,dcr (n1,0) p z=n1*dcr (1,0) p z:=fun z=>by unfold dcr;dsimp only;grind
   dsimp only
   rcases (show n1<0\/0<n1 by grind) with h3 | h3
   · rw [if_pos h3,if_pos h3]
     exact rot_opp hn (e:=(1,0)) (fun z=>by unfold ld;rw [hd,I3,rsg_nz.2 h3];omega) h
   · rw [if_neg (by grind),if_neg (by grind)]
     have:ld (n1,0) p=ld (1,0) p:=funext fun z=>by unfold ld;rw [hd,I3,rsg_pos.2 h3];omega
     rw [this];omega
 · rw [if_neg hk,if_neg hk]
   exact rot_free (fun e=>hk (rsg_zero.2 e)) h
theorem cy_add (f g:Pq->Pq->Int) (d:Pq->Int) (l:List Pq) (h:∀ i,i<l.length->f (pt0 l i) (nxt l i)=g (pt0 l i) (nxt l i)+d (nxt l i)-d (pt0 l i)):cyL f l=cyL g l:=by
 cases l with
 | nil=>rfl
 | cons a l=>
   have key:∀ i,i<(l++[a]).length->pt0 (a :: (l++[a])) i=pt0 (a :: l) i/\pt0 (a :: (l++[a])) (i+1)=nxt (a :: l) i:=fun i hi=>by
    have hi:i<l.length+1:=by simpa using hi
    constructor
    · unfold pt0;rw [List.getD_eq_getElem?_getD,List.getD_eq_getElem?_getD, <- List.cons_append,List.getElem?_append_left (by simpa using hi)]
    · unfold nxt
      simp only [List.length_cons]
      by_cases h1:i+1<l.length+1
      · rw [Nat.mod_eq_of_lt h1]
        unfold pt0;rw [List.getD_eq_getElem?_getD,List.getD_eq_getElem?_getD, <- List.cons_append,List.getElem?_append_left (by simpa using h1)]
      · obtain rfl:i=l.length:=by omega
        rw [Nat.mod_self];unfold pt0;simp [List.getD_eq_getElem?_getD]
   have:=rL f g 1 d a (l++[a]) (fun i hi=>by
    obtain ⟨e1,e2⟩:=key i hi
    rw [e1,e2,h i (by simpa using hi)];omega)
   show W7 f (a :: l++[a])=W7 g (a :: l++[a])
   have e:pt0 (a :: (l++[a])) (l++[a]).length=a:=by unfold pt0;simp [List.getD_eq_getElem?_getD]
   rw [List.cons_append,this,e];omega
theorem pth_plus (f g:Pq->Pq->Int):∀ l,W7 (fun x y=>f x y+g x y) l=W7 f l+W7 g l
 | []=>rfl
 | [a]=>rfl
 | a :: b :: l=>by
   show f a b+g a b+W7 (fun x y=>f x y+g x y) (b :: l)=f a b+W7 f (b :: l)+(g a b+W7 g (b :: l))
   rw [pth_plus f g (b :: l)];omega
theorem cy_plus (f g:Pq->Pq->Int) (l:List Pq):cyL (fun x y=>f x y+g x y) l=cyL f l+cyL g l:=by
 cases l with
 | nil=>rfl
 | cons a l=>exact pth_plus f g _
theorem pth_nil:∀ l,W7 (fun _ _=>0) l=0
 | []=>rfl
 | [a]=>rfl
 | a :: b :: l=>by show 0+W7 (fun _ _=>0) (b :: l)=0;rw [pth_nil (b :: l)];rfl
theorem cy_nil (l:List Pq):cyL (fun _ _=>0) l=0:=by
 cases l with
 | nil=>rfl
 | cons a l=>exact pth_nil _
theorem nD {f g:Pq->Pq->Int} (l:List Pq) (h:∀ i,i<l.length->f (pt0 l i) (nxt l i)=g (pt0 l i) (nxt l i)):cyL f l=cyL g l:=
 cy_add f g (fun _=>0) l (fun i hi=>by rw [h i hi];omega)
def Free (a b:Pq) (t:Rat) (x y:Pq):Prop:=(∀ q,InS (B2 a b) (stp a b t) q -> ¬ InS x y q)\/A4 a b x=0/\A4 a b y=0
def Fair (a b x y:Pq):Prop:=¬ InS x y (B2 a b)\/A4 a b x=0/\A4 a b y=0
theorem off_free {a b x y:Pq} (hab:a≠b) {t:Rat} (ht : 0<t) (h:Free a b t x y):¬ InS x y (stp a b t):=by
 rcases h with h | ⟨h1,h2⟩
 · exact h _ (cN _ _)
 · rintro ⟨s,s0,s1,hs⟩
   have:=line_stp hab ht
   rw [hs] at this
   have e:A4 a b (pat x y s)=(1-s)*A4 a b x+s*A4 a b y:=by unfold A4 pat;dsimp only;grind
   rw [e,h1,h2] at this;grind
theorem beside_one {a b e:Pq} (l:List Pq) (hab:a≠b) (he:ld e (B2 a b) b≠0) {t:Rat} (ht : 0<t) (hfree:∀ i,i<l.length->Free a b t (pt0 l i) (nxt l i)) (hfair:∀ i,i<l.length->Fair a b (pt0 l i) (nxt l i)) :
 oY l (stp a b t)=cyL (ahd (ld e (B2 a b)) (B2 a b)) l+if 0<ld e (B2 a b) b then cyL (thr (ld e (B2 a b)) (B2 a b)) l else 0:=by
 have h1:cyL (ahd (ld (nrm a b) (stp a b t)) (stp a b t)) l=oY l (stp a b t):=cy_add _ _ (gB (nrm a b) (stp a b t)) l fun i hi=>rot_lvl (nrm_ne hab) (off_free hab ht (hfree i hi))
 have h2:cyL (ahd (ld (nrm a b) (stp a b t)) (stp a b t)) l=cyL (ahd (ld (nrm a b) (B2 a b)) (B2 a b)) l:=nD l fun i hi=>shift_one hab ht (hfree i hi)
 have h3:cyL (ahd (ld (nrm a b) (B2 a b)) (B2 a b)) l=cyL (fun x y=>ahd (ld e (B2 a b)) (B2 a b) x y+thrL a b e x y) l:=cy_add _ _ (gA a b e) l fun i hi=>rot_one hab he (hfair i hi)
 rw [<- h1,h2,h3,cy_plus]
 congr 1
 split
 · rename_i h4
   exact nD l fun i hi=>by unfold thrL;rw [if_pos h4]
 · rename_i h4
   rw [<- cy_nil l]
   exact nD l fun i hi=>by unfold thrL;rw [if_neg h4]
end Go.Proofs.YtamdnbbgpacfkaaGreatDoor.PM
namespace Go.Proofs.YtamdnbbgpacfkaaGreatDoor
open Go.RowKit Mat Ex PM
def N2 (a b:H3):H3:=⟨a.x*b.z+b.x*a.z,a.y*b.z+b.y*a.z,2*(a.z*b.z)⟩
theorem P9 {a b:H3} (za : 0<a.z) (zb : 0<b.z) : 0<(N2 a b).z:=Int.mul_pos (by decide) (Int.mul_pos za zb)
theorem mid_frac {p q r s:Rat} (hq:q≠0) (hs:s≠0):(p*s+r*q) / (2*(q*s))=(p / q+r / s)*(1 / 2):=by
 have h1:p=p / q*q:=(Rat.div_mul_cancel hq).symm
 have h2:r=r / s*s:=(Rat.div_mul_cancel hs).symm
 have hd:(2:Rat)*(q*s)≠0:=by
  intro e
  rcases Rat.mul_eq_zero.1 e with e | e
  · exact absurd e (by decide)
  · rcases Rat.mul_eq_zero.1 e with e | e
    · exact hq e
    · exact hs e
 have key:p*s+r*q=(p / q+r / s)*(1 / 2)*(2*(q*s)):=by
  generalize p / q=u at *
  generalize r / s=v at *
  rw [h1,h2];grind
 rw [key];exact Rat.mul_div_cancel hd
theorem aI {a b:H3} (za : 0<a.z) (zb : 0<b.z):rp (N2 a b)=B2 (rp a) (rp b):=by
 have h1:=hz za
 have h2:=hz zb
 unfold rp N2 B2
 refine Prod.ext ?_ ?_<;>simp only [jW,Rat.intCast_add,Rat.intCast_mul]<;>rw [show ((2:Int):Rat)=2 from rfl]
 · exact mid_frac h1 h2
 · exact mid_frac h1 h2
theorem HB.mid {E:Nat} {a b:H3} (ha:HB E a) (hb:HB E b) (hE : 1<=E):HB (2*E+2) (N2 a b):=by
 unfold N2
 have d2:(2:Int).natAbs<D^1:=by unfold D;decide
 refine ⟨dpw (L7 (A9 ha.1 hb.2.2) (A9 hb.1 ha.2.2)) (by omega),dpw (L7 (A9 ha.2.1 hb.2.2) (A9 hb.2.1 ha.2.2)) (by omega),dpw (A9 d2 (A9 ha.2.2 hb.2.2)) (by omega)⟩
theorem cF (w:World) (va:Value) (a b:H3) (E:Nat) (Ha:HsV w va a b) (hE:E<=10000) (ba:HB E a) (bb:HB E b) :
 Calls Tryz.prog 45 #[va] w (RetH w (N2 a b)):=by
 refine A6 B6 Tryz.func45 [sHs a b] [sR (a.x*b.z),sR (b.x*a.z),sR (a.x*b.z+b.x*a.z),sR (a.y*b.z),sR (b.y*a.z),sR (a.y*b.z+b.y*a.z),sR 2,sR (a.z*b.z),sR (2*(a.z*b.z))] (.cons Ha .nil) (rs:=[cl 1 89 [ag 2 0,.v true [.an 0 10,.an 0 11]],cl 2 89 [.v true [.an 0 6,.an 0 7],.v true [.an 0 4,.an 0 5]],cl 3 90 [ag 2 1,ag 2 2],cl 4 89 [.v true [.an 0 2,.an 0 3],.v true [.an 0 10,.an 0 11]],cl 5 89 [.v true [.an 0 8,.an 0 9],.v true [.an 0 4,.an 0 5]],cl 6 90 [ag 2 4,ag 2 5],cl 7 36 [.v false [.lit (.int .i64 2)]],cl 8 89 [.v true [.an 0 4,.an 0 5],.v true [.an 0 10,.an 0 11]],cl 9 89 [ag 2 7,ag 2 8]]) (out := .v true [.an 3 0,.an 3 1,.an 6 0,.an 6 1,.an 9 0,.an 9 1]) (nc:=10) (by kernel_rfl)
  ⟨fun σ W g h hb=>C6 W _ _ _ _ (h31 (hs1 (h 0 rfl))) (h33 (hs2 (h 0 rfl))) (dp6 ba.1 (by omega)) (dp6 bb.2.2 (by omega)),
  fun σ W g h hb=>C6 W _ _ _ _ (h31 (hs2 (h 0 rfl))) (h33 (hs1 (h 0 rfl))) (dp6 bb.1 (by omega)) (dp6 ba.2.2 (by omega)),
  fun σ W g h hb=>T1 W _ _ _ _ (h 1 rfl) (h 2 rfl) (dp6 (A9 ba.1 bb.2.2) (by omega)) (dp6 (A9 bb.1 ba.2.2) (by omega)),
  fun σ W g h hb=>C6 W _ _ _ _ (h32 (hs1 (h 0 rfl))) (h33 (hs2 (h 0 rfl))) (dp6 ba.2.1 (by omega)) (dp6 bb.2.2 (by omega)),
  fun σ W g h hb=>C6 W _ _ _ _ (h32 (hs2 (h 0 rfl))) (h33 (hs1 (h 0 rfl))) (dp6 bb.2.1 (by omega)) (dp6 ba.2.2 (by omega)),
  fun σ W g h hb=>T1 W _ _ _ _ (h 4 rfl) (h 5 rfl) (dp6 (A9 ba.2.1 bb.2.2) (by omega)) (dp6 (A9 bb.2.1 ba.2.2) (by omega)),
  fun σ W g h hb=>P5 W 2 (by omega) (by omega),
  fun σ W g h hb=>C6 W _ _ _ _ (h33 (hs1 (h 0 rfl))) (h33 (hs2 (h 0 rfl))) (dp6 ba.2.2 (by omega)) (dp6 bb.2.2 (by omega)),
  fun σ W g h hb=>C6 W _ _ _ _ (h 7 rfl) (h 8 rfl) (dp6 (by unfold D;decide:(2:Int).natAbs<D^1) (by omega)) (dp6 (A9 ba.2.2 bb.2.2) (by omega)),
  trivial⟩ fun τ W g h=>⟨_,rfl,mkh (h 3 rfl) (h 6 rfl) (h 9 rfl),g⟩
def fairK (l:List Pq) (a b:Pq) (k:Nat):Prop:=∀ i,i<k->PM.Fair a b (pt0 l i) (nxt l i)
def U9 (l:List Pq) (a b:Pq):Prop:=fairK l a b l.length
theorem hbm {E M:Nat} {p:H3} (h:HB E p) (hm:E<=M):HB M p:=⟨dpw h.1 hm,dpw h.2.1 hm,dpw h.2.2 hm⟩
theorem lQ (w:World) (va vb:Value) (l:List H3) (a b:H3) (E:Nat) (Ha:HrV w va l) (Hb:HsV w vb a b) (hE : 1<=E/\E<=4000) (hn:l.length<=40) (hl:∀ p ∈ l,HB E p/\0<p.z) (ba:HB E a) (bb:HB E b) (za : 0<a.z) (zb : 0<b.z) :
 Calls Tryz.prog 16 #[va,vb] w (RetB w (dec (U9 (l.map rp) (rp a) (rp b)))):=by
 have bm:=ba.mid bb hE.1
 refine P1 B6 Tryz.func16 [sHr 0 l,sHs a b] (fun k:Nat=>[sH (N2 a b),sZc (k<=l.length/\fairK (l.map rp) (rp a) (rp b) k) (k:Int),sZ l.length,sC (.bool (decide (k<l.length))) rfl,sHa (hg l (k)),sH (hg l (k)),sZ ((k:Int)+1),sZ l.length,sZ (((k+1)%l.length:Nat):Int),sHa (hg l (((k+1)%l.length))),sH (hg l (((k+1)%l.length))),sC (.bool (dec (InS (rp (hg l k)) (rp (hg l ((k+1)%l.length))) (B2 (rp a) (rp b))))) rfl,sC (.bool (decide (rsg (A4 (rp a) (rp b) (rp (hg l k)))≠0))) rfl,sV (.bool true),sZ (rsg (A4 (rp a) (rp b) (rp (hg l k)))),sV (.bool true),sV (.bool true),sZ (rsg (A4 (rp a) (rp b) (rp (hg l k)))),sV (.bool false),sZ (rsg (A4 (rp a) (rp b) (rp (hg l ((k+1)%l.length))))),sC (.bool (decide (rsg (A4 (rp a) (rp b) (rp (hg l ((k+1)%l.length))))≠0))) rfl,sV (.bool false),sZ ((k:Int)+1),sZ ((k:Int)+1)]) (fun m k=>if m=3 then l.length-k else 0) (0) (fun _=>rfl) [1000000,6] [some [[.t 7,.t 8,.t 11,.t 12,.t 13,.t 14,.t 15,.t 16,.t 17,.t 18,.t 19,.t 20,.t 21,.t 22,.t 23,.t 24,.t 25,.t 26,.t 27,.t 28,.t 29,.t 30,.t 31,.t 32,.t 33,.t 34,.t 35,.t 36,.t 37,.t 38,.t 39,.t 40,.t 41,.t 42,.t 43,.t 44,.t 45,.t 46,.t 47,.t 48,.t 49,.t 50,.t 51],[.t 6]]] (.cons ⟨Ha,fun _ _=>Nat.zero_le _⟩ (.cons Hb .nil)) (rs:=[(cl 2 45 [ag 12 1],[]),(co 4 (.call ⟨.builtin .len, #[(.tmp 12)], #[25]⟩) 3 [on 0] [0,1,2,3] [],[]),(co 5 (.binOp .lss 3 (.tmp 11) (.tmp 13) 3) 4 [on 3,on 4] [0,1,2,3,4] [],[]),(co 6 (.indexAddr 25 (.tmp 17) (.tmp 18)) 0 [on 0,on 3] [0,1,2,3,4,5] [],[(5,0,true)]),(co 7 (.load 34 (.tmp 19)) 34 [on 6] [0,1,2,3,4,5,6] [],[(5,0,true)]),(co 8 (.binOp .add 3 (.tmp 22) (.const (.int .i64 1)) 3) 3 [on 3,.v false [.lit (.int .i64 1)]] [0,1,2,3,4,5] [],[(5,0,true)]),(co 9 (.call ⟨.builtin .len, #[(.tmp 24)], #[25]⟩) 3 [on 0] [0,1,2,3,4,5] [],[(5,0,true)]),(co 10 (.binOp .rem 3 (.tmp 23) (.tmp 25) 3) 3 [on 8,on 9] [0,1,2,3,4,5,8,9] [],[(5,0,true)]),(co 11 (.indexAddr 25 (.tmp 21) (.tmp 26)) 0 [on 0,on 10] [0,1,2,3,4,5,8,9,10] [],[(5,0,true)]),(co 12 (.load 34 (.tmp 27)) 34 [on 11] [0,1,2,3,4,5,8,9,10,11] [],[(5,0,true)]),(cl 15 46 [.v true [.an 7 0,.an 7 1,.an 7 2,.an 7 3,.an 7 4,.an 7 5,.an 12 0,.an 12 1,.an 12 2,.an 12 3,.an 12 4,.an 12 5],ag 6 2],[(14,0,true),(13,0,true),(5,0,true)]),(cl 16 47 [ag 6 1,.v true [.an 1 6,.an 1 7,.an 1 8,.an 1 9,.an 1 10,.an 1 11],ag 6 7],[(14,0,true),(13,0,true),(5,0,true)]),(co 17 (.binOp .neq 3 (.tmp 40) (.const (.int .i64 0)) 3) 4 [on 16,.v false [.lit (.int .i64 0)]] [0,1,2,3,4,5,6,7,8,9,10,11,12,13,14,15,16] [],[(14,0,true),(13,0,true),(5,0,true)]),(cla 18 46 [.v true [.an 7 0,.an 7 1,.an 7 2,.an 7 3,.an 7 4,.an 7 5,.an 12 0,.an 12 1,.an 12 2,.an 12 3,.an 12 4,.an 12 5],ag 6 2] [0,1,2,3,4,5,6,7,8,9,10,11,12,13,14],[(14,0,false),(13,0,true),(5,0,true)]),(cla 19 47 [ag 6 1,.v true [.an 1 6,.an 1 7,.an 1 8,.an 1 9,.an 1 10,.an 1 11],ag 6 7] [0,1,2,3,4,5,6,7,8,9,10,11,12,13,14,18],[(14,0,false),(13,0,true),(5,0,true)]),(co 20 (.binOp .neq 3 (.tmp 40) (.const (.int .i64 0)) 3) 4 [on 19,.v false [.lit (.int .i64 0)]] [0,1,2,3,4,5,6,7,8,9,10,11,12,13,14,18,19] [],[(14,0,false),(13,0,true),(5,0,true)]),(cla 21 47 [ag 6 1,.v true [.an 1 6,.an 1 7,.an 1 8,.an 1 9,.an 1 10,.an 1 11],ag 6 12] [0,1,2,3,4,5,6,7,8,9,10,11,12,13,14,18,19,20],[(14,0,false),(13,0,true),(5,0,true)]),(co 22 (.binOp .neq 3 (.tmp 48) (.const (.int .i64 0)) 3) 4 [on 21,.v false [.lit (.int .i64 0)]] [0,1,2,3,4,5,6,7,8,9,10,11,12,13,14,18,19,20,21] [],[(14,0,false),(13,0,true),(5,0,true)]),(cla 23 46 [.v true [.an 7 0,.an 7 1,.an 7 2,.an 7 3,.an 7 4,.an 7 5,.an 12 0,.an 12 1,.an 12 2,.an 12 3,.an 12 4,.an 12 5],ag 6 2] [0,1,2,3,4,5,6,7,8,9,10,11,12,13],[(13,0,false),(5,0,true)]),(co 24 (.binOp .add 3 (.tmp 15) (.const (.int .i64 1)) 3) 3 [on 3,.v false [.lit (.int .i64 1)]] [0,1,2,3,4,5,6,7,8,9,10,11,12,13,14,18,19,20,21,22] [],[(22,0,false),(14,0,false),(13,0,true),(5,0,true)]),(co 25 (.binOp .add 3 (.tmp 15) (.const (.int .i64 1)) 3) 3 [on 3,.v false [.lit (.int .i64 1)]] [0,1,2,3,4,5,6,7,8,9,10,11,12,13,23] [],[(13,0,false),(5,0,true)])]) (js:=[.loop false 3 [(3,.v false [.lit (.int .i64 0)])] (List.range 3) [],.test 5 0 (List.range 6) [],.ghost 13 (List.range 13) [(5,0,true)],.ghost 14 (List.range 14) [(13,0,true),(5,0,true)],.test 22 0 [0,1,2,3,4,5,6,7,8,9,10,11,12,13,14,18,19,20,21,22] [(14,0,false),(13,0,true),(5,0,true)],.loop true 3 [(3,on 24)] [0,1,2,3,4,5,6,7,8,9,10,11,12,13,14,18,19,20,21,22,24] [(22,0,false),(14,0,false),(13,0,true),(5,0,true)],.loop true 3 [(3,on 25)] [0,1,2,3,4,5,6,7,8,9,10,11,12,13,23,25] [(13,0,false),(5,0,true)]]) (outs:=[⟨.v false [.lit (.bool false)],(List.range 18),[(14,0,true),(13,0,true),(5,0,true)],[],[]⟩,⟨.v false [.lit (.bool false)],[0,1,2,3,4,5,6,7,8,9,10,11,12,13,14,18,19,20,21,22],[(22,0,true),(14,0,false),(13,0,true),(5,0,true)],[],[]⟩,⟨.v false [.lit (.bool true)],(List.range 6),[(5,0,false)],[],[]⟩]) (nc:=26) (by kernel_rfl)
  (fun k=>⟨fun σ W g h hp hb=>cF W _ a b E (h 1 rfl) (by omega) ba bb,
  fun σ W g h hp hb=>fun ρ o ho _ hv=>⟨_,bK (h 0 rfl).1 ho (D3 hv) ⟨34,by kernel_rfl⟩,rfl⟩,
  fun σ W g h hp hb=>fun ρ o ho _ hv=>⟨_,hr_lt ho ((A0 hv).1.trans (h 3 rfl).1) ((A0 hv).2.trans (h 4 rfl)) rfl rfl,rfl⟩,
  fun σ W g h hp hb=>fun ρ o ho _ hv=>by
   have q:=of_decide_eq_true (E1 (h 5 rfl) (hp 5 0 true rfl))
   obtain ⟨u,h1,h2,h3⟩:=gS (P:=Tryz.prog) (h 0 rfl).1 ho (A0 hv).1 (k) _ rfl (by omega) ((A0 hv).2.trans (h 3 rfl).1)
   exact ⟨u,h1,h2,fun q hq=>⟨0,rfl,h3 q hq⟩⟩,
  fun σ W g h hp hb=>fun ρ o ho _ hv=>cP (h 6 rfl) ho (D3 hv),
  fun σ W g h hp hb=>fun ρ o ho _ hv=>by
   have q:=of_decide_eq_true (E1 (h 5 rfl) (hp 5 0 true rfl))
   exact ⟨_,C5 ho ((A0 hv).1.trans (h 3 rfl).1) (A0 hv).2 (K9 (by omega) (by omega)),rfl⟩,
  fun σ W g h hp hb=>fun ρ o ho _ hv=>⟨_,bK (h 0 rfl).1 ho (D3 hv) ⟨34,by kernel_rfl⟩,rfl⟩,
  fun σ W g h hp hb=>fun ρ o ho _ hv=>by
   have q:=of_decide_eq_true (E1 (h 5 rfl) (hp 5 0 true rfl))
   exact ⟨_,rE ho ((A0 hv).1.trans (h 8 rfl)) ((A0 hv).2.trans (h 9 rfl)) (by omega) (by omega) (by omega),congrArg (Value.int .i64) (by push_cast;rfl)⟩,
  fun σ W g h hp hb=>fun ρ o ho _ hv=>by
   have q:=of_decide_eq_true (E1 (h 5 rfl) (hp 5 0 true rfl))
   obtain ⟨u,h1,h2,h3⟩:=gS (P:=Tryz.prog) (h 0 rfl).1 ho (A0 hv).1 (((k+1)%l.length)) _ rfl (Nat.mod_lt _ (by omega)) ((A0 hv).2.trans (h 10 rfl))
   exact ⟨u,h1,h2,fun q hq=>⟨0,rfl,h3 q hq⟩⟩,
  fun σ W g h hp hb=>fun ρ o ho _ hv=>cP (h 11 rfl) ho (D3 hv),
  fun σ W g h hp hb=>by
   have q:=of_decide_eq_true (E1 (h 5 rfl) (hp 5 0 true rfl))
   have a0:=hl _ (F6 (l:=l) (k:=k) (by omega))
   have a1:=hl _ (F6 (l:=l) (k:=(k+1)%l.length) (Nat.mod_lt _ (by omega)))
   have hh:=C7 W _ _ _ _ (N2 a b) (2*E+2) (gJ (h 7 rfl) (h 12 rfl)) (h 2 rfl) (by omega) (hbm a0.1 (by omega)) (hbm a1.1 (by omega)) bm a0.2 a1.2 (P9 za zb)
   rw [aI za zb,vBx (h 13 rfl) (hp 13 0 true rfl)] at hh
   exact hh.mono fun _ _ ⟨a,g⟩=>⟨_,a,rfl,g⟩,
  fun σ W g h hp hb=>by
   have q:=of_decide_eq_true (E1 (h 5 rfl) (hp 5 0 true rfl))
   have a0:=hl _ (F6 (l:=l) (k:=k) (by omega))
   have a1:=hl _ (F6 (l:=l) (k:=(k+1)%l.length) (Nat.mod_lt _ (by omega)))
   exact (H7 W _ _ _ a b _ E (hs1 (h 1 rfl)) (hs2 (h 1 rfl)) (h 7 rfl) (by omega) ba bb a0.1 za zb a0.2).mono fun _ _ ⟨a,g⟩=>⟨_,a,rfl,g⟩,
  fun σ W g h hp hb=>fun ρ o ho _ hv=>⟨_,N0 true ho ((A0 hv).1.trans (h 16 rfl)) (A0 hv).2 (decide_eq_false (of_decide_eq_true (vBx (h 14 rfl) (hp 14 0 true rfl)))),rfl⟩,
  fun σ W g h hp hb=>by
   have q:=of_decide_eq_true (E1 (h 5 rfl) (hp 5 0 true rfl))
   have a0:=hl _ (F6 (l:=l) (k:=k) (by omega))
   have a1:=hl _ (F6 (l:=l) (k:=(k+1)%l.length) (Nat.mod_lt _ (by omega)))
   have hh:=C7 W _ _ _ _ (N2 a b) (2*E+2) (gJ (h 7 rfl) (h 12 rfl)) (h 2 rfl) (by omega) (hbm a0.1 (by omega)) (hbm a1.1 (by omega)) bm a0.2 a1.2 (P9 za zb)
   rw [aI za zb,vBx (h 13 rfl) (hp 13 0 true rfl)] at hh
   exact hh.mono fun _ _ ⟨a,g⟩=>⟨_,a,rfl,g⟩,
  fun σ W g h hp hb=>by
   have q:=of_decide_eq_true (E1 (h 5 rfl) (hp 5 0 true rfl))
   have a0:=hl _ (F6 (l:=l) (k:=k) (by omega))
   have a1:=hl _ (F6 (l:=l) (k:=(k+1)%l.length) (Nat.mod_lt _ (by omega)))
   exact (H7 W _ _ _ a b _ E (hs1 (h 1 rfl)) (hs2 (h 1 rfl)) (h 7 rfl) (by omega) ba bb a0.1 za zb a0.2).mono fun _ _ ⟨a,g⟩=>⟨_,a,rfl,g⟩,
  fun σ W g h hp hb=>fun ρ o ho _ hv=>by
   have q:=of_decide_eq_false (vBx (h 14 rfl) (hp 14 0 false rfl))
   exact ⟨_,N0 false ho ((A0 hv).1.trans (h 19 rfl)) (A0 hv).2 (decide_eq_true (by omega)),rfl⟩,
  fun σ W g h hp hb=>by
   have q:=of_decide_eq_true (E1 (h 5 rfl) (hp 5 0 true rfl))
   have a0:=hl _ (F6 (l:=l) (k:=k) (by omega))
   have a1:=hl _ (F6 (l:=l) (k:=(k+1)%l.length) (Nat.mod_lt _ (by omega)))
   exact (H7 W _ _ _ a b _ E (hs1 (h 1 rfl)) (hs2 (h 1 rfl)) (h 12 rfl) (by omega) ba bb a1.1 za zb a1.2).mono fun _ _ ⟨a,g⟩=>⟨_,a,rfl,g⟩,
  fun σ W g h hp hb=>fun ρ o ho _ hv=>⟨_,N0 _ ho ((A0 hv).1.trans (h 21 rfl)) (A0 hv).2 (by by_cases e:rsg (A4 (rp a) (rp b) (rp (hg l ((k+1)%l.length))))=0<;>simp [e]),rfl⟩,
  fun σ W g h hp hb=>by
   have q:=of_decide_eq_true (E1 (h 5 rfl) (hp 5 0 true rfl))
   have a0:=hl _ (F6 (l:=l) (k:=k) (by omega))
   have a1:=hl _ (F6 (l:=l) (k:=(k+1)%l.length) (Nat.mod_lt _ (by omega)))
   have hh:=C7 W _ _ _ _ (N2 a b) (2*E+2) (gJ (h 7 rfl) (h 12 rfl)) (h 2 rfl) (by omega) (hbm a0.1 (by omega)) (hbm a1.1 (by omega)) bm a0.2 a1.2 (P9 za zb)
   rw [aI za zb,vBx (h 13 rfl) (hp 13 0 false rfl)] at hh
   exact hh.mono fun _ _ ⟨a,g⟩=>⟨_,a,rfl,g⟩,
  fun σ W g h hp hb=>fun ρ o ho _ hv=>by
   have q:=of_decide_eq_true (E1 (h 5 rfl) (hp 5 0 true rfl))
   exact ⟨_,C5 ho ((A0 hv).1.trans (h 3 rfl).1) (A0 hv).2 (K9 (by omega) (by omega)),rfl⟩,
  fun σ W g h hp hb=>fun ρ o ho _ hv=>by
   have q:=of_decide_eq_true (E1 (h 5 rfl) (hp 5 0 true rfl))
   exact ⟨_,C5 ho ((A0 hv).1.trans (h 3 rfl).1) (A0 hv).2 (K9 (by omega) (by omega)),rfl⟩,
  trivial⟩)
  (fun k=>⟨fun σ W g h hp=>⟨0,(fun e=>nomatch e),⟨rfl,fun m hm=>(if_neg (by omega)).trans (if_neg (by omega)).symm⟩,⟨rfl,Nat.zero_le _,fun i hi=>absurd hi (Nat.not_lt_zero i)⟩,trivial⟩,
  fun σ W g h hp=>⟨_,h 5 rfl⟩,
  fun σ W g h hp=>⟨rfl,_,rfl⟩,
  fun σ W g h hp=>⟨rfl,_,rfl⟩,
  fun σ W g h hp=>⟨_,h 22 rfl⟩,
  fun σ W g h hp=>by
   have q:=of_decide_eq_true (E1 (h 5 rfl) (hp 5 0 true rfl))
   have hc:=(h 3 rfl).2
   refine ⟨k+1,fun _=>by show (if 3=3 then l.length-(k+1) else 0)<(if 3=3 then l.length-k else 0);rw [if_pos rfl,if_pos rfl];omega,⟨rfl,fun m hm=>(if_neg (by omega)).trans (if_neg (by omega)).symm⟩,⟨(h 24 rfl).trans (by push_cast;rfl),by omega, ?_⟩,trivial⟩
   intro i hi
   by_cases e:i=k
   · rw [e, <- aP l k (by omega), <- bL l k (by omega)]
     exact .inr ⟨rsg_zero.1 (by have:=of_decide_eq_false (vBx (h 14 rfl) (hp 14 0 false rfl));omega),rsg_zero.1 (by have:=of_decide_eq_false (vBx (h 22 rfl) (hp 22 0 false rfl));omega)⟩
   · exact hc.2 i (by omega),
  fun σ W g h hp=>by
   have q:=of_decide_eq_true (E1 (h 5 rfl) (hp 5 0 true rfl))
   have hc:=(h 3 rfl).2
   refine ⟨k+1,fun _=>by show (if 3=3 then l.length-(k+1) else 0)<(if 3=3 then l.length-k else 0);rw [if_pos rfl,if_pos rfl];omega,⟨rfl,fun m hm=>(if_neg (by omega)).trans (if_neg (by omega)).symm⟩,⟨(h 25 rfl).trans (by push_cast;rfl),by omega, ?_⟩,trivial⟩
   intro i hi
   by_cases e:i=k
   · rw [e, <- aP l k (by omega), <- bL l k (by omega)]
     exact .inl (decNo (vBx (h 13 rfl) (hp 13 0 false rfl)))
   · exact hc.2 i (by omega),
  trivial⟩)
  (fun k hk=>⟨fun τ W g h hp hb=>by
   have q:=of_decide_eq_true (E1 (h 5 rfl) (hp 5 0 true rfl))
   have hin:=jI (vBx (h 13 rfl) (hp 13 0 true rfl))
   have hs:=of_decide_eq_true (vBx (h 14 rfl) (hp 14 0 true rfl))
   have hx:¬ U9 (l.map rp) (rp a) (rp b):=by
    intro hf
    have:=hf k (by rw [List.length_map];exact q)
    rw [<- aP l k (by omega), <- bL l k (by omega)] at this
    rcases this with e | ⟨e1,e2⟩
    · exact e hin
    · exact hs (rsg_zero.2 e1)
   exact ⟨by rw [I1 hx];rfl,g⟩,
  fun τ W g h hp hb=>by
   have q:=of_decide_eq_true (E1 (h 5 rfl) (hp 5 0 true rfl))
   have hin:=jI (vBx (h 13 rfl) (hp 13 0 true rfl))
   have hs:=of_decide_eq_true (vBx (h 22 rfl) (hp 22 0 true rfl))
   have hx:¬ U9 (l.map rp) (rp a) (rp b):=by
    intro hf
    have:=hf k (by rw [List.length_map];exact q)
    rw [<- aP l k (by omega), <- bL l k (by omega)] at this
    rcases this with e | ⟨e1,e2⟩
    · exact e hin
    · exact hs (rsg_zero.2 e2)
   exact ⟨by rw [I1 hx];rfl,g⟩,
  fun τ W g h hp hb=>by
   have q:=of_decide_eq_false (E1 (h 5 rfl) (hp 5 0 false rfl))
   have hc:=(h 3 rfl).2
   have hx:U9 (l.map rp) (rp a) (rp b):=by
    intro i hi
    rw [List.length_map] at hi
    exact hc.2 i (by omega)
   exact ⟨by rw [O0 hx];rfl,g⟩,
  trivial⟩)
end Go.Proofs.YtamdnbbgpacfkaaGreatDoor
