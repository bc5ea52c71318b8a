/- What the laws lean on, part 20. -/
import Derived.Below
import Derived.BigCall
import Derived.BigQuiet
import Derived.BigRegion
import Derived.Deep.AppendLies
import Derived.Deep.CutBlock
import Derived.Deep.CutRange
import Derived.Deep.DeepCutAuto
import Derived.Deep.DeepHandedRow
import Derived.Deep.LoopGhost
import Derived.Deep.MidRow
import Derived.Deep.QuietTactic
import Derived.Deep.RegionHeld3
import Derived.Deep.RegionLaw
import Derived.Deep.WholeRow
import Derived.Laws.AppendOwn
import Derived.Laws.Concat
import Derived.Laws.CopyOwn
import Derived.Laws.Externs
import Derived.Laws.IdiomStrings
import Derived.Lib.BitFns
import Derived.Lib.Bytealg
import Derived.Lib.Hide
import Derived.Lib.Slices
import Derived.Lib.Small
import Derived.Lib.Strings
import Derived.Lib.Walk
import Derived.LoopIn
import Derived.LoopN
import Derived.LoopNIn
import Derived.Maps.AppendAt
import Derived.OpenShut
import Derived.OrdersHeld
import Derived.OrdersIn
import Derived.Outline
import Derived.OwnWalk
import Derived.OwnWalkIn
import Derived.ProofKit
import Derived.RangeFuncBound
import Derived.RangeFuncCalls
import Derived.RangeFuncLeaves
import Derived.RangeFuncNested
import Derived.RangeFuncOwn
import Derived.Shelf.Abstract
import Derived.Shelf.Bits.Mul64
import Derived.Shelf.RegionOpen
import Derived.Shelf.Spec.TrailingZeros
import Derived.StillTailTactics
import Derived.TacticsInMore
import Derived.WalkKit
import Derived.WalkLawsBesides
import Derived.WalkSpells
import Derived.Test.YtamdnbbgpacfkaaDoorProg
import Derived.Test.YtamdnbbgpacfkaaDoorRows
import Derived.Test.YtamdnbbgpacfkaaDoorMe16
set_option linter.unusedVariables false
set_option linter.unusedSimpArgs false
set_option maxRecDepth 100000
namespace Go.Proofs.YtamdnbbgpacfkaaDoor.PM
theorem pth_back (f:Pq->Pq->Int):∀ l,H5 f l.reverse=H5 (fun a b=>f b a) l
 | []=>rfl
 | [a]=>rfl
 | a :: b :: l=>by
   rw [List.reverse_cons,List.reverse_cons,List.append_assoc]
   show H5 f (l.reverse++[b,a])=f b a+H5 (fun a b=>f b a) (b :: l)
   rw [lF, <- pth_back f (b :: l),List.reverse_cons];omega
theorem rZ (f:Pq->Pq->Int) (a:Pq) (l:List Pq):cyL f (l++[a])=cyL f (a :: l):=by
 cases l with
 | nil=>rfl
 | cons b u=>
   show H5 f (b :: u++[a]++[b])=H5 f (a :: (b :: u)++[a])
   rw [List.append_assoc]
   show H5 f (b :: u++[a,b])=f a b+H5 f (b :: u++[a])
   rw [lF];omega
theorem cy_back (f:Pq->Pq->Int):∀ l,cyL f l.reverse=cyL (fun a b=>f b a) l
 | []=>rfl
 | a :: l=>by
   rw [List.reverse_cons,rZ]
   show H5 f (a :: l.reverse++[a])=H5 (fun a b=>f b a) (a :: l++[a])
   rw [<- pth_back];simp
theorem cy_twice (f:Pq->Pq->Int) (l:List Pq):cyL f (l++l)=2*cyL f l:=by
 cases l with
 | nil=>rfl
 | cons a l=>
   show H5 f (a :: (l++a :: l)++[a])=2*H5 f (a :: l++[a])
   have e:a :: (l++a :: l)++[a]=(a :: l)++a :: (l++[a]):=by simp
   rw [e,R2];show _+H5 f (a :: l++[a])=_;omega
theorem pth_neg (f:Pq->Pq->Int) (h:∀ a b,f b a = - f a b):∀ l,H5 (fun a b=>f b a) l = - H5 f l
 | []=>rfl
 | [a]=>rfl
 | a :: b :: l=>by
   show f b a+H5 (fun a b=>f b a) (b :: l) = -(f a b+H5 f (b :: l))
   rw [pth_neg f h (b :: l),h];omega
theorem cy_neg (f:Pq->Pq->Int) (h:∀ a b,f b a = - f a b) (l:List Pq):cyL f l.reverse = - cyL f l:=by
 rw [cy_back]
 cases l with
 | nil=>rfl
 | cons a l=>exact pth_neg f h _
theorem cy_same (f:Pq->Pq->Int) (h:∀ a b,f b a=f a b) (l:List Pq):cyL f l.reverse=cyL f l:=by
 rw [cy_back,show (fun a b=>f b a)=f from funext fun a=>funext fun b=>h a b]
noncomputable def isS (p a b:Pq):Int:=@ite _ (InS a b p) (Classical.propDecidable _) 1 0
theorem isS_swap (p a b:Pq):isS p b a=isS p a b:=by
 unfold isS
 by_cases h:InS a b p
 · rw [if_pos h,if_pos (ins_back.1 h)]
 · rw [if_neg h,if_neg (fun e=>h (ins_back.1 e))]
theorem isS_nn (p a b:Pq) : 0<=isS p a b:=by unfold isS;split<;>omega
theorem upS_nn (p:Pq) (l:List Pq):∀ k,0<=upS (isS p) l k
 | 0=>by show (0:Int)<=0;omega
 | k+1=>by have:=upS_nn p l k;have:=isS_nn p (pt0 l k) (nxt l k);show 0<=upS (isS p) l k+_;omega
theorem upS_pos (p:Pq) (l:List Pq):∀ k,0<upS (isS p) l k ↔ ∃ i,i<k/\InS (pt0 l i) (nxt l i) p
 | 0=>by
   constructor
   · intro h;exact absurd h (by show ¬ (0:Int)<0;omega)
   · rintro ⟨i,h,_⟩;omega
 | k+1=>by
   have ih:=upS_pos p l k
   have h0:=upS_nn p l k
   have hs:upS (isS p) l (k+1)=upS (isS p) l k+isS p (pt0 l k) (nxt l k):=rfl
   constructor
   · intro h
     by_cases h1:InS (pt0 l k) (nxt l k) p
     · exact ⟨k,by omega,h1⟩
     · have e:isS p (pt0 l k) (nxt l k)=0:=by unfold isS;rw [if_neg h1]
       obtain ⟨i,hi,h2⟩:=ih.1 (by omega)
       exact ⟨i,by omega,h2⟩
   · rintro ⟨i,hi,h1⟩
     have:=isS_nn p (pt0 l k) (nxt l k)
     by_cases h2:i=k
     · subst h2
       have e:isS p (pt0 l i) (nxt l i)=1:=by unfold isS;rw [if_pos h1]
       omega
     · have:=ih.2 ⟨i,by omega,h1⟩;omega
theorem cG (l:List Pq) (p:Pq):OnR l p ↔ 0<cyL (isS p) l:=by rw [<- qT];exact (upS_pos p l l.length).symm
theorem onr_back (l:List Pq) (p:Pq):OnR l.reverse p ↔ OnR l p:=by rw [cG,cG,cy_same _ (isS_swap p)]
theorem onr_turn (a:Pq) (l:List Pq) (p:Pq):OnR (l++[a]) p ↔ OnR (a :: l) p:=by rw [cG,cG,rZ]
theorem pE (l:List Pq) (p:Pq):OnR (l++l) p ↔ OnR l p:=by rw [cG,cG,cy_twice];omega
theorem winds_back (l:List Pq) (p:Pq):S3 l.reverse p = - S3 l p:=cy_neg _ (nE _ _) l
theorem winds_turn (a:Pq) (l:List Pq) (p:Pq):S3 (l++[a]) p=S3 (a :: l) p:=rZ _ a l
theorem winds_twice (l:List Pq) (p:Pq):S3 (l++l) p=2*S3 l p:=cy_twice _ l
end Go.Proofs.YtamdnbbgpacfkaaDoor.PM
namespace Go.Proofs.YtamdnbbgpacfkaaDoor
open Go.RowKit Mat Ex PM
theorem rem_sm {P:Program} {ρ : Operand->Value} {o:Oper} {t t':TypeId} {x y:Operand} {a k:Int} {W:World} (ho:o.op = .binOp .rem t x y t') (hx : ρ x = .int .i64 a) (hy : ρ y = .int .i64 k) (h0 : 0<=a) (h1:a<=1000) (hk : 0<k):(execOp ρ o).run P W = .ok (.value (.int .i64 (a%k))) W:=by
 have hm:a.tmod k=a%k:=Int.tmod_eq_emod_of_nonneg h0
 have h2 : 0<=a%k:=Int.emod_nonneg _ (by omega)
 have h3:a%k<=a:=by rw [<- hm,Int.tmod_eq_emod_of_nonneg h0];have:=Int.emod_add_mul_ediv a k;have h4 : 0<=k*(a / k):=Int.mul_nonneg (by omega) (Int.ediv_nonneg h0 (by omega));omega
 have hg:eqGuard .rem t x y (.int .i64 a) (.int .i64 k)=pure ():=by unfold eqGuard;rfl
 have hb:binOp .rem t (.int .i64 a) (.int .i64 k)=pure (.int .i64 (a%k)):=by
  show Op.intDiv .rem .i64 _ k=_
  unfold Op.intDiv
  rw [if_neg (by omega),hm]
 simp only [execOp,ho,hx,hy,hg,hb,Sem.run_bind,Sem.run_pure,Result.andThen_ok]
theorem gl_rev (l:List G2):gl l.reverse=(gl l).reverse:=by simp [gl]
theorem gl_app (a b:List G2):gl (a++b)=gl a++gl b:=by simp [gl]
theorem T8 {p q:Prop} (h:p ↔ q):dec p=dec q:=by rw [propext h]
theorem arN_back (l:List Pq) (p:Pq):arN l.reverse p = - arN l p:=by
 unfold arN;rw [T8 (onr_back l p),winds_back]
 split<;>simp
theorem arN_turn (a:Pq) (l:List Pq) (p:Pq):arN (l++[a]) p=arN (a :: l) p:=by
 unfold arN;rw [T8 (onr_turn a l p),winds_turn]
theorem arN_twice (l:List Pq) (p:Pq):arN (l++l) p=2*arN l p:=by
 unfold arN;rw [T8 (pE l p),winds_twice]
 split<;>simp
def trn (L:List G2) (k:Nat):List G2:=(List.range k).map fun i=>gg L ((i+1)%L.length)
theorem qU (L:List G2) (k:Nat):(trn L k).length=k:=by simp [trn]
theorem trn_next (L:List G2) (k:Nat):trn L (k+1)=trn L k++[gg L ((k+1)%L.length)]:=by simp [trn,List.range_succ]
theorem back_next {L:List G2} {k:Nat} (h:k<L.length):(L.take (k+1)).reverse=gg L k :: (L.take k).reverse:=by rw [aF h];simp
theorem trn_full (x:G2) (l:List G2):trn (x :: l) (l.length+1)=l++[x]:=by
 refine List.ext_getElem (by simp [trn]) fun i h1 h2=>?_
 have hi:i<l.length+1:=by simpa [trn] using h1
 simp only [trn,List.getElem_map,List.getElem_range,List.length_cons]
 rcases Nat.lt_or_ge i l.length with h | h
 · rw [Nat.mod_eq_of_lt (by omega),List.getElem_append_left h]
   simp [gg,List.getD,h]
 · obtain rfl:i=l.length:=by omega
   rw [Nat.mod_self,List.getElem_append_right (Nat.le_refl _)]
   simp [gg]
theorem ar_trn (L:List G2) (p:Pq):arN (gl (trn L L.length)) p=arN (gl L) p/\dec (OnR (gl (trn L L.length)) p)=dec (OnR (gl L) p):=by
 cases L with
 | nil=>exact ⟨rfl,rfl⟩
 | cons x l=>
   have h:gl (trn (x :: l) (x :: l).length)=gl l++[B0 x.1 x.2]:=by rw [List.length_cons,trn_full,gl_app];rfl
   rw [h]
   exact ⟨arN_turn _ _ _,T8 (onr_turn _ _ _)⟩
theorem ar_back (L:List G2) (p:Pq):arN (gl L.reverse) p = - arN (gl L) p/\dec (OnR (gl L.reverse) p)=dec (OnR (gl L) p):=by
 rw [gl_rev]
 exact ⟨arN_back _ _,T8 (onr_back _ _)⟩
theorem ar_twice (L:List G2) (p:Pq):arN (gl (L++L)) p=2*arN (gl L) p/\dec (OnR (gl (L++L)) p)=dec (OnR (gl L) p):=by
 rw [gl_app]
 exact ⟨arN_twice _ _,T8 (pE _ _)⟩
theorem ar1 {n:Int} {b:Bool} {u v:Value} {W:World} : (sAr n b).F (.tuple #[u,v]) W->u = .int .i64 n:=fun h=>by cases h;rfl
theorem ar2 {n:Int} {b:Bool} {u v:Value} {W:World} : (sAr n b).F (.tuple #[u,v]) W->v = .bool b:=fun h=>by cases h;rfl
section
variable {ρ : Operand->Value} {o:Oper} {W:World}
theorem bin_run {op:BinOp} {t t':TypeId} {x y:Operand} {u v r:Value} (ho:o.op = .binOp op t x y t') (hx : ρ x=u) (hy : ρ y=v) (hg:(eqGuard op t x y u v).run Tryd.prog W = .ok () W) (hr:(binOp op t u v).run Tryd.prog W = .ok r W):(execOp ρ o).run Tryd.prog W = .ok (.value r) W:=by
 subst hx hy
 simp only [execOp,ho,Sem.run_bind,hg,Result.andThen_ok,hr];rfl
theorem mW {t t':TypeId} {x y:Operand} {b:Bool} (ho:o.op = .binOp .eql t x y t') (ht:Tryd.prog.underlying t=some .bool) (hx : ρ x = .bool b) (hy : ρ y = .bool b):(execOp ρ o).run Tryd.prog W = .ok (.value (.bool true)) W:=by
 have he:(Op.equalIn 10000 t (.bool b) (.bool b)).run Tryd.prog W = .ok (b == b) W:=run_equalIn_bool' W 9999 t b b ht
 refine bin_run ho hx hy (by unfold eqGuard;rfl) ?_
 have hb:∀ (m:Sem Bool),m.run Tryd.prog W = .ok (b == b) W->(m >>= fun r=>pure (Value.bool r)).run Tryd.prog W = .ok (.bool true) W:=fun m hm=>by
  simp [Sem.run_bind,hm]
 exact hb _ he
end
theorem in_trn {L:List G2} {k:Nat} (hk:k<=L.length) (hL:∀ d ∈ L,eD d):∀ d ∈ trn L k,eD d:=by
 intro d hd
 obtain ⟨i,hi,rfl⟩:=List.mem_map.1 hd
 have:=List.mem_range.1 hi
 exact hL _ (rQ (Nat.mod_lt _ (by omega)))
theorem nneg_told {P:Program} {ρ : Operand->Value} {o:Oper} {t:TypeId} {x:Operand} {z:Int} {W:World} (ho:o.op = .unOp .neg t x) (hx : ρ x = .int .i64 z) (hz : -1000<=z/\z<=1000):(execOp ρ o).run P W = .ok (.value (.int .i64 (-z))) W:=by
 have hw:IntKind.i64.wrap (-z) = -z:=w_sm (by omega) (by omega)
 have:Op.unary .neg (.int .i64 z)=Sem.pure (.int .i64 (-z)):=by show Sem.pure (Value.int .i64 (IntKind.i64.wrap (0-z)))=_;rw [Int.zero_sub,hw]
 simp only [execOp,ho,hx,this];rfl
theorem mul2_sm {t:TypeId} {z:Int} (hz : -500<=z/\z<=500):binOp .mul t (.int .i64 2) (.int .i64 z) = .pure (.int .i64 (2*z)):=by
 show Sem.pure (Value.int .i64 (IntKind.i64.wrap (2*z)))=_
 rw [w_sm (by omega) (by omega)]
theorem nW (w:World) (va:Value) (l:List G2) (x0 y0 d:Int) (Ha:GsV w.heap.size w va l) (hIn:∀ d ∈ l,eD d) (hs:Small (x0,y0,d)) (hTab:Tab w) :
 Calls Tryd.prog 4 #[va,.agg #[.int .i64 x0,.int .i64 y0,.int .i64 d]] w (fun e w'=>e = .returned (.bool true)/\w.grownBy w' none):=by
 obtain ⟨L,hLe⟩:∃ L,l.take 30=L:=⟨_,rfl⟩
 have hL30:L.length<=30:=by rw [<- hLe];simp;omega
 have hI:∀ d ∈ L,eD d:=fun d hd=>hIn d (List.mem_of_mem_take (hLe ▸ hd))
 refine G6 B3 Tryd.func4 [sGe w.heap.size va l,sDt x0 y0 d] (fun x:Nat × Option Nat × Option Nat=>[oA w.heap.size va L,sZc (x.1<=L.length) (x.1:Int),sOa false kG w.heap.size (fun o=>o=x.2.1) (L.take x.1).reverse,sOa false kG w.heap.size (fun o=>o=x.2.2) (trn L x.1),sZ L.length,sC (.bool (decide (x.1<L.length))) rfl,sGa w.heap.size (gg L x.1),sGp (gg L x.1),sOa true kG w.heap.size (fun o=>o≠none/\o≠x.2.1/\o≠x.2.2) [gg L x.1],sOa false kG w.heap.size (fun o=>o≠none/\o≠x.2.2) (gg L x.1 :: (L.take x.1).reverse),sZ ((x.1:Int)+1),sZ L.length,sZ (((x.1+1)%L.length:Nat):Int),sGa w.heap.size (gg L ((x.1+1)%L.length)),sGp (gg L ((x.1+1)%L.length)),sOa false kG w.heap.size (fun _=>True) (trn L (x.1+1)),sZ ((x.1:Int)+1),sOa false kG w.heap.size (fun o=>o≠none/\o≠x.2.1/\o≠x.2.2) [],sOa false kG w.heap.size (fun o=>o≠none/\o≠x.2.1/\o≠x.2.2) L,sOa false kG w.heap.size (fun _=>True) (L++L),sPt (lat x0 y0 d),sAr (arN (gl L) (lat x0 y0 d)) (dec (OnR (gl L) (lat x0 y0 d))),sAr (arN (gl (L.take x.1).reverse) (lat x0 y0 d)) (dec (OnR (gl (L.take x.1).reverse) (lat x0 y0 d))),sAr (arN (gl (trn L x.1)) (lat x0 y0 d)) (dec (OnR (gl (trn L x.1)) (lat x0 y0 d))),sAr (arN (gl (L++L)) (lat x0 y0 d)) (dec (OnR (gl (L++L)) (lat x0 y0 d))),sV (.bool true),sZ (- arN (gl L) (lat x0 y0 d)),sV (.bool true),sV (.bool true),sZ (2*arN (gl L) (lat x0 y0 d)),sV (.bool true),sV (.bool true),sV (.bool true),sV (.bool true)]) (fun m x=>if m=3 then L.length-x.1 else 0) ((0,none,none)) (fun _=>rfl) [1000000] [some [[.t 23,.t 24,.t 25,.t 26,.t 27,.t 28,.t 29,.t 30,.t 31,.t 32,.t 33,.t 34,.t 35,.t 36,.t 37,.t 38,.t 39,.t 40,.t 41,.t 42,.t 43,.t 44,.t 45,.t 46],[.t 7],[.t 5],[.t 6]]] (.cons ⟨rfl,Ha⟩ (.cons rfl .nil)) (rs:=[(cl 2 13 [on 0],[]),(co 6 (.call ⟨.builtin .len, #[(.tmp 24)], #[43]⟩) 3 [on 2] [0,1,2,3,4,5] [],[]),(co 7 (.binOp .lss 3 (.tmp 23) (.tmp 25) 3) 4 [on 3,on 6] [0,1,2,3,4,5,6] [],[]),(co 8 (.indexAddr 43 (.tmp 29) (.tmp 30)) 0 [on 2,on 3] [0,1,2,3,4,5,6,7] [],[(7,0,true)]),(co 9 (.load 48 (.tmp 31)) 48 [on 8] [0,1,2,3,4,5,6,7,8] [],[(7,0,true)]),(cog 10 (.buildSlice 43 1 #[(0,Operand.tmp 32)]) 43 [ag 2 9] [0,1,2,3,4,5,6,7,8,9] [],[(7,0,true)]),(cow 11 (.call ⟨.builtin .append, #[(.tmp 33),(.tmp 34)], #[43,43]⟩) 43 [on 10,on 4] [0,1,2,3,4,5,6,7,8,9,10] [],[(7,0,true)]),(co 12 (.binOp .add 3 (.tmp 38) (.const (.int .i64 1)) 3) 3 [on 3,.v false [.lit (.int .i64 1)]] [0,1,2,3,4,5,6,7,8,9,10,11] [],[(7,0,true)]),(co 13 (.call ⟨.builtin .len, #[(.tmp 40)], #[43]⟩) 3 [on 2] [0,1,2,3,4,5,6,7,8,9,10,11] [],[(7,0,true)]),(co 14 (.binOp .rem 3 (.tmp 39) (.tmp 41) 3) 3 [on 12,on 13] [0,1,2,3,4,5,6,7,8,9,10,11,12,13] [],[(7,0,true)]),(co 15 (.indexAddr 43 (.tmp 37) (.tmp 42)) 0 [on 2,on 14] [0,1,2,3,4,5,6,7,8,9,10,11,12,13,14] [],[(7,0,true)]),(co 16 (.load 48 (.tmp 43)) 48 [on 15] [0,1,2,3,4,5,6,7,8,9,10,11,12,13,14,15] [],[(7,0,true)]),(cow 17 (.call ⟨.builtin .append, #[(.tmp 36),(.tmp 45)], #[43,43]⟩) 43 [on 5,.v false [.row 1 0 1 1]] [0,1,2,3,4,5,6,7,8,9,10,11,12,13,14,15,16] [(1,48,[.an 16 0,.an 16 1])],[(7,0,true)]),(co 18 (.binOp .add 3 (.tmp 27) (.const (.int .i64 1)) 3) 3 [on 3,.v false [.lit (.int .i64 1)]] [0,1,2,3,4,5,6,7,8,9,10,11,12,13,14,15,16,17] [],[(7,0,true)]),(cog 19 (.buildSlice 43 0 #[]) 43 [] [0,1,2,3,4,5,6,7] [],[(7,0,false)]),(cow 20 (.call ⟨.builtin .append, #[(.tmp 47),(.tmp 48)], #[43,43]⟩) 43 [on 19,on 2] [0,1,2,3,4,5,6,7,19] [],[(7,0,false)]),(cow 21 (.call ⟨.builtin .append, #[(.tmp 49),(.tmp 50)], #[43,43]⟩) 43 [on 20,on 2] [0,1,2,3,4,5,6,7,19,20] [],[(7,0,false)]),(cla 22 6 [ag 3 1] [0,1,2,3,4,5,6,7,19,20,21],[(7,0,false)]),(cla 23 14 [on 2,ag 8 22] [0,1,2,3,4,5,6,7,19,20,21,22],[(7,0,false)]),(cla 24 14 [on 4,ag 8 22] [0,1,2,3,4,5,6,7,19,20,21,22,23],[(7,0,false)]),(cla 25 14 [on 5,ag 8 22] [0,1,2,3,4,5,6,7,19,20,21,22,23,24],[(7,0,false)]),(cla 26 14 [on 21,ag 8 22] [0,1,2,3,4,5,6,7,19,20,21,22,23,24,25],[(7,0,false)]),(cla 27 15 [] [0,1,2,3,4,5,6,7,19,20,21,22,23,24,25,26],[(7,0,false)]),(co 28 (.unOp .neg 3 (.tmp 81)) 3 [on 23] [0,1,2,3,4,5,6,7,19,20,21,22,23,24,25,26,27] [],[(7,0,false)]),(co 29 (.binOp .eql 3 (.tmp 80) (.tmp 82) 3) 4 [on 24,on 28] [0,1,2,3,4,5,6,7,19,20,21,22,23,24,25,26,27,28] [],[(7,0,false)]),(co 30 (.binOp .eql 3 (.tmp 86) (.tmp 87) 3) 4 [on 25,on 23] [0,1,2,3,4,5,6,7,19,20,21,22,23,24,25,26,27,28,29] [],[(7,0,false)]),(co 31 (.binOp .mul 3 (.const (.int .i64 2)) (.tmp 92) 3) 3 [.v false [.lit (.int .i64 2)],on 23] [0,1,2,3,4,5,6,7,19,20,21,22,23,24,25,26,27,28,29,30] [],[(7,0,false)]),(co 32 (.binOp .eql 3 (.tmp 91) (.tmp 93) 3) 4 [on 26,on 31] [0,1,2,3,4,5,6,7,19,20,21,22,23,24,25,26,27,28,29,30,31] [],[(7,0,false)]),(co 33 (.binOp .eql 4 (.tmp 97) (.tmp 98) 4) 4 [.v false [.an 24 1],.v false [.an 23 1]] [0,1,2,3,4,5,6,7,19,20,21,22,23,24,25,26,27,28,29,30,31,32] [],[(7,0,false)]),(co 34 (.binOp .eql 4 (.tmp 102) (.tmp 103) 4) 4 [.v false [.an 25 1],.v false [.an 23 1]] [0,1,2,3,4,5,6,7,19,20,21,22,23,24,25,26,27,28,29,30,31,32,33] [],[(7,0,false)]),(co 35 (.binOp .eql 4 (.tmp 107) (.tmp 108) 4) 4 [.v false [.an 26 1],.v false [.an 23 1]] [0,1,2,3,4,5,6,7,19,20,21,22,23,24,25,26,27,28,29,30,31,32,33,34] [],[(7,0,false)])]) (js:=[.loop false 3 [(3,.v false [.lit (.int .i64 0)]),(4,.v false [.lit (.slice none 0 0)]),(5,.v false [.lit (.slice none 0 0)])] (List.range 3) [],.test 7 0 (List.range 8) [],.loop true 3 [(3,on 18),(4,on 11),(5,on 17)] (List.range 19) [(7,0,true)]]) (outs:=[⟨.v false [.lit (.bool true)],[0,1,2,3,4,5,6,7,19,20,21,22,23,24,25,26,27,28,29,30,31,32,33,34,35],[(7,0,false)],[],[]⟩]) (nc:=36) (by kernel_rfl)
  (fun x=>⟨fun σ W g h hp hb=>by
   have e : σ.an 0 0=va:=(h 0 rfl).1
   have h0:GsV w.heap.size W (σ.an 0 0) l:=(h 0 rfl).2
   rw [e] at h0
   show Calls _ _ #[σ.an 0 0] W _
   rw [e, <- hLe]
   exact oN g.size (fun q hq=>⟨0,rfl,by show fpS (σ.an 0 0) q;rw [e];exact hq⟩) (fun q hq=>(h0.block hq).1) (T7 W va l (h0.up g.size) hIn),
  fun σ W g h hp hb=>fun ρ o ho _ hv=>⟨_,J8 (L5 (h 2 rfl)) ho (B2 hv) ⟨48,by kernel_rfl⟩,rfl⟩,
  fun σ W g h hp hb=>fun ρ o ho _ hv=>⟨_,hr_lt ho ((A1 hv).1.trans (h 3 rfl).1) ((A1 hv).2.trans (h 6 rfl)) rfl rfl,rfl⟩,
  fun σ W g h hp hb=>fun ρ o ho _ hv=>by
   have q:x.1<L.length:=of_decide_eq_true (F0 (h 7 rfl) (hp 7 0 true rfl))
   obtain ⟨u,h1,h2,h3⟩:=lX (L5 (h 2 rfl)) ho (A1 hv).1 x.1 q ((A1 hv).2.trans (h 3 rfl).1)
   exact ⟨u,h1,h2,fun q hq=>⟨2,rfl,⟨_,_,rfl,.inl (h3 q hq)⟩⟩⟩,
  fun σ W g h hp hb=>fun ρ o ho _ hv=>rO (h 8 rfl) ho (B2 hv),
  fun σ W g h hp hb=>fun ρ o ho _ hv=>aR (by
   obtain ⟨v,W2,r1,r2,r3,r4⟩:=kT kG (W:=W) (d:=gg L x.1) (by kernel_rfl) J1 (by kernel_rfl) (by decide) (by decide) g.size ho ((B2 hv).trans (h 9 rfl)) rfl (M0 (W:=W) rfl) (fun _ _=>rfl)
   refine ⟨v,W2,r1,r2,⟨r3, ?_, ?_, ?_⟩,fun q hq=>by have hq:v.ownBlock=some q:=hq;rw [r4] at hq;cases hq;exact Nat.le_refl _⟩<;>rw [r4]
   · exact fun e=>nomatch e
   · exact fun e=>by have e4:(σ.an 4 0).ownBlock=x.2.1:=(h 4 rfl).2;exact absurd ((h 4 rfl).1.inb (e4.trans e.symm)).1 (Nat.lt_irrefl _)
   · exact fun e=>by have e4:(σ.an 5 0).ownBlock=x.2.2:=(h 5 rfl).2;exact absurd ((h 5 rfl).1.inb (e4.trans e.symm)).1 (Nat.lt_irrefl _)),
  fun σ W g h hp hb=>fun ρ o ho _ hv=>aV kG (b0:=true) (A0:=(fun o=>o≠none/\o≠x.2.1/\o≠x.2.2)) (l:=[gg L x.1]) (A2:=(fun o=>o≠none/\o≠x.2.2)) (l2:=(gg L x.1 :: (L.take x.1).reverse)) g (m0:=10) rfl rfl rfl rfl (h 10 rfl) (fun o ho=>by
        rcases ho with rfl | rfl
        · exact ⟨(h 10 rfl).2.1,(h 10 rfl).2.2.2⟩
        · exact ⟨(fun e=>nomatch e),fun e=>by have e4:(σ.an 5 0).ownBlock=x.2.2:=(h 5 rfl).2;exact absurd ((h 5 rfl).1.inb (e4.trans e.symm)).1 (Nat.lt_irrefl _)⟩) (J7 kG (by kernel_rfl) J1 (by decide) (fun W cs d=>M0) (h 10 rfl).1 (h 4 rfl).1.rwV (by simp;omega) g.size ho (A1 hv).1 (A1 hv).2)
      (fun m hm hne hr=>by
      match m,hm,hne,hr with
      | 0,_,_,_=>exact .inl ⟨h 0 rfl,fun q hq=>C0 (h 10 rfl).1 (GsV.block (h 0 rfl).2 hq)⟩
      | 1,_,_,hr=>exact absurd hr Bool.false_ne_true
      | 2,_,_,_=>exact .inl ⟨h 2 rfl,fun q hq=>N7 (h 2 rfl) (h 10 rfl).1 hq⟩
      | 3,_,_,hr=>exact absurd hr Bool.false_ne_true
      | 4,_,_,_=>exact .inl ⟨h 4 rfl,fun q hq=>Q8 (h 10 rfl).2.2.1 ((h 4 rfl).2.symm.trans hq)⟩
      | 5,_,_,_=>exact .inl ⟨h 5 rfl,fun q hq=>Q8 (h 10 rfl).2.2.2 ((h 5 rfl).2.symm.trans hq)⟩
      | 6,_,_,hr=>exact absurd hr Bool.false_ne_true
      | 7,_,_,hr=>exact absurd hr Bool.false_ne_true
      | 8,_,_,_=>exact .inl ⟨h 8 rfl,fun q hq=>C0 (h 10 rfl).1 (GaV.block (h 8 rfl) hq)⟩
      | 9,_,_,hr=>exact absurd hr Bool.false_ne_true
      | 10,_,hne,_=>exact absurd rfl hne
      | j+11,hm,_,_=>exact absurd hm (by simp)),
  fun σ W g h hp hb=>fun ρ o ho _ hv=>by
   have q:x.1<L.length:=of_decide_eq_true (F0 (h 7 rfl) (hp 7 0 true rfl))
   exact ⟨_,B7 ho ((A1 hv).1.trans (h 3 rfl).1) (A1 hv).2 (M3 (by omega) (by omega)),rfl⟩,
  fun σ W g h hp hb=>fun ρ o ho _ hv=>⟨_,J8 (L5 (h 2 rfl)) ho (B2 hv) ⟨48,by kernel_rfl⟩,rfl⟩,
  fun σ W g h hp hb=>fun ρ o ho _ hv=>by
   have q:x.1<L.length:=of_decide_eq_true (F0 (h 7 rfl) (hp 7 0 true rfl))
   exact ⟨_,rem_sm ho ((A1 hv).1.trans (h 12 rfl)) ((A1 hv).2.trans (h 13 rfl)) (by omega) (by omega) (by omega),by push_cast;rfl⟩,
  fun σ W g h hp hb=>fun ρ o ho _ hv=>by
   have q:x.1<L.length:=of_decide_eq_true (F0 (h 7 rfl) (hp 7 0 true rfl))
   obtain ⟨u,h1,h2,h3⟩:=lX (L5 (h 2 rfl)) ho (A1 hv).1 ((x.1+1)%L.length) (Nat.mod_lt _ (by omega)) ((A1 hv).2.trans (h 14 rfl))
   exact ⟨u,h1,h2,fun q hq=>⟨2,rfl,⟨_,_,rfl,.inl (h3 q hq)⟩⟩⟩,
  fun σ W g h hp hb=>fun ρ o ho _ hv=>rO (h 15 rfl) ho (B2 hv),
  fun σ W g h hp hb=>fun ρ o ho _ hv=>by
   have q:x.1<L.length:=of_decide_eq_true (F0 (h 7 rfl) (hp 7 0 true rfl))
   have e16:(.agg #[σ.an 16 0, σ.an 16 1]:Value) = .agg #[.int .i64 (gg L ((x.1+1)%L.length)).1,.int .i64 (gg L ((x.1+1)%L.length)).2]:=h 16 rfl
   have e16:[σ.an 16 0, σ.an 16 1]=[.int .i64 (gg L ((x.1+1)%L.length)).1,.int .i64 (gg L ((x.1+1)%L.length)).2]:=by injection e16 with e;injection e
   exact aV kG (b0:=false) (A0:=fun o=>o=x.2.2) (l:=trn L x.1) (A2:=fun _=>True) (l2:=trn L (x.1+1)) g (m0:=5) rfl rfl rfl rfl (h 5 rfl) (fun _ _=>trivial) (trn_next L x.1 ▸ R8 kG (by kernel_rfl) J1 (by decide) (h 5 rfl).1 (cs:=[σ.an 16 0, σ.an 16 1]) (x:=gg L ((x.1+1)%L.length)) rfl (hb.1 _ (.head _)) e16 (M0 (W:=W) e16) (by rw [qU];omega) g.size ho (A1 hv).1 (A1 hv).2)
    (fun m hm hne hr=>by
    match m,hm,hne,hr with
    | 0,_,_,_=>exact .inl ⟨h 0 rfl,fun q hq=>C0 (h 5 rfl).1 (GsV.block (h 0 rfl).2 hq)⟩
    | 1,_,_,hr=>exact absurd hr Bool.false_ne_true
    | 2,_,_,_=>exact .inl ⟨h 2 rfl,fun q hq=>N7 (h 2 rfl) (h 5 rfl).1 hq⟩
    | 3,_,_,hr=>exact absurd hr Bool.false_ne_true
    | 4,_,_,_=>exact .inr (.inl ⟨false,(fun o=>o=x.2.1),(L.take x.1).reverse,rfl,by rw [qU];simp;omega,h 4 rfl⟩)
    | 5,_,hne,_=>exact absurd rfl hne
    | 6,_,_,hr=>exact absurd hr Bool.false_ne_true
    | 7,_,_,hr=>exact absurd hr Bool.false_ne_true
    | 8,_,_,_=>exact .inl ⟨h 8 rfl,fun q hq=>C0 (h 5 rfl).1 (GaV.block (h 8 rfl) hq)⟩
    | 9,_,_,hr=>exact absurd hr Bool.false_ne_true
    | 10,_,_,_=>exact .inl ⟨h 10 rfl,fun q hq=>fun e=>(h 10 rfl).2.2.2 (hq.trans (e.symm.trans (h 5 rfl).2))⟩
    | 11,_,_,_=>exact .inl ⟨h 11 rfl,fun q hq=>fun e=>(h 11 rfl).2.2 (hq.trans (e.symm.trans (h 5 rfl).2))⟩
    | 12,_,_,hr=>exact absurd hr Bool.false_ne_true
    | 13,_,_,hr=>exact absurd hr Bool.false_ne_true
    | 14,_,_,hr=>exact absurd hr Bool.false_ne_true
    | 15,_,_,_=>exact .inl ⟨h 15 rfl,fun q hq=>C0 (h 5 rfl).1 (GaV.block (h 15 rfl) hq)⟩
    | 16,_,_,hr=>exact absurd hr Bool.false_ne_true
    | j+17,hm,_,_=>exact absurd hm (by simp)),
  fun σ W g h hp hb=>fun ρ o ho _ hv=>by
   have q:x.1<L.length:=of_decide_eq_true (F0 (h 7 rfl) (hp 7 0 true rfl))
   exact ⟨_,B7 ho ((A1 hv).1.trans (h 3 rfl).1) (A1 hv).2 (M3 (by omega) (by omega)),rfl⟩,
  fun σ W g h hp hb=>fun ρ o ho _ hv=>aR (by
   obtain ⟨v,W2,r1,r2,r3,r4⟩:=aZ kG (W:=W) (by kernel_rfl) (by kernel_rfl) g.size ho
   refine ⟨v,W2,r1,r2,⟨r3, ?_, ?_, ?_⟩,fun q hq=>by have hq:v.ownBlock=some q:=hq;rw [r4] at hq;cases hq;exact Nat.le_refl _⟩<;>rw [r4]
   · exact fun e=>nomatch e
   · exact fun e=>by have e4:(σ.an 4 0).ownBlock=x.2.1:=(h 4 rfl).2;exact absurd ((h 4 rfl).1.inb (e4.trans e.symm)).1 (Nat.lt_irrefl _)
   · exact fun e=>by have e4:(σ.an 5 0).ownBlock=x.2.2:=(h 5 rfl).2;exact absurd ((h 5 rfl).1.inb (e4.trans e.symm)).1 (Nat.lt_irrefl _)),
  fun σ W g h hp hb=>fun ρ o ho _ hv=>aV kG (b0:=false) (A0:=(fun o=>o≠none/\o≠x.2.1/\o≠x.2.2)) (l:=[]) (A2:=(fun o=>o≠none/\o≠x.2.1/\o≠x.2.2)) (l2:=L) g (m0:=19) rfl rfl rfl rfl (h 19 rfl) (fun o ho=>by
        rcases ho with rfl | rfl
        · exact (h 19 rfl).2
        · exact ⟨(fun e=>nomatch e),fun e=>by have e4:(σ.an 4 0).ownBlock=x.2.1:=(h 4 rfl).2;exact absurd ((h 4 rfl).1.inb (e4.trans e.symm)).1 (Nat.lt_irrefl _),fun e=>by have e4:(σ.an 5 0).ownBlock=x.2.2:=(h 5 rfl).2;exact absurd ((h 5 rfl).1.inb (e4.trans e.symm)).1 (Nat.lt_irrefl _)⟩) (J7 kG (by kernel_rfl) J1 (by decide) (fun W cs d=>M0) (h 19 rfl).1 (GsV.rwV (L5 (h 2 rfl))) (by simp;omega) g.size ho (A1 hv).1 (A1 hv).2)
      (fun m hm hne hr=>by
      match m,hm,hne,hr with
      | 0,_,_,_=>exact .inl ⟨h 0 rfl,fun q hq=>C0 (h 19 rfl).1 (GsV.block (h 0 rfl).2 hq)⟩
      | 1,_,_,hr=>exact absurd hr Bool.false_ne_true
      | 2,_,_,_=>exact .inl ⟨h 2 rfl,fun q hq=>N7 (h 2 rfl) (h 19 rfl).1 hq⟩
      | 3,_,_,hr=>exact absurd hr Bool.false_ne_true
      | 4,_,_,_=>exact .inl ⟨h 4 rfl,fun q hq=>Q8 (h 19 rfl).2.2.1 ((h 4 rfl).2.symm.trans hq)⟩
      | 5,_,_,_=>exact .inl ⟨h 5 rfl,fun q hq=>Q8 (h 19 rfl).2.2.2 ((h 5 rfl).2.symm.trans hq)⟩
      | 6,_,_,hr=>exact absurd hr Bool.false_ne_true
      | 7,_,_,hr=>exact absurd hr Bool.false_ne_true
      | 8,hm,_,_=>exact absurd hm Bool.false_ne_true
      | 9,hm,_,_=>exact absurd hm Bool.false_ne_true
      | 10,hm,_,_=>exact absurd hm Bool.false_ne_true
      | 11,hm,_,_=>exact absurd hm Bool.false_ne_true
      | 12,hm,_,_=>exact absurd hm Bool.false_ne_true
      | 13,hm,_,_=>exact absurd hm Bool.false_ne_true
      | 14,hm,_,_=>exact absurd hm Bool.false_ne_true
      | 15,hm,_,_=>exact absurd hm Bool.false_ne_true
      | 16,hm,_,_=>exact absurd hm Bool.false_ne_true
      | 17,hm,_,_=>exact absurd hm Bool.false_ne_true
      | 18,hm,_,_=>exact absurd hm Bool.false_ne_true
      | 19,_,hne,_=>exact absurd rfl hne
      | j+20,hm,_,_=>exact absurd hm (by simp)),
  fun σ W g h hp hb=>fun ρ o ho _ hv=>aV kG (b0:=false) (A0:=(fun o=>o≠none/\o≠x.2.1/\o≠x.2.2)) (l:=L) (A2:=(fun _=>True)) (l2:=(L++L)) g (m0:=20) rfl rfl rfl rfl (h 20 rfl) (fun _ _=>trivial) (J7 kG (by kernel_rfl) J1 (by decide) (fun W cs d=>M0) (h 20 rfl).1 (GsV.rwV (L5 (h 2 rfl))) (by omega) g.size ho (A1 hv).1 (A1 hv).2)
      (fun m hm hne hr=>by
      match m,hm,hne,hr with
      | 0,_,_,_=>exact .inl ⟨h 0 rfl,fun q hq=>C0 (h 20 rfl).1 (GsV.block (h 0 rfl).2 hq)⟩
      | 1,_,_,hr=>exact absurd hr Bool.false_ne_true
      | 2,_,_,_=>exact .inl ⟨h 2 rfl,fun q hq=>N7 (h 2 rfl) (h 20 rfl).1 hq⟩
      | 3,_,_,hr=>exact absurd hr Bool.false_ne_true
      | 4,_,_,_=>exact .inl ⟨h 4 rfl,fun q hq=>Q8 (h 20 rfl).2.2.1 ((h 4 rfl).2.symm.trans hq)⟩
      | 5,_,_,_=>exact .inl ⟨h 5 rfl,fun q hq=>Q8 (h 20 rfl).2.2.2 ((h 5 rfl).2.symm.trans hq)⟩
      | 6,_,_,hr=>exact absurd hr Bool.false_ne_true
      | 7,_,_,hr=>exact absurd hr Bool.false_ne_true
      | 8,hm,_,_=>exact absurd hm Bool.false_ne_true
      | 9,hm,_,_=>exact absurd hm Bool.false_ne_true
      | 10,hm,_,_=>exact absurd hm Bool.false_ne_true
      | 11,hm,_,_=>exact absurd hm Bool.false_ne_true
      | 12,hm,_,_=>exact absurd hm Bool.false_ne_true
      | 13,hm,_,_=>exact absurd hm Bool.false_ne_true
      | 14,hm,_,_=>exact absurd hm Bool.false_ne_true
      | 15,hm,_,_=>exact absurd hm Bool.false_ne_true
      | 16,hm,_,_=>exact absurd hm Bool.false_ne_true
      | 17,hm,_,_=>exact absurd hm Bool.false_ne_true
      | 18,hm,_,_=>exact absurd hm Bool.false_ne_true
      | 19,_,_,_=>exact .inr (.inl ⟨false,(fun o=>o≠none/\o≠x.2.1/\o≠x.2.2),[],rfl,Nat.zero_le _,h 19 rfl⟩)
      | 20,_,hne,_=>exact absurd rfl hne
      | j+21,hm,_,_=>exact absurd hm (by simp)),
  fun σ W g h hp hb=>V3 (congrArg (fun v=>[v]) (h 1 rfl)) (J4 W x0 y0 d hs.1.1 hs.1.2 hs.2.1 hs.2.2 (hTab.kept g (by simp))),
  fun σ W g h hp hb=>toAr (D3 W _ _ L (lat x0 y0 d) 1 ((L5 (h 2 rfl)).up g.size) (h 22 rfl) (by omega) (by omega) hI (A8 hs.1.1 hs.1.2 hs.2.1 hs.2.2) (hTab.kept g (by simp))),
  fun σ W g h hp hb=>toAr (D3 W _ _ (L.take x.1).reverse (lat x0 y0 d) 1 (h 4 rfl).1.gs (h 22 rfl) (by omega) (by simp;omega) (fun d hd=>hI d (List.mem_of_mem_take (List.mem_reverse.1 hd))) (A8 hs.1.1 hs.1.2 hs.2.1 hs.2.2) (hTab.kept g (by simp))),
  fun σ W g h hp hb=>by
   have h3:x.1<=L.length:=(h 3 rfl).2
   exact toAr (D3 W _ _ (trn L x.1) (lat x0 y0 d) 1 (h 5 rfl).1.gs (h 22 rfl) (by omega) (by rw [qU];omega) (in_trn h3 hI) (A8 hs.1.1 hs.1.2 hs.2.1 hs.2.2) (hTab.kept g (by simp))),
  fun σ W g h hp hb=>toAr (D3 W _ _ (L++L) (lat x0 y0 d) 1 (h 21 rfl).1.gs (h 22 rfl) (by omega) (by simp;omega) (fun d hd=>(List.mem_append.1 hd).elim (hI d) (hI d)) (A8 hs.1.1 hs.1.2 hs.2.1 hs.2.2) (hTab.kept g (by simp))),
  fun σ W g h hp hb=>toV (O0 W (hTab.kept g (by simp))) rfl,
  fun σ W g h hp hb=>fun ρ o ho _ hv=>⟨_,nneg_told ho ((B2 hv).trans (ar1 (h 23 rfl))) (by have:=sJ (gl L) (by simp [gl];omega) (lat x0 y0 d);omega),rfl⟩,
  fun σ W g h hp hb=>fun ρ o ho _ hv=>by
   have q:¬ x.1<L.length:=of_decide_eq_false (F0 (h 7 rfl) (hp 7 0 false rfl))
   have q3:x.1=L.length:=Nat.le_antisymm (h 3 rfl).2 (by omega)
   exact ⟨_,C8 true ho ((A1 hv).1.trans (ar1 (h 24 rfl))) ((A1 hv).2.trans (h 28 rfl)) (decide_eq_true (by rw [q3,List.take_length];exact (ar_back _ _).1)),rfl⟩,
  fun σ W g h hp hb=>fun ρ o ho _ hv=>by
   have q:¬ x.1<L.length:=of_decide_eq_false (F0 (h 7 rfl) (hp 7 0 false rfl))
   have q3:x.1=L.length:=Nat.le_antisymm (h 3 rfl).2 (by omega)
   exact ⟨_,C8 true ho ((A1 hv).1.trans (ar1 (h 25 rfl))) ((A1 hv).2.trans (ar1 (h 23 rfl))) (decide_eq_true (by rw [q3];exact (ar_trn _ _).1)),rfl⟩,
  fun σ W g h hp hb=>fun ρ o ho _ hv=>⟨_,B7 ho (A1 hv).1 ((A1 hv).2.trans (ar1 (h 23 rfl))) (mul2_sm (sJ _ (by simp [gl];omega) _)),rfl⟩,
  fun σ W g h hp hb=>fun ρ o ho _ hv=>by
   have q:¬ x.1<L.length:=of_decide_eq_false (F0 (h 7 rfl) (hp 7 0 false rfl))
   have q3:x.1=L.length:=Nat.le_antisymm (h 3 rfl).2 (by omega)
   exact ⟨_,C8 true ho ((A1 hv).1.trans (ar1 (h 26 rfl))) ((A1 hv).2.trans (h 31 rfl)) (decide_eq_true (ar_twice _ _).1),rfl⟩,
  fun σ W g h hp hb=>fun ρ o ho _ hv=>by
   have q:¬ x.1<L.length:=of_decide_eq_false (F0 (h 7 rfl) (hp 7 0 false rfl))
   have q3:x.1=L.length:=Nat.le_antisymm (h 3 rfl).2 (by omega)
   have e:∀ b:Bool,b=dec (OnR (gl L) (lat x0 y0 d)) -> .bool b=(.bool (dec (OnR (gl L) (lat x0 y0 d))):Value):=fun b e=>by rw [e]
   exact ⟨_,mW ho (by kernel_rfl) (((A1 hv).1.trans (ar2 (h 24 rfl))).trans (e _ (by rw [q3,List.take_length];exact (ar_back _ _).2))) ((A1 hv).2.trans (ar2 (h 23 rfl))),rfl⟩,
  fun σ W g h hp hb=>fun ρ o ho _ hv=>by
   have q:¬ x.1<L.length:=of_decide_eq_false (F0 (h 7 rfl) (hp 7 0 false rfl))
   have q3:x.1=L.length:=Nat.le_antisymm (h 3 rfl).2 (by omega)
   have e:∀ b:Bool,b=dec (OnR (gl L) (lat x0 y0 d)) -> .bool b=(.bool (dec (OnR (gl L) (lat x0 y0 d))):Value):=fun b e=>by rw [e]
   exact ⟨_,mW ho (by kernel_rfl) (((A1 hv).1.trans (ar2 (h 25 rfl))).trans (e _ (by rw [q3];exact (ar_trn _ _).2))) ((A1 hv).2.trans (ar2 (h 23 rfl))),rfl⟩,
  fun σ W g h hp hb=>fun ρ o ho _ hv=>by
   have q:¬ x.1<L.length:=of_decide_eq_false (F0 (h 7 rfl) (hp 7 0 false rfl))
   have q3:x.1=L.length:=Nat.le_antisymm (h 3 rfl).2 (by omega)
   have e:∀ b:Bool,b=dec (OnR (gl L) (lat x0 y0 d)) -> .bool b=(.bool (dec (OnR (gl L) (lat x0 y0 d))):Value):=fun b e=>by rw [e]
   exact ⟨_,mW ho (by kernel_rfl) (((A1 hv).1.trans (ar2 (h 26 rfl))).trans (e _ (ar_twice _ _).2)) ((A1 hv).2.trans (ar2 (h 23 rfl))),rfl⟩,
  trivial⟩)
  (fun x=>⟨fun σ W g h hp=>⟨(0,none,none),(fun e=>nomatch e),⟨rfl,fun m hm=>(if_neg (by omega)).trans (if_neg (by omega)).symm⟩,⟨rfl,Nat.zero_le _⟩,⟨⟨OwV.nil kG _ _,rfl⟩,fun q hq=>by cases hq⟩,⟨⟨OwV.nil kG _ _,rfl⟩,fun q hq=>by cases hq⟩,trivial⟩,
  fun σ W g h hp=>⟨_,h 7 rfl⟩,
  fun σ W g h hp=>by
   have q:x.1<L.length:=of_decide_eq_true (F0 (h 7 rfl) (hp 7 0 true rfl))
   exact ⟨(x.1+1,(σ.an 11 0).ownBlock,(σ.an 17 0).ownBlock),fun _=>by show (if 3=3 then L.length-(x.1+1) else 0)<(if 3=3 then L.length-x.1 else 0);rw [if_pos rfl,if_pos rfl];omega,⟨rfl,fun m hm=>(if_neg (by omega)).trans (if_neg (by omega)).symm⟩,⟨(h 18 rfl).trans (by push_cast;rfl),q⟩,⟨⟨by show OwV kG _ _ _ (L.take (x.1+1)).reverse;rw [back_next q];exact (h 11 rfl).1,rfl⟩,fun q hq=>⟨11,rfl,hq⟩⟩,⟨⟨(h 17 rfl).1,rfl⟩,fun q hq=>⟨17,rfl,hq⟩⟩,trivial⟩,
  trivial⟩)
  (fun x hk=>⟨fun τ W g h hp hb=>⟨rfl,g⟩,
  trivial⟩)
end Go.Proofs.YtamdnbbgpacfkaaDoor
