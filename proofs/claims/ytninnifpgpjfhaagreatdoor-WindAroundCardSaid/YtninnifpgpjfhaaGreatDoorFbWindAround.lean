/- WindAround: whatever the row and the point, how often the row's first 30 points go mQ it, or that it lies on them, is the document's, and the row isn't changed: the law returns true and leaves its arguments. No condition. -/
import Derived.Below
import Derived.BigCall
import Derived.BigQuiet
import Derived.BigRegion
import Derived.ChangeOld
import Derived.Deep.AppendLies
import Derived.Deep.CutBlock
import Derived.Deep.CutRange
import Derived.Deep.DeepCutAuto
import Derived.Deep.DeepHandedRow
import Derived.Deep.LoopGhost
import Derived.Deep.MidRow
import Derived.Deep.QuietTactic
import Derived.Deep.RegionHeld3
import Derived.Deep.RegionLaw
import Derived.Deep.Slices
import Derived.Deep.Strs
import Derived.Deep.WholeRow
import Derived.Laws.AppendOwn
import Derived.Laws.Concat
import Derived.Laws.CopyOwn
import Derived.Laws.Externs
import Derived.Laws.IdiomStrings
import Derived.Lib.BitFns
import Derived.Lib.Bytealg
import Derived.Lib.Hide
import Derived.Lib.LaidTab
import Derived.Lib.Slices
import Derived.Lib.Small
import Derived.Lib.Strings
import Derived.Lib.Walk
import Derived.LoopIn
import Derived.LoopN
import Derived.LoopNIn
import Derived.Maps.AppendAt
import Derived.OpenShut
import Derived.OrdersHeld
import Derived.OrdersIn
import Derived.Outline
import Derived.OwnWalk
import Derived.OwnWalkIn
import Derived.ProofKit
import Derived.RangeFuncBound
import Derived.RangeFuncCalls
import Derived.RangeFuncLeaves
import Derived.RangeFuncNested
import Derived.RangeFuncOwn
import Derived.Shelf.Abstract
import Derived.Shelf.Bits.Mul64
import Derived.Shelf.RegionOpen
import Derived.Shelf.Spec.TrailingZeros
import Derived.StillTailTactics
import Derived.TacticsInMore
import Derived.WalkKit
import Derived.WalkLawsBesides
import Derived.WalkSpells
import Derived.WideKeyArgs
import Derived.Test.YtninnifpgpjfhaaGreatDoorCards
import Derived.Test.YtninnifpgpjfhaaGreatDoorProg
import Derived.Test.YtninnifpgpjfhaaGreatDoorRows
import Derived.Test.YtninnifpgpjfhaaGreatDoorTie
import Derived.Test.YtninnifpgpjfhaaGreatDoorMb15
import Derived.Test.YtninnifpgpjfhaaGreatDoorMb16
set_option linter.unusedVariables false
set_option linter.unusedSimpArgs false
set_option maxRecDepth 100000
namespace Go.Proofs.YtninnifpgpjfhaaGreatDoor
open Go.RowKit Mat Ex PM
def sGe (base:Nat) (va:Value) (l:List G2):Sp where
 sh := .one
 F v W:=v=va/\GsV base W v l
 fits v W h:=by obtain ⟨_,s,n,c,rfl,_⟩:=h;exact ⟨fun _ => .slice s n c,fun _=>rfl,rfl⟩
 row:=true
 fp v _ q:=fpS v q
 lasts v W W' k hq h:=⟨⟨h.1,h.2.keeps hq⟩,fun _ h=>h⟩
 inb v W h q hq:=(h.2.block hq).2
 flat h:=by cases h
def FewV (base:Nat) (va:Value) (l:List G2) (v:Value) (W:World):Prop:=∃ a b,v = .tuple #[a,b]/\GsV base W a l/\(∀ q,fpS a q->fpS va q)/\HrV W b (hrl l) /\ ∀ q,fpS b q->base<=q
def sFew (base:Nat) (va:Value) (l:List G2):Sp where
 sh := .tup [(none,0),(none,0)]
 F v W:=FewV base va l v W
 fits v W h:=by
  obtain ⟨a,b,rfl,⟨s,n,c,rfl,_⟩,_,⟨s',n',c',rfl,_⟩,_⟩:=h
  exact S4 (u := .bool true) (cs:=[.slice s n c,.slice s' n' c']) (by simp [Value.oneCell']) rfl
 row:=true
 fp v _ q:=∃ a b,v = .tuple #[a,b]/\(fpS a q\/fpS b q)
 lasts v W W' k hq h:=by
  obtain ⟨a,b,rfl,h1,h2,h3,h4⟩:=h
  exact ⟨⟨a,b,rfl,h1.keeps fun q hf=>hq q ⟨a,b,rfl,.inl hf⟩,h2,h3.keeps k fun q hf=>hq q ⟨a,b,rfl,.inr hf⟩,h4⟩,fun _ h=>h⟩
 inb v W h q hq:=by
  obtain ⟨a,b,rfl,h1,h2,h3,h4⟩:=h
  obtain ⟨a',b',e,hq⟩:=hq
  cases e
  rcases hq with hq | hq
  · exact (h1.block hq).2
  · exact h3.inb q hq
 flat h:=by cases h
theorem toFew {P:Program} {f:FuncId} {args:Array Value} {W:World} {base:Nat} {va:Value} {l:List G2} {old:Nat->Prop} (hb:base<=W.heap.size) (ho:∀ q,fpS va q->old q) (hlt:∀ q,fpS va q->q<base) (h:Calls P f args W (RetFew W va l)):Calls P f args W (RetS W (sFew base va l) old):=
 h.mono fun _ _ ⟨v,u,a,h1,h2,h3,h4,g⟩=>⟨_,a,⟨v,u,rfl,h1.rebase fun q hq=>hlt q (h2 q hq),h2,h3,fun q hq=>Nat.le_trans hb (h4 q hq)⟩,g,fun q hq=>by
  obtain ⟨a',b',e,hq⟩:=hq
  cases e
  rcases hq with hq | hq
  · exact .inr (ho q (h2 q hq))
  · exact .inl (h4 q hq)⟩
theorem few1 {base:Nat} {va:Value} {l:List G2} {a b:Value} {W:World} : (sFew base va l).F (.tuple #[a,b]) W->GsV base W a l:=fun ⟨_,_,e,h,_⟩=>by cases e;exact h
theorem few2 {base:Nat} {va:Value} {l:List G2} {a b:Value} {W:World} : (sFew base va l).F (.tuple #[a,b]) W->HrV W b (hrl l):=fun ⟨_,_,e,_,_,h,_⟩=>by cases e;exact h
theorem few_ne {base:Nat} {va:Value} {l:List G2} {u:Value} {W:World} {v:Value} (h:(sFew base va l).F u W) (ho:OwV kG base W v ([]:List G2)) {q:Nat} (hq:(sFew base va l).fp u W q):v.ownBlock≠some q:=by
 obtain ⟨a,b,rfl,h1,h2,h3,h4⟩:=h
 obtain ⟨a',b',e,hq⟩:=hq
 cases e
 rcases hq with hq | hq
 · exact dots_ne ho (h1.block hq)
 · intro e
   obtain ⟨_,_,c,hc⟩:=ho.inb e
   obtain ⟨s,n,c',rfl,hl,hn,hd⟩:=h3
   obtain ⟨off,m,c'',e2⟩:=hq
   cases e2
   rcases hd with hd | ⟨b,off',cs,e3,hb,_⟩
   · rw [hd] at hl;simp at hl
   · cases e3
     rw [hc] at hb
     simp only [Option.some.injEq,Obj.cells.injEq] at hb
     exact absurd hb.2.1 (by decide)
def sGao (d:G2):Sp where
 sh := .one
 F v W:=∃ B,GaV B W v d
 fits v W h:=by obtain ⟨B,b,off,rfl,_⟩:=h;exact ⟨fun _ => .pointer (some ⟨b,off,none⟩),fun _=>rfl,rfl⟩
 row:=true
 fp v _ q:=fpP v q
 lasts v W W' k hq h:=by
  obtain ⟨B,b,off,rfl,hb,hc⟩:=h
  exact ⟨⟨B,b,off,rfl,hb,hc.same (hq b ⟨off,rfl⟩)⟩,fun _ h=>h⟩
 inb v W h q hq:=by obtain ⟨B,h⟩:=h;exact (h.block hq).2
 flat h:=by cases h
def sAr (n:Int) (b:Bool):Sp := .of (.tup [(none,0),(none,0)]) (fun v _=>v = .tuple #[.int .i64 n,.bool b]) (fun v W h=>S4 (u := .bool true) (cs:=[.int .i64 n,.bool b]) (by simp [Value.oneCell']) h) (fun _ _ _ _ h=>h)
theorem toAr {P:Program} {f:FuncId} {args:Array Value} {W:World} {n:Int} {b:Bool} (h:Calls P f args W (fun e w'=>e = .returned (.tuple #[.int .i64 n,.bool b])/\W.grownBy w' none)):Calls P f args W (Ret W (sAr n b).F):=h.mono fun _ _ ⟨a,g⟩=>⟨_,a,rfl,g⟩
theorem ar1 {n:Int} {b:Bool} {u v:Value} {W:World} : (sAr n b).F (.tuple #[u,v]) W->u = .int .i64 n:=fun h=>by cases h;rfl
theorem ar2 {n:Int} {b:Bool} {u v:Value} {W:World} : (sAr n b).F (.tuple #[u,v]) W->v = .bool b:=fun h=>by cases h;rfl
section
variable {ρ : Operand->Value} {o:Oper} {W:World}
theorem bin_run {op:BinOp} {t t':TypeId} {x y:Operand} {u v r:Value} (ho:o.op = .binOp op t x y t') (hx : ρ x=u) (hy : ρ y=v) (hg:(eqGuard op t x y u v).run Tryz.prog W = .ok () W) (hr:(binOp op t u v).run Tryz.prog W = .ok r W):(execOp ρ o).run Tryz.prog W = .ok (.value r) W:=by
 subst hx hy
 simp only [execOp,ho,Sem.run_bind,hg,Result.andThen_ok,hr];rfl
theorem beq_same {t t':TypeId} {x y:Operand} {b:Bool} (ho:o.op = .binOp .eql t x y t') (ht:Tryz.prog.underlying t=some .bool) (hx : ρ x = .bool b) (hy : ρ y = .bool b):(execOp ρ o).run Tryz.prog W = .ok (.value (.bool true)) W:=by
 have he:(Op.equalIn 10000 t (.bool b) (.bool b)).run Tryz.prog W = .ok (b == b) W:=run_equalIn_bool' W 9999 t b b ht
 refine bin_run ho hx hy (by unfold eqGuard;rfl) ?_
 have hb:∀ (m:Sem Bool),m.run Tryz.prog W = .ok (b == b) W->(m >>= fun r=>pure (Value.bool r)).run Tryz.prog W = .ok (.bool true) W:=fun m hm=>by
  simp [Sem.run_bind,hm]
 exact hb _ he
theorem pt_same {t':TypeId} {x y:Operand} {d:G2} (ho:o.op = .binOp .neq 60 x y t') (hx : ρ x = .agg #[.int .i64 d.1,.int .i64 d.2]) (hy : ρ y = .agg #[.int .i64 d.1,.int .i64 d.2]):(execOp ρ o).run Tryz.prog W = .ok (.value (.bool false)) W:=by
 have hm:Tryz.prog.eqGuardType Tryz.prog.depth 60=false:=by kernel_rfl
 have hs:Tryz.prog.underlying 60=some (.struct (Tryz.prog.fieldsOf 60)):=by kernel_rfl
 have hp:Tryz.prog.stoodInHeld 60=false:=by kernel_rfl
 have hu:Tryz.prog.underlying 3=some (.int .i64):=by kernel_rfl
 have ha:eJ Tryz.prog 3=some false:=by kernel_rfl
 have key:∀ f:Field,f.type=3->f.offset<2 -> ∀ fs:List Field,(Op.eqFields 9999 #[.int .i64 d.1,.int .i64 d.2] #[.int .i64 d.1,.int .i64 d.2] fs).run Tryz.prog W = .ok true W->(Op.eqFields 9999 #[.int .i64 d.1,.int .i64 d.2] #[.int .i64 d.1,.int .i64 d.2] (f :: fs)).run Tryz.prog W = .ok true W:=fun f h1 h2 fs h3=>by
  unfold Op.eqFields
  by_cases hn : f.name = "_"
  · rw [if_neg (by simpa using hn)];exact h3
  · rw [if_pos hn,h1]
    have hpart:∃ z:Int,(part 3 #[.int .i64 d.1,.int .i64 d.2] f.offset).run Tryz.prog W = .ok (.int .i64 z) W:=by
     match ho:f.offset,h2 with
     | 0,_=>exact ⟨d.1,by simp [part,I4 Tryz.prog ha W]⟩
     | 1,_=>exact ⟨d.2,by simp [part,I4 Tryz.prog ha W]⟩
    obtain ⟨z,hz⟩:=hpart
    simp only [Sem.run_bind,hz,Result.andThen_ok,run_equalIn_int W 9998 3 .i64 .i64 z z hu,beq_self_eq_true,Bool.not_true,Bool.false_eq_true,if_false]
    exact h3
 have hfs:(Tryz.prog.fieldsOf 60).toList.all (fun f=>decide (f.type=3) && decide (f.offset<2))=true:=by kernel_rfl
 have hall:∀ fs:List Field,fs.all (fun f=>decide (f.type=3) && decide (f.offset<2))=true->(Op.eqFields 9999 #[.int .i64 d.1,.int .i64 d.2] #[.int .i64 d.1,.int .i64 d.2] fs).run Tryz.prog W = .ok true W:=by
  intro fs
  induction fs with
  | nil=>intro _;simp [Op.eqFields]
  | cons f fs ih=>
    intro h
    rw [List.all_cons,Bool.and_eq_true,Bool.and_eq_true,decide_eq_true_eq,decide_eq_true_eq] at h
    exact key f h.1.1 h.1.2 fs (ih h.2)
 have he:(Op.equalIn 10000 60 (.agg #[.int .i64 d.1,.int .i64 d.2]) (.agg #[.int .i64 d.1,.int .i64 d.2])).run Tryz.prog W = .ok true W:=(run_equalIn_agg W 9999 60 _ _ hs hp).trans (hall _ hfs)
 have hn:(binOp .neq 60 (.agg #[.int .i64 d.1,.int .i64 d.2]) (.agg #[.int .i64 d.1,.int .i64 d.2])).run Tryz.prog W = .ok (.bool false) W:=(run_neq_struct W _ _ _).trans (by rw [he];rfl)
 have hg:=run_eqGuard_agg (P:=Tryz.prog) W .neq 60 x y #[.int .i64 d.1,.int .i64 d.2] #[.int .i64 d.1,.int .i64 d.2] hm
 clear he hall hfs key ha hu hp hs hm
 generalize Value.agg #[.int .i64 d.1,.int .i64 d.2]=v at *
 exact bin_run ho hx hy hg hn
end
theorem gridRp (x y:Int):rp ⟨x,y,1⟩=G8 x y:=by
 unfold rp G8
 refine Prod.ext ?_ ?_<;>simp only [q_of]<;>rw [show ((1:Int):Rat)=1 from rfl,Rat.div_def,show (1:Rat)⁻¹ = 1 by decide +kernel,Rat.mul_one]
theorem hrl_rp (l:List G2):(hrl l).map rp=gl l:=by
 unfold hrl gl
 rw [List.map_map]
 exact List.map_congr_left fun d _=>gridRp d.1 d.2
theorem hrl_b {l:List G2} (h:∀ d ∈ l,eK d):∀ p ∈ hrl l,HB 5 p/\0<p.z:=by
 intro p hp
 obtain ⟨d,hd,rfl⟩:=List.mem_map.1 hp
 have:=h d hd
 have h1:=lat_h (d:=0) this.1.1 this.1.2 this.2.1 this.2.2
 exact ⟨⟨h1.1,h1.2.1,dint (n:=1) (by decide) (by decide)⟩,(by decide:(0:Int)<1)⟩
theorem own_fp {base:Nat} {W:World} {v:Value} {l:List G2} (h:OwV kG base W v l) {q:Nat} (hq:fpS v q):v.ownBlock=some q:=by
 obtain ⟨xs,⟨hl,h2⟩,hA⟩:=h
 obtain ⟨off,n,c,rfl⟩:=hq
 rcases h2 with ⟨e,_⟩ | ⟨g,cap,cur,e,_⟩
 · cases e
 · obtain ⟨e1,_⟩:=Value.slice.inj e
   cases e1;rfl
theorem eE (w:World) (va:Value) (l:List G2) (x y d:Int) (Ha:GsV w.heap.size w va l) (hIn:∀ d ∈ l,eK d) (hs:Small (x,y,d)) (hTab:Tab w) :
 Calls Tryz.prog 4 #[va,.agg #[.int .i64 x,.int .i64 y,.int .i64 d]] w (fun e w'=>e = .returned (.bool true)/\w.grownBy w' none):=by
 obtain ⟨L,hLe⟩:∃ L,l.take 30=L:=⟨_,rfl⟩
 have hL30:L.length<=30:=by rw [<- hLe];simp;omega
 have hI:∀ d ∈ L,eK d:=fun d hd=>hIn d (List.mem_of_mem_take (hLe ▸ hd))
 refine N2 B1 Tryz.func4 [sGe w.heap.size va l,sDt x y d] (fun k:Nat=>[sFew w.heap.size va L,sOw kG w.heap.size [],sOw kG w.heap.size L,sPt (lat x y d),sAr (arN (gl L) (lat x y d)) (dec (OnR (gl L) (lat x y d))),sH ⟨x,y,und d⟩,sAr (arN (gl L) (lat x y d)) (dec (OnR (gl L) (lat x y d))),sZc (k<=L.length) (k:Int),sZ L.length,sC (.bool (decide (k<L.length))) rfl,sGa w.heap.size (gg L k),sGp (gg L k),sGao (gg L k),sGp (gg L k),sV (.bool false),sZ ((k:Int)+1),sV (.bool true),sV (.bool true),sV (.bool true)]) (fun m k=>if m=9 then L.length-k else 0) (0) (fun _=>rfl) [1000000] [some [[.t 34,.t 35,.t 36,.t 37,.t 38,.t 39,.t 40,.t 41,.t 42,.t 43,.t 44,.t 45,.t 46,.t 47,.t 48],[.t 11]]] (.cons ⟨rfl,Ha⟩ (.cons rfl .nil)) (rs:=[(cl 2 14 [on 0],[]),(cow 3 (.buildSlice 53 0 #[]) 53 [] [0,1,2] [],[]),(cow 4 (.call ⟨.builtin .append, #[(.tmp 17),(.tmp 18)], #[53,53]⟩) 53 [on 3,on 2] [0,1,2,3] [],[]),(cl 5 7 [ag 3 1],[]),(cl 6 15 [on 2,ag 8 5],[]),(cl 7 8 [ag 3 1],[]),(cl 8 16 [.v false [.an 2 1],ag 6 7],[]),(co 10 (.call ⟨.builtin .len, #[(.tmp 35)], #[53]⟩) 3 [on 2] [0,1,2,3,4,5,6,7,8,9] [],[]),(co 11 (.binOp .lss 3 (.tmp 34) (.tmp 36) 3) 4 [on 9,on 10] [0,1,2,3,4,5,6,7,8,9,10] [],[]),(co 12 (.indexAddr 53 (.tmp 40) (.tmp 41)) 0 [on 2,on 9] [0,1,2,3,4,5,6,7,8,9,10,11] [],[(11,0,true)]),(co 13 (.load 60 (.tmp 42)) 60 [on 12] [0,1,2,3,4,5,6,7,8,9,10,11,12] [],[(11,0,true)]),(co 14 (.indexAddr 53 (.tmp 44) (.tmp 45)) 0 [on 4,on 9] [0,1,2,3,4,5,6,7,8,9,10,11] [],[(11,0,true)]),(co 15 (.load 60 (.tmp 46)) 60 [on 14] [0,1,2,3,4,5,6,7,8,9,10,11,14] [],[(11,0,true)]),(co 16 (.binOp .neq 60 (.tmp 43) (.tmp 47) 60) 4 [ag 2 13,ag 2 15] [0,1,2,3,4,5,6,7,8,9,10,11,12,13,14,15] [],[(11,0,true)]),(co 17 (.binOp .add 3 (.tmp 38) (.const (.int .i64 1)) 3) 3 [on 9,.v false [.lit (.int .i64 1)]] [0,1,2,3,4,5,6,7,8,9,10,11,12,13,14,15,16] [],[(11,0,true)]),(cla 18 17 [] [0,1,2,3,4,5,6,7,8,9,10,11],[(11,0,false)]),(co 19 (.binOp .eql 3 (.tmp 51) (.tmp 52) 3) 4 [on 6,on 8] [0,1,2,3,4,5,6,7,8,9,10,11,18] [],[(11,0,false)]),(co 20 (.binOp .eql 4 (.tmp 56) (.tmp 57) 4) 4 [.v false [.an 6 1],.v false [.an 8 1]] [0,1,2,3,4,5,6,7,8,9,10,11,18,19] [],[(11,0,false)])]) (js:=[.loop false 9 [(9,.v false [.lit (.int .i64 0)])] (List.range 9) [],.test 11 0 (List.range 12) [],.loop true 9 [(9,on 17)] (List.range 18) [(11,0,true)]]) (outs:=[⟨.v false [.lit (.bool true)],[0,1,2,3,4,5,6,7,8,9,10,11,18,19,20],[(11,0,false)],[],[]⟩]) (nc:=21) (by kernel_rfl)
  (fun k=>⟨fun σ W g h hp hb=>by
   have e : σ.an 0 0=va:=(h 0 rfl).1
   have h0:GsV w.heap.size W (σ.an 0 0) l:=(h 0 rfl).2
   rw [e] at h0
   show Calls _ _ #[σ.an 0 0] W _
   rw [e, <- hLe]
   exact toFew g.size (fun q hq=>⟨0,rfl,by show fpS (σ.an 0 0) q;rw [e];exact hq⟩) (fun q hq=>(h0.block hq).1) (few13_any W va l (h0.up g.size) hIn),
  fun σ W g h hp hb=>fun ρ o ho _ hv=>appG g h (by obtain ⟨v,W2,r1,r2,r3,r4⟩:=run_empty g.size ho;exact ⟨v,W2,r1,r2,r3,r4⟩),
  fun σ W g h hp hb=>fun ρ o ho _ hv=>appL kG g (m0:=3) rfl rfl rfl rfl (h 3 rfl) (run_copy (h 3 rfl) (few1 (h 2 rfl)) (by omega) g.size ho (A0 hv).1 (A0 hv).2)
      (fun m hm hne hr=>by
      match m,hm,hne,hr with
      | 0,_,_,_=>exact ⟨h 0 rfl,fun q hq=>dots_ne (h 3 rfl) (GsV.block (h 0 rfl).2 hq)⟩
      | 1,_,_,hr=>exact absurd hr Bool.false_ne_true
      | 2,_,_,_=>exact ⟨h 2 rfl,fun q hq=>few_ne (h 2 rfl) (h 3 rfl) hq⟩
      | 3,_,hne,_=>exact absurd rfl hne
      | j+4,hm,_,_=>exact absurd hm (by simp)),
  fun σ W g h hp hb=>argl (congrArg (fun v=>[v]) (h 1 rfl)) (LAt_any W x y d hs.1.1 hs.1.2 hs.2.1 hs.2.2 (hTab.kept g (by simp))),
  fun σ W g h hp hb=>toAr (Q7 W _ _ L (lat x y d) 1 ((few1 (h 2 rfl)).up g.size) (h 5 rfl) (by omega) (by omega) hI (lat_b hs.1.1 hs.1.2 hs.2.1 hs.2.2) (hTab.kept g (by simp))),
  fun σ W g h hp hb=>argl (congrArg (fun v=>[v]) (h 1 rfl)) (rHAt_any W x y d hs.1.1 hs.1.2 hs.2.1 hs.2.2),
  fun σ W g h hp hb=>by
   have hh:=lR W _ _ (hrl L) ⟨x,y,und d⟩ 5 (few2 (h 2 rfl)) (h 7 rfl) (by omega) (by simp [hrl];omega) (hrl_b hI) (lat_h hs.1.1 hs.1.2 hs.2.1 hs.2.2) (bD d).1
   rw [hrl_rp] at hh
   exact toAr hh,
  fun σ W g h hp hb=>fun ρ o ho _ hv=>⟨_,dC (few1 (h 2 rfl)) ho (E6 hv) ⟨60,by kernel_rfl⟩,rfl⟩,
  fun σ W g h hp hb=>fun ρ o ho _ hv=>⟨_,hr_lt ho ((A0 hv).1.trans (h 9 rfl).1) ((A0 hv).2.trans (h 10 rfl)) rfl rfl,rfl⟩,
  fun σ W g h hp hb=>fun ρ o ho _ hv=>by
   have q:=of_decide_eq_true (D8 (h 11 rfl) (hp 11 0 true rfl))
   obtain ⟨u,h1,h2,h3⟩:=gP (few1 (h 2 rfl)) ho (A0 hv).1 k q ((A0 hv).2.trans (h 9 rfl).1)
   exact ⟨u,h1,h2,fun q hq=>⟨2,rfl,⟨_,_,rfl,.inl (h3 q hq)⟩⟩⟩,
  fun σ W g h hp hb=>fun ρ o ho _ hv=>mF (h 12 rfl) ho (E6 hv),
  fun σ W g h hp hb=>fun ρ o ho _ hv=>by
   have q:=of_decide_eq_true (D8 (h 11 rfl) (hp 11 0 true rfl))
   have h4:OwV kG w.heap.size W (σ.an 4 0) L:=h 4 rfl
   obtain ⟨u,h1,h2,h3⟩:=gP h4.gs ho (A0 hv).1 k q ((A0 hv).2.trans (h 9 rfl).1)
   exact ⟨u,h1,⟨_,h2⟩,fun q hq=>⟨4,rfl,own_fp h4 (h3 q hq)⟩⟩,
  fun σ W g h hp hb=>fun ρ o ho _ hv=>by
   obtain ⟨B,hB⟩:=h 14 rfl
   exact mF hB ho (E6 hv),
  fun σ W g h hp hb=>fun ρ o ho _ hv=>⟨_,pt_same ho ((A0 hv).1.trans (h 13 rfl)) ((A0 hv).2.trans (h 15 rfl)),rfl⟩,
  fun σ W g h hp hb=>fun ρ o ho _ hv=>by
   have q:=of_decide_eq_true (D8 (h 11 rfl) (hp 11 0 true rfl))
   exact ⟨_,B8 ho ((A0 hv).1.trans (h 9 rfl).1) (A0 hv).2 (P8 (by omega) (by omega)),rfl⟩,
  fun σ W g h hp hb=>toV (known13_any W (hTab.kept g (by simp))) rfl,
  fun σ W g h hp hb=>fun ρ o ho _ hv=>⟨_,F7 true ho ((A0 hv).1.trans (ar1 (h 6 rfl))) ((A0 hv).2.trans (ar1 (h 8 rfl))) (decide_eq_true rfl),rfl⟩,
  fun σ W g h hp hb=>fun ρ o ho _ hv=>⟨_,beq_same ho (by kernel_rfl) ((A0 hv).1.trans (ar2 (h 6 rfl))) ((A0 hv).2.trans (ar2 (h 8 rfl))),rfl⟩,
  trivial⟩)
  (fun k=>⟨fun σ W g h hp=>⟨0,(fun e=>nomatch e),⟨rfl,fun m hm=>(if_neg (by omega)).trans (if_neg (by omega)).symm⟩,⟨rfl,Nat.zero_le _⟩,trivial⟩,
  fun σ W g h hp=>⟨_,h 11 rfl⟩,
  fun σ W g h hp=>by
   have q:=of_decide_eq_true (D8 (h 11 rfl) (hp 11 0 true rfl))
   exact ⟨k+1,fun _=>by show (if 9=9 then L.length-(k+1) else 0)<(if 9=9 then L.length-k else 0);rw [if_pos rfl,if_pos rfl];omega,⟨rfl,fun m hm=>(if_neg (by omega)).trans (if_neg (by omega)).symm⟩,⟨(h 17 rfl).trans (by push_cast;rfl),by omega⟩,trivial⟩,
  trivial⟩)
  (fun k hk=>⟨fun τ W g h hp hb=>⟨rfl,g⟩,
  trivial⟩)
end Go.Proofs.YtninnifpgpjfhaaGreatDoor
namespace Go.Proofs.YtninnifpgpjfhaaGreatDoor.WindAround
open Go.ChangeShapes Go.WideShapes Go.ChangeAt Go.RowKit Go.ChangeMaps
theorem contract (H:Type) (enc:TypeId × Value->H) (W:World) (base:Nat) (args:Array Value) (ds gs:List (DataW H)) (before:List MemPlace)
 (hval:∀ (j:Nat) t v,Tryz.f4.params[j]?=some t->args[j]?=some v->Value.okWide Tryz.prog W .any base t v)
 (hW:DataW.Whole enc Tryz.prog Tryz.f4.params.toList Rows.windAroundSpec.vars false W args.toList ds gs before) (hL:laidMetH Tryz.prog Rows.windAroundRow.laid W) :
 Calls Tryz.prog 4 args W fun e W'=>∃ v,e = .returned v/\Rows.windAroundSpec.post enc Tryz.prog Tryz.f4 false true false false W args v W':=by
 have hW':=hW
 obtain ⟨p,q,hA0,hV,rfl,hfz,hnd⟩:=hW
 have hA:DataW.TrodAll enc Tryz.prog W 0 (fun _=>true) true Tryz.f4.params.toList args.toList ds p:=hA0
 rw [Tryz.params4] at hA hval
 obtain ⟨v0,vs0,d0,ds0,p0,q0,hargs0,rfl,rfl,h0,r0⟩:=trodAll_cons hA
 obtain ⟨v1,vs1,d1,ds1,p1,q1,hargs1,rfl,rfl,h1,r1⟩:=trodAll_cons r0
 obtain ⟨rfl,rfl,rfl⟩:=trodAll_nil r1
 obtain rfl:args = #[v0,v1]:=by cases args;simp_all
 obtain ⟨rfl,rfl⟩:=trodVars_none hV
 simp only [List.append_nil] at hW' hfz
 have hlt:∀ p ∈ p0++p1,p.block<W.heap.size:=fun p hp=>by
  have:=DataW.TrodAll.lt hA p (by simpa using hp)
  exact this
 have hv0:=hval 0 53 v0 rfl rfl
 obtain ⟨s0,ln0,cp0,rfl⟩:=okWide_slice Tryz.underlying53 hv0
 obtain ⟨l0,hd0,hs0⟩:=open_gs h0
 have hv1:=hval 1 36 v1 rfl rfl
 obtain ⟨x1,y1,z1,rfl,a1,b1,c1⟩:=open_dot hv1 h1
 clear hA0
 refine (eE W _ l0 x1 y1 z1 hd0 hs0 ⟨a1,b1⟩ (tab_of hL)).mono fun e W' ⟨he,hg⟩=>?_
 subst he
 have hs0:∀ sp:Nat->Bool,(∀ p ∈ p0,sp p.block=true)->DataW.Trod enc Tryz.prog W' 0 sp true 53 (.slice s0 ln0 cp0) d0 p0:=fun sp hsp=>
  Go.WideElems.Trod_stays (by kernel_rfl) (by kernel_rfl) (of_decide_eq_true (by kernel_rfl)) h0 (fun p hp=>gQ hg (hlt p (by simp [hp]))) hsp
 have hs1:∀ sp:Nat->Bool,(∀ p ∈ p1,sp p.block=true)->DataW.Trod enc Tryz.prog W' 0 sp true 36 (.agg #[.int .i64 x1,.int .i64 y1,.int .i64 z1]) d1 p1:=fun sp hsp=>
  Go.WideElems.Trod_stays (by kernel_rfl) (by kernel_rfl) (of_decide_eq_true (by kernel_rfl)) h1 (fun p hp=>gQ hg (hlt p (by simp [hp]))) hsp
 exact ⟨_,rfl,post_places hW' hlt (fun _ _ _=>trodAll_cons_mk (shut_bool Tryz.underlying4 _) trodAll_mk0) (fun sp hsp=>by
  have:=trodAll_cons_mk (hs0 sp (fun p hp=>hsp p (by simp [hp]))) (trodAll_cons_mk (hs1 sp (fun p hp=>hsp p (by simp [hp]))) (trodAll_mk0))
  rw [List.append_nil] at this
  exact this) (fun _=>rfl) hg (ok_one (by kernel_rfl) rfl (okWide_bool_mk Tryz.underlying4 _))⟩
theorem laid_met (os:Os):laidMet Tryz.prog Rows.windAroundRow.laid ((dA os).forCall (fun _ _=>0) ⟨#[], #[.slice none 0 0,.agg #[.int .i64 0,.int .i64 0,.int .i64 0]],[]⟩).memory:=
 laidMet_of_run' 80 (by kernel_rfl) (by kernel_rfl)
theorem reads (os:Os) {H:Type} (enc:TypeId × Value->H):∃ places,DataW.whole enc Tryz.prog ((dA os).forCall (fun _ _=>0) ⟨#[], #[.slice none 0 0,.agg #[.int .i64 0,.int .i64 0,.int .i64 0]],[]⟩).memory Tryz.f4.params.toList Rows.windAroundSpec.vars false #[Value.slice none 0 0,Value.agg #[.int .i64 0,.int .i64 0,.int .i64 0]].toList 8=some ([.nil,.agg [.lit (.int .i64 0),.lit (.int .i64 0),.lit (.int .i64 0)]],[],places):=
 ⟨[],by kernel_rfl⟩
theorem lifted (os:Os) (started:os.Started) (H:Type) (enc:TypeId × Value->H) (F:Stop.Interp) :
 ReturnsInHanded {} Tryz.checked os 4 .any ((OpenSpec.ofChange Rows.windAroundSpec).preRow enc Tryz.prog Tryz.f4 Rows.windAroundRow.domain false Rows.windAroundRow.laid) (((OpenSpec.ofChange Rows.windAroundSpec).at F).post enc Tryz.prog Tryz.f4 false true false false):=by
 obtain ⟨places,hx⟩:=reads os enc
 refine returnsInHanded_of_row (C:=Tryz.checked) (s:=OpenSpec.ofChange Rows.windAroundSpec) law_own started (by kernel_rfl) Tryz.func4
  (witness_row_at (enc:=enc) (C:=Tryz.checked) false (dA os) #[.slice none 0 0,.agg #[.int .i64 0,.int .i64 0,.int .i64 0]] rfl (by kernel_rfl) (by kernel_rfl) (by kernel_rfl)
   (OpenSpec.preRow_of_cond 8 hx (by kernel_rfl) (fun k hk=>by cases hk) (by kernel_rfl) (laid_met os))) ?_
 intro W base args ds gs before hval hW _ _ _ hL _ _
 exact contract H enc W base args ds gs before hval hW hL
theorem said:Rows.WindAroundSaid:=
 OpenClaim.holds_of_cond 4 Tryz.f4 rfl rfl rfl rfl rfl rfl rfl ⟨rfl,rfl,rfl,rfl,rfl⟩ rfl rfl rfl rfl rfl (by kernel_rfl) Tryz.func4 (by kernel_rfl)
  (of_decide_eq_true (by kernel_rfl)) (by unfold Func.isWrapper;first | (rw [if_pos (by decide +kernel)];kernel_rfl) | (rw [if_neg (by decide +kernel)];exact ⟨rfl,rfl⟩))
  (fun os started H enc _ F=>by rw [OpenClaim.pre_eq_preRow];exact lifted os started H enc F)
theorem plain (f : FuncId) (fn : Func) (hf : Tryz.pinned.checked.prog.funcNamed "pellicle/pelliclelaw13.WindAround" = some f) (hfn : Tryz.pinned.checked.prog.funcs[f]? = some fn) :
 false=Tryz.pinned.checked.prog.looks [] /\ ∀ (j:Nat) t,fn.params[j]?=some t->Tryz.pinned.checked.prog.wantsStandIn t=false:=by
 obtain rfl : f = 4 := Option.some.inj ((show Tryz.prog.funcNamed "pellicle/pelliclelaw13.WindAround" = some 4 by kernel_rfl).symm.trans hf) |>.symm
 obtain rfl:fn=Tryz.f4:=(Option.some.inj (Tryz.func4.symm.trans hfn)).symm
 refine ⟨by kernel_rfl,fun j t ht=>?_⟩
 rw [Tryz.params4] at ht
 have ht2:=Array.mem_of_getElem? ht
 simp at ht2
 first | (rcases ht2 with rfl | rfl | rfl) | (rcases ht2 with rfl | rfl) | subst ht2
 all_goals exact (show Tryz.prog.wantsStandIn _=false by kernel_rfl)
theorem card:Rows.WindAroundCardSaid:=
 Claim7.holds_tied_plain_at .later [] _ _ _ _ said (fun _ h=>by cases h) (by kernel_rfl) (fun _ h=>by cases h) windAround_row_tie rfl ⟨rfl,rfl⟩ (by kernel_rfl) rfl plain (by kernel_rfl)
end Go.Proofs.YtninnifpgpjfhaaGreatDoor.WindAround
