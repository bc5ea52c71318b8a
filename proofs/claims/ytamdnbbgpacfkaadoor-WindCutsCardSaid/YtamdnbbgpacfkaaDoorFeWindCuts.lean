/- WindCuts: whatever the row, the point and the two numbers, cut in two by a way between two of its points the row goes iB as often as both parts, or the point lies on one of them: the law returns true and leaves its arguments. No condition. -/
import Derived.Below
import Derived.BigCall
import Derived.BigQuiet
import Derived.BigRegion
import Derived.ChangeOld
import Derived.Deep.AppendLies
import Derived.Deep.CutBlock
import Derived.Deep.CutRange
import Derived.Deep.DeepCutAuto
import Derived.Deep.DeepHandedRow
import Derived.Deep.LoopGhost
import Derived.Deep.MidRow
import Derived.Deep.QuietTactic
import Derived.Deep.RegionHeld3
import Derived.Deep.RegionLaw
import Derived.Deep.Slices
import Derived.Deep.Strs
import Derived.Deep.WholeRow
import Derived.Laws.AppendOwn
import Derived.Laws.Concat
import Derived.Laws.CopyOwn
import Derived.Laws.Externs
import Derived.Laws.IdiomStrings
import Derived.Lib.BitFns
import Derived.Lib.Bytealg
import Derived.Lib.Hide
import Derived.Lib.LaidTab
import Derived.Lib.Slices
import Derived.Lib.Small
import Derived.Lib.Strings
import Derived.Lib.Walk
import Derived.LoopIn
import Derived.LoopN
import Derived.LoopNIn
import Derived.Maps.AppendAt
import Derived.OpenShut
import Derived.OrdersHeld
import Derived.OrdersIn
import Derived.Outline
import Derived.OwnWalk
import Derived.OwnWalkIn
import Derived.ProofKit
import Derived.RangeFuncBound
import Derived.RangeFuncCalls
import Derived.RangeFuncLeaves
import Derived.RangeFuncNested
import Derived.RangeFuncOwn
import Derived.Shelf.Abstract
import Derived.Shelf.Bits.Mul64
import Derived.Shelf.RegionOpen
import Derived.Shelf.Spec.TrailingZeros
import Derived.StillTailTactics
import Derived.TacticsInMore
import Derived.WalkKit
import Derived.WalkLawsBesides
import Derived.WalkSpells
import Derived.WideKeyArgs
import Derived.Test.YtamdnbbgpacfkaaDoorCards
import Derived.Test.YtamdnbbgpacfkaaDoorProg
import Derived.Test.YtamdnbbgpacfkaaDoorRows
import Derived.Test.YtamdnbbgpacfkaaDoorTie
import Derived.Test.YtamdnbbgpacfkaaDoorMe11
import Derived.Test.YtamdnbbgpacfkaaDoorMe16
set_option linter.unusedVariables false
set_option linter.unusedSimpArgs false
set_option maxRecDepth 100000
namespace Go.Proofs.YtamdnbbgpacfkaaDoor
open Go.RowKit Mat Ex PM
def kS (n:Int) (b:Bool):Sp := .of (.tup [(none,0),(some (.bool b),0)]) (fun v _=>v = .tuple #[.int .i64 n,.bool b]) (fun v W h=>⟨D7 [.int .i64 n],B4 (by simp [Value.oneCell']),h⟩) (fun _ _ _ _ h=>h)
theorem eH {P:Program} {f:FuncId} {args:Array Value} {W:World} {n:Int} {c b:Bool} (hb:c=b) (h:Calls P f args W (fun e w'=>e = .returned (.tuple #[.int .i64 n,.bool c])/\W.grownBy w' none)):Calls P f args W (Ret W (kS n b).F):=h.mono fun _ _ ⟨a,g⟩=>⟨_,a,by rw [hb];rfl,g⟩
theorem arB1 {n:Int} {b:Bool} {u v:Value} {W:World} : (kS n b).F (.tuple #[u,v]) W->u = .int .i64 n:=fun h=>by cases h;rfl
theorem rN {P:Program} {ρ : Operand->Value} {o:Oper} {t t':TypeId} {x y:Operand} {a c:Nat} {W:World} (ho:o.op = .binOp .gtr t x y t') (hx : ρ x = .int .i64 a) (hy : ρ y = .int .i64 c):(execOp ρ o).run P W = .ok (.value (.bool (decide (c<a)))) W:=
 lssN ho hx hy (decide_eq_decide.2 (by omega))
theorem G8 {ρ : Operand->Value} {x y z:Operand} {a b c:Value} (h:[x,y,z].map ρ=[a,b,c]) : ρ x=a/\ρ y=b/\ρ z=c:=by
 simp only [List.map_cons,List.map_nil,List.cons.injEq,and_true] at h;exact h
theorem of_dec {p:Prop} (h:dec p=false):¬ p:=by
 simpa [dec] using h
theorem wrapN {n:Nat} (h:n<1000):IntKind.u64.wrap (n:Int)=n:=by
 simp [IntKind.wrap,IntKind.signed,IntKind.bits];omega
theorem cut_sum {L:List G2} {lo hi:Nat} {p:Pq} (h1:lo<=hi) (h2:hi<L.length) (h0:¬ OnR (gl L) p) (ha:¬ OnR (gl ((L.drop lo).take (hi+1-lo))) p) (hb:¬ OnR (gl (L.take (lo+1)++L.drop hi)) p) :
 arN (gl ((L.drop lo).take (hi+1-lo))) p+arN (gl (L.take (lo+1)++L.drop hi)) p=arN (gl L) p:=by
 have e:∀ l:List Pq,¬ OnR l p->arN l p=S3 l p:=fun l h=>by
  unfold arN;rw [if_neg];unfold dec;simpa using h
 rw [e _ h0,e _ ha,e _ hb]
 have hd:L.drop hi=gg L hi :: L.drop (hi+1):=by rw [<- gg_at h2];exact (List.drop_eq_getElem_cons h2)
 have ht:L.take (lo+1)=L.take lo++[gg L lo]:=aF (by omega)
 have hL:L=L.take lo++L.drop lo:=(List.take_append_drop lo L).symm
 have hdl:L.drop lo=gg L lo :: L.drop (lo+1):=by rw [<- gg_at (by omega:lo<L.length)];exact (List.drop_eq_getElem_cons (by omega))
 rcases Nat.lt_or_ge lo hi with hlt | hge
 · have hm:L.drop (lo+1)=(L.drop (lo+1)).take (hi-(lo+1))++L.drop hi:=by
    have:=(List.take_append_drop (hi-(lo+1)) (L.drop (lo+1))).symm
    rw [List.drop_drop,show lo+1+(hi-(lo+1))=hi by omega] at this
    exact this
   have hone:(L.drop lo).take (hi+1-lo)=gg L lo :: ((L.drop (lo+1)).take (hi-(lo+1))++[gg L hi]):=by
    have hl:((L.drop (lo+1)).take (hi-(lo+1))).length=hi-(lo+1):=by simp;omega
    rw [hdl,show hi+1-lo=(hi-lo)+1 by omega,List.take_succ_cons]
    congr 1
    conv=>lhs;rw [hm,hd]
    rw [List.take_append,hl,List.take_of_length_le (by omega),show hi-lo-(hi-(lo+1))=1 by omega]
    rfl
   have hall:L=L.take lo++(gg L lo :: ((L.drop (lo+1)).take (hi-(lo+1))++gg L hi :: L.drop (hi+1))):=by
    conv=>lhs;rw [hL,hdl,hm,hd]
   conv=>rhs;rw [hall]
   rw [hone,ht,hd]
   simp only [gl,List.map_append,List.map_cons,List.map_nil,List.append_assoc,List.cons_append,List.nil_append]
   have:=winds_cut ((L.take lo).map fun d=>B0 d.1 d.2) (((L.drop (lo+1)).take (hi-(lo+1))).map fun d=>B0 d.1 d.2) ((L.drop (hi+1)).map fun d=>B0 d.1 d.2) (B0 (gg L lo).1 (gg L lo).2) (B0 (gg L hi).1 (gg L hi).2) p
   simp only [List.append_assoc,List.cons_append] at this
   exact this
 · obtain rfl:lo=hi:=by omega
   have hone:(L.drop lo).take (lo+1-lo)=[gg L lo]:=by rw [hdl,show lo+1-lo=1 by omega];rfl
   have hall:L=L.take lo++(gg L lo :: L.drop (lo+1)):=by conv=>lhs;rw [hL,hdl]
   conv=>rhs;rw [hall]
   rw [hone,ht,hd]
   simp only [gl,List.map_append,List.map_cons,List.map_nil,List.append_assoc,List.cons_append,List.nil_append]
   exact winds_cut1 _ _ _ p
theorem exN (L:List G2) (z:Int) (h0 : 0<=z:=by exact (wrap_at _).1):∃ n:Nat,(n:Int)=z%(L.length:Int):=by
 by_cases h:L.length=0
 · exact ⟨z.toNat,by rw [h];simp;omega⟩
 · exact ⟨(z%(L.length:Int)).toNat,Int.toNat_of_nonneg (Int.emod_nonneg _ (by omega))⟩
theorem nV (w:World) (va:Value) (l:List G2) (x0 y0 d i0 k0:Int) (Ha:GsV w.heap.size w va l) (hIn:∀ d ∈ l,eD d) (hs:Small (x0,y0,d)) (hi0 : -9223372036854775808<=i0) (hi1:i0<=9223372036854775807) (hk0 : -9223372036854775808<=k0) (hk1:k0<=9223372036854775807) (hTab:Tab w) :
 Calls Tryd.prog 5 #[va,.agg #[.int .i64 x0,.int .i64 y0,.int .i64 d],.int .i64 i0,.int .i64 k0] w (fun e w'=>e = .returned (.bool true)/\w.grownBy w' none):=by
 obtain ⟨L,hLe⟩:∃ L,l.take 30=L:=⟨_,rfl⟩
 have hL30:L.length<=30:=by rw [<- hLe];simp;omega
 have hI:∀ d ∈ L,eD d:=fun d hd=>hIn d (List.mem_of_mem_take (hLe ▸ hd))
 obtain ⟨ii,hii⟩:∃ n:Nat,(n:Int)=IntKind.u64.wrap i0%(L.length:Int):=exN L (IntKind.u64.wrap i0)
 obtain ⟨kk,hkk⟩:∃ n:Nat,(n:Int)=IntKind.u64.wrap k0%(L.length:Int):=exN L (IntKind.u64.wrap k0)
 obtain ⟨lo,hlo_⟩:∃ n,n=min ii kk:=⟨_,rfl⟩
 obtain ⟨hi,hhi_⟩:∃ n,n=max ii kk:=⟨_,rfl⟩
 have hcase:L.length=0\/0<L.length:=by omega
 rcases hcase with hn0 | hn0
 rotate_left
 have hi1:ii<L.length:=by have:=Int.emod_lt_of_pos (IntKind.u64.wrap i0) (show (0:Int)<L.length by omega);omega
 have hk1:kk<L.length:=by have:=Int.emod_lt_of_pos (IntKind.u64.wrap k0) (show (0:Int)<L.length by omega);omega
 have hlo:lo<=hi:=by omega
 have hhi:hi<L.length:=by omega
 cases h_row:dec (OnR (gl L) (lat x0 y0 d))
 cases h_one:dec (OnR (gl ((L.drop lo).take (hi+1-lo))) (lat x0 y0 d))
 cases h_oth:dec (OnR (gl (L.take (lo+1)++L.drop hi)) (lat x0 y0 d))
 · skip
   refine G6 B3 Tryd.func5 [sGe w.heap.size va l,sDt x0 y0 d,sZ i0,sZ k0] (fun x:Option Nat=>[oA w.heap.size va L,sZ L.length,sV (.bool false),sC (.int .u64 (IntKind.u64.wrap i0)) rfl,sZ L.length,sC (.int .u64 (L.length:Int)) rfl,sC (.int .u64 (IntKind.u64.wrap i0%(L.length:Int))) rfl,sZ (ii:Int),sC (.int .u64 (IntKind.u64.wrap k0)) rfl,sZ L.length,sC (.int .u64 (L.length:Int)) rfl,sC (.int .u64 (IntKind.u64.wrap k0%(L.length:Int))) rfl,sZ (kk:Int),sC (.bool (decide (kk<ii))) rfl,sZ (lo:Int),sZ (hi:Int),sOa false kG w.heap.size (fun _=>True) [],sZ ((hi:Int)+1),sGs w.heap.size ((L.drop lo).take (hi+1-lo)),sOa false kG w.heap.size (fun _=>True) ((L.drop lo).take (hi+1-lo)),sOa false kG w.heap.size (fun o=>o=x) ((L.drop lo).take (hi+1-lo)),sOe kG w.heap.size (fun o=>o≠none/\o≠x) [],sZ ((lo:Int)+1),sGs w.heap.size (L.take (lo+1)),sOa true kG w.heap.size (fun o=>o≠none/\o≠x) (L.take (lo+1)),sGs w.heap.size (L.drop hi),sOa false kG w.heap.size (fun _=>True) (L.take (lo+1)++L.drop hi),sPt (lat x0 y0 d),kS (arN (gl L) (lat x0 y0 d)) false,kS (arN (gl ((L.drop lo).take (hi+1-lo))) (lat x0 y0 d)) false,kS (arN (gl (L.take (lo+1)++L.drop hi)) (lat x0 y0 d)) false,sV (.bool true),sZ (arN (gl ((L.drop lo).take (hi+1-lo))) (lat x0 y0 d)+arN (gl (L.take (lo+1)++L.drop hi)) (lat x0 y0 d)),sV (.bool true)]) (fun _ _=>0) (none) (fun _=>rfl) [2000008,3000020,3000023] [some [[.t 2],[.t 3]],some [[],[.t 9]]] (.cons ⟨rfl,Ha⟩ (.cons rfl (.cons rfl (.cons rfl .nil)))) (rs:=[(cl 4 13 [on 0],[]),(co 5 (.call ⟨.builtin .len, #[(.tmp 23)], #[43]⟩) 3 [on 4] [0,1,2,3,4] [],[]),(co 6 (.binOp .eql 3 (.tmp 24) (.const (.int .i64 0)) 3) 4 [on 5,.v false [.lit (.int .i64 0)]] [0,1,2,3,4,5] [],[]),(co 7 (.convert 3 52 (.tmp 27)) 52 [on 2] [0,1,2,3,4,5,6] [],[]),(co 8 (.call ⟨.builtin .len, #[(.tmp 29)], #[43]⟩) 3 [on 4] [0,1,2,3,4,5,6] [],[]),(co 9 (.convert 3 52 (.tmp 30)) 52 [on 8] [0,1,2,3,4,5,6,8] [],[]),(co 10 (.binOp .rem 52 (.tmp 28) (.tmp 31) 52) 52 [on 7,on 9] [0,1,2,3,4,5,6,7,8,9] [],[]),(co 11 (.convert 52 3 (.tmp 32)) 3 [on 10] [0,1,2,3,4,5,6,7,8,9,10] [],[]),(co 12 (.convert 3 52 (.tmp 34)) 52 [on 3] [0,1,2,3,4,5,6] [],[]),(co 13 (.call ⟨.builtin .len, #[(.tmp 36)], #[43]⟩) 3 [on 4] [0,1,2,3,4,5,6] [],[]),(co 14 (.convert 3 52 (.tmp 37)) 52 [on 13] [0,1,2,3,4,5,6,13] [],[]),(co 15 (.binOp .rem 52 (.tmp 35) (.tmp 38) 52) 52 [on 12,on 14] [0,1,2,3,4,5,6,12,13,14] [],[]),(co 16 (.convert 52 3 (.tmp 39)) 3 [on 15] [0,1,2,3,4,5,6,12,13,14,15] [],[]),(co 17 (.binOp .gtr 3 (.tmp 41) (.tmp 42) 3) 4 [on 11,on 16] [0,1,2,3,4,5,6,7,8,9,10,11,12,13,14,15,16] [],[]),(cog 20 (.buildSlice 43 0 #[]) 43 [] [0,1,2,3,4,5,6,7,8,9,10,11,12,13,14,15,16,17,18,19] [],[]),(co 21 (.binOp .add 3 (.tmp 49) (.const (.int .i64 1)) 3) 3 [on 19,.v false [.lit (.int .i64 1)]] [0,1,2,3,4,5,6,7,8,9,10,11,12,13,14,15,16,17,18,19] [],[]),(co 22 (.slice 43 (.tmp 47) (some (.tmp 48)) (some (.tmp 50)) none) 43 [on 4,on 18,on 21] [0,1,2,3,4,5,6,7,8,9,10,11,12,13,14,15,16,17,18,19,21] [],[]),(cow 23 (.call ⟨.builtin .append, #[(.tmp 46),(.tmp 51)], #[43,43]⟩) 43 [on 20,on 22] [0,1,2,3,4,5,6,7,8,9,10,11,12,13,14,15,16,17,18,19,20,21,22] [],[]),(cog 25 (.buildSlice 43 0 #[]) 43 [] [0,1,2,3,4,5,6,7,8,9,10,11,12,13,14,15,16,17,18,19,21,22,24] [],[]),(co 26 (.binOp .add 3 (.tmp 55) (.const (.int .i64 1)) 3) 3 [on 18,.v false [.lit (.int .i64 1)]] [0,1,2,3,4,5,6,7,8,9,10,11,12,13,14,15,16,17,18,19,21,22,24] [],[]),(co 27 (.slice 43 (.tmp 54) none (some (.tmp 56)) none) 43 [on 4,on 26] [0,1,2,3,4,5,6,7,8,9,10,11,12,13,14,15,16,17,18,19,21,22,24,26] [],[]),(cog 28 (.call ⟨.builtin .append, #[(.tmp 53),(.tmp 57)], #[43,43]⟩) 43 [on 25,on 27] [0,1,2,3,4,5,6,7,8,9,10,11,12,13,14,15,16,17,18,19,21,22,24,25,26,27] [],[]),(co 29 (.slice 43 (.tmp 59) (some (.tmp 60)) none none) 43 [on 4,on 19] [0,1,2,3,4,5,6,7,8,9,10,11,12,13,14,15,16,17,18,19,21,22,24] [],[]),(cow 30 (.call ⟨.builtin .append, #[(.tmp 58),(.tmp 61)], #[43,43]⟩) 43 [on 28,on 29] [0,1,2,3,4,5,6,7,8,9,10,11,12,13,14,15,16,17,18,19,21,22,24,25,26,27,28,29] [],[]),(cla 31 6 [ag 3 1] [0,1,2,3,4,5,6,7,8,9,10,11,12,13,14,15,16,17,18,19,21,22,24,25,26,27,28,29,30],[]),(cla 32 14 [on 4,ag 8 31] [0,1,2,3,4,5,6,7,8,9,10,11,12,13,14,15,16,17,18,19,21,22,24,25,26,27,28,29,30,31],[]),(cla 33 14 [on 24,ag 8 31] [0,1,2,3,4,5,6,7,8,9,10,11,12,13,14,15,16,17,18,19,21,22,24,25,26,27,28,29,30,31,32],[]),(cla 34 14 [on 30,ag 8 31] [0,1,2,3,4,5,6,7,8,9,10,11,12,13,14,15,16,17,18,19,21,22,24,25,26,27,28,29,30,31,32,33],[]),(cla 35 15 [] [0,1,2,3,4,5,6,7,8,9,10,11,12,13,14,15,16,17,18,19,21,22,24,25,26,27,28,29,30,31,32,33,34],[]),(co 36 (.binOp .add 3 (.tmp 93) (.tmp 94) 3) 3 [on 33,on 34] [0,1,2,3,4,5,6,7,8,9,10,11,12,13,14,15,16,17,18,19,21,22,24,25,26,27,28,29,30,31,32,33,34,35] [],[]),(co 37 (.binOp .eql 3 (.tmp 95) (.tmp 96) 3) 4 [on 36,on 32] [0,1,2,3,4,5,6,7,8,9,10,11,12,13,14,15,16,17,18,19,21,22,24,25,26,27,28,29,30,31,32,33,34,35,36] [],[])]) (js:=[.test 17 0 (List.range 18) [],.meet [(18,on 16),(19,on 11)] (List.range 18) [(17,0,true)],.meet [(18,on 11),(19,on 16)] (List.range 18) [(17,0,false)],.loop false 24 [(24,on 23)] (List.range 24) []]) (outs:=[⟨.v false [.lit (.bool true)],[0,1,2,3,4,5,6,7,8,9,10,11,12,13,14,15,16,17,18,19,21,22,24,25,26,27,28,29,30,31,32,33,34,35,36,37],[],[],[]⟩]) (nc:=38) (by kernel_rfl)
    (fun x=>⟨fun σ W g h hp hb=>by
     have e : σ.an 0 0=va:=(h 0 rfl).1
     have h0:GsV w.heap.size W (σ.an 0 0) l:=(h 0 rfl).2
     rw [e] at h0
     show Calls _ _ #[σ.an 0 0] W _
     rw [e, <- hLe]
     exact oN g.size (fun q hq=>⟨0,rfl,by show fpS (σ.an 0 0) q;rw [e];exact hq⟩) (fun q hq=>(h0.block hq).1) (T7 W va l (h0.up g.size) hIn),
    fun σ W g h hp hb=>fun ρ o ho _ hv=>⟨_,J8 (L5 (h 4 rfl)) ho (B2 hv) ⟨48,by kernel_rfl⟩,rfl⟩,
    fun σ W g h hp hb=>fun ρ o ho _ hv=>⟨_,C8 false ho ((A1 hv).1.trans (h 5 rfl)) (A1 hv).2 (decide_eq_false (by omega)),rfl⟩,
    fun σ W g h hp hb=>fun ρ o ho _ hv=>⟨_,J2 ho ((B2 hv).trans (h 2 rfl)),rfl⟩,
    fun σ W g h hp hb=>fun ρ o ho _ hv=>⟨_,J8 (L5 (h 4 rfl)) ho (B2 hv) ⟨48,by kernel_rfl⟩,rfl⟩,
    fun σ W g h hp hb=>fun ρ o ho _ hv=>⟨_,J2 ho ((B2 hv).trans (h 8 rfl)),congrArg (Value.int .u64) (wrapN (by omega))⟩,
    fun σ W g h hp hb=>fun ρ o ho _ hv=>⟨_,O9 ho ((A1 hv).1.trans (h 7 rfl)) ((A1 hv).2.trans (h 9 rfl)) (by omega),rfl⟩,
    fun σ W g h hp hb=>fun ρ o ho _ hv=>⟨_,T1 ho ((B2 hv).trans (h 10 rfl)) (by omega) (by omega),congrArg (Value.int .i64) hii.symm⟩,
    fun σ W g h hp hb=>fun ρ o ho _ hv=>⟨_,J2 ho ((B2 hv).trans (h 3 rfl)),rfl⟩,
    fun σ W g h hp hb=>fun ρ o ho _ hv=>⟨_,J8 (L5 (h 4 rfl)) ho (B2 hv) ⟨48,by kernel_rfl⟩,rfl⟩,
    fun σ W g h hp hb=>fun ρ o ho _ hv=>⟨_,J2 ho ((B2 hv).trans (h 13 rfl)),congrArg (Value.int .u64) (wrapN (by omega))⟩,
    fun σ W g h hp hb=>fun ρ o ho _ hv=>⟨_,O9 ho ((A1 hv).1.trans (h 12 rfl)) ((A1 hv).2.trans (h 14 rfl)) (by omega),rfl⟩,
    fun σ W g h hp hb=>fun ρ o ho _ hv=>⟨_,T1 ho ((B2 hv).trans (h 15 rfl)) (by omega) (by omega),congrArg (Value.int .i64) hkk.symm⟩,
    fun σ W g h hp hb=>fun ρ o ho _ hv=>⟨_,rN ho ((A1 hv).1.trans (h 11 rfl)) ((A1 hv).2.trans (h 16 rfl)),rfl⟩,
    fun σ W g h hp hb=>fun ρ o ho _ hv=>aR (by
     obtain ⟨v,W2,r1,r2,r3,r4⟩:=aZ kG (W:=W) (by kernel_rfl) (by kernel_rfl) g.size ho
     refine ⟨v,W2,r1,r2,⟨r3, ?_⟩,fun q hq=>by have hq:v.ownBlock=some q:=hq;rw [r4] at hq;cases hq;exact Nat.le_refl _⟩
     rw [r4]
     exact trivial),
    fun σ W g h hp hb=>fun ρ o ho _ hv=>⟨_,B7 ho ((A1 hv).1.trans (h 19 rfl)) (A1 hv).2 (M3 (by omega) (by omega)),rfl⟩,
    fun σ W g h hp hb=>fun ρ o ho _ hv=>by
     obtain ⟨u,h1,h2,h3⟩:=S1 (i:=lo) (k:=hi+1) (L5 (h 4 rfl)) ho (G8 hv).1 (.inl (congrArg some ((G8 hv).2.1.trans (h 18 rfl)))) (.inl (congrArg some (((G8 hv).2.2.trans (h 21 rfl)).trans (by push_cast;rfl)))) (by omega) (by omega)
     exact ⟨u,h1,h2,fun q hq=>⟨4,rfl,⟨_,_,rfl,.inl (h3 q hq)⟩⟩⟩,
    fun σ W g h hp hb=>fun ρ o ho _ hv=>aV kG (b0:=false) (A0:=(fun _=>True)) (l:=[]) (A2:=(fun _=>True)) (l2:=((L.drop lo).take (hi+1-lo))) g (m0:=20) rfl rfl rfl rfl (h 20 rfl) (fun _ _=>trivial) (J7 kG (by kernel_rfl) J1 (by decide) (fun W cs d=>M0) (h 20 rfl).1 (GsV.rwV (h 22 rfl)) (by simp;omega) g.size ho (A1 hv).1 (A1 hv).2)
        (fun m hm hne hr=>by
        match m,hm,hne,hr with
        | 0,_,_,_=>exact .inl ⟨h 0 rfl,fun q hq=>C0 (h 20 rfl).1 (GsV.block (h 0 rfl).2 hq)⟩
        | 1,_,_,hr=>exact absurd hr Bool.false_ne_true
        | 2,_,_,hr=>exact absurd hr Bool.false_ne_true
        | 3,_,_,hr=>exact absurd hr Bool.false_ne_true
        | 4,_,_,_=>exact .inl ⟨h 4 rfl,fun q hq=>N7 (h 4 rfl) (h 20 rfl).1 hq⟩
        | 5,_,_,hr=>exact absurd hr Bool.false_ne_true
        | 6,_,_,hr=>exact absurd hr Bool.false_ne_true
        | 7,_,_,hr=>exact absurd hr Bool.false_ne_true
        | 8,_,_,hr=>exact absurd hr Bool.false_ne_true
        | 9,_,_,hr=>exact absurd hr Bool.false_ne_true
        | 10,_,_,hr=>exact absurd hr Bool.false_ne_true
        | 11,_,_,hr=>exact absurd hr Bool.false_ne_true
        | 12,_,_,hr=>exact absurd hr Bool.false_ne_true
        | 13,_,_,hr=>exact absurd hr Bool.false_ne_true
        | 14,_,_,hr=>exact absurd hr Bool.false_ne_true
        | 15,_,_,hr=>exact absurd hr Bool.false_ne_true
        | 16,_,_,hr=>exact absurd hr Bool.false_ne_true
        | 17,_,_,hr=>exact absurd hr Bool.false_ne_true
        | 18,_,_,hr=>exact absurd hr Bool.false_ne_true
        | 19,_,_,hr=>exact absurd hr Bool.false_ne_true
        | 20,_,hne,_=>exact absurd rfl hne
        | 21,_,_,hr=>exact absurd hr Bool.false_ne_true
        | 22,_,_,_=>exact .inl ⟨h 22 rfl,fun q hq=>C0 (h 20 rfl).1 (GsV.block (h 22 rfl) hq)⟩
        | j+23,hm,_,_=>exact absurd hm (by simp)),
    fun σ W g h hp hb=>fun ρ o ho _ hv=>aR (by
     obtain ⟨v,W2,r1,r2,r3,r4,r5⟩:=X0 kG (W:=W) (by kernel_rfl) (by kernel_rfl) g.size ho
     refine ⟨v,W2,r1,r2,⟨r3, ?_,r5⟩,fun q hq=>by have hq:v.ownBlock=some q:=hq;rw [r4] at hq;cases hq;exact Nat.le_refl _⟩
     rw [r4]
     exact ⟨(fun e=>nomatch e),fun e=>by have e4:(σ.an 24 0).ownBlock=x:=(h 24 rfl).2;exact absurd ((h 24 rfl).1.inb (e4.trans e.symm)).1 (Nat.lt_irrefl _)⟩),
    fun σ W g h hp hb=>fun ρ o ho _ hv=>⟨_,B7 ho ((A1 hv).1.trans (h 18 rfl)) (A1 hv).2 (M3 (by omega) (by omega)),rfl⟩,
    fun σ W g h hp hb=>fun ρ o ho _ hv=>by
     obtain ⟨u,h1,h2,h3⟩:=S1 (i:=0) (k:=lo+1) (L5 (h 4 rfl)) ho (A1 hv).1 (.inr ⟨rfl,rfl⟩) (.inl (congrArg some (((A1 hv).2.trans (h 26 rfl)).trans (by push_cast;rfl)))) (by omega) (by omega)
     exact ⟨u,h1,(show GsV w.heap.size W u (L.take (lo+1)) by simpa using h2),fun q hq=>⟨4,rfl,⟨_,_,rfl,.inl (h3 q hq)⟩⟩⟩,
    fun σ W g h hp hb=>fun ρ o ho _ hv=>aR (by
     obtain ⟨v,W2,r1,r2,r3,r4⟩:=bB kG (by kernel_rfl) J1 (by decide) (fun W cs d=>M0) (h 25 rfl).1 (h 25 rfl).2.2 (GsV.rwV (h 27 rfl)) (fun e=>by have:=congrArg List.length e;rw [List.length_take,List.length_nil] at this;omega) (by simp;omega) g.size ho (A1 hv).1 (A1 hv).2
     refine ⟨v,W2,r1,r2,⟨r3, ?_⟩,fun q hq=>by have hq:v.ownBlock=some q:=hq;rw [r4] at hq;cases hq;exact Nat.le_refl _⟩
     rw [r4]
     exact ⟨(fun e=>nomatch e),fun e=>by have e4:(σ.an 24 0).ownBlock=x:=(h 24 rfl).2;exact absurd ((h 24 rfl).1.inb (e4.trans e.symm)).1 (Nat.lt_irrefl _)⟩),
    fun σ W g h hp hb=>fun ρ o ho _ hv=>by
     obtain ⟨u,h1,h2,h3⟩:=S1 (i:=hi) (k:=L.length) (L5 (h 4 rfl)) ho (A1 hv).1 (.inl (congrArg some ((A1 hv).2.trans (h 19 rfl)))) (.inr ⟨rfl,rfl⟩) (by omega) (by omega)
     exact ⟨u,h1,(by rw [List.take_of_length_le (by simp)] at h2;exact h2),fun q hq=>⟨4,rfl,⟨_,_,rfl,.inl (h3 q hq)⟩⟩⟩,
    fun σ W g h hp hb=>fun ρ o ho _ hv=>aV kG (b0:=true) (A0:=(fun o=>o≠none/\o≠x)) (l:=(L.take (lo+1))) (A2:=(fun _=>True)) (l2:=(L.take (lo+1)++L.drop hi)) g (m0:=28) rfl rfl rfl rfl (h 28 rfl) (fun _ _=>trivial) (J7 kG (by kernel_rfl) J1 (by decide) (fun W cs d=>M0) (h 28 rfl).1 (GsV.rwV (h 29 rfl)) (by simp;omega) g.size ho (A1 hv).1 (A1 hv).2)
        (fun m hm hne hr=>by
        match m,hm,hne,hr with
        | 0,_,_,_=>exact .inl ⟨h 0 rfl,fun q hq=>C0 (h 28 rfl).1 (GsV.block (h 0 rfl).2 hq)⟩
        | 1,_,_,hr=>exact absurd hr Bool.false_ne_true
        | 2,_,_,hr=>exact absurd hr Bool.false_ne_true
        | 3,_,_,hr=>exact absurd hr Bool.false_ne_true
        | 4,_,_,_=>exact .inl ⟨h 4 rfl,fun q hq=>N7 (h 4 rfl) (h 28 rfl).1 hq⟩
        | 5,_,_,hr=>exact absurd hr Bool.false_ne_true
        | 6,_,_,hr=>exact absurd hr Bool.false_ne_true
        | 7,_,_,hr=>exact absurd hr Bool.false_ne_true
        | 8,_,_,hr=>exact absurd hr Bool.false_ne_true
        | 9,_,_,hr=>exact absurd hr Bool.false_ne_true
        | 10,_,_,hr=>exact absurd hr Bool.false_ne_true
        | 11,_,_,hr=>exact absurd hr Bool.false_ne_true
        | 12,_,_,hr=>exact absurd hr Bool.false_ne_true
        | 13,_,_,hr=>exact absurd hr Bool.false_ne_true
        | 14,_,_,hr=>exact absurd hr Bool.false_ne_true
        | 15,_,_,hr=>exact absurd hr Bool.false_ne_true
        | 16,_,_,hr=>exact absurd hr Bool.false_ne_true
        | 17,_,_,hr=>exact absurd hr Bool.false_ne_true
        | 18,_,_,hr=>exact absurd hr Bool.false_ne_true
        | 19,_,_,hr=>exact absurd hr Bool.false_ne_true
        | 20,hm,_,_=>exact absurd hm Bool.false_ne_true
        | 21,_,_,hr=>exact absurd hr Bool.false_ne_true
        | 22,_,_,_=>exact .inl ⟨h 22 rfl,fun q hq=>C0 (h 28 rfl).1 (GsV.block (h 22 rfl) hq)⟩
        | 23,hm,_,_=>exact absurd hm Bool.false_ne_true
        | 24,_,_,_=>exact .inl ⟨h 24 rfl,fun q hq=>Q8 (h 28 rfl).2.2 ((h 24 rfl).2.symm.trans hq)⟩
        | 25,_,_,_=>exact .inr (.inr ⟨(fun o=>o≠none/\o≠x),[],rfl,Nat.zero_le _,h 25 rfl⟩)
        | 26,_,_,hr=>exact absurd hr Bool.false_ne_true
        | 27,_,_,_=>exact .inl ⟨h 27 rfl,fun q hq=>C0 (h 28 rfl).1 (GsV.block (h 27 rfl) hq)⟩
        | 28,_,hne,_=>exact absurd rfl hne
        | 29,_,_,_=>exact .inl ⟨h 29 rfl,fun q hq=>C0 (h 28 rfl).1 (GsV.block (h 29 rfl) hq)⟩
        | j+30,hm,_,_=>exact absurd hm (by simp)),
    fun σ W g h hp hb=>V3 (congrArg (fun v=>[v]) (h 1 rfl)) (J4 W x0 y0 d hs.1.1 hs.1.2 hs.2.1 hs.2.2 (hTab.kept g (by simp))),
    fun σ W g h hp hb=>eH h_row (D3 W _ _ L (lat x0 y0 d) 1 ((L5 (h 4 rfl)).up g.size) (h 31 rfl) (by omega) (by omega) hI (A8 hs.1.1 hs.1.2 hs.2.1 hs.2.2) (hTab.kept g (by simp))),
    fun σ W g h hp hb=>eH h_one (D3 W _ _ ((L.drop lo).take (hi+1-lo)) (lat x0 y0 d) 1 (h 24 rfl).1.gs (h 31 rfl) (by omega) (by simp;omega) (fun d hd=>hI d (List.mem_of_mem_drop (List.mem_of_mem_take hd))) (A8 hs.1.1 hs.1.2 hs.2.1 hs.2.2) (hTab.kept g (by simp))),
    fun σ W g h hp hb=>eH h_oth (D3 W _ _ (L.take (lo+1)++L.drop hi) (lat x0 y0 d) 1 (h 30 rfl).1.gs (h 31 rfl) (by omega) (by simp;omega) (fun d hd=>hI d ((List.mem_append.1 hd).elim List.mem_of_mem_take List.mem_of_mem_drop)) (A8 hs.1.1 hs.1.2 hs.2.1 hs.2.2) (hTab.kept g (by simp))),
    fun σ W g h hp hb=>toV (O0 W (hTab.kept g (by simp))) rfl,
    fun σ W g h hp hb=>fun ρ o ho _ hv=>⟨_,B7 ho ((A1 hv).1.trans (arB1 (h 33 rfl))) ((A1 hv).2.trans (arB1 (h 34 rfl))) (by
     have h1:=sJ (gl ((L.drop lo).take (hi+1-lo))) (by simp [gl];omega) (lat x0 y0 d)
     have h2:=sJ (gl (L.take (lo+1)++L.drop hi)) (by simp [gl];omega) (lat x0 y0 d)
     exact M3 (by omega) (by omega)),rfl⟩,
    fun σ W g h hp hb=>fun ρ o ho _ hv=>⟨_,C8 true ho ((A1 hv).1.trans (h 36 rfl)) ((A1 hv).2.trans (arB1 (h 32 rfl))) (decide_eq_true (cut_sum hlo hhi (of_dec h_row) (of_dec h_one) (of_dec h_oth))),rfl⟩,
    trivial⟩)
    (fun x=>⟨fun σ W g h hp=>⟨_,h 17 rfl⟩,
    fun σ W g h hp=>by
     have q:kk<ii:=of_decide_eq_true (F0 (h 17 rfl) (hp 17 0 true rfl))
     exact ⟨(h 16 rfl).trans (by rw [hlo_];congr 1;omega),(h 11 rfl).trans (by rw [hhi_];congr 1;omega),trivial⟩,
    fun σ W g h hp=>by
     have q:¬ kk<ii:=of_decide_eq_false (F0 (h 17 rfl) (hp 17 0 false rfl))
     exact ⟨(h 11 rfl).trans (by rw [hlo_];congr 1;omega),(h 16 rfl).trans (by rw [hhi_];congr 1;omega),trivial⟩,
    fun σ W g h hp=>⟨(σ.an 23 0).ownBlock,(fun e=>nomatch e),⟨rfl,fun m hm=>rfl⟩,⟨⟨(h 23 rfl).1,rfl⟩,fun q hq=>⟨23,rfl,hq⟩⟩,trivial⟩,
    trivial⟩)
    (fun x hk=>⟨fun τ W g h hp hb=>⟨rfl,g⟩,
    trivial⟩)
 · skip
   refine G6 B3 Tryd.func5 [sGe w.heap.size va l,sDt x0 y0 d,sZ i0,sZ k0] (fun x:Option Nat=>[oA w.heap.size va L,sZ L.length,sV (.bool false),sC (.int .u64 (IntKind.u64.wrap i0)) rfl,sZ L.length,sC (.int .u64 (L.length:Int)) rfl,sC (.int .u64 (IntKind.u64.wrap i0%(L.length:Int))) rfl,sZ (ii:Int),sC (.int .u64 (IntKind.u64.wrap k0)) rfl,sZ L.length,sC (.int .u64 (L.length:Int)) rfl,sC (.int .u64 (IntKind.u64.wrap k0%(L.length:Int))) rfl,sZ (kk:Int),sC (.bool (decide (kk<ii))) rfl,sZ (lo:Int),sZ (hi:Int),sOa false kG w.heap.size (fun _=>True) [],sZ ((hi:Int)+1),sGs w.heap.size ((L.drop lo).take (hi+1-lo)),sOa false kG w.heap.size (fun _=>True) ((L.drop lo).take (hi+1-lo)),sOa false kG w.heap.size (fun o=>o=x) ((L.drop lo).take (hi+1-lo)),sOe kG w.heap.size (fun o=>o≠none/\o≠x) [],sZ ((lo:Int)+1),sGs w.heap.size (L.take (lo+1)),sOa true kG w.heap.size (fun o=>o≠none/\o≠x) (L.take (lo+1)),sGs w.heap.size (L.drop hi),sOa false kG w.heap.size (fun _=>True) (L.take (lo+1)++L.drop hi),sPt (lat x0 y0 d),kS (arN (gl L) (lat x0 y0 d)) false,kS (arN (gl ((L.drop lo).take (hi+1-lo))) (lat x0 y0 d)) false,kS (arN (gl (L.take (lo+1)++L.drop hi)) (lat x0 y0 d)) true,sV (.bool true)]) (fun _ _=>0) (none) (fun _=>rfl) [2000008,3000020,3000023] [some [[.t 2],[.t 3]],some [[],[.t 9]]] (.cons ⟨rfl,Ha⟩ (.cons rfl (.cons rfl (.cons rfl .nil)))) (rs:=[(cl 4 13 [on 0],[]),(co 5 (.call ⟨.builtin .len, #[(.tmp 23)], #[43]⟩) 3 [on 4] [0,1,2,3,4] [],[]),(co 6 (.binOp .eql 3 (.tmp 24) (.const (.int .i64 0)) 3) 4 [on 5,.v false [.lit (.int .i64 0)]] [0,1,2,3,4,5] [],[]),(co 7 (.convert 3 52 (.tmp 27)) 52 [on 2] [0,1,2,3,4,5,6] [],[]),(co 8 (.call ⟨.builtin .len, #[(.tmp 29)], #[43]⟩) 3 [on 4] [0,1,2,3,4,5,6] [],[]),(co 9 (.convert 3 52 (.tmp 30)) 52 [on 8] [0,1,2,3,4,5,6,8] [],[]),(co 10 (.binOp .rem 52 (.tmp 28) (.tmp 31) 52) 52 [on 7,on 9] [0,1,2,3,4,5,6,7,8,9] [],[]),(co 11 (.convert 52 3 (.tmp 32)) 3 [on 10] [0,1,2,3,4,5,6,7,8,9,10] [],[]),(co 12 (.convert 3 52 (.tmp 34)) 52 [on 3] [0,1,2,3,4,5,6] [],[]),(co 13 (.call ⟨.builtin .len, #[(.tmp 36)], #[43]⟩) 3 [on 4] [0,1,2,3,4,5,6] [],[]),(co 14 (.convert 3 52 (.tmp 37)) 52 [on 13] [0,1,2,3,4,5,6,13] [],[]),(co 15 (.binOp .rem 52 (.tmp 35) (.tmp 38) 52) 52 [on 12,on 14] [0,1,2,3,4,5,6,12,13,14] [],[]),(co 16 (.convert 52 3 (.tmp 39)) 3 [on 15] [0,1,2,3,4,5,6,12,13,14,15] [],[]),(co 17 (.binOp .gtr 3 (.tmp 41) (.tmp 42) 3) 4 [on 11,on 16] [0,1,2,3,4,5,6,7,8,9,10,11,12,13,14,15,16] [],[]),(cog 20 (.buildSlice 43 0 #[]) 43 [] [0,1,2,3,4,5,6,7,8,9,10,11,12,13,14,15,16,17,18,19] [],[]),(co 21 (.binOp .add 3 (.tmp 49) (.const (.int .i64 1)) 3) 3 [on 19,.v false [.lit (.int .i64 1)]] [0,1,2,3,4,5,6,7,8,9,10,11,12,13,14,15,16,17,18,19] [],[]),(co 22 (.slice 43 (.tmp 47) (some (.tmp 48)) (some (.tmp 50)) none) 43 [on 4,on 18,on 21] [0,1,2,3,4,5,6,7,8,9,10,11,12,13,14,15,16,17,18,19,21] [],[]),(cow 23 (.call ⟨.builtin .append, #[(.tmp 46),(.tmp 51)], #[43,43]⟩) 43 [on 20,on 22] [0,1,2,3,4,5,6,7,8,9,10,11,12,13,14,15,16,17,18,19,20,21,22] [],[]),(cog 25 (.buildSlice 43 0 #[]) 43 [] [0,1,2,3,4,5,6,7,8,9,10,11,12,13,14,15,16,17,18,19,21,22,24] [],[]),(co 26 (.binOp .add 3 (.tmp 55) (.const (.int .i64 1)) 3) 3 [on 18,.v false [.lit (.int .i64 1)]] [0,1,2,3,4,5,6,7,8,9,10,11,12,13,14,15,16,17,18,19,21,22,24] [],[]),(co 27 (.slice 43 (.tmp 54) none (some (.tmp 56)) none) 43 [on 4,on 26] [0,1,2,3,4,5,6,7,8,9,10,11,12,13,14,15,16,17,18,19,21,22,24,26] [],[]),(cog 28 (.call ⟨.builtin .append, #[(.tmp 53),(.tmp 57)], #[43,43]⟩) 43 [on 25,on 27] [0,1,2,3,4,5,6,7,8,9,10,11,12,13,14,15,16,17,18,19,21,22,24,25,26,27] [],[]),(co 29 (.slice 43 (.tmp 59) (some (.tmp 60)) none none) 43 [on 4,on 19] [0,1,2,3,4,5,6,7,8,9,10,11,12,13,14,15,16,17,18,19,21,22,24] [],[]),(cow 30 (.call ⟨.builtin .append, #[(.tmp 58),(.tmp 61)], #[43,43]⟩) 43 [on 28,on 29] [0,1,2,3,4,5,6,7,8,9,10,11,12,13,14,15,16,17,18,19,21,22,24,25,26,27,28,29] [],[]),(cla 31 6 [ag 3 1] [0,1,2,3,4,5,6,7,8,9,10,11,12,13,14,15,16,17,18,19,21,22,24,25,26,27,28,29,30],[]),(cla 32 14 [on 4,ag 8 31] [0,1,2,3,4,5,6,7,8,9,10,11,12,13,14,15,16,17,18,19,21,22,24,25,26,27,28,29,30,31],[]),(cla 33 14 [on 24,ag 8 31] [0,1,2,3,4,5,6,7,8,9,10,11,12,13,14,15,16,17,18,19,21,22,24,25,26,27,28,29,30,31,32],[]),(cla 34 14 [on 30,ag 8 31] [0,1,2,3,4,5,6,7,8,9,10,11,12,13,14,15,16,17,18,19,21,22,24,25,26,27,28,29,30,31,32,33],[]),(cla 35 15 [] [0,1,2,3,4,5,6,7,8,9,10,11,12,13,14,15,16,17,18,19,21,22,24,25,26,27,28,29,30,31,32,33,34],[])]) (js:=[.test 17 0 (List.range 18) [],.meet [(18,on 16),(19,on 11)] (List.range 18) [(17,0,true)],.meet [(18,on 11),(19,on 16)] (List.range 18) [(17,0,false)],.loop false 24 [(24,on 23)] (List.range 24) []]) (outs:=[⟨.v false [.lit (.bool true)],[0,1,2,3,4,5,6,7,8,9,10,11,12,13,14,15,16,17,18,19,21,22,24,25,26,27,28,29,30,31,32,33,34,35],[],[],[]⟩]) (nc:=36) (by kernel_rfl)
    (fun x=>⟨fun σ W g h hp hb=>by
     have e : σ.an 0 0=va:=(h 0 rfl).1
     have h0:GsV w.heap.size W (σ.an 0 0) l:=(h 0 rfl).2
     rw [e] at h0
     show Calls _ _ #[σ.an 0 0] W _
     rw [e, <- hLe]
     exact oN g.size (fun q hq=>⟨0,rfl,by show fpS (σ.an 0 0) q;rw [e];exact hq⟩) (fun q hq=>(h0.block hq).1) (T7 W va l (h0.up g.size) hIn),
    fun σ W g h hp hb=>fun ρ o ho _ hv=>⟨_,J8 (L5 (h 4 rfl)) ho (B2 hv) ⟨48,by kernel_rfl⟩,rfl⟩,
    fun σ W g h hp hb=>fun ρ o ho _ hv=>⟨_,C8 false ho ((A1 hv).1.trans (h 5 rfl)) (A1 hv).2 (decide_eq_false (by omega)),rfl⟩,
    fun σ W g h hp hb=>fun ρ o ho _ hv=>⟨_,J2 ho ((B2 hv).trans (h 2 rfl)),rfl⟩,
    fun σ W g h hp hb=>fun ρ o ho _ hv=>⟨_,J8 (L5 (h 4 rfl)) ho (B2 hv) ⟨48,by kernel_rfl⟩,rfl⟩,
    fun σ W g h hp hb=>fun ρ o ho _ hv=>⟨_,J2 ho ((B2 hv).trans (h 8 rfl)),congrArg (Value.int .u64) (wrapN (by omega))⟩,
    fun σ W g h hp hb=>fun ρ o ho _ hv=>⟨_,O9 ho ((A1 hv).1.trans (h 7 rfl)) ((A1 hv).2.trans (h 9 rfl)) (by omega),rfl⟩,
    fun σ W g h hp hb=>fun ρ o ho _ hv=>⟨_,T1 ho ((B2 hv).trans (h 10 rfl)) (by omega) (by omega),congrArg (Value.int .i64) hii.symm⟩,
    fun σ W g h hp hb=>fun ρ o ho _ hv=>⟨_,J2 ho ((B2 hv).trans (h 3 rfl)),rfl⟩,
    fun σ W g h hp hb=>fun ρ o ho _ hv=>⟨_,J8 (L5 (h 4 rfl)) ho (B2 hv) ⟨48,by kernel_rfl⟩,rfl⟩,
    fun σ W g h hp hb=>fun ρ o ho _ hv=>⟨_,J2 ho ((B2 hv).trans (h 13 rfl)),congrArg (Value.int .u64) (wrapN (by omega))⟩,
    fun σ W g h hp hb=>fun ρ o ho _ hv=>⟨_,O9 ho ((A1 hv).1.trans (h 12 rfl)) ((A1 hv).2.trans (h 14 rfl)) (by omega),rfl⟩,
    fun σ W g h hp hb=>fun ρ o ho _ hv=>⟨_,T1 ho ((B2 hv).trans (h 15 rfl)) (by omega) (by omega),congrArg (Value.int .i64) hkk.symm⟩,
    fun σ W g h hp hb=>fun ρ o ho _ hv=>⟨_,rN ho ((A1 hv).1.trans (h 11 rfl)) ((A1 hv).2.trans (h 16 rfl)),rfl⟩,
    fun σ W g h hp hb=>fun ρ o ho _ hv=>aR (by
     obtain ⟨v,W2,r1,r2,r3,r4⟩:=aZ kG (W:=W) (by kernel_rfl) (by kernel_rfl) g.size ho
     refine ⟨v,W2,r1,r2,⟨r3, ?_⟩,fun q hq=>by have hq:v.ownBlock=some q:=hq;rw [r4] at hq;cases hq;exact Nat.le_refl _⟩
     rw [r4]
     exact trivial),
    fun σ W g h hp hb=>fun ρ o ho _ hv=>⟨_,B7 ho ((A1 hv).1.trans (h 19 rfl)) (A1 hv).2 (M3 (by omega) (by omega)),rfl⟩,
    fun σ W g h hp hb=>fun ρ o ho _ hv=>by
     obtain ⟨u,h1,h2,h3⟩:=S1 (i:=lo) (k:=hi+1) (L5 (h 4 rfl)) ho (G8 hv).1 (.inl (congrArg some ((G8 hv).2.1.trans (h 18 rfl)))) (.inl (congrArg some (((G8 hv).2.2.trans (h 21 rfl)).trans (by push_cast;rfl)))) (by omega) (by omega)
     exact ⟨u,h1,h2,fun q hq=>⟨4,rfl,⟨_,_,rfl,.inl (h3 q hq)⟩⟩⟩,
    fun σ W g h hp hb=>fun ρ o ho _ hv=>aV kG (b0:=false) (A0:=(fun _=>True)) (l:=[]) (A2:=(fun _=>True)) (l2:=((L.drop lo).take (hi+1-lo))) g (m0:=20) rfl rfl rfl rfl (h 20 rfl) (fun _ _=>trivial) (J7 kG (by kernel_rfl) J1 (by decide) (fun W cs d=>M0) (h 20 rfl).1 (GsV.rwV (h 22 rfl)) (by simp;omega) g.size ho (A1 hv).1 (A1 hv).2)
        (fun m hm hne hr=>by
        match m,hm,hne,hr with
        | 0,_,_,_=>exact .inl ⟨h 0 rfl,fun q hq=>C0 (h 20 rfl).1 (GsV.block (h 0 rfl).2 hq)⟩
        | 1,_,_,hr=>exact absurd hr Bool.false_ne_true
        | 2,_,_,hr=>exact absurd hr Bool.false_ne_true
        | 3,_,_,hr=>exact absurd hr Bool.false_ne_true
        | 4,_,_,_=>exact .inl ⟨h 4 rfl,fun q hq=>N7 (h 4 rfl) (h 20 rfl).1 hq⟩
        | 5,_,_,hr=>exact absurd hr Bool.false_ne_true
        | 6,_,_,hr=>exact absurd hr Bool.false_ne_true
        | 7,_,_,hr=>exact absurd hr Bool.false_ne_true
        | 8,_,_,hr=>exact absurd hr Bool.false_ne_true
        | 9,_,_,hr=>exact absurd hr Bool.false_ne_true
        | 10,_,_,hr=>exact absurd hr Bool.false_ne_true
        | 11,_,_,hr=>exact absurd hr Bool.false_ne_true
        | 12,_,_,hr=>exact absurd hr Bool.false_ne_true
        | 13,_,_,hr=>exact absurd hr Bool.false_ne_true
        | 14,_,_,hr=>exact absurd hr Bool.false_ne_true
        | 15,_,_,hr=>exact absurd hr Bool.false_ne_true
        | 16,_,_,hr=>exact absurd hr Bool.false_ne_true
        | 17,_,_,hr=>exact absurd hr Bool.false_ne_true
        | 18,_,_,hr=>exact absurd hr Bool.false_ne_true
        | 19,_,_,hr=>exact absurd hr Bool.false_ne_true
        | 20,_,hne,_=>exact absurd rfl hne
        | 21,_,_,hr=>exact absurd hr Bool.false_ne_true
        | 22,_,_,_=>exact .inl ⟨h 22 rfl,fun q hq=>C0 (h 20 rfl).1 (GsV.block (h 22 rfl) hq)⟩
        | j+23,hm,_,_=>exact absurd hm (by simp)),
    fun σ W g h hp hb=>fun ρ o ho _ hv=>aR (by
     obtain ⟨v,W2,r1,r2,r3,r4,r5⟩:=X0 kG (W:=W) (by kernel_rfl) (by kernel_rfl) g.size ho
     refine ⟨v,W2,r1,r2,⟨r3, ?_,r5⟩,fun q hq=>by have hq:v.ownBlock=some q:=hq;rw [r4] at hq;cases hq;exact Nat.le_refl _⟩
     rw [r4]
     exact ⟨(fun e=>nomatch e),fun e=>by have e4:(σ.an 24 0).ownBlock=x:=(h 24 rfl).2;exact absurd ((h 24 rfl).1.inb (e4.trans e.symm)).1 (Nat.lt_irrefl _)⟩),
    fun σ W g h hp hb=>fun ρ o ho _ hv=>⟨_,B7 ho ((A1 hv).1.trans (h 18 rfl)) (A1 hv).2 (M3 (by omega) (by omega)),rfl⟩,
    fun σ W g h hp hb=>fun ρ o ho _ hv=>by
     obtain ⟨u,h1,h2,h3⟩:=S1 (i:=0) (k:=lo+1) (L5 (h 4 rfl)) ho (A1 hv).1 (.inr ⟨rfl,rfl⟩) (.inl (congrArg some (((A1 hv).2.trans (h 26 rfl)).trans (by push_cast;rfl)))) (by omega) (by omega)
     exact ⟨u,h1,(show GsV w.heap.size W u (L.take (lo+1)) by simpa using h2),fun q hq=>⟨4,rfl,⟨_,_,rfl,.inl (h3 q hq)⟩⟩⟩,
    fun σ W g h hp hb=>fun ρ o ho _ hv=>aR (by
     obtain ⟨v,W2,r1,r2,r3,r4⟩:=bB kG (by kernel_rfl) J1 (by decide) (fun W cs d=>M0) (h 25 rfl).1 (h 25 rfl).2.2 (GsV.rwV (h 27 rfl)) (fun e=>by have:=congrArg List.length e;rw [List.length_take,List.length_nil] at this;omega) (by simp;omega) g.size ho (A1 hv).1 (A1 hv).2
     refine ⟨v,W2,r1,r2,⟨r3, ?_⟩,fun q hq=>by have hq:v.ownBlock=some q:=hq;rw [r4] at hq;cases hq;exact Nat.le_refl _⟩
     rw [r4]
     exact ⟨(fun e=>nomatch e),fun e=>by have e4:(σ.an 24 0).ownBlock=x:=(h 24 rfl).2;exact absurd ((h 24 rfl).1.inb (e4.trans e.symm)).1 (Nat.lt_irrefl _)⟩),
    fun σ W g h hp hb=>fun ρ o ho _ hv=>by
     obtain ⟨u,h1,h2,h3⟩:=S1 (i:=hi) (k:=L.length) (L5 (h 4 rfl)) ho (A1 hv).1 (.inl (congrArg some ((A1 hv).2.trans (h 19 rfl)))) (.inr ⟨rfl,rfl⟩) (by omega) (by omega)
     exact ⟨u,h1,(by rw [List.take_of_length_le (by simp)] at h2;exact h2),fun q hq=>⟨4,rfl,⟨_,_,rfl,.inl (h3 q hq)⟩⟩⟩,
    fun σ W g h hp hb=>fun ρ o ho _ hv=>aV kG (b0:=true) (A0:=(fun o=>o≠none/\o≠x)) (l:=(L.take (lo+1))) (A2:=(fun _=>True)) (l2:=(L.take (lo+1)++L.drop hi)) g (m0:=28) rfl rfl rfl rfl (h 28 rfl) (fun _ _=>trivial) (J7 kG (by kernel_rfl) J1 (by decide) (fun W cs d=>M0) (h 28 rfl).1 (GsV.rwV (h 29 rfl)) (by simp;omega) g.size ho (A1 hv).1 (A1 hv).2)
        (fun m hm hne hr=>by
        match m,hm,hne,hr with
        | 0,_,_,_=>exact .inl ⟨h 0 rfl,fun q hq=>C0 (h 28 rfl).1 (GsV.block (h 0 rfl).2 hq)⟩
        | 1,_,_,hr=>exact absurd hr Bool.false_ne_true
        | 2,_,_,hr=>exact absurd hr Bool.false_ne_true
        | 3,_,_,hr=>exact absurd hr Bool.false_ne_true
        | 4,_,_,_=>exact .inl ⟨h 4 rfl,fun q hq=>N7 (h 4 rfl) (h 28 rfl).1 hq⟩
        | 5,_,_,hr=>exact absurd hr Bool.false_ne_true
        | 6,_,_,hr=>exact absurd hr Bool.false_ne_true
        | 7,_,_,hr=>exact absurd hr Bool.false_ne_true
        | 8,_,_,hr=>exact absurd hr Bool.false_ne_true
        | 9,_,_,hr=>exact absurd hr Bool.false_ne_true
        | 10,_,_,hr=>exact absurd hr Bool.false_ne_true
        | 11,_,_,hr=>exact absurd hr Bool.false_ne_true
        | 12,_,_,hr=>exact absurd hr Bool.false_ne_true
        | 13,_,_,hr=>exact absurd hr Bool.false_ne_true
        | 14,_,_,hr=>exact absurd hr Bool.false_ne_true
        | 15,_,_,hr=>exact absurd hr Bool.false_ne_true
        | 16,_,_,hr=>exact absurd hr Bool.false_ne_true
        | 17,_,_,hr=>exact absurd hr Bool.false_ne_true
        | 18,_,_,hr=>exact absurd hr Bool.false_ne_true
        | 19,_,_,hr=>exact absurd hr Bool.false_ne_true
        | 20,hm,_,_=>exact absurd hm Bool.false_ne_true
        | 21,_,_,hr=>exact absurd hr Bool.false_ne_true
        | 22,_,_,_=>exact .inl ⟨h 22 rfl,fun q hq=>C0 (h 28 rfl).1 (GsV.block (h 22 rfl) hq)⟩
        | 23,hm,_,_=>exact absurd hm Bool.false_ne_true
        | 24,_,_,_=>exact .inl ⟨h 24 rfl,fun q hq=>Q8 (h 28 rfl).2.2 ((h 24 rfl).2.symm.trans hq)⟩
        | 25,_,_,_=>exact .inr (.inr ⟨(fun o=>o≠none/\o≠x),[],rfl,Nat.zero_le _,h 25 rfl⟩)
        | 26,_,_,hr=>exact absurd hr Bool.false_ne_true
        | 27,_,_,_=>exact .inl ⟨h 27 rfl,fun q hq=>C0 (h 28 rfl).1 (GsV.block (h 27 rfl) hq)⟩
        | 28,_,hne,_=>exact absurd rfl hne
        | 29,_,_,_=>exact .inl ⟨h 29 rfl,fun q hq=>C0 (h 28 rfl).1 (GsV.block (h 29 rfl) hq)⟩
        | j+30,hm,_,_=>exact absurd hm (by simp)),
    fun σ W g h hp hb=>V3 (congrArg (fun v=>[v]) (h 1 rfl)) (J4 W x0 y0 d hs.1.1 hs.1.2 hs.2.1 hs.2.2 (hTab.kept g (by simp))),
    fun σ W g h hp hb=>eH h_row (D3 W _ _ L (lat x0 y0 d) 1 ((L5 (h 4 rfl)).up g.size) (h 31 rfl) (by omega) (by omega) hI (A8 hs.1.1 hs.1.2 hs.2.1 hs.2.2) (hTab.kept g (by simp))),
    fun σ W g h hp hb=>eH h_one (D3 W _ _ ((L.drop lo).take (hi+1-lo)) (lat x0 y0 d) 1 (h 24 rfl).1.gs (h 31 rfl) (by omega) (by simp;omega) (fun d hd=>hI d (List.mem_of_mem_drop (List.mem_of_mem_take hd))) (A8 hs.1.1 hs.1.2 hs.2.1 hs.2.2) (hTab.kept g (by simp))),
    fun σ W g h hp hb=>eH h_oth (D3 W _ _ (L.take (lo+1)++L.drop hi) (lat x0 y0 d) 1 (h 30 rfl).1.gs (h 31 rfl) (by omega) (by simp;omega) (fun d hd=>hI d ((List.mem_append.1 hd).elim List.mem_of_mem_take List.mem_of_mem_drop)) (A8 hs.1.1 hs.1.2 hs.2.1 hs.2.2) (hTab.kept g (by simp))),
    fun σ W g h hp hb=>toV (O0 W (hTab.kept g (by simp))) rfl,
    trivial⟩)
    (fun x=>⟨fun σ W g h hp=>⟨_,h 17 rfl⟩,
    fun σ W g h hp=>by
     have q:kk<ii:=of_decide_eq_true (F0 (h 17 rfl) (hp 17 0 true rfl))
     exact ⟨(h 16 rfl).trans (by rw [hlo_];congr 1;omega),(h 11 rfl).trans (by rw [hhi_];congr 1;omega),trivial⟩,
    fun σ W g h hp=>by
     have q:¬ kk<ii:=of_decide_eq_false (F0 (h 17 rfl) (hp 17 0 false rfl))
     exact ⟨(h 11 rfl).trans (by rw [hlo_];congr 1;omega),(h 16 rfl).trans (by rw [hhi_];congr 1;omega),trivial⟩,
    fun σ W g h hp=>⟨(σ.an 23 0).ownBlock,(fun e=>nomatch e),⟨rfl,fun m hm=>rfl⟩,⟨⟨(h 23 rfl).1,rfl⟩,fun q hq=>⟨23,rfl,hq⟩⟩,trivial⟩,
    trivial⟩)
    (fun x hk=>⟨fun τ W g h hp hb=>⟨rfl,g⟩,
    trivial⟩)
 · skip
   refine G6 B3 Tryd.func5 [sGe w.heap.size va l,sDt x0 y0 d,sZ i0,sZ k0] (fun x:Option Nat=>[oA w.heap.size va L,sZ L.length,sV (.bool false),sC (.int .u64 (IntKind.u64.wrap i0)) rfl,sZ L.length,sC (.int .u64 (L.length:Int)) rfl,sC (.int .u64 (IntKind.u64.wrap i0%(L.length:Int))) rfl,sZ (ii:Int),sC (.int .u64 (IntKind.u64.wrap k0)) rfl,sZ L.length,sC (.int .u64 (L.length:Int)) rfl,sC (.int .u64 (IntKind.u64.wrap k0%(L.length:Int))) rfl,sZ (kk:Int),sC (.bool (decide (kk<ii))) rfl,sZ (lo:Int),sZ (hi:Int),sOa false kG w.heap.size (fun _=>True) [],sZ ((hi:Int)+1),sGs w.heap.size ((L.drop lo).take (hi+1-lo)),sOa false kG w.heap.size (fun _=>True) ((L.drop lo).take (hi+1-lo)),sOa false kG w.heap.size (fun o=>o=x) ((L.drop lo).take (hi+1-lo)),sOe kG w.heap.size (fun o=>o≠none/\o≠x) [],sZ ((lo:Int)+1),sGs w.heap.size (L.take (lo+1)),sOa true kG w.heap.size (fun o=>o≠none/\o≠x) (L.take (lo+1)),sGs w.heap.size (L.drop hi),sOa false kG w.heap.size (fun _=>True) (L.take (lo+1)++L.drop hi),sPt (lat x0 y0 d),kS (arN (gl L) (lat x0 y0 d)) false,kS (arN (gl ((L.drop lo).take (hi+1-lo))) (lat x0 y0 d)) true,sAr (arN (gl (L.take (lo+1)++L.drop hi)) (lat x0 y0 d)) (dec (OnR (gl (L.take (lo+1)++L.drop hi)) (lat x0 y0 d))),sV (.bool true)]) (fun _ _=>0) (none) (fun _=>rfl) [2000008,3000020,3000023] [some [[.t 2],[.t 3]],some [[],[.t 9]]] (.cons ⟨rfl,Ha⟩ (.cons rfl (.cons rfl (.cons rfl .nil)))) (rs:=[(cl 4 13 [on 0],[]),(co 5 (.call ⟨.builtin .len, #[(.tmp 23)], #[43]⟩) 3 [on 4] [0,1,2,3,4] [],[]),(co 6 (.binOp .eql 3 (.tmp 24) (.const (.int .i64 0)) 3) 4 [on 5,.v false [.lit (.int .i64 0)]] [0,1,2,3,4,5] [],[]),(co 7 (.convert 3 52 (.tmp 27)) 52 [on 2] [0,1,2,3,4,5,6] [],[]),(co 8 (.call ⟨.builtin .len, #[(.tmp 29)], #[43]⟩) 3 [on 4] [0,1,2,3,4,5,6] [],[]),(co 9 (.convert 3 52 (.tmp 30)) 52 [on 8] [0,1,2,3,4,5,6,8] [],[]),(co 10 (.binOp .rem 52 (.tmp 28) (.tmp 31) 52) 52 [on 7,on 9] [0,1,2,3,4,5,6,7,8,9] [],[]),(co 11 (.convert 52 3 (.tmp 32)) 3 [on 10] [0,1,2,3,4,5,6,7,8,9,10] [],[]),(co 12 (.convert 3 52 (.tmp 34)) 52 [on 3] [0,1,2,3,4,5,6] [],[]),(co 13 (.call ⟨.builtin .len, #[(.tmp 36)], #[43]⟩) 3 [on 4] [0,1,2,3,4,5,6] [],[]),(co 14 (.convert 3 52 (.tmp 37)) 52 [on 13] [0,1,2,3,4,5,6,13] [],[]),(co 15 (.binOp .rem 52 (.tmp 35) (.tmp 38) 52) 52 [on 12,on 14] [0,1,2,3,4,5,6,12,13,14] [],[]),(co 16 (.convert 52 3 (.tmp 39)) 3 [on 15] [0,1,2,3,4,5,6,12,13,14,15] [],[]),(co 17 (.binOp .gtr 3 (.tmp 41) (.tmp 42) 3) 4 [on 11,on 16] [0,1,2,3,4,5,6,7,8,9,10,11,12,13,14,15,16] [],[]),(cog 20 (.buildSlice 43 0 #[]) 43 [] [0,1,2,3,4,5,6,7,8,9,10,11,12,13,14,15,16,17,18,19] [],[]),(co 21 (.binOp .add 3 (.tmp 49) (.const (.int .i64 1)) 3) 3 [on 19,.v false [.lit (.int .i64 1)]] [0,1,2,3,4,5,6,7,8,9,10,11,12,13,14,15,16,17,18,19] [],[]),(co 22 (.slice 43 (.tmp 47) (some (.tmp 48)) (some (.tmp 50)) none) 43 [on 4,on 18,on 21] [0,1,2,3,4,5,6,7,8,9,10,11,12,13,14,15,16,17,18,19,21] [],[]),(cow 23 (.call ⟨.builtin .append, #[(.tmp 46),(.tmp 51)], #[43,43]⟩) 43 [on 20,on 22] [0,1,2,3,4,5,6,7,8,9,10,11,12,13,14,15,16,17,18,19,20,21,22] [],[]),(cog 25 (.buildSlice 43 0 #[]) 43 [] [0,1,2,3,4,5,6,7,8,9,10,11,12,13,14,15,16,17,18,19,21,22,24] [],[]),(co 26 (.binOp .add 3 (.tmp 55) (.const (.int .i64 1)) 3) 3 [on 18,.v false [.lit (.int .i64 1)]] [0,1,2,3,4,5,6,7,8,9,10,11,12,13,14,15,16,17,18,19,21,22,24] [],[]),(co 27 (.slice 43 (.tmp 54) none (some (.tmp 56)) none) 43 [on 4,on 26] [0,1,2,3,4,5,6,7,8,9,10,11,12,13,14,15,16,17,18,19,21,22,24,26] [],[]),(cog 28 (.call ⟨.builtin .append, #[(.tmp 53),(.tmp 57)], #[43,43]⟩) 43 [on 25,on 27] [0,1,2,3,4,5,6,7,8,9,10,11,12,13,14,15,16,17,18,19,21,22,24,25,26,27] [],[]),(co 29 (.slice 43 (.tmp 59) (some (.tmp 60)) none none) 43 [on 4,on 19] [0,1,2,3,4,5,6,7,8,9,10,11,12,13,14,15,16,17,18,19,21,22,24] [],[]),(cow 30 (.call ⟨.builtin .append, #[(.tmp 58),(.tmp 61)], #[43,43]⟩) 43 [on 28,on 29] [0,1,2,3,4,5,6,7,8,9,10,11,12,13,14,15,16,17,18,19,21,22,24,25,26,27,28,29] [],[]),(cla 31 6 [ag 3 1] [0,1,2,3,4,5,6,7,8,9,10,11,12,13,14,15,16,17,18,19,21,22,24,25,26,27,28,29,30],[]),(cla 32 14 [on 4,ag 8 31] [0,1,2,3,4,5,6,7,8,9,10,11,12,13,14,15,16,17,18,19,21,22,24,25,26,27,28,29,30,31],[]),(cla 33 14 [on 24,ag 8 31] [0,1,2,3,4,5,6,7,8,9,10,11,12,13,14,15,16,17,18,19,21,22,24,25,26,27,28,29,30,31,32],[]),(cla 34 14 [on 30,ag 8 31] [0,1,2,3,4,5,6,7,8,9,10,11,12,13,14,15,16,17,18,19,21,22,24,25,26,27,28,29,30,31,32,33],[]),(cla 35 15 [] [0,1,2,3,4,5,6,7,8,9,10,11,12,13,14,15,16,17,18,19,21,22,24,25,26,27,28,29,30,31,32,33,34],[])]) (js:=[.test 17 0 (List.range 18) [],.meet [(18,on 16),(19,on 11)] (List.range 18) [(17,0,true)],.meet [(18,on 11),(19,on 16)] (List.range 18) [(17,0,false)],.loop false 24 [(24,on 23)] (List.range 24) []]) (outs:=[⟨.v false [.lit (.bool true)],[0,1,2,3,4,5,6,7,8,9,10,11,12,13,14,15,16,17,18,19,21,22,24,25,26,27,28,29,30,31,32,33,34,35],[],[],[]⟩]) (nc:=36) (by kernel_rfl)
    (fun x=>⟨fun σ W g h hp hb=>by
     have e : σ.an 0 0=va:=(h 0 rfl).1
     have h0:GsV w.heap.size W (σ.an 0 0) l:=(h 0 rfl).2
     rw [e] at h0
     show Calls _ _ #[σ.an 0 0] W _
     rw [e, <- hLe]
     exact oN g.size (fun q hq=>⟨0,rfl,by show fpS (σ.an 0 0) q;rw [e];exact hq⟩) (fun q hq=>(h0.block hq).1) (T7 W va l (h0.up g.size) hIn),
    fun σ W g h hp hb=>fun ρ o ho _ hv=>⟨_,J8 (L5 (h 4 rfl)) ho (B2 hv) ⟨48,by kernel_rfl⟩,rfl⟩,
    fun σ W g h hp hb=>fun ρ o ho _ hv=>⟨_,C8 false ho ((A1 hv).1.trans (h 5 rfl)) (A1 hv).2 (decide_eq_false (by omega)),rfl⟩,
    fun σ W g h hp hb=>fun ρ o ho _ hv=>⟨_,J2 ho ((B2 hv).trans (h 2 rfl)),rfl⟩,
    fun σ W g h hp hb=>fun ρ o ho _ hv=>⟨_,J8 (L5 (h 4 rfl)) ho (B2 hv) ⟨48,by kernel_rfl⟩,rfl⟩,
    fun σ W g h hp hb=>fun ρ o ho _ hv=>⟨_,J2 ho ((B2 hv).trans (h 8 rfl)),congrArg (Value.int .u64) (wrapN (by omega))⟩,
    fun σ W g h hp hb=>fun ρ o ho _ hv=>⟨_,O9 ho ((A1 hv).1.trans (h 7 rfl)) ((A1 hv).2.trans (h 9 rfl)) (by omega),rfl⟩,
    fun σ W g h hp hb=>fun ρ o ho _ hv=>⟨_,T1 ho ((B2 hv).trans (h 10 rfl)) (by omega) (by omega),congrArg (Value.int .i64) hii.symm⟩,
    fun σ W g h hp hb=>fun ρ o ho _ hv=>⟨_,J2 ho ((B2 hv).trans (h 3 rfl)),rfl⟩,
    fun σ W g h hp hb=>fun ρ o ho _ hv=>⟨_,J8 (L5 (h 4 rfl)) ho (B2 hv) ⟨48,by kernel_rfl⟩,rfl⟩,
    fun σ W g h hp hb=>fun ρ o ho _ hv=>⟨_,J2 ho ((B2 hv).trans (h 13 rfl)),congrArg (Value.int .u64) (wrapN (by omega))⟩,
    fun σ W g h hp hb=>fun ρ o ho _ hv=>⟨_,O9 ho ((A1 hv).1.trans (h 12 rfl)) ((A1 hv).2.trans (h 14 rfl)) (by omega),rfl⟩,
    fun σ W g h hp hb=>fun ρ o ho _ hv=>⟨_,T1 ho ((B2 hv).trans (h 15 rfl)) (by omega) (by omega),congrArg (Value.int .i64) hkk.symm⟩,
    fun σ W g h hp hb=>fun ρ o ho _ hv=>⟨_,rN ho ((A1 hv).1.trans (h 11 rfl)) ((A1 hv).2.trans (h 16 rfl)),rfl⟩,
    fun σ W g h hp hb=>fun ρ o ho _ hv=>aR (by
     obtain ⟨v,W2,r1,r2,r3,r4⟩:=aZ kG (W:=W) (by kernel_rfl) (by kernel_rfl) g.size ho
     refine ⟨v,W2,r1,r2,⟨r3, ?_⟩,fun q hq=>by have hq:v.ownBlock=some q:=hq;rw [r4] at hq;cases hq;exact Nat.le_refl _⟩
     rw [r4]
     exact trivial),
    fun σ W g h hp hb=>fun ρ o ho _ hv=>⟨_,B7 ho ((A1 hv).1.trans (h 19 rfl)) (A1 hv).2 (M3 (by omega) (by omega)),rfl⟩,
    fun σ W g h hp hb=>fun ρ o ho _ hv=>by
     obtain ⟨u,h1,h2,h3⟩:=S1 (i:=lo) (k:=hi+1) (L5 (h 4 rfl)) ho (G8 hv).1 (.inl (congrArg some ((G8 hv).2.1.trans (h 18 rfl)))) (.inl (congrArg some (((G8 hv).2.2.trans (h 21 rfl)).trans (by push_cast;rfl)))) (by omega) (by omega)
     exact ⟨u,h1,h2,fun q hq=>⟨4,rfl,⟨_,_,rfl,.inl (h3 q hq)⟩⟩⟩,
    fun σ W g h hp hb=>fun ρ o ho _ hv=>aV kG (b0:=false) (A0:=(fun _=>True)) (l:=[]) (A2:=(fun _=>True)) (l2:=((L.drop lo).take (hi+1-lo))) g (m0:=20) rfl rfl rfl rfl (h 20 rfl) (fun _ _=>trivial) (J7 kG (by kernel_rfl) J1 (by decide) (fun W cs d=>M0) (h 20 rfl).1 (GsV.rwV (h 22 rfl)) (by simp;omega) g.size ho (A1 hv).1 (A1 hv).2)
        (fun m hm hne hr=>by
        match m,hm,hne,hr with
        | 0,_,_,_=>exact .inl ⟨h 0 rfl,fun q hq=>C0 (h 20 rfl).1 (GsV.block (h 0 rfl).2 hq)⟩
        | 1,_,_,hr=>exact absurd hr Bool.false_ne_true
        | 2,_,_,hr=>exact absurd hr Bool.false_ne_true
        | 3,_,_,hr=>exact absurd hr Bool.false_ne_true
        | 4,_,_,_=>exact .inl ⟨h 4 rfl,fun q hq=>N7 (h 4 rfl) (h 20 rfl).1 hq⟩
        | 5,_,_,hr=>exact absurd hr Bool.false_ne_true
        | 6,_,_,hr=>exact absurd hr Bool.false_ne_true
        | 7,_,_,hr=>exact absurd hr Bool.false_ne_true
        | 8,_,_,hr=>exact absurd hr Bool.false_ne_true
        | 9,_,_,hr=>exact absurd hr Bool.false_ne_true
        | 10,_,_,hr=>exact absurd hr Bool.false_ne_true
        | 11,_,_,hr=>exact absurd hr Bool.false_ne_true
        | 12,_,_,hr=>exact absurd hr Bool.false_ne_true
        | 13,_,_,hr=>exact absurd hr Bool.false_ne_true
        | 14,_,_,hr=>exact absurd hr Bool.false_ne_true
        | 15,_,_,hr=>exact absurd hr Bool.false_ne_true
        | 16,_,_,hr=>exact absurd hr Bool.false_ne_true
        | 17,_,_,hr=>exact absurd hr Bool.false_ne_true
        | 18,_,_,hr=>exact absurd hr Bool.false_ne_true
        | 19,_,_,hr=>exact absurd hr Bool.false_ne_true
        | 20,_,hne,_=>exact absurd rfl hne
        | 21,_,_,hr=>exact absurd hr Bool.false_ne_true
        | 22,_,_,_=>exact .inl ⟨h 22 rfl,fun q hq=>C0 (h 20 rfl).1 (GsV.block (h 22 rfl) hq)⟩
        | j+23,hm,_,_=>exact absurd hm (by simp)),
    fun σ W g h hp hb=>fun ρ o ho _ hv=>aR (by
     obtain ⟨v,W2,r1,r2,r3,r4,r5⟩:=X0 kG (W:=W) (by kernel_rfl) (by kernel_rfl) g.size ho
     refine ⟨v,W2,r1,r2,⟨r3, ?_,r5⟩,fun q hq=>by have hq:v.ownBlock=some q:=hq;rw [r4] at hq;cases hq;exact Nat.le_refl _⟩
     rw [r4]
     exact ⟨(fun e=>nomatch e),fun e=>by have e4:(σ.an 24 0).ownBlock=x:=(h 24 rfl).2;exact absurd ((h 24 rfl).1.inb (e4.trans e.symm)).1 (Nat.lt_irrefl _)⟩),
    fun σ W g h hp hb=>fun ρ o ho _ hv=>⟨_,B7 ho ((A1 hv).1.trans (h 18 rfl)) (A1 hv).2 (M3 (by omega) (by omega)),rfl⟩,
    fun σ W g h hp hb=>fun ρ o ho _ hv=>by
     obtain ⟨u,h1,h2,h3⟩:=S1 (i:=0) (k:=lo+1) (L5 (h 4 rfl)) ho (A1 hv).1 (.inr ⟨rfl,rfl⟩) (.inl (congrArg some (((A1 hv).2.trans (h 26 rfl)).trans (by push_cast;rfl)))) (by omega) (by omega)
     exact ⟨u,h1,(show GsV w.heap.size W u (L.take (lo+1)) by simpa using h2),fun q hq=>⟨4,rfl,⟨_,_,rfl,.inl (h3 q hq)⟩⟩⟩,
    fun σ W g h hp hb=>fun ρ o ho _ hv=>aR (by
     obtain ⟨v,W2,r1,r2,r3,r4⟩:=bB kG (by kernel_rfl) J1 (by decide) (fun W cs d=>M0) (h 25 rfl).1 (h 25 rfl).2.2 (GsV.rwV (h 27 rfl)) (fun e=>by have:=congrArg List.length e;rw [List.length_take,List.length_nil] at this;omega) (by simp;omega) g.size ho (A1 hv).1 (A1 hv).2
     refine ⟨v,W2,r1,r2,⟨r3, ?_⟩,fun q hq=>by have hq:v.ownBlock=some q:=hq;rw [r4] at hq;cases hq;exact Nat.le_refl _⟩
     rw [r4]
     exact ⟨(fun e=>nomatch e),fun e=>by have e4:(σ.an 24 0).ownBlock=x:=(h 24 rfl).2;exact absurd ((h 24 rfl).1.inb (e4.trans e.symm)).1 (Nat.lt_irrefl _)⟩),
    fun σ W g h hp hb=>fun ρ o ho _ hv=>by
     obtain ⟨u,h1,h2,h3⟩:=S1 (i:=hi) (k:=L.length) (L5 (h 4 rfl)) ho (A1 hv).1 (.inl (congrArg some ((A1 hv).2.trans (h 19 rfl)))) (.inr ⟨rfl,rfl⟩) (by omega) (by omega)
     exact ⟨u,h1,(by rw [List.take_of_length_le (by simp)] at h2;exact h2),fun q hq=>⟨4,rfl,⟨_,_,rfl,.inl (h3 q hq)⟩⟩⟩,
    fun σ W g h hp hb=>fun ρ o ho _ hv=>aV kG (b0:=true) (A0:=(fun o=>o≠none/\o≠x)) (l:=(L.take (lo+1))) (A2:=(fun _=>True)) (l2:=(L.take (lo+1)++L.drop hi)) g (m0:=28) rfl rfl rfl rfl (h 28 rfl) (fun _ _=>trivial) (J7 kG (by kernel_rfl) J1 (by decide) (fun W cs d=>M0) (h 28 rfl).1 (GsV.rwV (h 29 rfl)) (by simp;omega) g.size ho (A1 hv).1 (A1 hv).2)
        (fun m hm hne hr=>by
        match m,hm,hne,hr with
        | 0,_,_,_=>exact .inl ⟨h 0 rfl,fun q hq=>C0 (h 28 rfl).1 (GsV.block (h 0 rfl).2 hq)⟩
        | 1,_,_,hr=>exact absurd hr Bool.false_ne_true
        | 2,_,_,hr=>exact absurd hr Bool.false_ne_true
        | 3,_,_,hr=>exact absurd hr Bool.false_ne_true
        | 4,_,_,_=>exact .inl ⟨h 4 rfl,fun q hq=>N7 (h 4 rfl) (h 28 rfl).1 hq⟩
        | 5,_,_,hr=>exact absurd hr Bool.false_ne_true
        | 6,_,_,hr=>exact absurd hr Bool.false_ne_true
        | 7,_,_,hr=>exact absurd hr Bool.false_ne_true
        | 8,_,_,hr=>exact absurd hr Bool.false_ne_true
        | 9,_,_,hr=>exact absurd hr Bool.false_ne_true
        | 10,_,_,hr=>exact absurd hr Bool.false_ne_true
        | 11,_,_,hr=>exact absurd hr Bool.false_ne_true
        | 12,_,_,hr=>exact absurd hr Bool.false_ne_true
        | 13,_,_,hr=>exact absurd hr Bool.false_ne_true
        | 14,_,_,hr=>exact absurd hr Bool.false_ne_true
        | 15,_,_,hr=>exact absurd hr Bool.false_ne_true
        | 16,_,_,hr=>exact absurd hr Bool.false_ne_true
        | 17,_,_,hr=>exact absurd hr Bool.false_ne_true
        | 18,_,_,hr=>exact absurd hr Bool.false_ne_true
        | 19,_,_,hr=>exact absurd hr Bool.false_ne_true
        | 20,hm,_,_=>exact absurd hm Bool.false_ne_true
        | 21,_,_,hr=>exact absurd hr Bool.false_ne_true
        | 22,_,_,_=>exact .inl ⟨h 22 rfl,fun q hq=>C0 (h 28 rfl).1 (GsV.block (h 22 rfl) hq)⟩
        | 23,hm,_,_=>exact absurd hm Bool.false_ne_true
        | 24,_,_,_=>exact .inl ⟨h 24 rfl,fun q hq=>Q8 (h 28 rfl).2.2 ((h 24 rfl).2.symm.trans hq)⟩
        | 25,_,_,_=>exact .inr (.inr ⟨(fun o=>o≠none/\o≠x),[],rfl,Nat.zero_le _,h 25 rfl⟩)
        | 26,_,_,hr=>exact absurd hr Bool.false_ne_true
        | 27,_,_,_=>exact .inl ⟨h 27 rfl,fun q hq=>C0 (h 28 rfl).1 (GsV.block (h 27 rfl) hq)⟩
        | 28,_,hne,_=>exact absurd rfl hne
        | 29,_,_,_=>exact .inl ⟨h 29 rfl,fun q hq=>C0 (h 28 rfl).1 (GsV.block (h 29 rfl) hq)⟩
        | j+30,hm,_,_=>exact absurd hm (by simp)),
    fun σ W g h hp hb=>V3 (congrArg (fun v=>[v]) (h 1 rfl)) (J4 W x0 y0 d hs.1.1 hs.1.2 hs.2.1 hs.2.2 (hTab.kept g (by simp))),
    fun σ W g h hp hb=>eH h_row (D3 W _ _ L (lat x0 y0 d) 1 ((L5 (h 4 rfl)).up g.size) (h 31 rfl) (by omega) (by omega) hI (A8 hs.1.1 hs.1.2 hs.2.1 hs.2.2) (hTab.kept g (by simp))),
    fun σ W g h hp hb=>eH h_one (D3 W _ _ ((L.drop lo).take (hi+1-lo)) (lat x0 y0 d) 1 (h 24 rfl).1.gs (h 31 rfl) (by omega) (by simp;omega) (fun d hd=>hI d (List.mem_of_mem_drop (List.mem_of_mem_take hd))) (A8 hs.1.1 hs.1.2 hs.2.1 hs.2.2) (hTab.kept g (by simp))),
    fun σ W g h hp hb=>toAr (D3 W _ _ (L.take (lo+1)++L.drop hi) (lat x0 y0 d) 1 (h 30 rfl).1.gs (h 31 rfl) (by omega) (by simp;omega) (fun d hd=>hI d ((List.mem_append.1 hd).elim List.mem_of_mem_take List.mem_of_mem_drop)) (A8 hs.1.1 hs.1.2 hs.2.1 hs.2.2) (hTab.kept g (by simp))),
    fun σ W g h hp hb=>toV (O0 W (hTab.kept g (by simp))) rfl,
    trivial⟩)
    (fun x=>⟨fun σ W g h hp=>⟨_,h 17 rfl⟩,
    fun σ W g h hp=>by
     have q:kk<ii:=of_decide_eq_true (F0 (h 17 rfl) (hp 17 0 true rfl))
     exact ⟨(h 16 rfl).trans (by rw [hlo_];congr 1;omega),(h 11 rfl).trans (by rw [hhi_];congr 1;omega),trivial⟩,
    fun σ W g h hp=>by
     have q:¬ kk<ii:=of_decide_eq_false (F0 (h 17 rfl) (hp 17 0 false rfl))
     exact ⟨(h 11 rfl).trans (by rw [hlo_];congr 1;omega),(h 16 rfl).trans (by rw [hhi_];congr 1;omega),trivial⟩,
    fun σ W g h hp=>⟨(σ.an 23 0).ownBlock,(fun e=>nomatch e),⟨rfl,fun m hm=>rfl⟩,⟨⟨(h 23 rfl).1,rfl⟩,fun q hq=>⟨23,rfl,hq⟩⟩,trivial⟩,
    trivial⟩)
    (fun x hk=>⟨fun τ W g h hp hb=>⟨rfl,g⟩,
    trivial⟩)
 · skip
   refine G6 B3 Tryd.func5 [sGe w.heap.size va l,sDt x0 y0 d,sZ i0,sZ k0] (fun x:Option Nat=>[oA w.heap.size va L,sZ L.length,sV (.bool false),sC (.int .u64 (IntKind.u64.wrap i0)) rfl,sZ L.length,sC (.int .u64 (L.length:Int)) rfl,sC (.int .u64 (IntKind.u64.wrap i0%(L.length:Int))) rfl,sZ (ii:Int),sC (.int .u64 (IntKind.u64.wrap k0)) rfl,sZ L.length,sC (.int .u64 (L.length:Int)) rfl,sC (.int .u64 (IntKind.u64.wrap k0%(L.length:Int))) rfl,sZ (kk:Int),sC (.bool (decide (kk<ii))) rfl,sZ (lo:Int),sZ (hi:Int),sOa false kG w.heap.size (fun _=>True) [],sZ ((hi:Int)+1),sGs w.heap.size ((L.drop lo).take (hi+1-lo)),sOa false kG w.heap.size (fun _=>True) ((L.drop lo).take (hi+1-lo)),sOa false kG w.heap.size (fun o=>o=x) ((L.drop lo).take (hi+1-lo)),sOe kG w.heap.size (fun o=>o≠none/\o≠x) [],sZ ((lo:Int)+1),sGs w.heap.size (L.take (lo+1)),sOa true kG w.heap.size (fun o=>o≠none/\o≠x) (L.take (lo+1)),sGs w.heap.size (L.drop hi),sOa false kG w.heap.size (fun _=>True) (L.take (lo+1)++L.drop hi),sPt (lat x0 y0 d),kS (arN (gl L) (lat x0 y0 d)) true,sAr (arN (gl ((L.drop lo).take (hi+1-lo))) (lat x0 y0 d)) (dec (OnR (gl ((L.drop lo).take (hi+1-lo))) (lat x0 y0 d))),sAr (arN (gl (L.take (lo+1)++L.drop hi)) (lat x0 y0 d)) (dec (OnR (gl (L.take (lo+1)++L.drop hi)) (lat x0 y0 d))),sV (.bool true)]) (fun _ _=>0) (none) (fun _=>rfl) [2000008,3000020,3000023] [some [[.t 2],[.t 3]],some [[],[.t 9]]] (.cons ⟨rfl,Ha⟩ (.cons rfl (.cons rfl (.cons rfl .nil)))) (rs:=[(cl 4 13 [on 0],[]),(co 5 (.call ⟨.builtin .len, #[(.tmp 23)], #[43]⟩) 3 [on 4] [0,1,2,3,4] [],[]),(co 6 (.binOp .eql 3 (.tmp 24) (.const (.int .i64 0)) 3) 4 [on 5,.v false [.lit (.int .i64 0)]] [0,1,2,3,4,5] [],[]),(co 7 (.convert 3 52 (.tmp 27)) 52 [on 2] [0,1,2,3,4,5,6] [],[]),(co 8 (.call ⟨.builtin .len, #[(.tmp 29)], #[43]⟩) 3 [on 4] [0,1,2,3,4,5,6] [],[]),(co 9 (.convert 3 52 (.tmp 30)) 52 [on 8] [0,1,2,3,4,5,6,8] [],[]),(co 10 (.binOp .rem 52 (.tmp 28) (.tmp 31) 52) 52 [on 7,on 9] [0,1,2,3,4,5,6,7,8,9] [],[]),(co 11 (.convert 52 3 (.tmp 32)) 3 [on 10] [0,1,2,3,4,5,6,7,8,9,10] [],[]),(co 12 (.convert 3 52 (.tmp 34)) 52 [on 3] [0,1,2,3,4,5,6] [],[]),(co 13 (.call ⟨.builtin .len, #[(.tmp 36)], #[43]⟩) 3 [on 4] [0,1,2,3,4,5,6] [],[]),(co 14 (.convert 3 52 (.tmp 37)) 52 [on 13] [0,1,2,3,4,5,6,13] [],[]),(co 15 (.binOp .rem 52 (.tmp 35) (.tmp 38) 52) 52 [on 12,on 14] [0,1,2,3,4,5,6,12,13,14] [],[]),(co 16 (.convert 52 3 (.tmp 39)) 3 [on 15] [0,1,2,3,4,5,6,12,13,14,15] [],[]),(co 17 (.binOp .gtr 3 (.tmp 41) (.tmp 42) 3) 4 [on 11,on 16] [0,1,2,3,4,5,6,7,8,9,10,11,12,13,14,15,16] [],[]),(cog 20 (.buildSlice 43 0 #[]) 43 [] [0,1,2,3,4,5,6,7,8,9,10,11,12,13,14,15,16,17,18,19] [],[]),(co 21 (.binOp .add 3 (.tmp 49) (.const (.int .i64 1)) 3) 3 [on 19,.v false [.lit (.int .i64 1)]] [0,1,2,3,4,5,6,7,8,9,10,11,12,13,14,15,16,17,18,19] [],[]),(co 22 (.slice 43 (.tmp 47) (some (.tmp 48)) (some (.tmp 50)) none) 43 [on 4,on 18,on 21] [0,1,2,3,4,5,6,7,8,9,10,11,12,13,14,15,16,17,18,19,21] [],[]),(cow 23 (.call ⟨.builtin .append, #[(.tmp 46),(.tmp 51)], #[43,43]⟩) 43 [on 20,on 22] [0,1,2,3,4,5,6,7,8,9,10,11,12,13,14,15,16,17,18,19,20,21,22] [],[]),(cog 25 (.buildSlice 43 0 #[]) 43 [] [0,1,2,3,4,5,6,7,8,9,10,11,12,13,14,15,16,17,18,19,21,22,24] [],[]),(co 26 (.binOp .add 3 (.tmp 55) (.const (.int .i64 1)) 3) 3 [on 18,.v false [.lit (.int .i64 1)]] [0,1,2,3,4,5,6,7,8,9,10,11,12,13,14,15,16,17,18,19,21,22,24] [],[]),(co 27 (.slice 43 (.tmp 54) none (some (.tmp 56)) none) 43 [on 4,on 26] [0,1,2,3,4,5,6,7,8,9,10,11,12,13,14,15,16,17,18,19,21,22,24,26] [],[]),(cog 28 (.call ⟨.builtin .append, #[(.tmp 53),(.tmp 57)], #[43,43]⟩) 43 [on 25,on 27] [0,1,2,3,4,5,6,7,8,9,10,11,12,13,14,15,16,17,18,19,21,22,24,25,26,27] [],[]),(co 29 (.slice 43 (.tmp 59) (some (.tmp 60)) none none) 43 [on 4,on 19] [0,1,2,3,4,5,6,7,8,9,10,11,12,13,14,15,16,17,18,19,21,22,24] [],[]),(cow 30 (.call ⟨.builtin .append, #[(.tmp 58),(.tmp 61)], #[43,43]⟩) 43 [on 28,on 29] [0,1,2,3,4,5,6,7,8,9,10,11,12,13,14,15,16,17,18,19,21,22,24,25,26,27,28,29] [],[]),(cla 31 6 [ag 3 1] [0,1,2,3,4,5,6,7,8,9,10,11,12,13,14,15,16,17,18,19,21,22,24,25,26,27,28,29,30],[]),(cla 32 14 [on 4,ag 8 31] [0,1,2,3,4,5,6,7,8,9,10,11,12,13,14,15,16,17,18,19,21,22,24,25,26,27,28,29,30,31],[]),(cla 33 14 [on 24,ag 8 31] [0,1,2,3,4,5,6,7,8,9,10,11,12,13,14,15,16,17,18,19,21,22,24,25,26,27,28,29,30,31,32],[]),(cla 34 14 [on 30,ag 8 31] [0,1,2,3,4,5,6,7,8,9,10,11,12,13,14,15,16,17,18,19,21,22,24,25,26,27,28,29,30,31,32,33],[]),(cla 35 15 [] [0,1,2,3,4,5,6,7,8,9,10,11,12,13,14,15,16,17,18,19,21,22,24,25,26,27,28,29,30,31,32,33,34],[])]) (js:=[.test 17 0 (List.range 18) [],.meet [(18,on 16),(19,on 11)] (List.range 18) [(17,0,true)],.meet [(18,on 11),(19,on 16)] (List.range 18) [(17,0,false)],.loop false 24 [(24,on 23)] (List.range 24) []]) (outs:=[⟨.v false [.lit (.bool true)],[0,1,2,3,4,5,6,7,8,9,10,11,12,13,14,15,16,17,18,19,21,22,24,25,26,27,28,29,30,31,32,33,34,35],[],[],[]⟩]) (nc:=36) (by kernel_rfl)
    (fun x=>⟨fun σ W g h hp hb=>by
     have e : σ.an 0 0=va:=(h 0 rfl).1
     have h0:GsV w.heap.size W (σ.an 0 0) l:=(h 0 rfl).2
     rw [e] at h0
     show Calls _ _ #[σ.an 0 0] W _
     rw [e, <- hLe]
     exact oN g.size (fun q hq=>⟨0,rfl,by show fpS (σ.an 0 0) q;rw [e];exact hq⟩) (fun q hq=>(h0.block hq).1) (T7 W va l (h0.up g.size) hIn),
    fun σ W g h hp hb=>fun ρ o ho _ hv=>⟨_,J8 (L5 (h 4 rfl)) ho (B2 hv) ⟨48,by kernel_rfl⟩,rfl⟩,
    fun σ W g h hp hb=>fun ρ o ho _ hv=>⟨_,C8 false ho ((A1 hv).1.trans (h 5 rfl)) (A1 hv).2 (decide_eq_false (by omega)),rfl⟩,
    fun σ W g h hp hb=>fun ρ o ho _ hv=>⟨_,J2 ho ((B2 hv).trans (h 2 rfl)),rfl⟩,
    fun σ W g h hp hb=>fun ρ o ho _ hv=>⟨_,J8 (L5 (h 4 rfl)) ho (B2 hv) ⟨48,by kernel_rfl⟩,rfl⟩,
    fun σ W g h hp hb=>fun ρ o ho _ hv=>⟨_,J2 ho ((B2 hv).trans (h 8 rfl)),congrArg (Value.int .u64) (wrapN (by omega))⟩,
    fun σ W g h hp hb=>fun ρ o ho _ hv=>⟨_,O9 ho ((A1 hv).1.trans (h 7 rfl)) ((A1 hv).2.trans (h 9 rfl)) (by omega),rfl⟩,
    fun σ W g h hp hb=>fun ρ o ho _ hv=>⟨_,T1 ho ((B2 hv).trans (h 10 rfl)) (by omega) (by omega),congrArg (Value.int .i64) hii.symm⟩,
    fun σ W g h hp hb=>fun ρ o ho _ hv=>⟨_,J2 ho ((B2 hv).trans (h 3 rfl)),rfl⟩,
    fun σ W g h hp hb=>fun ρ o ho _ hv=>⟨_,J8 (L5 (h 4 rfl)) ho (B2 hv) ⟨48,by kernel_rfl⟩,rfl⟩,
    fun σ W g h hp hb=>fun ρ o ho _ hv=>⟨_,J2 ho ((B2 hv).trans (h 13 rfl)),congrArg (Value.int .u64) (wrapN (by omega))⟩,
    fun σ W g h hp hb=>fun ρ o ho _ hv=>⟨_,O9 ho ((A1 hv).1.trans (h 12 rfl)) ((A1 hv).2.trans (h 14 rfl)) (by omega),rfl⟩,
    fun σ W g h hp hb=>fun ρ o ho _ hv=>⟨_,T1 ho ((B2 hv).trans (h 15 rfl)) (by omega) (by omega),congrArg (Value.int .i64) hkk.symm⟩,
    fun σ W g h hp hb=>fun ρ o ho _ hv=>⟨_,rN ho ((A1 hv).1.trans (h 11 rfl)) ((A1 hv).2.trans (h 16 rfl)),rfl⟩,
    fun σ W g h hp hb=>fun ρ o ho _ hv=>aR (by
     obtain ⟨v,W2,r1,r2,r3,r4⟩:=aZ kG (W:=W) (by kernel_rfl) (by kernel_rfl) g.size ho
     refine ⟨v,W2,r1,r2,⟨r3, ?_⟩,fun q hq=>by have hq:v.ownBlock=some q:=hq;rw [r4] at hq;cases hq;exact Nat.le_refl _⟩
     rw [r4]
     exact trivial),
    fun σ W g h hp hb=>fun ρ o ho _ hv=>⟨_,B7 ho ((A1 hv).1.trans (h 19 rfl)) (A1 hv).2 (M3 (by omega) (by omega)),rfl⟩,
    fun σ W g h hp hb=>fun ρ o ho _ hv=>by
     obtain ⟨u,h1,h2,h3⟩:=S1 (i:=lo) (k:=hi+1) (L5 (h 4 rfl)) ho (G8 hv).1 (.inl (congrArg some ((G8 hv).2.1.trans (h 18 rfl)))) (.inl (congrArg some (((G8 hv).2.2.trans (h 21 rfl)).trans (by push_cast;rfl)))) (by omega) (by omega)
     exact ⟨u,h1,h2,fun q hq=>⟨4,rfl,⟨_,_,rfl,.inl (h3 q hq)⟩⟩⟩,
    fun σ W g h hp hb=>fun ρ o ho _ hv=>aV kG (b0:=false) (A0:=(fun _=>True)) (l:=[]) (A2:=(fun _=>True)) (l2:=((L.drop lo).take (hi+1-lo))) g (m0:=20) rfl rfl rfl rfl (h 20 rfl) (fun _ _=>trivial) (J7 kG (by kernel_rfl) J1 (by decide) (fun W cs d=>M0) (h 20 rfl).1 (GsV.rwV (h 22 rfl)) (by simp;omega) g.size ho (A1 hv).1 (A1 hv).2)
        (fun m hm hne hr=>by
        match m,hm,hne,hr with
        | 0,_,_,_=>exact .inl ⟨h 0 rfl,fun q hq=>C0 (h 20 rfl).1 (GsV.block (h 0 rfl).2 hq)⟩
        | 1,_,_,hr=>exact absurd hr Bool.false_ne_true
        | 2,_,_,hr=>exact absurd hr Bool.false_ne_true
        | 3,_,_,hr=>exact absurd hr Bool.false_ne_true
        | 4,_,_,_=>exact .inl ⟨h 4 rfl,fun q hq=>N7 (h 4 rfl) (h 20 rfl).1 hq⟩
        | 5,_,_,hr=>exact absurd hr Bool.false_ne_true
        | 6,_,_,hr=>exact absurd hr Bool.false_ne_true
        | 7,_,_,hr=>exact absurd hr Bool.false_ne_true
        | 8,_,_,hr=>exact absurd hr Bool.false_ne_true
        | 9,_,_,hr=>exact absurd hr Bool.false_ne_true
        | 10,_,_,hr=>exact absurd hr Bool.false_ne_true
        | 11,_,_,hr=>exact absurd hr Bool.false_ne_true
        | 12,_,_,hr=>exact absurd hr Bool.false_ne_true
        | 13,_,_,hr=>exact absurd hr Bool.false_ne_true
        | 14,_,_,hr=>exact absurd hr Bool.false_ne_true
        | 15,_,_,hr=>exact absurd hr Bool.false_ne_true
        | 16,_,_,hr=>exact absurd hr Bool.false_ne_true
        | 17,_,_,hr=>exact absurd hr Bool.false_ne_true
        | 18,_,_,hr=>exact absurd hr Bool.false_ne_true
        | 19,_,_,hr=>exact absurd hr Bool.false_ne_true
        | 20,_,hne,_=>exact absurd rfl hne
        | 21,_,_,hr=>exact absurd hr Bool.false_ne_true
        | 22,_,_,_=>exact .inl ⟨h 22 rfl,fun q hq=>C0 (h 20 rfl).1 (GsV.block (h 22 rfl) hq)⟩
        | j+23,hm,_,_=>exact absurd hm (by simp)),
    fun σ W g h hp hb=>fun ρ o ho _ hv=>aR (by
     obtain ⟨v,W2,r1,r2,r3,r4,r5⟩:=X0 kG (W:=W) (by kernel_rfl) (by kernel_rfl) g.size ho
     refine ⟨v,W2,r1,r2,⟨r3, ?_,r5⟩,fun q hq=>by have hq:v.ownBlock=some q:=hq;rw [r4] at hq;cases hq;exact Nat.le_refl _⟩
     rw [r4]
     exact ⟨(fun e=>nomatch e),fun e=>by have e4:(σ.an 24 0).ownBlock=x:=(h 24 rfl).2;exact absurd ((h 24 rfl).1.inb (e4.trans e.symm)).1 (Nat.lt_irrefl _)⟩),
    fun σ W g h hp hb=>fun ρ o ho _ hv=>⟨_,B7 ho ((A1 hv).1.trans (h 18 rfl)) (A1 hv).2 (M3 (by omega) (by omega)),rfl⟩,
    fun σ W g h hp hb=>fun ρ o ho _ hv=>by
     obtain ⟨u,h1,h2,h3⟩:=S1 (i:=0) (k:=lo+1) (L5 (h 4 rfl)) ho (A1 hv).1 (.inr ⟨rfl,rfl⟩) (.inl (congrArg some (((A1 hv).2.trans (h 26 rfl)).trans (by push_cast;rfl)))) (by omega) (by omega)
     exact ⟨u,h1,(show GsV w.heap.size W u (L.take (lo+1)) by simpa using h2),fun q hq=>⟨4,rfl,⟨_,_,rfl,.inl (h3 q hq)⟩⟩⟩,
    fun σ W g h hp hb=>fun ρ o ho _ hv=>aR (by
     obtain ⟨v,W2,r1,r2,r3,r4⟩:=bB kG (by kernel_rfl) J1 (by decide) (fun W cs d=>M0) (h 25 rfl).1 (h 25 rfl).2.2 (GsV.rwV (h 27 rfl)) (fun e=>by have:=congrArg List.length e;rw [List.length_take,List.length_nil] at this;omega) (by simp;omega) g.size ho (A1 hv).1 (A1 hv).2
     refine ⟨v,W2,r1,r2,⟨r3, ?_⟩,fun q hq=>by have hq:v.ownBlock=some q:=hq;rw [r4] at hq;cases hq;exact Nat.le_refl _⟩
     rw [r4]
     exact ⟨(fun e=>nomatch e),fun e=>by have e4:(σ.an 24 0).ownBlock=x:=(h 24 rfl).2;exact absurd ((h 24 rfl).1.inb (e4.trans e.symm)).1 (Nat.lt_irrefl _)⟩),
    fun σ W g h hp hb=>fun ρ o ho _ hv=>by
     obtain ⟨u,h1,h2,h3⟩:=S1 (i:=hi) (k:=L.length) (L5 (h 4 rfl)) ho (A1 hv).1 (.inl (congrArg some ((A1 hv).2.trans (h 19 rfl)))) (.inr ⟨rfl,rfl⟩) (by omega) (by omega)
     exact ⟨u,h1,(by rw [List.take_of_length_le (by simp)] at h2;exact h2),fun q hq=>⟨4,rfl,⟨_,_,rfl,.inl (h3 q hq)⟩⟩⟩,
    fun σ W g h hp hb=>fun ρ o ho _ hv=>aV kG (b0:=true) (A0:=(fun o=>o≠none/\o≠x)) (l:=(L.take (lo+1))) (A2:=(fun _=>True)) (l2:=(L.take (lo+1)++L.drop hi)) g (m0:=28) rfl rfl rfl rfl (h 28 rfl) (fun _ _=>trivial) (J7 kG (by kernel_rfl) J1 (by decide) (fun W cs d=>M0) (h 28 rfl).1 (GsV.rwV (h 29 rfl)) (by simp;omega) g.size ho (A1 hv).1 (A1 hv).2)
        (fun m hm hne hr=>by
        match m,hm,hne,hr with
        | 0,_,_,_=>exact .inl ⟨h 0 rfl,fun q hq=>C0 (h 28 rfl).1 (GsV.block (h 0 rfl).2 hq)⟩
        | 1,_,_,hr=>exact absurd hr Bool.false_ne_true
        | 2,_,_,hr=>exact absurd hr Bool.false_ne_true
        | 3,_,_,hr=>exact absurd hr Bool.false_ne_true
        | 4,_,_,_=>exact .inl ⟨h 4 rfl,fun q hq=>N7 (h 4 rfl) (h 28 rfl).1 hq⟩
        | 5,_,_,hr=>exact absurd hr Bool.false_ne_true
        | 6,_,_,hr=>exact absurd hr Bool.false_ne_true
        | 7,_,_,hr=>exact absurd hr Bool.false_ne_true
        | 8,_,_,hr=>exact absurd hr Bool.false_ne_true
        | 9,_,_,hr=>exact absurd hr Bool.false_ne_true
        | 10,_,_,hr=>exact absurd hr Bool.false_ne_true
        | 11,_,_,hr=>exact absurd hr Bool.false_ne_true
        | 12,_,_,hr=>exact absurd hr Bool.false_ne_true
        | 13,_,_,hr=>exact absurd hr Bool.false_ne_true
        | 14,_,_,hr=>exact absurd hr Bool.false_ne_true
        | 15,_,_,hr=>exact absurd hr Bool.false_ne_true
        | 16,_,_,hr=>exact absurd hr Bool.false_ne_true
        | 17,_,_,hr=>exact absurd hr Bool.false_ne_true
        | 18,_,_,hr=>exact absurd hr Bool.false_ne_true
        | 19,_,_,hr=>exact absurd hr Bool.false_ne_true
        | 20,hm,_,_=>exact absurd hm Bool.false_ne_true
        | 21,_,_,hr=>exact absurd hr Bool.false_ne_true
        | 22,_,_,_=>exact .inl ⟨h 22 rfl,fun q hq=>C0 (h 28 rfl).1 (GsV.block (h 22 rfl) hq)⟩
        | 23,hm,_,_=>exact absurd hm Bool.false_ne_true
        | 24,_,_,_=>exact .inl ⟨h 24 rfl,fun q hq=>Q8 (h 28 rfl).2.2 ((h 24 rfl).2.symm.trans hq)⟩
        | 25,_,_,_=>exact .inr (.inr ⟨(fun o=>o≠none/\o≠x),[],rfl,Nat.zero_le _,h 25 rfl⟩)
        | 26,_,_,hr=>exact absurd hr Bool.false_ne_true
        | 27,_,_,_=>exact .inl ⟨h 27 rfl,fun q hq=>C0 (h 28 rfl).1 (GsV.block (h 27 rfl) hq)⟩
        | 28,_,hne,_=>exact absurd rfl hne
        | 29,_,_,_=>exact .inl ⟨h 29 rfl,fun q hq=>C0 (h 28 rfl).1 (GsV.block (h 29 rfl) hq)⟩
        | j+30,hm,_,_=>exact absurd hm (by simp)),
    fun σ W g h hp hb=>V3 (congrArg (fun v=>[v]) (h 1 rfl)) (J4 W x0 y0 d hs.1.1 hs.1.2 hs.2.1 hs.2.2 (hTab.kept g (by simp))),
    fun σ W g h hp hb=>eH h_row (D3 W _ _ L (lat x0 y0 d) 1 ((L5 (h 4 rfl)).up g.size) (h 31 rfl) (by omega) (by omega) hI (A8 hs.1.1 hs.1.2 hs.2.1 hs.2.2) (hTab.kept g (by simp))),
    fun σ W g h hp hb=>toAr (D3 W _ _ ((L.drop lo).take (hi+1-lo)) (lat x0 y0 d) 1 (h 24 rfl).1.gs (h 31 rfl) (by omega) (by simp;omega) (fun d hd=>hI d (List.mem_of_mem_drop (List.mem_of_mem_take hd))) (A8 hs.1.1 hs.1.2 hs.2.1 hs.2.2) (hTab.kept g (by simp))),
    fun σ W g h hp hb=>toAr (D3 W _ _ (L.take (lo+1)++L.drop hi) (lat x0 y0 d) 1 (h 30 rfl).1.gs (h 31 rfl) (by omega) (by simp;omega) (fun d hd=>hI d ((List.mem_append.1 hd).elim List.mem_of_mem_take List.mem_of_mem_drop)) (A8 hs.1.1 hs.1.2 hs.2.1 hs.2.2) (hTab.kept g (by simp))),
    fun σ W g h hp hb=>toV (O0 W (hTab.kept g (by simp))) rfl,
    trivial⟩)
    (fun x=>⟨fun σ W g h hp=>⟨_,h 17 rfl⟩,
    fun σ W g h hp=>by
     have q:kk<ii:=of_decide_eq_true (F0 (h 17 rfl) (hp 17 0 true rfl))
     exact ⟨(h 16 rfl).trans (by rw [hlo_];congr 1;omega),(h 11 rfl).trans (by rw [hhi_];congr 1;omega),trivial⟩,
    fun σ W g h hp=>by
     have q:¬ kk<ii:=of_decide_eq_false (F0 (h 17 rfl) (hp 17 0 false rfl))
     exact ⟨(h 11 rfl).trans (by rw [hlo_];congr 1;omega),(h 16 rfl).trans (by rw [hhi_];congr 1;omega),trivial⟩,
    fun σ W g h hp=>⟨(σ.an 23 0).ownBlock,(fun e=>nomatch e),⟨rfl,fun m hm=>rfl⟩,⟨⟨(h 23 rfl).1,rfl⟩,fun q hq=>⟨23,rfl,hq⟩⟩,trivial⟩,
    trivial⟩)
    (fun x hk=>⟨fun τ W g h hp hb=>⟨rfl,g⟩,
    trivial⟩)
 · skip
   have h0:L.length=0:=by omega
   refine G6 B3 Tryd.func5 [sGe w.heap.size va l,sDt x0 y0 d,sZ i0,sZ k0] (fun x:Option Nat=>[oA w.heap.size va L,sZ L.length,sV (.bool true),sV (.bool true)]) (fun _ _=>0) (none) (fun _=>rfl) [] [] (.cons ⟨rfl,Ha⟩ (.cons rfl (.cons rfl (.cons rfl .nil)))) (rs:=[(cl 4 13 [on 0],[]),(co 5 (.call ⟨.builtin .len, #[(.tmp 23)], #[43]⟩) 3 [on 4] [0,1,2,3,4] [],[]),(co 6 (.binOp .eql 3 (.tmp 24) (.const (.int .i64 0)) 3) 4 [on 5,.v false [.lit (.int .i64 0)]] [0,1,2,3,4,5] [],[]),(cl 7 15 [],[])]) (js:=[]) (outs:=[⟨.v false [.lit (.bool true)],(List.range 8),[],[],[]⟩]) (nc:=8) (by kernel_rfl)
    (fun x=>⟨fun σ W g h hp hb=>by
     have e : σ.an 0 0=va:=(h 0 rfl).1
     have h0:GsV w.heap.size W (σ.an 0 0) l:=(h 0 rfl).2
     rw [e] at h0
     show Calls _ _ #[σ.an 0 0] W _
     rw [e, <- hLe]
     exact oN g.size (fun q hq=>⟨0,rfl,by show fpS (σ.an 0 0) q;rw [e];exact hq⟩) (fun q hq=>(h0.block hq).1) (T7 W va l (h0.up g.size) hIn),
    fun σ W g h hp hb=>fun ρ o ho _ hv=>⟨_,J8 (L5 (h 4 rfl)) ho (B2 hv) ⟨48,by kernel_rfl⟩,rfl⟩,
    fun σ W g h hp hb=>fun ρ o ho _ hv=>⟨_,C8 true ho ((A1 hv).1.trans (h 5 rfl)) (A1 hv).2 (decide_eq_true (by omega)),rfl⟩,
    fun σ W g h hp hb=>toV (O0 W (hTab.kept g (by simp))) rfl,
    trivial⟩)
    (fun x=>trivial)
    (fun x hk=>⟨fun τ W g h hp hb=>⟨rfl,g⟩,
    trivial⟩)
end Go.Proofs.YtamdnbbgpacfkaaDoor
namespace Go.Proofs.YtamdnbbgpacfkaaDoor.WindCuts
open Go.ChangeShapes Go.WideShapes Go.ChangeAt Go.RowKit Go.ChangeMaps
theorem contract (H:Type) (enc:TypeId × Value->H) (W:World) (base:Nat) (args:Array Value) (ds gs:List (DataW H)) (before:List MemPlace)
 (hval:∀ (j:Nat) t v,Tryd.f5.params[j]?=some t->args[j]?=some v->Value.okWide Tryd.prog W .any base t v)
 (hW:DataW.Whole enc Tryd.prog Tryd.f5.params.toList Rows.windCutsSpec.vars false W args.toList ds gs before) (hL:laidMetH Tryd.prog Rows.windCutsRow.laid W) :
 Calls Tryd.prog 5 args W fun e W'=>∃ v,e = .returned v/\Rows.windCutsSpec.post enc Tryd.prog Tryd.f5 false true false false W args v W':=by
 have hW':=hW
 obtain ⟨p,q,hA0,hV,rfl,hfz,hnd⟩:=hW
 have hA:DataW.TrodAll enc Tryd.prog W 0 (fun _=>true) true Tryd.f5.params.toList args.toList ds p:=hA0
 rw [Tryd.params5] at hA hval
 obtain ⟨v0,vs0,d0,ds0,p0,q0,hargs0,rfl,rfl,h0,r0⟩:=trodAll_cons hA
 obtain ⟨v1,vs1,d1,ds1,p1,q1,hargs1,rfl,rfl,h1,r1⟩:=trodAll_cons r0
 obtain ⟨v2,vs2,d2,ds2,p2,q2,hargs2,rfl,rfl,h2,r2⟩:=trodAll_cons r1
 obtain ⟨v3,vs3,d3,ds3,p3,q3,hargs3,rfl,rfl,h3,r3⟩:=trodAll_cons r2
 obtain ⟨rfl,rfl,rfl⟩:=trodAll_nil r3
 obtain rfl:args = #[v0,v1,v2,v3]:=by cases args;simp_all
 obtain ⟨rfl,rfl⟩:=trodVars_none hV
 simp only [List.append_nil] at hW' hfz
 have hlt:∀ p ∈ p0++(p1++(p2++p3)),p.block<W.heap.size:=fun p hp=>by
  have:=DataW.TrodAll.lt hA p (by simpa using hp)
  exact this
 have hv0:=hval 0 43 v0 rfl rfl
 obtain ⟨s0,ln0,cp0,rfl⟩:=okWide_slice Tryd.underlying43 hv0
 obtain ⟨l0,hd0,hs0⟩:=open_gs h0
 have hv1:=hval 1 23 v1 rfl rfl
 obtain ⟨x1,y1,z1,rfl,a1,b1,c1⟩:=X4 hv1 h1
 have hv2:=hval 2 3 v2 rfl rfl
 obtain ⟨x2,rfl,_,_,w2⟩:=open_int Tryd.underlying3 hv2 h2
 have hv3:=hval 3 3 v3 rfl rfl
 obtain ⟨x3,rfl,_,_,w3⟩:=open_int Tryd.underlying3 hv3 h3
 clear hA0
 refine (nV W _ l0 x1 y1 z1 x2 x3 hd0 hs0 ⟨a1,b1⟩ (U6 w2).1 (U6 w2).2 (U6 w3).1 (U6 w3).2 (tab_of hL)).mono fun e W' ⟨he,hg⟩=>?_
 subst he
 have hs0:∀ sp:Nat->Bool,(∀ p ∈ p0,sp p.block=true)->DataW.Trod enc Tryd.prog W' 0 sp true 43 (.slice s0 ln0 cp0) d0 p0:=fun sp hsp=>
  Go.WideElems.Trod_stays (by kernel_rfl) (by kernel_rfl) (of_decide_eq_true (by kernel_rfl)) h0 (fun p hp=>I4 hg (hlt p (by simp [hp]))) hsp
 have hs1:∀ sp:Nat->Bool,(∀ p ∈ p1,sp p.block=true)->DataW.Trod enc Tryd.prog W' 0 sp true 23 (.agg #[.int .i64 x1,.int .i64 y1,.int .i64 z1]) d1 p1:=fun sp hsp=>
  Go.WideElems.Trod_stays (by kernel_rfl) (by kernel_rfl) (of_decide_eq_true (by kernel_rfl)) h1 (fun p hp=>I4 hg (hlt p (by simp [hp]))) hsp
 have hs2:∀ sp:Nat->Bool,(∀ p ∈ p2,sp p.block=true)->DataW.Trod enc Tryd.prog W' 0 sp true 3 (.int .i64 x2) d2 p2:=fun sp hsp=>
  Go.WideElems.Trod_stays (by kernel_rfl) (by kernel_rfl) (of_decide_eq_true (by kernel_rfl)) h2 (fun p hp=>I4 hg (hlt p (by simp [hp]))) hsp
 have hs3:∀ sp:Nat->Bool,(∀ p ∈ p3,sp p.block=true)->DataW.Trod enc Tryd.prog W' 0 sp true 3 (.int .i64 x3) d3 p3:=fun sp hsp=>
  Go.WideElems.Trod_stays (by kernel_rfl) (by kernel_rfl) (of_decide_eq_true (by kernel_rfl)) h3 (fun p hp=>I4 hg (hlt p (by simp [hp]))) hsp
 exact ⟨_,rfl,bC hW' hlt (fun _ _ _=>trodAll_cons_mk (shut_bool Tryd.underlying4 _) trodAll_mk0) (fun sp hsp=>by
  have:=trodAll_cons_mk (hs0 sp (fun p hp=>hsp p (by simp [hp]))) (trodAll_cons_mk (hs1 sp (fun p hp=>hsp p (by simp [hp]))) (trodAll_cons_mk (hs2 sp (fun p hp=>hsp p (by simp [hp]))) (trodAll_cons_mk (hs3 sp (fun p hp=>hsp p (by simp [hp]))) (trodAll_mk0))))
  rw [List.append_nil] at this
  exact this) (fun _=>rfl) hg (ok_one (by kernel_rfl) rfl (okWide_bool_mk Tryd.underlying4 _))⟩
theorem laid_met (os:Os):laidMet Tryd.prog Rows.windCutsRow.laid ((M4 os).forCall (fun _ _=>0) ⟨#[], #[.slice none 0 0,.agg #[.int .i64 0,.int .i64 0,.int .i64 0],.int .i64 0,.int .i64 0],[]⟩).memory:=
 laidMet_of_run' 80 (by kernel_rfl) (by kernel_rfl)
theorem reads (os:Os) {H:Type} (enc:TypeId × Value->H):∃ places,DataW.whole enc Tryd.prog ((M4 os).forCall (fun _ _=>0) ⟨#[], #[.slice none 0 0,.agg #[.int .i64 0,.int .i64 0,.int .i64 0],.int .i64 0,.int .i64 0],[]⟩).memory Tryd.f5.params.toList Rows.windCutsSpec.vars false #[Value.slice none 0 0,Value.agg #[.int .i64 0,.int .i64 0,.int .i64 0],Value.int .i64 0,Value.int .i64 0].toList 8=some ([.nil,.agg [.lit (.int .i64 0),.lit (.int .i64 0),.lit (.int .i64 0)],.lit (.int .i64 0),.lit (.int .i64 0)],[],places):=
 ⟨[],by kernel_rfl⟩
theorem lifted (os:Os) (started:os.Started) (H:Type) (enc:TypeId × Value->H) (F:Stop.Interp) :
 ReturnsInHanded {} Tryd.checked os 5 .any ((OpenSpec.ofChange Rows.windCutsSpec).preRow enc Tryd.prog Tryd.f5 Rows.windCutsRow.domain false Rows.windCutsRow.laid) (((OpenSpec.ofChange Rows.windCutsSpec).at F).post enc Tryd.prog Tryd.f5 false true false false):=by
 obtain ⟨places,hx⟩:=reads os enc
 refine returnsInHanded_of_row (C:=Tryd.checked) (s:=OpenSpec.ofChange Rows.windCutsSpec) rL started (by kernel_rfl) Tryd.func5
  (witness_row_at (enc:=enc) (C:=Tryd.checked) false (M4 os) #[.slice none 0 0,.agg #[.int .i64 0,.int .i64 0,.int .i64 0],.int .i64 0,.int .i64 0] rfl (by kernel_rfl) (by kernel_rfl) (by kernel_rfl)
   (OpenSpec.preRow_of_cond 8 hx (by kernel_rfl) (fun k hk=>by cases hk) (by kernel_rfl) (laid_met os))) ?_
 intro W base args ds gs before hval hW _ _ _ hL _ _
 exact contract H enc W base args ds gs before hval hW hL
theorem said:Rows.WindCutsSaid:=
 OpenClaim.holds_of_cond 5 Tryd.f5 rfl rfl rfl rfl rfl rfl rfl ⟨rfl,rfl,rfl,rfl,rfl⟩ rfl rfl rfl rfl rfl (by kernel_rfl) Tryd.func5 (by kernel_rfl)
  (of_decide_eq_true (by kernel_rfl)) (by unfold Func.isWrapper;first | (rw [if_pos (by decide +kernel)];kernel_rfl) | (rw [if_neg (by decide +kernel)];exact ⟨rfl,rfl⟩))
  (fun os started H enc _ F=>by rw [OpenClaim.pre_eq_preRow];exact lifted os started H enc F)
theorem plain (f : FuncId) (fn : Func) (hf : Tryd.pinned.checked.prog.funcNamed "pellicle/pelliclelaw13.WindCuts" = some f) (hfn : Tryd.pinned.checked.prog.funcs[f]? = some fn) :
 false=Tryd.pinned.checked.prog.looks [] /\ ∀ (j:Nat) t,fn.params[j]?=some t->Tryd.pinned.checked.prog.wantsStandIn t=false:=by
 obtain rfl : f = 5 := Option.some.inj ((show Tryd.prog.funcNamed "pellicle/pelliclelaw13.WindCuts" = some 5 by kernel_rfl).symm.trans hf) |>.symm
 obtain rfl:fn=Tryd.f5:=(Option.some.inj (Tryd.func5.symm.trans hfn)).symm
 refine ⟨by kernel_rfl,fun j t ht=>?_⟩
 rw [Tryd.params5] at ht
 have ht2:=Array.mem_of_getElem? ht
 simp at ht2
 first | (rcases ht2 with rfl | rfl | rfl) | (rcases ht2 with rfl | rfl) | subst ht2
 all_goals exact (show Tryd.prog.wantsStandIn _=false by kernel_rfl)
theorem card:Rows.WindCutsCardSaid:=
 Claim7.holds_tied_plain_at .later [] _ _ _ _ said (fun _ h=>by cases h) (by kernel_rfl) (fun _ h=>by cases h) windCuts_row_tie rfl ⟨rfl,rfl⟩ (by kernel_rfl) rfl plain (by kernel_rfl)
end Go.Proofs.YtamdnbbgpacfkaaDoor.WindCuts
