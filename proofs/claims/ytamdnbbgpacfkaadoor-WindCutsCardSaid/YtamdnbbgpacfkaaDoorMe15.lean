/- What the laws lean on, part 15. -/
import Derived.Below
import Derived.BigCall
import Derived.BigQuiet
import Derived.BigRegion
import Derived.Deep.AppendLies
import Derived.Deep.CutBlock
import Derived.Deep.CutRange
import Derived.Deep.DeepCutAuto
import Derived.Deep.DeepHandedRow
import Derived.Deep.LoopGhost
import Derived.Deep.MidRow
import Derived.Deep.QuietTactic
import Derived.Deep.RegionHeld3
import Derived.Deep.RegionLaw
import Derived.Deep.WholeRow
import Derived.Laws.AppendOwn
import Derived.Laws.Concat
import Derived.Laws.CopyOwn
import Derived.Laws.Externs
import Derived.Laws.IdiomStrings
import Derived.Lib.BitFns
import Derived.Lib.Bytealg
import Derived.Lib.Hide
import Derived.Lib.Slices
import Derived.Lib.Small
import Derived.Lib.Strings
import Derived.Lib.Walk
import Derived.LoopIn
import Derived.LoopN
import Derived.LoopNIn
import Derived.Maps.AppendAt
import Derived.OpenShut
import Derived.OrdersHeld
import Derived.OrdersIn
import Derived.Outline
import Derived.OwnWalk
import Derived.OwnWalkIn
import Derived.ProofKit
import Derived.RangeFuncBound
import Derived.RangeFuncCalls
import Derived.RangeFuncLeaves
import Derived.RangeFuncNested
import Derived.RangeFuncOwn
import Derived.Shelf.Abstract
import Derived.Shelf.Bits.Mul64
import Derived.Shelf.RegionOpen
import Derived.Shelf.Spec.TrailingZeros
import Derived.StillTailTactics
import Derived.TacticsInMore
import Derived.WalkKit
import Derived.WalkLawsBesides
import Derived.WalkSpells
import Derived.Test.YtamdnbbgpacfkaaDoorProg
import Derived.Test.YtamdnbbgpacfkaaDoorRows
import Derived.Test.YtamdnbbgpacfkaaDoorMe14
set_option linter.unusedVariables false
set_option linter.unusedSimpArgs false
set_option maxRecDepth 100000
namespace Go.Proofs.YtamdnbbgpacfkaaDoor
open Go.RowKit Mat Ex PM
def sGs (base:Nat) (l:List G2):Sp where
 sh := .one
 F v W:=GsV base W v l
 fits v W h:=by obtain ⟨s,n,c,rfl,_⟩:=h;exact ⟨fun _ => .slice s n c,fun _=>rfl,rfl⟩
 row:=true
 fp v _ q:=fpS v q
 lasts v W W' k hq h:=⟨h.keeps hq,fun _ h=>h⟩
 inb v W h q hq:=(h.block hq).2
 flat h:=by cases h
def sGa (base:Nat) (d:G2):Sp where
 sh := .one
 F v W:=GaV base W v d
 fits v W h:=by obtain ⟨b,off,rfl,_⟩:=h;exact ⟨fun _ => .pointer (some ⟨b,off,none⟩),fun _=>rfl,rfl⟩
 row:=true
 fp v _ q:=fpP v q
 lasts v W W' k hq h:=by
  obtain ⟨b,off,rfl,hb,hc⟩:=h
  exact ⟨⟨b,off,rfl,hb,hc.same (hq b ⟨off,rfl⟩)⟩,fun _ h=>h⟩
 inb v W h q hq:=(h.block hq).2
 flat h:=by cases h
theorem gg_at {l:List G2} {k:Nat} (h:k<l.length):l[k]=gg l k:=by simp [gg,h]
theorem rQ {l:List G2} {k:Nat} (h:k<l.length):gg l k ∈ l:=by rw [<- gg_at h];exact List.getElem_mem h
theorem aF {l:List G2} {k:Nat} (h:k<l.length):l.take (k+1)=l.take k++[gg l k]:=by rw [<- gg_at h];simp
section
variable {P:Program} {ρ : Operand->Value} {o:Oper} {W:World}
theorem J8 {t:TypeId} {x:Operand} {v:Value} {l:List G2} {base:Nat} (h:GsV base W v l) (ho:o.op = .call ⟨.builtin .len, #[x], #[t]⟩) (hx : ρ x=v) (hu:∃ el,Tryd.prog.underlying t=some (.slice el)) :
 (execOp ρ o).run Tryd.prog W = .ok (.value (.int .i64 l.length)) W:=by
 obtain ⟨s,n,c,rfl,hl,hn,h⟩:=h
 obtain ⟨el,hu⟩:=hu
 simp [execOp,ho,resolve,invoke,builtin,Builtin.len_,run_underlying hu W,hx,goInt,hl]
theorem lX {x y:Operand} {v:Value} {l:List G2} {base:Nat} (h:GsV base W v l) (ho:o.op = .indexAddr 43 x y) (hx : ρ x=v) (k:Nat) (hk:k<l.length) (hy : ρ y = .int .i64 k) :
 ∃ u,(execOp ρ o).run Tryd.prog W = .ok (.value u) W/\GaV base W u (gg l k) /\ ∀ q,fpP u q->fpS v q:=by
 obtain ⟨s,n,c,rfl,hl,hn,h⟩:=h
 obtain ⟨b,off,rfl,hb,hc⟩:=h.resolve_left (fun e=>by rw [e] at hk;simp at hk)
 have hu:Tryd.prog.underlying 43=some (.slice 48):=by kernel_rfl
 have hz:I3 Tryd.prog 48=some 2:=by kernel_rfl
 obtain ⟨m,rfl⟩:∃ m,n=m+1:=⟨n-1,by omega⟩
 have hk':(0:Int)<=(k:Int)/\(k:Int)<((m+1:Nat):Int):=by omega
 refine ⟨.pointer (some ⟨b,off+2*k,none⟩), ?_,⟨b,off+2*k,rfl,hb,by rw [<- gg_at hk];exact hc k hk⟩,fun q ⟨o',e⟩=>by cases e;exact ⟨off,m,c,rfl⟩⟩
 simp only [execOp,ho,hx,hy,Instr.indexAt,asIntOf,Sem.run_bind,Sem.run_pure,run_underlying hu W,Result.andThen_ok,hk',and_self,if_true,C6 Tryd.prog hz W,Instr.sureAddr,Addr.add_mid]
 rw [show (k:Int).toNat*2=2*k by omega]
theorem rO {x:Operand} {v:Value} {d:G2} {base:Nat} (h:GaV base W v d) (ho:o.op = .load 48 x) (hx : ρ x=v) :
 ∃ u,(execOp ρ o).run Tryd.prog W = .ok (.value u) W/\u = .agg #[.int .i64 d.1,.int .i64 d.2]:=by
 obtain ⟨q,off,rfl,hb,h1,h2⟩:=h
 refine ⟨_, ?_,rfl⟩
 have ha:iC Tryd.prog 48=some true:=by kernel_rfl
 have hz:I3 Tryd.prog 48=some 2:=by kernel_rfl
 have hl:(loadCells ⟨q,off,none⟩ [Value.int .i64 d.1,.int .i64 d.2].length).run Tryd.prog W = .ok [Value.int .i64 d.1,.int .i64 d.2].toArray W:=
  run_loadCells_list (P:=Tryd.prog) W ⟨q,off,none⟩ _ fun j v hv=>by
   rw [Addr.add_mid]
   match j,hv with
   | 0,hv=>cases hv;simpa using h1
   | 1,hv=>cases hv;simpa using h2
   | n+2,hv=>simp at hv
 simp only [execOp,ho,hx,Instr.loadAt,Instr.sureAddr,loadVar,Sem.run_bind,Sem.run_pure,Result.andThen_ok,K8 Tryd.prog ha W,C6 Tryd.prog hz W,if_true]
 simp only [List.length_cons,List.length_nil] at hl
 rw [hl];rfl
end
def sGp (d:G2):Sp := .of (.agg 2) (fun v _=>v = .agg #[.int .i64 d.1,.int .i64 d.2]) (fun v W h=>⟨D7 [.int .i64 d.1,.int .i64 d.2],B4 (by simp [Value.oneCell']),h⟩) (fun v W W' k h=>h)
def gl (l:List G2):List Pq:=l.map fun d=>B0 d.1 d.2
theorem gl_next {l:List G2} {k:Nat} (h:k<l.length):gl (l.take (k+1))=gl (l.take k)++[B0 (gg l k).1 (gg l k).2]:=by rw [aF h];simp [gl]
def eD (d:G2):Prop:=(-9223372036854775808<=d.1/\d.1<=9223372036854775807)/\(-9223372036854775808<=d.2/\d.2<=9223372036854775807)
theorem gds_ne {base:Nat} {W:World} {v:Value} {l:List Pq} (h:OwV kPt base W v l) {q:Nat} (hq:q<base/\q<W.heap.size):v.ownBlock≠some q:=fun e=>by have:=(h.inb e).2.1;omega
theorem qN (w:World) (va:Value) (l:List G2) (Ha:GsV w.heap.size w va l) (hn:l.length<=200) (hL:∀ d ∈ l,eD d) :
 Calls Tryd.prog 37 #[va] w (iE w (gl l)):=by
 refine G6 B3 Tryd.func37 [sGs w.heap.size l] (fun k:Nat=>[sZ l.length,sZc (k<=l.length) (k:Int),sOw kPt w.heap.size (gl (l.take k)),sBq (decide (k<l.length)),sGa w.heap.size (gg l k),sGp (gg l k),sPt (B0 (gg l k).1 (gg l k).2),sOw kPt w.heap.size (gl (l.take (k+1))),sZ ((k:Int)+1)]) (fun m k=>if m=2 then l.length-k else 0) (0) (fun _=>rfl) [1000000] [some [[.t 5,.t 9,.t 10,.t 11,.t 12,.t 13,.t 14,.t 15,.t 16,.t 17],[.t 8],[.t 3]]] (.cons Ha .nil) (rs:=[(co 1 (.call ⟨.builtin .len, #[(.tmp 6)], #[43]⟩) 3 [on 0] [0] [],[]),(co 4 (.binOp .lss 3 (.tmp 8) (.tmp 7) 3) 0 [on 2,on 1] [0,1,2,3] [],[]),(co 5 (.indexAddr 43 (.tmp 6) (.tmp 8)) 0 [on 0,on 2] [0,1,2,3,4] [],[(4,0,true)]),(co 6 (.load 48 (.tmp 10)) 48 [on 5] [0,1,2,3,4,5] [],[(4,0,true)]),(cl 7 21 [ag 2 6],[(4,0,true)]),(cow 8 (.call ⟨.builtin .append, #[(.tmp 12),(.tmp 15)], #[40,40]⟩) 40 [on 3,.v false [.row 1 0 1 1]] [0,1,2,3,4,5,6,7] [(1,33,[.an 7 0,.an 7 1,.an 7 2,.an 7 3,.an 7 4,.an 7 5,.an 7 6,.an 7 7])],[(4,0,true)]),(co 9 (.binOp .add 3 (.tmp 8) (.const (.int .i64 1)) 3) 3 [on 2,.v false [.lit (.int .i64 1)]] [0,1,2,3,4,5,6,7,8] [],[(4,0,true)])]) (js:=[.loop false 2 [(2,.v false [.lit (.int .i64 0)]),(3,.v false [.lit (.slice none 0 0)])] (List.range 2) [],.test 4 0 (List.range 5) [],.loop true 2 [(2,on 9),(3,on 8)] (List.range 10) [(4,0,true)]]) (outs:=[⟨on 3,(List.range 5),[(4,0,false)],[],[]⟩]) (nc:=10) (by kernel_rfl)
  (fun k=>⟨fun σ W g h hp hb=>fun ρ o ho _ hv=>⟨_,J8 (h 0 rfl) ho (B2 hv) ⟨48,by kernel_rfl⟩,rfl⟩,
  fun σ W g h hp hb=>fun ρ o ho _ hv=>⟨_,U4 ho ((A1 hv).1.trans (h 2 rfl).1) ((A1 hv).2.trans (h 1 rfl)) (decide_eq_decide.2 (by omega)),rfl⟩,
  fun σ W g h hp hb=>fun ρ o ho _ hv=>by
   have hi:k<l.length:=of_decide_eq_true (vB (h 4 rfl) (hp 4 0 true rfl))
   obtain ⟨u,h1,h2,h3⟩:=lX (h 0 rfl) ho (A1 hv).1 k hi ((A1 hv).2.trans (h 2 rfl).1)
   exact ⟨u,h1,h2,fun q hq=>⟨0,rfl,h3 q hq⟩⟩,
  fun σ W g h hp hb=>fun ρ o ho _ hv=>rO (h 5 rfl) ho (B2 hv),
  fun σ W g h hp hb=>by
   have hi:k<l.length:=of_decide_eq_true (vB (h 4 rfl) (hp 4 0 true rfl))
   have hs:=hL _ (rQ hi)
   exact V3 (congrArg (fun v=>[v]) (h 6 rfl)) (O4 W _ _ hs.1.1 hs.1.2 hs.2.1 hs.2.2),
  fun σ W g h hp hb=>fun ρ o ho _ hv=>by
   have hi:k<l.length:=of_decide_eq_true (vB (h 4 rfl) (hp 4 0 true rfl))
   exact appS kPt g rfl (m0:=3) rfl rfl (by rw [<- gl_next hi];rfl) (h 3 rfl) (R8 kPt (by kernel_rfl) (lW _ _ (by kernel_rfl)) (by decide) (h 3 rfl) (cs:=[σ.an 7 0, σ.an 7 1, σ.an 7 2, σ.an 7 3, σ.an 7 4, σ.an 7 5, σ.an 7 6, σ.an 7 7]) rfl (hb.1 _ (.head _)) (h 7 rfl) (PtV.one (h 7 rfl)) (by simp [gl];omega) g.size ho (A1 hv).1 (A1 hv).2)
    (fun m hm hne hr=>by
    match m,hm,hne,hr with
    | 0,_,_,_=>exact .inl ⟨h 0 rfl,fun q hq=>gds_ne (h 3 rfl) (GsV.block (h 0 rfl) hq)⟩
    | 1,_,_,hr=>exact absurd hr Bool.false_ne_true
    | 2,_,_,hr=>exact absurd hr Bool.false_ne_true
    | 3,_,hne,_=>exact absurd rfl hne
    | 4,_,_,hr=>exact absurd hr Bool.false_ne_true
    | 5,_,_,_=>exact .inl ⟨h 5 rfl,fun q hq=>gds_ne (h 3 rfl) (GaV.block (h 5 rfl) hq)⟩
    | 6,_,_,hr=>exact absurd hr Bool.false_ne_true
    | 7,_,_,hr=>exact absurd hr Bool.false_ne_true
    | j+8,hm,_,_=>exact absurd hm (by simp)),
  fun σ W g h hp hb=>fun ρ o ho _ hv=>by
   have hi:k<l.length:=of_decide_eq_true (vB (h 4 rfl) (hp 4 0 true rfl))
   exact ⟨_,B7 ho ((A1 hv).1.trans (h 2 rfl).1) (A1 hv).2 (kA (by omega) (by omega)),rfl⟩,
  trivial⟩)
  (fun k=>⟨fun σ W g h hp=>⟨0,(fun e=>nomatch e),⟨rfl,fun m hm=>(if_neg (by omega)).trans (if_neg (by omega)).symm⟩,⟨rfl,Nat.zero_le _⟩,⟨OwV.nil kPt _ _,fun q hq=>by cases hq⟩,trivial⟩,
  fun σ W g h hp=>⟨_,h 4 rfl⟩,
  fun σ W g h hp=>by
   have hi:k<l.length:=of_decide_eq_true (vB (h 4 rfl) (hp 4 0 true rfl))
   exact ⟨k+1,fun _=>by show (if 2=2 then l.length-(k+1) else 0)<(if 2=2 then l.length-k else 0);rw [if_pos rfl,if_pos rfl];omega,⟨rfl,fun m hm=>(if_neg (by omega)).trans (if_neg (by omega)).symm⟩,⟨(h 9 rfl).trans (by push_cast;rfl),by omega⟩,⟨h 8 rfl,fun q hq=>⟨8,rfl,hq⟩⟩,trivial⟩,
  trivial⟩)
  (fun k hk=>⟨fun τ W g h hp hb=>by
   have hn:¬ k<l.length:=of_decide_eq_false (vB (h 4 rfl) (hp 4 0 false rfl))
   have hk2:k<=l.length:=(h 2 rfl).2
   obtain rfl:k=l.length:=by omega
   have ho:OwV kPt w.heap.size W (τ.an 3 0) (gl (l.take l.length)):=h 3 rfl
   rw [List.take_length] at ho
   exact ⟨_,rfl,ho.pts,g,ho.fresh⟩,
  trivial⟩)
theorem decOf {p:Prop} (h:dec p=true):p:=Classical.byContradiction fun h2=>by rw [V9 h2] at h;cases h
theorem decNo {p:Prop} (h:dec p=false):¬ p:=fun h2=>by rw [mN h2] at h;cases h
noncomputable def arN (l:List Pq) (p:Pq):Int:=if dec (OnR l p)=true then 0 else S3 l p
theorem w_sm {z:Int} (h0 : -1000<=z) (h1:z<=1000):IntKind.i64.wrap z=z:=by simp [IntKind.wrap,IntKind.signed,IntKind.bits];omega
theorem M3 {t:TypeId} {x y:Int} (h0 : -1000<=x+y) (h1:x+y<=1000):binOp .add t (.int .i64 x) (.int .i64 y) = .pure (.int .i64 (x+y)):=by
 show Sem.pure (Value.int .i64 (IntKind.i64.wrap (x+y)))=_;rw [w_sm h0 h1]
theorem ptFields:∃ fs,Tryd.prog.underlying 48=some (.struct fs)/\(∃ f,fs[0]?=some f/\f.type=3/\f.offset=0) /\ ∃ f,fs[1]?=some f/\f.type=3/\f.offset=1:=by
 have h:(match Tryd.prog.underlying 48 with | some (.struct fs)=>(match fs[0]? with | some f=>decide (f.type=3) && decide (f.offset=0) | none=>false) && (match fs[1]? with | some f=>decide (f.type=3) && decide (f.offset=1) | none=>false) | _=>false)=true:=by kernel_rfl
 cases hu:Tryd.prog.underlying 48 with
 | none=>rw [hu] at h;cases h
 | some u=>
   cases u<;>rw [hu] at h<;>try cases h
   case struct fs=>
    refine ⟨fs,rfl, ?_⟩
    simp only [Bool.and_eq_true] at h
    obtain ⟨h0,h1⟩:=h
    constructor
    · cases e:fs[0]? with
      | none=>rw [e] at h0;cases h0
      | some f=>rw [e] at h0;simp only [Bool.and_eq_true,decide_eq_true_eq] at h0;exact ⟨f,rfl,h0⟩
    · cases e:fs[1]? with
      | none=>rw [e] at h1;cases h1
      | some f=>rw [e] at h1;simp only [Bool.and_eq_true,decide_eq_true_eq] at h1;exact ⟨f,rfl,h1⟩
def sGf (base:Nat) (z:Int):Sp where
 sh := .one
 F v W:=GfV base W v z
 fits v W h:=by obtain ⟨b,off,rfl,_⟩:=h;exact ⟨fun _ => .pointer (some ⟨b,off,none⟩),fun _=>rfl,rfl⟩
 row:=true
 fp v _ q:=fpP v q
 lasts v W W' k hq h:=by
  obtain ⟨b,off,rfl,hb,hc⟩:=h
  exact ⟨⟨b,off,rfl,hb,(Q5 (hq b ⟨off,rfl⟩)).trans hc⟩,fun _ h=>h⟩
 inb v W h q hq:=(h.block hq).2
 flat h:=by cases h
section
variable {ρ : Operand->Value} {o:Oper} {W:World}
theorem gf_told {x:Operand} {b off i:Nat} (hi:i<2) (ho:o.op = .fieldAddr 48 x i) (hx : ρ x = .pointer (some ⟨b,off,none⟩)) :
 (execOp ρ o).run Tryd.prog W = .ok (.value (.pointer (some ⟨b,off+i,none⟩))) W:=by
 obtain ⟨fs,hu,⟨f0,e0,t0,o0⟩,f1,e1,t1,o1⟩:=ptFields
 have hz:I3 Tryd.prog 3=some 1:=by kernel_rfl
 match i,hi with
 | 0,_=>simp [execOp,ho,hx,Instr.fieldAt,Sem.run_bind,run_underlying hu W,e0,Instr.sureAddr,fieldPlace,t0,o0,C6 Tryd.prog hz W,Addr.add]
 | 1,_=>simp [execOp,ho,hx,Instr.fieldAt,Sem.run_bind,run_underlying hu W,e1,Instr.sureAddr,fieldPlace,t1,o1,C6 Tryd.prog hz W,Addr.add]
theorem gf_at {x:Operand} {v:Value} {d:G2} {base i:Nat} (hi:i<2) (h:GaV base W v d) (ho:o.op = .fieldAddr 48 x i) (hx : ρ x=v) :
 ∃ u,(execOp ρ o).run Tryd.prog W = .ok (.value u) W/\GfV base W u (if i=0 then d.1 else d.2) /\ ∀ q,fpP u q->fpP v q:=by
 obtain ⟨b,off,rfl,hb,h1,h2⟩:=h
 refine ⟨_,gf_told hi ho hx,⟨b,off+i,rfl,hb, ?_⟩,fun q ⟨o',e⟩=>by cases e;exact ⟨off,rfl⟩⟩
 match i,hi with
 | 0,_=>exact h1
 | 1,_=>exact h2
theorem jS {x:Operand} {v:Value} {z:Int} {base:Nat} (h:GfV base W v z) (ho:o.op = .load 3 x) (hx : ρ x=v) :
 (execOp ρ o).run Tryd.prog W = .ok (.value (.int .i64 z)) W:=by
 obtain ⟨b,off,rfl,hb,h1⟩:=h
 have ha:iC Tryd.prog 3=some false:=by kernel_rfl
 simp [execOp,ho,hx,Instr.loadAt,Instr.sureAddr,loadVar,Sem.run_bind,Sem.run_pure,K8 Tryd.prog ha W,run_load,h1]
theorem gs_slice {x y:Operand} {v:Value} {l:List G2} {base:Nat} (h:GsV base W v l) (ho:o.op = .slice 43 x none (some y) none) (hx : ρ x=v) (hy : ρ y = .int .i64 30) (hl : 30<l.length) :
 ∃ u,(execOp ρ o).run Tryd.prog W = .ok (.value u) W/\GsV base W u (l.take 30) /\ ∀ q,fpS u q->fpS v q:=by
 obtain ⟨s,n,c,rfl,hln,hn,h⟩:=h
 obtain ⟨b,off,rfl,hb,hc⟩:=h.resolve_left (fun e=>by rw [e] at hl;simp at hl)
 have hu:Tryd.prog.underlying 43=some (.slice 48):=by kernel_rfl
 have hz:I3 Tryd.prog 48=some 2:=by kernel_rfl
 obtain ⟨m,rfl⟩:∃ m,n=m+1:=⟨n-1,by omega⟩
 refine ⟨.slice (some ⟨b,off,none⟩) 30 c, ?_,⟨_,30,c,rfl,by simp;omega,by omega,.inr ⟨b,off,rfl,hb,fun i hi=>?_⟩⟩,fun q ⟨o',m',c',e⟩=>by cases e;exact ⟨off,m,c,rfl⟩⟩
 · have h30:(0:Int)<=30/\(30:Int)<=(c:Int):=by omega
   simp [execOp,ho,hx,hy,Instr.sliceAt,Instr.slice,Instr.sliceBounds,Instr.sliceBound,asIntOf,Sem.run_bind,Sem.run_pure,run_underlying hu W,Result.andThen_ok,h30,C6 Tryd.prog hz W,Addr.add]
 · have hi':i<30:=by have:=List.length_take_le 30 l;omega
   rw [List.getElem_take];exact hc i (by omega)
end
def hrl (l:List G2):List H3:=l.map fun d=>⟨d.1,d.2,1⟩
theorem hrl_next {l:List G2} {k:Nat} (h:k<l.length):hrl (l.take (k+1))=hrl (l.take k)++[⟨(gg l k).1,(gg l k).2,1⟩]:=by rw [aF h];simp [hrl]
def sGw (base:Nat) (va:Value) (l:List G2):Sp where
 sh := .one
 F v W:=GsV base W v l /\ ∀ q,fpS v q->fpS va q
 fits v W h:=by obtain ⟨⟨s,n,c,rfl,_⟩,_⟩:=h;exact ⟨fun _ => .slice s n c,fun _=>rfl,rfl⟩
 row:=true
 fp v _ q:=fpS v q
 lasts v W W' k hq h:=⟨⟨h.1.keeps hq,h.2⟩,fun _ h=>h⟩
 inb v W h q hq:=(h.1.block hq).2
 flat h:=by cases h
def RetFew (w:World) (va:Value) (l:List G2) (e:Ending) (w':World):Prop:=∃ v u,e = .returned (.tuple #[v,u])/\GsV w.heap.size w' v l/\(∀ q,fpS v q->fpS va q)/\HrV w' u (hrl l)/\(∀ q,fpS u q->w.heap.size<=q)/\w.grownBy w' none
theorem OwV.freshH {w:World} {W:World} {v:Value} {l:List H3} (h:OwV kH w.heap.size W v l) (q:Nat) (hq:fpS v q):w.heap.size<=q:=by
 obtain ⟨off,n,c,rfl⟩:=hq
 exact (h.inb (q:=q) rfl).2.1
theorem lssN {P:Program} {ρ : Operand->Value} {o:Oper} {t t':TypeId} {x y:Operand} {a b:Int} {W:World} {c:Bool} (ho:o.op = .binOp .gtr t x y t') (hx : ρ x = .int .i64 a) (hy : ρ y = .int .i64 b) (h:decide (b<a)=c) :
 (execOp ρ o).run P W = .ok (.value (.bool c)) W:=B7 ho hx hy (by rw [<- h];rfl)
theorem P1 {base:Nat} {W:World} {v:Value} {l:List H3} (h:OwV kH base W v l) {q:Nat} (hq:q<base/\q<W.heap.size):v.ownBlock≠some q:=fun e=>by have:=(h.inb e).2.1;omega
theorem T7 (w:World) (va:Value) (l:List G2) (Ha:GsV w.heap.size w va l) (hIn:∀ d ∈ l,eD d) :
 Calls Tryd.prog 13 #[va] w (RetFew w va (l.take 30)):=by
 rcases (show l.length<=30\/30<l.length by omega) with hbig | hbig
 · skip
   obtain ⟨L,hLe⟩:∃ L,l.take 30=L:=⟨_,rfl⟩
   have hL30:L.length<=30:=by rw [<- hLe];simp;omega
   have hI:∀ d ∈ L,eD d:=fun d hd=>hIn d (List.mem_of_mem_take (hLe ▸ hd))
   have hLl:l.take 30=l:=List.take_of_length_le (by omega)
   have hLL:l=L:=hLl.symm.trans hLe
   rw [hLe]
   subst hLL
   refine G6 B3 Tryd.func13 [sGw w.heap.size va l] (fun k:Nat=>[sZ l.length,sV (.bool false),sZc (k<=l.length) (k:Int),sOw kH w.heap.size (hrl (l.take k)),sZ l.length,sC (.bool (decide (k<l.length))) rfl,sGa w.heap.size (gg l k),sGf w.heap.size (gg l k).1,sZ (gg l k).1,sGa w.heap.size (gg l k),sGf w.heap.size (gg l k).2,sZ (gg l k).2,sH ⟨(gg l k).1,(gg l k).2,1⟩,sOw kH w.heap.size (hrl (l.take (k+1))),sZ ((k:Int)+1)]) (fun m k=>if m=3 then l.length-k else 0) (0) (fun _=>rfl) [1000000] [some [[.t 11,.t 12,.t 13,.t 14,.t 15,.t 16,.t 17,.t 18,.t 19,.t 20,.t 21,.t 22,.t 23,.t 24,.t 25,.t 26,.t 27,.t 28,.t 29,.t 30],[.t 5],[.t 4]]] (.cons ⟨Ha,fun _ h=>h⟩ .nil) (rs:=[(co 1 (.call ⟨.builtin .len, #[(.tmp 6)], #[43]⟩) 3 [on 0] [0] [],[]),(co 2 (.binOp .gtr 3 (.tmp 7) (.const (.int .i64 30)) 3) 4 [on 1,.v false [.lit (.int .i64 30)]] [0,1] [],[]),(co 5 (.call ⟨.builtin .len, #[(.tmp 12)], #[43]⟩) 3 [on 0] [0,1,2,3,4] [],[]),(co 6 (.binOp .lss 3 (.tmp 11) (.tmp 13) 3) 4 [on 3,on 5] [0,1,2,3,4,5] [],[]),(co 7 (.indexAddr 43 (.tmp 18) (.tmp 19)) 0 [on 0,on 3] [0,1,2,3,4,5,6] [],[(6,0,true)]),(co 8 (.fieldAddr 48 (.tmp 20) 0) 0 [on 7] [0,1,2,3,4,5,6,7] [],[(6,0,true)]),(co 9 (.load 3 (.tmp 21)) 3 [on 8] [0,1,2,3,4,5,6,7,8] [],[(6,0,true)]),(co 10 (.indexAddr 43 (.tmp 23) (.tmp 24)) 0 [on 0,on 3] [0,1,2,3,4,5,6] [],[(6,0,true)]),(co 11 (.fieldAddr 48 (.tmp 25) 1) 0 [on 10] [0,1,2,3,4,5,6,10] [],[(6,0,true)]),(co 12 (.load 3 (.tmp 26)) 3 [on 11] [0,1,2,3,4,5,6,10,11] [],[(6,0,true)]),(cl 13 36 [on 9,on 12],[(6,0,true)]),(cow 14 (.call ⟨.builtin .append, #[(.tmp 17),(.tmp 29)], #[44,44]⟩) 44 [on 4,.v false [.row 0 0 1 1]] [0,1,2,3,4,5,6,7,8,9,10,11,12,13] [(0,81,[.an 13 0,.an 13 1,.an 13 2,.an 13 3,.an 13 4,.an 13 5])],[(6,0,true)]),(co 15 (.binOp .add 3 (.tmp 15) (.const (.int .i64 1)) 3) 3 [on 3,.v false [.lit (.int .i64 1)]] [0,1,2,3,4,5,6,7,8,9,10,11,12,13,14] [],[(6,0,true)])]) (js:=[.loop false 3 [(3,.v false [.lit (.int .i64 0)]),(4,.v false [.lit (.slice none 0 0)])] (List.range 3) [],.test 6 0 (List.range 7) [],.loop true 3 [(3,on 15),(4,on 14)] (List.range 16) [(6,0,true)]]) (outs:=[⟨.tup [(false,[.an 0 0]),(false,[.an 4 0])],(List.range 7),[(6,0,false)],[],[]⟩]) (nc:=16) (by kernel_rfl)
    (fun k=>⟨fun σ W g h hp hb=>fun ρ o ho _ hv=>⟨_,J8 (h 0 rfl).1 ho (B2 hv) ⟨48,by kernel_rfl⟩,rfl⟩,
    fun σ W g h hp hb=>fun ρ o ho _ hv=>⟨_,lssN ho ((A1 hv).1.trans (h 1 rfl)) (A1 hv).2 (decide_eq_false (by omega)),rfl⟩,
    fun σ W g h hp hb=>fun ρ o ho _ hv=>⟨_,J8 (h 0 rfl).1 ho (B2 hv) ⟨48,by kernel_rfl⟩,rfl⟩,
    fun σ W g h hp hb=>fun ρ o ho _ hv=>⟨_,hr_lt ho ((A1 hv).1.trans (h 3 rfl).1) ((A1 hv).2.trans (h 5 rfl)) rfl rfl,rfl⟩,
    fun σ W g h hp hb=>fun ρ o ho _ hv=>by
     have q:=of_decide_eq_true (F0 (h 6 rfl) (hp 6 0 true rfl))
     obtain ⟨u,h1,h2,h3⟩:=lX (h 0 rfl).1 ho (A1 hv).1 k q ((A1 hv).2.trans (h 3 rfl).1)
     exact ⟨u,h1,h2,fun q hq=>⟨0,rfl,h3 q hq⟩⟩,
    fun σ W g h hp hb=>fun ρ o ho _ hv=>by
     obtain ⟨u,h1,h2,h3⟩:=gf_at (i:=0) (by omega) (h 7 rfl) ho (B2 hv)
     exact ⟨u,h1,h2,fun q hq=>⟨7,rfl,h3 q hq⟩⟩,
    fun σ W g h hp hb=>fun ρ o ho _ hv=>⟨_,jS (h 8 rfl) ho (B2 hv),rfl⟩,
    fun σ W g h hp hb=>fun ρ o ho _ hv=>by
     have q:=of_decide_eq_true (F0 (h 6 rfl) (hp 6 0 true rfl))
     obtain ⟨u,h1,h2,h3⟩:=lX (h 0 rfl).1 ho (A1 hv).1 k q ((A1 hv).2.trans (h 3 rfl).1)
     exact ⟨u,h1,h2,fun q hq=>⟨0,rfl,h3 q hq⟩⟩,
    fun σ W g h hp hb=>fun ρ o ho _ hv=>by
     obtain ⟨u,h1,h2,h3⟩:=gf_at (i:=1) (by omega) (h 10 rfl) ho (B2 hv)
     exact ⟨u,h1,h2,fun q hq=>⟨10,rfl,h3 q hq⟩⟩,
    fun σ W g h hp hb=>fun ρ o ho _ hv=>⟨_,jS (h 11 rfl) ho (B2 hv),rfl⟩,
    fun σ W g h hp hb=>by
     have q:=of_decide_eq_true (F0 (h 6 rfl) (hp 6 0 true rfl))
     have s:=hI _ (rQ q)
     exact arg2 (h 9 rfl) (h 12 rfl) (rHOf_any W _ _ s.1.1 s.1.2 s.2.1 s.2.2),
    fun σ W g h hp hb=>fun ρ o ho _ hv=>by
     have q:=of_decide_eq_true (F0 (h 6 rfl) (hp 6 0 true rfl))
     exact appS kH g rfl (m0:=4) rfl rfl (by rw [<- hrl_next q];rfl) (h 4 rfl) (R8 kH (by kernel_rfl) (lW _ _ (by kernel_rfl)) (by decide) (h 4 rfl) (cs:=[σ.an 13 0, σ.an 13 1, σ.an 13 2, σ.an 13 3, σ.an 13 4, σ.an 13 5]) rfl (hb.1 _ (.head _)) (h 13 rfl) (HV.one (h 13 rfl)) (by simp [hrl];omega) g.size ho (A1 hv).1 (A1 hv).2)
      (fun m hm hne hr=>by
      match m,hm,hne,hr with
      | 0,_,_,_=>exact .inl ⟨h 0 rfl,fun q hq=>P1 (h 4 rfl) (GsV.block (h 0 rfl).1 hq)⟩
      | 1,_,_,hr=>exact absurd hr Bool.false_ne_true
      | 2,_,_,hr=>exact absurd hr Bool.false_ne_true
      | 3,_,_,hr=>exact absurd hr Bool.false_ne_true
      | 4,_,hne,_=>exact absurd rfl hne
      | 5,_,_,hr=>exact absurd hr Bool.false_ne_true
      | 6,_,_,hr=>exact absurd hr Bool.false_ne_true
      | 7,_,_,_=>exact .inl ⟨h 7 rfl,fun q hq=>P1 (h 4 rfl) (GaV.block (h 7 rfl) hq)⟩
      | 8,_,_,_=>exact .inl ⟨h 8 rfl,fun q hq=>P1 (h 4 rfl) (GfV.block (h 8 rfl) hq)⟩
      | 9,_,_,hr=>exact absurd hr Bool.false_ne_true
      | 10,_,_,_=>exact .inl ⟨h 10 rfl,fun q hq=>P1 (h 4 rfl) (GaV.block (h 10 rfl) hq)⟩
      | 11,_,_,_=>exact .inl ⟨h 11 rfl,fun q hq=>P1 (h 4 rfl) (GfV.block (h 11 rfl) hq)⟩
      | 12,_,_,hr=>exact absurd hr Bool.false_ne_true
      | 13,_,_,hr=>exact absurd hr Bool.false_ne_true
      | j+14,hm,_,_=>exact absurd hm (by simp)),
    fun σ W g h hp hb=>fun ρ o ho _ hv=>by
     have q:=of_decide_eq_true (F0 (h 6 rfl) (hp 6 0 true rfl))
     exact ⟨_,B7 ho ((A1 hv).1.trans (h 3 rfl).1) (A1 hv).2 (M3 (by omega) (by omega)),rfl⟩,
    trivial⟩)
    (fun k=>⟨fun σ W g h hp=>⟨0,(fun e=>nomatch e),⟨rfl,fun m hm=>(if_neg (by omega)).trans (if_neg (by omega)).symm⟩,⟨rfl,by omega⟩,⟨OwV.nil kH _ _,fun q hq=>by cases hq⟩,trivial⟩,
    fun σ W g h hp=>⟨_,h 6 rfl⟩,
    fun σ W g h hp=>by
     have q:=of_decide_eq_true (F0 (h 6 rfl) (hp 6 0 true rfl))
     exact ⟨k+1,fun _=>by show (if 3=3 then l.length-(k+1) else 0)<(if 3=3 then l.length-k else 0);rw [if_pos rfl,if_pos rfl];omega,⟨rfl,fun m hm=>(if_neg (by omega)).trans (if_neg (by omega)).symm⟩,⟨(h 15 rfl).trans (by push_cast;rfl),by omega⟩,⟨h 14 rfl,fun q hq=>⟨14,rfl,hq⟩⟩,trivial⟩,
    trivial⟩)
    (fun k hk=>⟨fun τ W g h hp hb=>by
     have q:=of_decide_eq_false (F0 (h 6 rfl) (hp 6 0 false rfl))
     have hk3:k<=l.length:=(h 3 rfl).2
     have ho:OwV kH w.heap.size W (τ.an 4 0) (hrl (l.take k)):=h 4 rfl
     rw [List.take_of_length_le (by omega)] at ho
     exact ⟨_,_,rfl,(h 0 rfl).1,(h 0 rfl).2,ho.hr,ho.freshH,g⟩,
    trivial⟩)
 · skip
   obtain ⟨L,hLe⟩:∃ L,l.take 30=L:=⟨_,rfl⟩
   have hL30:L.length<=30:=by rw [<- hLe];simp;omega
   have hI:∀ d ∈ L,eD d:=fun d hd=>hIn d (List.mem_of_mem_take (hLe ▸ hd))
   rw [hLe]
   refine G6 B3 Tryd.func13 [sGw w.heap.size va l] (fun k:Nat=>[sZ l.length,sV (.bool true),sGw w.heap.size va L,sZc (k<=L.length) (k:Int),sOw kH w.heap.size (hrl (L.take k)),sZ L.length,sC (.bool (decide (k<L.length))) rfl,sGa w.heap.size (gg L k),sGf w.heap.size (gg L k).1,sZ (gg L k).1,sGa w.heap.size (gg L k),sGf w.heap.size (gg L k).2,sZ (gg L k).2,sH ⟨(gg L k).1,(gg L k).2,1⟩,sOw kH w.heap.size (hrl (L.take (k+1))),sZ ((k:Int)+1)]) (fun m k=>if m=4 then L.length-k else 0) (0) (fun _=>rfl) [1000000] [some [[.t 11,.t 12,.t 13,.t 14,.t 15,.t 16,.t 17,.t 18,.t 19,.t 20,.t 21,.t 22,.t 23,.t 24,.t 25,.t 26,.t 27,.t 28,.t 29,.t 30],[.t 5],[.t 4]]] (.cons ⟨Ha,fun _ h=>h⟩ .nil) (rs:=[(co 1 (.call ⟨.builtin .len, #[(.tmp 6)], #[43]⟩) 3 [on 0] [0] [],[]),(co 2 (.binOp .gtr 3 (.tmp 7) (.const (.int .i64 30)) 3) 4 [on 1,.v false [.lit (.int .i64 30)]] [0,1] [],[]),(co 3 (.slice 43 (.tmp 9) none (some (.const (.int .i64 30))) none) 43 [on 0,.v false [.lit (.int .i64 30)]] [0,1,2] [],[]),(co 6 (.call ⟨.builtin .len, #[(.tmp 12)], #[43]⟩) 3 [on 3] [0,1,2,3,4,5] [],[]),(co 7 (.binOp .lss 3 (.tmp 11) (.tmp 13) 3) 4 [on 4,on 6] [0,1,2,3,4,5,6] [],[]),(co 8 (.indexAddr 43 (.tmp 18) (.tmp 19)) 0 [on 3,on 4] [0,1,2,3,4,5,6,7] [],[(7,0,true)]),(co 9 (.fieldAddr 48 (.tmp 20) 0) 0 [on 8] [0,1,2,3,4,5,6,7,8] [],[(7,0,true)]),(co 10 (.load 3 (.tmp 21)) 3 [on 9] [0,1,2,3,4,5,6,7,8,9] [],[(7,0,true)]),(co 11 (.indexAddr 43 (.tmp 23) (.tmp 24)) 0 [on 3,on 4] [0,1,2,3,4,5,6,7] [],[(7,0,true)]),(co 12 (.fieldAddr 48 (.tmp 25) 1) 0 [on 11] [0,1,2,3,4,5,6,7,11] [],[(7,0,true)]),(co 13 (.load 3 (.tmp 26)) 3 [on 12] [0,1,2,3,4,5,6,7,11,12] [],[(7,0,true)]),(cl 14 36 [on 10,on 13],[(7,0,true)]),(cow 15 (.call ⟨.builtin .append, #[(.tmp 17),(.tmp 29)], #[44,44]⟩) 44 [on 5,.v false [.row 0 0 1 1]] [0,1,2,3,4,5,6,7,8,9,10,11,12,13,14] [(0,81,[.an 14 0,.an 14 1,.an 14 2,.an 14 3,.an 14 4,.an 14 5])],[(7,0,true)]),(co 16 (.binOp .add 3 (.tmp 15) (.const (.int .i64 1)) 3) 3 [on 4,.v false [.lit (.int .i64 1)]] [0,1,2,3,4,5,6,7,8,9,10,11,12,13,14,15] [],[(7,0,true)])]) (js:=[.loop false 4 [(4,.v false [.lit (.int .i64 0)]),(5,.v false [.lit (.slice none 0 0)])] (List.range 4) [],.test 7 0 (List.range 8) [],.loop true 4 [(4,on 16),(5,on 15)] (List.range 17) [(7,0,true)]]) (outs:=[⟨.tup [(false,[.an 3 0]),(false,[.an 5 0])],(List.range 8),[(7,0,false)],[],[]⟩]) (nc:=17) (by kernel_rfl)
    (fun k=>⟨fun σ W g h hp hb=>fun ρ o ho _ hv=>⟨_,J8 (h 0 rfl).1 ho (B2 hv) ⟨48,by kernel_rfl⟩,rfl⟩,
    fun σ W g h hp hb=>fun ρ o ho _ hv=>⟨_,lssN ho ((A1 hv).1.trans (h 1 rfl)) (A1 hv).2 (decide_eq_true (by omega)),rfl⟩,
    fun σ W g h hp hb=>fun ρ o ho _ hv=>by
     obtain ⟨u,h1,h2,h3⟩:=gs_slice (h 0 rfl).1 ho (A1 hv).1 (A1 hv).2 hbig
     exact ⟨u,h1,⟨hLe ▸ h2,fun q hq=>(h 0 rfl).2 q (h3 q hq)⟩,fun q hq=>⟨0,rfl,h3 q hq⟩⟩,
    fun σ W g h hp hb=>fun ρ o ho _ hv=>⟨_,J8 (h 3 rfl).1 ho (B2 hv) ⟨48,by kernel_rfl⟩,rfl⟩,
    fun σ W g h hp hb=>fun ρ o ho _ hv=>⟨_,hr_lt ho ((A1 hv).1.trans (h 4 rfl).1) ((A1 hv).2.trans (h 6 rfl)) rfl rfl,rfl⟩,
    fun σ W g h hp hb=>fun ρ o ho _ hv=>by
     have q:=of_decide_eq_true (F0 (h 7 rfl) (hp 7 0 true rfl))
     obtain ⟨u,h1,h2,h3⟩:=lX (h 3 rfl).1 ho (A1 hv).1 k q ((A1 hv).2.trans (h 4 rfl).1)
     exact ⟨u,h1,h2,fun q hq=>⟨3,rfl,h3 q hq⟩⟩,
    fun σ W g h hp hb=>fun ρ o ho _ hv=>by
     obtain ⟨u,h1,h2,h3⟩:=gf_at (i:=0) (by omega) (h 8 rfl) ho (B2 hv)
     exact ⟨u,h1,h2,fun q hq=>⟨8,rfl,h3 q hq⟩⟩,
    fun σ W g h hp hb=>fun ρ o ho _ hv=>⟨_,jS (h 9 rfl) ho (B2 hv),rfl⟩,
    fun σ W g h hp hb=>fun ρ o ho _ hv=>by
     have q:=of_decide_eq_true (F0 (h 7 rfl) (hp 7 0 true rfl))
     obtain ⟨u,h1,h2,h3⟩:=lX (h 3 rfl).1 ho (A1 hv).1 k q ((A1 hv).2.trans (h 4 rfl).1)
     exact ⟨u,h1,h2,fun q hq=>⟨3,rfl,h3 q hq⟩⟩,
    fun σ W g h hp hb=>fun ρ o ho _ hv=>by
     obtain ⟨u,h1,h2,h3⟩:=gf_at (i:=1) (by omega) (h 11 rfl) ho (B2 hv)
     exact ⟨u,h1,h2,fun q hq=>⟨11,rfl,h3 q hq⟩⟩,
    fun σ W g h hp hb=>fun ρ o ho _ hv=>⟨_,jS (h 12 rfl) ho (B2 hv),rfl⟩,
    fun σ W g h hp hb=>by
     have q:=of_decide_eq_true (F0 (h 7 rfl) (hp 7 0 true rfl))
     have s:=hI _ (rQ q)
     exact arg2 (h 10 rfl) (h 13 rfl) (rHOf_any W _ _ s.1.1 s.1.2 s.2.1 s.2.2),
    fun σ W g h hp hb=>fun ρ o ho _ hv=>by
     have q:=of_decide_eq_true (F0 (h 7 rfl) (hp 7 0 true rfl))
     exact appS kH g rfl (m0:=5) rfl rfl (by rw [<- hrl_next q];rfl) (h 5 rfl) (R8 kH (by kernel_rfl) (lW _ _ (by kernel_rfl)) (by decide) (h 5 rfl) (cs:=[σ.an 14 0, σ.an 14 1, σ.an 14 2, σ.an 14 3, σ.an 14 4, σ.an 14 5]) rfl (hb.1 _ (.head _)) (h 14 rfl) (HV.one (h 14 rfl)) (by simp [hrl];omega) g.size ho (A1 hv).1 (A1 hv).2)
      (fun m hm hne hr=>by
      match m,hm,hne,hr with
      | 0,_,_,_=>exact .inl ⟨h 0 rfl,fun q hq=>P1 (h 5 rfl) (GsV.block (h 0 rfl).1 hq)⟩
      | 1,_,_,hr=>exact absurd hr Bool.false_ne_true
      | 2,_,_,hr=>exact absurd hr Bool.false_ne_true
      | 3,_,_,_=>exact .inl ⟨h 3 rfl,fun q hq=>P1 (h 5 rfl) (GsV.block (h 3 rfl).1 hq)⟩
      | 4,_,_,hr=>exact absurd hr Bool.false_ne_true
      | 5,_,hne,_=>exact absurd rfl hne
      | 6,_,_,hr=>exact absurd hr Bool.false_ne_true
      | 7,_,_,hr=>exact absurd hr Bool.false_ne_true
      | 8,_,_,_=>exact .inl ⟨h 8 rfl,fun q hq=>P1 (h 5 rfl) (GaV.block (h 8 rfl) hq)⟩
      | 9,_,_,_=>exact .inl ⟨h 9 rfl,fun q hq=>P1 (h 5 rfl) (GfV.block (h 9 rfl) hq)⟩
      | 10,_,_,hr=>exact absurd hr Bool.false_ne_true
      | 11,_,_,_=>exact .inl ⟨h 11 rfl,fun q hq=>P1 (h 5 rfl) (GaV.block (h 11 rfl) hq)⟩
      | 12,_,_,_=>exact .inl ⟨h 12 rfl,fun q hq=>P1 (h 5 rfl) (GfV.block (h 12 rfl) hq)⟩
      | 13,_,_,hr=>exact absurd hr Bool.false_ne_true
      | 14,_,_,hr=>exact absurd hr Bool.false_ne_true
      | j+15,hm,_,_=>exact absurd hm (by simp)),
    fun σ W g h hp hb=>fun ρ o ho _ hv=>by
     have q:=of_decide_eq_true (F0 (h 7 rfl) (hp 7 0 true rfl))
     exact ⟨_,B7 ho ((A1 hv).1.trans (h 4 rfl).1) (A1 hv).2 (M3 (by omega) (by omega)),rfl⟩,
    trivial⟩)
    (fun k=>⟨fun σ W g h hp=>⟨0,(fun e=>nomatch e),⟨rfl,fun m hm=>(if_neg (by omega)).trans (if_neg (by omega)).symm⟩,⟨rfl,by omega⟩,⟨OwV.nil kH _ _,fun q hq=>by cases hq⟩,trivial⟩,
    fun σ W g h hp=>⟨_,h 7 rfl⟩,
    fun σ W g h hp=>by
     have q:=of_decide_eq_true (F0 (h 7 rfl) (hp 7 0 true rfl))
     exact ⟨k+1,fun _=>by show (if 4=4 then L.length-(k+1) else 0)<(if 4=4 then L.length-k else 0);rw [if_pos rfl,if_pos rfl];omega,⟨rfl,fun m hm=>(if_neg (by omega)).trans (if_neg (by omega)).symm⟩,⟨(h 16 rfl).trans (by push_cast;rfl),by omega⟩,⟨h 15 rfl,fun q hq=>⟨15,rfl,hq⟩⟩,trivial⟩,
    trivial⟩)
    (fun k hk=>⟨fun τ W g h hp hb=>by
     have q:=of_decide_eq_false (F0 (h 7 rfl) (hp 7 0 false rfl))
     have hk3:k<=L.length:=(h 4 rfl).2
     have ho:OwV kH w.heap.size W (τ.an 5 0) (hrl (L.take k)):=h 5 rfl
     rw [List.take_of_length_le (by omega)] at ho
     exact ⟨_,_,rfl,(h 3 rfl).1,(h 3 rfl).2,ho.hr,ho.freshH,g⟩,
    trivial⟩)
end Go.Proofs.YtamdnbbgpacfkaaDoor
namespace Go.Proofs.YtamdnbbgpacfkaaDoor
open Go.RowKit Go.Shelf Mat Ex PM
attribute [local go_sem] Oper.semAt_some
theorem PAt.keepsU {W W':World} {cs:Array Value} {o:Nat} {p:Pq} (h:PAt W cs o p) (k:Keeps M9 W W'):PAt W' cs o p:=by
 obtain ⟨a,b,c,d,e,f,g,i,h1,h2,h3,h4,h5,h6,h7,h8,h9⟩:=h
 exact ⟨a,b,c,d,e,f,g,i,h1,h2,h3,h4,h5,h6,h7,h8,h9.keepsU k⟩
theorem PtsV.keepsU {W W':World} {v:Value} {l:List Pq} (h:PtsV W v l) (k:Keeps M9 W W') (hq:∀ q,fpS v q->W'.heap[q]?=W.heap[q]?):PtsV W' v l:=by
 obtain ⟨s,n,c,rfl,hl,hn,h⟩:=h
 refine ⟨s,n,c,rfl,hl,hn, ?_⟩
 by_cases h0:l=[]
 · exact .inl h0
 · obtain ⟨b,off,cs,rfl,hb,hc⟩:=h.resolve_left h0
   obtain ⟨m,rfl⟩:∃ m,n=m+1:=⟨n-1,by have:=List.length_pos_iff.2 h0;omega⟩
   exact .inr ⟨b,off,cs,rfl,by rw [hq b ⟨off,m,c,rfl⟩];exact hb,fun i hi=>(hc i hi).keepsU k⟩
def uRow (w1:World) (vl:Value) (hv:vl.oneCell'=true) (l:List Pq) (b:Nat) (ob:Obj):Su where
 sh := .one
 F v W:=v=vl/\PtsV W vl l/\W.heap[b]?=some ob/\Keeps M9 w1 W
 fits v W h:=by obtain ⟨rfl,_⟩:=h;exact ⟨D7 [v],B4 (by simp [hv]),rfl⟩
 row:=true
 fp v _ q:=fpS vl q\/q=b
 lasts v W W' k hq h:=⟨⟨h.1,h.2.1.keepsU k fun q hf=>hq q (.inl hf),(hq b (.inr rfl)).trans h.2.2.1,fun g arr ty fr hp hb=>k g arr ty fr hp (h.2.2.2 g arr ty fr hp hb)⟩,fun _ h=>h⟩
 inb v W h q hq:=by
  rcases hq with hq | rfl
  · exact h.2.1.inb q hq
  · exact (Array.getElem?_eq_some_iff.1 h.2.2.1).1
 flat h:=by cases h
theorem RayV.keepsU {f:Nat} {W W':World} {v:Value} {m:Pq} (h:RayV f W v m) (k:Keeps M9 W W') (hq:∀ q,fpF v q->W'.heap[q]?=W.heap[q]?):RayV f W' v m:=by
 obtain ⟨q,u0,u1,u2,u3,u4,u5,u6,u7,rfl,h1,h2⟩:=h
 exact ⟨q,u0,u1,u2,u3,u4,u5,u6,u7,rfl,(hq q ⟨f,rfl⟩).trans h1,h2.keepsU k⟩
def uRay (f:Nat) (m:Pq):Su where
 sh := .one
 F v W:=RayV f W v m
 fits v W h:=by obtain ⟨q,u0,u1,u2,u3,u4,u5,u6,u7,rfl,_⟩:=h;exact ⟨fun _ => .func (.func f) #[] #[.pointer (some ⟨q,0,none⟩)],fun _=>rfl,rfl⟩
 row:=true
 fp v _ q:=fpF v q
 lasts v W W' k hq h:=⟨h.keepsU k hq,fun _ h=>h⟩
 inb v W h q hq:=h.inb q hq
 flat h:=by cases h
theorem toURay {P:Program} {f:FuncId} {n:Nat} {args:Array Value} {W:World} {m:Pq} {old:Nat->Prop} (h:Calls P f args W (bU n W m)):Calls P f args W (RetS W (uRay n m) old):=
 h.mono fun _ _ ⟨q,u0,u1,u2,u3,u4,u5,u6,u7,a,h1,h2,h3,g⟩=>⟨_,a,⟨q,u0,u1,u2,u3,u4,u5,u6,u7,rfl,h1,h2⟩,g,fun q' hq => .inl (by obtain ⟨f',e⟩:=hq;cases e;exact h3)⟩
def uZZ (a b:Int):Su := .of (.tup [(none,0),(none,0)]) (fun v _=>v = .tuple #[.int .i64 a,.int .i64 b]) (fun v W h=>Y4 (u := .bool true) (cs:=[.int .i64 a,.int .i64 b]) (by simp [Value.oneCell']) h) (fun _ _ _ _ h=>h)
theorem zz1 {a b:Int} {u v:Value} {W:World} : (uZZ a b).F (.tuple #[u,v]) W->u = .int .i64 a:=fun h=>by cases h;rfl
theorem toZZ {P:Program} {f:FuncId} {args:Array Value} {W:World} {a b:Int} (h:Calls P f args W (fun e w'=>e = .returned (.tuple #[.int .i64 a,.int .i64 b])/\W.grownBy w' none)):Calls P f args W (Ret W (uZZ a b).F):=h.mono fun _ _ ⟨a,g⟩=>⟨_,a,rfl,g⟩
theorem toUB {P:Program} {f:FuncId} {args:Array Value} {W:World} {b:Bool} (h:Calls P f args W (RetB W b)):Calls P f args W (Ret W (uB b).F):=h.mono fun _ _ ⟨a,g⟩=>⟨_,a,rfl,g⟩
theorem seen_all {l:List Pq} {m:Pq} {xs:List (Fin l.length)} (h:xs.map Fin.val=List.range l.length) (hs:¬ seen l m xs):¬ OnR l m:=by
 rintro ⟨i,hi,hin⟩
 have:i ∈ xs.map Fin.val:=by rw [h];exact List.mem_range.2 hi
 obtain ⟨x,hx,rfl⟩:=List.mem_map.1 this
 exact hs ⟨x,hx,hin⟩
theorem seen_on {l:List Pq} {m:Pq} {pre:List (Fin l.length)} (hs:seen l m pre):OnR l m:=by obtain ⟨x,_,h⟩:=hs;exact ⟨x.val,x.2,h⟩
set_option maxHeartbeats 4000000 in
theorem D3 (w:World) (va vp:Value) (lg:List G2) (m:Pq) (K:Nat) (Ha:GsV w.heap.size w va lg) (Hp:PtV w vp m) (hK : 1<=K/\K<=10000) (hn:lg.length<=200) (hL:∀ d ∈ lg,eD d) (bm:Bp K m) (hTab:Tab w) :
 Calls Tryd.prog 14 #[va,vp] w (fun e w'=>e = .returned (.tuple #[.int .i64 (arN (gl lg) m),.bool (dec (OnR (gl lg) m))])/\w.grownBy w' none):=by
 obtain ⟨ms0,mn0,mx0,ms1,mn1,mx1,ms2,mn2,mx2,ms3,mn3,mx3,rfl⟩:=Hp.shape
 obtain ⟨l,hl⟩:∃ l,gl lg=l:=⟨_,rfl⟩
 have hln:l.length=lg.length:=by rw [<- hl];simp [gl]
 have hbd:∀ p ∈ l,Bp K p:=by
  intro p hp
  rw [<- hl] at hp
  obtain ⟨d,hd,rfl⟩:=List.mem_map.1 hp
  have:=hL d hd
  exact (K6 this.1.1 this.1.2 this.2.1 this.2.2).mono hK.1
 have HG:Hid (∀ W,w.grownBy W none->Calls Tryd.prog 37 #[va] W (iE W l)):=fun W gW=>by
  rw [<- hl]
  refine qN W va lg ?_ hn hL
  obtain ⟨s,n,c,rfl,h1,h2,h3⟩:=Ha.keeps fun q hq=>gW.block q (Ha.block hq).2 (by simp)
  refine ⟨s,n,c,rfl,h1,h2,h3.imp_right ?_⟩
  rintro ⟨b,off,e,hb,hd⟩
  exact ⟨b,off,e,Nat.lt_of_lt_of_le hb gW.size,hd⟩
 rw [hl]
 refine (callsIn_wide (n:=4)).1 ?_
 refine callsIn_of_wp_marks Tryd.func14 rfl trivial ?_ rfl
 simp only [Tryd.ntmps14,List.size_toArray,List.length_cons,List.length_nil,Nat.reduceAdd,Nat.reduceSub,Array.replicate_succ,Array.replicate_zero,List.push_toArray,List.append_toArray,List.nil_append,List.cons_append]
 have a0:=World.grownBy_alloc w (.cells #[.slice ms0 mn0 mn0,.bool mx0,.slice ms1 mn1 mn1,.bool mx1,.slice ms2 mn2 mn2,.bool mx2,.slice ms3 mn3 mn3,.bool mx3] 33) none
 have a1:=World.grownBy_alloc (w.alloc (.cells #[.slice ms0 mn0 mn0,.bool mx0,.slice ms1 mn1 mn1,.bool mx1,.slice ms2 mn2 mn2,.bool mx2,.slice ms3 mn3 mn3,.bool mx3] 33)) (.cells #[.int .i64 0] 3) none
 have a2:=World.grownBy_alloc ((w.alloc (.cells #[.slice ms0 mn0 mn0,.bool mx0,.slice ms1 mn1 mn1,.bool mx1,.slice ms2 mn2 mn2,.bool mx2,.slice ms3 mn3 mn3,.bool mx3] 33)).alloc (.cells #[.int .i64 0] 3)) (.cells #[.bool false] 4) none
 have r0:=A5 a2 (A5 a1 (A9 w (.cells #[.slice ms0 mn0 mn0,.bool mx0,.slice ms1 mn1 mn1,.bool mx1,.slice ms2 mn2 mn2,.bool mx2,.slice ms3 mn3 mn3,.bool mx3] 33) (w.heap.size) rfl))
 have r1:=A5 a2 (A9 (w.alloc (.cells #[.slice ms0 mn0 mn0,.bool mx0,.slice ms1 mn1 mn1,.bool mx1,.slice ms2 mn2 mn2,.bool mx2,.slice ms3 mn3 mn3,.bool mx3] 33)) (.cells #[.int .i64 0] 3) (w.heap.size+1) (by simp))
 have r2:=A9 ((w.alloc (.cells #[.slice ms0 mn0 mn0,.bool mx0,.slice ms1 mn1 mn1,.bool mx1,.slice ms2 mn2 mn2,.bool mx2,.slice ms3 mn3 mn3,.bool mx3] 33)).alloc (.cells #[.int .i64 0] 3)) (.cells #[.bool false] 4) (w.heap.size+1+1) (by simp)
 have g3:=A4 (A4 a0 a1) a2
 have e3:(((w.alloc (.cells #[.slice ms0 mn0 mn0,.bool mx0,.slice ms1 mn1 mn1,.bool mx1,.slice ms2 mn2 mn2,.bool mx2,.slice ms3 mn3 mn3,.bool mx3] 33)).alloc (.cells #[.int .i64 0] 3)).alloc (.cells #[.bool false] 4)).heap.size=w.heap.size+3:=by simp
 gi_wp2_with (refine ⟨trivial, ?_⟩;gi_at_call 37;refine (callsIn_wide.2 (HG.out _ g3)).mono ?_;rintro e w1 ⟨vl,rfl,hvp1,g1,hfr⟩)
 have hvl:vl.oneCell'=true:=hvp1.cell
 gi_wp2_with (refine ⟨trivial, ?_⟩;gi_at_call 38;refine (iD 3 vl _ hvl).mono ?_;rintro e w' ⟨rfl,rfl⟩)
 rename_i hK9
 have g4:=World.grownBy_alloc w1 (.cells #[vl] 40) none
 have r0:=A5 g4 (A5 g1 r0)
 have r1:=A5 g4 (A5 g1 r1)
 have r2:=A5 g4 (A5 g1 r2)
 have r4:=A9 w1 (.cells #[vl] 40) w1.heap.size rfl
 have g0:=A4 (A4 g3 g1) g4
 have hs1:w.heap.size+3<=w1.heap.size:=by have:=g1.size;omega
 obtain ⟨Bs,hBse⟩:∃ Bs,w1.heap.size=Bs:=⟨_,rfl⟩
 rw [hBse]
 have e5:(w1.alloc (.cells #[vl] 40)).heap.size=Bs+1:=by rw [<- hBse];simp
 obtain ⟨b,encs,hb0,hsz,hen,hbw,⟨hbb,cs,t,hbc⟩,hstop⟩:=aJ 3 (by omega) Bs w1 (w1.alloc (.cells #[vl] 40)) g4 vl l (hBse ▸ r4) hvp1 (by omega)
 have hlo:w.heap.size+1+1<b /\ ∀ q,fpS vl q->w.heap.size+1+1<q:=by
  have hq:∀ q,fpS vl q->w.heap.size+1+1<q:=fun q hq=>by have:=hfr q hq;omega
  refine ⟨?_,hq⟩
  rcases hbb with rfl | h
  · omega
  · exact hq _ h
 have hvp4:=hvp1.keepsU (Keeps.grown g4) fun q hq=>g4.block q (hvp1.inb q hq) (by simp)
 have hbs4:=hBse ▸ r4
 have hk4:Keeps M9 w1 (w1.alloc (.cells #[vl] 40)):=Keeps.grown g4
 have hM0:PtV (w1.alloc (.cells #[vl] 40)) (.agg #[.slice ms0 mn0 mn0,.bool mx0,.slice ms1 mn1 mn1,.bool mx1,.slice ms2 mn2 mn2,.bool mx2,.slice ms3 mn3 mn3,.bool mx3]) m:=Hp.kept g0
 generalize w1.alloc (.cells #[vl] 40)=W0 at *
 refine wpIn_rangeFunc_ownH rfl (by omega) (gf:=68) (lb := #[.pointer (some ⟨Bs,0,none⟩)]) rfl trivial (enters_of Tryd.func68 (by kernel_rfl) rfl) hstop kpR_t (kpR_b hb0 (by omega)) (Below.refl _ _) (fun x=>hsz x)
  (fun pre W=>AnI w w1 Bs b (.cells cs t (0,0)) vl m l pre W) (fun c pre W=>AnX w m l c pre W)
  (fun s X Y row hs hg hr=>hs.soft (B:=W0.heap.size) (by omega) hg hr) (fun _ _ _ _ _ hs hg hr=>hs.soft (B:=W0.heap.size) (by omega) hg hr) ⟨g0,⟨_,_,_,_,_,_,_,_,r0,hM0⟩,r1,r2,hbs4,hbc,hvp4,hk4,by rintro ⟨y,hy,_⟩;exact nomatch hy⟩
  (fun x a' W=>∃ (Bx:Nat) (p0 p1 p2 p3 p4 p5 p6 p7 q0 q1 q2 q3 q4 q5 q6 q7:Value),W0.heap.size<=Bx/\PQs W Bx [p0,p1,p2,p3,p4,p5,p6,p7] [q0,q1,q2,q3,q4,q5,q6,q7] (pt0 l x) (nxt l x)/\a' = { tmps := #[va,.agg #[.slice ms0 mn0 mn0,.bool mx0,.slice ms1 mn1 mn1,.bool mx1,.slice ms2 mn2 mn2,.bool mx2,.slice ms3 mn3 mn3,.bool mx3],undef,.pointer (some ⟨w.heap.size,0,none⟩),.pointer (some ⟨w.heap.size+1,0,none⟩),.pointer (some ⟨w.heap.size+1+1,0,none⟩),vl,.pointer (some ⟨Bx,0,none⟩),.pointer (some ⟨Bx+1,0,none⟩),undef,undef,va,vl,vl,.func (.func 68) #[] #[.pointer (some ⟨Bs,0,none⟩)],.agg #[p0,p1,p2,p3,p4,p5,p6,p7],.agg #[q0,q1,q2,q3,q4,q5,q6,q7],undef,undef,undef,undef,undef,undef,undef,undef,undef,undef,undef,undef,undef,undef],defers:=[] })
  (fun x a' _ X Y row hs hg hr=>by obtain ⟨Bx,p0,p1,p2,p3,p4,p5,p6,p7,q0,q1,q2,q3,q4,q5,q6,q7,h1,h2,h3⟩:=hs;exact ⟨Bx,p0,p1,p2,p3,p4,p5,p6,p7,q0,q1,q2,q3,q4,q5,q6,q7,h1,h2.soft (B:=W0.heap.size) hg hr,h3⟩)
  ?assign ?body ?done ?stop
 case assign=>
  intro lr pre x W K' hI hKK
  obtain ⟨p,q',he,hp,hq⟩:=hen x
  rw [he]
  have hku:=hI.2.2.2.2.2.2.2.1
  have hp:=hp.keepsU hku
  have hq:=hq.keepsU hku
  obtain ⟨s0,n0,x0,s1,n1,x1,s2,n2,x2,s3,n3,x3,rfl⟩:=hp.shape
  obtain ⟨s4,n4,x4,s5,n5,x5,s6,n6,x6,s7,n7,x7,rfl⟩:=hq.shape
  have hbl:=(Array.getElem?_eq_some_iff.1 hI.2.2.2.2.2.1).1
  have hBl:=(Array.getElem?_eq_some_iff.1 hI.2.2.2.2.1).1
  have c1:=World.grownBy_alloc W (.cells #[.slice s0 n0 n0,.bool x0,.slice s1 n1 n1,.bool x1,.slice s2 n2 n2,.bool x2,.slice s3 n3 n3,.bool x3] 33) none
  have c2:=World.grownBy_alloc (W.alloc (.cells #[.slice s0 n0 n0,.bool x0,.slice s1 n1 n1,.bool x1,.slice s2 n2 n2,.bool x2,.slice s3 n3 n3,.bool x3] 33)) (.cells #[.slice s4 n4 n4,.bool x4,.slice s5 n5 n5,.bool x5,.slice s6 n6 n6,.bool x6,.slice s7 n7 n7,.bool x7] 33) none
  gi_wp2
  refine hKK _ _ (((KeepsOthers.alloc _ _).trans (KeepsOthers.alloc _ _)).from _) ⟨(A4 c1 c2).block _ hbl (by simp),(A4 c1 c2).block _ hBl (by simp)⟩ (hI.soft (B:=w.heap.size) (Nat.le_refl _) (A4 c1 c2) (fK _ _))
   ⟨W.heap.size,_,_,_,_,_,_,_,_,_,_,_,_,_,_,_,_, ?_,⟨A5 c2 (A9 W _ _ rfl),A9 _ _ _ (by simp),hp.kept (A4 c1 c2),hq.kept (A4 c1 c2)⟩,rfl⟩
  omega
 case body=>
  rintro lr pre x a' W hl'-hI ⟨Bx,p0,p1,p2,p3,p4,p5,p6,p7,q0,q1,q2,q3,q4,q5,q6,q7,hBx,⟨hBp,hBq,hPp,hPq⟩,rfl⟩ hlt
  obtain ⟨hw,⟨z0,z1,z2,z3,z4,z5,z6,z7,hM,hMz⟩,hA,hT,hBs,hob,hvp,hku,hns⟩:=hI
  have ne01:Bx≠Bx+1:=by omega
  have ne02:Bx≠w.heap.size:=by omega
  have ne03:Bx≠w.heap.size+1:=by omega
  have ne04:Bx≠w.heap.size+1+1:=by omega
  have ne05:Bx≠Bs:=by omega
  have ne12:Bx+1≠w.heap.size:=by omega
  have ne13:Bx+1≠w.heap.size+1:=by omega
  have ne14:Bx+1≠w.heap.size+1+1:=by omega
  have ne15:Bx+1≠Bs:=by omega
  have ne23:w.heap.size≠w.heap.size+1:=by omega
  have ne24:w.heap.size≠w.heap.size+1+1:=by omega
  have ne25:w.heap.size≠Bs:=by omega
  have ne34:w.heap.size+1≠w.heap.size+1+1:=by omega
  have ne35:w.heap.size+1≠Bs:=by omega
  have ne45:w.heap.size+1+1≠Bs:=by omega
  refine O3 (Fc.round lr _ Tryd.prog) B3 (prot:=M9) [uPt (pt0 l x),uPt (nxt l x),uPt m,uRow w1 vl hvl l b (.cells cs t (0,0)),uB (dec (InS (pt0 l x) (nxt l x) m))] [] [] 31 4 [.any 0,.any 1,.any 2,.v false [.ptr 2 0],.v false [.ptr 3 0],.v false [.ptr 4 0],.any 6,.v false [.ptr 0 0],.v false [.ptr 1 0],.any 9,.any 10,.any 11,.any 12,.any 13,.any 14,.any 15,.any 16,.any 17,.any 18,.any 19,.any 20,.any 21,.any 22,.any 23,.any 24,.any 25,.any 26,.any 27,.any 28,.any 29,.any 30] [(33,[.an 0 0,.an 0 1,.an 0 2,.an 0 3,.an 0 4,.an 0 5,.an 0 6,.an 0 7],false),(33,[.an 1 0,.an 1 1,.an 1 2,.an 1 3,.an 1 4,.an 1 5,.an 1 6,.an 1 7],false),(33,[.an 2 0,.an 2 1,.an 2 2,.an 2 3,.an 2 4,.an 2 5,.an 2 6,.an 2 7],false),(3,[.lit (.int .i64 0)],true),(4,[.lit (.bool false)],true),(40,[.an 3 0],false)] (rs:=[(cl 4 39 [.v true [.an 0 0,.an 0 1,.an 0 2,.an 0 3,.an 0 4,.an 0 5,.an 0 6,.an 0 7,.an 1 0,.an 1 1,.an 1 2,.an 1 3,.an 1 4,.an 1 5,.an 1 6,.an 1 7],ag 8 2],[])]) (js:=[.test 4 0 (List.range 5) []]) (outs:=[⟨.ret,(List.range 5),[(4,0,true)],[.any 0,.any 1,.any 2,.v false [.ptr 2 0],.v false [.ptr 3 0],.v false [.ptr 4 0],.any 6,.v false [.ptr 0 0],.v false [.ptr 1 0],.any 9,.any 10,.any 11,.any 12,.any 13,.any 14,.any 15,.any 16,ag 8 0,ag 8 1,.v true [.an 0 0,.an 0 1,.an 0 2,.an 0 3,.an 0 4,.an 0 5,.an 0 6,.an 0 7,.an 1 0,.an 1 1,.an 1 2,.an 1 3,.an 1 4,.an 1 5,.an 1 6,.an 1 7],ag 8 2,on 4,.any 22,.any 23,.any 24,.any 25,.any 26,.any 27,.any 28,.any 29,.any 30],[(0,33,[.an 0 0,.an 0 1,.an 0 2,.an 0 3,.an 0 4,.an 0 5,.an 0 6,.an 0 7]),(1,33,[.an 1 0,.an 1 1,.an 1 2,.an 1 3,.an 1 4,.an 1 5,.an 1 6,.an 1 7]),(2,33,[.an 2 0,.an 2 1,.an 2 2,.an 2 3,.an 2 4,.an 2 5,.an 2 6,.an 2 7]),(3,3,[.lit (.int .i64 0)]),(4,4,[.lit (.bool true)]),(5,40,[.an 3 0])],[3,4]⟩,⟨.normal,(List.range 5),[(4,0,false)],[.any 0,.any 1,.any 2,.v false [.ptr 2 0],.v false [.ptr 3 0],.v false [.ptr 4 0],.any 6,.v false [.ptr 0 0],.v false [.ptr 1 0],.any 9,.any 10,.any 11,.any 12,.any 13,.any 14,.any 15,.any 16,ag 8 0,ag 8 1,.v true [.an 0 0,.an 0 1,.an 0 2,.an 0 3,.an 0 4,.an 0 5,.an 0 6,.an 0 7,.an 1 0,.an 1 1,.an 1 2,.an 1 3,.an 1 4,.an 1 5,.an 1 6,.an 1 7],ag 8 2,on 4,.any 22,.any 23,.any 24,.any 25,.any 26,.any 27,.any 28,.any 29,.any 30],[(0,33,[.an 0 0,.an 0 1,.an 0 2,.an 0 3,.an 0 4,.an 0 5,.an 0 6,.an 0 7]),(1,33,[.an 1 0,.an 1 1,.an 1 2,.an 1 3,.an 1 4,.an 1 5,.an 1 6,.an 1 7]),(2,33,[.an 2 0,.an 2 1,.an 2 2,.an 2 3,.an 2 4,.an 2 5,.an 2 6,.an 2 7]),(3,3,[.lit (.int .i64 0)]),(4,4,[.lit (.bool false)]),(5,40,[.an 3 0])],[3,4]⟩]) (nc:=5) (by kernel_rfl) hw
   ⟨fun n=>match n with | 0=>D7 [p0,p1,p2,p3,p4,p5,p6,p7] | 1=>D7 [q0,q1,q2,q3,q4,q5,q6,q7] | 2=>D7 [z0,z1,z2,z3,z4,z5,z6,z7] | 3=>D7 [vl] | _=>fun _ => .bool false,fun b=>match b with | 0=>Bx | 1=>Bx+1 | 2=>w.heap.size | 3=>w.heap.size+1 | 4=>w.heap.size+1+1 | 5=>Bs | _=>0,fun i=>(#[va,.agg #[.slice ms0 mn0 mn0,.bool mx0,.slice ms1 mn1 mn1,.bool mx1,.slice ms2 mn2 mn2,.bool mx2,.slice ms3 mn3 mn3,.bool mx3],undef,.pointer (some ⟨w.heap.size,0,none⟩),.pointer (some ⟨w.heap.size+1,0,none⟩),.pointer (some ⟨w.heap.size+1+1,0,none⟩),vl,.pointer (some ⟨Bx,0,none⟩),.pointer (some ⟨Bx+1,0,none⟩),undef,undef,va,vl,vl,.func (.func 68) #[] #[.pointer (some ⟨Bs,0,none⟩)],.agg #[p0,p1,p2,p3,p4,p5,p6,p7],.agg #[q0,q1,q2,q3,q4,q5,q6,q7],undef,undef,undef,undef,undef,undef,undef,undef,undef,undef,undef,undef,undef,undef]:Array Value).getD i undef⟩
   (fun n c=>match n with | 0=>B4 hPp.one c | 1=>B4 hPq.one c | 2=>B4 hMz.one c | 3=>B4 (by simp [hvl]) c | _+4=>rfl) rfl (fun i=>match i with | 0=>rfl | 1=>rfl | 2=>rfl | 3=>rfl | 4=>rfl | 5=>rfl | 6=>rfl | 7=>rfl | 8=>rfl | 9=>rfl | 10=>rfl | 11=>rfl | 12=>rfl | 13=>rfl | 14=>rfl | 15=>rfl | 16=>rfl | 17=>rfl | 18=>rfl | 19=>rfl | 20=>rfl | 21=>rfl | 22=>rfl | 23=>rfl | 24=>rfl | 25=>rfl | 26=>rfl | 27=>rfl | 28=>rfl | 29=>rfl | 30=>rfl | _+31=>rfl)
   (fun b q hq=>match b,q,hq with
    | 0,_,rfl=>⟨hBp,fun e=>nomatch e⟩
    | 1,_,rfl=>⟨hBq,fun e=>nomatch e⟩
    | 2,_,rfl=>⟨hM,fun e=>nomatch e⟩
    | 3,_,rfl=>⟨hA,fun _=>(by omega:w.heap.size<=w.heap.size+1)⟩
    | 4,_,rfl=>⟨hT,fun _=>(by omega:w.heap.size<=w.heap.size+1+1)⟩
    | 5,_,rfl=>⟨hBs,fun e=>nomatch e⟩
    | _+6,_,hq=>nomatch hq)
   (fun b c hb hc hq=>match b,c,hb,hc with
    | 0,0,_,_=>rfl
    | 0,1,_,_=>absurd hq ne01
    | 0,2,_,_=>absurd hq ne02
    | 0,3,_,_=>absurd hq ne03
    | 0,4,_,_=>absurd hq ne04
    | 0,5,_,_=>absurd hq ne05
    | 1,0,_,_=>absurd hq (Ne.symm ne01)
    | 1,1,_,_=>rfl
    | 1,2,_,_=>absurd hq ne12
    | 1,3,_,_=>absurd hq ne13
    | 1,4,_,_=>absurd hq ne14
    | 1,5,_,_=>absurd hq ne15
    | 2,0,_,_=>absurd hq (Ne.symm ne02)
    | 2,1,_,_=>absurd hq (Ne.symm ne12)
    | 2,2,_,_=>rfl
    | 2,3,_,_=>absurd hq ne23
    | 2,4,_,_=>absurd hq ne24
    | 2,5,_,_=>absurd hq ne25
    | 3,0,_,_=>absurd hq (Ne.symm ne03)
    | 3,1,_,_=>absurd hq (Ne.symm ne13)
    | 3,2,_,_=>absurd hq (Ne.symm ne23)
    | 3,3,_,_=>rfl
    | 3,4,_,_=>absurd hq ne34
    | 3,5,_,_=>absurd hq ne35
    | 4,0,_,_=>absurd hq (Ne.symm ne04)
    | 4,1,_,_=>absurd hq (Ne.symm ne14)
    | 4,2,_,_=>absurd hq (Ne.symm ne24)
    | 4,3,_,_=>absurd hq (Ne.symm ne34)
    | 4,4,_,_=>rfl
    | 4,5,_,_=>absurd hq ne45
    | 5,0,_,_=>absurd hq (Ne.symm ne05)
    | 5,1,_,_=>absurd hq (Ne.symm ne15)
    | 5,2,_,_=>absurd hq (Ne.symm ne25)
    | 5,3,_,_=>absurd hq (Ne.symm ne35)
    | 5,4,_,_=>absurd hq (Ne.symm ne45)
    | 5,5,_,_=>rfl
    | _+6,_,hb,_=>absurd hb (by simp)
    | _,_+6,_,hc=>absurd hc (by simp))
   (fun jn hn=>match jn,hn with
    | 0,_=>hPp
    | 1,_=>hPq
    | 2,_=>hMz
    | 3,_=>⟨rfl,hvp,hob,hku⟩
    | _+4,hn=>absurd hn (by omega))
   (fun jn hn=>match jn,hn with
    | 0,_=>G9 rfl _ _ _ _
    | 1,_=>G9 rfl _ _ _ _
    | 2,_=>G9 rfl _ _ _ _
    | 3,_=>(fun b' p' hb' ho' hq=>by
      have hlow:w.heap.size+1+1<b /\ ∀ q,fpS vl q->w.heap.size+1+1<q:=hlo
      match b',p',hb',ho' with
      | 0,_,rfl,e=>cases e
      | 1,_,rfl,e=>cases e
      | 2,_,rfl,e=>cases e
      | 3,_,rfl,_=>
        have hq:fpS vl (w.heap.size+1)\/w.heap.size+1=b:=hq
        rcases hq with hq | hq
        · have:=hlow.2 _ hq;omega
        · omega
      | 4,_,rfl,_=>
        have hq:fpS vl (w.heap.size+1+1)\/w.heap.size+1+1=b:=hq
        rcases hq with hq | hq
        · have:=hlow.2 _ hq;omega
        · omega
      | 5,_,rfl,e=>cases e
      | _+6,_,e,_=>exact nomatch e)
    | _+4,hn=>absurd hn (by omega))
   ⟨fun σ W g h hp hb=>toUB (POn_any W _ _ (pt0 l x) (nxt l x) m K (mksg (h 0 rfl) (h 1 rfl)) (h 2 rfl) (by omega) (eY hbd x.2) (iO hbd x.2) bm (hTab.kept g (by simp))),
   trivial⟩
   ⟨fun σ W g h hp=>⟨_,h 4 rfl⟩,
   trivial⟩
   ⟨fun τ W' g hk h hp hb0 had how a' hts hdf=>by
    obtain ⟨hbx,hne⟩:=hb0
    have k3:=hbx _ (.tail _ (.tail _ (.tail _ (.head _))))
    unfold I8 at k3
    rw [had 3 (by simp)] at k3
    have k4:=hbx _ (.tail _ (.tail _ (.tail _ (.tail _ (.head _)))))
    unfold I8 at k4
    rw [had 4 (by simp)] at k4
    exact ⟨hk.from _,rfl,⟨x,List.mem_append.2 (.inr (by simp)),decOf (vB' (h 4 rfl) (hp 4 0 true rfl))⟩,g,k3,k4⟩,
   fun τ W' g hk h hp hb0 had how a' hts hdf=>by
    obtain ⟨hbx,hne⟩:=hb0
    have k2:=hbx _ (.tail _ (.tail _ (.head _)))
    unfold I8 at k2
    rw [had 2 (by simp)] at k2
    have k3:=hbx _ (.tail _ (.tail _ (.tail _ (.head _))))
    unfold I8 at k3
    rw [had 3 (by simp)] at k3
    have k4:=hbx _ (.tail _ (.tail _ (.tail _ (.tail _ (.head _)))))
    unfold I8 at k4
    rw [had 4 (by simp)] at k4
    have k5:=hbx _ (.tail _ (.tail _ (.tail _ (.tail _ (.tail _ (.head _))))))
    unfold I8 at k5
    rw [had 5 (by simp)] at k5
    have hr3 : τ.an 3 0=vl/\PtsV W' vl l/\W'.heap[b]?=some (.cells cs t (0,0))/\Keeps M9 w1 W':=h 3 rfl
    have k5':W'.heap[Bs]?=some (.cells #[vl] 40 (0,0)):=by rw [<- hr3.1];exact k5
    refine ⟨hk.from _,⟨hr3.2.2.1.trans hob.symm,k5'.trans hBs.symm⟩,g,⟨_,_,_,_,_,_,_,_,k2,h 2 rfl⟩,k3,k4,k5',hr3.2.2.1,hr3.2.1,hr3.2.2.2, ?_⟩
    rintro ⟨y,hy,hyi⟩
    rcases List.mem_append.1 hy with hy | hy
    · exact hns ⟨y,hy,hyi⟩
    · obtain rfl:y=x:=by simpa using hy
      exact decNo (vB' (h 4 rfl) (hp 4 0 false rfl)) hyi,
   trivial⟩
 case done=>
  intro D xs W hDB hxs hI hD
  refine hK9 _ _ ?_
  obtain ⟨hw,⟨z0,z1,z2,z3,z4,z5,z6,z7,hM,hMz⟩,hA,hT,hBs,hob,hvp,hku,hns⟩:=hI
  have ne01:w.heap.size≠w.heap.size+1:=by omega
  have ne02:w.heap.size≠w.heap.size+1+1:=by omega
  have ne12:w.heap.size+1≠w.heap.size+1+1:=by omega
  refine O3 (Fc.wide _ Tryd.prog) B3 (prot:=M9) [uPt m,uRow w1 vl hvl l b (.cells cs t (0,0)),uRay 72 m,uZZ (cyL (ahd (lvl m) m) l) (cyL (thr (lvl m) m) l)] [] [] 31 2 [.any 0,.any 1,.any 2,.v false [.ptr 0 0],.v false [.ptr 1 0],.v false [.ptr 2 0],.v false [.an 1 0],.any 7,.any 8,.any 9,.any 10,.any 11,.any 12,.any 13,.any 14,.any 15,.any 16,.any 17,.any 18,.any 19,.any 20,.any 21,.any 22,.any 23,.any 24,.any 25,.any 26,.any 27,.any 28,.any 29,.any 30] [(33,[.an 0 0,.an 0 1,.an 0 2,.an 0 3,.an 0 4,.an 0 5,.an 0 6,.an 0 7],false),(3,[.lit (.int .i64 0)],true),(4,[.lit (.bool false)],true)] (rs:=[(cl 2 41 [ag 8 0],[]),(cl 3 40 [on 1,ag 8 0,on 2],[])]) (js:=[]) (outs:=[⟨.ret,(List.range 4),[],[.any 0,.any 1,.any 2,.v false [.ptr 0 0],.v false [.ptr 1 0],.v false [.ptr 2 0],on 1,.any 7,.any 8,on 3,.v false [.an 3 1],.any 11,.any 12,.any 13,.any 14,.any 15,.any 16,.any 17,.any 18,.any 19,.any 20,.any 21,.tup [(false,[.an 3 0]),(false,[.an 3 1])],on 1,ag 8 0,ag 8 0,on 2,.tup [(false,[.an 3 0]),(false,[.an 3 1])],on 3,.v false [.an 3 1],on 3],[(0,33,[.an 0 0,.an 0 1,.an 0 2,.an 0 3,.an 0 4,.an 0 5,.an 0 6,.an 0 7]),(1,3,[.an 3 0]),(2,4,[.lit (.bool false)])],[1,2]⟩]) (nc:=4) (by kernel_rfl) hw
   ⟨fun n=>match n with | 0=>D7 [z0,z1,z2,z3,z4,z5,z6,z7] | 1=>D7 [vl] | _=>fun _ => .bool false,fun b=>match b with | 0=>w.heap.size | 1=>w.heap.size+1 | 2=>w.heap.size+1+1 | _=>0,fun i=>(#[va,.agg #[.slice ms0 mn0 mn0,.bool mx0,.slice ms1 mn1 mn1,.bool mx1,.slice ms2 mn2 mn2,.bool mx2,.slice ms3 mn3 mn3,.bool mx3],undef,.pointer (some ⟨w.heap.size,0,none⟩),.pointer (some ⟨w.heap.size+1,0,none⟩),.pointer (some ⟨w.heap.size+1+1,0,none⟩),vl,undef,undef,undef,undef,va,vl,vl,.func (.func 68) #[] #[.pointer (some ⟨Bs,0,none⟩)],undef,undef,undef,undef,undef,undef,undef,undef,undef,undef,undef,undef,undef,undef,undef,undef]:Array Value).getD i undef⟩
   (fun n c=>match n with | 0=>B4 hMz.one c | 1=>B4 (by simp [hvl]) c | _+2=>rfl) rfl (fun i=>match i with | 0=>rfl | 1=>rfl | 2=>rfl | 3=>rfl | 4=>rfl | 5=>rfl | 6=>rfl | 7=>rfl | 8=>rfl | 9=>rfl | 10=>rfl | 11=>rfl | 12=>rfl | 13=>rfl | 14=>rfl | 15=>rfl | 16=>rfl | 17=>rfl | 18=>rfl | 19=>rfl | 20=>rfl | 21=>rfl | 22=>rfl | 23=>rfl | 24=>rfl | 25=>rfl | 26=>rfl | 27=>rfl | 28=>rfl | 29=>rfl | 30=>rfl | _+31=>rfl)
   (fun b q hq=>match b,q,hq with
    | 0,_,rfl=>⟨hM,fun e=>nomatch e⟩
    | 1,_,rfl=>⟨hA,fun _=>(by omega:w.heap.size<=w.heap.size+1)⟩
    | 2,_,rfl=>⟨hT,fun _=>(by omega:w.heap.size<=w.heap.size+1+1)⟩
    | _+3,_,hq=>nomatch hq)
   (fun b c hb hc hq=>match b,c,hb,hc with
    | 0,0,_,_=>rfl
    | 0,1,_,_=>absurd hq ne01
    | 0,2,_,_=>absurd hq ne02
    | 1,0,_,_=>absurd hq (Ne.symm ne01)
    | 1,1,_,_=>rfl
    | 1,2,_,_=>absurd hq ne12
    | 2,0,_,_=>absurd hq (Ne.symm ne02)
    | 2,1,_,_=>absurd hq (Ne.symm ne12)
    | 2,2,_,_=>rfl
    | _+3,_,hb,_=>absurd hb (by simp)
    | _,_+3,_,hc=>absurd hc (by simp))
   (fun jn hn=>match jn,hn with
    | 0,_=>hMz
    | 1,_=>⟨rfl,hvp,hob,hku⟩
    | _+2,hn=>absurd hn (by omega))
   (fun jn hn=>match jn,hn with
    | 0,_=>G9 rfl _ _ _ _
    | 1,_=>(fun b' p' hb' ho' hq=>by
      have hlow:w.heap.size+1+1<b /\ ∀ q,fpS vl q->w.heap.size+1+1<q:=hlo
      match b',p',hb',ho' with
      | 0,_,rfl,e=>cases e
      | 1,_,rfl,_=>
        have hq:fpS vl (w.heap.size+1)\/w.heap.size+1=b:=hq
        rcases hq with hq | hq
        · have:=hlow.2 _ hq;omega
        · omega
      | 2,_,rfl,_=>
        have hq:fpS vl (w.heap.size+1+1)\/w.heap.size+1+1=b:=hq
        rcases hq with hq | hq
        · have:=hlow.2 _ hq;omega
        · omega
      | _+3,_,e,_=>exact nomatch e)
    | _+2,hn=>absurd hn (by omega))
   ⟨fun σ W g h hp hb=>toURay (nJ W _ m (h 0 rfl)),
   fun σ W g h hp hb=>by
    obtain ⟨q,u0,u1,u2,u3,u4,u5,u6,u7,e1,e2,e3⟩:=h 2 rfl
    obtain ⟨e4,e5,e6,e7⟩:=h 1 rfl
    have e1 : σ.an 2 0=_:=e1
    have e4 : σ.an 1 0=vl:=e4
    show Calls _ _ #[σ.an 1 0,.agg #[σ.an 0 0, σ.an 0 1, σ.an 0 2, σ.an 0 3, σ.an 0 4, σ.an 0 5, σ.an 0 6, σ.an 0 7], σ.an 2 0] W _
    rw [e1,e4]
    exact toZZ (iY W vl q _ _ _ _ _ _ _ _ u0 u1 u2 u3 u4 u5 u6 u7 l m K e5 (h 0 rfl) e2 e3 (by omega) (by omega) hbd bm (hTab.kept g (by simp)) hvl),
   trivial⟩
   trivial
   ⟨fun τ W' g hk h hp hb0 had how a' hts hdf=>by
    obtain ⟨hbx,hne⟩:=hb0
    have k1:=hbx _ (.tail _ (.head _))
    unfold I8 at k1
    rw [had 1 (by simp)] at k1
    have k2:=hbx _ (.tail _ (.tail _ (.head _)))
    unfold I8 at k2
    rw [had 2 (by simp)] at k2
    have e0 : τ.an 3 0=_:=zz1 (h 3 rfl)
    have hD':=hk.same D _ hD rfl
    have hfar:M7 W0.heap.size W' (some D):=fun r e=>by cases e;exact ⟨hDB,_,hD',rfl⟩
    have hpo:=grownBy_putObj' W' D (.deferred none)
    have k1':=B6 hpo hfar k1
    have k2':=B6 hpo hfar k2
    show LeavesInM _ _ _ _ _ _ _ _ _
    rw [hdf]
    refine ⟨by simp,.inl ⟨_,_,rfl,run_takeDeferred hD', ?_⟩⟩
    refine ⟨_,eS rfl ?_ ?_ k1' k2' (by kernel_rfl) (by kernel_rfl), ?_,K9 (by omega) g hpo hfar⟩
    · rw [hts 4];show Value.pointer (some ⟨τ.ad 1,0,none⟩)=_;rw [had 1 (by simp)]
    · rw [hts 5];show Value.pointer (some ⟨τ.ad 2,0,none⟩)=_;rw [had 2 (by simp)]
    · show Ending.returned (.tuple #[τ.an 3 0,.bool false])=_
      have hno:=seen_all hxs hns
      rw [e0];unfold arN;rw [V9 hno];rfl,
   trivial⟩
 case stop=>
  rintro D c pre W hDB _ ⟨rfl,hs,hg,hA,hT⟩ hD
  have hfar:M7 W0.heap.size W (some D):=fun r e=>by cases e;exact ⟨hDB,_,hD,rfl⟩
  have hpo:=grownBy_putObj' W D (.deferred none)
  have k1':=B6 hpo hfar hA
  have k2':=B6 hpo hfar hT
  refine wpIn_ret ?_
  show LeavesInM _ _ _ _ _ _ _ _ _
  refine ⟨by simp,.inl ⟨_,_,rfl,run_takeDeferred hD, ?_⟩⟩
  refine ⟨_,eS rfl rfl rfl k1' k2' (by kernel_rfl) (by kernel_rfl), ?_,K9 (by omega) hg hpo hfar⟩
  show Ending.returned (.tuple #[.int .i64 0,.bool true])=_
  have hon:=seen_on hs
  unfold arN
  rw [mN hon]
  rfl
end Go.Proofs.YtamdnbbgpacfkaaDoor
