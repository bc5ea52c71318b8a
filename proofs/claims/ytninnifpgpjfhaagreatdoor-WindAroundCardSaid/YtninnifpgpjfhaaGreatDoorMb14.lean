/- What the laws lean on, part 14. -/
import Derived.Below
import Derived.BigCall
import Derived.BigQuiet
import Derived.BigRegion
import Derived.Deep.AppendLies
import Derived.Deep.CutBlock
import Derived.Deep.CutRange
import Derived.Deep.DeepCutAuto
import Derived.Deep.DeepHandedRow
import Derived.Deep.LoopGhost
import Derived.Deep.MidRow
import Derived.Deep.QuietTactic
import Derived.Deep.RegionHeld3
import Derived.Deep.RegionLaw
import Derived.Deep.WholeRow
import Derived.Laws.AppendOwn
import Derived.Laws.Concat
import Derived.Laws.CopyOwn
import Derived.Laws.Externs
import Derived.Laws.IdiomStrings
import Derived.Lib.BitFns
import Derived.Lib.Bytealg
import Derived.Lib.Hide
import Derived.Lib.Slices
import Derived.Lib.Small
import Derived.Lib.Strings
import Derived.Lib.Walk
import Derived.LoopIn
import Derived.LoopN
import Derived.LoopNIn
import Derived.Maps.AppendAt
import Derived.OpenShut
import Derived.OrdersHeld
import Derived.OrdersIn
import Derived.Outline
import Derived.OwnWalk
import Derived.OwnWalkIn
import Derived.ProofKit
import Derived.RangeFuncBound
import Derived.RangeFuncCalls
import Derived.RangeFuncLeaves
import Derived.RangeFuncNested
import Derived.RangeFuncOwn
import Derived.Shelf.Abstract
import Derived.Shelf.Bits.Mul64
import Derived.Shelf.RegionOpen
import Derived.Shelf.Spec.TrailingZeros
import Derived.StillTailTactics
import Derived.TacticsInMore
import Derived.WalkKit
import Derived.WalkLawsBesides
import Derived.WalkSpells
import Derived.Test.YtninnifpgpjfhaaGreatDoorProg
import Derived.Test.YtninnifpgpjfhaaGreatDoorRows
import Derived.Test.YtninnifpgpjfhaaGreatDoorMb13
set_option linter.unusedVariables false
set_option linter.unusedSimpArgs false
set_option maxRecDepth 100000
namespace Go.Proofs.YtninnifpgpjfhaaGreatDoor
open Go.RowKit Mat Ex PM
abbrev G2:=Int × Int
def GAt (w:World) (b o:Nat) (d:G2):Prop:=w.cell? ⟨b,o,none⟩=some (.int .i64 d.1)/\w.cell? ⟨b,o+1,none⟩=some (.int .i64 d.2)
theorem GAt.same {w w':World} {b o:Nat} {d:G2} (h:GAt w b o d) (hb:w'.heap[b]?=w.heap[b]?):GAt w' b o d:=⟨(O3 hb).trans h.1,(O3 hb).trans h.2⟩
def GsV (base:Nat) (w:World) (v:Value) (l:List G2):Prop:=∃ s n c,v = .slice s n c/\l.length=n/\n<=c/\(l=[] \/ ∃ b off,s=some ⟨b,off,none⟩/\b<base /\ ∀ i (h:i<l.length),GAt w b (off+2*i) l[i])
theorem GsV.block {base:Nat} {w:World} {v:Value} {l:List G2} (h:GsV base w v l) {q:Nat} (hq:fpS v q):q<base/\q<w.heap.size:=by
 obtain ⟨s,n,c,rfl,hl,hn,h⟩:=h
 obtain ⟨off,m,c',e⟩:=hq
 cases e
 rcases h with h | ⟨b,off',e,hb,hd⟩
 · rw [h] at hl;simp at hl
 · cases e;exact ⟨hb,Z9 (hd 0 (by omega)).1⟩
theorem GsV.keeps {base:Nat} {W W':World} {v:Value} {l:List G2} (h:GsV base W v l) (hq:∀ q,fpS v q->W'.heap[q]?=W.heap[q]?):GsV base W' v l:=by
 obtain ⟨s,n,c,rfl,hl,hn,h⟩:=h
 refine ⟨s,n,c,rfl,hl,hn, ?_⟩
 by_cases h0:l=[]
 · exact .inl h0
 · obtain ⟨b,off,rfl,hb,hc⟩:=h.resolve_left h0
   obtain ⟨m,rfl⟩:∃ m,n=m+1:=⟨n-1,by have:=List.length_pos_iff.2 h0;omega⟩
   exact .inr ⟨b,off,rfl,hb,fun i hi=>(hc i hi).same (hq b ⟨off,m,c,rfl⟩)⟩
theorem GsV.cell {base:Nat} {w:World} {v:Value} {l:List G2} (h:GsV base w v l):v.oneCell'=true:=by obtain ⟨s,n,c,rfl,_⟩:=h;rfl
def sGs (base:Nat) (l:List G2):Sp where
 sh := .one
 F v W:=GsV base W v l
 fits v W h:=by obtain ⟨s,n,c,rfl,_⟩:=h;exact ⟨fun _ => .slice s n c,fun _=>rfl,rfl⟩
 row:=true
 fp v _ q:=fpS v q
 lasts v W W' k hq h:=⟨h.keeps hq,fun _ h=>h⟩
 inb v W h q hq:=(h.block hq).2
 flat h:=by cases h
def GaV (base:Nat) (w:World) (v:Value) (d:G2):Prop:=∃ b off,v = .pointer (some ⟨b,off,none⟩)/\b<base/\GAt w b off d
theorem GaV.block {base:Nat} {w:World} {v:Value} {d:G2} (h:GaV base w v d) {q:Nat} (hq:fpP v q):q<base/\q<w.heap.size:=by
 obtain ⟨b,off,rfl,hb,hd⟩:=h
 obtain ⟨o,e⟩:=hq
 cases e;exact ⟨hb,Z9 hd.1⟩
def sGa (base:Nat) (d:G2):Sp where
 sh := .one
 F v W:=GaV base W v d
 fits v W h:=by obtain ⟨b,off,rfl,_⟩:=h;exact ⟨fun _ => .pointer (some ⟨b,off,none⟩),fun _=>rfl,rfl⟩
 row:=true
 fp v _ q:=fpP v q
 lasts v W W' k hq h:=by
  obtain ⟨b,off,rfl,hb,hc⟩:=h
  exact ⟨⟨b,off,rfl,hb,hc.same (hq b ⟨off,rfl⟩)⟩,fun _ h=>h⟩
 inb v W h q hq:=(h.block hq).2
 flat h:=by cases h
def gg (l:List G2) (k:Nat):G2:=l.getD k (0,0)
theorem gg_at {l:List G2} {k:Nat} (h:k<l.length):l[k]=gg l k:=by simp [gg,h]
theorem gg_mem {l:List G2} {k:Nat} (h:k<l.length):gg l k ∈ l:=by rw [<- gg_at h];exact List.getElem_mem h
theorem gO {l:List G2} {k:Nat} (h:k<l.length):l.take (k+1)=l.take k++[gg l k]:=by rw [<- gg_at h];simp
section
variable {P:Program} {ρ : Operand->Value} {o:Oper} {W:World}
theorem dC {t:TypeId} {x:Operand} {v:Value} {l:List G2} {base:Nat} (h:GsV base W v l) (ho:o.op = .call ⟨.builtin .len, #[x], #[t]⟩) (hx : ρ x=v) (hu:∃ el,Tryz.prog.underlying t=some (.slice el)) :
 (execOp ρ o).run Tryz.prog W = .ok (.value (.int .i64 l.length)) W:=by
 obtain ⟨s,n,c,rfl,hl,hn,h⟩:=h
 obtain ⟨el,hu⟩:=hu
 simp [execOp,ho,resolve,invoke,builtin,Builtin.len_,run_underlying hu W,hx,goInt,hl]
theorem gP {x y:Operand} {v:Value} {l:List G2} {base:Nat} (h:GsV base W v l) (ho:o.op = .indexAddr 53 x y) (hx : ρ x=v) (k:Nat) (hk:k<l.length) (hy : ρ y = .int .i64 k) :
 ∃ u,(execOp ρ o).run Tryz.prog W = .ok (.value u) W/\GaV base W u (gg l k) /\ ∀ q,fpP u q->fpS v q:=by
 obtain ⟨s,n,c,rfl,hl,hn,h⟩:=h
 obtain ⟨b,off,rfl,hb,hc⟩:=h.resolve_left (fun e=>by rw [e] at hk;simp at hk)
 have hu:Tryz.prog.underlying 53=some (.slice 60):=by kernel_rfl
 have hz:I8 Tryz.prog 60=some 2:=by kernel_rfl
 obtain ⟨m,rfl⟩:∃ m,n=m+1:=⟨n-1,by omega⟩
 have hk':(0:Int)<=(k:Int)/\(k:Int)<((m+1:Nat):Int):=by omega
 refine ⟨.pointer (some ⟨b,off+2*k,none⟩), ?_,⟨b,off+2*k,rfl,hb,by rw [<- gg_at hk];exact hc k hk⟩,fun q ⟨o',e⟩=>by cases e;exact ⟨off,m,c,rfl⟩⟩
 simp only [execOp,ho,hx,hy,Instr.indexAt,asIntOf,Sem.run_bind,Sem.run_pure,run_underlying hu W,Result.andThen_ok,hk',and_self,if_true,C6 Tryz.prog hz W,Instr.sureAddr,Addr.add_mid]
 rw [show (k:Int).toNat*2=2*k by omega]
theorem mF {x:Operand} {v:Value} {d:G2} {base:Nat} (h:GaV base W v d) (ho:o.op = .load 60 x) (hx : ρ x=v) :
 ∃ u,(execOp ρ o).run Tryz.prog W = .ok (.value u) W/\u = .agg #[.int .i64 d.1,.int .i64 d.2]:=by
 obtain ⟨q,off,rfl,hb,h1,h2⟩:=h
 refine ⟨_, ?_,rfl⟩
 have ha:eJ Tryz.prog 60=some true:=by kernel_rfl
 have hz:I8 Tryz.prog 60=some 2:=by kernel_rfl
 have hl:(loadCells ⟨q,off,none⟩ [Value.int .i64 d.1,.int .i64 d.2].length).run Tryz.prog W = .ok [Value.int .i64 d.1,.int .i64 d.2].toArray W:=
  run_loadCells_list (P:=Tryz.prog) W ⟨q,off,none⟩ _ fun j v hv=>by
   rw [Addr.add_mid]
   match j,hv with
   | 0,hv=>cases hv;simpa using h1
   | 1,hv=>cases hv;simpa using h2
   | n+2,hv=>simp at hv
 simp only [execOp,ho,hx,Instr.loadAt,Instr.sureAddr,loadVar,Sem.run_bind,Sem.run_pure,Result.andThen_ok,I4 Tryz.prog ha W,C6 Tryz.prog hz W,if_true]
 simp only [List.length_cons,List.length_nil] at hl
 rw [hl];rfl
end
def sGp (d:G2):Sp := .of (.agg 2) (fun v _=>v = .agg #[.int .i64 d.1,.int .i64 d.2]) (fun v W h=>⟨D2 [.int .i64 d.1,.int .i64 d.2],A9 (by simp [Value.oneCell']),h⟩) (fun v W W' k h=>h)
def gl (l:List G2):List Pq:=l.map fun d=>G8 d.1 d.2
theorem gl_next {l:List G2} {k:Nat} (h:k<l.length):gl (l.take (k+1))=gl (l.take k)++[G8 (gg l k).1 (gg l k).2]:=by rw [gO h];simp [gl]
def eK (d:G2):Prop:=(-9223372036854775808<=d.1/\d.1<=9223372036854775807)/\(-9223372036854775808<=d.2/\d.2<=9223372036854775807)
theorem OwV.fresh {w:World} {W:World} {v:Value} {l:List Pq} (h:OwV kPt w.heap.size W v l) (q:Nat) (hq:fpS v q):w.heap.size<=q:=by
 obtain ⟨off,n,c,rfl⟩:=hq
 exact (h.inb (q:=q) rfl).2.1
theorem gds_ne {base:Nat} {W:World} {v:Value} {l:List Pq} (h:OwV kPt base W v l) {q:Nat} (hq:q<base/\q<W.heap.size):v.ownBlock≠some q:=fun e=>by have:=(h.inb e).2.1;omega
theorem lG (w:World) (va:Value) (l:List G2) (Ha:GsV w.heap.size w va l) (hn:l.length<=200) (hL:∀ d ∈ l,eK d) :
 Calls Tryz.prog 19 #[va] w (RetPts w (gl l)):=by
 refine N2 B1 Tryz.func19 [sGs w.heap.size l] (fun k:Nat=>[sZ l.length,sZc (k<=l.length) (k:Int),sOw kPt w.heap.size (gl (l.take k)),sBq (decide (k<l.length)),sGa w.heap.size (gg l k),sGp (gg l k),sPt (G8 (gg l k).1 (gg l k).2),sOw kPt w.heap.size (gl (l.take (k+1))),sZ ((k:Int)+1)]) (fun m k=>if m=2 then l.length-k else 0) (0) (fun _=>rfl) [1000000] [some [[.t 5,.t 9,.t 10,.t 11,.t 12,.t 13,.t 14,.t 15,.t 16,.t 17],[.t 8],[.t 3]]] (.cons Ha .nil) (rs:=[(co 1 (.call ⟨.builtin .len, #[(.tmp 6)], #[53]⟩) 3 [on 0] [0] [],[]),(co 4 (.binOp .lss 3 (.tmp 8) (.tmp 7) 3) 0 [on 2,on 1] [0,1,2,3] [],[]),(co 5 (.indexAddr 53 (.tmp 6) (.tmp 8)) 0 [on 0,on 2] [0,1,2,3,4] [],[(4,0,true)]),(co 6 (.load 60 (.tmp 10)) 60 [on 5] [0,1,2,3,4,5] [],[(4,0,true)]),(cl 7 25 [ag 2 6],[(4,0,true)]),(cow 8 (.call ⟨.builtin .append, #[(.tmp 12),(.tmp 15)], #[23,23]⟩) 23 [on 3,.v false [.row 1 0 1 1]] [0,1,2,3,4,5,6,7] [(1,33,[.an 7 0,.an 7 1,.an 7 2,.an 7 3,.an 7 4,.an 7 5,.an 7 6,.an 7 7])],[(4,0,true)]),(co 9 (.binOp .add 3 (.tmp 8) (.const (.int .i64 1)) 3) 3 [on 2,.v false [.lit (.int .i64 1)]] [0,1,2,3,4,5,6,7,8] [],[(4,0,true)])]) (js:=[.loop false 2 [(2,.v false [.lit (.int .i64 0)]),(3,.v false [.lit (.slice none 0 0)])] (List.range 2) [],.test 4 0 (List.range 5) [],.loop true 2 [(2,on 9),(3,on 8)] (List.range 10) [(4,0,true)]]) (outs:=[⟨on 3,(List.range 5),[(4,0,false)],[],[]⟩]) (nc:=10) (by kernel_rfl)
  (fun k=>⟨fun σ W g h hp hb=>fun ρ o ho _ hv=>⟨_,dC (h 0 rfl) ho (E6 hv) ⟨60,by kernel_rfl⟩,rfl⟩,
  fun σ W g h hp hb=>fun ρ o ho _ hv=>⟨_,lss_told ho ((A0 hv).1.trans (h 2 rfl).1) ((A0 hv).2.trans (h 1 rfl)) (decide_eq_decide.2 (by omega)),rfl⟩,
  fun σ W g h hp hb=>fun ρ o ho _ hv=>by
   have hi:k<l.length:=of_decide_eq_true (vB (h 4 rfl) (hp 4 0 true rfl))
   obtain ⟨u,h1,h2,h3⟩:=gP (h 0 rfl) ho (A0 hv).1 k hi ((A0 hv).2.trans (h 2 rfl).1)
   exact ⟨u,h1,h2,fun q hq=>⟨0,rfl,h3 q hq⟩⟩,
  fun σ W g h hp hb=>fun ρ o ho _ hv=>mF (h 5 rfl) ho (E6 hv),
  fun σ W g h hp hb=>by
   have hi:k<l.length:=of_decide_eq_true (vB (h 4 rfl) (hp 4 0 true rfl))
   have hs:=hL _ (gg_mem hi)
   exact argl (congrArg (fun v=>[v]) (h 6 rfl)) (O6 W _ _ hs.1.1 hs.1.2 hs.2.1 hs.2.2),
  fun σ W g h hp hb=>fun ρ o ho _ hv=>by
   have hi:k<l.length:=of_decide_eq_true (vB (h 4 rfl) (hp 4 0 true rfl))
   exact appS kPt g rfl (m0:=3) rfl rfl (by rw [<- gl_next hi];rfl) (h 3 rfl) (iG kPt (by kernel_rfl) (mE _ _ (by kernel_rfl)) (by decide) (h 3 rfl) (cs:=[σ.an 7 0, σ.an 7 1, σ.an 7 2, σ.an 7 3, σ.an 7 4, σ.an 7 5, σ.an 7 6, σ.an 7 7]) rfl (hb.1 _ (.head _)) (h 7 rfl) (PtV.one (h 7 rfl)) (by simp [gl];omega) g.size ho (A0 hv).1 (A0 hv).2)
    (fun m hm hne hr=>by
    match m,hm,hne,hr with
    | 0,_,_,_=>exact .inl ⟨h 0 rfl,fun q hq=>gds_ne (h 3 rfl) (GsV.block (h 0 rfl) hq)⟩
    | 1,_,_,hr=>exact absurd hr Bool.false_ne_true
    | 2,_,_,hr=>exact absurd hr Bool.false_ne_true
    | 3,_,hne,_=>exact absurd rfl hne
    | 4,_,_,hr=>exact absurd hr Bool.false_ne_true
    | 5,_,_,_=>exact .inl ⟨h 5 rfl,fun q hq=>gds_ne (h 3 rfl) (GaV.block (h 5 rfl) hq)⟩
    | 6,_,_,hr=>exact absurd hr Bool.false_ne_true
    | 7,_,_,hr=>exact absurd hr Bool.false_ne_true
    | j+8,hm,_,_=>exact absurd hm (by simp)),
  fun σ W g h hp hb=>fun ρ o ho _ hv=>by
   have hi:k<l.length:=of_decide_eq_true (vB (h 4 rfl) (hp 4 0 true rfl))
   exact ⟨_,B8 ho ((A0 hv).1.trans (h 2 rfl).1) (A0 hv).2 (add_100 (by omega) (by omega)),rfl⟩,
  trivial⟩)
  (fun k=>⟨fun σ W g h hp=>⟨0,(fun e=>nomatch e),⟨rfl,fun m hm=>(if_neg (by omega)).trans (if_neg (by omega)).symm⟩,⟨rfl,Nat.zero_le _⟩,⟨OwV.nil kPt _ _,fun q hq=>by cases hq⟩,trivial⟩,
  fun σ W g h hp=>⟨_,h 4 rfl⟩,
  fun σ W g h hp=>by
   have hi:k<l.length:=of_decide_eq_true (vB (h 4 rfl) (hp 4 0 true rfl))
   exact ⟨k+1,fun _=>by show (if 2=2 then l.length-(k+1) else 0)<(if 2=2 then l.length-k else 0);rw [if_pos rfl,if_pos rfl];omega,⟨rfl,fun m hm=>(if_neg (by omega)).trans (if_neg (by omega)).symm⟩,⟨(h 9 rfl).trans (by push_cast;rfl),by omega⟩,⟨h 8 rfl,fun q hq=>⟨8,rfl,hq⟩⟩,trivial⟩,
  trivial⟩)
  (fun k hk=>⟨fun τ W g h hp hb=>by
   have hn:¬ k<l.length:=of_decide_eq_false (vB (h 4 rfl) (hp 4 0 false rfl))
   have hk2:k<=l.length:=(h 2 rfl).2
   obtain rfl:k=l.length:=by omega
   have ho:OwV kPt w.heap.size W (τ.an 3 0) (gl (l.take l.length)):=h 3 rfl
   rw [List.take_length] at ho
   exact ⟨_,rfl,ho.pts,g,ho.fresh⟩,
  trivial⟩)
theorem decOf {p:Prop} (h:dec p=true):p:=Classical.byContradiction fun h2=>by rw [cD h2] at h;cases h
theorem decNo {p:Prop} (h:dec p=false):¬ p:=fun h2=>by rw [lA h2] at h;cases h
noncomputable def arN (l:List Pq) (p:Pq):Int:=if dec (OnR l p)=true then 0 else winds l p
theorem w_sm {z:Int} (h0 : -1000<=z) (h1:z<=1000):IntKind.i64.wrap z=z:=by simp [IntKind.wrap,IntKind.signed,IntKind.bits];omega
theorem P8 {t:TypeId} {x y:Int} (h0 : -1000<=x+y) (h1:x+y<=1000):binOp .add t (.int .i64 x) (.int .i64 y) = .pure (.int .i64 (x+y)):=by
 show Sem.pure (Value.int .i64 (IntKind.i64.wrap (x+y)))=_;rw [w_sm h0 h1]
theorem sub_sm {t:TypeId} {x y:Int} (h0 : -1000<=x-y) (h1:x-y<=1000):binOp .sub t (.int .i64 x) (.int .i64 y) = .pure (.int .i64 (x-y)):=by
 show Sem.pure (Value.int .i64 (IntKind.i64.wrap (x-y)))=_;rw [w_sm h0 h1]
theorem mul_sm {t:TypeId} {x y:Int} (h0 : -1000<=x*y) (h1:x*y<=1000):binOp .mul t (.int .i64 x) (.int .i64 y) = .pure (.int .i64 (x*y)):=by
 show Sem.pure (Value.int .i64 (IntKind.i64.wrap (x*y)))=_;rw [w_sm h0 h1]
theorem rem_sm {P:Program} {ρ : Operand->Value} {o:Oper} {t t':TypeId} {x y:Operand} {a k:Int} {W:World} (ho:o.op = .binOp .rem t x y t') (hx : ρ x = .int .i64 a) (hy : ρ y = .int .i64 k) (h0 : 0<=a) (h1:a<=1000) (hk : 0<k):(execOp ρ o).run P W = .ok (.value (.int .i64 (a%k))) W:=by
 have hm:a.tmod k=a%k:=Int.tmod_eq_emod_of_nonneg h0
 have h2 : 0<=a%k:=Int.emod_nonneg _ (by omega)
 have h3:a%k<=a:=by rw [<- hm,Int.tmod_eq_emod_of_nonneg h0];have:=Int.emod_add_mul_ediv a k;have h4 : 0<=k*(a / k):=Int.mul_nonneg (by omega) (Int.ediv_nonneg h0 (by omega));omega
 have hg:eqGuard .rem t x y (.int .i64 a) (.int .i64 k)=pure ():=by unfold eqGuard;rfl
 have hb:binOp .rem t (.int .i64 a) (.int .i64 k)=pure (.int .i64 (a%k)):=by
  show Op.intDiv .rem .i64 _ k=_
  unfold Op.intDiv
  rw [if_neg (by omega),hm]
 simp only [execOp,ho,hx,hy,hg,hb,Sem.run_bind,Sem.run_pure,Result.andThen_ok]
theorem quo_sm {P:Program} {ρ : Operand->Value} {o:Oper} {t t':TypeId} {x y:Operand} {a:Int} {W:World} (ho:o.op = .binOp .quo t x y t') (hx : ρ x = .int .i64 (4*a)) (hy : ρ y = .int .i64 4) (h0 : -1000<=a) (h1:a<=1000):(execOp ρ o).run P W = .ok (.value (.int .i64 a)) W:=by
 have hm:(4*a).tdiv 4=a:=Int.mul_tdiv_cancel_left a (by omega)
 have hg:eqGuard .quo t x y (.int .i64 (4*a)) (.int .i64 4)=pure ():=by unfold eqGuard;rfl
 have hb:binOp .quo t (.int .i64 (4*a)) (.int .i64 4)=pure (.int .i64 a):=by
  show Op.intDiv .quo .i64 _ 4=_
  unfold Op.intDiv
  rw [if_neg (by omega),hm]
  show Sem.pure (Value.int .i64 (IntKind.i64.wrap a))=_
  rw [w_sm (by omega) (by omega)];rfl
 simp only [execOp,ho,hx,hy,hg,hb,Sem.run_bind,Sem.run_pure,Result.andThen_ok]
theorem rQtr_any (w:World) (va vb:Value) (a b:H3) (E:Nat) (Ha:HV w va a) (Hb:HV w vb b) (hE:E<=10000) (ba:HB E a) (bb:HB E b) (za : 0<a.z) (zb : 0<b.z) :
 Calls Tryz.prog 53 #[va,vb] w (fun e w'=>e = .returned (.int .i64 (qtr (rp a) (rp b)))/\w.grownBy w' none):=by
 rcases (show (0<E1 (rp b).1 (rp a).1/\0<=E1 (rp b).2 (rp a).2)\/(0<E1 (rp b).1 (rp a).1 /\ ¬ 0<=E1 (rp b).2 (rp a).2)\/(E1 (rp b).1 (rp a).1<=0/\0<E1 (rp b).2 (rp a).2)\/(E1 (rp b).1 (rp a).1<0/\E1 (rp b).2 (rp a).2<=0)\/(E1 (rp b).1 (rp a).1=0/\E1 (rp b).2 (rp a).2<=0) by omega) with h1 | h1 | h1 | h1 | h1
 · skip
   rw [show qtr (rp a) (rp b)=0 by unfold qtr;repeat (first | rw [if_pos (by omega)] | rw [if_neg (by omega)])]
   refine A4 B1 Tryz.func53 [sH a,sH b] [sR (b.x*a.z),sR (a.x*b.z),sZ (E1 (rp b).1 (rp a).1),sR (b.y*a.z),sR (a.y*b.z),sZ (E1 (rp b).2 (rp a).2),sV (.bool true),sV (.bool true)] (.cons Ha (.cons Hb .nil)) (rs:=[cl 2 61 [ag 2 1,.v true [.an 0 4,.an 0 5]],cl 3 61 [ag 2 0,.v true [.an 1 4,.an 1 5]],cl 4 42 [ag 2 2,ag 2 3],cl 5 61 [.v true [.an 1 2,.an 1 3],.v true [.an 0 4,.an 0 5]],cl 6 61 [.v true [.an 0 2,.an 0 3],.v true [.an 1 4,.an 1 5]],cl 7 42 [ag 2 5,ag 2 6],co 8 (.binOp .gtr 3 (.tmp 29) (.const (.int .i64 0)) 3) 4 [on 4,.v false [.lit (.int .i64 0)]] [0,1,2,3,4,5,6,7] [],co 9 (.binOp .geq 3 (.tmp 32) (.const (.int .i64 0)) 3) 4 [on 7,.v false [.lit (.int .i64 0)]] [0,1,2,3,4,5,6,7,8] []]) (out := .v false [.lit (.int .i64 0)]) (nc:=10) (by kernel_rfl)
    ⟨fun σ W g h hb=>C7 W _ _ _ _ (h31 (h 1 rfl)) (h33 (h 0 rfl)) (dp6 bb.1 (by omega)) (dp6 ba.2.2 (by omega)),
    fun σ W g h hb=>C7 W _ _ _ _ (h31 (h 0 rfl)) (h33 (h 1 rfl)) (dp6 ba.1 (by omega)) (dp6 bb.2.2 (by omega)),
    fun σ W g h hb=>toZ (H5 W _ _ _ _ (h 2 rfl) (h 3 rfl) (dp6 (B9 bb.1 ba.2.2) (by omega)) (dp6 (B9 ba.1 bb.2.2) (by omega))) (jN zb za).1,
    fun σ W g h hb=>C7 W _ _ _ _ (h32 (h 1 rfl)) (h33 (h 0 rfl)) (dp6 bb.2.1 (by omega)) (dp6 ba.2.2 (by omega)),
    fun σ W g h hb=>C7 W _ _ _ _ (h32 (h 0 rfl)) (h33 (h 1 rfl)) (dp6 ba.2.1 (by omega)) (dp6 bb.2.2 (by omega)),
    fun σ W g h hb=>toZ (H5 W _ _ _ _ (h 5 rfl) (h 6 rfl) (dp6 (B9 bb.2.1 ba.2.2) (by omega)) (dp6 (B9 ba.2.1 bb.2.2) (by omega))) (jN zb za).2,
    fun σ W g h hb=>fun ρ o ho _ hv=>⟨_,G6 true ho ((A0 hv).1.trans (h 4 rfl)) (A0 hv).2 (decide_eq_true (by omega)),rfl⟩,
    fun σ W g h hb=>fun ρ o ho _ hv=>⟨_,ge_told true ho ((A0 hv).1.trans (h 7 rfl)) (A0 hv).2 (decide_eq_true (by omega)),rfl⟩,
    trivial⟩ fun τ W g h=>⟨rfl,g⟩
 · skip
   rw [show qtr (rp a) (rp b)=3 by unfold qtr;repeat (first | rw [if_pos (by omega)] | rw [if_neg (by omega)])]
   refine A4 B1 Tryz.func53 [sH a,sH b] [sR (b.x*a.z),sR (a.x*b.z),sZ (E1 (rp b).1 (rp a).1),sR (b.y*a.z),sR (a.y*b.z),sZ (E1 (rp b).2 (rp a).2),sV (.bool true),sV (.bool false),sV (.bool false),sV (.bool false)] (.cons Ha (.cons Hb .nil)) (rs:=[cl 2 61 [ag 2 1,.v true [.an 0 4,.an 0 5]],cl 3 61 [ag 2 0,.v true [.an 1 4,.an 1 5]],cl 4 42 [ag 2 2,ag 2 3],cl 5 61 [.v true [.an 1 2,.an 1 3],.v true [.an 0 4,.an 0 5]],cl 6 61 [.v true [.an 0 2,.an 0 3],.v true [.an 1 4,.an 1 5]],cl 7 42 [ag 2 5,ag 2 6],co 8 (.binOp .gtr 3 (.tmp 29) (.const (.int .i64 0)) 3) 4 [on 4,.v false [.lit (.int .i64 0)]] [0,1,2,3,4,5,6,7] [],co 9 (.binOp .geq 3 (.tmp 32) (.const (.int .i64 0)) 3) 4 [on 7,.v false [.lit (.int .i64 0)]] [0,1,2,3,4,5,6,7,8] [],co 10 (.binOp .leq 3 (.tmp 35) (.const (.int .i64 0)) 3) 4 [on 4,.v false [.lit (.int .i64 0)]] [0,1,2,3,4,5,6,7,8,9] [],co 11 (.binOp .lss 3 (.tmp 41) (.const (.int .i64 0)) 3) 4 [on 4,.v false [.lit (.int .i64 0)]] [0,1,2,3,4,5,6,7,8,9,10] []]) (out := .v false [.lit (.int .i64 3)]) (nc:=12) (by kernel_rfl)
    ⟨fun σ W g h hb=>C7 W _ _ _ _ (h31 (h 1 rfl)) (h33 (h 0 rfl)) (dp6 bb.1 (by omega)) (dp6 ba.2.2 (by omega)),
    fun σ W g h hb=>C7 W _ _ _ _ (h31 (h 0 rfl)) (h33 (h 1 rfl)) (dp6 ba.1 (by omega)) (dp6 bb.2.2 (by omega)),
    fun σ W g h hb=>toZ (H5 W _ _ _ _ (h 2 rfl) (h 3 rfl) (dp6 (B9 bb.1 ba.2.2) (by omega)) (dp6 (B9 ba.1 bb.2.2) (by omega))) (jN zb za).1,
    fun σ W g h hb=>C7 W _ _ _ _ (h32 (h 1 rfl)) (h33 (h 0 rfl)) (dp6 bb.2.1 (by omega)) (dp6 ba.2.2 (by omega)),
    fun σ W g h hb=>C7 W _ _ _ _ (h32 (h 0 rfl)) (h33 (h 1 rfl)) (dp6 ba.2.1 (by omega)) (dp6 bb.2.2 (by omega)),
    fun σ W g h hb=>toZ (H5 W _ _ _ _ (h 5 rfl) (h 6 rfl) (dp6 (B9 bb.2.1 ba.2.2) (by omega)) (dp6 (B9 ba.2.1 bb.2.2) (by omega))) (jN zb za).2,
    fun σ W g h hb=>fun ρ o ho _ hv=>⟨_,G6 true ho ((A0 hv).1.trans (h 4 rfl)) (A0 hv).2 (decide_eq_true (by omega)),rfl⟩,
    fun σ W g h hb=>fun ρ o ho _ hv=>⟨_,ge_told false ho ((A0 hv).1.trans (h 7 rfl)) (A0 hv).2 (decide_eq_false (by omega)),rfl⟩,
    fun σ W g h hb=>fun ρ o ho _ hv=>⟨_,I9 false ho ((A0 hv).1.trans (h 4 rfl)) (A0 hv).2 (decide_eq_false (by omega)),rfl⟩,
    fun σ W g h hb=>fun ρ o ho _ hv=>⟨_,lZ false ho ((A0 hv).1.trans (h 4 rfl)) (A0 hv).2 (decide_eq_false (by omega)),rfl⟩,
    trivial⟩ fun τ W g h=>⟨rfl,g⟩
 · skip
   rw [show qtr (rp a) (rp b)=1 by unfold qtr;repeat (first | rw [if_pos (by omega)] | rw [if_neg (by omega)])]
   refine A4 B1 Tryz.func53 [sH a,sH b] [sR (b.x*a.z),sR (a.x*b.z),sZ (E1 (rp b).1 (rp a).1),sR (b.y*a.z),sR (a.y*b.z),sZ (E1 (rp b).2 (rp a).2),sV (.bool false),sV (.bool true),sV (.bool true)] (.cons Ha (.cons Hb .nil)) (rs:=[cl 2 61 [ag 2 1,.v true [.an 0 4,.an 0 5]],cl 3 61 [ag 2 0,.v true [.an 1 4,.an 1 5]],cl 4 42 [ag 2 2,ag 2 3],cl 5 61 [.v true [.an 1 2,.an 1 3],.v true [.an 0 4,.an 0 5]],cl 6 61 [.v true [.an 0 2,.an 0 3],.v true [.an 1 4,.an 1 5]],cl 7 42 [ag 2 5,ag 2 6],co 8 (.binOp .gtr 3 (.tmp 29) (.const (.int .i64 0)) 3) 4 [on 4,.v false [.lit (.int .i64 0)]] [0,1,2,3,4,5,6,7] [],co 9 (.binOp .leq 3 (.tmp 35) (.const (.int .i64 0)) 3) 4 [on 4,.v false [.lit (.int .i64 0)]] [0,1,2,3,4,5,6,7,8] [],co 10 (.binOp .gtr 3 (.tmp 38) (.const (.int .i64 0)) 3) 4 [on 7,.v false [.lit (.int .i64 0)]] [0,1,2,3,4,5,6,7,8,9] []]) (out := .v false [.lit (.int .i64 1)]) (nc:=11) (by kernel_rfl)
    ⟨fun σ W g h hb=>C7 W _ _ _ _ (h31 (h 1 rfl)) (h33 (h 0 rfl)) (dp6 bb.1 (by omega)) (dp6 ba.2.2 (by omega)),
    fun σ W g h hb=>C7 W _ _ _ _ (h31 (h 0 rfl)) (h33 (h 1 rfl)) (dp6 ba.1 (by omega)) (dp6 bb.2.2 (by omega)),
    fun σ W g h hb=>toZ (H5 W _ _ _ _ (h 2 rfl) (h 3 rfl) (dp6 (B9 bb.1 ba.2.2) (by omega)) (dp6 (B9 ba.1 bb.2.2) (by omega))) (jN zb za).1,
    fun σ W g h hb=>C7 W _ _ _ _ (h32 (h 1 rfl)) (h33 (h 0 rfl)) (dp6 bb.2.1 (by omega)) (dp6 ba.2.2 (by omega)),
    fun σ W g h hb=>C7 W _ _ _ _ (h32 (h 0 rfl)) (h33 (h 1 rfl)) (dp6 ba.2.1 (by omega)) (dp6 bb.2.2 (by omega)),
    fun σ W g h hb=>toZ (H5 W _ _ _ _ (h 5 rfl) (h 6 rfl) (dp6 (B9 bb.2.1 ba.2.2) (by omega)) (dp6 (B9 ba.2.1 bb.2.2) (by omega))) (jN zb za).2,
    fun σ W g h hb=>fun ρ o ho _ hv=>⟨_,G6 false ho ((A0 hv).1.trans (h 4 rfl)) (A0 hv).2 (decide_eq_false (by omega)),rfl⟩,
    fun σ W g h hb=>fun ρ o ho _ hv=>⟨_,I9 true ho ((A0 hv).1.trans (h 4 rfl)) (A0 hv).2 (decide_eq_true (by omega)),rfl⟩,
    fun σ W g h hb=>fun ρ o ho _ hv=>⟨_,G6 true ho ((A0 hv).1.trans (h 7 rfl)) (A0 hv).2 (decide_eq_true (by omega)),rfl⟩,
    trivial⟩ fun τ W g h=>⟨rfl,g⟩
 · skip
   rw [show qtr (rp a) (rp b)=2 by unfold qtr;repeat (first | rw [if_pos (by omega)] | rw [if_neg (by omega)])]
   refine A4 B1 Tryz.func53 [sH a,sH b] [sR (b.x*a.z),sR (a.x*b.z),sZ (E1 (rp b).1 (rp a).1),sR (b.y*a.z),sR (a.y*b.z),sZ (E1 (rp b).2 (rp a).2),sV (.bool false),sV (.bool true),sV (.bool false),sV (.bool true),sV (.bool true)] (.cons Ha (.cons Hb .nil)) (rs:=[cl 2 61 [ag 2 1,.v true [.an 0 4,.an 0 5]],cl 3 61 [ag 2 0,.v true [.an 1 4,.an 1 5]],cl 4 42 [ag 2 2,ag 2 3],cl 5 61 [.v true [.an 1 2,.an 1 3],.v true [.an 0 4,.an 0 5]],cl 6 61 [.v true [.an 0 2,.an 0 3],.v true [.an 1 4,.an 1 5]],cl 7 42 [ag 2 5,ag 2 6],co 8 (.binOp .gtr 3 (.tmp 29) (.const (.int .i64 0)) 3) 4 [on 4,.v false [.lit (.int .i64 0)]] [0,1,2,3,4,5,6,7] [],co 9 (.binOp .leq 3 (.tmp 35) (.const (.int .i64 0)) 3) 4 [on 4,.v false [.lit (.int .i64 0)]] [0,1,2,3,4,5,6,7,8] [],co 10 (.binOp .gtr 3 (.tmp 38) (.const (.int .i64 0)) 3) 4 [on 7,.v false [.lit (.int .i64 0)]] [0,1,2,3,4,5,6,7,8,9] [],co 11 (.binOp .lss 3 (.tmp 41) (.const (.int .i64 0)) 3) 4 [on 4,.v false [.lit (.int .i64 0)]] [0,1,2,3,4,5,6,7,8,9,10] [],co 12 (.binOp .leq 3 (.tmp 44) (.const (.int .i64 0)) 3) 4 [on 7,.v false [.lit (.int .i64 0)]] [0,1,2,3,4,5,6,7,8,9,10,11] []]) (out := .v false [.lit (.int .i64 2)]) (nc:=13) (by kernel_rfl)
    ⟨fun σ W g h hb=>C7 W _ _ _ _ (h31 (h 1 rfl)) (h33 (h 0 rfl)) (dp6 bb.1 (by omega)) (dp6 ba.2.2 (by omega)),
    fun σ W g h hb=>C7 W _ _ _ _ (h31 (h 0 rfl)) (h33 (h 1 rfl)) (dp6 ba.1 (by omega)) (dp6 bb.2.2 (by omega)),
    fun σ W g h hb=>toZ (H5 W _ _ _ _ (h 2 rfl) (h 3 rfl) (dp6 (B9 bb.1 ba.2.2) (by omega)) (dp6 (B9 ba.1 bb.2.2) (by omega))) (jN zb za).1,
    fun σ W g h hb=>C7 W _ _ _ _ (h32 (h 1 rfl)) (h33 (h 0 rfl)) (dp6 bb.2.1 (by omega)) (dp6 ba.2.2 (by omega)),
    fun σ W g h hb=>C7 W _ _ _ _ (h32 (h 0 rfl)) (h33 (h 1 rfl)) (dp6 ba.2.1 (by omega)) (dp6 bb.2.2 (by omega)),
    fun σ W g h hb=>toZ (H5 W _ _ _ _ (h 5 rfl) (h 6 rfl) (dp6 (B9 bb.2.1 ba.2.2) (by omega)) (dp6 (B9 ba.2.1 bb.2.2) (by omega))) (jN zb za).2,
    fun σ W g h hb=>fun ρ o ho _ hv=>⟨_,G6 false ho ((A0 hv).1.trans (h 4 rfl)) (A0 hv).2 (decide_eq_false (by omega)),rfl⟩,
    fun σ W g h hb=>fun ρ o ho _ hv=>⟨_,I9 true ho ((A0 hv).1.trans (h 4 rfl)) (A0 hv).2 (decide_eq_true (by omega)),rfl⟩,
    fun σ W g h hb=>fun ρ o ho _ hv=>⟨_,G6 false ho ((A0 hv).1.trans (h 7 rfl)) (A0 hv).2 (decide_eq_false (by omega)),rfl⟩,
    fun σ W g h hb=>fun ρ o ho _ hv=>⟨_,lZ true ho ((A0 hv).1.trans (h 4 rfl)) (A0 hv).2 (decide_eq_true (by omega)),rfl⟩,
    fun σ W g h hb=>fun ρ o ho _ hv=>⟨_,I9 true ho ((A0 hv).1.trans (h 7 rfl)) (A0 hv).2 (decide_eq_true (by omega)),rfl⟩,
    trivial⟩ fun τ W g h=>⟨rfl,g⟩
 · skip
   rw [show qtr (rp a) (rp b)=3 by unfold qtr;repeat (first | rw [if_pos (by omega)] | rw [if_neg (by omega)])]
   refine A4 B1 Tryz.func53 [sH a,sH b] [sR (b.x*a.z),sR (a.x*b.z),sZ (E1 (rp b).1 (rp a).1),sR (b.y*a.z),sR (a.y*b.z),sZ (E1 (rp b).2 (rp a).2),sV (.bool false),sV (.bool true),sV (.bool false),sV (.bool false)] (.cons Ha (.cons Hb .nil)) (rs:=[cl 2 61 [ag 2 1,.v true [.an 0 4,.an 0 5]],cl 3 61 [ag 2 0,.v true [.an 1 4,.an 1 5]],cl 4 42 [ag 2 2,ag 2 3],cl 5 61 [.v true [.an 1 2,.an 1 3],.v true [.an 0 4,.an 0 5]],cl 6 61 [.v true [.an 0 2,.an 0 3],.v true [.an 1 4,.an 1 5]],cl 7 42 [ag 2 5,ag 2 6],co 8 (.binOp .gtr 3 (.tmp 29) (.const (.int .i64 0)) 3) 4 [on 4,.v false [.lit (.int .i64 0)]] [0,1,2,3,4,5,6,7] [],co 9 (.binOp .leq 3 (.tmp 35) (.const (.int .i64 0)) 3) 4 [on 4,.v false [.lit (.int .i64 0)]] [0,1,2,3,4,5,6,7,8] [],co 10 (.binOp .gtr 3 (.tmp 38) (.const (.int .i64 0)) 3) 4 [on 7,.v false [.lit (.int .i64 0)]] [0,1,2,3,4,5,6,7,8,9] [],co 11 (.binOp .lss 3 (.tmp 41) (.const (.int .i64 0)) 3) 4 [on 4,.v false [.lit (.int .i64 0)]] [0,1,2,3,4,5,6,7,8,9,10] []]) (out := .v false [.lit (.int .i64 3)]) (nc:=12) (by kernel_rfl)
    ⟨fun σ W g h hb=>C7 W _ _ _ _ (h31 (h 1 rfl)) (h33 (h 0 rfl)) (dp6 bb.1 (by omega)) (dp6 ba.2.2 (by omega)),
    fun σ W g h hb=>C7 W _ _ _ _ (h31 (h 0 rfl)) (h33 (h 1 rfl)) (dp6 ba.1 (by omega)) (dp6 bb.2.2 (by omega)),
    fun σ W g h hb=>toZ (H5 W _ _ _ _ (h 2 rfl) (h 3 rfl) (dp6 (B9 bb.1 ba.2.2) (by omega)) (dp6 (B9 ba.1 bb.2.2) (by omega))) (jN zb za).1,
    fun σ W g h hb=>C7 W _ _ _ _ (h32 (h 1 rfl)) (h33 (h 0 rfl)) (dp6 bb.2.1 (by omega)) (dp6 ba.2.2 (by omega)),
    fun σ W g h hb=>C7 W _ _ _ _ (h32 (h 0 rfl)) (h33 (h 1 rfl)) (dp6 ba.2.1 (by omega)) (dp6 bb.2.2 (by omega)),
    fun σ W g h hb=>toZ (H5 W _ _ _ _ (h 5 rfl) (h 6 rfl) (dp6 (B9 bb.2.1 ba.2.2) (by omega)) (dp6 (B9 ba.2.1 bb.2.2) (by omega))) (jN zb za).2,
    fun σ W g h hb=>fun ρ o ho _ hv=>⟨_,G6 false ho ((A0 hv).1.trans (h 4 rfl)) (A0 hv).2 (decide_eq_false (by omega)),rfl⟩,
    fun σ W g h hb=>fun ρ o ho _ hv=>⟨_,I9 true ho ((A0 hv).1.trans (h 4 rfl)) (A0 hv).2 (decide_eq_true (by omega)),rfl⟩,
    fun σ W g h hb=>fun ρ o ho _ hv=>⟨_,G6 false ho ((A0 hv).1.trans (h 7 rfl)) (A0 hv).2 (decide_eq_false (by omega)),rfl⟩,
    fun σ W g h hb=>fun ρ o ho _ hv=>⟨_,lZ false ho ((A0 hv).1.trans (h 4 rfl)) (A0 hv).2 (decide_eq_false (by omega)),rfl⟩,
    trivial⟩ fun τ W g h=>⟨rfl,g⟩
theorem ptFields:∃ fs,Tryz.prog.underlying 60=some (.struct fs)/\(∃ f,fs[0]?=some f/\f.type=3/\f.offset=0) /\ ∃ f,fs[1]?=some f/\f.type=3/\f.offset=1:=by
 have h:(match Tryz.prog.underlying 60 with | some (.struct fs)=>(match fs[0]? with | some f=>decide (f.type=3) && decide (f.offset=0) | none=>false) && (match fs[1]? with | some f=>decide (f.type=3) && decide (f.offset=1) | none=>false) | _=>false)=true:=by kernel_rfl
 cases hu:Tryz.prog.underlying 60 with
 | none=>rw [hu] at h;cases h
 | some u=>
   cases u<;>rw [hu] at h<;>try cases h
   case struct fs=>
    refine ⟨fs,rfl, ?_⟩
    simp only [Bool.and_eq_true] at h
    obtain ⟨h0,h1⟩:=h
    constructor
    · cases e:fs[0]? with
      | none=>rw [e] at h0;cases h0
      | some f=>rw [e] at h0;simp only [Bool.and_eq_true,decide_eq_true_eq] at h0;exact ⟨f,rfl,h0⟩
    · cases e:fs[1]? with
      | none=>rw [e] at h1;cases h1
      | some f=>rw [e] at h1;simp only [Bool.and_eq_true,decide_eq_true_eq] at h1;exact ⟨f,rfl,h1⟩
def GfV (base:Nat) (w:World) (v:Value) (z:Int):Prop:=∃ b off,v = .pointer (some ⟨b,off,none⟩)/\b<base/\w.cell? ⟨b,off,none⟩=some (.int .i64 z)
theorem GfV.block {base:Nat} {w:World} {v:Value} {z:Int} (h:GfV base w v z) {q:Nat} (hq:fpP v q):q<base/\q<w.heap.size:=by
 obtain ⟨b,off,rfl,hb,hd⟩:=h
 obtain ⟨o,e⟩:=hq
 cases e;exact ⟨hb,Z9 hd⟩
def sGf (base:Nat) (z:Int):Sp where
 sh := .one
 F v W:=GfV base W v z
 fits v W h:=by obtain ⟨b,off,rfl,_⟩:=h;exact ⟨fun _ => .pointer (some ⟨b,off,none⟩),fun _=>rfl,rfl⟩
 row:=true
 fp v _ q:=fpP v q
 lasts v W W' k hq h:=by
  obtain ⟨b,off,rfl,hb,hc⟩:=h
  exact ⟨⟨b,off,rfl,hb,(O3 (hq b ⟨off,rfl⟩)).trans hc⟩,fun _ h=>h⟩
 inb v W h q hq:=(h.block hq).2
 flat h:=by cases h
section
variable {ρ : Operand->Value} {o:Oper} {W:World}
theorem gf_told {x:Operand} {b off i:Nat} (hi:i<2) (ho:o.op = .fieldAddr 60 x i) (hx : ρ x = .pointer (some ⟨b,off,none⟩)) :
 (execOp ρ o).run Tryz.prog W = .ok (.value (.pointer (some ⟨b,off+i,none⟩))) W:=by
 obtain ⟨fs,hu,⟨f0,e0,t0,o0⟩,f1,e1,t1,o1⟩:=ptFields
 have hz:I8 Tryz.prog 3=some 1:=by kernel_rfl
 match i,hi with
 | 0,_=>simp [execOp,ho,hx,Instr.fieldAt,Sem.run_bind,run_underlying hu W,e0,Instr.sureAddr,fieldPlace,t0,o0,C6 Tryz.prog hz W,Addr.add]
 | 1,_=>simp [execOp,ho,hx,Instr.fieldAt,Sem.run_bind,run_underlying hu W,e1,Instr.sureAddr,fieldPlace,t1,o1,C6 Tryz.prog hz W,Addr.add]
theorem gf_at {x:Operand} {v:Value} {d:G2} {base i:Nat} (hi:i<2) (h:GaV base W v d) (ho:o.op = .fieldAddr 60 x i) (hx : ρ x=v) :
 ∃ u,(execOp ρ o).run Tryz.prog W = .ok (.value u) W/\GfV base W u (if i=0 then d.1 else d.2) /\ ∀ q,fpP u q->fpP v q:=by
 obtain ⟨b,off,rfl,hb,h1,h2⟩:=h
 refine ⟨_,gf_told hi ho hx,⟨b,off+i,rfl,hb, ?_⟩,fun q ⟨o',e⟩=>by cases e;exact ⟨off,rfl⟩⟩
 match i,hi with
 | 0,_=>exact h1
 | 1,_=>exact h2
theorem eQ {x:Operand} {v:Value} {z:Int} {base:Nat} (h:GfV base W v z) (ho:o.op = .load 3 x) (hx : ρ x=v) :
 (execOp ρ o).run Tryz.prog W = .ok (.value (.int .i64 z)) W:=by
 obtain ⟨b,off,rfl,hb,h1⟩:=h
 have ha:eJ Tryz.prog 3=some false:=by kernel_rfl
 simp [execOp,ho,hx,Instr.loadAt,Instr.sureAddr,loadVar,Sem.run_bind,Sem.run_pure,I4 Tryz.prog ha W,run_load,h1]
theorem gs_slice {x y:Operand} {v:Value} {l:List G2} {base:Nat} (h:GsV base W v l) (ho:o.op = .slice 53 x none (some y) none) (hx : ρ x=v) (hy : ρ y = .int .i64 30) (hl : 30<l.length) :
 ∃ u,(execOp ρ o).run Tryz.prog W = .ok (.value u) W/\GsV base W u (l.take 30) /\ ∀ q,fpS u q->fpS v q:=by
 obtain ⟨s,n,c,rfl,hln,hn,h⟩:=h
 obtain ⟨b,off,rfl,hb,hc⟩:=h.resolve_left (fun e=>by rw [e] at hl;simp at hl)
 have hu:Tryz.prog.underlying 53=some (.slice 60):=by kernel_rfl
 have hz:I8 Tryz.prog 60=some 2:=by kernel_rfl
 obtain ⟨m,rfl⟩:∃ m,n=m+1:=⟨n-1,by omega⟩
 refine ⟨.slice (some ⟨b,off,none⟩) 30 c, ?_,⟨_,30,c,rfl,by simp;omega,by omega,.inr ⟨b,off,rfl,hb,fun i hi=>?_⟩⟩,fun q ⟨o',m',c',e⟩=>by cases e;exact ⟨off,m,c,rfl⟩⟩
 · have h30:(0:Int)<=30/\(30:Int)<=(c:Int):=by omega
   simp [execOp,ho,hx,hy,Instr.sliceAt,Instr.slice,Instr.sliceBounds,Instr.sliceBound,asIntOf,Sem.run_bind,Sem.run_pure,run_underlying hu W,Result.andThen_ok,h30,C6 Tryz.prog hz W,Addr.add]
 · have hi':i<30:=by have:=List.length_take_le 30 l;omega
   rw [List.getElem_take];exact hc i (by omega)
end
def hrl (l:List G2):List H3:=l.map fun d=>⟨d.1,d.2,1⟩
theorem hrl_next {l:List G2} {k:Nat} (h:k<l.length):hrl (l.take (k+1))=hrl (l.take k)++[⟨(gg l k).1,(gg l k).2,1⟩]:=by rw [gO h];simp [hrl]
def sGw (base:Nat) (va:Value) (l:List G2):Sp where
 sh := .one
 F v W:=GsV base W v l /\ ∀ q,fpS v q->fpS va q
 fits v W h:=by obtain ⟨⟨s,n,c,rfl,_⟩,_⟩:=h;exact ⟨fun _ => .slice s n c,fun _=>rfl,rfl⟩
 row:=true
 fp v _ q:=fpS v q
 lasts v W W' k hq h:=⟨⟨h.1.keeps hq,h.2⟩,fun _ h=>h⟩
 inb v W h q hq:=(h.1.block hq).2
 flat h:=by cases h
def RetFew (w:World) (va:Value) (l:List G2) (e:Ending) (w':World):Prop:=∃ v u,e = .returned (.tuple #[v,u])/\GsV w.heap.size w' v l/\(∀ q,fpS v q->fpS va q)/\HrV w' u (hrl l)/\(∀ q,fpS u q->w.heap.size<=q)/\w.grownBy w' none
theorem OwV.freshH {w:World} {W:World} {v:Value} {l:List H3} (h:OwV kH w.heap.size W v l) (q:Nat) (hq:fpS v q):w.heap.size<=q:=by
 obtain ⟨off,n,c,rfl⟩:=hq
 exact (h.inb (q:=q) rfl).2.1
theorem lssN {P:Program} {ρ : Operand->Value} {o:Oper} {t t':TypeId} {x y:Operand} {a b:Int} {W:World} {c:Bool} (ho:o.op = .binOp .gtr t x y t') (hx : ρ x = .int .i64 a) (hy : ρ y = .int .i64 b) (h:decide (b<a)=c) :
 (execOp ρ o).run P W = .ok (.value (.bool c)) W:=B8 ho hx hy (by rw [<- h];rfl)
theorem L4 {base:Nat} {W:World} {v:Value} {l:List H3} (h:OwV kH base W v l) {q:Nat} (hq:q<base/\q<W.heap.size):v.ownBlock≠some q:=fun e=>by have:=(h.inb e).2.1;omega
theorem few13_any (w:World) (va:Value) (l:List G2) (Ha:GsV w.heap.size w va l) (hIn:∀ d ∈ l,eK d) :
 Calls Tryz.prog 14 #[va] w (RetFew w va (l.take 30)):=by
 rcases (show l.length<=30\/30<l.length by omega) with hbig | hbig
 · skip
   obtain ⟨L,hLe⟩:∃ L,l.take 30=L:=⟨_,rfl⟩
   have hL30:L.length<=30:=by rw [<- hLe];simp;omega
   have hI:∀ d ∈ L,eK d:=fun d hd=>hIn d (List.mem_of_mem_take (hLe ▸ hd))
   have hLl:l.take 30=l:=List.take_of_length_le (by omega)
   have hLL:l=L:=hLl.symm.trans hLe
   rw [hLe]
   subst hLL
   refine N2 B1 Tryz.func14 [sGw w.heap.size va l] (fun k:Nat=>[sZ l.length,sV (.bool false),sZc (k<=l.length) (k:Int),sOw kH w.heap.size (hrl (l.take k)),sZ l.length,sC (.bool (decide (k<l.length))) rfl,sGa w.heap.size (gg l k),sGf w.heap.size (gg l k).1,sZ (gg l k).1,sGa w.heap.size (gg l k),sGf w.heap.size (gg l k).2,sZ (gg l k).2,sH ⟨(gg l k).1,(gg l k).2,1⟩,sOw kH w.heap.size (hrl (l.take (k+1))),sZ ((k:Int)+1)]) (fun m k=>if m=3 then l.length-k else 0) (0) (fun _=>rfl) [1000000] [some [[.t 11,.t 12,.t 13,.t 14,.t 15,.t 16,.t 17,.t 18,.t 19,.t 20,.t 21,.t 22,.t 23,.t 24,.t 25,.t 26,.t 27,.t 28,.t 29,.t 30],[.t 5],[.t 4]]] (.cons ⟨Ha,fun _ h=>h⟩ .nil) (rs:=[(co 1 (.call ⟨.builtin .len, #[(.tmp 6)], #[53]⟩) 3 [on 0] [0] [],[]),(co 2 (.binOp .gtr 3 (.tmp 7) (.const (.int .i64 30)) 3) 4 [on 1,.v false [.lit (.int .i64 30)]] [0,1] [],[]),(co 5 (.call ⟨.builtin .len, #[(.tmp 12)], #[53]⟩) 3 [on 0] [0,1,2,3,4] [],[]),(co 6 (.binOp .lss 3 (.tmp 11) (.tmp 13) 3) 4 [on 3,on 5] [0,1,2,3,4,5] [],[]),(co 7 (.indexAddr 53 (.tmp 18) (.tmp 19)) 0 [on 0,on 3] [0,1,2,3,4,5,6] [],[(6,0,true)]),(co 8 (.fieldAddr 60 (.tmp 20) 0) 0 [on 7] [0,1,2,3,4,5,6,7] [],[(6,0,true)]),(co 9 (.load 3 (.tmp 21)) 3 [on 8] [0,1,2,3,4,5,6,7,8] [],[(6,0,true)]),(co 10 (.indexAddr 53 (.tmp 23) (.tmp 24)) 0 [on 0,on 3] [0,1,2,3,4,5,6] [],[(6,0,true)]),(co 11 (.fieldAddr 60 (.tmp 25) 1) 0 [on 10] [0,1,2,3,4,5,6,10] [],[(6,0,true)]),(co 12 (.load 3 (.tmp 26)) 3 [on 11] [0,1,2,3,4,5,6,10,11] [],[(6,0,true)]),(cl 13 48 [on 9,on 12],[(6,0,true)]),(cow 14 (.call ⟨.builtin .append, #[(.tmp 17),(.tmp 29)], #[24,24]⟩) 24 [on 4,.v false [.row 0 0 1 1]] [0,1,2,3,4,5,6,7,8,9,10,11,12,13] [(0,43,[.an 13 0,.an 13 1,.an 13 2,.an 13 3,.an 13 4,.an 13 5])],[(6,0,true)]),(co 15 (.binOp .add 3 (.tmp 15) (.const (.int .i64 1)) 3) 3 [on 3,.v false [.lit (.int .i64 1)]] [0,1,2,3,4,5,6,7,8,9,10,11,12,13,14] [],[(6,0,true)])]) (js:=[.loop false 3 [(3,.v false [.lit (.int .i64 0)]),(4,.v false [.lit (.slice none 0 0)])] (List.range 3) [],.test 6 0 (List.range 7) [],.loop true 3 [(3,on 15),(4,on 14)] (List.range 16) [(6,0,true)]]) (outs:=[⟨.tup [(false,[.an 0 0]),(false,[.an 4 0])],(List.range 7),[(6,0,false)],[],[]⟩]) (nc:=16) (by kernel_rfl)
    (fun k=>⟨fun σ W g h hp hb=>fun ρ o ho _ hv=>⟨_,dC (h 0 rfl).1 ho (E6 hv) ⟨60,by kernel_rfl⟩,rfl⟩,
    fun σ W g h hp hb=>fun ρ o ho _ hv=>⟨_,lssN ho ((A0 hv).1.trans (h 1 rfl)) (A0 hv).2 (decide_eq_false (by omega)),rfl⟩,
    fun σ W g h hp hb=>fun ρ o ho _ hv=>⟨_,dC (h 0 rfl).1 ho (E6 hv) ⟨60,by kernel_rfl⟩,rfl⟩,
    fun σ W g h hp hb=>fun ρ o ho _ hv=>⟨_,hr_lt ho ((A0 hv).1.trans (h 3 rfl).1) ((A0 hv).2.trans (h 5 rfl)) rfl rfl,rfl⟩,
    fun σ W g h hp hb=>fun ρ o ho _ hv=>by
     have q:=of_decide_eq_true (D8 (h 6 rfl) (hp 6 0 true rfl))
     obtain ⟨u,h1,h2,h3⟩:=gP (h 0 rfl).1 ho (A0 hv).1 k q ((A0 hv).2.trans (h 3 rfl).1)
     exact ⟨u,h1,h2,fun q hq=>⟨0,rfl,h3 q hq⟩⟩,
    fun σ W g h hp hb=>fun ρ o ho _ hv=>by
     obtain ⟨u,h1,h2,h3⟩:=gf_at (i:=0) (by omega) (h 7 rfl) ho (E6 hv)
     exact ⟨u,h1,h2,fun q hq=>⟨7,rfl,h3 q hq⟩⟩,
    fun σ W g h hp hb=>fun ρ o ho _ hv=>⟨_,eQ (h 8 rfl) ho (E6 hv),rfl⟩,
    fun σ W g h hp hb=>fun ρ o ho _ hv=>by
     have q:=of_decide_eq_true (D8 (h 6 rfl) (hp 6 0 true rfl))
     obtain ⟨u,h1,h2,h3⟩:=gP (h 0 rfl).1 ho (A0 hv).1 k q ((A0 hv).2.trans (h 3 rfl).1)
     exact ⟨u,h1,h2,fun q hq=>⟨0,rfl,h3 q hq⟩⟩,
    fun σ W g h hp hb=>fun ρ o ho _ hv=>by
     obtain ⟨u,h1,h2,h3⟩:=gf_at (i:=1) (by omega) (h 10 rfl) ho (E6 hv)
     exact ⟨u,h1,h2,fun q hq=>⟨10,rfl,h3 q hq⟩⟩,
    fun σ W g h hp hb=>fun ρ o ho _ hv=>⟨_,eQ (h 11 rfl) ho (E6 hv),rfl⟩,
    fun σ W g h hp hb=>by
     have q:=of_decide_eq_true (D8 (h 6 rfl) (hp 6 0 true rfl))
     have s:=hI _ (gg_mem q)
     exact arg2 (h 9 rfl) (h 12 rfl) (rHOf_any W _ _ s.1.1 s.1.2 s.2.1 s.2.2),
    fun σ W g h hp hb=>fun ρ o ho _ hv=>by
     have q:=of_decide_eq_true (D8 (h 6 rfl) (hp 6 0 true rfl))
     exact appS kH g rfl (m0:=4) rfl rfl (by rw [<- hrl_next q];rfl) (h 4 rfl) (iG kH (by kernel_rfl) (mE _ _ (by kernel_rfl)) (by decide) (h 4 rfl) (cs:=[σ.an 13 0, σ.an 13 1, σ.an 13 2, σ.an 13 3, σ.an 13 4, σ.an 13 5]) rfl (hb.1 _ (.head _)) (h 13 rfl) (HV.one (h 13 rfl)) (by simp [hrl];omega) g.size ho (A0 hv).1 (A0 hv).2)
      (fun m hm hne hr=>by
      match m,hm,hne,hr with
      | 0,_,_,_=>exact .inl ⟨h 0 rfl,fun q hq=>L4 (h 4 rfl) (GsV.block (h 0 rfl).1 hq)⟩
      | 1,_,_,hr=>exact absurd hr Bool.false_ne_true
      | 2,_,_,hr=>exact absurd hr Bool.false_ne_true
      | 3,_,_,hr=>exact absurd hr Bool.false_ne_true
      | 4,_,hne,_=>exact absurd rfl hne
      | 5,_,_,hr=>exact absurd hr Bool.false_ne_true
      | 6,_,_,hr=>exact absurd hr Bool.false_ne_true
      | 7,_,_,_=>exact .inl ⟨h 7 rfl,fun q hq=>L4 (h 4 rfl) (GaV.block (h 7 rfl) hq)⟩
      | 8,_,_,_=>exact .inl ⟨h 8 rfl,fun q hq=>L4 (h 4 rfl) (GfV.block (h 8 rfl) hq)⟩
      | 9,_,_,hr=>exact absurd hr Bool.false_ne_true
      | 10,_,_,_=>exact .inl ⟨h 10 rfl,fun q hq=>L4 (h 4 rfl) (GaV.block (h 10 rfl) hq)⟩
      | 11,_,_,_=>exact .inl ⟨h 11 rfl,fun q hq=>L4 (h 4 rfl) (GfV.block (h 11 rfl) hq)⟩
      | 12,_,_,hr=>exact absurd hr Bool.false_ne_true
      | 13,_,_,hr=>exact absurd hr Bool.false_ne_true
      | j+14,hm,_,_=>exact absurd hm (by simp)),
    fun σ W g h hp hb=>fun ρ o ho _ hv=>by
     have q:=of_decide_eq_true (D8 (h 6 rfl) (hp 6 0 true rfl))
     exact ⟨_,B8 ho ((A0 hv).1.trans (h 3 rfl).1) (A0 hv).2 (P8 (by omega) (by omega)),rfl⟩,
    trivial⟩)
    (fun k=>⟨fun σ W g h hp=>⟨0,(fun e=>nomatch e),⟨rfl,fun m hm=>(if_neg (by omega)).trans (if_neg (by omega)).symm⟩,⟨rfl,by omega⟩,⟨OwV.nil kH _ _,fun q hq=>by cases hq⟩,trivial⟩,
    fun σ W g h hp=>⟨_,h 6 rfl⟩,
    fun σ W g h hp=>by
     have q:=of_decide_eq_true (D8 (h 6 rfl) (hp 6 0 true rfl))
     exact ⟨k+1,fun _=>by show (if 3=3 then l.length-(k+1) else 0)<(if 3=3 then l.length-k else 0);rw [if_pos rfl,if_pos rfl];omega,⟨rfl,fun m hm=>(if_neg (by omega)).trans (if_neg (by omega)).symm⟩,⟨(h 15 rfl).trans (by push_cast;rfl),by omega⟩,⟨h 14 rfl,fun q hq=>⟨14,rfl,hq⟩⟩,trivial⟩,
    trivial⟩)
    (fun k hk=>⟨fun τ W g h hp hb=>by
     have q:=of_decide_eq_false (D8 (h 6 rfl) (hp 6 0 false rfl))
     have hk3:k<=l.length:=(h 3 rfl).2
     have ho:OwV kH w.heap.size W (τ.an 4 0) (hrl (l.take k)):=h 4 rfl
     rw [List.take_of_length_le (by omega)] at ho
     exact ⟨_,_,rfl,(h 0 rfl).1,(h 0 rfl).2,ho.hr,ho.freshH,g⟩,
    trivial⟩)
 · skip
   obtain ⟨L,hLe⟩:∃ L,l.take 30=L:=⟨_,rfl⟩
   have hL30:L.length<=30:=by rw [<- hLe];simp;omega
   have hI:∀ d ∈ L,eK d:=fun d hd=>hIn d (List.mem_of_mem_take (hLe ▸ hd))
   rw [hLe]
   refine N2 B1 Tryz.func14 [sGw w.heap.size va l] (fun k:Nat=>[sZ l.length,sV (.bool true),sGw w.heap.size va L,sZc (k<=L.length) (k:Int),sOw kH w.heap.size (hrl (L.take k)),sZ L.length,sC (.bool (decide (k<L.length))) rfl,sGa w.heap.size (gg L k),sGf w.heap.size (gg L k).1,sZ (gg L k).1,sGa w.heap.size (gg L k),sGf w.heap.size (gg L k).2,sZ (gg L k).2,sH ⟨(gg L k).1,(gg L k).2,1⟩,sOw kH w.heap.size (hrl (L.take (k+1))),sZ ((k:Int)+1)]) (fun m k=>if m=4 then L.length-k else 0) (0) (fun _=>rfl) [1000000] [some [[.t 11,.t 12,.t 13,.t 14,.t 15,.t 16,.t 17,.t 18,.t 19,.t 20,.t 21,.t 22,.t 23,.t 24,.t 25,.t 26,.t 27,.t 28,.t 29,.t 30],[.t 5],[.t 4]]] (.cons ⟨Ha,fun _ h=>h⟩ .nil) (rs:=[(co 1 (.call ⟨.builtin .len, #[(.tmp 6)], #[53]⟩) 3 [on 0] [0] [],[]),(co 2 (.binOp .gtr 3 (.tmp 7) (.const (.int .i64 30)) 3) 4 [on 1,.v false [.lit (.int .i64 30)]] [0,1] [],[]),(co 3 (.slice 53 (.tmp 9) none (some (.const (.int .i64 30))) none) 53 [on 0,.v false [.lit (.int .i64 30)]] [0,1,2] [],[]),(co 6 (.call ⟨.builtin .len, #[(.tmp 12)], #[53]⟩) 3 [on 3] [0,1,2,3,4,5] [],[]),(co 7 (.binOp .lss 3 (.tmp 11) (.tmp 13) 3) 4 [on 4,on 6] [0,1,2,3,4,5,6] [],[]),(co 8 (.indexAddr 53 (.tmp 18) (.tmp 19)) 0 [on 3,on 4] [0,1,2,3,4,5,6,7] [],[(7,0,true)]),(co 9 (.fieldAddr 60 (.tmp 20) 0) 0 [on 8] [0,1,2,3,4,5,6,7,8] [],[(7,0,true)]),(co 10 (.load 3 (.tmp 21)) 3 [on 9] [0,1,2,3,4,5,6,7,8,9] [],[(7,0,true)]),(co 11 (.indexAddr 53 (.tmp 23) (.tmp 24)) 0 [on 3,on 4] [0,1,2,3,4,5,6,7] [],[(7,0,true)]),(co 12 (.fieldAddr 60 (.tmp 25) 1) 0 [on 11] [0,1,2,3,4,5,6,7,11] [],[(7,0,true)]),(co 13 (.load 3 (.tmp 26)) 3 [on 12] [0,1,2,3,4,5,6,7,11,12] [],[(7,0,true)]),(cl 14 48 [on 10,on 13],[(7,0,true)]),(cow 15 (.call ⟨.builtin .append, #[(.tmp 17),(.tmp 29)], #[24,24]⟩) 24 [on 5,.v false [.row 0 0 1 1]] [0,1,2,3,4,5,6,7,8,9,10,11,12,13,14] [(0,43,[.an 14 0,.an 14 1,.an 14 2,.an 14 3,.an 14 4,.an 14 5])],[(7,0,true)]),(co 16 (.binOp .add 3 (.tmp 15) (.const (.int .i64 1)) 3) 3 [on 4,.v false [.lit (.int .i64 1)]] [0,1,2,3,4,5,6,7,8,9,10,11,12,13,14,15] [],[(7,0,true)])]) (js:=[.loop false 4 [(4,.v false [.lit (.int .i64 0)]),(5,.v false [.lit (.slice none 0 0)])] (List.range 4) [],.test 7 0 (List.range 8) [],.loop true 4 [(4,on 16),(5,on 15)] (List.range 17) [(7,0,true)]]) (outs:=[⟨.tup [(false,[.an 3 0]),(false,[.an 5 0])],(List.range 8),[(7,0,false)],[],[]⟩]) (nc:=17) (by kernel_rfl)
    (fun k=>⟨fun σ W g h hp hb=>fun ρ o ho _ hv=>⟨_,dC (h 0 rfl).1 ho (E6 hv) ⟨60,by kernel_rfl⟩,rfl⟩,
    fun σ W g h hp hb=>fun ρ o ho _ hv=>⟨_,lssN ho ((A0 hv).1.trans (h 1 rfl)) (A0 hv).2 (decide_eq_true (by omega)),rfl⟩,
    fun σ W g h hp hb=>fun ρ o ho _ hv=>by
     obtain ⟨u,h1,h2,h3⟩:=gs_slice (h 0 rfl).1 ho (A0 hv).1 (A0 hv).2 hbig
     exact ⟨u,h1,⟨hLe ▸ h2,fun q hq=>(h 0 rfl).2 q (h3 q hq)⟩,fun q hq=>⟨0,rfl,h3 q hq⟩⟩,
    fun σ W g h hp hb=>fun ρ o ho _ hv=>⟨_,dC (h 3 rfl).1 ho (E6 hv) ⟨60,by kernel_rfl⟩,rfl⟩,
    fun σ W g h hp hb=>fun ρ o ho _ hv=>⟨_,hr_lt ho ((A0 hv).1.trans (h 4 rfl).1) ((A0 hv).2.trans (h 6 rfl)) rfl rfl,rfl⟩,
    fun σ W g h hp hb=>fun ρ o ho _ hv=>by
     have q:=of_decide_eq_true (D8 (h 7 rfl) (hp 7 0 true rfl))
     obtain ⟨u,h1,h2,h3⟩:=gP (h 3 rfl).1 ho (A0 hv).1 k q ((A0 hv).2.trans (h 4 rfl).1)
     exact ⟨u,h1,h2,fun q hq=>⟨3,rfl,h3 q hq⟩⟩,
    fun σ W g h hp hb=>fun ρ o ho _ hv=>by
     obtain ⟨u,h1,h2,h3⟩:=gf_at (i:=0) (by omega) (h 8 rfl) ho (E6 hv)
     exact ⟨u,h1,h2,fun q hq=>⟨8,rfl,h3 q hq⟩⟩,
    fun σ W g h hp hb=>fun ρ o ho _ hv=>⟨_,eQ (h 9 rfl) ho (E6 hv),rfl⟩,
    fun σ W g h hp hb=>fun ρ o ho _ hv=>by
     have q:=of_decide_eq_true (D8 (h 7 rfl) (hp 7 0 true rfl))
     obtain ⟨u,h1,h2,h3⟩:=gP (h 3 rfl).1 ho (A0 hv).1 k q ((A0 hv).2.trans (h 4 rfl).1)
     exact ⟨u,h1,h2,fun q hq=>⟨3,rfl,h3 q hq⟩⟩,
    fun σ W g h hp hb=>fun ρ o ho _ hv=>by
     obtain ⟨u,h1,h2,h3⟩:=gf_at (i:=1) (by omega) (h 11 rfl) ho (E6 hv)
     exact ⟨u,h1,h2,fun q hq=>⟨11,rfl,h3 q hq⟩⟩,
    fun σ W g h hp hb=>fun ρ o ho _ hv=>⟨_,eQ (h 12 rfl) ho (E6 hv),rfl⟩,
    fun σ W g h hp hb=>by
     have q:=of_decide_eq_true (D8 (h 7 rfl) (hp 7 0 true rfl))
     have s:=hI _ (gg_mem q)
     exact arg2 (h 10 rfl) (h 13 rfl) (rHOf_any W _ _ s.1.1 s.1.2 s.2.1 s.2.2),
    fun σ W g h hp hb=>fun ρ o ho _ hv=>by
     have q:=of_decide_eq_true (D8 (h 7 rfl) (hp 7 0 true rfl))
     exact appS kH g rfl (m0:=5) rfl rfl (by rw [<- hrl_next q];rfl) (h 5 rfl) (iG kH (by kernel_rfl) (mE _ _ (by kernel_rfl)) (by decide) (h 5 rfl) (cs:=[σ.an 14 0, σ.an 14 1, σ.an 14 2, σ.an 14 3, σ.an 14 4, σ.an 14 5]) rfl (hb.1 _ (.head _)) (h 14 rfl) (HV.one (h 14 rfl)) (by simp [hrl];omega) g.size ho (A0 hv).1 (A0 hv).2)
      (fun m hm hne hr=>by
      match m,hm,hne,hr with
      | 0,_,_,_=>exact .inl ⟨h 0 rfl,fun q hq=>L4 (h 5 rfl) (GsV.block (h 0 rfl).1 hq)⟩
      | 1,_,_,hr=>exact absurd hr Bool.false_ne_true
      | 2,_,_,hr=>exact absurd hr Bool.false_ne_true
      | 3,_,_,_=>exact .inl ⟨h 3 rfl,fun q hq=>L4 (h 5 rfl) (GsV.block (h 3 rfl).1 hq)⟩
      | 4,_,_,hr=>exact absurd hr Bool.false_ne_true
      | 5,_,hne,_=>exact absurd rfl hne
      | 6,_,_,hr=>exact absurd hr Bool.false_ne_true
      | 7,_,_,hr=>exact absurd hr Bool.false_ne_true
      | 8,_,_,_=>exact .inl ⟨h 8 rfl,fun q hq=>L4 (h 5 rfl) (GaV.block (h 8 rfl) hq)⟩
      | 9,_,_,_=>exact .inl ⟨h 9 rfl,fun q hq=>L4 (h 5 rfl) (GfV.block (h 9 rfl) hq)⟩
      | 10,_,_,hr=>exact absurd hr Bool.false_ne_true
      | 11,_,_,_=>exact .inl ⟨h 11 rfl,fun q hq=>L4 (h 5 rfl) (GaV.block (h 11 rfl) hq)⟩
      | 12,_,_,_=>exact .inl ⟨h 12 rfl,fun q hq=>L4 (h 5 rfl) (GfV.block (h 12 rfl) hq)⟩
      | 13,_,_,hr=>exact absurd hr Bool.false_ne_true
      | 14,_,_,hr=>exact absurd hr Bool.false_ne_true
      | j+15,hm,_,_=>exact absurd hm (by simp)),
    fun σ W g h hp hb=>fun ρ o ho _ hv=>by
     have q:=of_decide_eq_true (D8 (h 7 rfl) (hp 7 0 true rfl))
     exact ⟨_,B8 ho ((A0 hv).1.trans (h 4 rfl).1) (A0 hv).2 (P8 (by omega) (by omega)),rfl⟩,
    trivial⟩)
    (fun k=>⟨fun σ W g h hp=>⟨0,(fun e=>nomatch e),⟨rfl,fun m hm=>(if_neg (by omega)).trans (if_neg (by omega)).symm⟩,⟨rfl,by omega⟩,⟨OwV.nil kH _ _,fun q hq=>by cases hq⟩,trivial⟩,
    fun σ W g h hp=>⟨_,h 7 rfl⟩,
    fun σ W g h hp=>by
     have q:=of_decide_eq_true (D8 (h 7 rfl) (hp 7 0 true rfl))
     exact ⟨k+1,fun _=>by show (if 4=4 then L.length-(k+1) else 0)<(if 4=4 then L.length-k else 0);rw [if_pos rfl,if_pos rfl];omega,⟨rfl,fun m hm=>(if_neg (by omega)).trans (if_neg (by omega)).symm⟩,⟨(h 16 rfl).trans (by push_cast;rfl),by omega⟩,⟨h 15 rfl,fun q hq=>⟨15,rfl,hq⟩⟩,trivial⟩,
    trivial⟩)
    (fun k hk=>⟨fun τ W g h hp hb=>by
     have q:=of_decide_eq_false (D8 (h 7 rfl) (hp 7 0 false rfl))
     have hk3:k<=L.length:=(h 4 rfl).2
     have ho:OwV kH w.heap.size W (τ.an 5 0) (hrl (L.take k)):=h 5 rfl
     rw [List.take_of_length_le (by omega)] at ho
     exact ⟨_,_,rfl,(h 3 rfl).1,(h 3 rfl).2,ho.hr,ho.freshH,g⟩,
    trivial⟩)
theorem PtsV.cell {w:World} {v:Value} {l:List Pq} (h:PtsV w v l):v.oneCell'=true:=by obtain ⟨s,n,c,rfl,_⟩:=h;rfl
end Go.Proofs.YtninnifpgpjfhaaGreatDoor
