/- What the laws lean on, part 11. -/
import Derived.Below
import Derived.BigCall
import Derived.BigQuiet
import Derived.BigRegion
import Derived.Deep.AppendLies
import Derived.Deep.CutBlock
import Derived.Deep.CutRange
import Derived.Deep.DeepCutAuto
import Derived.Deep.DeepHandedRow
import Derived.Deep.LoopGhost
import Derived.Deep.MidRow
import Derived.Deep.QuietTactic
import Derived.Deep.RegionHeld3
import Derived.Deep.RegionLaw
import Derived.Deep.WholeRow
import Derived.Laws.AppendOwn
import Derived.Laws.Concat
import Derived.Laws.CopyOwn
import Derived.Laws.Externs
import Derived.Laws.IdiomStrings
import Derived.Lib.BitFns
import Derived.Lib.Bytealg
import Derived.Lib.Hide
import Derived.Lib.Slices
import Derived.Lib.Small
import Derived.Lib.Strings
import Derived.Lib.Walk
import Derived.LoopN
import Derived.Maps.AppendAt
import Derived.OpenShut
import Derived.OrdersHeld
import Derived.OrdersIn
import Derived.Outline
import Derived.OwnWalk
import Derived.ProofKit
import Derived.RangeFuncCalls
import Derived.RangeFuncNested
import Derived.RangeFuncOwn
import Derived.Shelf.Bits.Mul64
import Derived.Shelf.Spec.TrailingZeros
import Derived.StillTailTactics
import Derived.WalkKit
import Derived.WalkLawsBesides
import Derived.WalkSpells
import Derived.Test.YtninnifpgpjfhaaGreatDoorProg
import Derived.Test.YtninnifpgpjfhaaGreatDoorRows
import Derived.Test.YtninnifpgpjfhaaGreatDoorMc10
set_option linter.unusedVariables false
set_option linter.unusedSimpArgs false
set_option maxRecDepth 100000
namespace Go.Proofs.YtninnifpgpjfhaaGreatDoor
open Go.RowKit Mat Ex
theorem info_k (t:TypeId) (n:Nat) (h:(Tryz.prog.info? t).any (fun i=>decide (i.size=n) && decide (i.bytes<=1000000) && match i.zero with | some z=>decide (z.cells.size=n) | none=>false)=true) :
 ∃ i z,Tryz.prog.info? t=some i/\i.zero=some z/\i.size=n/\i.bytes<=1000000/\z.cells.size=n:=by
 cases hi:Tryz.prog.info? t with
 | none=>rw [hi] at h;cases h
 | some i=>
   rw [hi] at h
   simp only [Option.any_some,Bool.and_eq_true,decide_eq_true_eq] at h
   cases hz:i.zero with
   | none=>rw [hz] at h;exact absurd h.2 (by simp)
   | some z=>rw [hz] at h;exact ⟨i,z,rfl,hz,h.1.1,h.1.2,by simpa using h.2⟩
theorem iW {α : Type} (kd:dY α) {t:TypeId} (ht:Tryz.prog.underlying t=some (.slice kd.T)) (hi:∃ i z,Tryz.prog.info? kd.T=some i/\i.zero=some z/\i.size=kd.z/\i.bytes<=1000000/\z.cells.size=kd.z) (hsz : 0<kd.z)
 {W:World} {base:Nat} {v:Value} {l:List α} (h:OwV kd base W v l) {x : α} {q c:Nat} {cs:List Value} (hc:cs.length=kd.z) (hq:W.heap[q]?=some (.cells cs.toArray kd.T (0,0))) (hx:kd.A W cs x)
 (h1:∀ u ∈ cs,u.oneCell'=true) (hn:l.length+1<=1000000) (hbase:base<=W.heap.size) {ρ : Operand->Value} {o:Oper} {a b:Operand} (ho:o.op = .call ⟨.builtin .append, #[a,b], #[t,t]⟩) (ha : ρ a=v) (hbv : ρ b = .slice (some ⟨q,0,none⟩) 1 c) :
 ∃ v' W',(execOp ρ o).run Tryz.prog W = .ok (.value v') W'/\OwV kd base W' v' (l++[x])/\OwV kd base W' v l/\AppW base v v' W W'/\Keeps G9 W W'/\Older kd base W W' v l:=by
 obtain ⟨i,z,i1,i2,i3,i4,i5⟩:=hi
 exact jX kd ht i1 i2 i3 rfl i5 hsz h hc hq hx h1 hn i4 hbase ho ha hbv
theorem appS {α : Type} (kd:dY α) {specs:List Sp} {w W:World} {av:List Nat} {σ : Env} {n m0:Nat} {v:Value} {l:List α} {x : α} {run:Value->World->Prop} (g:w.grownBy W none) (hm0:av.elem m0=true) (hs0:sp specs m0=sOw kd w.heap.size l)
 (hv0 : σ.an m0 0=v) (hsn:sp specs n=sOw kd w.heap.size (l++[x])) (h:OwV kd w.heap.size W v l)
 (hr:∃ v' W',run v' W'/\OwV kd w.heap.size W' v' (l++[x])/\OwV kd w.heap.size W' v l/\AppW w.heap.size v v' W W'/\Keeps G9 W W'/\Older kd w.heap.size W W' v l)
 (hrows:∀ m,av.elem m=true->m≠m0->(sp specs m).row=true->((sp specs m).F (((sp specs m).sh.sv m).den σ) W /\ ∀ q,(sp specs m).fp (((sp specs m).sh.sv m).den σ) W q->v.ownBlock≠some q)\/(∃ l',sp specs m=sOw kd w.heap.size l'/\l'.length<=l.length/\OwV kd w.heap.size W (σ.an m 0) l')) :
 AppS specs w av σ W n run:=by
 obtain ⟨v',W',hrun,o1,o2,⟨hg,hv'⟩,hkp,hod⟩:=hr
 have hden:((sp specs m0).sh.sv m0).den σ=v:=by rw [hs0];exact hv0
 have hold:∀ q,v.ownBlock=some q->kD specs av σ W q:=fun q hq=>⟨m0,hm0,by rw [hs0];show (σ.an m0 0).ownBlock=some q;rw [hv0];exact hq⟩
 refine ⟨v',W',hrun,⟨⟨hg.os.trans g.os,hg.tape.trans g.tape,hg.output.trans g.output,Nat.le_trans g.size hg.size,fun i hi hne=>?_⟩,hg.size,fun q hq ho=>hg.block q hq fun e=>ho (hold q e.symm),KeepsOthers.of_grownBy hg fun j o e hj=>by obtain ⟨_,_,c,hc⟩:=h.inb e;rw [hc] at hj;cases hj;rfl⟩,hkp,by rw [hsn];exact o1,fun q hq=>?_,fun m hm hr=>?_⟩
 · rw [hg.block i (Nat.lt_of_lt_of_le hi g.size) fun e=>?_,g.block i hi hne]
   have:=(h.inb e.symm).2.1;omega
 · rw [hsn] at hq
   have hq:v'.ownBlock=some q:=hq
   rcases hv' with e | e
   · exact .inr (hold q (e ▸ hq))
   · rw [e] at hq;cases hq;exact .inl (Nat.le_refl _)
 · by_cases hm0':m=m0
   · subst hm0'
     refine ⟨by rw [hden,hs0];exact o2,fun q hq=>?_⟩
     rw [hden,hs0] at hq ⊢;exact hq
   · rcases hrows m hm hm0' hr with ⟨hF,hne⟩ | ⟨l',hs',hl',ho'⟩
     rotate_left
     · by_cases hb:(σ.an m 0).ownBlock=v.ownBlock
       · refine ⟨by rw [hs'];exact hod _ _ ho' hl' hb,fun q hq=>?_⟩
         rw [hs'] at hq ⊢;exact hq
       · rw [hs']
         refine (sOw kd w.heap.size l').lasts _ W W' hkp (fun q hq=>hg.block q (ho'.inb hq).1 fun e=>hb ?_) ho'
         have hq:(σ.an m 0).ownBlock=some q:=hq
         rw [hq];exact e.symm ▸ rfl
     refine (sp specs m).lasts _ W W' hkp (fun q hq=>hg.block q ((sp specs m).inb _ _ hF q hq) fun e=>hne q hq e.symm) hF
end Go.Proofs.YtninnifpgpjfhaaGreatDoor
namespace Go.Proofs.YtninnifpgpjfhaaGreatDoor
open Go.RowKit Mat Ex PM
theorem O8 {P:Program} {ρ : Operand->Value} {o:Oper} {t t':TypeId} {x y:Operand} {a:Int} {W:World} (b:Bool) (ho:o.op = .binOp .gtr t x y t') (hx : ρ x = .int .i64 a) (hy : ρ y = .int .i64 0) (h:decide (0<a)=b):(execOp ρ o).run P W = .ok (.value (.bool b)) W:=
 B9 ho hx hy (by rw [<- h];rfl)
theorem O7 {P:Program} {ρ : Operand->Value} {o:Oper} {t t':TypeId} {x y:Operand} {a:Int} {W:World} (b:Bool) (ho:o.op = .binOp .leq t x y t') (hx : ρ x = .int .i64 a) (hy : ρ y = .int .i64 0) (h:decide (a<=0)=b):(execOp ρ o).run P W = .ok (.value (.bool b)) W:=
 B9 ho hx hy (by rw [<- h];rfl)
theorem E7 {P:Program} {ρ : Operand->Value} {o:Oper} {t t':TypeId} {x y:Operand} {a c:Int} {W:World} (b:Bool) (ho:o.op = .binOp .eql t x y t') (hx : ρ x = .int .i64 a) (hy : ρ y = .int .i64 c) (h:decide (a=c)=b):(execOp ρ o).run P W = .ok (.value (.bool b)) W:=
 B9 ho hx hy (by rw [<- h,show decide (a=c)=(a == c) from (Bool.beq_eq_decide_eq a c).symm];rfl)
theorem N2 {P:Program} {ρ : Operand->Value} {o:Oper} {t t':TypeId} {x y:Operand} {a c:Int} {W:World} (b:Bool) (ho:o.op = .binOp .neq t x y t') (hx : ρ x = .int .i64 a) (hy : ρ y = .int .i64 c) (h:decide (a=c) = !b):(execOp ρ o).run P W = .ok (.value (.bool b)) W:=
 B9 ho hx hy (by rw [show b = !decide (a=c) by rw [h,Bool.not_not],show decide (a=c)=(a == c) from (Bool.beq_eq_decide_eq a c).symm];rfl)
theorem b1int {n:Int} (h1 : -9223372036854775808<=n) (h2:n<=9223372036854775807):n.natAbs<B^1:=by
 have:(18446744073709551616:Nat)=B^1:=by unfold B;decide
 omega
def sPI (x y:Int):Sp := .of (.agg 2) (fun v _=>v = .agg #[.int .i64 x,.int .i64 y]) (fun v W h=>⟨D6 [.int .i64 x,.int .i64 y],A9 (by simp [Value.oneCell']),h⟩) (fun _ _ _ _ h=>h)
theorem pi1 {x y:Int} {a b:Value} {W:World} : (sPI x y).F (.agg #[a,b]) W->a = .int .i64 x:=fun h=>by cases h;rfl
theorem pi2 {x y:Int} {a b:Value} {W:World} : (sPI x y).F (.agg #[a,b]) W->b = .int .i64 y:=fun h=>by cases h;rfl
def E4 (x y:Int):Pq:=((x:Rat),(y:Rat))
theorem jL (w:World) (n:Int) (h1 : -9223372036854775808<=n) (h2:n<=9223372036854775807) :
 Calls Tryz.prog 37 #[.int .i64 n] w (S1 w (n:Rat)):=by
 refine A5 B1 Tryz.func37 [sZ n] [sI n,sQ (n:Rat)] (.cons rfl .nil) (rs:=[cl 1 64 [on 0],cl 2 82 [ag 2 1]]) (out:=ag 4 2) (nc:=3) (by kernel_rfl)
  ⟨fun σ W g h hb=>arg1 (h 0 rfl) (aM W n h1 h2),
  fun σ W g h hb=>nJ W _ n 1 (h 1 rfl) (by omega) (b1int h1 h2),
  trivial⟩ fun τ W g h=>⟨_,rfl,h 2 rfl,g⟩
theorem K9 (w:World) (x y:Int) (h1 : -9223372036854775808<=x) (h2:x<=9223372036854775807) (h3 : -9223372036854775808<=y) (h4:y<=9223372036854775807) :
 Calls Tryz.prog 25 #[.agg #[.int .i64 x,.int .i64 y]] w (RetPt w (E4 x y)):=by
 refine A5 B1 Tryz.func25 [sPI x y] [sQ (x:Rat),sQ (y:Rat)] (.cons rfl .nil) (rs:=[cl 1 37 [on 0],cl 2 37 [.v false [.an 0 1]]]) (out := .v true [.an 1 0,.an 1 1,.an 1 2,.an 1 3,.an 2 0,.an 2 1,.an 2 2,.an 2 3]) (nc:=3) (by kernel_rfl)
  ⟨fun σ W g h hb=>arg1 (pi1 (h 0 rfl)) (jL W x h1 h2),
  fun σ W g h hb=>arg1 (pi2 (h 0 rfl)) (jL W y h3 h4),
  trivial⟩ fun τ W g h=>⟨_,rfl,mkpt (h 1 rfl) (h 2 rfl),g⟩
theorem jM (w:World) (va vb:Value) (p q:Pq) (K:Nat) (Ha:PtV w va p) (Hb:PtV w vb q) (hK:K<=100000) (ba:Bp K p) (bb:Bp K q) (hTab:Tab w) :
 Calls Tryz.prog 112 #[va,vb] w (RetPt w (p.1-q.1,p.2-q.2)):=by
 refine A5 B1 Tryz.func112 [sPt p,sPt q] [sQ (p.1-q.1),sQ (p.2-q.2)] (.cons Ha (.cons Hb .nil)) (rs:=[cl 2 79 [ag 4 0,ag 4 1],cl 3 79 [.v true [.an 0 4,.an 0 5,.an 0 6,.an 0 7],.v true [.an 1 4,.an 1 5,.an 1 6,.an 1 7]]]) (out := .v true [.an 2 0,.an 2 1,.an 2 2,.an 2 3,.an 3 0,.an 3 1,.an 3 2,.an 3 3]) (nc:=4) (by kernel_rfl)
  ⟨fun σ W g h hb=>jQ W _ _ p.1 q.1 K (pt1 (h 0 rfl)) (pt1 (h 1 rfl)) (by omega) ba.1.1 ba.1.2 bb.1.1 bb.1.2 (hTab.kept g (by simp)),
  fun σ W g h hb=>jQ W _ _ p.2 q.2 K (pt2 (h 0 rfl)) (pt2 (h 1 rfl)) (by omega) ba.2.1 ba.2.2 bb.2.1 bb.2.2 (hTab.kept g (by simp)),
  trivial⟩ fun τ W g h=>⟨_,rfl,mkpt (h 2 rfl) (h 3 rfl),g⟩
theorem Bp.nil {K:Nat} (hK : 1<=K):Bp K ((0:Rat),(0:Rat)):=⟨.zero hK,.zero hK⟩
theorem PXross_any (w:World) (va vb:Value) (p q:Pq) (K:Nat) (Ha:PtV w va p) (Hb:PtV w vb q) (hK:K<=100000) (ba:Bp K p) (bb:Bp K q) (hTab:Tab w) :
 Calls Tryz.prog 35 #[va,vb] w (S1 w (p.1*q.2-p.2*q.1)):=by
 refine A5 B1 Tryz.func35 [sPt p,sPt q] [sQ (p.1*q.2),sQ (p.2*q.1),sQ (p.1*q.2-p.2*q.1)] (.cons Ha (.cons Hb .nil)) (rs:=[cl 2 78 [ag 4 0,.v true [.an 1 4,.an 1 5,.an 1 6,.an 1 7]],cl 3 78 [.v true [.an 0 4,.an 0 5,.an 0 6,.an 0 7],ag 4 1],cl 4 79 [ag 4 2,ag 4 3]]) (out:=ag 4 4) (nc:=5) (by kernel_rfl)
  ⟨fun σ W g h hb=>cU W _ _ (p.1) (q.2) K (pt1 (h 0 rfl)) (pt2 (h 1 rfl)) (by omega) ba.1.1 ba.1.2 bb.2.1 bb.2.2 (hTab.kept g (by simp)),
  fun σ W g h hb=>cU W _ _ (p.2) (q.1) K (pt2 (h 0 rfl)) (pt1 (h 1 rfl)) (by omega) ba.2.1 ba.2.2 bb.1.1 bb.1.2 (hTab.kept g (by simp)),
  fun σ W g h hb=>jQ W _ _ (p.1*q.2) (p.2*q.1) (K+K) (h 2 rfl) (h 3 rfl) (by omega) (ba.1.mul bb.2).1 (ba.1.mul bb.2).2 (ba.2.mul bb.1).1 (ba.2.mul bb.1).2 (hTab.kept g (by simp)),
  trivial⟩ fun τ W g h=>⟨_,rfl,h 4 rfl,g⟩
theorem Bp.sub {K:Nat} {p q:Pq} (h:Bp K p) (h':Bp K q):Bp (K+K+1) (p.1-q.1,p.2-q.2):=⟨h.1.sub h'.1,h.2.sub h'.2⟩
theorem PCross_any (w:World) (va vb vc:Value) (a b c:Pq) (K:Nat) (Ha:PtV w va a) (Hb:PtV w vb b) (Hc:PtV w vc c) (hK:K<=10000) (ba:Bp K a) (bb:Bp K b) (bc:Bp K c) (hTab:Tab w) :
 Calls Tryz.prog 109 #[va,vb,vc] w (S1 w (B5 a b c)):=by
 refine A5 B1 Tryz.func109 [sPt a,sPt b,sPt c] [sPt (b.1-a.1,b.2-a.2),sPt (c.1-a.1,c.2-a.2),sQ (B5 a b c)] (.cons Ha (.cons Hb (.cons Hc .nil))) (rs:=[cl 3 112 [ag 8 1,ag 8 0],cl 4 112 [ag 8 2,ag 8 0],cl 5 35 [ag 8 3,ag 8 4]]) (out:=ag 4 5) (nc:=6) (by kernel_rfl)
  ⟨fun σ W g h hb=>jM W _ _ b a K (h 1 rfl) (h 0 rfl) (by omega) bb ba (hTab.kept g (by simp)),
  fun σ W g h hb=>jM W _ _ c a K (h 2 rfl) (h 0 rfl) (by omega) bc ba (hTab.kept g (by simp)),
  fun σ W g h hb=>PXross_any W _ _ _ _ (K+K+1) (h 3 rfl) (h 4 rfl) (by omega) (bb.sub ba) (bc.sub ba) (hTab.kept g (by simp)),
  trivial⟩ fun τ W g h=>⟨_,rfl,h 5 rfl,g⟩
theorem aN (w:World) (va vb vc:Value) (a b c:Pq) (K:Nat) (Ha:PtV w va a) (Hb:PtV w vb b) (Hc:PtV w vc c) (hK:K<=10000) (ba:Bp K a) (bb:Bp K b) (bc:Bp K c) (hTab:Tab w) :
 Calls Tryz.prog 93 #[va,vb,vc] w (fun e w'=>e = .returned (.int .i64 (rsg (B5 a b c)))/\w.grownBy w' none):=by
 refine A5 B1 Tryz.func93 [sPt a,sPt b,sPt c] [sQ (B5 a b c),sZ (rsg (B5 a b c))] (.cons Ha (.cons Hb (.cons Hc .nil))) (rs:=[cl 3 109 [ag 8 0,ag 8 1,ag 8 2],cl 4 71 [ag 4 3]]) (out:=on 4) (nc:=5) (by kernel_rfl)
  ⟨fun σ W g h hb=>PCross_any W _ _ _ a b c K (h 0 rfl) (h 1 rfl) (h 2 rfl) hK ba bb bc (hTab.kept g (by simp)),
  fun σ W g h hb=>toZ (FSign_any W _ _ (8*K+5) (h 3 rfl) (by omega) (ba.cross bb bc).1) rfl,
  trivial⟩ fun τ W g h=>⟨congrArg Ending.returned (h 4 rfl),g⟩
theorem PFirst_any (w:World) (p:Nat) (i j:Int) (Bq:w.heap[p]?=some (.cells #[.int .i64 i,.int .i64 j] 3 (0,0))) :
 Calls Tryz.prog 97 #[.slice (some ⟨p,0,none⟩) 2 2] w (fun e w'=>e = .returned (.int .i64 (if i=0 then j else i))/\w.grownBy w' none):=by
 rcases (show i≠0\/(i=0/\j≠0)\/(i=0/\j=0) by omega) with h1 | ⟨h1,h2⟩ | ⟨h1,h2⟩
 · rw [if_neg h1]
   exact I0 B1 Tryz.func97 [sZ i,sZ j,sV (.bool true)] 2 [.v false [.row 0 0 2 2]] [(3,[.an 0 0,.an 1 0])] (rs:=[co 2 (.binOp .neq 3 (.tmp 11) (.const (.int .i64 0)) 3) 4 [on 0,.v false [.lit (.int .i64 0)]] [0,1] []]) (out:=on 0) (nc:=3) (by kernel_rfl) w
    ⟨fun n=>match n with | 0=>D6 [.int .i64 i] | 1=>D6 [.int .i64 j] | _=>fun _ => .bool false,fun b=>match b with | 0=>p | _=>0,fun _=>undef⟩
    (fun n c=>match n with
     | 0=>A9 (by simp [Value.oneCell']) c
     | 1=>A9 (by simp [Value.oneCell']) c
     | _+2=>rfl)
    (fun b q hq=>match b,q,hq with
     | 0,_,rfl=>Bq
     | _+1,_,hq=>nomatch hq)
    (fun b c hb hc hq=>match b,c,hb,hc with
     | 0,0,_,_=>rfl
     | _+1,_,hb,_=>absurd hb (by simp)
     | _,_+1,_,hc=>absurd hc (by simp))
    (fun jn hn=>match jn,hn with
     | 0,_=>rfl
     | 1,_=>rfl
     | _+2,hn=>absurd hn (by omega))
    ⟨fun σ W g h hb=>fun ρ o ho _ hv=>⟨_,N2 true ho ((A0 hv).1.trans (h 0 rfl)) (A0 hv).2 (decide_eq_false h1),rfl⟩,
    trivial⟩ _ fun τ W g h=>⟨congrArg Ending.returned (h 0 rfl),g⟩
 · rw [if_pos h1]
   exact I0 B1 Tryz.func97 [sZ i,sZ j,sV (.bool false),sV (.bool true)] 2 [.v false [.row 0 0 2 2]] [(3,[.an 0 0,.an 1 0])] (rs:=[co 2 (.binOp .neq 3 (.tmp 11) (.const (.int .i64 0)) 3) 4 [on 0,.v false [.lit (.int .i64 0)]] [0,1] [],co 3 (.binOp .neq 3 (.tmp 11) (.const (.int .i64 0)) 3) 4 [on 1,.v false [.lit (.int .i64 0)]] [0,1,2] []]) (out:=on 1) (nc:=4) (by kernel_rfl) w
    ⟨fun n=>match n with | 0=>D6 [.int .i64 i] | 1=>D6 [.int .i64 j] | _=>fun _ => .bool false,fun b=>match b with | 0=>p | _=>0,fun _=>undef⟩
    (fun n c=>match n with
     | 0=>A9 (by simp [Value.oneCell']) c
     | 1=>A9 (by simp [Value.oneCell']) c
     | _+2=>rfl)
    (fun b q hq=>match b,q,hq with
     | 0,_,rfl=>Bq
     | _+1,_,hq=>nomatch hq)
    (fun b c hb hc hq=>match b,c,hb,hc with
     | 0,0,_,_=>rfl
     | _+1,_,hb,_=>absurd hb (by simp)
     | _,_+1,_,hc=>absurd hc (by simp))
    (fun jn hn=>match jn,hn with
     | 0,_=>rfl
     | 1,_=>rfl
     | _+2,hn=>absurd hn (by omega))
    ⟨fun σ W g h hb=>fun ρ o ho _ hv=>⟨_,N2 false ho ((A0 hv).1.trans (h 0 rfl)) (A0 hv).2 (decide_eq_true h1),rfl⟩,
    fun σ W g h hb=>fun ρ o ho _ hv=>⟨_,N2 true ho ((A0 hv).1.trans (h 1 rfl)) (A0 hv).2 (decide_eq_false h2),rfl⟩,
    trivial⟩ _ fun τ W g h=>⟨congrArg Ending.returned (h 1 rfl),g⟩
 · rw [if_pos h1,h2]
   exact I0 B1 Tryz.func97 [sZ i,sZ j,sV (.bool false),sV (.bool false)] 2 [.v false [.row 0 0 2 2]] [(3,[.an 0 0,.an 1 0])] (rs:=[co 2 (.binOp .neq 3 (.tmp 11) (.const (.int .i64 0)) 3) 4 [on 0,.v false [.lit (.int .i64 0)]] [0,1] [],co 3 (.binOp .neq 3 (.tmp 11) (.const (.int .i64 0)) 3) 4 [on 1,.v false [.lit (.int .i64 0)]] [0,1,2] []]) (out := .v false [.lit (.int .i64 0)]) (nc:=4) (by kernel_rfl) w
    ⟨fun n=>match n with | 0=>D6 [.int .i64 i] | 1=>D6 [.int .i64 j] | _=>fun _ => .bool false,fun b=>match b with | 0=>p | _=>0,fun _=>undef⟩
    (fun n c=>match n with
     | 0=>A9 (by simp [Value.oneCell']) c
     | 1=>A9 (by simp [Value.oneCell']) c
     | _+2=>rfl)
    (fun b q hq=>match b,q,hq with
     | 0,_,rfl=>Bq
     | _+1,_,hq=>nomatch hq)
    (fun b c hb hc hq=>match b,c,hb,hc with
     | 0,0,_,_=>rfl
     | _+1,_,hb,_=>absurd hb (by simp)
     | _,_+1,_,hc=>absurd hc (by simp))
    (fun jn hn=>match jn,hn with
     | 0,_=>rfl
     | 1,_=>rfl
     | _+2,hn=>absurd hn (by omega))
    ⟨fun σ W g h hb=>fun ρ o ho _ hv=>⟨_,N2 false ho ((A0 hv).1.trans (h 0 rfl)) (A0 hv).2 (decide_eq_true h1),rfl⟩,
    fun σ W g h hb=>fun ρ o ho _ hv=>⟨_,N2 false ho ((A0 hv).1.trans (h 1 rfl)) (A0 hv).2 (decide_eq_true h2),rfl⟩,
    trivial⟩ _ fun τ W g h=>⟨rfl,g⟩
theorem I5 (w:World) (va vb:Value) (p q:Pq) (K:Nat) (Ha:PtV w va p) (Hb:PtV w vb q) (hK:K<=100000) (ba:Bp K p) (bb:Bp K q) :
 Calls Tryz.prog 55 #[va,vb] w (fun e w'=>e = .returned (.int .i64 (F0 p q))/\w.grownBy w' none):=by
 refine A5 B1 Tryz.func55 [sPt p,sPt q] [sZ (G3 p.1 q.1),sZ (G3 p.2 q.2),sZ (F0 p q)] (.cons Ha (.cons Hb .nil)) (rs:=[cl 2 96 [ag 4 0,ag 4 1],cl 3 96 [.v true [.an 0 4,.an 0 5,.an 0 6,.an 0 7],.v true [.an 1 4,.an 1 5,.an 1 6,.an 1 7]],clb 4 97 [.v false [.row 2 0 2 2]] [0,1,2,3] [(2,3,[.an 2 0,.an 3 0])]]) (out:=on 4) (nc:=5) (by kernel_rfl)
  ⟨fun σ W g h hb=>toZ (T7 W _ _ p.1 q.1 K (pt1 (h 0 rfl)) (pt1 (h 1 rfl)) (by omega) ba.1.1 ba.1.2 bb.1.1 bb.1.2) rfl,
  fun σ W g h hb=>toZ (T7 W _ _ p.2 q.2 K (pt2 (h 0 rfl)) (pt2 (h 1 rfl)) (by omega) ba.2.1 ba.2.2 bb.2.1 bb.2.2) rfl,
  fun σ W g h hb=>toZ (PFirst_any W _ _ _ (by
   have e1 : σ.an 2 0 = .int .i64 (G3 p.1 q.1):=h 2 rfl
   have e2 : σ.an 3 0 = .int .i64 (G3 p.2 q.2):=h 3 rfl
   rw [<- e1, <- e2];exact hb.1 _ (.head _))) rfl,
  trivial⟩ fun τ W g h=>⟨congrArg Ending.returned (h 4 rfl),g⟩
theorem ends_le {a b:Pq} (h:ple a b):lo a b=a/\hi a b=b:=by unfold lo hi;simp [h]
theorem ends_gt {a b:Pq} (h:¬ ple a b):lo a b=b/\hi a b=a:=by unfold lo hi;simp [h]
theorem pgt {a b:Pq} : ¬ ple a b ↔ 0<F0 a b:=by rw [<- pcmp_le];omega
theorem Bp.lo {K:Nat} {a b:Pq} (h:Bp K a) (h':Bp K b):Bp K (lo a b):=by rcases lo_or a b with e | e<;>rw [e]<;>assumption
theorem Bp.hi {K:Nat} {a b:Pq} (h:Bp K a) (h':Bp K b):Bp K (hi a b):=by rcases hi_or a b with e | e<;>rw [e]<;>assumption
theorem Bp.max {K:Nat} {a b:Pq} (h:Bp K a) (h':Bp K b):Bp K (pmax a b):=by rcases pmax_or a b with e | e<;>rw [e]<;>assumption
theorem Bp.min {K:Nat} {a b:Pq} (h:Bp K a) (h':Bp K b):Bp K (pmin a b):=by rcases pmin_or a b with e | e<;>rw [e]<;>assumption
theorem aO (w:World) (va:Value) (a b:Pq) (K:Nat) (Ha:SgV w va a b) (hK : 1<=K/\K<=10000) (ba:Bp K a) (bb:Bp K b) :
 Calls Tryz.prog 92 #[va] w (RetPP w (lo a b) (hi a b)):=by
 by_cases h1:ple a b
 · skip
   rw [(ends_le h1).1,(ends_le h1).2]
   refine A5 B1 Tryz.func92 [sSg a b] [sZ (F0 a b),sV (.bool false)] (.cons Ha .nil) (rs:=[cl 1 55 [ag 8 0,.v true [.an 0 8,.an 0 9,.an 0 10,.an 0 11,.an 0 12,.an 0 13,.an 0 14,.an 0 15]],co 2 (.binOp .gtr 3 (.tmp 8) (.const (.int .i64 0)) 3) 4 [on 1,.v false [.lit (.int .i64 0)]] [0,1] []]) (out := .tup [(true,[.an 0 0,.an 0 1,.an 0 2,.an 0 3,.an 0 4,.an 0 5,.an 0 6,.an 0 7]),(true,[.an 0 8,.an 0 9,.an 0 10,.an 0 11,.an 0 12,.an 0 13,.an 0 14,.an 0 15])]) (nc:=3) (by kernel_rfl)
    ⟨fun σ W g h hb=>toZ (I5 W _ _ a b K (sg1 (h 0 rfl)) (sg2 (h 0 rfl)) (by omega) ba bb) rfl,
    fun σ W g h hb=>fun ρ o ho _ hv=>⟨_,O8 false ho ((A0 hv).1.trans (h 1 rfl)) (A0 hv).2 (decide_eq_false (by have:=pcmp_le.2 h1;omega)),rfl⟩,
    trivial⟩ fun τ W g h=>⟨_,_,rfl,sg1 (h 0 rfl),sg2 (h 0 rfl),g⟩
 · skip
   rw [(ends_gt h1).1,(ends_gt h1).2]
   refine A5 B1 Tryz.func92 [sSg a b] [sZ (F0 a b),sV (.bool true)] (.cons Ha .nil) (rs:=[cl 1 55 [ag 8 0,.v true [.an 0 8,.an 0 9,.an 0 10,.an 0 11,.an 0 12,.an 0 13,.an 0 14,.an 0 15]],co 2 (.binOp .gtr 3 (.tmp 8) (.const (.int .i64 0)) 3) 4 [on 1,.v false [.lit (.int .i64 0)]] [0,1] []]) (out := .tup [(true,[.an 0 8,.an 0 9,.an 0 10,.an 0 11,.an 0 12,.an 0 13,.an 0 14,.an 0 15]),(true,[.an 0 0,.an 0 1,.an 0 2,.an 0 3,.an 0 4,.an 0 5,.an 0 6,.an 0 7])]) (nc:=3) (by kernel_rfl)
    ⟨fun σ W g h hb=>toZ (I5 W _ _ a b K (sg1 (h 0 rfl)) (sg2 (h 0 rfl)) (by omega) ba bb) rfl,
    fun σ W g h hb=>fun ρ o ho _ hv=>⟨_,O8 true ho ((A0 hv).1.trans (h 1 rfl)) (A0 hv).2 (decide_eq_true (pgt.1 h1)),rfl⟩,
    trivial⟩ fun τ W g h=>⟨_,_,rfl,sg2 (h 0 rfl),sg1 (h 0 rfl),g⟩
noncomputable def dec (p:Prop):Bool:=open Classical in decide p
theorem iQ {p:Prop} (h:p):dec p=true:=by unfold dec;simp [h]
theorem X5 {p:Prop} (h:¬ p):dec p=false:=by unfold dec;simp [h]
theorem Bp.one {K:Nat} {a:Pq} (h:Bp K a):Bn K a.1/\Bn K a.2:=h
theorem POn_any (w:World) (va vb:Value) (a b p:Pq) (K:Nat) (Ha:SgV w va a b) (Hb:PtV w vb p) (hK : 1<=K/\K<=10000) (ba:Bp K a) (bb:Bp K b) (bp:Bp K p) (hTab:Tab w) :
 Calls Tryz.prog 50 #[va,vb] w (RetB w (dec (InS a b p))):=by
 rcases (show ¬ ple (lo a b) p\/(ple (lo a b) p /\ ¬ ple p (hi a b))\/(ple (lo a b) p/\ple p (hi a b)/\B5 a b p≠0)\/(ple (lo a b) p/\ple p (hi a b)/\B5 a b p=0) by grind) with h1 | ⟨h1,h2⟩ | ⟨h1,h2,h3⟩ | ⟨h1,h2,h3⟩
 · skip
   rw [X5 (fun q=>h1 (ins_prog.1 q).1)]
   refine A5 B1 Tryz.func50 [sSg a b,sPt p] [sPP (lo a b) (hi a b),sZ (F0 (lo a b) p),sV (.bool false)] (.cons Ha (.cons Hb .nil)) (rs:=[cl 2 92 [ag 16 0],cl 3 55 [ag 8 2,ag 8 1],co 4 (.binOp .leq 3 (.tmp 14) (.const (.int .i64 0)) 3) 4 [on 3,.v false [.lit (.int .i64 0)]] [0,1,2,3] []]) (out := .v false [.lit (.bool false)]) (nc:=5) (by kernel_rfl)
    ⟨fun σ W g h hb=>toPP (aO W _ a b K (h 0 rfl) hK ba bb),
    fun σ W g h hb=>toZ (I5 W _ _ (lo a b) p K (pp1 (h 2 rfl)) (h 1 rfl) (by omega) (ba.lo bb) bp) rfl,
    fun σ W g h hb=>fun ρ o ho _ hv=>⟨_,O7 false ho ((A0 hv).1.trans (h 3 rfl)) (A0 hv).2 (decide_eq_false (fun q=>h1 (pcmp_le.1 q))),rfl⟩,
    trivial⟩ fun τ W g h=>⟨rfl,g⟩
 · skip
   rw [X5 (fun q=>h2 (ins_prog.1 q).2.1)]
   refine A5 B1 Tryz.func50 [sSg a b,sPt p] [sPP (lo a b) (hi a b),sZ (F0 (lo a b) p),sV (.bool true),sZ (F0 p (hi a b)),sV (.bool false)] (.cons Ha (.cons Hb .nil)) (rs:=[cl 2 92 [ag 16 0],cl 3 55 [ag 8 2,ag 8 1],co 4 (.binOp .leq 3 (.tmp 14) (.const (.int .i64 0)) 3) 4 [on 3,.v false [.lit (.int .i64 0)]] [0,1,2,3] [],cl 5 55 [ag 8 1,.v true [.an 2 8,.an 2 9,.an 2 10,.an 2 11,.an 2 12,.an 2 13,.an 2 14,.an 2 15]],co 6 (.binOp .leq 3 (.tmp 19) (.const (.int .i64 0)) 3) 4 [on 5,.v false [.lit (.int .i64 0)]] [0,1,2,3,4,5] []]) (out := .v false [.lit (.bool false)]) (nc:=7) (by kernel_rfl)
    ⟨fun σ W g h hb=>toPP (aO W _ a b K (h 0 rfl) hK ba bb),
    fun σ W g h hb=>toZ (I5 W _ _ (lo a b) p K (pp1 (h 2 rfl)) (h 1 rfl) (by omega) (ba.lo bb) bp) rfl,
    fun σ W g h hb=>fun ρ o ho _ hv=>⟨_,O7 true ho ((A0 hv).1.trans (h 3 rfl)) (A0 hv).2 (decide_eq_true (pcmp_le.2 h1)),rfl⟩,
    fun σ W g h hb=>toZ (I5 W _ _ p (hi a b) K (h 1 rfl) (pp2 (h 2 rfl)) (by omega) bp (ba.hi bb)) rfl,
    fun σ W g h hb=>fun ρ o ho _ hv=>⟨_,O7 false ho ((A0 hv).1.trans (h 5 rfl)) (A0 hv).2 (decide_eq_false (fun q=>h2 (pcmp_le.1 q))),rfl⟩,
    trivial⟩ fun τ W g h=>⟨rfl,g⟩
 · skip
   rw [X5 (fun q=>h3 (ins_prog.1 q).2.2)]
   refine A5 B1 Tryz.func50 [sSg a b,sPt p] [sPP (lo a b) (hi a b),sZ (F0 (lo a b) p),sV (.bool true),sZ (F0 p (hi a b)),sV (.bool true),sZ (rsg (B5 a b p)),sV (.bool false)] (.cons Ha (.cons Hb .nil)) (rs:=[cl 2 92 [ag 16 0],cl 3 55 [ag 8 2,ag 8 1],co 4 (.binOp .leq 3 (.tmp 14) (.const (.int .i64 0)) 3) 4 [on 3,.v false [.lit (.int .i64 0)]] [0,1,2,3] [],cl 5 55 [ag 8 1,.v true [.an 2 8,.an 2 9,.an 2 10,.an 2 11,.an 2 12,.an 2 13,.an 2 14,.an 2 15]],co 6 (.binOp .leq 3 (.tmp 19) (.const (.int .i64 0)) 3) 4 [on 5,.v false [.lit (.int .i64 0)]] [0,1,2,3,4,5] [],cl 7 93 [ag 8 0,.v true [.an 0 8,.an 0 9,.an 0 10,.an 0 11,.an 0 12,.an 0 13,.an 0 14,.an 0 15],ag 8 1],co 8 (.binOp .eql 3 (.tmp 28) (.const (.int .i64 0)) 3) 4 [on 7,.v false [.lit (.int .i64 0)]] [0,1,2,3,4,5,6,7] []]) (out := .v false [.lit (.bool false)]) (nc:=9) (by kernel_rfl)
    ⟨fun σ W g h hb=>toPP (aO W _ a b K (h 0 rfl) hK ba bb),
    fun σ W g h hb=>toZ (I5 W _ _ (lo a b) p K (pp1 (h 2 rfl)) (h 1 rfl) (by omega) (ba.lo bb) bp) rfl,
    fun σ W g h hb=>fun ρ o ho _ hv=>⟨_,O7 true ho ((A0 hv).1.trans (h 3 rfl)) (A0 hv).2 (decide_eq_true (pcmp_le.2 h1)),rfl⟩,
    fun σ W g h hb=>toZ (I5 W _ _ p (hi a b) K (h 1 rfl) (pp2 (h 2 rfl)) (by omega) bp (ba.hi bb)) rfl,
    fun σ W g h hb=>fun ρ o ho _ hv=>⟨_,O7 true ho ((A0 hv).1.trans (h 5 rfl)) (A0 hv).2 (decide_eq_true (pcmp_le.2 h2)),rfl⟩,
    fun σ W g h hb=>toZ (aN W _ _ _ a b p K (sg1 (h 0 rfl)) (sg2 (h 0 rfl)) (h 1 rfl) hK.2 ba bb bp (hTab.kept g (by simp))) rfl,
    fun σ W g h hb=>fun ρ o ho _ hv=>⟨_,E7 false ho ((A0 hv).1.trans (h 7 rfl)) (A0 hv).2 (decide_eq_false (fun q=>h3 (rsg_zero.1 q))),rfl⟩,
    trivial⟩ fun τ W g h=>⟨rfl,g⟩
 · skip
   rw [iQ (ins_prog.2 ⟨h1,h2,h3⟩)]
   refine A5 B1 Tryz.func50 [sSg a b,sPt p] [sPP (lo a b) (hi a b),sZ (F0 (lo a b) p),sV (.bool true),sZ (F0 p (hi a b)),sV (.bool true),sZ (rsg (B5 a b p)),sV (.bool true)] (.cons Ha (.cons Hb .nil)) (rs:=[cl 2 92 [ag 16 0],cl 3 55 [ag 8 2,ag 8 1],co 4 (.binOp .leq 3 (.tmp 14) (.const (.int .i64 0)) 3) 4 [on 3,.v false [.lit (.int .i64 0)]] [0,1,2,3] [],cl 5 55 [ag 8 1,.v true [.an 2 8,.an 2 9,.an 2 10,.an 2 11,.an 2 12,.an 2 13,.an 2 14,.an 2 15]],co 6 (.binOp .leq 3 (.tmp 19) (.const (.int .i64 0)) 3) 4 [on 5,.v false [.lit (.int .i64 0)]] [0,1,2,3,4,5] [],cl 7 93 [ag 8 0,.v true [.an 0 8,.an 0 9,.an 0 10,.an 0 11,.an 0 12,.an 0 13,.an 0 14,.an 0 15],ag 8 1],co 8 (.binOp .eql 3 (.tmp 28) (.const (.int .i64 0)) 3) 4 [on 7,.v false [.lit (.int .i64 0)]] [0,1,2,3,4,5,6,7] []]) (out := .v false [.lit (.bool true)]) (nc:=9) (by kernel_rfl)
    ⟨fun σ W g h hb=>toPP (aO W _ a b K (h 0 rfl) hK ba bb),
    fun σ W g h hb=>toZ (I5 W _ _ (lo a b) p K (pp1 (h 2 rfl)) (h 1 rfl) (by omega) (ba.lo bb) bp) rfl,
    fun σ W g h hb=>fun ρ o ho _ hv=>⟨_,O7 true ho ((A0 hv).1.trans (h 3 rfl)) (A0 hv).2 (decide_eq_true (pcmp_le.2 h1)),rfl⟩,
    fun σ W g h hb=>toZ (I5 W _ _ p (hi a b) K (h 1 rfl) (pp2 (h 2 rfl)) (by omega) bp (ba.hi bb)) rfl,
    fun σ W g h hb=>fun ρ o ho _ hv=>⟨_,O7 true ho ((A0 hv).1.trans (h 5 rfl)) (A0 hv).2 (decide_eq_true (pcmp_le.2 h2)),rfl⟩,
    fun σ W g h hb=>toZ (aN W _ _ _ a b p K (sg1 (h 0 rfl)) (sg2 (h 0 rfl)) (h 1 rfl) hK.2 ba bb bp (hTab.kept g (by simp))) rfl,
    fun σ W g h hb=>fun ρ o ho _ hv=>⟨_,E7 true ho ((A0 hv).1.trans (h 7 rfl)) (A0 hv).2 (decide_eq_true (rsg_zero.2 h3)),rfl⟩,
    trivial⟩ fun τ W g h=>⟨rfl,g⟩
end Go.Proofs.YtninnifpgpjfhaaGreatDoor
namespace Go.Proofs.YtninnifpgpjfhaaGreatDoor
open Go.RowKit Mat
def Far (g:Nat) (w:World) (s:Option Addr) (xs:List Nat):Prop:=xs=[] \/ ∃ (b off:Nat) (cs:Array Value),s=some ⟨b,off,none⟩/\b≠g/\RBlk w b cs/\RAt cs off xs
theorem Far.rd {g:Nat} {w:World} {s:Option Addr} {xs:List Nat} (h:Far g w s xs):RRdo w s xs:=by
 rcases h with h | ⟨b,off,cs,e,_,h1,h2⟩
 · exact Or.inl h
 · exact Or.inr ⟨b,off,cs,e,h1,h2⟩
theorem Far.kept {g:Nat} {w w':World} {s:Option Addr} {xs:List Nat} (h:Far g w s xs) (hg:w.grownBy w' none):Far g w' s xs:=by
 rcases h with h | ⟨b,off,cs,e,hn,h1,h2⟩
 · exact Or.inl h
 · exact Or.inr ⟨b,off,cs,e,hn,h1.kept hg (by simp),h2⟩
theorem Far.setCell {g:Nat} {w:World} {s:Option Addr} {xs:List Nat} (h:Far g w s xs) (o:Nat) (v:Value):Far g (w.setCell ⟨g,o,none⟩ v) s xs:=by
 rcases h with h | ⟨b,off,cs,e,hn,h1,h2⟩
 · exact Or.inl h
 · refine Or.inr ⟨b,off,cs,e,hn,(Below.heap_setCell _ _ _ _ ?_).trans h1,h2⟩
   simpa using hn
theorem Ints.kept {w w':World} {g:Nat} {zs:List Nat} (h:Ints w g zs) (hg:w.grownBy w' none):Ints w' g zs:=RBlk.kept h hg (by simp)
def Boxed (w:World) (b n:Nat):Prop:=∃ s k c,w.heap[b]?=some (.cells #[.slice s k c] 39 (0,0))/\RefV w (.agg #[.slice s k c]) n
theorem Far.take {g:Nat} {w:World} {s:Option Addr} {xs:List Nat} (h:Far g w s xs) (k:Nat):Far g w s (xs.take k):=by
 rcases h with h | ⟨b,off,cs,e,hn,h1,h2⟩
 · exact Or.inl (by rw [h];simp)
 · exact Or.inr ⟨b,off,cs,e,hn,h1,h2.take k⟩
theorem Far.set_other {w:World} {s:Option Addr} {xs:List Nat} {g b7:Nat} {c:Array Value} {t:TypeId} (h:Far g w s xs) (hbox:w.heap[b7]?=some (.cells c t (0,0))) (ht:t≠3) (o:Nat) (u:Value):Far g (w.setCell ⟨b7,o,none⟩ u) s xs:=by
 rcases h with h | ⟨b,off,cs,e,hn,h1,h2⟩
 · exact Or.inl h
 · refine Or.inr ⟨b,off,cs,e,hn,(Below.heap_setCell _ _ _ _ ?_).trans h1,h2⟩
   intro e2
   simp only at e2
   unfold RBlk at h1
   subst e2
   rw [hbox] at h1
   simp at h1
   exact ht h1.2
theorem Boxed.cell {w:World} {b n:Nat} (h:Boxed w b n):∃ s k c,w.heap[b]?=some (.cells #[.slice s k c] 39 (0,0))/\RefV w (.agg #[.slice s k c]) n:=h
theorem Boxed.kept {w w':World} {b n:Nat} (h:Boxed w b n) (hg:w.grownBy w' none):Boxed w' b n:=by
 obtain ⟨s,k,c,h1,h2⟩:=h
 exact ⟨s,k,c,A1 hg h1,h2.kept hg⟩
theorem Boxed.set {w:World} {b n:Nat} {u:Value} {s:Option Addr} {k c:Nat} (h:w.heap[b]?=some (.cells #[u] 39 (0,0))) (hv:RefV w (.agg #[.slice s k c]) n):Boxed (w.setCell ⟨b,0,none⟩ (.slice s k c)) b n:=
 ⟨s,k,c,heap_set h _,hv.set_other h (by decide) 0 _⟩
end Go.Proofs.YtninnifpgpjfhaaGreatDoor
namespace Go.Proofs.YtninnifpgpjfhaaGreatDoor
open Go.RowKit Mat Ex
def RQ (w:World) (v:Value) (r:Rat) (E:Nat):Prop:=∃ (g:Int) (s:Option Addr) (l c:Nat) (g':Int) (s':Option Addr) (l' c':Nat) (n d:Int),v = .agg #[.int .i64 g,.slice s l c,.int .i64 g',.slice s' l' c']/\RIntV w (.agg #[.int .i64 g,.slice s l c]) n/\RIntV w (.agg #[.int .i64 g',.slice s' l' c']) d/\Hid (0<d/\Rat.divInt n d=r/\n.natAbs<D^E/\d.natAbs<D^E)
theorem RQ.kept {w w':World} {v:Value} {r:Rat} {E:Nat} (h:RQ w v r E) (hg:w.grownBy w' none):RQ w' v r E:=by
 obtain ⟨g,s,l,c,g',s',l',c',n,d,e,h1,h2,h3⟩:=h
 exact ⟨g,s,l,c,g',s',l',c',n,d,e,h1.kept hg,h2.kept hg,h3⟩
theorem dpw {a E M:Nat} (h:a<D^E) (hE:E<=M):a<D^M:=Nat.lt_of_lt_of_le h (Nat.pow_le_pow_right Y5 hE)
theorem dp6 {a E:Nat} (h:a<D^E) (hE:E<=1000000):a<D^1000000:=by
 obtain ⟨M,hM⟩:∃ M,M=1000000:=⟨_,rfl⟩
 rw [<- hM] at hE ⊢
 exact dpw h hE
theorem RQ.mono {w:World} {v:Value} {r:Rat} {E M:Nat} (h:RQ w v r E) (hE:E<=M):RQ w v r M:=by
 obtain ⟨g,s,l,c,g',s',l',c',n,d,e,h1,h2,h3,h4,h5,h6⟩:=h
 exact ⟨g,s,l,c,g',s',l',c',n,d,e,h1,h2,h3,h4,dpw h5 hE,dpw h6 hE⟩
theorem RQ.of {w:World} {g g':Int} {s s':Option Addr} {l c l' c':Nat} {n d:Int} {r:Rat} {E:Nat} (h1:RIntV w (.agg #[.int .i64 g,.slice s l c]) n) (h2:RIntV w (.agg #[.int .i64 g',.slice s' l' c']) d) (h3 : 0<d) (h4:Rat.divInt n d=r) (h5:n.natAbs<D^E) (h6:d.natAbs<D^E):RQ w (.agg #[.int .i64 g,.slice s l c,.int .i64 g',.slice s' l' c']) r E:=
 ⟨g,s,l,c,g',s',l',c',n,d,rfl,h1,h2,h3,h4,h5,h6⟩
theorem C5 {x y:Int} {E F:Nat} (hx:x.natAbs<D^E) (hy:y.natAbs<D^F):(x*y).natAbs<D^(E+F):=by
 rw [Int.natAbs_mul,Nat.pow_add];exact Nat.mul_lt_mul'' hx hy
theorem aH {x y:Int} {E:Nat} (hx:x.natAbs<D^E) (hy:y.natAbs<D^E):(x+y).natAbs<D^(E+1):=by
 have h1:=Int.natAbs_add_le x y
 rw [Nat.pow_succ]
 have h2:D^E*2<=D^E*D:=Nat.mul_le_mul_left _ (by unfold D;omega)
 omega
theorem mV {x:Int} {E:Nat} (hx:x.natAbs<D^E):(-x).natAbs<D^E:=by rw [Int.natAbs_neg];exact hx
theorem RRdo.keeps {W W':World} {sa:Option Addr} {xs:List Nat} (h:RRdo W sa xs) (k:Keeps G9 W W'):RRdo W' sa xs:=by
 rcases h with h | ⟨b,off,cs,e,h1,h2⟩
 · exact Or.inl h
 · exact Or.inr ⟨b,off,cs,e,k b cs _ _ rfl h1,h2⟩
theorem RefV.keeps {W W':World} {v:Value} {n:Nat} (h:RefV W v n) (k:Keeps G9 W W'):RefV W' v n:=by
 obtain ⟨s,l,cap,xs,e,h1,h2,h3,h4⟩:=h
 exact ⟨s,l,cap,xs,e,h1,h2,h3.keeps k,h4⟩
theorem RIntV.keeps {W W':World} {v:Value} {z:Int} (h:RIntV W v z) (k:Keeps G9 W W'):RIntV W' v z:=by
 obtain ⟨g,s,l,c,e,h1,h2⟩:=h
 exact ⟨g,s,l,c,e,h1,h2.keeps k⟩
theorem RQ.keeps {W W':World} {v:Value} {r:Rat} {E:Nat} (h:RQ W v r E) (k:Keeps G9 W W'):RQ W' v r E:=by
 obtain ⟨g,s,l,c,g',s',l',c',n,d,e,h1,h2,h3⟩:=h
 exact ⟨g,s,l,c,g',s',l',c',n,d,e,h1.keeps k,h2.keeps k,h3⟩
def RF (w:World) (v:Value) (n d:Int):Prop:=∃ (g:Int) (s:Option Addr) (l c:Nat) (g':Int) (s':Option Addr) (l' c':Nat),v = .agg #[.int .i64 g,.slice s l c,.int .i64 g',.slice s' l' c']/\RIntV w (.agg #[.int .i64 g,.slice s l c]) n/\RIntV w (.agg #[.int .i64 g',.slice s' l' c']) d
theorem RF.keeps {W W':World} {v:Value} {n d:Int} (h:RF W v n d) (k:Keeps G9 W W'):RF W' v n d:=by
 obtain ⟨g,s,l,c,g',s',l',c',e,h1,h2⟩:=h
 exact ⟨g,s,l,c,g',s',l',c',e,h1.keeps k,h2.keeps k⟩
def sR (z:Int):Sp := .of (.agg 2) (fun v W=>RIntV W v z) (fun v W h=>by
 obtain ⟨g,s,l,c,rfl,_⟩:=h
 exact ⟨D6 [.int .i64 g,.slice s l c],A9 (by simp [Value.oneCell']),rfl⟩) (fun v W W' k h=>h.keeps k)
def sRF (n d:Int):Sp := .of (.agg 4) (fun v W=>RF W v n d) (fun v W h=>by
 obtain ⟨g,s,l,c,g',s',l',c',rfl,_⟩:=h
 exact ⟨D6 [.int .i64 g,.slice s l c,.int .i64 g',.slice s' l' c'],A9 (by simp [Value.oneCell']),rfl⟩) (fun v W W' k h=>h.keeps k)
def sRR (n m:Int):Sp := .of (.tup [(none,3),(none,3)]) (fun v W=>∃ u t,v = .tuple #[u,t]/\RIntV W u n/\RIntV W t m) (fun v W h=>by
 obtain ⟨u,t,rfl,⟨g,s,k,c,rfl,_⟩,g',s',k',c',rfl,_⟩:=h
 exact V4 (u := .bool true) (cs:=[.int .i64 g,.slice s k c,.int .i64 g',.slice s' k' c']) (by simp [Value.oneCell']) rfl) (fun v W W' k h=>by obtain ⟨u,t,e,h,h'⟩:=h;exact ⟨u,t,e,h.keeps k,h'.keeps k⟩)
theorem rr1 {n m:Int} {a b:Value} {W:World} : (sRR n m).F (.tuple #[a,b]) W->RIntV W a n:=by rintro ⟨u,t,e,h,_⟩;cases e;exact h
theorem rr2 {n m:Int} {a b:Value} {W:World} : (sRR n m).F (.tuple #[a,b]) W->RIntV W b m:=by rintro ⟨u,t,e,_,h⟩;cases e;exact h
theorem rs1 {W:World} {a b:Value} {z:Int} : RIntV W (.agg #[a,b]) z->a = .int .i64 z.sign:=by
 rintro ⟨g,s,l,c,e,h1,h2⟩;cases e;rw [show g=z.sign from h1]
theorem rn {W:World} {a b c d:Value} {n m:Int} : RF W (.agg #[a,b,c,d]) n m->RIntV W (.agg #[a,b]) n:=by
 rintro ⟨g,s,l,k,g',s',l',k',e,h,h'⟩;cases e;exact h
theorem rd {W:World} {a b c d:Value} {n m:Int} : RF W (.agg #[a,b,c,d]) n m->RIntV W (.agg #[c,d]) m:=by
 rintro ⟨g,s,l,k,g',s',l',k',e,h,h'⟩;cases e;exact h'
theorem mkrf {W:World} {a b c d:Value} {n m:Int} (h:RIntV W (.agg #[a,b]) n) (h':RIntV W (.agg #[c,d]) m):RF W (.agg #[a,b,c,d]) n m:=by
 obtain ⟨g,s,l,k,e,h1⟩:=h
 obtain ⟨g',s',l',k',e',h1'⟩:=h'
 cases e;cases e'
 exact ⟨g,s,l,k,g',s',l',k',rfl,⟨g,s,l,k,rfl,h1⟩,g',s',l',k',rfl,h1'⟩
def RetRF (w:World) (n d:Int) (e:Ending) (w':World):Prop:=∃ v,e = .returned v/\RF w' v n d/\w.grownBy w' none
section
variable {P:Program} {f:FuncId} {args:Array Value} {W:World}
theorem toRR {n m:Int} (h:Calls P f args W (fun e w'=>∃ v u,e = .returned (.tuple #[v,u])/\RIntV w' v n/\RIntV w' u m/\W.grownBy w' none)):Calls P f args W (Ret W (sRR n m).F):=
 h.mono fun _ _ ⟨v,u,a,h,h',g⟩=>⟨_,a,⟨v,u,rfl,h,h'⟩,g⟩
end
theorem dint {n:Int} (h1 : -9223372036854775808<=n) (h2:n<=9223372036854775807):n.natAbs<D^5:=by
 have:(100000000000000000000:Nat)=D^5:=by unfold D;decide
 omega
end Go.Proofs.YtninnifpgpjfhaaGreatDoor
namespace Go.Proofs.YtninnifpgpjfhaaGreatDoor
open Go.RowKit Mat Ex PM
structure H3 where
 x:Int
 y:Int
 z:Int
def rp (a:H3):Pq:=(Rat.divInt a.x a.z,Rat.divInt a.y a.z)
def HB (E:Nat) (a:H3):Prop:=a.x.natAbs<D^E/\a.y.natAbs<D^E/\a.z.natAbs<D^E
theorem HB.mono {E M:Nat} {a:H3} (h:HB E a) (hE:E<=M):HB M a:=⟨dpw h.1 hE,dpw h.2.1 hE,dpw h.2.2 hE⟩
def HV (w:World) (v:Value) (p:H3):Prop:=∃ a b c d e f:Value,v = .agg #[a,b,c,d,e,f]/\RIntV w (.agg #[a,b]) p.x/\RIntV w (.agg #[c,d]) p.y/\RIntV w (.agg #[e,f]) p.z
theorem HV.keeps {W W':World} {v:Value} {p:H3} (h:HV W v p) (k:Keeps G9 W W'):HV W' v p:=by
 obtain ⟨a,b,c,d,e,f,q,h1,h2,h3⟩:=h
 exact ⟨a,b,c,d,e,f,q,h1.keeps k,h2.keeps k,h3.keeps k⟩
theorem HV.kept {w w':World} {v:Value} {p:H3} (h:HV w v p) (g:w.grownBy w' none):HV w' v p:=by
 obtain ⟨a,b,c,d,e,f,q,h1,h2,h3⟩:=h
 exact ⟨a,b,c,d,e,f,q,h1.kept g,h2.kept g,h3.kept g⟩
theorem RIntV.one {w:World} {a b:Value} {z:Int} (h:RIntV w (.agg #[a,b]) z):a.oneCell'=true/\b.oneCell'=true:=by
 obtain ⟨g,s,l,c,e,_⟩:=h;cases e;exact ⟨rfl,rfl⟩
theorem HV.one {w:World} {a b c d e f:Value} {p:H3} (h:HV w (.agg #[a,b,c,d,e,f]) p):∀ x ∈ [a,b,c,d,e,f],x.oneCell'=true:=by
 obtain ⟨_,_,_,_,_,_,q,h1,h2,h3⟩:=h
 cases q
 simp [h1.one,h2.one,h3.one]
def sH (p:H3):Sp := .of (.agg 6) (fun v W=>HV W v p) (fun v W h=>by
 have h0:=h
 obtain ⟨a,b,c,d,e,f,rfl,_⟩:=h
 exact ⟨D6 [a,b,c,d,e,f],A9 h0.one,rfl⟩) (fun v W W' k h=>h.keeps k)
theorem h31 {W:World} {a b c d e f:Value} {p:H3} : HV W (.agg #[a,b,c,d,e,f]) p->RIntV W (.agg #[a,b]) p.x:=by rintro ⟨_,_,_,_,_,_,q,h1,h2,h3⟩;cases q;exact h1
theorem h32 {W:World} {a b c d e f:Value} {p:H3} : HV W (.agg #[a,b,c,d,e,f]) p->RIntV W (.agg #[c,d]) p.y:=by rintro ⟨_,_,_,_,_,_,q,h1,h2,h3⟩;cases q;exact h2
theorem h33 {W:World} {a b c d e f:Value} {p:H3} : HV W (.agg #[a,b,c,d,e,f]) p->RIntV W (.agg #[e,f]) p.z:=by rintro ⟨_,_,_,_,_,_,q,h1,h2,h3⟩;cases q;exact h3
theorem mkh {W:World} {a b c d e f:Value} {p:H3} (h1:RIntV W (.agg #[a,b]) p.x) (h2:RIntV W (.agg #[c,d]) p.y) (h3:RIntV W (.agg #[e,f]) p.z):HV W (.agg #[a,b,c,d,e,f]) p:=⟨_,_,_,_,_,_,rfl,h1,h2,h3⟩
def RetH (w:World) (p:H3) (e:Ending) (w':World):Prop:=∃ v,e = .returned v/\HV w' v p/\w.grownBy w' none
def HsV (w:World) (v:Value) (p q:H3):Prop:=∃ a b c d e f a' b' c' d' e' f':Value,v = .agg #[a,b,c,d,e,f,a',b',c',d',e',f']/\HV w (.agg #[a,b,c,d,e,f]) p/\HV w (.agg #[a',b',c',d',e',f']) q
theorem HsV.keeps {W W':World} {v:Value} {p q:H3} (h:HsV W v p q) (k:Keeps G9 W W'):HsV W' v p q:=by
 obtain ⟨a,b,c,d,e,f,a',b',c',d',e',f',e1,h1,h2⟩:=h
 exact ⟨a,b,c,d,e,f,a',b',c',d',e',f',e1,h1.keeps k,h2.keeps k⟩
def sHs (p q:H3):Sp := .of (.agg 12) (fun v W=>HsV W v p q) (fun v W h=>by
 obtain ⟨a,b,c,d,e,f,a',b',c',d',e',f',rfl,h1,h2⟩:=h
 refine ⟨D6 [a,b,c,d,e,f,a',b',c',d',e',f'],A9 (fun x hx=>?_),rfl⟩
 rcases List.mem_append.1 (show x ∈ [a,b,c,d,e,f]++[a',b',c',d',e',f'] from hx) with hx | hx
 · exact h1.one x hx
 · exact h2.one x hx) (fun v W W' k h=>h.keeps k)
theorem hs1 {W:World} {a b c d e f a' b' c' d' e' f':Value} {p q:H3} : HsV W (.agg #[a,b,c,d,e,f,a',b',c',d',e',f']) p q->HV W (.agg #[a,b,c,d,e,f]) p:=by
 rintro ⟨_,_,_,_,_,_,_,_,_,_,_,_,e,h1,h2⟩;cases e;exact h1
theorem hs2 {W:World} {a b c d e f a' b' c' d' e' f':Value} {p q:H3} : HsV W (.agg #[a,b,c,d,e,f,a',b',c',d',e',f']) p q->HV W (.agg #[a',b',c',d',e',f']) q:=by
 rintro ⟨_,_,_,_,_,_,_,_,_,_,_,_,e,h1,h2⟩;cases e;exact h2
theorem gR {W:World} {a b c d e f a' b' c' d' e' f':Value} {p q:H3} (h1:HV W (.agg #[a,b,c,d,e,f]) p) (h2:HV W (.agg #[a',b',c',d',e',f']) q):HsV W (.agg #[a,b,c,d,e,f,a',b',c',d',e',f']) p q:=⟨_,_,_,_,_,_,_,_,_,_,_,_,rfl,h1,h2⟩
def HAt (w:World) (cs:Array Value) (o:Nat) (p:H3):Prop:=∃ a b c d e f:Value,cs[o]?=some a/\cs[o+1]?=some b/\cs[o+2]?=some c/\cs[o+3]?=some d/\cs[o+4]?=some e/\cs[o+5]?=some f/\HV w (.agg #[a,b,c,d,e,f]) p
theorem HAt.keeps {W W':World} {cs:Array Value} {o:Nat} {p:H3} (h:HAt W cs o p) (k:Keeps G9 W W'):HAt W' cs o p:=by
 obtain ⟨a,b,c,d,e,f,h1,h2,h3,h4,h5,h6,h7⟩:=h
 exact ⟨a,b,c,d,e,f,h1,h2,h3,h4,h5,h6,h7.keeps k⟩
def HrV (w:World) (v:Value) (l:List H3):Prop:=∃ s n c,v = .slice s n c/\l.length=n/\n<=c/\(l=[] \/ ∃ b off cs,s=some ⟨b,off,none⟩/\w.heap[b]?=some (.cells cs 43 (0,0)) /\ ∀ i (h:i<l.length),HAt w cs (off+6*i) l[i])
theorem HrV.keeps {W W':World} {v:Value} {l:List H3} (h:HrV W v l) (k:Keeps G9 W W') (hq:∀ q,fpS v q->W'.heap[q]?=W.heap[q]?):HrV W' v l:=by
 obtain ⟨s,n,c,rfl,hl,hn,h⟩:=h
 refine ⟨s,n,c,rfl,hl,hn, ?_⟩
 by_cases h0:l=[]
 · exact .inl h0
 · obtain ⟨b,off,cs,rfl,hb,hc⟩:=h.resolve_left h0
   obtain ⟨m,rfl⟩:∃ m,n=m+1:=⟨n-1,by have:=List.length_pos_iff.2 h0;omega⟩
   exact .inr ⟨b,off,cs,rfl,by rw [hq b ⟨off,m,c,rfl⟩];exact hb,fun i hi=>(hc i hi).keeps k⟩
theorem HrV.inb {W:World} {v:Value} {l:List H3} (h:HrV W v l) (q:Nat) (hq:fpS v q):q<W.heap.size:=by
 obtain ⟨s,n,c,rfl,hl,hn,h⟩:=h
 obtain ⟨off,m,c',e⟩:=hq
 cases e
 rcases h with h | ⟨b,off',cs,e,hb,_⟩
 · rw [h] at hl;simp at hl
 · cases e;exact (Array.getElem?_eq_some_iff.1 hb).1
def sHr (s0:Nat) (l:List H3):Sp where
 sh := .one
 F v W:=HrV W v l /\ ∀ q,fpS v q->s0<=q
 fits v W h:=by obtain ⟨⟨s,n,c,rfl,_⟩,_⟩:=h;exact ⟨fun _ => .slice s n c,fun _=>rfl,rfl⟩
 row:=true
 fp v _ q:=fpS v q
 lasts v W W' k hq h:=⟨⟨h.1.keeps k hq,h.2⟩,fun _ h=>h⟩
 inb v W h q hq:=h.1.inb q hq
 flat h:=by cases h
def HaV (w:World) (v:Value) (p:H3):Prop:=∃ b off cs,v = .pointer (some ⟨b,off,none⟩)/\w.heap[b]?=some (.cells cs 43 (0,0))/\HAt w cs off p
def sHa (p:H3):Sp where
 sh := .one
 F v W:=HaV W v p
 fits v W h:=by obtain ⟨b,off,cs,rfl,_⟩:=h;exact ⟨fun _ => .pointer (some ⟨b,off,none⟩),fun _=>rfl,rfl⟩
 row:=true
 fp v _ q:=fpP v q
 lasts v W W' k hq h:=by
  obtain ⟨b,off,cs,rfl,hb,hc⟩:=h
  exact ⟨⟨b,off,cs,rfl,by rw [hq b ⟨off,rfl⟩];exact hb,hc.keeps k⟩,fun _ h=>h⟩
 inb v W h q hq:=by
  obtain ⟨b,off,cs,rfl,hb,hc⟩:=h
  obtain ⟨o,e⟩:=hq
  cases e;exact (Array.getElem?_eq_some_iff.1 hb).1
 flat h:=by cases h
section
variable {P:Program} {ρ : Operand->Value} {o:Oper} {W:World}
theorem gZ {t:TypeId} {x:Operand} {v:Value} {l:List H3} (h:HrV W v l) (ho:o.op = .call ⟨.builtin .len, #[x], #[t]⟩) (hx : ρ x=v) (hu:∃ el,Tryz.prog.underlying t=some (.slice el)) :
 (execOp ρ o).run Tryz.prog W = .ok (.value (.int .i64 l.length)) W:=by
 obtain ⟨s,n,c,rfl,hl,hn,h⟩:=h
 obtain ⟨el,hu⟩:=hu
 simp [execOp,ho,resolve,invoke,builtin,Builtin.len_,run_underlying hu W,hx,goInt,hl]
theorem hr_at {x y:Operand} {v:Value} {l:List H3} (h:HrV W v l) (ho:o.op = .indexAddr 24 x y) (hx : ρ x=v) (k:Nat) (hk:k<l.length) (hy : ρ y = .int .i64 k) :
 ∃ u,(execOp ρ o).run Tryz.prog W = .ok (.value u) W/\HaV W u l[k] /\ ∀ q,fpP u q->fpS v q:=by
 obtain ⟨s,n,c,rfl,hl,hn,h⟩:=h
 obtain ⟨b,off,cs,rfl,hb,hc⟩:=h.resolve_left (fun e=>by rw [e] at hk;simp at hk)
 have hu:Tryz.prog.underlying 24=some (.slice 43):=by kernel_rfl
 have hz:J0 Tryz.prog 43=some 6:=by kernel_rfl
 obtain ⟨m,rfl⟩:∃ m,n=m+1:=⟨n-1,by omega⟩
 have hk':(0:Int)<=(k:Int)/\(k:Int)<((m+1:Nat):Int):=by omega
 refine ⟨.pointer (some ⟨b,off+6*k,none⟩), ?_,⟨b,off+6*k,cs,rfl,hb,hc k hk⟩,fun q ⟨o',e⟩=>by cases e;exact ⟨off,m,c,rfl⟩⟩
 simp only [execOp,ho,hx,hy,Instr.indexAt,asIntOf,Sem.run_bind,Sem.run_pure,run_underlying hu W,Result.andThen_ok,hk',and_self,if_true,D4 Tryz.prog hz W,Instr.sureAddr,Addr.add_mid]
 rw [show (k:Int).toNat*6=6*k by omega]
theorem aD {x:Operand} {v:Value} {p:H3} (h:HaV W v p) (ho:o.op = .load 43 x) (hx : ρ x=v) :
 ∃ u,(execOp ρ o).run Tryz.prog W = .ok (.value u) W/\HV W u p:=by
 obtain ⟨q,off,cs,rfl,hb,a,b,c,d,e,f,h1,h2,h3,h4,h5,h6,hp⟩:=h
 refine ⟨_, ?_,hp⟩
 have ha:jB Tryz.prog 43=some true:=by kernel_rfl
 have hz:J0 Tryz.prog 43=some 6:=by kernel_rfl
 have hl:(loadCells ⟨q,off,none⟩ [a,b,c,d,e,f].length).run Tryz.prog W = .ok [a,b,c,d,e,f].toArray W:=
  run_loadCells_list (P:=Tryz.prog) W ⟨q,off,none⟩ _ fun j v hv=>by
   rw [Addr.add_mid]
   simp only [World.cell?,hb]
   match j,hv with
   | 0,hv=>cases hv;simpa using h1
   | 1,hv=>cases hv;simpa using h2
   | 2,hv=>cases hv;simpa using h3
   | 3,hv=>cases hv;simpa using h4
   | 4,hv=>cases hv;simpa using h5
   | 5,hv=>cases hv;simpa using h6
   | n+6,hv=>simp at hv
 simp only [execOp,ho,hx,Instr.loadAt,Instr.sureAddr,loadVar,Sem.run_bind,Sem.run_pure,Result.andThen_ok,K1 Tryz.prog ha W,D4 Tryz.prog hz W,if_true]
 simp only [List.length_cons,List.length_nil] at hl
 rw [hl];rfl
end
def hlx (a b:H3):Int:=b.x*a.z-a.x*b.z
def hly (a b:H3):Int:=b.y*a.z-a.y*b.z
def hcr (a b c:H3):Int:=hlx a b*hly a c-hly a b*hlx a c
def hdt (a b c:H3):Int:=hlx a b*hlx a c+hly a b*hly a c
def hdn (a b c:H3):Int:=a.z*a.z*(b.z*c.z)
theorem HB.less {E:Nat} {a b:H3} (ha:HB E a) (hb:HB E b):(hlx a b).natAbs<D^(E+E+1)/\(hly a b).natAbs<D^(E+E+1):=by
 unfold hlx hly
 constructor<;>rw [Int.sub_eq_add_neg]
 · exact aH (C5 hb.1 ha.2.2) (mV (C5 ha.1 hb.2.2))
 · exact aH (C5 hb.2.1 ha.2.2) (mV (C5 ha.2.1 hb.2.2))
theorem HB.cr {E:Nat} {a b c:H3} (ha:HB E a) (hb:HB E b) (hc:HB E c):(hcr a b c).natAbs<D^(4*E+3)/\(hdt a b c).natAbs<D^(4*E+3)/\(hdn a b c).natAbs<D^(4*E+3):=by
 have h1:=ha.less hb
 have h2:=ha.less hc
 refine ⟨?_, ?_, ?_⟩
 · unfold hcr;rw [Int.sub_eq_add_neg]
   exact dpw (aH (C5 h1.1 h2.2) (mV (C5 h1.2 h2.1))) (by omega)
 · unfold hdt
   exact dpw (aH (C5 h1.1 h2.1) (C5 h1.2 h2.2)) (by omega)
 · unfold hdn
   exact dpw (C5 (C5 ha.2.2 ha.2.2) (C5 hb.2.2 hc.2.2)) (by omega)
theorem q_of {n d:Int} : Rat.divInt n d=(n:Rat) / (d:Rat):=Rat.divInt_eq_div n d
theorem hz {z:Int} (h : 0<z):(z:Rat)≠0:=by
 intro e
 have:z=0:=by exact_mod_cast e
 omega
theorem hdn_pos {a b c:H3} (ha : 0<a.z) (hb : 0<b.z) (hc : 0<c.z) : 0<hdn a b c:=Int.mul_pos (Int.mul_pos ha ha) (Int.mul_pos hb hc)
theorem rp_cross {a b c:H3} (ha : 0<a.z) (hb : 0<b.z) (hc : 0<c.z):Rat.divInt (hcr a b c) (hdn a b c)=B5 (rp a) (rp b) (rp c):=by
 have h1:=hz ha;have h2:=hz hb;have h3:=hz hc
 unfold hcr hdn hlx hly B5 rp
 simp only [q_of,Rat.intCast_mul,Rat.intCast_sub]
 generalize (a.z:Rat)=az at *;generalize (b.z:Rat)=bz at *;generalize (c.z:Rat)=cz at *
 generalize (a.x:Rat)=ax;generalize (b.x:Rat)=bx;generalize (c.x:Rat)=cx
 generalize (a.y:Rat)=ay;generalize (b.y:Rat)=byy;generalize (c.y:Rat)=cy
 grind
theorem rp_dot {a b c:H3} (ha : 0<a.z) (hb : 0<b.z) (hc : 0<c.z):Rat.divInt (hdt a b c) (hdn a b c)=jZ (rp a) (rp b) (rp c):=by
 have h1:=hz ha;have h2:=hz hb;have h3:=hz hc
 unfold hdt hdn hlx hly jZ rp
 simp only [q_of,Rat.intCast_mul,Rat.intCast_sub,Rat.intCast_add]
 generalize (a.z:Rat)=az at *;generalize (b.z:Rat)=bz at *;generalize (c.z:Rat)=cz at *
 generalize (a.x:Rat)=ax;generalize (b.x:Rat)=bx;generalize (c.x:Rat)=cx
 generalize (a.y:Rat)=ay;generalize (b.y:Rat)=byy;generalize (c.y:Rat)=cy
 grind
theorem hcr_sign {a b c:H3} (ha : 0<a.z) (hb : 0<b.z) (hc : 0<c.z):(hcr a b c).sign=rsg (B5 (rp a) (rp b) (rp c)):=by
 rw [<- rp_cross ha hb hc,Q0 (hdn_pos ha hb hc)]
theorem hdt_sign {a b c:H3} (ha : 0<a.z) (hb : 0<b.z) (hc : 0<c.z):(hdt a b c).sign=rsg (jZ (rp a) (rp b) (rp c)):=by
 rw [<- rp_dot ha hb hc,Q0 (hdn_pos ha hb hc)]
theorem hcmp {a b:H3} (ha : 0<a.z) (hb : 0<b.z):M2 (a.x*b.z) (b.x*a.z)=G3 (rp a).1 (rp b).1/\M2 (a.y*b.z) (b.y*a.z)=G3 (rp a).2 (rp b).2:=⟨(eD ha hb).symm,(eD ha hb).symm⟩
end Go.Proofs.YtninnifpgpjfhaaGreatDoor
namespace Go.Proofs.YtninnifpgpjfhaaGreatDoor
open Go.RowKit Mat
set_option maxHeartbeats 8000000 in
theorem rZSub_any (w:World) (va vb:Value) (x y:Int) (Ha:RIntV w va x) (Hb:RIntV w vb y) (la':x.natAbs<D^1000000) (lb':y.natAbs<D^1000000) :
 Calls Tryz.prog 126 #[va,vb] w (F2 w (x-y)):=by
 have Hla:=Lib.hid la'
 have Hlb:=Lib.hid lb'
 clear la' lb'
 obtain ⟨ga,sa,la,ca,rfl,ha,ma⟩:=Ha
 obtain ⟨gb,sb,lb,cb,rfl,hb,mb⟩:=Hb
 have hG:w.grownBy (((w.alloc (.cells #[.int .i64 ga,.slice sa la ca] 41)).alloc (.cells #[.int .i64 gb,.slice sb lb cb] 41)).alloc (.cells #[.int .i64 0,.slice none 0 0] 41)) none:=(A4 (A4 (World.grownBy_alloc _ _ _) _) _)
 have Ba:=A1 (A4 (World.grownBy_alloc _ (.cells #[.int .i64 gb,.slice sb lb cb] 41) none) (.cells #[.int .i64 0,.slice none 0 0] 41)) (A6 w (.cells #[.int .i64 ga,.slice sa la ca] 41) (w.heap.size) rfl)
 have Bb:=A1 (World.grownBy_alloc _ (.cells #[.int .i64 0,.slice none 0 0] 41) none) (A6 (w.alloc (.cells #[.int .i64 ga,.slice sa la ca] 41)) (.cells #[.int .i64 gb,.slice sb lb cb] 41) (w.heap.size+1) (by simp))
 have Bq:=(A6 ((w.alloc (.cells #[.int .i64 ga,.slice sa la ca] 41)).alloc (.cells #[.int .i64 gb,.slice sb lb cb] 41)) (.cells #[.int .i64 0,.slice none 0 0] 41) (w.heap.size+1+1) (by simp))
 have ra:RIntV (((w.alloc (.cells #[.int .i64 ga,.slice sa la ca] 41)).alloc (.cells #[.int .i64 gb,.slice sb lb cb] 41)).alloc (.cells #[.int .i64 0,.slice none 0 0] 41)) (.agg #[.int .i64 ga,.slice sa la ca]) (x):=⟨ga,sa,la,ca,rfl,ha,ma.kept hG⟩
 have rb:RIntV (((w.alloc (.cells #[.int .i64 ga,.slice sa la ca] 41)).alloc (.cells #[.int .i64 gb,.slice sb lb cb] 41)).alloc (.cells #[.int .i64 0,.slice none 0 0] 41)) (.agg #[.int .i64 gb,.slice sb lb cb]) (y):=⟨gb,sb,lb,cb,rfl,hb,mb.kept hG⟩
 have oa:RIntV w (.agg #[.int .i64 ga,.slice sa la ca]) (x):=⟨ga,sa,la,ca,rfl,ha,ma⟩
 clear ma
 have ob:RIntV w (.agg #[.int .i64 gb,.slice sb lb cb]) (y):=⟨gb,sb,lb,cb,rfl,hb,mb⟩
 clear mb
 go_enter Tryz.func126,Tryz.ntmps126
 have HN:Hid ((-y).natAbs<D^1000000):=Lib.hid (neg_lt Hlb.out)
 have HE:Hid (x + -y=x-y):=by show _=_;omega
 obtain ⟨Ca0,Ca1,Fa0,Fa1⟩:=A3 Ba
 obtain ⟨Cb0,Cb1,Fb0,Fb1⟩:=A3 Bb
 obtain ⟨Cq0,Cq1,Fq0,Fq1⟩:=A3 Bq
 go_wp2_with fail
 generalize (((w.alloc (.cells #[.int .i64 ga,.slice sa la ca] 41)).alloc (.cells #[.int .i64 gb,.slice sb lb cb] 41)).alloc (.cells #[.int .i64 0,.slice none 0 0] 41))=w0 at *
 go_region_held3 (fun w'=>w'.cell? ⟨w.heap.size,0,none⟩=some (.int .i64 ga)/\w'.cell? ⟨w.heap.size,1,none⟩=some (.slice sa la ca)/\w'.cell? ⟨w.heap.size+1,0,none⟩=some (.int .i64 gb)/\w'.cell? ⟨w.heap.size+1,1,none⟩=some (.slice sb lb cb))
  (first | assumption | exact ⟨Ca0,Ca1,Cb0,Cb1⟩ | exact HSw1_20 | go_keep)
  (first
   | (go_at_call 143;(with_reducible refine (rNeg_any w0.drew _ y (rb.kept (B4 (A7 _ _)))).mono ?_);rintro e w1_1 ⟨vp,rfl,rp,gw1_1⟩;have hGw1_1:=F5 w0 gw1_1 rfl rfl rfl rfl;have hSw1_1:=(And.intro (hGw1_1.cell Ca0 (by simp)) (And.intro (hGw1_1.cell Ca1 (by simp)) (And.intro (hGw1_1.cell Cb0 (by simp)) (hGw1_1.cell Cb1 (by simp)))));clear gw1_1)
   | (go_at_call 60;(with_reducible refine (Z4 w1_1 _ _ x (-y) (ra.kept hGw1_1) rp Hla.out HN.out).mono ?_);rintro e w1_2 ⟨_,rfl,⟨gd,sd,ld,cd,rfl,hd,md⟩,gw1_2⟩;have hGw1_2:=A2 hGw1_1 gw1_2;replace rp:=rp.kept gw1_2;have rd:RIntV w1_2 (.agg #[.int .i64 gd,.slice sd ld cd]) (x + -y):=⟨gd,sd,ld,cd,rfl,hd,md⟩;have hSw1_2:=(And.intro (hGw1_2.cell Ca0 (by simp)) (And.intro (hGw1_2.cell Ca1 (by simp)) (And.intro (hGw1_2.cell Cb0 (by simp)) (hGw1_2.cell Cb1 (by simp)))));clear gw1_2;clear md;(obtain ⟨dq0,dq1,dq2,dq3⟩:=A3 (A1 hGw1_2 Bq));have HSw1_20:=(And.intro ((A3 (B0 (A1 hGw1_2 Ba) (show w.heap.size≠w.heap.size+1+1 by omega) (.int .i64 gd) (.slice sd ld cd))).1) (And.intro ((A3 (B0 (A1 hGw1_2 Ba) (show w.heap.size≠w.heap.size+1+1 by omega) (.int .i64 gd) (.slice sd ld cd))).2.1) (And.intro ((A3 (B0 (A1 hGw1_2 Bb) (show w.heap.size+1≠w.heap.size+1+1 by omega) (.int .i64 gd) (.slice sd ld cd))).1) ((A3 (B0 (A1 hGw1_2 Bb) (show w.heap.size+1≠w.heap.size+1+1 by omega) (.int .i64 gd) (.slice sd ld cd))).2.1))))))
 replace Ba:=A1 hGw1_2 Ba
 replace Bb:=A1 hGw1_2 Bb
 replace Bq:=A1 hGw1_2 Bq
 replace ra:=ra.kept hGw1_2
 replace rb:=rb.kept hGw1_2
 replace hG:=A2 hG hGw1_2
 clear Ca0 Fa0 Ca1 Fa1 Cb0 Fb0 Cb1 Fb1 Cq0 Fq0 Cq1 Fq1
 rw [<- HE.out]
 obtain ⟨k90,k91,k92,k93⟩:=A3 Bq
 obtain ⟨q90,q91,q92,q93⟩:=A3 (C3 Bq (.int .i64 gd) (.slice sd ld cd))
 have hF:Hid (F2 w (x + -y) (.returned (.agg #[.int .i64 gd,.slice sd ld cd])) ((w1_2.setCell ⟨w.heap.size+1+1,0,none⟩ (.int .i64 gd)).setCell ⟨w.heap.size+1+1,1,none⟩ (.slice sd ld cd))):=K8 hG Bq (by omega) rd
 clear ra rb rp rd
 go_wp2_with fail
 exact bodyPost_ret (v := .agg #[.int .i64 gd,.slice sd ld cd]) (by simp [results,Tryz.results126,go_sem,q90,q91]) rfl hF.out
end Go.Proofs.YtninnifpgpjfhaaGreatDoor
