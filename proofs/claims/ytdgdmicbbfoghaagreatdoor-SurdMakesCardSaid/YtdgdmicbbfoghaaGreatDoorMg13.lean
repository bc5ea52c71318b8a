/- What the laws lean on, part 13. -/
import Derived.Below
import Derived.BigCall
import Derived.BigQuiet
import Derived.BigRegion
import Derived.Deep.AppendLies
import Derived.Deep.CutBlock
import Derived.Deep.CutRange
import Derived.Deep.DeepCutAuto
import Derived.Deep.DeepHandedRow
import Derived.Deep.LoopGhost
import Derived.Deep.MidRow
import Derived.Deep.QuietTactic
import Derived.Deep.RegionHeld3
import Derived.Deep.WholeRow
import Derived.Laws.AppendOwn
import Derived.Laws.Concat
import Derived.Laws.CopyOwn
import Derived.Laws.CopyRow
import Derived.Laws.Externs
import Derived.Laws.IdiomStrings
import Derived.Lib.BitFns
import Derived.Lib.Bytealg
import Derived.Lib.Hide
import Derived.Lib.Slices
import Derived.Lib.Small
import Derived.Lib.Strings
import Derived.Lib.Walk
import Derived.LoopN
import Derived.Maps.AppendAt
import Derived.OpenShut
import Derived.OrdersHeld
import Derived.OrdersIn
import Derived.Outline
import Derived.OwnWalk
import Derived.ProofKit
import Derived.RangeFuncCalls
import Derived.RangeFuncNested
import Derived.RangeFuncOwn
import Derived.Shelf.Bits.Mul64
import Derived.Shelf.Spec.TrailingZeros
import Derived.StillTailTactics
import Derived.WalkKit
import Derived.WalkLawsBesides
import Derived.WalkSpells
import Derived.Test.YtdgdmicbbfoghaaGreatDoorProg
import Derived.Test.YtdgdmicbbfoghaaGreatDoorRows
import Derived.Test.YtdgdmicbbfoghaaGreatDoorMg12
set_option linter.unusedVariables false
set_option linter.unusedSimpArgs false
set_option maxRecDepth 100000
namespace Go.Proofs.YtdgdmicbbfoghaaGreatDoor
open Go.RowKit Mat Ex
theorem RatV.one {w:World} {a b c d:Value} {r:Rat} (h:RatV w (.agg #[a,b,c,d]) r):a.oneCell'=true/\b.oneCell'=true/\c.oneCell'=true/\d.oneCell'=true:=by
 obtain ⟨s,xs,f,s',xs',f',e,_⟩:=h
 cases e;exact ⟨rfl,rfl,rfl,rfl⟩
def fpS (v:Value) (q:Nat):Prop:=∃ off n c,v = .slice (some ⟨q,off,none⟩) (n+1) c
def fpP (v:Value) (q:Nat):Prop:=∃ off,v = .pointer (some ⟨q,off,none⟩)
section
variable {P:Program} (w:World)
theorem oV (base:Nat) (t ty e:TypeId) (i:TypeInfo) (z:Value) (size bytes:Nat) (ht:P.underlying t=some (.slice e)) (hi:P.info? e=some i) (hz:i.zero=some z)
 (hsize:i.size=size) (hby:i.bytes=bytes) (hzs:z.cells.size=size) (hsz : 0<size)
 (v:Value) (n:Nat) (xs:List Value) (hown:w.ownsRow base e size v n xs)
 (a:Addr) (m c:Nat) (news:List Value) (hl:news.length=m*size) (hnews:∀ j u,news[j]?=some u->w.cell? (a.add j)=some u) (h1:∀ u ∈ news,u.oneCell'=true)
 (h63:n+m<=maxLen) (hbytes:(n+m)*bytes<=140737488355328) (hbase:base<=w.heap.size) (hm : 0<m) :
 ∃ v' w',(Builtin.append_ #[t,t] ty #[v,.slice (some a) m c]).run P w = .ok v' w'/\w'.ownsRow base e size v' (n+m) (xs++news)/\w'.ownsRow base e size v n xs/\w.grownBy w' v.ownBlock /\
   (v'.ownBlock=v.ownBlock\/v'.ownBlock=some w.heap.size):=by
 subst hsize
 subst hby
 have hsmall:n+m<=9223372036854775807:=by simp only [maxLen] at h63;omega
 have hlen:(xs++news).length=(n+m)*i.size:=by rw [List.length_append,hown.1,hl,Nat.add_mul]
 have grown:∀ (old:Nat),old<n+m -> ∀ (row:Option Nat),
  (w.drew.alloc (.cells (xs.toArray++news.toArray++Builtin.zeroCells z.cells (grownCap w (n+m) old e-(n+m))) e)).ownsRow base e i.size
   (.slice (some ⟨w.heap.size,0,none⟩) (n+m) (grownCap w (n+m) old e)) (n+m) (xs++news) /\
  w.grownBy (w.drew.alloc (.cells (xs.toArray++news.toArray++Builtin.zeroCells z.cells (grownCap w (n+m) old e-(n+m))) e)) row:=by
  intro old ho row
  have hge:=grownCap_ge w (n+m) old e
  have hcm:grownCap w (n+m) old e<=maxLen:=grownCap_le_maxLen w (n+m) old e h63
  refine ⟨⟨hlen,.inr ⟨w.heap.size,_,_,rfl,hbase,heap_alloc_new w.drew _,hge,hcm, ?_, ?_⟩⟩,⟨rfl,rfl,rfl,by simp,fun k hk _=>_root_.Go.heap_alloc_old w.drew _ hk⟩⟩
  · simp only [Array.size_append,List.size_toArray,size_zeroCells,hzs,hown.1,hl, <- Nat.add_mul]
    congr 1
    omega
  · simp only [Array.toList_append,List.append_assoc]
    rw [<- List.append_assoc, <- hlen]
    exact List.take_left
 have hown0:=hown
 rcases hown.2 with ⟨rfl,rfl⟩ | ⟨g,cap,cur,rfl,hbg,hg,hnc,hcm,hcs,htake⟩
 · have hx:xs=[]:=List.eq_nil_of_length_eq_zero (by simpa using hown.1)
   subst hx
   have hr:=run_append_nil (P:=P) w t ty e i z ht hi hz a m c news hl hnews (by omega) (by omega) (by have hb:=hbytes;simp only [Nat.zero_add] at hb;omega)
   have hgr:=grown 0 (by omega) (Value.ownBlock (.slice none 0 0))
   simp only [Nat.zero_add,List.nil_append,Array.empty_append] at hgr ⊢
   exact ⟨_,_,hr,hgr.1,World.ownsRow_nil _ base e i.size,hgr.2,Or.inr rfl⟩
 · by_cases hroom:n+m<=cap
   · have hfit:n*i.size+news.length<=cur.size:=by rw [hl,hcs, <- Nat.add_mul];exact Nat.mul_le_mul_right _ hroom
     have hr:=run_append_room (P:=P) w t ty e i ht hi g n cap cur hg a m c news hl hnews h1 hroom hfit
     have hlx:(cur.toList.take (n*i.size)).length=n*i.size:=by rw [htake];exact hown.1
     refine ⟨_,_,hr,⟨hlen,.inr ⟨g,cap,_,rfl,hbg,setRow_heap w g cur _ e _ hg,hroom,hcm, ?_, ?_⟩⟩,⟨hown.1,.inr ⟨g,cap,_,rfl,hbg,setRow_heap w g cur _ e _ hg,hnc,hcm, ?_, ?_⟩⟩,⟨rfl,rfl,rfl,by simp,fun k _ hk=>setRow_other w g k _ (fun e=>hk (by simp [Value.ownBlock,e]))⟩,Or.inl rfl⟩
     · simp only [List.size_toArray,List.length_append,List.length_take,List.length_drop,Array.length_toList]
       omega
     · rw [htake, <- hlen]
       exact List.take_left
     · simp only [List.size_toArray,List.length_append,List.length_take,List.length_drop,Array.length_toList]
       omega
     · rw [htake,List.append_assoc, <- hown.1]
       exact List.take_left
   · have holds:∀ j u,xs[j]?=some u->w.cell? ((⟨g,0,none⟩:Addr).add j)=some u:=hown.cells (g:=g) rfl
     have hr:=run_append_grow (P:=P) w t ty e i z ht hi hz ⟨g,0,none⟩ n cap xs hown.1 holds a m c news hl hnews (by omega) (by omega) (growslice_fits (by omega) hbytes)
     have hgr:=grown cap (by omega) (Value.ownBlock (.slice (some ⟨g,0,none⟩) n cap))
     refine ⟨_,_,hr,hgr.1,⟨hown.1,.inr ⟨g,cap,cur,rfl,hbg, ?_,hnc,hcm,hcs,htake⟩⟩,hgr.2,Or.inr rfl⟩
     rw [_root_.Go.heap_alloc_old w.drew _ (Array.getElem?_eq_some_iff.1 hg).1];exact hg
end
structure lQ (α : Type) where
 T:TypeId
 z:Nat
 A:World->List Value->α->Prop
 keeps:∀ {W W':World} {cs:List Value} {x : α},A W cs x->Keeps L6 W W'->A W' cs x
 notLimb:L6 T=false
def OwV {α : Type} (k:lQ α) (base:Nat) (w:World) (v:Value) (l:List α):Prop:=∃ xs,w.ownsRow base k.T k.z v l.length xs /\ ∀ i (h:i<l.length),k.A w ((xs.drop (k.z*i)).take k.z) l[i]
theorem rW {w w':World} {base:Nat} {e:TypeId} {size:Nat} {v:Value} {n:Nat} {xs:List Value} (h:w.ownsRow base e size v n xs) (hb:∀ q,v.ownBlock=some q->w'.heap[q]?=w.heap[q]?):w'.ownsRow base e size v n xs:=by
 refine ⟨h.1, ?_⟩
 rcases h.2 with h2 | ⟨g,cap,cur,rfl,hbg,hg,h3⟩
 · exact .inl h2
 · exact .inr ⟨g,cap,cur,rfl,hbg,(hb g rfl).trans hg,h3⟩
theorem OwV.keeps {α : Type} {k:lQ α} {base:Nat} {W W':World} {v:Value} {l:List α} (h:OwV k base W v l) (hk:Keeps L6 W W') (hb:∀ q,v.ownBlock=some q->W'.heap[q]?=W.heap[q]?):OwV k base W' v l:=by
 obtain ⟨xs,h1,h2⟩:=h
 exact ⟨xs,rW h1 hb,fun i hi=>k.keeps (h2 i hi) hk⟩
theorem OwV.nil {α : Type} (k:lQ α) (base:Nat) (w:World):OwV k base w (.slice none 0 0) ([]:List α):=⟨[],World.ownsRow_nil w base k.T k.z,fun i h=>absurd h (by simp)⟩
theorem OwV.inb {α : Type} {k:lQ α} {base:Nat} {W:World} {v:Value} {l:List α} (h:OwV k base W v l) {q:Nat} (hq:v.ownBlock=some q):q<W.heap.size/\base<=q /\ ∃ cur,W.heap[q]?=some (.cells cur k.T (0,0)):=by
 obtain ⟨xs,h1,_⟩:=h
 rcases h1.2 with ⟨rfl,_⟩ | ⟨g,cap,cur,rfl,hbg,hg,_⟩
 · cases hq
 · cases hq;exact ⟨(Array.getElem?_eq_some_iff.1 hg).1,hbg,cur,hg⟩
def sOw {α : Type} (k:lQ α) (base:Nat) (l:List α):Sp where
 sh := .one
 F v W:=OwV k base W v l
 fits v W h:=by
  obtain ⟨xs,h1,_⟩:=h
  rcases h1.2 with ⟨rfl,_⟩ | ⟨g,cap,cur,rfl,_⟩
  · exact ⟨fun _ => .slice none 0 0,fun _=>rfl,rfl⟩
  · exact ⟨fun _ => .slice (some ⟨g,0,none⟩) l.length cap,fun _=>rfl,rfl⟩
 row:=true
 fp v _ q:=v.ownBlock=some q
 lasts v W W' k hq h:=⟨h.keeps k hq,fun _ h=>h⟩
 inb v W h q hq:=(h.inb hq).1
 flat h:=by cases h
def AppW (base:Nat) (v v':Value) (W W':World):Prop:=W.grownBy W' v.ownBlock/\(v'.ownBlock=v.ownBlock\/v'.ownBlock=some W.heap.size)
def Older {α : Type} (k:lQ α) (base:Nat) (W W':World) (v:Value) (l:List α):Prop:=∀ u l',OwV k base W u l'->l'.length<=l.length->u.ownBlock=v.ownBlock->OwV k base W' u l'
theorem older_of {α : Type} {k:lQ α} {base:Nat} {W W':World} {v:Value} {l:List α} {xs:List Value} (hown:W.ownsRow base k.T k.z v l.length xs) (h3:W'.ownsRow base k.T k.z v l.length xs) (hkp:Keeps L6 W W'):Older k base W W' v l:=by
 rintro u l' ⟨ys,hu,hB⟩ hle hb
 refine ⟨ys,⟨hu.1, ?_⟩,fun j hj=>k.keeps (hB j hj) hkp⟩
 rcases hu.2 with h0 | ⟨g,cap,cur,rfl,hbg,hg,hnc,hcm,hcs,htk⟩
 · exact .inl h0
 · rcases hown.2 with ⟨rfl,_⟩ | ⟨g2,cap2,cur2,rfl,_,hg2,_,_,hcs2,htk2⟩
   · cases hb
   · cases hb
     rcases h3.2 with ⟨e3,_⟩ | ⟨g3,cap3,cur3,e3,_,hg3,_,_,hcs3,htk3⟩
     · cases e3
     · cases e3
       rw [hg] at hg2;cases hg2
       refine .inr ⟨g,cap,cur3,rfl,hbg,hg3,hnc,hcm,by rw [hcs3, <- hcs2,hcs], ?_⟩
       have hmul:l'.length*k.z<=l.length*k.z:=Nat.mul_le_mul_right _ hle
       rw [<- htk, <- Nat.min_eq_left hmul, <- List.take_take, <- List.take_take,htk3,htk2]
theorem rT {α : Type} {P:Program} (k:lQ α) {t:TypeId} {i:TypeInfo} {z:Value} {bytes:Nat} (ht:P.underlying t=some (.slice k.T)) (hi:P.info? k.T=some i) (hz:i.zero=some z) (hsize:i.size=k.z) (hby:i.bytes=bytes)
 (hzs:z.cells.size=k.z) (hsz : 0<k.z) {W:World} {base:Nat} {v:Value} {l:List α} (h:OwV k base W v l) {x : α} {q c:Nat} {cs:List Value} (hc:cs.length=k.z) (hq:W.heap[q]?=some (.cells cs.toArray k.T (0,0))) (hx:k.A W cs x)
 (h1:∀ u ∈ cs,u.oneCell'=true) (hn:l.length+1<=1000000) (hb:bytes<=1000000) (hbase:base<=W.heap.size) {ρ : Operand->Value} {o:Oper} {a b:Operand} (ho:o.op = .call ⟨.builtin .append, #[a,b], #[t,t]⟩) (ha : ρ a=v) (hbv : ρ b = .slice (some ⟨q,0,none⟩) 1 c) :
 ∃ v' W',(execOp ρ o).run P W = .ok (.value v') W'/\OwV k base W' v' (l++[x])/\OwV k base W' v l/\AppW base v v' W W'/\Keeps L6 W W'/\Older k base W W' v l:=by
 obtain ⟨xs,hown,hA⟩:=h
 have hlen:xs.length=l.length*k.z:=hown.1
 obtain ⟨v',W',hr,h2,h3,h4,h5⟩:=oV (P:=P) W base t o.type k.T i z k.z bytes ht hi hz hsize hby hzs hsz v l.length xs hown ⟨q,0,none⟩ 1 c cs (by rw [hc,Nat.one_mul])
  (fun j u hj=>by rw [Addr.add_lit];simp [World.cell?,hq,hj]) h1 (by simp only [maxLen];omega) (by have:=Nat.mul_le_mul hn hb;omega) hbase (by omega)
 have hkp:Keeps L6 W W':=fun g arr ty fr hp hg=>by
  rw [h4.block g (Array.getElem?_eq_some_iff.1 hg).1 fun e=>?_]; · exact hg
  obtain ⟨_,_,cur,h6⟩:=OwV.inb (k:=k) ⟨xs,hown,hA⟩ e.symm
  rw [hg] at h6;cases h6
  rw [k.notLimb] at hp;cases hp
 refine ⟨v',W', ?_,⟨xs++cs,by simpa using h2,fun j hj=>?_⟩,⟨xs,h3,fun j hj=>k.keeps (hA j hj) hkp⟩,⟨h4,h5⟩,hkp,older_of hown h3 hkp⟩
 · unfold execOp
   simp only [ho,resolve,invoke,builtin,Sem.run_bind,Sem.run_pure,Result.andThen_ok,List.map_toArray,List.map_cons,List.map_nil,ha,hbv,hr]
 · have hj:j<l.length+1:=by simpa using hj
   rcases Nat.lt_or_ge j l.length with hlt | hge
   · have:=k.keeps (hA j hlt) hkp
     rw [List.getElem_append_left hlt]
     have hle:k.z*j+k.z<=xs.length:=by
      rw [hlen, <- Nat.mul_succ,Nat.mul_comm];exact Nat.mul_le_mul_right _ hlt
     rw [List.drop_append_of_le_length (by omega),List.take_append_of_le_length (by simp;omega)]
     exact this
   · obtain rfl:j=l.length:=by omega
     rw [show k.z*l.length=xs.length by rw [hlen,Nat.mul_comm],List.drop_left,List.take_of_length_le (by omega)]
     simpa using k.keeps hx hkp
set_option maxRecDepth 100000
theorem eF (t:TypeId) (n:Nat) (h:(Tryz.prog.info? t).any (fun i=>decide (i.size=n) && decide (i.bytes<=1000000) && match i.zero with | some z=>decide (z.cells.size=n) | none=>false)=true) :
 ∃ i z,Tryz.prog.info? t=some i/\i.zero=some z/\i.size=n/\i.bytes<=1000000/\z.cells.size=n:=by
 cases hi:Tryz.prog.info? t with
 | none=>rw [hi] at h;cases h
 | some i=>
   rw [hi] at h
   simp only [Option.any_some,Bool.and_eq_true,decide_eq_true_eq] at h
   cases hz:i.zero with
   | none=>rw [hz] at h;exact absurd h.2 (by simp)
   | some z=>rw [hz] at h;exact ⟨i,z,rfl,hz,h.1.1,h.1.2,by simpa using h.2⟩
theorem X0 {α : Type} (kd:lQ α) {t:TypeId} (ht:Tryz.prog.underlying t=some (.slice kd.T)) (hi:∃ i z,Tryz.prog.info? kd.T=some i/\i.zero=some z/\i.size=kd.z/\i.bytes<=1000000/\z.cells.size=kd.z) (hsz : 0<kd.z)
 {W:World} {base:Nat} {v:Value} {l:List α} (h:OwV kd base W v l) {x : α} {q c:Nat} {cs:List Value} (hc:cs.length=kd.z) (hq:W.heap[q]?=some (.cells cs.toArray kd.T (0,0))) (hx:kd.A W cs x)
 (h1:∀ u ∈ cs,u.oneCell'=true) (hn:l.length+1<=1000000) (hbase:base<=W.heap.size) {ρ : Operand->Value} {o:Oper} {a b:Operand} (ho:o.op = .call ⟨.builtin .append, #[a,b], #[t,t]⟩) (ha : ρ a=v) (hbv : ρ b = .slice (some ⟨q,0,none⟩) 1 c) :
 ∃ v' W',(execOp ρ o).run Tryz.prog W = .ok (.value v') W'/\OwV kd base W' v' (l++[x])/\OwV kd base W' v l/\AppW base v v' W W'/\Keeps L6 W W'/\Older kd base W W' v l:=by
 obtain ⟨i,z,i1,i2,i3,i4,i5⟩:=hi
 exact rT kd ht i1 i2 i3 rfl i5 hsz h hc hq hx h1 hn i4 hbase ho ha hbv
theorem appS {α : Type} (kd:lQ α) {specs:List Sp} {w W:World} {av:List Nat} {σ : Env} {n m0:Nat} {v:Value} {l:List α} {x : α} {run:Value->World->Prop} (g:w.grownBy W none) (hm0:av.elem m0=true) (hs0:sp specs m0=sOw kd w.heap.size l)
 (hv0 : σ.an m0 0=v) (hsn:sp specs n=sOw kd w.heap.size (l++[x])) (h:OwV kd w.heap.size W v l)
 (hr:∃ v' W',run v' W'/\OwV kd w.heap.size W' v' (l++[x])/\OwV kd w.heap.size W' v l/\AppW w.heap.size v v' W W'/\Keeps L6 W W'/\Older kd w.heap.size W W' v l)
 (hrows:∀ m,av.elem m=true->m≠m0->(sp specs m).row=true->((sp specs m).F (((sp specs m).sh.sv m).den σ) W /\ ∀ q,(sp specs m).fp (((sp specs m).sh.sv m).den σ) W q->v.ownBlock≠some q)\/(∃ l',sp specs m=sOw kd w.heap.size l'/\l'.length<=l.length/\OwV kd w.heap.size W (σ.an m 0) l')) :
 AppS specs w av σ W n run:=by
 obtain ⟨v',W',hrun,o1,o2,⟨hg,hv'⟩,hkp,hod⟩:=hr
 have hden:((sp specs m0).sh.sv m0).den σ=v:=by rw [hs0];exact hv0
 have hold:∀ q,v.ownBlock=some q->nB specs av σ W q:=fun q hq=>⟨m0,hm0,by rw [hs0];show (σ.an m0 0).ownBlock=some q;rw [hv0];exact hq⟩
 refine ⟨v',W',hrun,⟨⟨hg.os.trans g.os,hg.tape.trans g.tape,hg.output.trans g.output,Nat.le_trans g.size hg.size,fun i hi hne=>?_⟩,hg.size,fun q hq ho=>hg.block q hq fun e=>ho (hold q e.symm),KeepsOthers.of_grownBy hg fun j o e hj=>by obtain ⟨_,_,c,hc⟩:=h.inb e;rw [hc] at hj;cases hj;rfl⟩,hkp,by rw [hsn];exact o1,fun q hq=>?_,fun m hm hr=>?_⟩
 · rw [hg.block i (Nat.lt_of_lt_of_le hi g.size) fun e=>?_,g.block i hi hne]
   have:=(h.inb e.symm).2.1;omega
 · rw [hsn] at hq
   have hq:v'.ownBlock=some q:=hq
   rcases hv' with e | e
   · exact .inr (hold q (e ▸ hq))
   · rw [e] at hq;cases hq;exact .inl (Nat.le_refl _)
 · by_cases hm0':m=m0
   · subst hm0'
     refine ⟨by rw [hden,hs0];exact o2,fun q hq=>?_⟩
     rw [hden,hs0] at hq ⊢;exact hq
   · rcases hrows m hm hm0' hr with ⟨hF,hne⟩ | ⟨l',hs',hl',ho'⟩
     rotate_left
     · by_cases hb:(σ.an m 0).ownBlock=v.ownBlock
       · refine ⟨by rw [hs'];exact hod _ _ ho' hl' hb,fun q hq=>?_⟩
         rw [hs'] at hq ⊢;exact hq
       · rw [hs']
         refine (sOw kd w.heap.size l').lasts _ W W' hkp (fun q hq=>hg.block q (ho'.inb hq).1 fun e=>hb ?_) ho'
         have hq:(σ.an m 0).ownBlock=some q:=hq
         rw [hq];exact e.symm ▸ rfl
     refine (sp specs m).lasts _ W W' hkp (fun q hq=>hg.block q ((sp specs m).inb _ _ hF q hq) fun e=>hne q hq e.symm) hF
theorem D7 {α : Type} {k:lQ α} {base:Nat} {W:World} {v:Value} {l:List α} (h:OwV k base W v l) {q:Nat} (hq:q<base/\q<W.heap.size):v.ownBlock≠some q:=fun e=>by have:=(h.inb e).2.1;omega
theorem appS0 {α : Type} (kd:lQ α) {specs:List Sp} {w W:World} {av:List Nat} {σ : Env} {n:Nat} {x : α} {run:Value->World->Prop} (g:w.grownBy W none) (hsn:sp specs n=sOw kd w.heap.size [x])
 (hr:∃ v' W',run v' W'/\OwV kd w.heap.size W' v' ([]++[x])/\OwV kd w.heap.size W' (.slice none 0 0) ([]:List α)/\AppW w.heap.size (.slice none 0 0) v' W W'/\Keeps L6 W W'/\Older kd w.heap.size W W' (.slice none 0 0) ([]:List α))
 (hrows:∀ m,av.elem m=true->(sp specs m).row=true->(sp specs m).F (((sp specs m).sh.sv m).den σ) W) :
 AppS specs w av σ W n run:=by
 obtain ⟨v',W',hrun,o1,o2,⟨hg,hv'⟩,hkp,hod⟩:=hr
 have hg:W.grownBy W' none:=hg
 refine ⟨v',W',hrun,⟨⟨hg.os.trans g.os,hg.tape.trans g.tape,hg.output.trans g.output,Nat.le_trans g.size hg.size,fun i hi hne=>?_⟩,hg.size,fun q hq ho=>hg.block q hq (fun e=>nomatch e),KeepsOthers.of_grownBy hg (fun j o e=>nomatch e)⟩,hkp,by rw [hsn];exact o1,fun q hq=>?_,fun m hm hr=>?_⟩
 · rw [hg.block i (Nat.lt_of_lt_of_le hi g.size) (fun e=>by cases e),g.block i hi hne]
 · rw [hsn] at hq
   have hq:v'.ownBlock=some q:=hq
   rcases hv' with e | e
   · rw [hq] at e;cases e
   · rw [e] at hq;cases hq;exact .inl (Nat.le_refl _)
 · exact (sp specs m).lasts _ W W' hkp (fun q hq=>hg.block q ((sp specs m).inb _ _ (hrows m hm hr) q hq) fun e=>by cases e) (hrows m hm hr)
end Go.Proofs.YtdgdmicbbfoghaaGreatDoor
namespace Go.Proofs.YtdgdmicbbfoghaaGreatDoor
open Go.RowKit Mat
def QSl (W:World) (s:Option Addr) (n:Nat) (rs:List Rat):Prop:=rs.length=n/\(n=0 \/ ∃ (b:Nat) (cs:Array Value),s=some ⟨b,0,none⟩/\W.heap[b]?=some (.cells cs 30 (0,0)) /\ ∀ i (h:i<rs.length),∃ u0 u1 u2 u3,cs[i*4]?=some u0/\cs[i*4+1]?=some u1/\cs[i*4+2]?=some u2/\cs[i*4+3]?=some u3/\RatV W (.agg #[u0,u1,u2,u3]) rs[i])
theorem QSl.kept {W W':World} {s:Option Addr} {n:Nat} {rs:List Rat} (h:QSl W s n rs) (hg:W.grownBy W' none):QSl W' s n rs:=by
 obtain ⟨h1,h2⟩:=h
 refine ⟨h1, ?_⟩
 rcases h2 with h2 | ⟨b,cs,e,hb,hc⟩
 · exact Or.inl h2
 · refine Or.inr ⟨b,cs,e,A1 hg hb,fun i h=>?_⟩
   obtain ⟨u0,u1,u2,u3,a1,a2,a3,a4,a5⟩:=hc i h
   exact ⟨u0,u1,u2,u3,a1,a2,a3,a4,a5.kept hg⟩
theorem QSl.at {W:World} {b n:Nat} {rs:List Rat} (h:QSl W (some ⟨b,0,none⟩) n rs) (k:Nat) (hk:k<rs.length):∃ (s:Option Addr) (xs:List Nat) (f:Bool) (s':Option Addr) (xs':List Nat) (f':Bool),W.cell? ⟨b,k*4,none⟩=some (.slice s xs.length xs.length)/\W.cell? ⟨b,k*4+1,none⟩=some (.bool f)/\W.cell? ⟨b,k*4+2,none⟩=some (.slice s' xs'.length xs'.length)/\W.cell? ⟨b,k*4+3,none⟩=some (.bool f')/\RatV W (.agg #[.slice s xs.length xs.length,.bool f,.slice s' xs'.length xs'.length,.bool f']) (rs[k]'hk):=by
 obtain ⟨h1,h2⟩:=h
 rcases h2 with h2 | ⟨b',cs,e,hb,hc⟩
 · omega
 · cases e
   obtain ⟨u0,u1,u2,u3,a1,a2,a3,a4,a5⟩:=hc k hk
   obtain ⟨s,xs,f,s',xs',f',e,h3⟩:=a5
   cases e
   exact ⟨s,xs,f,s',xs',f',by simp [World.cell?,hb,a1],by simp [World.cell?,hb,a2],by simp [World.cell?,hb,a3],by simp [World.cell?,hb,a4],s,xs,f,s',xs',f',rfl,h3⟩
theorem U2 {P:Program} (w:World) (dT sT ty elem:TypeId) (g o dLen dCap:Nat) (a:Addr) (sLen sCap:Nat) (cur:Array Value) (t:TypeId) (cs:List Value) (k:Nat)
 (hu:P.underlying dT=some (.slice elem)) (hs:(P.info? elem).map (·.size)=some k)
 (hg:w.heap[g]?=some (.cells cur t (0,0))) (hn:cs.length=Nat.min sLen dLen*k)
 (hsrc:∀ j v,cs[j]?=some v->w.cell? (a.add j)=some v) (hfit:o+cs.length<=cur.size) (h1:∀ v ∈ cs,v.oneCell'=true) :
 (Builtin.copy_ #[dT,sT] ty #[.slice (some ⟨g,o,none⟩) dLen dCap,.slice (some a) sLen sCap]).run P w =
  .ok (goInt (Nat.min sLen dLen)) (w.setRow g (cur.toList.take o++cs++cur.toList.drop (o+cs.length)).toArray):=by
 have hl:=run_loadCells_list (P:=P) w a cs hsrc
 have hst:=run_storeCells_at P g o t cs 0 cur w hg (by simpa using hfit) h1
 cases hq:P.info? elem with
 | none=>simp [hq] at hs
 | some i=>
   have hi:i.size=k:=by simpa [hq] using hs
   rw [hn] at hl
   simp [Builtin.copy_,run_underlying hu,Builtin.lenOf,Builtin.firstCells,sizeOf,typeInfo,hq,hi,hl,hst]
theorem Blk.row {w W:World} {b g:Nat} {cs c:Array Value} {t:TypeId} (h:Blk w b cs) (hg:w.grownBy W (some g)) (hbox:w.heap[g]?=some (.cells c t (0,0))) (ht:t≠91):Blk W b cs:=
 (hg.block b h.lt (fun e=>by
  cases e
  have h1:w.heap[b]?=some (.cells cs 91 (0,0)):=h
  rw [hbox] at h1
  cases h1
  exact ht rfl)).trans h
theorem Lm.row {w W:World} {s:Option Addr} {xs:List Nat} {g:Nat} {c:Array Value} {t:TypeId} (h:Lm w s xs) (hg:w.grownBy W (some g)) (hbox:w.heap[g]?=some (.cells c t (0,0))) (ht:t≠91):Lm W s xs:=
 ⟨h.rd.imp id fun ⟨b,o,cs,e,h1,h2⟩=>⟨b,o,cs,e,h1.row hg hbox ht,h2⟩,h.nil,h.top,h.dig⟩
theorem IntV.row {w W:World} {v:Value} {z:Int} {g:Nat} {c:Array Value} {t:TypeId} (h:IntV w v z) (hg:w.grownBy W (some g)) (hbox:w.heap[g]?=some (.cells c t (0,0))) (ht:t≠91):IntV W v z:=by
 obtain ⟨sa,xs,b,e,h1,h2⟩:=h
 exact ⟨sa,xs,b,e,h1.row hg hbox ht,h2⟩
theorem RatV.row {w W:World} {v:Value} {r:Rat} {g:Nat} {c:Array Value} {t:TypeId} (h:RatV w v r) (hg:w.grownBy W (some g)) (hbox:w.heap[g]?=some (.cells c t (0,0))) (ht:t≠91):RatV W v r:=by
 obtain ⟨s,xs,b,s',xs',b',e,h1,h2⟩:=h
 exact ⟨s,xs,b,s',xs',b',e,h1.row hg hbox ht,h2.row hg hbox ht⟩
theorem TwoV.row {w W:World} {v:Value} {x y:Int} {g:Nat} {c:Array Value} {t:TypeId} (h:TwoV w v x y) (hg:w.grownBy W (some g)) (hbox:w.heap[g]?=some (.cells c t (0,0))) (ht:t≠91):TwoV W v x y:=by
 obtain ⟨s,xs,b,s',xs',b',e,h1,h2⟩:=h
 exact ⟨s,xs,b,s',xs',b',e,h1.row hg hbox ht,h2.row hg hbox ht⟩
theorem R2 (w:World) (g:Nat) (cs:Array Value):w.grownBy (w.setRow g cs) (some g):=
 ⟨rfl,rfl,rfl,by simp [World.setRow],fun k _ hk=>setRow_other w g k cs (fun e=>hk (by rw [e]))⟩
def gM (w:World) (g:Nat) (f0 f1 f2 f3:Value) (n:Nat) (r0 r1 r2 r3:Rat) (s:Option Addr) (c:Nat):Prop:=
 ∃ (W:World) (v:Value),(Builtin.copy_ #[23,23] 3 #[.slice (some ⟨g,4,none⟩) 4 4,.slice s n c]).run Tryz.prog w = .ok (goInt n) W/\w.grownBy W (some g)/\PartsV W v r0 r1 r2 r3 /\
   ∃ ps:List Value,v = .agg ps.toArray/\W.heap[g]?=some (.cells ([f0,f1,f2,f3]++ps).toArray 37 (0,0))
theorem dS:(Tryz.prog.info? 30).map (·.size)=some 4:=by kernel_rfl
theorem copy_parts0 (w:World) (g:Nat) (f0 f1 f2 f3:Value) (hb:w.heap[g]?=some (.cells #[f0,f1,f2,f3,.slice none 0 0,.bool false,.slice none 0 0,.bool false,.slice none 0 0,.bool false,.slice none 0 0,.bool false,.slice none 0 0,.bool false,.slice none 0 0,.bool false,.slice none 0 0,.bool false,.slice none 0 0,.bool false] 37 (0,0))) (s:Option Addr) (c:Nat):gM w g f0 f1 f2 f3 0 0 0 0 0 s c:=by
 refine ⟨w,.agg #[.slice none 0 0,.bool false,.slice none 0 0,.bool false,.slice none 0 0,.bool false,.slice none 0 0,.bool false,.slice none 0 0,.bool false,.slice none 0 0,.bool false,.slice none 0 0,.bool false,.slice none 0 0,.bool false], ?_,⟨rfl,rfl,rfl,Nat.le_refl _,fun _ _ _=>rfl⟩, ?_,[.slice none 0 0,.bool false,.slice none 0 0,.bool false,.slice none 0 0,.bool false,.slice none 0 0,.bool false,.slice none 0 0,.bool false,.slice none 0 0,.bool false,.slice none 0 0,.bool false,.slice none 0 0,.bool false],rfl,hb⟩
 · have hl:∀ a,(loadCells a 0).run Tryz.prog w = .ok #[] w:=fun a=>by
    have:=run_loadCells_list (P:=Tryz.prog) w a [] (fun j v h=>by simp at h)
    simpa using this
   cases hq:Tryz.prog.info? 30 with
   | none=>have:=dS;rw [hq] at this;cases this
   | some i=>cases s<;>simp [Builtin.copy_,run_underlying Tryz.underlying23,Builtin.lenOf,Builtin.firstCells,sizeOf,typeInfo,hq,hl,storeCells]
 · exact ⟨none,[],false,none,[],false,none,[],false,none,[],false,none,[],false,none,[],false,none,[],false,none,[],false,rfl,RatV.zero _,RatV.zero _,RatV.zero _,RatV.zero _⟩
theorem copy_parts1 (w:World) (g b:Nat) (f0 f1 f2 f3:Value) (hb:w.heap[g]?=some (.cells #[f0,f1,f2,f3,.slice none 0 0,.bool false,.slice none 0 0,.bool false,.slice none 0 0,.bool false,.slice none 0 0,.bool false,.slice none 0 0,.bool false,.slice none 0 0,.bool false,.slice none 0 0,.bool false,.slice none 0 0,.bool false] 37 (0,0))) (c:Nat) (r0:Rat) (hq:QSl w (some ⟨b,0,none⟩) 1 [r0]):gM w g f0 f1 f2 f3 1 r0 0 0 0 (some ⟨b,0,none⟩) c:=by
 obtain ⟨s0,x0,b0,s0',x0',b0',c00,c01,c02,c03,h0⟩:=hq.at 0 (by simp)
 have hrun:=U2 (P:=Tryz.prog) w 23 23 3 30 g 4 4 4 ⟨b,0,none⟩ 1 c #[f0,f1,f2,f3,.slice none 0 0,.bool false,.slice none 0 0,.bool false,.slice none 0 0,.bool false,.slice none 0 0,.bool false,.slice none 0 0,.bool false,.slice none 0 0,.bool false,.slice none 0 0,.bool false,.slice none 0 0,.bool false] 37 [.slice s0 x0.length x0.length,.bool b0,.slice s0' x0'.length x0'.length,.bool b0'] 4 Tryz.underlying23 dS hb rfl (fun j v hj=>?_) (by simp) (by simp [Value.oneCell'])
 · refine ⟨_,.agg #[.slice s0 x0.length x0.length,.bool b0,.slice s0' x0'.length x0'.length,.bool b0',.slice none 0 0,.bool false,.slice none 0 0,.bool false,.slice none 0 0,.bool false,.slice none 0 0,.bool false,.slice none 0 0,.bool false,.slice none 0 0,.bool false],hrun,R2 _ _ _, ?_,[.slice s0 x0.length x0.length,.bool b0,.slice s0' x0'.length x0'.length,.bool b0',.slice none 0 0,.bool false,.slice none 0 0,.bool false,.slice none 0 0,.bool false,.slice none 0 0,.bool false,.slice none 0 0,.bool false,.slice none 0 0,.bool false],rfl,setRow_heap w g _ _ _ _ hb⟩
   have hgr:=R2 w g
   exact ⟨_,_,_,_,_,_,none,[],false,none,[],false,none,[],false,none,[],false,none,[],false,none,[],false,rfl,h0.row (hgr _) hb (by decide),RatV.zero _,RatV.zero _,RatV.zero _⟩
 · have hj2:j<4:=by
    rcases Nat.lt_or_ge j 4 with h | h
    · exact h
    · rw [List.getElem?_eq_none (by simpa using h)] at hj;cases hj
   have e:(⟨b,0,none⟩:Addr).add j=⟨b,j,none⟩:=by unfold Addr.add;split<;>simp_all
   rw [e]
   have:j=0\/j=1\/j=2\/j=3:=by omega
   rcases this with rfl | rfl | rfl | rfl
   · cases hj;simpa using c00
   · cases hj;simpa using c01
   · cases hj;simpa using c02
   · cases hj;simpa using c03
theorem copy_parts2 (w:World) (g b:Nat) (f0 f1 f2 f3:Value) (hb:w.heap[g]?=some (.cells #[f0,f1,f2,f3,.slice none 0 0,.bool false,.slice none 0 0,.bool false,.slice none 0 0,.bool false,.slice none 0 0,.bool false,.slice none 0 0,.bool false,.slice none 0 0,.bool false,.slice none 0 0,.bool false,.slice none 0 0,.bool false] 37 (0,0))) (c:Nat) (r0 r1:Rat) (hq:QSl w (some ⟨b,0,none⟩) 2 [r0,r1]):gM w g f0 f1 f2 f3 2 r0 r1 0 0 (some ⟨b,0,none⟩) c:=by
 obtain ⟨s0,x0,b0,s0',x0',b0',c00,c01,c02,c03,h0⟩:=hq.at 0 (by simp)
 obtain ⟨s1,x1,b1,s1',x1',b1',c10,c11,c12,c13,h1⟩:=hq.at 1 (by simp)
 have hrun:=U2 (P:=Tryz.prog) w 23 23 3 30 g 4 4 4 ⟨b,0,none⟩ 2 c #[f0,f1,f2,f3,.slice none 0 0,.bool false,.slice none 0 0,.bool false,.slice none 0 0,.bool false,.slice none 0 0,.bool false,.slice none 0 0,.bool false,.slice none 0 0,.bool false,.slice none 0 0,.bool false,.slice none 0 0,.bool false] 37 [.slice s0 x0.length x0.length,.bool b0,.slice s0' x0'.length x0'.length,.bool b0',.slice s1 x1.length x1.length,.bool b1,.slice s1' x1'.length x1'.length,.bool b1'] 4 Tryz.underlying23 dS hb rfl (fun j v hj=>?_) (by simp) (by simp [Value.oneCell'])
 · refine ⟨_,.agg #[.slice s0 x0.length x0.length,.bool b0,.slice s0' x0'.length x0'.length,.bool b0',.slice s1 x1.length x1.length,.bool b1,.slice s1' x1'.length x1'.length,.bool b1',.slice none 0 0,.bool false,.slice none 0 0,.bool false,.slice none 0 0,.bool false,.slice none 0 0,.bool false],hrun,R2 _ _ _, ?_,[.slice s0 x0.length x0.length,.bool b0,.slice s0' x0'.length x0'.length,.bool b0',.slice s1 x1.length x1.length,.bool b1,.slice s1' x1'.length x1'.length,.bool b1',.slice none 0 0,.bool false,.slice none 0 0,.bool false,.slice none 0 0,.bool false,.slice none 0 0,.bool false],rfl,setRow_heap w g _ _ _ _ hb⟩
   have hgr:=R2 w g
   exact ⟨_,_,_,_,_,_,_,_,_,_,_,_,none,[],false,none,[],false,none,[],false,none,[],false,rfl,h0.row (hgr _) hb (by decide),h1.row (hgr _) hb (by decide),RatV.zero _,RatV.zero _⟩
 · have hj2:j<8:=by
    rcases Nat.lt_or_ge j 8 with h | h
    · exact h
    · rw [List.getElem?_eq_none (by simpa using h)] at hj;cases hj
   have e:(⟨b,0,none⟩:Addr).add j=⟨b,j,none⟩:=by unfold Addr.add;split<;>simp_all
   rw [e]
   have:j=0\/j=1\/j=2\/j=3\/j=4\/j=5\/j=6\/j=7:=by omega
   rcases this with rfl | rfl | rfl | rfl | rfl | rfl | rfl | rfl
   · cases hj;simpa using c00
   · cases hj;simpa using c01
   · cases hj;simpa using c02
   · cases hj;simpa using c03
   · cases hj;simpa using c10
   · cases hj;simpa using c11
   · cases hj;simpa using c12
   · cases hj;simpa using c13
theorem copy_parts3 (w:World) (g b:Nat) (f0 f1 f2 f3:Value) (hb:w.heap[g]?=some (.cells #[f0,f1,f2,f3,.slice none 0 0,.bool false,.slice none 0 0,.bool false,.slice none 0 0,.bool false,.slice none 0 0,.bool false,.slice none 0 0,.bool false,.slice none 0 0,.bool false,.slice none 0 0,.bool false,.slice none 0 0,.bool false] 37 (0,0))) (c:Nat) (r0 r1 r2:Rat) (hq:QSl w (some ⟨b,0,none⟩) 3 [r0,r1,r2]):gM w g f0 f1 f2 f3 3 r0 r1 r2 0 (some ⟨b,0,none⟩) c:=by
 obtain ⟨s0,x0,b0,s0',x0',b0',c00,c01,c02,c03,h0⟩:=hq.at 0 (by simp)
 obtain ⟨s1,x1,b1,s1',x1',b1',c10,c11,c12,c13,h1⟩:=hq.at 1 (by simp)
 obtain ⟨s2,x2,b2,s2',x2',b2',c20,c21,c22,c23,h2⟩:=hq.at 2 (by simp)
 have hrun:=U2 (P:=Tryz.prog) w 23 23 3 30 g 4 4 4 ⟨b,0,none⟩ 3 c #[f0,f1,f2,f3,.slice none 0 0,.bool false,.slice none 0 0,.bool false,.slice none 0 0,.bool false,.slice none 0 0,.bool false,.slice none 0 0,.bool false,.slice none 0 0,.bool false,.slice none 0 0,.bool false,.slice none 0 0,.bool false] 37 [.slice s0 x0.length x0.length,.bool b0,.slice s0' x0'.length x0'.length,.bool b0',.slice s1 x1.length x1.length,.bool b1,.slice s1' x1'.length x1'.length,.bool b1',.slice s2 x2.length x2.length,.bool b2,.slice s2' x2'.length x2'.length,.bool b2'] 4 Tryz.underlying23 dS hb rfl (fun j v hj=>?_) (by simp) (by simp [Value.oneCell'])
 · refine ⟨_,.agg #[.slice s0 x0.length x0.length,.bool b0,.slice s0' x0'.length x0'.length,.bool b0',.slice s1 x1.length x1.length,.bool b1,.slice s1' x1'.length x1'.length,.bool b1',.slice s2 x2.length x2.length,.bool b2,.slice s2' x2'.length x2'.length,.bool b2',.slice none 0 0,.bool false,.slice none 0 0,.bool false],hrun,R2 _ _ _, ?_,[.slice s0 x0.length x0.length,.bool b0,.slice s0' x0'.length x0'.length,.bool b0',.slice s1 x1.length x1.length,.bool b1,.slice s1' x1'.length x1'.length,.bool b1',.slice s2 x2.length x2.length,.bool b2,.slice s2' x2'.length x2'.length,.bool b2',.slice none 0 0,.bool false,.slice none 0 0,.bool false],rfl,setRow_heap w g _ _ _ _ hb⟩
   have hgr:=R2 w g
   exact ⟨_,_,_,_,_,_,_,_,_,_,_,_,_,_,_,_,_,_,none,[],false,none,[],false,rfl,h0.row (hgr _) hb (by decide),h1.row (hgr _) hb (by decide),h2.row (hgr _) hb (by decide),RatV.zero _⟩
 · have hj2:j<12:=by
    rcases Nat.lt_or_ge j 12 with h | h
    · exact h
    · rw [List.getElem?_eq_none (by simpa using h)] at hj;cases hj
   have e:(⟨b,0,none⟩:Addr).add j=⟨b,j,none⟩:=by unfold Addr.add;split<;>simp_all
   rw [e]
   have:j=0\/j=1\/j=2\/j=3\/j=4\/j=5\/j=6\/j=7\/j=8\/j=9\/j=10\/j=11:=by omega
   rcases this with rfl | rfl | rfl | rfl | rfl | rfl | rfl | rfl | rfl | rfl | rfl | rfl
   · cases hj;simpa using c00
   · cases hj;simpa using c01
   · cases hj;simpa using c02
   · cases hj;simpa using c03
   · cases hj;simpa using c10
   · cases hj;simpa using c11
   · cases hj;simpa using c12
   · cases hj;simpa using c13
   · cases hj;simpa using c20
   · cases hj;simpa using c21
   · cases hj;simpa using c22
   · cases hj;simpa using c23
theorem copy_parts4 (w:World) (g b:Nat) (f0 f1 f2 f3:Value) (hb:w.heap[g]?=some (.cells #[f0,f1,f2,f3,.slice none 0 0,.bool false,.slice none 0 0,.bool false,.slice none 0 0,.bool false,.slice none 0 0,.bool false,.slice none 0 0,.bool false,.slice none 0 0,.bool false,.slice none 0 0,.bool false,.slice none 0 0,.bool false] 37 (0,0))) (c:Nat) (r0 r1 r2 r3:Rat) (hq:QSl w (some ⟨b,0,none⟩) 4 [r0,r1,r2,r3]):gM w g f0 f1 f2 f3 4 r0 r1 r2 r3 (some ⟨b,0,none⟩) c:=by
 obtain ⟨s0,x0,b0,s0',x0',b0',c00,c01,c02,c03,h0⟩:=hq.at 0 (by simp)
 obtain ⟨s1,x1,b1,s1',x1',b1',c10,c11,c12,c13,h1⟩:=hq.at 1 (by simp)
 obtain ⟨s2,x2,b2,s2',x2',b2',c20,c21,c22,c23,h2⟩:=hq.at 2 (by simp)
 obtain ⟨s3,x3,b3,s3',x3',b3',c30,c31,c32,c33,h3⟩:=hq.at 3 (by simp)
 have hrun:=U2 (P:=Tryz.prog) w 23 23 3 30 g 4 4 4 ⟨b,0,none⟩ 4 c #[f0,f1,f2,f3,.slice none 0 0,.bool false,.slice none 0 0,.bool false,.slice none 0 0,.bool false,.slice none 0 0,.bool false,.slice none 0 0,.bool false,.slice none 0 0,.bool false,.slice none 0 0,.bool false,.slice none 0 0,.bool false] 37 [.slice s0 x0.length x0.length,.bool b0,.slice s0' x0'.length x0'.length,.bool b0',.slice s1 x1.length x1.length,.bool b1,.slice s1' x1'.length x1'.length,.bool b1',.slice s2 x2.length x2.length,.bool b2,.slice s2' x2'.length x2'.length,.bool b2',.slice s3 x3.length x3.length,.bool b3,.slice s3' x3'.length x3'.length,.bool b3'] 4 Tryz.underlying23 dS hb rfl (fun j v hj=>?_) (by simp) (by simp [Value.oneCell'])
 · refine ⟨_,.agg #[.slice s0 x0.length x0.length,.bool b0,.slice s0' x0'.length x0'.length,.bool b0',.slice s1 x1.length x1.length,.bool b1,.slice s1' x1'.length x1'.length,.bool b1',.slice s2 x2.length x2.length,.bool b2,.slice s2' x2'.length x2'.length,.bool b2',.slice s3 x3.length x3.length,.bool b3,.slice s3' x3'.length x3'.length,.bool b3'],hrun,R2 _ _ _, ?_,[.slice s0 x0.length x0.length,.bool b0,.slice s0' x0'.length x0'.length,.bool b0',.slice s1 x1.length x1.length,.bool b1,.slice s1' x1'.length x1'.length,.bool b1',.slice s2 x2.length x2.length,.bool b2,.slice s2' x2'.length x2'.length,.bool b2',.slice s3 x3.length x3.length,.bool b3,.slice s3' x3'.length x3'.length,.bool b3'],rfl,setRow_heap w g _ _ _ _ hb⟩
   have hgr:=R2 w g
   exact ⟨_,_,_,_,_,_,_,_,_,_,_,_,_,_,_,_,_,_,_,_,_,_,_,_,rfl,h0.row (hgr _) hb (by decide),h1.row (hgr _) hb (by decide),h2.row (hgr _) hb (by decide),h3.row (hgr _) hb (by decide)⟩
 · have hj2:j<16:=by
    rcases Nat.lt_or_ge j 16 with h | h
    · exact h
    · rw [List.getElem?_eq_none (by simpa using h)] at hj;cases hj
   have e:(⟨b,0,none⟩:Addr).add j=⟨b,j,none⟩:=by unfold Addr.add;split<;>simp_all
   rw [e]
   have:j=0\/j=1\/j=2\/j=3\/j=4\/j=5\/j=6\/j=7\/j=8\/j=9\/j=10\/j=11\/j=12\/j=13\/j=14\/j=15:=by omega
   rcases this with rfl | rfl | rfl | rfl | rfl | rfl | rfl | rfl | rfl | rfl | rfl | rfl | rfl | rfl | rfl | rfl
   · cases hj;simpa using c00
   · cases hj;simpa using c01
   · cases hj;simpa using c02
   · cases hj;simpa using c03
   · cases hj;simpa using c10
   · cases hj;simpa using c11
   · cases hj;simpa using c12
   · cases hj;simpa using c13
   · cases hj;simpa using c20
   · cases hj;simpa using c21
   · cases hj;simpa using c22
   · cases hj;simpa using c23
   · cases hj;simpa using c30
   · cases hj;simpa using c31
   · cases hj;simpa using c32
   · cases hj;simpa using c33
end Go.Proofs.YtdgdmicbbfoghaaGreatDoor
