/- What the laws lean on, part 11. -/
import Derived.Below
import Derived.BigCall
import Derived.BigQuiet
import Derived.BigRegion
import Derived.Deep.AppendLies
import Derived.Deep.CutBlock
import Derived.Deep.CutRange
import Derived.Deep.DeepCutAuto
import Derived.Deep.DeepHandedRow
import Derived.Deep.LoopGhost
import Derived.Deep.MidRow
import Derived.Deep.QuietTactic
import Derived.Deep.RegionHeld3
import Derived.Deep.RegionLaw
import Derived.Deep.WholeRow
import Derived.Laws.AppendOwn
import Derived.Laws.Concat
import Derived.Laws.CopyOwn
import Derived.Laws.Externs
import Derived.Laws.IdiomStrings
import Derived.Lib.BitFns
import Derived.Lib.Bytealg
import Derived.Lib.Hide
import Derived.Lib.Slices
import Derived.Lib.Small
import Derived.Lib.Strings
import Derived.Lib.Walk
import Derived.LoopIn
import Derived.LoopN
import Derived.LoopNIn
import Derived.Maps.AppendAt
import Derived.OpenShut
import Derived.OrdersHeld
import Derived.OrdersIn
import Derived.Outline
import Derived.OwnWalk
import Derived.OwnWalkIn
import Derived.ProofKit
import Derived.RangeFuncBound
import Derived.RangeFuncCalls
import Derived.RangeFuncLeaves
import Derived.RangeFuncNested
import Derived.RangeFuncOwn
import Derived.Shelf.Abstract
import Derived.Shelf.Bits.Mul64
import Derived.Shelf.RegionOpen
import Derived.Shelf.Spec.TrailingZeros
import Derived.StillTailTactics
import Derived.TacticsInMore
import Derived.WalkKit
import Derived.WalkLawsBesides
import Derived.WalkSpells
import Derived.Test.YtamdnbbgpacfkaaDoorProg
import Derived.Test.YtamdnbbgpacfkaaDoorRows
import Derived.Test.YtamdnbbgpacfkaaDoorMe10
set_option linter.unusedVariables false
set_option linter.unusedSimpArgs false
set_option maxRecDepth 100000
namespace Go.Proofs.YtamdnbbgpacfkaaDoor.PM
theorem cy_cut (f:Pq->Pq->Int) (h:∀ a b,f b a = - f a b) (u v w:List Pq) (x y:Pq):cyL f (x :: v++[y])+cyL f (u++x :: y :: w)=cyL f (u++x :: v++y :: w):=by
 have key:∀ (s:List Pq) (e:Pq),H5 f (s++x :: (v++y :: (w++[e])))=H5 f (s++[x])+(H5 f (x :: v++[y])+H5 f (y :: (w++[e]))):=fun s e=>by
  rw [R2 f x (v++y :: (w++[e])) s]
  congr 1
  exact R2 f y (w++[e]) (x :: v)
 have key2:∀ (s:List Pq) (e:Pq),H5 f (s++x :: y :: (w++[e]))=H5 f (s++[x])+(f x y+H5 f (y :: (w++[e]))):=fun s e=>by
  rw [R2 f x (y :: (w++[e])) s];rfl
 have one:cyL f (x :: v++[y])=H5 f (x :: v++[y])+f y x:=by
  show H5 f (x :: (v++[y])++[x])=_
  have:x :: (v++[y])++[x]=(x :: v)++[y,x]:=by simp
  rw [this,lF]
 rw [one,h x y]
 cases u with
 | nil=>
   show _+H5 f (x :: (y :: w)++[x])=H5 f (x :: (v++y :: w)++[x])
   have e1:x :: (y :: w)++[x]=[]++x :: y :: (w++[x]):=by simp
   have e2:x :: (v++y :: w)++[x]=[]++x :: (v++y :: (w++[x])):=by simp
   rw [e1,e2,key,key2];omega
 | cons a u=>
   show _+H5 f (a :: (u++x :: y :: w)++[a])=H5 f (a :: (u++x :: v++y :: w)++[a])
   have e1:a :: (u++x :: y :: w)++[a]=(a :: u)++x :: y :: (w++[a]):=by simp
   have e2:a :: (u++x :: v++y :: w)++[a]=(a :: u)++x :: (v++y :: (w++[a])):=by simp
   rw [e1,e2,key,key2];omega
theorem cy_cut1 (f:Pq->Pq->Int) (h:∀ a b,f b a = - f a b) (u w:List Pq) (x:Pq):cyL f [x]+cyL f (u++x :: x :: w)=cyL f (u++x :: w):=by
 have h0:f x x=0:=by have:=h x x;omega
 have key:∀ (s:List Pq) (e:Pq),H5 f (s++x :: x :: (w++[e]))=H5 f (s++x :: (w++[e])):=fun s e=>by
  rw [R2 f x (x :: (w++[e])) s,R2 f x (w++[e]) s]
  show _+(f x x+_)=_
  omega
 have one:cyL f [x]=0:=by show f x x+0=0;omega
 rw [one]
 cases u with
 | nil=>
   have:=key [] x
   show 0+H5 f (x :: (x :: w)++[x])=H5 f (x :: w++[x])
   simpa using this
 | cons a u=>
   have:=key (a :: u) a
   show 0+H5 f (a :: (u++x :: x :: w)++[a])=H5 f (a :: (u++x :: w)++[a])
   simpa using this
theorem winds_cut (u v w:List Pq) (x y p:Pq):S3 (x :: v++[y]) p+S3 (u++x :: y :: w) p=S3 (u++x :: v++y :: w) p:=cy_cut _ (nE _ _) u v w x y
theorem winds_cut1 (u w:List Pq) (x p:Pq):S3 [x] p+S3 (u++x :: x :: w) p=S3 (u++x :: w) p:=cy_cut1 _ (nE _ _) u w x
end Go.Proofs.YtamdnbbgpacfkaaDoor.PM
namespace Go.Proofs.YtamdnbbgpacfkaaDoor
open Go.RowKit Mat Ex PM
theorem kU {P:Program} (w:World) (base:Nat) (t ty e:TypeId) (i:TypeInfo) (z:Value) (size bytes:Nat) (ht:P.underlying t=some (.slice e)) (hi:P.info? e=some i) (hz:i.zero=some z)
 (hsize:i.size=size) (hby:i.bytes=bytes) (hzs:z.cells.size=size) (hsz : 0<size)
 (v:Value) (n:Nat) (xs:List Value) (hown:w.ownsRow base e size v n xs)
 (a:Addr) (m c:Nat) (news:List Value) (hl:news.length=m*size) (hnews:∀ j u,news[j]?=some u->w.cell? (a.add j)=some u) (h1:∀ u ∈ news,u.oneCell'=true)
 (h63:n+m<=maxLen) (hbytes:(n+m)*bytes<=140737488355328) (hbase:base<=w.heap.size) (hm : 0<m) (hcap:∀ s c,v = .slice s n c->c<n+m) :
 ∃ v' w',(Builtin.append_ #[t,t] ty #[v,.slice (some a) m c]).run P w = .ok v' w'/\w'.ownsRow base e size v' (n+m) (xs++news)/\w.grownBy w' none/\v'.ownBlock=some w.heap.size:=by
 subst hsize
 subst hby
 have hsmall:n+m<=9223372036854775807:=by simp only [maxLen] at h63;omega
 have hlen:(xs++news).length=(n+m)*i.size:=by rw [List.length_append,hown.1,hl,Nat.add_mul]
 have grown:∀ (old:Nat),old<n+m -> ∀ (row:Option Nat),
  (w.drew.alloc (.cells (xs.toArray++news.toArray++Builtin.zeroCells z.cells (grownCap w (n+m) old e-(n+m))) e)).ownsRow base e i.size
   (.slice (some ⟨w.heap.size,0,none⟩) (n+m) (grownCap w (n+m) old e)) (n+m) (xs++news) /\
  w.grownBy (w.drew.alloc (.cells (xs.toArray++news.toArray++Builtin.zeroCells z.cells (grownCap w (n+m) old e-(n+m))) e)) row:=by
  intro old ho row
  have hge:=grownCap_ge w (n+m) old e
  have hcm:grownCap w (n+m) old e<=maxLen:=grownCap_le_maxLen w (n+m) old e h63
  refine ⟨⟨hlen,.inr ⟨w.heap.size,_,_,rfl,hbase,heap_alloc_new w.drew _,hge,hcm, ?_, ?_⟩⟩,⟨rfl,rfl,rfl,by simp,fun k hk _=>(World.grownBy_alloc w.drew _ none).block k hk (fun e=>nomatch e)⟩⟩
  · simp only [Array.size_append,List.size_toArray,size_zeroCells,hzs,hown.1,hl, <- Nat.add_mul]
    congr 1
    omega
  · simp only [Array.toList_append,List.append_assoc]
    rw [<- List.append_assoc, <- hlen]
    exact List.take_left
 rcases hown.2 with ⟨rfl,rfl⟩ | ⟨g,cap,cur,rfl,hbg,hg,hnc,hcm,hcs,htake⟩
 · have hx:xs=[]:=List.eq_nil_of_length_eq_zero (by simpa using hown.1)
   subst hx
   have hr:=run_append_nil (P:=P) w t ty e i z ht hi hz a m c news hl hnews (by omega) (by omega) (by have hb:=hbytes;simp only [Nat.zero_add] at hb;omega)
   have hgr:=grown 0 (by omega) none
   simp only [Nat.zero_add,List.nil_append,Array.empty_append] at hgr ⊢
   exact ⟨_,_,hr,hgr.1,hgr.2,rfl⟩
 · have hlt:=hcap _ _ rfl
   have holds:∀ j u,xs[j]?=some u->w.cell? ((⟨g,0,none⟩:Addr).add j)=some u:=hown.cells (g:=g) rfl
   have hr:=run_append_grow (P:=P) w t ty e i z ht hi hz ⟨g,0,none⟩ n cap xs hown.1 holds a m c news hl hnews (by omega) (by omega) (growslice_fits (by omega) hbytes)
   have hgr:=grown cap (by omega) none
   exact ⟨_,_,hr,hgr.1,hgr.2,rfl⟩
theorem bB {α : Type} (kd:N9 α) {t:TypeId} (ht:Tryd.prog.underlying t=some (.slice kd.T)) (hi:∃ i z,Tryd.prog.info? kd.T=some i/\i.zero=some z/\i.size=kd.z/\i.bytes<=1000000/\z.cells.size=kd.z) (hsz : 0<kd.z)
 (hone:∀ W cs d,kd.A W cs d -> ∀ u ∈ cs,u.oneCell'=true) {W:World} {base:Nat} {v u:Value} {l0 l:List α} (h:OwV kd base W v l0) (hcap:∃ s,v = .slice s l0.length l0.length) (hu:RwV kd W u l) (h0:l≠[]) (hn:l0.length+l.length<=1000000) (hb:base<=W.heap.size) {ρ : Operand->Value} {o:Oper} {a b:Operand}
 (ho:o.op = .call ⟨.builtin .append, #[a,b], #[t,t]⟩) (ha : ρ a=v) (hbv : ρ b=u) :
 ∃ v' W',(execOp ρ o).run Tryd.prog W = .ok (.value v') W'/\W.grownBy W' none/\OwV kd base W' v' (l0++l)/\v'.ownBlock=some W.heap.size:=by
 obtain ⟨s,n,c,rfl,hl,hnc,hd⟩:=hu
 obtain ⟨i,z,i1,i2,i3,i4,i5⟩:=hi
 have hex:∀ (x:Value) (W':World),(Builtin.append_ #[t,t] o.type #[v,.slice s n c]).run Tryd.prog W = .ok x W'->(execOp ρ o).run Tryd.prog W = .ok (.value x) W':=fun x W' hr=>by
  simp only [execOp,ho,resolve,invoke,builtin,Sem.run_bind,Sem.run_pure,Result.andThen_ok,List.map_toArray,List.map_cons,List.map_nil,ha,hbv]
  rw [hr];rfl
 obtain ⟨q,off,ys,rfl,hyl,hc,hyA⟩:=hd.resolve_left h0
 obtain ⟨xs,hown,hA⟩:=h
 have hpos:=List.length_pos_iff.2 h0
 obtain ⟨s0,hs0⟩:=hcap
 obtain ⟨v',W',hr,r1,r3,r4⟩:=kU (P:=Tryd.prog) W base t o.type kd.T i z kd.z i.bytes ht i1 i2 i3 rfl i5 hsz v l0.length xs hown ⟨q,off,none⟩ n c ys (by rw [hyl,hl]) (fun j u hj=>by rw [Addr.add_mid];exact hc j u hj) (mU hsz hyl (hone W) hyA)
  (by unfold maxLen;omega) (by have:=Nat.mul_le_mul (show l0.length+n<=1000000 by omega) i4;omega) hb (by omega) (fun s' c' e=>by rw [hs0] at e;cases e;omega)
 have hkp:Keeps G0 W W':=Keeps.grown r3
 have r1:W'.ownsRow base kd.T kd.z v' (l0++l).length (xs++ys):=by rw [List.length_append,hl];exact r1
 exact ⟨v',W',hex _ _ hr,r3,⟨_,r1,mV hown.1 (fun i hi=>kd.keeps (hA i hi) hkp) fun i hi=>kd.keeps (hyA i hi) hkp⟩,r4⟩
theorem X0 {α : Type} (kd:N9 α) {t:TypeId} (ht:Tryd.prog.underlying t=some (.slice kd.T)) (hz:I3 Tryd.prog kd.T=some kd.z) {W:World} {base:Nat} (hb:base<=W.heap.size) {ρ : Operand->Value} {o:Oper} (ho:o.op = .buildSlice t 0 #[]) :
 ∃ v W',(execOp ρ o).run Tryd.prog W = .ok (.value v) W'/\W.grownBy W' none/\OwV kd base W' v ([]:List α)/\v.ownBlock=some W.heap.size /\ ∃ s,v = .slice s 0 0:=by
 refine ⟨.slice (some ⟨W.heap.size,0,none⟩) 0 0,W.alloc (.cells #[] kd.T), ?_,World.grownBy_alloc _ _ _, ?_,rfl,_,rfl⟩
 · have hra:Array.range 0 = #[]:=by decide
   simp [hra,execOp,ho,Instr.buildSlice,Sem.run_bind,run_underlying ht W,Result.andThen_ok,C6 Tryd.prog hz W,Instr.fill,newRow,newObj]
   rfl
 · exact ⟨[],⟨by simp,.inr ⟨W.heap.size,0, #[],rfl,hb,A9 _ _ _ rfl,Nat.le_refl _,Nat.zero_le _,by simp,by simp⟩⟩,fun i hi=>absurd hi (by simp)⟩
section
variable {ρ : Operand->Value} {o:Oper} {W:World}
theorem oT {t el:TypeId} {z:Nat} (hu:Tryd.prog.underlying t=some (.slice el)) (hz:I3 Tryd.prog el=some z) {x:Operand} {lo hi:Option Operand} (ho:o.op = .slice t x lo hi none) {s:Option Addr} {n c i k:Nat} (hx : ρ x = .slice s n c)
 (hlo:lo.map ρ=some (.int .i64 i)\/lo.map ρ=none/\i=0) (hhi:hi.map ρ=some (.int .i64 k)\/hi.map ρ=none/\k=n) (hik:i<=k) (hk:k<=n) (hn:n<=c) :
 (execOp ρ o).run Tryd.prog W = .ok (.value (.slice (if c=i then s else s.map (·.add (i*z))) (k-i) (c-i))) W:=by
 have hb:=bounds_run (P:=Tryd.prog) (W:=W) hlo hhi hik hk hn
 simp only [execOp,ho,hx,Instr.sliceAt,Instr.slice,Sem.run_bind,run_underlying hu W,Result.andThen_ok,Option.map_none,hb,C6 Tryd.prog hz W,Sem.run_pure]
theorem S1 {x:Operand} {lo hi:Option Operand} {v:Value} {l:List G2} {base i k:Nat} (h:GsV base W v l) (ho:o.op = .slice 43 x lo hi none) (hx : ρ x=v)
 (hlo:lo.map ρ=some (.int .i64 i)\/lo.map ρ=none/\i=0) (hhi:hi.map ρ=some (.int .i64 k)\/hi.map ρ=none/\k=l.length) (hik:i<=k) (hk:k<=l.length) :
 ∃ u,(execOp ρ o).run Tryd.prog W = .ok (.value u) W/\GsV base W u ((l.drop i).take (k-i)) /\ ∀ q,fpS u q->fpS v q:=by
 obtain ⟨s,n,c,rfl,hln,hn,h⟩:=h
 subst hln
 have hr:=oT (W:=W) (el:=48) (by kernel_rfl) (z:=2) (by kernel_rfl) ho hx hlo hhi hik hk hn
 have hlen:((l.drop i).take (k-i)).length=k-i:=by simp;omega
 refine ⟨_,hr,⟨_,_,_,rfl,hlen,by omega, ?_⟩, ?_⟩
 · by_cases h0:(l.drop i).take (k-i)=[]
   · exact .inl h0
   · have hpos:=List.length_pos_iff.2 h0
     obtain ⟨b,off,rfl,hb,hc⟩:=h.resolve_left (fun e=>by rw [e] at h0;simp at h0)
     refine .inr ⟨b,off+i*2,by rw [if_neg (by omega),Option.map_some,Addr.add_mid],hb,fun j hj=>?_⟩
     have hj':i+j<l.length:=by omega
     rw [List.getElem_take,List.getElem_drop]
     have:=hc (i+j) hj'
     rw [show off+2*(i+j)=off+i*2+2*j by omega] at this
     exact this
 · rintro q ⟨off,m,c',e⟩
   obtain ⟨e1,e2,e3⟩:=Value.slice.inj e
   rcases h with h | ⟨b,off',rfl,hb,hc⟩
   · rw [h] at hk;simp at hk;omega
   · obtain ⟨n',hn'⟩:∃ n',l.length=n'+1:=⟨l.length-1,by omega⟩
     rw [if_neg (by omega),Option.map_some,Addr.add_mid] at e1
     cases e1
     exact ⟨off',n',c,by rw [hn']⟩
end
section
variable {ρ : Operand->Value} {o:Oper} {W:World}
end
end Go.Proofs.YtamdnbbgpacfkaaDoor
