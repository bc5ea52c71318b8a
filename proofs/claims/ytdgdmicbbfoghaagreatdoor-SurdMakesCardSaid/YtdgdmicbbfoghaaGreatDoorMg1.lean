/- What the laws lean on, part 1. -/
import Derived.Below
import Derived.BigCall
import Derived.Deep.MidRow
import Derived.Deep.WholeRow
import Derived.Laws.AppendOwn
import Derived.LoopN
import Derived.OrdersHeld
import Derived.OrdersIn
import Derived.RangeFuncCalls
import Derived.RangeFuncNested
import Derived.RangeFuncOwn
set_option linter.unusedVariables false
set_option linter.unusedSimpArgs false
set_option maxRecDepth 100000
namespace Go.Proofs.YtdgdmicbbfoghaaGreatDoor.Ex
section
def F9 {α : Type} (d : α):List α->Nat->α
 | [],_=>d
 | x :: _,0=>x
 | _ :: xs,n+1=>F9 d xs n
def kR {α : Type} (d : α):List α->Nat->α->List α
 | [],0,v=>[v]
 | [],n+1,v=>d :: kR d [] n v
 | _ :: xs,0,v=>v :: xs
 | x :: xs,n+1,v=>x :: kR d xs n v
theorem fV {α : Type} (d v : α):∀ (l:List α) (i j:Nat),F9 d (kR d l i v) j=if i=j then v else F9 d l j
 | [],0,0=>rfl
 | [],0,j+1=>by simp [kR,F9]
 | [],i+1,0=>by simp [kR,F9]
 | [],i+1,j+1=>by
   have:=fV d v [] i j
   simp only [kR,F9,this,Nat.add_right_cancel_iff]
 | x :: xs,0,0=>rfl
 | x :: xs,0,j+1=>by simp [kR,F9]
 | x :: xs,i+1,0=>by simp [kR,F9]
 | x :: xs,i+1,j+1=>by
   have:=fV d v xs i j
   simp only [kR,F9,this,Nat.add_right_cancel_iff]
inductive SC where
 | lit (v:Value)
 | an (i c:Nat)
 | ptr (b o:Nat)
 | row (b o n m:Nat)
inductive SV where
 | no
 | v (g:Bool) (cs:List SC)
 | fn (f:FuncId) (cap:List SC)
 | tup (l:List (Bool × List SC))
 | bx (ty:TypeId) (n:Nat) (own:Bool)
 | any (i:Nat)
structure Env where
 an:Nat->Nat->Value
 ad:Nat->Nat
 jk:Nat->Value
def SC.den (σ : Env):SC->Value
 | .lit v=>v
 | .an i c => σ.an i c
 | .ptr b o => .pointer (some ⟨σ.ad b,o,none⟩)
 | .row b o n m => .slice (some ⟨σ.ad b,o,none⟩) n m
def O5 (σ : Env):Bool->List SC->Value
 | true,cs => .agg (cs.map (SC.den σ)).toArray
 | false,[c]=>c.den σ
 | false,_=>undef
def SV.den (σ : Env):SV->Value
 | .v g cs=>O5 σ g cs
 | .fn f cap => .func (.func f) #[] (cap.map (SC.den σ)).toArray
 | .tup l => .tuple (l.map fun p=>O5 σ p.1 p.2).toArray
 | .any i => σ.jk i
 | _=>undef
def jK:Value->SV
 | .agg cs => .v true (cs.toList.map .lit)
 | v => .v false [.lit v]
theorem Y7 (σ : Env) (v:Value):(jK v).den σ=v:=by
 cases v<;>try rfl
 case agg cs=>
  show Value.agg ((cs.toList.map SC.lit).map (SC.den σ)).toArray=_
  rw [List.map_map,show (SC.den σ ∘ SC.lit)=id from rfl,List.map_id]
def SC.ok:SC->Bool
 | .lit v=>v.oneCell'
 | _=>true
inductive Var where
 | t (i:Nat)
 | c (b o:Nat)
 | k (b:Nat)
def Var.eq:Var->Var->Bool
 | .t i,.t j=>i == j
 | .c b o,.c d p=>b == d && o == p
 | .k b,.k d=>b == d
 | _,_=>false
theorem Var.eq_iff (x y:Var):x.eq y=true ↔ x=y:=by
 cases x<;>cases y<;>simp [Var.eq]
instance:DecidableEq Var:=fun x y=>if h:x.eq y=true then isTrue ((Var.eq_iff x y).1 h) else isFalse fun e=>h ((Var.eq_iff x y).2 e)
structure St where
 t:List SV
 m:List (List SV)
 k:List SV
def St.get (S:St):Var->SV
 | .t i=>F9 .no S.t i
 | .c b o=>F9 .no (F9 [] S.m b) o
 | .k b=>F9 .no S.k b
def St.set (S:St) (x:Var) (e:SV):St:=
 match x with
 | .t i => { S with t:=kR .no S.t i e }
 | .c b o => { S with m:=kR [] S.m b (kR .no (F9 [] S.m b) o e) }
 | .k b => { S with k:=kR .no S.k b e }
theorem St.get_set (S:St) (x y:Var) (e:SV):(S.set x e).get y=if x=y then e else S.get y:=by
 cases x<;>cases y<;>simp only [St.set,St.get,fV,reduceCtorEq,if_false,Var.t.injEq,Var.k.injEq,Var.c.injEq]
 rename_i b o d p
 by_cases h:b=d
 · subst h;simp only [if_true,fV,true_and]
 · simp only [h,if_false,false_and]
def St.sets (S:St):List (Var × SV)->St
 | []=>S
 | (x,e) :: r=>(S.set x e).sets r
def D8 (x:Var):List (Var × SV)->Option SV
 | []=>none
 | (y,e) :: r=>match D8 x r with
   | some u=>some u
   | none=>if y.eq x then some e else none
theorem St.get_sets (x:Var):∀ (l:List (Var × SV)) (S:St),(S.sets l).get x=(D8 x l).getD (S.get x)
 | [],S=>rfl
 | (y,e) :: r,S=>by
   rw [St.sets,St.get_sets x r,D8]
   cases D8 x r with
   | some u=>rfl
   | none=>
     simp only [Option.getD_none,St.get_set]
     by_cases h:y=x
     · subst h;simp [(Var.eq_iff y y).2 rfl]
     · have:y.eq x=false:=by
        cases hq:y.eq x with
        | false=>rfl
        | true=>exact absurd ((Var.eq_iff y x).1 hq) h
       simp [h,this]
theorem fT {x:Var} {e:SV} : ∀ {l:List (Var × SV)},D8 x l=some e->(x,e) ∈ l
 | (y,u) :: r,h=>by
   rw [D8] at h
   cases hr:D8 x r with
   | some v=>rw [hr] at h;cases h;exact List.mem_cons_of_mem _ (fT hr)
   | none=>
     rw [hr] at h
     by_cases hq:y.eq x=true
     · simp [hq] at h;subst h;rw [(Var.eq_iff y x).1 hq];exact List.mem_cons_self
     · simp [hq] at h
theorem pT {x:Var} {e:SV} : ∀ {l:List (Var × SV)},D8 x l=none->(x,e) ∉ l
 | [],_=>by simp
 | (y,u) :: r,h=>by
   rw [D8] at h
   cases hr:D8 x r with
   | some v=>rw [hr] at h;cases h
   | none=>
     rw [hr] at h
     by_cases hq:y.eq x=true
     · simp [hq] at h
     · have:=pT (e:=e) hr
       simp only [List.mem_cons,Prod.mk.injEq,not_or]
       exact ⟨fun h=>hq ((Var.eq_iff y x).2 h.1.symm),this⟩
inductive Sh where
 | lit (v:Value)
 | one
 | agg (n:Nat)
 | tup (l:List (Option Value × Nat))
 | fnp (f:FuncId)
 | rw
def Sh.comps (i:Nat):Nat->List (Option Value × Nat)->List (Bool × List SC)
 | _,[]=>[]
 | c,(some v,_) :: r=>(false,[.lit v]) :: Sh.comps i c r
 | c,(none,0) :: r=>(false,[.an i c]) :: Sh.comps i (c+1) r
 | c,(none,n+1) :: r=>(true,(List.range n).map fun j => .an i (c+j)) :: Sh.comps i (c+n) r
def Sh.sv (i:Nat):Sh->SV
 | .lit v=>jK v
 | .one => .v false [.an i 0]
 | .agg n => .v true ((List.range n).map fun c => .an i c)
 | .tup l => .tup (Sh.comps i 0 l)
 | .fnp f => .fn f [.an i 0]
 | .rw => .v false [.an i 0]
def Keeps (prot:TypeId->Bool) (W W':World):Prop:=
 ∀ (b:Nat) (arr:Array Value) (ty:TypeId) (fr:Nat × Nat),prot ty=true->W.heap[b]?=some (Obj.cells arr ty fr)->W'.heap[b]?=some (Obj.cells arr ty fr)
structure Spec (prot:TypeId->Bool) where
 sh:Sh
 F:Value->World->Prop
 fits:∀ v W,F v W -> ∃ f:Nat->Value,(∀ c,(f c).oneCell'=true)/\v=(sh.sv 0).den ⟨fun _=>f,fun _=>0,fun _=>undef⟩
 row:Bool
 fp:Value->World->Nat->Prop
 lasts:∀ v W W',Keeps prot W W'->(∀ q,fp v W q->W'.heap[q]?=W.heap[q]?)->F v W->F v W' /\ ∀ q,fp v W' q->fp v W q
 inb:∀ v W,F v W -> ∀ q,fp v W q->q<W.heap.size
 flat:row=false -> ∀ v W q,¬ fp v W q
def Spec.of {prot:TypeId->Bool} (sh:Sh) (F:Value->World->Prop) (fits:∀ v W,F v W -> ∃ f:Nat->Value,(∀ c,(f c).oneCell'=true)/\v=(sh.sv 0).den ⟨fun _=>f,fun _=>0,fun _=>undef⟩) (lasts:∀ v W W',Keeps prot W W'->F v W->F v W'):Spec prot:=
 ⟨sh,F,fits,false,fun _ _ _=>False,fun v W W' k _ h=>⟨lasts v W W' k h,fun _ h=>h⟩,fun _ _ _ _ h=>h.elim,fun _ _ _ _ h=>h⟩
def Ret (W:World) (F:Value->World->Prop) (e:Ending) (w':World):Prop:=∃ v,e = .returned v/\F v w'/\W.grownBy w' none
end
section
def T3 (P:Program) {α : Type} : Nat->Sem α->Option α
 | _,.pure a=>some a
 | n+1,.program k=>T3 P n (k P)
 | _,_=>none
theorem tA {P:Program} {α : Type} : ∀ (n:Nat) (s:Sem α) (a : α),T3 P n s=some a -> ∀ w,s.run P w = .ok a w
 | n,.pure b,a,h,w=>by
   have:b=a:=by cases n<;>simpa [T3] using h
   rw [<- this];rfl
 | n+1,.program k,a,h,w=>tA n (k P) a (by simpa [T3] using h) w
 | 0,.program k,a,h,w=>by simp [T3] at h
 | n,.load ..,a,h,w=>by cases n<;>simp [T3] at h
 | n,.store ..,a,h,w=>by cases n<;>simp [T3] at h
 | n,.new ..,a,h,w=>by cases n<;>simp [T3] at h
 | n,.shape ..,a,h,w=>by cases n<;>simp [T3] at h
 | n,.freeze ..,a,h,w=>by cases n<;>simp [T3] at h
 | n,.frozen ..,a,h,w=>by cases n<;>simp [T3] at h
 | n,.getObj ..,a,h,w=>by cases n<;>simp [T3] at h
 | n,.setObj ..,a,h,w=>by cases n<;>simp [T3] at h
 | n,.choose ..,a,h,w=>by cases n<;>simp [T3] at h
 | n,.sys ..,a,h,w=>by cases n<;>simp [T3] at h
 | n,.mark ..,a,h,w=>by cases n<;>simp [T3] at h
 | n,.halt ..,a,h,w=>by cases n<;>simp [T3] at h
variable (P:Program)
def aggT (t:TypeId):Option Bool:=
 match P.underlying t with
 | some (.struct _)=>some true
 | some (.array _ _)=>some true
 | some _=>some false
 | none=>none
def S3 (t:TypeId):Option Nat:=(P.info? t).map (·.size)
theorem aK {t:TypeId} {b:Bool} (h:aggT P t=some b) (w:World):(isAgg t).run P w = .ok b w:=by
 unfold aggT at h
 cases hu:P.underlying t with
 | none=>rw [hu] at h;cases h
 | some d=>
   rw [hu] at h
   unfold isAgg
   rw [Sem.run_bind,run_underlying hu w]
   cases d<;>simp at h<;>subst h<;>rfl
theorem H7 {t:TypeId} {n:Nat} (h:S3 P t=some n) (w:World):(sizeOf t).run P w = .ok n w:=by
 unfold S3 at h
 cases hu:P.info? t with
 | none=>rw [hu] at h;cases h
 | some i=>rw [hu] at h;simp at h;simp [sizeOf,typeInfo,hu,h]
def partS (t:TypeId) (cs:List SC) (off:Nat):Option SV:=
 match aggT P t with
 | some true=>match S3 P t with
   | some n=>some (.v true ((cs.drop off).take n))
   | none=>none
 | some false=>match cs[off]? with
   | some c=>some (.v false [c])
   | none=>none
 | none=>none
theorem tB {t:TypeId} {cs:List SC} {off:Nat} {e:SV} (h:partS P t cs off=some e) (σ : Env) (w:World) :
 (part t (cs.map (SC.den σ)).toArray off).run P w = .ok (e.den σ) w:=by
 unfold partS at h
 cases ha:aggT P t with
 | none=>rw [ha] at h;cases h
 | some b=>
   rw [ha] at h
   have hb:=aK P ha w
   cases b
   · simp only at h
     cases hc:cs[off]? with
     | none=>rw [hc] at h;cases h
     | some c=>
       rw [hc] at h;cases h
       simp [part,hb,hc,SV.den,O5]
   · simp only at h
     cases hs:S3 P t with
     | none=>rw [hs] at h;cases h
     | some n=>
       rw [hs] at h;cases h
       simp [part,hb,H7 P hs w,SV.den,O5,List.extract_eq_take_drop,List.map_take,List.map_drop]
def SV.cells:SV->Option (List SC)
 | .v true cs=>some cs
 | .v false [c]=>some [c]
 | _=>none
theorem vS {σ : Env} (h1:∀ n c,(σ.an n c).oneCell'=true) {c:SC} (h:c.ok=true):(c.den σ).oneCell'=true:=by
 cases c with
 | lit v=>exact h
 | an i c=>exact h1 i c
 | ptr b o=>rfl
 | row b o n m=>rfl
theorem lL {σ : Env} {e:SV} {cs:List SC} (h:e.cells=some cs) (h1:∀ n c,(σ.an n c).oneCell'=true) (hok:cs.all SC.ok=true):(e.den σ).cells=(cs.map (SC.den σ)).toArray:=by
 unfold SV.cells at h
 split at h
 · cases h;rfl
 · rename_i c
   cases h
   have:(c.den σ).oneCell'=true:=vS h1 (by simpa using hok)
   show (c.den σ).cells = #[c.den σ]
   cases hq:c.den σ<;>rw [hq] at this<;>first | rfl | cases this
 · cases h
def cL (cells:List SC):Nat->List SC->List SC
 | _,[]=>cells
 | o,c :: r=>cL (cells.set o c) (o+1) r
def dH (place:Nat->Option (Nat × Nat)) (cells:List SC):List (Nat × SV)->Option (List SC)
 | []=>some cells
 | (i,e) :: rest=>match place i,e.cells with
   | some (off,size),some cs=>if cs.length=size/\off+cs.length<=cells.length/\cs.all SC.ok=true then dH place (cL cells off cs) rest else none
   | _,_=>none
theorem lV (σ : Env):∀ (cs cells:List SC) (off k:Nat),((cs.map (SC.den σ)).zipIdx k).foldl (fun A (p:Value × Nat)=>A.setIfInBounds (off+p.2) p.1) (cells.map (SC.den σ)).toArray=((cL cells (off+k) cs).map (SC.den σ)).toArray
 | [],_,_,_=>rfl
 | c :: r,cells,off,k=>by
   have:=lV σ r (cells.set (off+k) c) off (k+1)
   simp only [List.map_cons,List.zipIdx_cons,List.foldl_cons,cL]
   rw [show off+k+1=off+(k+1) from by omega, <- this]
   congr 1
   simp [List.map_set]
theorem fW {σ : Env} (h1:∀ n c,(σ.an n c).oneCell'=true) {place:Nat->Option (Nat × Nat)} : ∀ {l:List (Nat × SV)} {cells out:List SC},dH place cells l=some out ->
 Instr.fill place (cells.map (SC.den σ)).toArray (l.map fun p=>(p.1,p.2.den σ))=some (out.map (SC.den σ)).toArray
 | [],cells,out,h=>by simp [dH] at h;subst h;rfl
 | (i,e) :: rest,cells,out,h=>by
   simp only [dH] at h
   cases hp:place i with
   | none=>rw [hp] at h;cases h
   | some q=>
     obtain ⟨off,size⟩:=q
     cases hc:e.cells with
     | none=>rw [hp,hc] at h;cases h
     | some cs=>
       rw [hp,hc] at h
       simp only at h
       split at h
       · rename_i hq
         obtain ⟨hl,hb,hok⟩:=hq
         have hcd:=lL hc h1 hok
         have ih:=fW h1 h
         simp only [List.map_cons,Instr.fill,hp,hcd]
         have hs:(cs.map (SC.den σ)).toArray.size=size:=by simp [hl]
         have hb2:¬ off+(cs.map (SC.den σ)).toArray.size>(cells.map (SC.den σ)).toArray.size:=by simp;omega
         simp only [hs,ne_eq,not_true_eq_false,decide_false,Bool.false_or]
         rw [if_neg (by simpa [hs] using hb2)]
         have hf:=lV σ cs cells off 0
         rw [Nat.add_zero] at hf
         have hz:(cs.map (SC.den σ)).toArray.zipIdx.foldl (fun A (p:Value × Nat)=>A.setIfInBounds (off+p.2) p.1) (cells.map (SC.den σ)).toArray=((cL cells off cs).map (SC.den σ)).toArray:=by
          rw [<- hf, <- Array.foldl_toList];simp
         rw [hz];exact ih
       · cases h
def fN (P:Program):List Field->Option (List (Nat × Nat))
 | []=>some []
 | f :: r=>match S3 P f.type,fN P r with
   | some n,some l=>some ((f.offset,n) :: l)
   | _,_=>none
theorem mF {P:Program} : ∀ {l:List Field} {m:List (Nat × Nat)},fN P l=some m -> ∀ w,Sem.run P (l.mapM fun f=>do pure (f.offset, <- sizeOf f.type)) w = .ok m w
 | [],m,h,w=>by simp [fN] at h;subst h;rfl
 | f :: r,m,h,w=>by
   simp only [fN] at h
   cases h1:S3 P f.type with
   | none=>rw [h1] at h;cases h
   | some n=>
     cases h2:fN P r with
     | none=>rw [h1,h2] at h;cases h
     | some l=>
       rw [h1,h2] at h;cases h
       rw [List.mapM_cons]
       simp only [Sem.run_bind,H7 P h1 w,Result.andThen_ok,Sem.run_pure,mF h2 w]
def zeroS (P:Program) (t:TypeId):Option (List SC):=match (P.info? t).bind (·.zero) with
 | some z=>some (z.cells.toList.map .lit)
 | none=>none
theorem sD {P:Program} {t:TypeId} {cs:List SC} (h:zeroS P t=some cs) (σ : Env) (w:World):∃ z,(zeroValue t).run P w = .ok z w/\z.cells=(cs.map (SC.den σ)).toArray:=by
 unfold zeroS at h
 split at h
 · rename_i z hz
   cases h
   obtain ⟨i,hi,hiz⟩:=Option.bind_eq_some_iff.1 hz
   refine ⟨z,by simp [zeroValue,typeInfo,hi,hiz], ?_⟩
   rw [List.map_map,show (SC.den σ ∘ SC.lit)=id from rfl,List.map_id]
 · cases h
def evS (S:St):Operand->SV
 | .tmp t=>S.get (.t t)
 | .const v=>jK v
 | .global g => .v false [.lit (.pointer (some ⟨g,0,none⟩))]
 | .func f => .fn f []
def rdO:Operand->List Var
 | .tmp t=>[.t t]
 | _=>[]
def nn:SV->Option SV
 | .no=>none
 | .any _=>none
 | .bx ..=>none
 | e=>some e
def SV.c1:SV->Option SC
 | .v false [c]=>some c
 | _=>none
def SV.lit1:SV->Option Value
 | .v false [.lit u]=>some u
 | _=>none
def litEv (S:St) (x:Operand):Value:=((evS S x).lit1).getD undef
def qT (S:St):List Operand->Option (List SC)
 | []=>some []
 | x :: r=>match (evS S x).c1,qT S r with
   | some c,some l=>some (c :: l)
   | _,_=>none
def notSel:Op->Bool
 | .select ..=>false
 | _=>true
def oE (S:St) (o:Oper):Option SV:=
 if o.op.operands.toList.all (fun x=>((evS S x).lit1).isSome) && notSel o.op then
  match T3 P 40 (execOp (litEv S) o) with
  | some (.value v)=>some (jK v)
  | _=>none
 else none
theorem nn_eq {e u:SV} (h:nn e=some u):e=u:=by cases e<;>simp [nn] at h<;>exact h
theorem cA {e:SV} {c:SC} (h:e.c1=some c):e = .v false [c]:=by
 unfold SV.c1 at h;split at h
 · cases h;rfl
 · cases h
theorem Y3 {e:SV} {v:Value} (h:e.lit1=some v):e = .v false [.lit v]:=by
 unfold SV.lit1 at h;split at h
 · cases h;rfl
 · cases h
def vI (S:St):Option Operand->Option (Option Nat)
 | none=>some none
 | some x=>match (evS S x).lit1 with
   | some (.int _ k)=>if 0<=k then some (some k.toNat) else none
   | _=>none
theorem lM {P:Program} {S:St} {a:Act} {σ : Env} {y:Operand} {l:Option Nat} (h:vI S (some y)=some l) (he:a.eval y=(evS S y).den σ):∃ k:Nat,l=some k /\ ∀ m code (w:World),k<=m->(Instr.sliceBound (a.eval y) m code).run P w = .ok k w:=by
 unfold vI at h
 simp only at h
 split at h
 · rename_i kd k hk
   split at h
   · rename_i h0
     cases h
     rw [Y3 hk] at he
     have he:a.eval y = .int kd k:=he
     refine ⟨k.toNat,rfl,fun m code w hm=>?_⟩
     have : 0<=k/\k<=(m:Int):=⟨h0,by omega⟩
     simp [he,Instr.sliceBound,asIntOf,this]
   · cases h
 · cases h
theorem qN {P:Program} {S:St} {a:Act} {σ : Env} {lo hi:Option Operand} {l h:Option Nat} (hl:vI S lo=some l) (hh:vI S hi=some h) (el:∀ y,lo=some y->a.eval y=(evS S y).den σ) (eh:∀ y,hi=some y->a.eval y=(evS S y).den σ)
 (is:Bool) (n m:Nat) (h1:l.getD 0<=h.getD n) (h2:h.getD n<=m) (w:World):(Instr.sliceBounds is n m (lo.map a.eval) (hi.map a.eval) none).run P w = .ok (l.getD 0,h.getD n,m) w:=by
 cases hi with
 | none=>
   simp [vI] at hh;subst hh
   cases lo with
   | none=>simp [vI] at hl;subst hl;simp [Instr.sliceBounds]
   | some y=>
     obtain ⟨k,rfl,hk⟩:=lM (P:=P) hl (el y rfl)
     simp at h1
     simp [Instr.sliceBounds,hk _ _ w h1]
 | some z=>
   obtain ⟨q,rfl,hq⟩:=lM (P:=P) hh (eh z rfl)
   simp at h1 h2
   cases lo with
   | none=>simp [vI] at hl;subst hl;simp [Instr.sliceBounds,hq _ _ w h2]
   | some y=>
     obtain ⟨k,rfl,hk⟩:=lM (P:=P) hl (el y rfl)
     simp at h1
     simp [Instr.sliceBounds,hq _ _ w h2,hk _ _ w h1]
def cQ (S:St) (l:List (Nat × Operand)):List (Nat × SV):=l.map fun p=>(p.1,evS S p.2)
def oG (S:St) (t:TypeId) (parts:List (Nat × Operand)):Option SV:=
 match zeroS P t,P.underlying t with
 | some cs,some (.struct fs)=>match fN P fs.toList with
   | some l=>(dH (l[·]?) cs (cQ S parts)).map (.v true)
   | none=>none
 | some cs,some (.array _ el)=>match S3 P el with
   | some n=>(dH (fun i=>some (i*n,n)) cs (cQ S parts)).map (.v true)
   | none=>none
 | _,_=>none
def symVal (S:St) (o:Oper):Option SV:=
 match o.op with
 | .build t parts=>oG P S t parts.toList
 | .slice t x lo hi none=>match (evS S x).c1,vI S lo,vI S hi,P.underlying t with
   | some (.row b o n m),some l,some h,some (.slice el)=>match S3 P el with
     | some z=>if l.getD 0<=h.getD n/\h.getD n<=m then some (.v false [.row b (if m=l.getD 0 then o else o+l.getD 0*z) (h.getD n-l.getD 0) (m-l.getD 0)]) else none
     | none=>none
   | some (.ptr b o),some l,some h,some (.array n el)=>match S3 P el with
     | some z=>if l.getD 0<=h.getD n/\h.getD n<=n then some (.v false [.row b (if n=l.getD 0 then o else o+l.getD 0*z) (h.getD n-l.getD 0) (n-l.getD 0)]) else none
     | none=>none
   | _,_,_,_=>none
 | .call ⟨.builtin .len,xs,ats⟩=>match xs.toList,ats.toList with
   | [x],[t]=>match evS S x,P.underlying t with
     | .v false [.row _ _ n _],some (.slice _)=>some (.v false [.lit (.int .i64 n)])
     | .v true _,some (.array n _)=>some (.v false [.lit (.int .i64 n)])
     | _,_=>oE P S o
   | _,_=>oE P S o
 | .move x=>nn (evS S x)
 | .assign x=>nn (evS S x)
 | .pick c a b=>match (evS S c).lit1 with
   | some (.bool t)=>nn (if t then evS S a else evS S b)
   | _=>none
 | .nilCheck x=>match evS S x with
   | .v false [.ptr b o]=>some (.v false [.ptr b o])
   | .fn f c=>some (.fn f c)
   | _=>none
 | .fieldAddr s x i=>match (evS S x).c1,P.underlying s with
   | some (.ptr b o),some (.struct fs)=>match fs[i]? with
     | some f=>match S3 P f.type with
       | some (_+1)=>some (.v false [.ptr b (o+f.offset)])
       | _=>none
     | none=>none
   | _,_=>none
 | .field s x i=>match evS S x,P.underlying s with
   | .v true cs,some (.struct fs)=>match fs[i]? with
     | some f=>partS P f.type cs f.offset
     | none=>none
   | _,_=>none
 | .index s x i=>match evS S x,(evS S i).lit1,P.underlying s with
   | .v true cs,some (.int _ k),some (.array n el)=>match S3 P el with
     | some z=>if 0<=k/\k<n then partS P el cs (k.toNat*z) else none
     | none=>none
   | _,_,_=>none
 | .indexAddr s x i=>match (evS S x).c1,(evS S i).lit1,P.underlying s with
   | some (.ptr b o),some (.int _ k),some (.array n el)=>match S3 P el with
     | some z=>if 0<=k/\k<n then some (.v false [.ptr b (o+k.toNat*z)]) else none
     | none=>none
   | some (.row b o n _),some (.int _ k),some (.slice el)=>match S3 P el with
     | some z=>if 0<=k/\k<n then some (.v false [.ptr b (o+k.toNat*z)]) else none
     | none=>none
   | _,_,_=>none
 | .extract x i=>match evS S x with
   | .tup l=>match l[i]? with
     | some p=>some (.v p.1 p.2)
     | none=>none
   | _=>none
 | .makeFunc (.func f) first cap=>if first.size=0 then (qT S cap.toList).map (.fn f) else none
 | _=>oE P S o
theorem tX {S:St} {a:Act} {σ : Env} : ∀ {l:List Operand} {cs:List SC},qT S l=some cs->(∀ x ∈ l,a.eval x=(evS S x).den σ)->l.map a.eval=cs.map (SC.den σ)
 | [],cs,h,_=>by simp [qT] at h;subst h;rfl
 | x :: r,cs,h,he=>by
   simp only [qT] at h
   cases hc:(evS S x).c1 with
   | none=>rw [hc] at h;cases h
   | some c=>
     cases hr:qT S r with
     | none=>rw [hc,hr] at h;cases h
     | some l=>
       rw [hc,hr] at h;cases h
       have h1:=he x (by simp)
       rw [cA hc] at h1
       simp only [List.map_cons,h1,tX hr (fun y hy=>he y (by simp [hy]))]
       rfl
theorem notSel_ne {op:Op} (h:notSel op=true):∀ cs b,op ≠ .select cs b:=fun cs b e=>by subst e;simp [notSel] at h
theorem O7 {S:St} {o:Oper} {e:SV} (h:oE P S o=some e) {a:Act} {σ : Env} (he:∀ x ∈ o.op.operands.toList,a.eval x=(evS S x).den σ) (w:World) :
 (execOp a.eval o).run P w = .ok (.value (e.den σ)) w:=by
 unfold oE at h
 split at h
 · rename_i hc
   simp only [Bool.and_eq_true,List.all_eq_true] at hc
   split at h
   · rename_i v hq
     cases h
     have:execOp a.eval o=execOp (litEv S) o:=execOp_congr o (notSel_ne hc.2) fun x hx=>by
      rw [he x (by simpa using hx)]
      obtain ⟨u,hu⟩:=Option.isSome_iff_exists.1 (hc.1 x (by simpa using hx))
      rw [litEv,hu,Y3 hu];rfl
     rw [this,tA _ _ _ hq w,Y7]
   · cases h
 · cases h
theorem uL {S:St} {t:TypeId} {parts:Array (Nat × Operand)} {e:SV} (h:oG P S t parts.toList=some e) {a:Act} {σ : Env} (h1:∀ n c,(σ.an n c).oneCell'=true) (he:∀ p ∈ parts.toList,a.eval p.2=(evS S p.2).den σ) (w:World) :
 (Instr.build t (parts.map fun (i,x)=>(i,a.eval x))).run P w = .ok (e.den σ) w:=by
 have hm:(parts.map fun (i,x)=>(i,a.eval x)).toList=(cQ S parts.toList).map fun p=>(p.1,p.2.den σ):=by
  rw [Array.toList_map,cQ,List.map_map]
  exact List.map_congr_left fun p hp=>by simp only [Function.comp,he p hp]
 unfold oG at h
 split at h
 · rename_i cs fs hz hu
   obtain ⟨z,hz1,hz2⟩:=sD hz σ w
   split at h
   · rename_i l hl
     cases hf:dH (l[·]?) cs (cQ S parts.toList) with
     | none=>rw [hf] at h;cases h
     | some out=>
       rw [hf] at h;cases h
       have hfr:=fW (σ := σ) h1 hf
       have hpl:=mF hl w
       simp only [Instr.build,Sem.run_bind,hz1,Result.andThen_ok,run_underlying hu w,Array.mapM_eq_mapM_toList,Sem.run_map,hpl,hm,hz2]
       have:(fun (x:Nat)=>l.toArray[x]?)=(fun (x:Nat)=>l[x]?):=by funext x;simp
       rw [this,hfr];rfl
   · cases h
 · rename_i cs n0 el hz hu
   obtain ⟨z,hz1,hz2⟩:=sD hz σ w
   split at h
   · rename_i n hn
     cases hf:dH (fun i=>some (i*n,n)) cs (cQ S parts.toList) with
     | none=>rw [hf] at h;cases h
     | some out=>
       rw [hf] at h;cases h
       have hfr:=fW (σ := σ) h1 hf
       simp only [Instr.build,Sem.run_bind,hz1,Result.andThen_ok,run_underlying hu w,H7 P hn w,hm,hz2,hfr]
       rfl
   · cases h
 · cases h
theorem symVal_run {S:St} {o:Oper} {e:SV} (h:symVal P S o=some e) {a:Act} {σ : Env} (h1:∀ n c,(σ.an n c).oneCell'=true) (he:∀ x ∈ o.op.operands.toList,a.eval x=(evS S x).den σ) (w:World) :
 (execOp a.eval o).run P w = .ok (.value (e.den σ)) w:=by
 obtain ⟨dst,op,type,pos,after,guard⟩:=o
 unfold symVal at h
 cases op<;>simp only at h
 case build t parts=>
  have:=uL P h h1 (fun p hp=>he p.2 (by simp only [Op.operands];exact List.mem_map.2 ⟨p,hp,rfl⟩)) w
  simp only [execOp,Sem.run_bind,this];rfl
 case slice t x lo hi mx=>
  cases mx with
  | some y=>exact O7 P h he w
  | none=>
    have h1':=he x (by simp [Op.operands])
    have hlo:∀ y,lo=some y->a.eval y=(evS S y).den σ:=fun y hy=>he y (by subst hy;simp [Op.operands])
    have hhi:∀ y,hi=some y->a.eval y=(evS S y).den σ:=fun y hy=>he y (by subst hy;simp [Op.operands])
    simp only at h
    split at h
    · rename_i b o n m l q el hx hl hh hu
      rw [cA hx] at h1'
      have h1':a.eval x = .slice (some ⟨σ.ad b,o,none⟩) n m:=h1'
      split at h
      · rename_i z hz
        split at h
        · rename_i hq
          cases h
          have hb:=qN (P:=P) hl hh hlo hhi true n m hq.1 hq.2 w
          simp only [execOp,Option.map_none,Instr.sliceAt,Sem.run_bind,run_underlying hu w,Result.andThen_ok,Instr.slice,h1',hb,H7 P hz w,Sem.run_pure]
          simp only [SV.den,O5,SC.den]
          split
          · rename_i hc;simp [hc]
          · rename_i hc;simp [hc,Addr.add_mid]
        · cases h
      · cases h
    · rename_i b o l q n el hx hl hh hu
      rw [cA hx] at h1'
      have h1':a.eval x = .pointer (some ⟨σ.ad b,o,none⟩):=h1'
      split at h
      · rename_i z hz
        split at h
        · rename_i hq
          cases h
          have hb:=qN (P:=P) hl hh hlo hhi false n n hq.1 hq.2 w
          simp only [execOp,Option.map_none,Instr.sliceAt,Sem.run_bind,run_underlying hu w,Result.andThen_ok,h1',Instr.sureAddr,hb,H7 P hz w,Sem.run_pure]
          simp only [SV.den,O5,SC.den]
          split
          · rename_i hc;simp [hc]
          · rename_i hc;simp [hc,Addr.add_mid]
        · cases h
      · cases h
    · cases h
 case call c=>
  obtain ⟨callee,xs,ats⟩:=c
  cases callee with
  | value g=>exact O7 P h he w
  | invoke r m=>exact O7 P h he w
  | builtin bi=>
    cases bi<;>try exact O7 P h he w
    simp only at h
    split at h
    · rename_i x t hx ht
      have hxs:xs = #[x]:=by rw [<- Array.toList_inj,hx]
      have hts:ats = #[t]:=by rw [<- Array.toList_inj,ht]
      have h1':=he x (by simp [Op.operands,Call.operands,hxs])
      split at h
      · rename_i b o n m el hx hu
        rw [hx] at h1'
        have h1':a.eval x = .slice (some ⟨σ.ad b,o,none⟩) n m:=h1'
        cases h
        simp [execOp,hxs,hts,resolve,invoke,builtin,Builtin.len_,run_underlying hu w,h1',SV.den,O5,SC.den,goInt]
      · rename_i cs n el hx hu
        cases h
        simp [execOp,hxs,hts,resolve,invoke,builtin,Builtin.len_,run_underlying hu w,SV.den,O5,SC.den,goInt]
      · exact O7 P h he w
    · exact O7 P h he w
 case move x=>
  have:=he x (by simp [Op.operands])
  rw [nn_eq h] at this;simp [execOp,this]
 case assign x=>
  have:=he x (by simp [Op.operands])
  rw [nn_eq h] at this;simp [execOp,this]
 case pick c x y=>
  have h1:=he c (by simp [Op.operands])
  have h2:=he x (by simp [Op.operands])
  have h3:=he y (by simp [Op.operands])
  split at h
  · rename_i t ht
    rw [Y3 ht] at h1
    have h1:a.eval c = .bool t:=h1
    cases t
    · have:=nn_eq h;simp at this;rw [this] at h3;simp [execOp,h1,asBool,h3]
    · have:=nn_eq h;simp at this;rw [this] at h2;simp [execOp,h1,asBool,h2]
  · cases h
 case nilCheck x=>
  have h1:=he x (by simp [Op.operands])
  split at h
  · rename_i b o hx;cases h;rw [hx] at h1
    have h1:a.eval x = .pointer (some ⟨σ.ad b,o,none⟩):=h1
    simp [execOp,h1];rfl
  · rename_i f c hx;cases h;rw [hx] at h1
    have h1:a.eval x = .func (.func f) #[] (c.map (SC.den σ)).toArray:=h1
    simp [execOp,h1];rfl
  · cases h
 case fieldAddr s x i=>
  have h1:=he x (by simp [Op.operands])
  split at h
  · rename_i b o fs hx hu
    rw [cA hx] at h1
    have h1:a.eval x = .pointer (some ⟨σ.ad b,o,none⟩):=h1
    split at h
    · rename_i f hf
      split at h
      · rename_i n hn
        cases h
        have hz:=H7 P hn w
        simp [execOp,h1,Instr.fieldAt,run_underlying hu w,hf,Instr.sureAddr,fieldPlace,hz,Addr.add_mid]
        rfl
      · cases h
    · cases h
  · cases h
 case field s x i=>
  have h1:=he x (by simp [Op.operands])
  split at h
  · rename_i cs fs hx hu
    rw [hx] at h1
    have h1:a.eval x = .agg (cs.map (SC.den σ)).toArray:=h1
    split at h
    · rename_i f hf
      have:=tB P h σ w
      simp only [execOp,h1,Instr.field,Sem.run_bind,run_underlying hu w,Result.andThen_ok,hf,asAgg,Sem.run_pure,this]
    · cases h
  · cases h
 case index s x i=>
  have h1:=he x (by simp [Op.operands])
  have h2:=he i (by simp [Op.operands])
  split at h
  · rename_i cs kk k n el hx hi hu
    rw [hx] at h1
    have h1:a.eval x = .agg (cs.map (SC.den σ)).toArray:=h1
    rw [Y3 hi] at h2
    have h2:a.eval i = .int kk k:=h2
    split at h
    · rename_i z hz
      split at h
      · rename_i hk
        have:=tB P h σ w
        simp only [execOp,h1,h2,Instr.index,asIntOf,Sem.run_bind,Sem.run_pure,run_underlying hu w,Result.andThen_ok,hk,and_self,if_true,H7 P hz w,this]
      · cases h
    · cases h
  · cases h
 case indexAddr s x i=>
  have h1:=he x (by simp [Op.operands])
  have h2:=he i (by simp [Op.operands])
  split at h
  · rename_i b o kk k n el hx hi hu
    rw [cA hx] at h1
    have h1:a.eval x = .pointer (some ⟨σ.ad b,o,none⟩):=h1
    rw [Y3 hi] at h2
    have h2:a.eval i = .int kk k:=h2
    split at h
    · rename_i z hz
      split at h
      · rename_i hk
        cases h
        simp [execOp,h1,h2,Instr.indexAt,asIntOf,run_underlying hu w,hk,H7 P hz w,Instr.sureAddr,Addr.add_mid]
        rfl
      · cases h
    · cases h
  · rename_i b off n m kk k el hx hi hu
    rw [cA hx] at h1
    have h1:a.eval x = .slice (some ⟨σ.ad b,off,none⟩) n m:=h1
    rw [Y3 hi] at h2
    have h2:a.eval i = .int kk k:=h2
    split at h
    · rename_i z hz
      split at h
      · rename_i hk
        cases h
        simp [execOp,h1,h2,Instr.indexAt,asIntOf,run_underlying hu w,hk,H7 P hz w,Instr.sureAddr,Addr.add_mid]
        rfl
      · cases h
    · cases h
  · cases h
 case extract x i=>
  have h1:=he x (by simp [Op.operands])
  split at h
  · rename_i l hx
    rw [hx] at h1
    have h1:a.eval x = .tuple (l.map fun p=>O5 σ p.1 p.2).toArray:=h1
    split at h
    · rename_i p hp
      cases h
      simp [execOp,h1,Instr.extract,hp]
      rfl
    · cases h
  · cases h
 case makeFunc fn first cap=>
  cases fn<;>simp only at h<;>try exact O7 P h he w
  rename_i f
  split at h
  · rename_i hz
    cases hc:qT S cap.toList with
    | none=>rw [hc] at h;cases h
    | some cs=>
      rw [hc] at h;cases h
      have:=tX hc (a:=a) (σ := σ) (fun x hx=>he x (by simp [Op.operands];right;simpa using hx))
      have h0:first = #[]:=by simpa using hz
      have h2:Array.map a.eval cap=(cs.map (SC.den σ)).toArray:=by rw [<- this, <- Array.toList_map]
      simp [execOp,Instr.makeFunc,h0,h2]
      rfl
  · cases h
 all_goals exact O7 P h he w
end
section
inductive Ask where
 | fn (f:FuncId)
 | op (p:Op) (ty:TypeId)
 | opw (p:Op) (ty:TypeId)
 | opa (p:Op) (ty:TypeId)
def isApp:Op->Bool
 | .call c=>match c.callee with
   | .builtin .append=>true
   | _=>false
 | _=>false
def isNew:Op->Bool
 | .buildSlice _ _ _=>true
 | _=>false
inductive Ac where
 | pure
 | alloc (b:Nat) (ty:TypeId) (cells:List SC)
 | store (b o:Nat) (cells:List SC)
 | call (n:Nat) (f:Ask) (args:List SV) (needs:List (Nat × TypeId × List SC))
def pU:Ac->Bool
 | .call _ (.opw _ _) _ _=>true
 | _=>false
structure Eff where
 wr:List (Var × SV)
 rd:List Var
 ac:Ac
def M4 (b:Nat):Nat->List SC->List (Var × SV)
 | _,[]=>[]
 | o,c :: r=>(.c b o,.v false [c]) :: M4 b (o+1) r
def mM (S:St) (b:Nat):Nat->Nat->Option (List SC)
 | _,0=>some []
 | o,n+1=>match (S.get (.c b o)).c1,mM S b (o+1) n with
   | some c,some l=>some (c :: l)
   | _,_=>none
def tV (b:Nat):Nat->Nat->List Var
 | _,0=>[]
 | o,n+1 => .c b o :: tV b (o+1) n
def Sh.noRw:Sh->Bool
 | .rw=>false
 | _=>true
def qP (o:Oper) (s:Sh):Ask:=if (isApp o.op && s.noRw)=true then .opw o.op o.type else if (isNew o.op || isApp o.op)=true then .opa o.op o.type else .op o.op o.type
def SV.isVal:SV->Bool
 | .no=>false
 | .any _=>false
 | .bx ..=>false
 | _=>true
def eI (o:Oper) (e:SV):List (Var × SV):=match o.dst with | some d=>[(.t d,e)] | none=>[]
def unSV:SV := .v false [.lit undef]
def fnOK (P:Program) (f:FuncId):Bool:=match P.funcs[f]? with
 | some fn => !(fn.name == "runtime.NumGoroutine") && fn.body.isSome
 | none=>false
def scBox:SC->List Nat
 | .ptr b _=>[b]
 | .row b _ _ _=>[b]
 | _=>[]
def SV.boxes:SV->List Nat
 | .v _ cs=>cs.flatMap scBox
 | .fn _ cap=>cap.flatMap scBox
 | _=>[]
def N9 (S:St):List Nat->Option (List (Nat × TypeId × List SC))
 | []=>some []
 | b :: r=>match S.get (.k b) with
   | .bx ty n _=>match mM S b 0 n,N9 S r with
     | some cs,some l=>some ((b,ty,cs) :: l)
     | _,_=>none
   | _=>none
def eA:List (Nat × TypeId × List SC)->List Var
 | []=>[]
 | (b,_,cs) :: r => .k b :: tV b 0 cs.length++eA r
variable (P:Program) (prot:TypeId->Bool)
def Z9 (nc nb:Nat) (o:Oper) (rd:List Var) (ty:TypeId) (cs:List SC) (e:SV):Option (Eff × Nat × Nat):=
 if cs.all SC.ok then some (⟨(.k nb,.bx ty cs.length true) :: (M4 nb 0 cs++eI o e),rd,.alloc nb ty cs⟩,nc,nb+1) else none
def valE (S:St) (nc nb:Nat) (o:Oper) (rd:List Var):Option (Eff × Nat × Nat):=
 match symVal P S o with
 | some e=>some (⟨eI o e,rd,.pure⟩,nc,nb)
 | none=>none
def SV.fn? : SV->Option (FuncId × List SC)
 | .fn f cap=>some (f,cap)
 | .v false [.lit (.func (.func f) xs cap)]=>match xs.toList with
   | []=>some (f,cap.toList.map .lit)
   | _=>none
 | _=>none
def Callee.val? : Callee->Option Operand
 | .value g=>some g
 | _=>none
theorem SV.fn?_den {e:SV} {f:FuncId} {cap:List SC} (σ : Env) (h:e.fn?=some (f,cap)):e.den σ = .func (.func f) #[] (cap.map (SC.den σ)).toArray:=by
 unfold SV.fn? at h
 split at h
 · cases h;rfl
 · rename_i f' xs cap'
   split at h
   · rename_i hx
     cases h
     have hx:xs = #[]:=Array.toList_inj.1 hx
     subst hx
     show Value.func (.func f) #[] cap'=_
     congr 1
     apply Array.toList_inj.1
     simp [List.map_map,Function.comp_def,SC.den]
   · cases h
 · cases h
def callE (S:St) (nc nb:Nat) (sh:Nat->Sh) (o:Oper) (rd:List Var) (c:Call):Option (Eff × Nat × Nat):=
 match Callee.val? c.callee with
 | some g=>match (evS S g).fn? with
   | some q=>
     let args:=c.args.toList.map (evS S)++q.2.map fun c => .v false [c]
     if fnOK P q.1 && args.all SV.isVal then match N9 S (args.flatMap SV.boxes) with
      | some nd=>some (⟨eI o ((sh nc).sv nc),eA nd++rd,.call nc (.fn q.1) args nd⟩,nc+1,nb)
      | none=>none
     else none
   | none=>none
 | none=>valE P S nc nb o rd
def fE (S:St) (nc nb:Nat) (sh:Nat->Sh) (o:Oper) (rd:List Var):Option (Eff × Nat × Nat):=
 match o.op with
 | .alloc ty=>match (P.info? ty).bind (·.zero) with
   | some z=>Z9 nc nb o rd ty (z.cells.toList.map .lit) (.v false [.ptr nb 0])
   | none=>none
 | .box ty x=>match (evS S x).cells with
   | some cs=>Z9 nc nb o rd ty cs (.v false [.ptr nb 0])
   | none=>none
 | .buildSlice t len parts=>match P.underlying t with
   | some (.slice el)=>match S3 P el,(P.info? el).bind (·.zero) with
     | some (z+1),some v=>if (len*(z+1)<=2^24/\0<len)/\(sh nc).noRw=true then
      match dH (fun i=>some (i*(z+1),z+1)) (((Array.range (len*(z+1))).map (v.cells[· % v.cells.size]!)).toList.map .lit) (cQ S parts.toList) with
      | some cs=>Z9 nc nb o rd el cs (.v false [.row nb 0 len len])
      | none=>none
       else none
     | _,_=>none
   | _=>none
 | .load ty x=>match (evS S x).c1,aggT P ty with
   | some (.ptr b off),some true=>match S3 P ty with
     | some n=>match mM S b off n with
       | some cs=>some (⟨eI o (.v true cs),tV b off n++rd,.pure⟩,nc,nb)
       | none=>none
     | none=>none
   | some (.ptr b off),some false=>match (S.get (.c b off)).c1 with
     | some c=>some (⟨eI o (.v false [c]),.c b off :: rd,.pure⟩,nc,nb)
     | none=>none
   | _,_=>none
 | .store ty x y=>match (evS S x).c1,(evS S y).cells,S3 P ty with
   | some (.ptr b off),some cs,some z=>match S.get (.k b) with
     | .bx bty n true=>if z=cs.length/\off+cs.length<=n/\prot bty=false/\cs.all SC.ok=true
      then some (⟨M4 b off cs++eI o unSV,.k b :: rd,.store b off cs⟩,nc,nb) else none
     | _=>none
   | _,_,_=>none
 | .call c=>callE P S nc nb sh o rd c
 | _=>valE P S nc nb o rd
def told (S:St) (nc nb:Nat) (sh:Nat->Sh) (o:Oper) (rd:List Var):Option (Eff × Nat × Nat):=
 let args:=o.op.operands.toList.map (evS S)
 if args.all SV.isVal then match N9 S (args.flatMap SV.boxes) with
  | some nd=>some (⟨eI o ((sh nc).sv nc),eA nd++rd,.call nc (qP o (sh nc)) args nd⟩,nc+1,nb)
  | none=>none
 else none
def hO (S:St) (nc nb:Nat) (sh:Nat->Sh) (o:Oper) (rd:List Var):Option (Eff × Nat × Nat):=
 match fE P prot S nc nb sh o rd with
 | some r=>some r
 | none=>told S nc nb sh o rd
def jN:Op->Bool
 | .defer _=>false
 | _=>true
theorem pN {p:Op} (h:jN p=true):∀ c,p ≠ .defer c:=fun c e=>by rw [e] at h;cases h
def dstOK (o:Oper) (N:Nat):Bool:=jN o.op && match o.dst with
 | some d=>Nat.blt d N
 | none=>true
def pC (o:Oper):List Var:=o.op.operands.toList.flatMap rdO
def sO (ops:Array Oper) (N:Nat) (S:St) (nc nb:Nat) (sh:Nat->Sh) (o:Oper):Option (Eff × Nat × Nat):=
 if dstOK o N then
  match o.guard with
  | none=>hO P prot S nc nb sh o (pC o)
  | some (j,want)=>match (ops[j]?).bind (·.dst) with
    | some d=>if d<N then match (S.get (.t d)).lit1 with
     | some (.bool t)=>if t == want then hO P prot S nc nb sh o (.t d :: pC o)
      else some (⟨eI o unSV,[.t d],.pure⟩,nc,nb)
     | some (.tuple _)=>some (⟨eI o unSV,[.t d],.pure⟩,nc,nb)
     | _=>none
      else none
    | none=>none
 else none
def RepV (base:World) (σ : Env) (a:Act) (W:World):Var->SV->Prop
 | .t i,e=>a.tmps.getD i undef=e.den σ
 | .c b o,e=>∀ c,e = .v false [c]->W.cell? ⟨σ.ad b,o,none⟩=some (c.den σ)
 | .k b,e=>∀ ty n own,e = .bx ty n own->(∃ arr,W.heap[σ.ad b]?=some (.cells arr ty (0,0))/\arr.size=n)/\(own=true->base.heap.size<=σ.ad b)
structure Root where
 dfs:List Deferred
 keep:World
 nb:Nat
 ad:Nat->Nat
def Root.fn (w:World):Root:=⟨[],w,0,fun _=>0⟩
structure Rep (dfs:Root) (base:World) (N:Nat) (σ : Env) (g:Var->SV) (a:Act) (W:World):Prop where
 va:∀ x,RepV base σ a W x (g x)
 sz:a.tmps.size=N
 df:a.defers=dfs.dfs
 gr:base.grownBy W none
 inj:∀ b b' ty n w ty' n' w',g (.k b) = .bx ty n w->g (.k b') = .bx ty' n' w'->σ.ad b=σ.ad b'->b=b'
 cl:∀ b o c,g (.c b o) = .v false [c] -> ∃ ty n w,g (.k b) = .bx ty n w
 one:∀ n c,(σ.an n c).oneCell'=true
 ke:KeepsOthers dfs.keep W
 ad:∀ b,b<dfs.nb->σ.ad b=dfs.ad b
variable {prot}
def Fact (specs:Nat->Spec prot) (σ : Env) (W:World) (n:Nat):Prop:=(specs n).F (((specs n).sh.sv n).den σ) W
def gY (σ : Env) (W:World) (p:Nat × TypeId × List SC):Prop:=W.heap[σ.ad p.1]?=some (.cells (p.2.2.map (SC.den σ)).toArray p.2.1 (0,0))
def upd (g:Var->SV) (wr:List (Var × SV)) (x:Var):SV:=(D8 x wr).getD (g x)
def SC.noA (n:Nat):SC->Bool
 | .an i _=>i != n
 | _=>true
def SC.noB (b:Nat):SC->Bool
 | .ptr c _=>c != b
 | .row c _ _ _=>c != b
 | _=>true
def SV.allC (p:SC->Bool):SV->Bool
 | .v _ cs=>cs.all p
 | .fn _ cs=>cs.all p
 | .tup l=>l.all fun q=>q.2.all p
 | _=>true
theorem qK {σ τ : Env} {p:SC->Bool} (h:∀ c,p c=true->c.den τ=c.den σ) (g:Bool) (cs:List SC) (hc:cs.all p=true):O5 τ g cs=O5 σ g cs:=by
 have hm:cs.map (SC.den τ)=cs.map (SC.den σ):=List.map_congr_left fun c hx=>h c (List.all_eq_true.1 hc c hx)
 cases g
 · match cs,hm with
   | [],_=>rfl
   | [c],hm=>simpa [O5] using hm
   | _ :: _ :: _,_=>rfl
 · simp [O5,hm]
theorem SV.den_congr {σ τ : Env} {p:SC->Bool} (h:∀ c,p c=true->c.den τ=c.den σ) (hj:∀ i, τ.jk i=σ.jk i) (e:SV) (he:e.allC p=true):e.den τ=e.den σ:=by
 cases e with
 | v g cs=>exact qK h g cs he
 | fn f cs=>
   have hm:cs.map (SC.den τ)=cs.map (SC.den σ):=List.map_congr_left fun c hx=>h c (List.all_eq_true.1 he c hx)
   simp [SV.den,hm]
 | tup l=>
   have hm:(l.map fun p=>O5 τ p.1 p.2)=(l.map fun p=>O5 σ p.1 p.2):=List.map_congr_left fun q hx=>qK h q.1 q.2 (List.all_eq_true.1 he q hx)
   simp [SV.den,hm]
 | no=>rfl
 | any i=>exact hj i
 | bx ty n w=>rfl
def Env.setA (σ : Env) (n:Nat) (f:Nat->Value):Env := { σ with an:=fun m c=>if m=n then f c else σ.an m c }
def Env.setB (σ : Env) (b q:Nat):Env := { σ with ad:=fun m=>if m=b then q else σ.ad m }
theorem jD (σ : Env) (n:Nat) (f:Nat->Value) (c:SC) (h:c.noA n=true):c.den (σ.setA n f)=c.den σ:=by
 cases c<;>simp_all [SC.den,SC.noA,Env.setA]
theorem oQ (σ : Env) (b q:Nat) (c:SC) (h:c.noB b=true):c.den (σ.setB b q)=c.den σ:=by
 cases c<;>simp_all [SC.den,SC.noB,Env.setB]
theorem gD {σ τ : Env} {i j:Nat} (h:∀ c, σ.an i c=τ.an j c):∀ (l:List (Option Value × Nat)) (c:Nat),
 ((Sh.comps i c l).map fun p=>O5 σ p.1 p.2)=((Sh.comps j c l).map fun p=>O5 τ p.1 p.2)
 | [],_=>rfl
 | (some v,n) :: r,c=>by
   have:=gD h r c
   simp only [Sh.comps,List.map_cons,this];rfl
 | (none,0) :: r,c=>by
   have:=gD h r (c+1)
   have h0:O5 σ false [.an i c]=O5 τ false [.an j c]:=h c
   simp only [Sh.comps,List.map_cons,this,h0]
 | (none,n+1) :: r,c=>by
   have:=gD h r (c+n)
   have h0:O5 σ true ((List.range n).map fun k => .an i (c+k))=O5 τ true ((List.range n).map fun k => .an j (c+k)):=by
    simp only [O5,List.map_map]
    exact congrArg (fun l:List Value=>Value.agg l.toArray) (List.map_congr_left fun k _=>h (c+k))
   simp only [Sh.comps,List.map_cons,this,h0]
theorem Sh.sv_den (sh:Sh) {σ τ : Env} {i j:Nat} (h:∀ c, σ.an i c=τ.an j c):(sh.sv i).den σ=(sh.sv j).den τ:=by
 cases sh with
 | lit v=>simp only [Sh.sv,Y7]
 | one=>simp [Sh.sv,SV.den,O5,SC.den,h]
 | rw=>simp [Sh.sv,SV.den,O5,SC.den,h]
 | agg n=>
   simp only [Sh.sv,SV.den,O5,List.map_map]
   exact congrArg (fun l:List Value=>Value.agg l.toArray) (List.map_congr_left fun k _=>h k)
 | tup l=>simp only [Sh.sv,SV.den,gD h]
 | fnp f=>simp [Sh.sv,SV.den,SC.den,h]
end
section
variable {P:Program} {prot:TypeId->Bool}
theorem cU (x:Var):∀ (l m:List (Var × SV)),D8 x (l++m)=(D8 x m).or (D8 x l)
 | [],m=>by simp [D8]
 | (y,e) :: r,m=>by
   rw [List.cons_append,D8,cU x r m,D8]
   cases D8 x m<;>cases D8 x r<;>simp
theorem gZ (g:Var->SV) (l m:List (Var × SV)):upd g (l++m)=upd (upd g l) m:=by
 funext x
 unfold upd
 rw [cU]
 cases D8 x m<;>simp
theorem bJ (b i:Nat):∀ (cs:List SC) (o:Nat),D8 (.t i) (M4 b o cs)=none
 | [],_=>rfl
 | c :: r,o=>by rw [M4,D8,bJ b i r];rfl
theorem N6 (b i:Nat):∀ (cs:List SC) (o:Nat),D8 (.k i) (M4 b o cs)=none
 | [],_=>rfl
 | c :: r,o=>by rw [M4,D8,N6 b i r];rfl
theorem K0 (b d p:Nat):∀ (cs:List SC) (o:Nat),(d≠b\/p<o\/o+cs.length<=p)->D8 (.c d p) (M4 b o cs)=none
 | [],_,_=>rfl
 | c :: r,o,h=>by
   have h':d≠b\/p<o+1\/o+1+r.length<=p:=by
    rcases h with h | h | h
    · exact .inl h
    · exact .inr (.inl (by omega))
    · exact .inr (.inr (by simp at h;omega))
   rw [M4,D8,K0 b d p r (o+1) h']
   have:(Var.c b o).eq (.c d p)=false:=by
    simp only [Var.eq,Bool.and_eq_false_iff,beq_eq_false_iff_ne]
    rcases h with h | h | h
    · exact .inl (Ne.symm h)
    · exact .inr (by omega)
    · exact .inr (by simp at h;omega)
   simp [this]
theorem aE (b:Nat):∀ (cs:List SC) (o j:Nat) (c:SC),cs[j]?=some c->D8 (.c b (o+j)) (M4 b o cs)=some (.v false [c])
 | x :: r,o,0,c,h=>by
   simp at h;subst h
   rw [M4,D8,K0 b b _ r (o+1) (.inr (.inl (by omega)))]
   simp [Var.eq]
 | x :: r,o,j+1,c,h=>by
   have:=aE b r (o+1) j c (by simpa using h)
   rw [show o+1+j=o+(j+1) from by omega] at this
   rw [M4,D8,this]
section
variable {dfs:Root} {base:World} {N:Nat} {σ : Env} {g:Var->SV} {a:Act} {W:World}
theorem Rep.put (R:Rep dfs base N σ g a W) (o:Oper) (hd:∀ d,o.dst=some d->d<N) (e:SV):Rep dfs base N σ (upd g (eI o e)) (a.put o.dst (e.den σ)) W:=by
 unfold eI
 cases ho:o.dst with
 | none=>exact R
 | some d=>
   have hx:∀ x,x ≠ .t d->upd g [(.t d,e)] x=g x:=fun x hx=>by
    have:(Var.t d).eq x=false:=by
     cases hq:(Var.t d).eq x with
     | false=>rfl
     | true=>exact absurd ((Var.eq_iff _ x).1 hq).symm hx
    simp [upd,D8,this]
   have hs:upd g [(.t d,e)] (.t d)=e:=by simp [upd,D8,Var.eq]
   refine ⟨fun x=>?_, ?_,R.df,R.gr,fun b b' ty n w ty' n' w' h h'=>R.inj b b' ty n w ty' n' w' (by rwa [hx _ (by simp)] at h) (by rwa [hx _ (by simp)] at h'),
    fun b o c h=>?_,R.one,R.ke,R.ad⟩
   · by_cases h:x = .t d
     · subst h
       rw [hs]
       have hlt:d<a.tmps.size:=by rw [R.sz];exact hd d ho
       simp [RepV,Act.put,hlt]
     · rw [hx x h]
       have:=R.va x
       cases x with
       | t i=>
         have hne:d≠i:=fun e=>h (by rw [e])
         simpa [RepV,Act.put,Array.getElem?_setIfInBounds_ne hne] using this
       | c b o=>exact fun c hc=>this c hc
       | k b=>exact fun ty n w hc=>this ty n w hc
   · simp [Act.put,R.sz]
   · rw [hx _ (by simp)] at h
     obtain ⟨ty,n,w,h2⟩:=R.cl b o c h
     exact ⟨ty,n,w,by rw [hx _ (by simp)];exact h2⟩
theorem Rep.box (R:Rep dfs base N σ g a W) {b:Nat} {ty:TypeId} {n:Nat} {w:Bool} (h:g (.k b) = .bx ty n w) :
 (∃ arr,W.heap[σ.ad b]?=some (.cells arr ty (0,0))/\arr.size=n)/\(w=true->base.heap.size<=σ.ad b):=R.va (.k b) ty n w h
theorem Rep.cell (R:Rep dfs base N σ g a W) {b o:Nat} {c:SC} (h:g (.c b o) = .v false [c]):W.cell? ⟨σ.ad b,o,none⟩=some (c.den σ):=R.va (.c b o) c h
theorem Rep.lt (R:Rep dfs base N σ g a W) {b:Nat} {ty:TypeId} {n:Nat} {w:Bool} (h:g (.k b) = .bx ty n w) : σ.ad b<W.heap.size:=by
 obtain ⟨⟨arr,h1,_⟩,_⟩:=R.box h
 exact (Array.getElem?_eq_some_iff.1 h1).1
theorem Rep.alloc (R:Rep dfs base N σ g a W) {nb:Nat} {ty:TypeId} {cs:List SC} (hB:∀ x,(g x).allC (SC.noB nb)=true) (hk:∀ ty n w,g (.k nb) ≠ .bx ty n w) (hcs:cs.all (SC.noB nb)=true) (hz:dfs.nb<=nb) :
 Rep dfs base N (σ.setB nb W.heap.size) (upd g ((.k nb,.bx ty cs.length true) :: M4 nb 0 cs)) a (W.alloc (.cells (cs.map (SC.den σ)).toArray ty)):=by
 have hden:∀ e:SV,e.allC (SC.noB nb)=true->e.den (σ.setB nb W.heap.size)=e.den σ:=fun e=>SV.den_congr (fun c=>oQ σ nb _ c) (fun _=>rfl) e
 have hself:(σ.setB nb W.heap.size).ad nb=W.heap.size:=by simp [Env.setB]
 have hoth:∀ b,b≠nb->(σ.setB nb W.heap.size).ad b=σ.ad b:=fun b h=>by simp [Env.setB,h]
 have gk:upd g ((.k nb,.bx ty cs.length true) :: M4 nb 0 cs) (.k nb) = .bx ty cs.length true:=by
  simp [upd,D8,N6,Var.eq]
 have gk':∀ b,b≠nb->upd g ((.k nb,.bx ty cs.length true) :: M4 nb 0 cs) (.k b)=g (.k b):=fun b h=>by
  simp [upd,D8,N6,Var.eq,Ne.symm h]
 have gt:∀ i,upd g ((.k nb,.bx ty cs.length true) :: M4 nb 0 cs) (.t i)=g (.t i):=fun i=>by
  simp [upd,D8,bJ,Var.eq]
 have gc:∀ b o,b≠nb->upd g ((.k nb,.bx ty cs.length true) :: M4 nb 0 cs) (.c b o)=g (.c b o):=fun b o h=>by
  simp [upd,D8,K0 nb b o cs 0 (.inl h),Var.eq]
 have hnoc:∀ o c,g (.c nb o) ≠ .v false [c]:=fun o c h=>by
  obtain ⟨ty,n,w,h2⟩:=R.cl nb o c h
  exact hk ty n w h2
 have gcn:∀ o c,upd g ((.k nb,.bx ty cs.length true) :: M4 nb 0 cs) (.c nb o) = .v false [c]->cs[o]?=some c:=fun o c h=>by
  by_cases ho:o<cs.length
  · have:=aE nb cs 0 o cs[o] (List.getElem?_eq_getElem ho)
    rw [Nat.zero_add] at this
    simp [upd,D8,this] at h
    rw [List.getElem?_eq_getElem ho,h]
  · have:=K0 nb nb o cs 0 (.inr (.inr (by omega)))
    simp [upd,D8,this,Var.eq] at h
    exact absurd h (hnoc o c)
 have hnew:(W.alloc (.cells (cs.map (SC.den σ)).toArray ty)).heap[W.heap.size]?=some (.cells (cs.map (SC.den σ)).toArray ty (0,0)):=by
  show (W.heap.push _)[W.heap.size]?=_;simp
 refine ⟨fun x=>?_,R.sz,R.df,⟨R.gr.os,R.gr.tape,R.gr.output,by have:=R.gr.size;show _<=(W.heap.push _).size;rw [Array.size_push];omega,fun i hi hr=>?_⟩,fun b b' t n w t' n' w' h h' he=>?_,fun b o c h=>?_,fun n c=>R.one n c,R.ke.trans (KeepsOthers.alloc _ _),fun b hb=>(hoth b (by omega)).trans (R.ad b hb)⟩
 · cases x with
   | t i=>
     have:=R.va (.t i)
     simp only [RepV,gt] at this ⊢
     rw [hden _ (hB _)];exact this
   | c b o=>
     by_cases hb:b=nb
     · subst hb
       intro c he
       have hc:=gcn o c he
       have hcc:c.noB b=true:=List.all_eq_true.1 hcs c (List.mem_of_getElem? hc)
       simp only [World.cell?,hself,hnew,oQ σ b _ c hcc]
       simp [hc]
     · rw [gc b o hb]
       intro c he
       have h:=R.cell he
       have hcc:c.noB nb=true:=by
        have:=hB (.c b o);rw [he] at this;simpa [SV.allC] using this
       rw [hoth b hb,oQ σ nb _ c hcc,World.cell?_alloc_lt _ _ _ (World.block_lt_of_cell? W _ h)]
       exact h
   | k b=>
     by_cases hb:b=nb
     · subst hb
       rw [gk]
       intro t n w he
       cases he
       exact ⟨⟨_,by rw [hself];exact hnew,by simp⟩,fun _=>by rw [hself];exact R.gr.size⟩
     · rw [gk' b hb]
       intro t n w he
       obtain ⟨⟨arr,h1,h2⟩,h3⟩:=R.box he
       rw [hoth b hb]
       exact ⟨⟨arr,by rw [<- h1];exact RowKit.Below.heap_alloc W _ _ (Array.getElem?_eq_some_iff.1 h1).1,h2⟩,h3⟩
 · rw [<- R.gr.block i hi hr]
   exact RowKit.Below.heap_alloc W _ _ (Nat.lt_of_lt_of_le hi R.gr.size)
 · by_cases hb:b=nb
   · by_cases hb':b'=nb
     · rw [hb,hb']
     · rw [gk' b' hb'] at h'
       have:=R.lt h'
       rw [hb,hself,hoth b' hb'] at he
       omega
   · rw [gk' b hb] at h
     by_cases hb':b'=nb
     · have:=R.lt h
       rw [hb',hself,hoth b hb] at he
       omega
     · rw [gk' b' hb'] at h'
       rw [hoth b hb,hoth b' hb'] at he
       exact R.inj b b' _ _ _ _ _ _ h h' he
 · by_cases hb:b=nb
   · exact ⟨_,_,_,by rw [hb];exact gk⟩
   · rw [gc b o hb] at h
     obtain ⟨t,n,w,h2⟩:=R.cl b o c h
     exact ⟨t,n,w,by rw [gk' b hb];exact h2⟩
theorem jT (W:World) (q o:Nat) (v:Value) {arr:Array Value} {ty:TypeId} {fr:Nat × Nat} (h:W.heap[q]?=some (.cells arr ty fr)):(W.setCell ⟨q,o,none⟩ v).heap[q]?=some (.cells (arr.setIfInBounds o v) ty fr):=by
 simp [World.setCell,Array.getElem?_modify,h]
theorem aF (q:Nat):∀ (vs:List Value) (o:Nat) (W:World) (arr:Array Value) (ty:TypeId) (fr:Nat × Nat),W.heap[q]?=some (.cells arr ty fr) ->
 ∃ arr',(W.setCells q o vs).heap[q]?=some (.cells arr' ty fr)/\arr'.size=arr.size
 | [],o,W,arr,ty,fr,h=>⟨arr,h,rfl⟩
 | v :: r,o,W,arr,ty,fr,h=>by
   obtain ⟨arr',h1,h2⟩:=aF q r (o+1) _ _ ty fr (jT W q o v h)
   exact ⟨arr',h1,by rw [h2];simp⟩
theorem X5 (q k:Nat) (hk:k≠q):∀ (vs:List Value) (o:Nat) (W:World),(W.setCells q o vs).heap[k]?=W.heap[k]?
 | [],o,W=>rfl
 | v :: r,o,W=>by rw [World.setCells,X5 q k hk r];exact RowKit.Below.heap_setCell _ _ _ _ (by simpa using hk)
theorem jC (q:Nat):∀ (vs:List Value) (o:Nat) (W:World),(W.setCells q o vs).os=W.os/\(W.setCells q o vs).tape=W.tape/\(W.setCells q o vs).output=W.output/\(W.setCells q o vs).heap.size=W.heap.size
 | [],o,W=>⟨rfl,rfl,rfl,rfl⟩
 | v :: r,o,W=>by
   obtain ⟨h1,h2,h3,h4⟩:=jC q r (o+1) (W.setCell ⟨q,o,none⟩ v)
   exact ⟨h1,h2,h3,by rw [World.setCells,h4];simp [World.setCell]⟩
theorem eC (q:Nat):∀ (vs:List Value) (o:Nat) (W:World),KeepsOthers W (W.setCells q o vs)
 | [],o,W=>KeepsOthers.refl W
 | v :: r,o,W=>(KeepsOthers.setCell W ⟨q,o,none⟩ v).trans (eC q r (o+1) _)
theorem Rep.store (R:Rep dfs base N σ g a W) {b off:Nat} {ty:TypeId} {n:Nat} {cs:List SC} (hk:g (.k b) = .bx ty n true) (hn:off+cs.length<=n) :
 Rep dfs base N σ (upd g (M4 b off cs)) a (W.setCells (σ.ad b) off (cs.map (SC.den σ)))/\W.there (σ.ad b) off cs.length /\ ∀ k,k≠σ.ad b->(W.setCells (σ.ad b) off (cs.map (SC.den σ))).heap[k]?=W.heap[k]?:=by
 obtain ⟨⟨arr,ha,hsz⟩,hown⟩:=R.box hk
 have hthere:W.there (σ.ad b) off cs.length:=fun j hj=>by
  have:off+j<arr.size:=by omega
  simp [World.cell?,World.frozen?,ha,this]
 have gk:∀ d,upd g (M4 b off cs) (.k d)=g (.k d):=fun d=>by simp [upd,N6]
 have gt:∀ i,upd g (M4 b off cs) (.t i)=g (.t i):=fun i=>by simp [upd,bJ]
 have hother:=fun k hk=>X5 (σ.ad b) k hk (cs.map (SC.den σ)) off W
 obtain ⟨f1,f2,f3,f4⟩:=jC (σ.ad b) (cs.map (SC.den σ)) off W
 refine ⟨⟨fun x=>?_,R.sz,R.df,⟨f1.trans R.gr.os,f2.trans R.gr.tape,f3.trans R.gr.output,by rw [f4];exact R.gr.size,fun i hi hr=>?_⟩,fun d d' t m w t' m' w' h h' he=>R.inj d d' _ _ _ _ _ _ (by rwa [gk] at h) (by rwa [gk] at h') he,fun d p c h=>?_,R.one,R.ke.trans (eC _ _ _ _),R.ad⟩,hthere,hother⟩
 · cases x with
   | t i=>rw [gt];exact R.va (.t i)
   | c d p=>
     by_cases hin:d=b/\off<=p/\p<off+cs.length
     · obtain ⟨rfl,h1,h2⟩:=hin
       obtain ⟨j,rfl⟩:∃ j,p=off+j:=⟨p-off,by omega⟩
       have hj:j<cs.length:=by omega
       have hl:=aE d cs off j cs[j] (List.getElem?_eq_getElem hj)
       simp only [upd,hl,Option.getD_some]
       intro c he
       cases he
       rw [World.cell?_setCells_in (σ.ad d) (cs.map (SC.den σ)) off W (fun i hi=>(hthere i (by simpa using hi)).1) j (by simpa using hj)]
       simp
     · have hout:d≠b\/p<off\/off+cs.length<=p:=by omega
       have hg:upd g (M4 b off cs) (.c d p)=g (.c d p):=by simp [upd,K0 b d p cs off hout]
       rw [hg]
       intro c he
       have h:=R.cell he
       rw [World.cell?_setCells_out (σ.ad b) _ off W _ (fun h1 _=>?_)]
       · exact h
       · simp only at h1 ⊢
         rcases hout with hh | hh | hh
         · obtain ⟨t,m,w,h2⟩:=R.cl d p c he
           exact absurd (R.inj d b _ _ _ _ _ _ h2 hk h1) hh
         · exact .inl hh
         · exact .inr (by simpa using hh)
   | k d=>
     rw [gk]
     intro t m w he
     obtain ⟨⟨arr',h1,h2⟩,h3⟩:=R.box he
     refine ⟨?_,h3⟩
     by_cases hd : σ.ad d=σ.ad b
     · obtain ⟨arr2,h4,h5⟩:=aF (σ.ad b) (cs.map (SC.den σ)) off W arr' t (0,0) (by rw [<- hd];exact h1)
       exact ⟨arr2,by rw [hd];exact h4,by rw [h5,h2]⟩
     · exact ⟨arr',by rw [hother _ hd];exact h1,h2⟩
 · rw [<- R.gr.block i hi hr]
   exact hother i (by have:=hown rfl;omega)
 · rw [gk]
   by_cases hin:d=b/\off<=p/\p<off+cs.length
   · exact ⟨_,_,_,by rw [hin.1];exact hk⟩
   · have hout:d≠b\/p<off\/off+cs.length<=p:=by omega
     have hg:upd g (M4 b off cs) (.c d p)=g (.c d p):=by simp [upd,K0 b d p cs off hout]
     exact R.cl d p c (by rwa [hg] at h)
theorem Rep.grow (R:Rep dfs base N σ g a W) {W':World} (hg:W.grownBy W' none) {n:Nat} {f:Nat->Value} (hf:∀ c,(f c).oneCell'=true) (hA:∀ x,(g x).allC (SC.noA n)=true) :
 Rep dfs base N (σ.setA n f) g a W':=by
 have hcell:∀ q o v,W.cell? ⟨q,o,none⟩=some v->W'.cell? ⟨q,o,none⟩=some v:=fun q o v h=>hg.cell h (by simp)
 refine ⟨fun x=>?_,R.sz,R.df,⟨hg.os.trans R.gr.os,hg.tape.trans R.gr.tape,hg.output.trans R.gr.output,Nat.le_trans R.gr.size hg.size,fun i hi hr=>(hg.block i (Nat.lt_of_lt_of_le hi R.gr.size) (by simp)).trans (R.gr.block i hi hr)⟩,R.inj,R.cl,fun m c=>?_,R.ke.trans (KeepsOthers.of_grownBy hg (fun j o e=>nomatch e)),R.ad⟩
 · have h:=R.va x
   have hd:=SV.den_congr (τ := σ.setA n f) (fun c=>jD σ n f c) (fun _=>rfl) (g x) (hA x)
   cases x with
   | t i=>simp only [RepV] at h ⊢;rw [hd];exact h
   | c b o=>
     intro c he
     have hcc:c.noA n=true:=by
      have:=hA (.c b o);rw [he] at this;simpa [SV.allC] using this
     rw [jD σ n f c hcc]
     exact hcell _ _ _ (R.cell he)
   | k b=>
     intro t m w he
     obtain ⟨⟨arr',h1,h2⟩,h3⟩:=R.box he
     exact ⟨⟨arr',(hg.block _ (Array.getElem?_eq_some_iff.1 h1).1 (by simp)).trans h1,h2⟩,h3⟩
 · by_cases hm:m=n
   · simp [Env.setA,hm,hf]
   · simp [Env.setA,hm,R.one]
def Wide (base:World) (old:Nat->Prop) (W W':World):Prop:=base.grownBy W' none/\W.heap.size<=W'.heap.size/\(∀ q,q<W.heap.size -> ¬ old q->W'.heap[q]?=W.heap[q]?)/\KeepsOthers W W'
theorem Rep.wide (R:Rep dfs base N σ g a W) {W':World} {old:Nat->Prop} (hg:Wide base old W W') (hb:∀ b ty n w,g (.k b) = .bx ty n w -> ¬ old (σ.ad b)) {n:Nat} {f:Nat->Value} (hf:∀ c,(f c).oneCell'=true) (hA:∀ x,(g x).allC (SC.noA n)=true) :
 Rep dfs base N (σ.setA n f) g a W':=by
 have hblk:∀ b ty n w,g (.k b) = .bx ty n w->W'.heap[σ.ad b]?=W.heap[σ.ad b]?:=fun b ty n w h=>hg.2.2.1 _ (R.lt h) (hb b ty n w h)
 refine ⟨fun x=>?_,R.sz,R.df,hg.1,R.inj,R.cl,fun m c=>?_,R.ke.trans hg.2.2.2,R.ad⟩
 · have h:=R.va x
   have hd:=SV.den_congr (τ := σ.setA n f) (fun c=>jD σ n f c) (fun _=>rfl) (g x) (hA x)
   cases x with
   | t i=>simp only [RepV] at h ⊢;rw [hd];exact h
   | c b o=>
     intro c he
     have hcc:c.noA n=true:=by
      have:=hA (.c b o);rw [he] at this;simpa [SV.allC] using this
     rw [jD σ n f c hcc]
     obtain ⟨ty,k,w,hk⟩:=R.cl b o c he
     have:=R.cell he
     show W'.cell? ⟨σ.ad b,o,none⟩=_
     unfold World.cell? at this ⊢
     rw [hblk b ty k w hk];exact this
   | k b=>
     intro t m w he
     obtain ⟨⟨arr',h1,h2⟩,h3⟩:=R.box he
     exact ⟨⟨arr',(hblk b t m w he).trans h1,h2⟩,h3⟩
 · by_cases hm:m=n
   · simp [Env.setA,hm,hf]
   · simp [Env.setA,hm,R.one]
end
end
section
variable {P:Program} {prot:TypeId->Bool}
def Own (z:Nat):Ac->(Var->SV)->(Nat->Prop)->Prop
 | .call n _ _ _,g,av=>(∀ x,(g x).allC (SC.noA n)=true) /\ ¬ av n
 | .alloc b _ _,g,_=>(∀ x,(g x).allC (SC.noB b)=true)/\(∀ ty n w,g (.k b) ≠ .bx ty n w)/\z<=b
 | _,_,_=>True
theorem vX {f : FuncId} {fn : Func} (hf : P.funcs[f]? = some fn) (hn : (fn.name == "runtime.NumGoroutine") = false) {c : Code} (hb : fn.body = some c) (args : Array Value) (w : World) :
 (callFunc f args).run P w = .ok (.enter f args) w:=by
 have : ¬ fn.name = "runtime.NumGoroutine" := by simpa using hn
 simp [callFunc,hf,this,hb]
def X7 (σ : Env) (W:World) (nd:List (Nat × TypeId × List SC)):Prop:=(∀ p ∈ nd,gY σ W p) /\ ∀ p ∈ nd,∀ q ∈ nd,p.1≠q.1->σ.ad p.1≠σ.ad q.1
def Ps (σ : Env) (ps:List (Nat × Nat × Bool)):Prop:=∀ p ∈ ps, σ.an p.1 p.2.1 = .bool p.2.2
def Env.val (specs:Nat->Spec prot) (σ : Env) (n:Nat):Value:=((specs n).sh.sv n).den σ
def Old (specs:Nat->Spec prot) (av:Nat->Prop) (σ : Env) (W:World) (q:Nat):Prop:=∃ m,av m/\(specs m).fp (σ.val specs m) W q
def RetS (W:World) (s:Spec prot) (old:Nat->Prop):Ending->World->Prop:=match s.row with
 | false=>Ret W s.F
 | true=>fun e w'=>∃ v,e = .returned v/\s.F v w'/\W.grownBy w' none /\ ∀ q,s.fp v w' q->W.heap.size<=q\/old q
def HasS (W:World) (s:Spec prot) (old:Nat->Prop) (R:Value->Prop):Prop:=match s.row with
 | false=>∃ v,R v/\s.F v W
 | true=>∃ v,R v/\s.F v W /\ ∀ q,s.fp v W q->old q
theorem RetS.un {W:World} {s:Spec prot} {old:Nat->Prop} {e:Ending} {w':World} (h:RetS W s old e w'):∃ v,e = .returned v/\s.F v w'/\W.grownBy w' none /\ ∀ q,s.fp v w' q->W.heap.size<=q\/old q:=by
 unfold RetS at h
 cases hr:s.row with
 | false=>
   rw [hr] at h
   obtain ⟨v,h1,h2,h3⟩:=h
   exact ⟨v,h1,h2,h3,fun q hq=>absurd hq (s.flat hr _ _ _)⟩
 | true=>rw [hr] at h;exact h
theorem HasS.un {W:World} {s:Spec prot} {old:Nat->Prop} {R:Value->Prop} (h:HasS W s old R):∃ v,R v/\s.F v W /\ ∀ q,s.fp v W q->old q:=by
 unfold HasS at h
 split at h
 · rename_i hr
   obtain ⟨v,h1,h2⟩:=h
   exact ⟨v,h1,h2,fun q hq=>absurd hq (s.flat hr _ _ _)⟩
 · exact h
theorem RetS.mono {W:World} {s:Spec prot} {old old':Nat->Prop} (ho:∀ q,old q->old' q) {e:Ending} {w':World} (h:RetS W s old e w'):RetS W s old' e w':=by
 unfold RetS at *
 cases hr:s.row with
 | false=>rw [hr] at h;exact h
 | true=>
   rw [hr] at h
   obtain ⟨v,h1,h2,h3,h4⟩:=h
   exact ⟨v,h1,h2,h3,fun q hq=>(h4 q hq).imp_right (ho q)⟩
theorem HasS.mono {W:World} {s:Spec prot} {old old':Nat->Prop} (ho:∀ q,old q->old' q) {R:Value->Prop} (h:HasS W s old R):HasS W s old' R:=by
 unfold HasS at *
 split at h
 · exact h
 · obtain ⟨v,h1,h2,h3⟩:=h
   exact ⟨v,h1,h2,fun q hq=>ho q (h3 q hq)⟩
def VCa (P:Program) (specs:Nat->Spec prot) (base:World) (av:Nat->Prop) (ps:List (Nat × Nat × Bool)):Ac->Prop
 | .call n (.fn f) args nd=>∀ (σ : Env) (W:World),base.grownBy W none->(∀ m,av m->Fact specs σ W m)->Ps σ ps->X7 σ W nd->Calls P f (args.map (SV.den σ)).toArray W (RetS W (specs n) (Old specs av σ W))
 | .call n (.op p ty) args nd=>∀ (σ : Env) (W:World),base.grownBy W none->(∀ m,av m->Fact specs σ W m)->Ps σ ps->X7 σ W nd -> ∀ (ρ : Operand->Value) (o:Oper),o.op=p->o.type=ty ->
  p.operands.toList.map ρ=args.map (SV.den σ)->HasS W (specs n) (Old specs av σ W) fun v=>(execOp ρ o).run P W = .ok (.value v) W
 | .call n (.opw p ty) args nd=>∀ (σ : Env) (W:World),base.grownBy W none->(∀ m,av m->Fact specs σ W m)->Ps σ ps->X7 σ W nd -> ∀ (ρ : Operand->Value) (o:Oper),o.op=p->o.type=ty ->
  p.operands.toList.map ρ=args.map (SV.den σ) -> ∃ v W',(execOp ρ o).run P W = .ok (.value v) W'/\Wide base (Old specs av σ W) W W'/\Keeps prot W W'/\(specs n).F v W'/\(∀ q,(specs n).fp v W' q->W.heap.size<=q\/Old specs av σ W q) /\
   ∀ m,av m->(specs m).row=true->(specs m).F (σ.val specs m) W' /\ ∀ q,(specs m).fp (σ.val specs m) W' q->(specs m).fp (σ.val specs m) W q
 | .call n (.opa p ty) args nd=>∀ (σ : Env) (W:World),base.grownBy W none->(∀ m,av m->Fact specs σ W m)->Ps σ ps->X7 σ W nd -> ∀ (ρ : Operand->Value) (o:Oper),o.op=p->o.type=ty ->
  p.operands.toList.map ρ=args.map (SV.den σ) -> ∃ v W',(execOp ρ o).run P W = .ok (.value v) W'/\RetS W (specs n) (Old specs av σ W) (.returned v) W'
 | _=>True
theorem VCa.mono {P:Program} {specs:Nat->Spec prot} {base:World} {av av':Nat->Prop} {ps:List (Nat × Nat × Bool)} (ha:∀ m,av m->av' m) {ac:Ac} (hw:pU ac=true -> ∀ m,av' m->av m) (h:VCa P specs base av ps ac):VCa P specs base av' ps ac:=by
 have ho:∀ σ W q,Old specs av σ W q->Old specs av' σ W q:=fun σ W q ⟨m,h1,h2⟩=>⟨m,ha m h1,h2⟩
 cases ac with
 | call n f args nd=>
   cases f with
   | fn f=>exact fun σ W hg hf hp hb=>(h σ W hg (fun m hm=>hf m (ha m hm)) hp hb).mono fun e w' hr=>hr.mono (ho σ W)
   | op p ty=>exact fun σ W hg hf hp hb ρ o h1 h2 h3=>(h σ W hg (fun m hm=>hf m (ha m hm)) hp hb ρ o h1 h2 h3).mono (ho σ W)
   | opw p ty=>
     obtain rfl:av=av':=funext fun m=>propext ⟨ha m,hw rfl m⟩
     exact h
   | opa p ty=>
     intro σ W hg hf hp hb ρ o h1 h2 h3
     obtain ⟨v,W',hr,h4⟩:=h σ W hg (fun m hm=>hf m (ha m hm)) hp hb ρ o h1 h2 h3
     exact ⟨v,W',hr,h4.mono (ho σ W)⟩
 | _=>trivial
def got:Ac->Nat->Prop
 | .call n _ _ _,m=>m=n
 | _,_=>False
def Sep (specs:Nat->Spec prot) (σ : Env) (W:World) (g:Var->SV) (n:Nat):Prop:=∀ b ty k,g (.k b) = .bx ty k true -> ¬ (specs n).fp (σ.val specs n) W (σ.ad b)
def FS (specs:Nat->Spec prot) (σ : Env) (W:World) (g:Var->SV) (n:Nat):Prop:=Fact specs σ W n/\Sep specs σ W g n
theorem Keeps.refl (W:World):Keeps prot W W:=fun _ _ _ _ _ h=>h
theorem Keeps.grown {W W':World} (h:W.grownBy W' none):Keeps prot W W':=fun b arr ty fr _ hb=>
 (h.block b (Array.getElem?_eq_some_iff.1 hb).1 (by simp)).trans hb
theorem Fact.keeps {specs:Nat->Spec prot} {σ τ : Env} {W W':World} {n:Nat} (h:Fact specs σ W n) (hk:Keeps prot W W') (hq:∀ q,(specs n).fp (σ.val specs n) W q->W'.heap[q]?=W.heap[q]?) (ha:∀ c, τ.an n c=σ.an n c) :
 Fact specs τ W' n /\ ∀ q,(specs n).fp (τ.val specs n) W' q->(specs n).fp (σ.val specs n) W q:=by
 have e : τ.val specs n=σ.val specs n:=Sh.sv_den (specs n).sh (σ := τ) (τ := σ) ha
 obtain ⟨h1,h2⟩:=(specs n).lasts _ _ _ hk hq h
 refine ⟨?_,fun q hq=>h2 q (by rw [<- e];exact hq)⟩
 show (specs n).F (τ.val specs n) W'
 rw [e];exact h1
theorem FS.grown {specs:Nat->Spec prot} {σ τ : Env} {W W':World} {g g':Var->SV} {n:Nat} (h:FS specs σ W g n) (hg:W.grownBy W' none) (ha:∀ c, τ.an n c=σ.an n c)
 (hb:∀ b ty k,g' (.k b) = .bx ty k true->(g (.k b) = .bx ty k true/\τ.ad b=σ.ad b)\/W.heap.size<=τ.ad b):FS specs τ W' g' n:=by
 have hin:=(specs n).inb _ _ h.1
 obtain ⟨h1,h2⟩:=h.1.keeps (Keeps.grown hg) (fun q hq=>hg.block q (hin q hq) (by simp)) ha
 refine ⟨h1,fun b ty k hk hf=>?_⟩
 rcases hb b ty k hk with ⟨h3,h4⟩ | h3
 · exact h.2 b ty k h3 (by rw [<- h4];exact h2 _ hf)
 · have:=hin _ (h2 _ hf);omega
theorem gG {S:St} {b:Nat} : ∀ {n o:Nat} {cs:List SC},mM S b o n=some cs->cs.length=n /\ ∀ j c,cs[j]?=some c->S.get (.c b (o+j)) = .v false [c]/\(Var.c b (o+j)) ∈ tV b o n
 | 0,o,cs,h=>by simp [mM] at h;subst h;simp
 | n+1,o,cs,h=>by
   unfold mM at h
   split at h
   · rename_i c l hc hl
     cases h
     obtain ⟨h1,h2⟩:=gG hl
     refine ⟨by simp [h1],fun j c' hj=>?_⟩
     cases j with
     | zero=>simp at hj;subst hj;exact ⟨cA hc,by simp [tV]⟩
     | succ j=>
       obtain ⟨h3,h4⟩:=h2 j c' (by simpa using hj)
       rw [show o+1+j=o+(j+1) from by omega] at h3 h4
       exact ⟨h3,by simp [tV,h4]⟩
   · cases h
theorem jV (W:World):W.grownBy W none:=⟨rfl,rfl,rfl,Nat.le_refl _,fun _ _ _=>rfl⟩
theorem dJ (g:Var->SV) (o:Oper) (e:SV) (b:Nat):upd g (eI o e) (.k b)=g (.k b):=by
 unfold upd eI;cases o.dst<;>simp [D8,Var.eq]
section
variable {dfs:Root} {base:World} {N:Nat} {σ : Env} {g:Var->SV} {a:Act} {W:World}
theorem Rep.boxIs (R:Rep dfs base N σ g a W) {b n:Nat} {ty:TypeId} {w:Bool} {cs:List SC} (hk:g (.k b) = .bx ty n w) (hn:cs.length=n) (hc:∀ j c,cs[j]?=some c->g (.c b j) = .v false [c]):gY σ W (b,ty,cs):=by
 obtain ⟨⟨arr,h1,h2⟩,_⟩:=R.box hk
 unfold gY
 simp only
 rw [h1]
 have:arr=(cs.map (SC.den σ)).toArray:=by
  apply Array.ext
  · simp [h2,hn]
  · intro j hj hj'
    have hjc:j<cs.length:=by simpa using hj'
    have:=R.cell (hc j _ (List.getElem?_eq_getElem hjc))
    simp only [World.cell?,h1,Option.isSome_none,Bool.false_eq_true,if_false] at this
    rw [Array.getElem?_eq_getElem hj] at this
    simpa using this
 rw [this]
theorem needs_is (R:Rep dfs base N σ g a W) {S:St} : ∀ {l:List Nat} {nd:List (Nat × TypeId × List SC)},N9 S l=some nd->(∀ x ∈ eA nd,g x=S.get x) -> ∀ p ∈ nd,gY σ W p
 | [],nd,h,_=>by simp [N9] at h;subst h;simp
 | b :: r,nd,h,hr=>by
   unfold N9 at h
   split at h
   · rename_i ty n w hk
     split at h
     · rename_i cs l hc hl
       cases h
       obtain ⟨h1,h2⟩:=gG hc
       intro p hp
       rcases List.mem_cons.1 hp with rfl | hp
       · refine R.boxIs (w:=w) (by rw [hr (.k b) (by simp [eA])];exact hk) h1 fun j c hj=>?_
         obtain ⟨h3,h4⟩:=h2 j c hj
         rw [Nat.zero_add] at h3 h4
         rw [hr _ (by simp [eA,h1,h4])];exact h3
       · exact needs_is R hl (fun x hx=>hr x (by simp [eA,hx])) p hp
     · cases h
   · cases h
theorem vE {S:St} : ∀ {l:List Nat} {nd:List (Nat × TypeId × List SC)},N9 S l=some nd -> ∀ p ∈ nd,Var.k p.1 ∈ eA nd /\ ∃ ty n w,S.get (.k p.1) = .bx ty n w
 | [],nd,h=>by simp [N9] at h;subst h;simp
 | b :: r,nd,h=>by
   unfold N9 at h
   split at h
   · rename_i ty n w hk
     split at h
     · rename_i cs l hc hl
       cases h
       intro p hp
       rcases List.mem_cons.1 hp with rfl | hp
       · exact ⟨by simp [eA],_,_,_,hk⟩
       · obtain ⟨h1,h2⟩:=vE hl p hp
         exact ⟨by simp [eA,h1],h2⟩
     · cases h
   · cases h
theorem dZ (R:Rep dfs base N σ g a W) {S:St} {l:List Nat} {nd:List (Nat × TypeId × List SC)} (h:N9 S l=some nd) (hr:∀ x ∈ eA nd,g x=S.get x):X7 σ W nd:=
 ⟨needs_is R h hr,fun p hp q hq hne he=>by
  obtain ⟨h1,ty,n,w,h2⟩:=vE h p hp
  obtain ⟨h3,ty',n',w',h4⟩:=vE h q hq
  exact hne (R.inj _ _ _ _ _ _ _ _ (by rw [hr _ h1];exact h2) (by rw [hr _ h3];exact h4) he)⟩
theorem all_one (h1:∀ n c,(σ.an n c).oneCell'=true) {cs:List SC} (hok:cs.all SC.ok=true):∀ v ∈ cs.map (SC.den σ),v.oneCell'=true:=by
 intro v hv
 obtain ⟨c,hc,rfl⟩:=List.mem_map.1 hv
 exact vS h1 (List.all_eq_true.1 hok c hc)
theorem lW {p:SC->Bool} : ∀ {cs cells:List SC} {o:Nat},cs.all p=true->cells.all p=true->(cL cells o cs).all p=true
 | [],_,_,_,h=>h
 | c :: r,cells,o,hc,h=>by
   simp only [List.all_cons,Bool.and_eq_true] at hc
   rw [cL]
   refine lW hc.2 (List.all_eq_true.2 fun x hx=>?_)
   rcases List.mem_or_eq_of_mem_set hx with hx | rfl
   · exact List.all_eq_true.1 h x hx
   · exact hc.1
theorem tP {p:SC->Bool} {place:Nat->Option (Nat × Nat)} : ∀ {l:List (Nat × SV)} {cells out:List SC},dH place cells l=some out->cells.all p=true->(∀ q ∈ l,q.2.allC p=true)->out.all p=true
 | [],cells,out,h,hc,_=>by simp [dH] at h;subst h;exact hc
 | (i,e) :: rest,cells,out,h,hc,hl=>by
   simp only [dH] at h
   split at h
   · rename_i off size cs hp hcs
     split at h
     · refine tP h (lW ?_ hc) fun q hq=>hl q (by simp [hq])
       have:=hl (i,e) (by simp)
       unfold SV.cells at hcs
       split at hcs
       · rename_i he;cases hcs;simp only at this;exact this
       · rename_i he;cases hcs;simp only at this;exact this
       · cases hcs
     · cases h
   · cases h
structure Fc (F:Fence) (dn:Nat) (P:Program):Prop where
 fn:∀ f,F.fn f
 dep:F.depth=none
 calls:∀ {f:FuncId} {args:Array Value} {w:World} {R:Ending->World->Prop},Calls P f args w R->CallsIn F (dn-1) P f args w R
theorem Fc.wide (dn:Nat) (P:Program):Fc Fence.wide dn P:=⟨fun _=>trivial,rfl,fun h=>callsIn_wide.2 h⟩
theorem Fc.round (l dn:Nat) (P:Program):Fc (Fence.wide.inRound l) dn P:=⟨fun _=>trivial,rfl,fun h=>CallsIn.inRound l (callsIn_wide.2 h)⟩
variable {Q:Exit->Act->World->Prop} {K:Act->World->Prop} {F:Fence} {dn:Nat}
theorem dL (fc:Fc F dn P) {o:Oper} (hndf:jN o.op=true) {v:Value} {W':World} (h:(execOp a.eval o).run P W = .ok (.value v) W') (hK:K (a.put o.dst v) W'):o.wpIn F dn P a W K Q:=
 ⟨fun f _=>fc.fn f,by rw [Oper.semAt_eq _ _ _ (pN hndf),h];exact hK⟩
theorem wp_skipped (fc:Fc F dn P) {o:Oper} (hndf:jN o.op=true) {W':World} (h:(execOp a.eval o).run P W = .ok .skip W') (hK:K (a.put o.dst undef) W'):o.wpIn F dn P a W K Q:=
 ⟨fun f _=>fc.fn f,by rw [Oper.semAt_eq _ _ _ (pN hndf),h];exact hK⟩
theorem wp_enter (fc:Fc F dn P) {o:Oper} (hndf:jN o.op=true) {f:FuncId} {args:Array Value} (h:(execOp a.eval o).run P W = .ok (.enter f args) W) {s:Spec prot} {old:Nat->Prop} (hc:Calls P f args W (RetS W s old))
 (hK:∀ v w',s.F v w'->W.grownBy w' none->(∀ q,s.fp v w' q->W.heap.size<=q\/old q)->K (a.put o.dst v) w'):o.wpIn F dn P a W K Q:=by
 refine ⟨fun f _=>fc.fn f, ?_⟩
 rw [Oper.semAt_eq _ _ _ (pN hndf),h]
 show (F.depth.isSome=true->1<=dn)/\CallsIn F (dn-1) P f args W _
 refine ⟨(fun hd=>absurd hd (by rw [fc.dep];simp)),CallsIn.mono (fc.calls hc) fun e w' he=>?_⟩
 obtain ⟨v,rfl,hF,hg,ho⟩:=he.un
 exact hK v w' hF hg ho
theorem kP (fc:Fc F dn P) (R:Rep dfs base N σ g a W) {o:Oper} (hndf:jN o.op=true) (hd:∀ d,o.dst=some d->d<N) {nc nb nc' nb':Nat} {rd:List Var} {ty:TypeId} {cs:List SC} {e:SV} {eff:Eff} (h:Z9 nc nb o rd ty cs e=some (eff,nc',nb')) (u:Value) (hu:e.den (σ.setB nb W.heap.size)=u)
 {specs:Nat->Spec prot} {av:Nat->Prop} (hF:∀ n,av n->FS specs σ W g n) (hown:Own dfs.nb eff.ac g av) (hcs:(∀ x,(g x).allC (SC.noB nb)=true)->cs.all (SC.noB nb)=true)
 (hrun:cs.all SC.ok=true->(execOp a.eval o).run P W = .ok (.value u) (W.alloc (.cells (cs.map (SC.den σ)).toArray ty)))
 (hK:∀ σ' a' W',Rep dfs base N σ' (upd g eff.wr) a' W'->(∀ n,av n\/got eff.ac n->FS specs σ' W' (upd g eff.wr) n)->(∀ n c,¬ got eff.ac n->σ'.an n c=σ.an n c)->K a' W'):o.wpIn F dn P a W K Q:=by
 unfold Z9 at h
 split at h
 · rename_i hok
   cases h
   obtain ⟨h1,h2,h3⟩:=hown
   have RA:=R.alloc (ty:=ty) h1 h2 (hcs h1) h3
   refine dL fc hndf (hrun hok) ?_
   have RP:=RA.put o hd e
   rw [hu, <- gZ] at RP
   refine hK _ _ _ RP (fun n hn=>?_) (fun _ _ _=>rfl)
   rcases hn with hn | hn
   · refine (hF n hn).grown (World.grownBy_alloc _ _ _) (fun _=>rfl) fun b ty' k' hk=>?_
     by_cases hb:b=nb
     · right;rw [hb];simp [Env.setB]
     · left
       refine ⟨?_,by simp [Env.setB,hb]⟩
       rw [<- hk]
       unfold upd eI
       cases o.dst<;>simp [D8,cU,N6,Var.eq,Ne.symm hb]
   · exact hn.elim
 · cases h
theorem ptr_den (σ : Env) (nb q:Nat):SV.den (σ.setB nb q) (.v false [.ptr nb 0]) = .pointer (some ⟨q,0,none⟩):=by simp [SV.den,O5,SC.den,Env.setB]
theorem row_den (σ : Env) (nb q n:Nat):SV.den (σ.setB nb q) (.v false [.row nb 0 n n]) = .slice (some ⟨q,0,none⟩) n n:=by simp [SV.den,O5,SC.den,Env.setB]
theorem lit_noB (b:Nat) (l:List Value):(l.map SC.lit).all (SC.noB b)=true:=by simp [SC.noB]
theorem symRun0_wp (fc:Fc F dn P) {o:Oper} (hndf:jN o.op=true) (hd:∀ d,o.dst=some d->d<N) {S:St} {nc nb nc' nb':Nat} {sh:Nat->Sh} {rd:List Var} {eff:Eff} (h:fE P prot S nc nb sh o rd=some (eff,nc',nb'))
 (hrd0:∀ x ∈ pC o,x ∈ rd) (R:Rep dfs base N σ g a W) (hrd:∀ x ∈ eff.rd,g x=S.get x)
 {specs:Nat->Spec prot} (hsh:∀ n,sh n=(specs n).sh) {av:Nat->Prop} (hF:∀ n,av n->FS specs σ W g n) (hown:Own dfs.nb eff.ac g av) {ps:List (Nat × Nat × Bool)} (hps:Ps σ ps) (hvc:VCa P specs base av ps eff.ac)
 (hK:∀ σ' a' W',Rep dfs base N σ' (upd g eff.wr) a' W'->(∀ n,av n\/got eff.ac n->FS specs σ' W' (upd g eff.wr) n)->(∀ n c,¬ got eff.ac n->σ'.an n c=σ.an n c)->K a' W'):o.wpIn F dn P a W K Q:=by
 have heval:(∀ x ∈ rd,g x=S.get x) -> ∀ x ∈ o.op.operands.toList,a.eval x=(evS S x).den σ:=fun hr x hx=>by
  cases x with
  | tmp t=>
    have hm:(Var.t t) ∈ pC o:=List.mem_flatMap.2 ⟨_,hx,by simp [rdO]⟩
    have:=R.va (.t t)
    rw [hr _ (hrd0 _ hm)] at this
    exact this
  | const v=>exact (Y7 σ v).symm
  | global g=>rfl
  | func f=>rfl
 have hput:∀ (e:SV),(execOp a.eval o).run P W = .ok (.value (e.den σ)) W->eff.wr=eI o e->eff.ac = .pure->o.wpIn F dn P a W K Q:=fun e hr hw hac=>by
  refine dL fc hndf hr (hK σ _ W (by rw [hw];exact R.put o hd e) (fun n hn=>?_) (fun _ _ _=>rfl))
  rcases hn with hn | hn
  · refine ⟨(hF n hn).1,fun b ty k hk=>(hF n hn).2 b ty k ?_⟩
    rw [hw,dJ] at hk;exact hk
  · rw [hac] at hn;exact hn.elim
 have hval:valE P S nc nb o rd=some (eff,nc',nb')->o.wpIn F dn P a W K Q:=fun h=>by
  unfold valE at h
  split at h
  · rename_i e he
    cases h
    exact hput e (symVal_run P he R.one (heval hrd) W) rfl rfl
  · cases h
 unfold fE at h
 split at h
 · rename_i ty hop
   split at h
   · rename_i z hz
     obtain ⟨i,hi,hiz⟩:=Option.bind_eq_some_iff.1 hz
     refine kP fc R hndf hd h _ (ptr_den _ _ _) hF hown (fun _=>lit_noB _ _) (fun hok=>?_) hK
     have hm:((z.cells.toList.map SC.lit).map (SC.den σ)).toArray=z.cells:=by
      rw [List.map_map,show (SC.den σ ∘ SC.lit)=id from rfl,List.map_id]
     rw [hm]
     simp [execOp,hop,Instr.alloc,zeroValue,typeInfo,hi,hiz,newVar,newRow,newObj]
     rfl
   · cases h
 · rename_i ty x hop
   have hx:x ∈ o.op.operands.toList:=by rw [hop];simp [Op.operands]
   split at h
   · rename_i cs hcs
     have hrr:eff.rd=rd:=by
      unfold Z9 at h;split at h
      · cases h;rfl
      · cases h
     have he:=heval (fun y hy=>hrd y (by rw [hrr];exact hy)) x hx
     refine kP fc R hndf hd h _ (ptr_den _ _ _) hF hown (fun hn=>?_) (fun hok=>?_) hK
     · have hxe:∃ y,(y = .no \/ ∃ v,y=jK v \/ ∃ q,y=g q \/ ∃ f,y = .fn f [])/\evS S x=y:=⟨_,by
        cases x with
        | tmp t=>
          have hm:(Var.t t) ∈ pC o:=List.mem_flatMap.2 ⟨_,hx,by simp [rdO]⟩
          exact .inr ⟨undef,.inr ⟨.t t,.inl (show evS S (.tmp t)=g (.t t) from (hrd (.t t) (by rw [hrr];exact hrd0 _ hm)).symm)⟩⟩
        | const v=>exact .inr ⟨v,.inl rfl⟩
        | global k=>exact .inr ⟨.pointer (some ⟨k,0,none⟩),.inl rfl⟩
        | func f=>exact .inr ⟨undef,.inr ⟨.t 0,.inr ⟨f,rfl⟩⟩⟩,rfl⟩
       obtain ⟨y,hy,hxy⟩:=hxe
       rw [hxy] at hcs
       have hall:y.allC (SC.noB nb)=true:=by
        rcases hy with rfl | ⟨v,rfl | ⟨q,rfl | ⟨f,rfl⟩⟩⟩
        · rfl
        · cases v<;>simp [jK,SV.allC,SC.noB]
        · exact hn q
        · rfl
       unfold SV.cells at hcs
       split at hcs
       · cases hcs;exact hall
       · cases hcs;exact hall
       · cases hcs
     · have hcells:=lL hcs R.one hok
       simp only [execOp,hop,Instr.box,newVar,newRow,newObj,he,hcells]
       rfl
   · cases h
 · rename_i t len parts hop
   split at h
   · rename_i el hu
     split at h
     · rename_i z v hz hv
       split at h
       · rename_i hlen0
         have hlen:=hlen0.1
         split at h
         · rename_i cs hcs
           have hrr:eff.rd=rd:=by
            unfold Z9 at h;split at h
            · cases h;rfl
            · cases h
           have hr:∀ y ∈ rd,g y=S.get y:=fun y hy=>hrd y (by rw [hrr];exact hy)
           have he:∀ p ∈ parts.toList,a.eval p.2=(evS S p.2).den σ:=fun p hp=>heval hr p.2 (by rw [hop];simp only [Op.operands];exact List.mem_map.2 ⟨p,hp,rfl⟩)
           obtain ⟨i,hi,hiz⟩:=Option.bind_eq_some_iff.1 hv
           refine kP fc R hndf hd h _ (row_den _ _ _ _) hF hown (fun hn=>?_) (fun hok=>?_) hK
           · refine tP hcs (lit_noB _ _) fun p hp=>?_
             obtain ⟨q,hq,rfl⟩:=List.mem_map.1 hp
             have hx:q.2 ∈ o.op.operands.toList:=by rw [hop];simp only [Op.operands];exact List.mem_map.2 ⟨q,hq,rfl⟩
             show (evS S q.2).allC _=true
             cases hq2:q.2 with
             | tmp t=>
               rw [hq2] at hx
               have hm:(Var.t t) ∈ pC o:=List.mem_flatMap.2 ⟨_,hx,by simp [rdO]⟩
               show (S.get (.t t)).allC _=true
               rw [<- hr _ (hrd0 _ hm)];exact hn (.t t)
             | const v=>cases v<;>simp [evS,jK,SV.allC,SC.noB]
             | global k=>rfl
             | func f=>rfl
           · have hm:(parts.map fun (i,x)=>(i,a.eval x)).toList=(cQ S parts.toList).map fun p=>(p.1,p.2.den σ):=by
              rw [Array.toList_map,cQ,List.map_map]
              exact List.map_congr_left fun p hp=>by simp only [Function.comp,he p hp]
             have hfr:=fW (σ := σ) R.one hcs
             have hbase:((((Array.range (len*(z+1))).map (v.cells[· % v.cells.size]!)).toList.map SC.lit).map (SC.den σ)).toArray=(Array.range (len*(z+1))).map (v.cells[· % v.cells.size]!):=by
              rw [List.map_map,show (SC.den σ ∘ SC.lit)=id from rfl,List.map_id]
             rw [hbase] at hfr
             have h0:¬ len*(z+1)>2^24:=by omega
             have h1:¬ len*(z+1)=0:=Nat.ne_of_gt (Nat.mul_pos hlen.2 (Nat.succ_pos z))
             have hzv:(zeroValue el).run P W = .ok v W:=by simp [zeroValue,typeInfo,hi,hiz]
             simp only [execOp,hop,Instr.buildSlice,Sem.run_bind,run_underlying hu W,Result.andThen_ok,H7 P hz W,h0,h1,if_false,hzv,Sem.run_pure,hm,hfr,newRow,newObj]
             rfl
         · cases h
       · cases h
     · cases h
   · cases h
 · rename_i ty x hop
   have hx:x ∈ o.op.operands.toList:=by rw [hop];simp [Op.operands]
   split at h
   · rename_i b off hp hag
     split at h
     · rename_i n hn
       split at h
       · rename_i cs hcs
         cases h
         have he:=heval (fun y hy=>hrd y (by simp [hy])) x hx
         rw [cA hp] at he
         have he:a.eval x = .pointer (some ⟨σ.ad b,off,none⟩):=he
         obtain ⟨h1,h2⟩:=gG hcs
         refine hput (.v true cs) ?_ rfl rfl
         have hl:(loadCells ⟨σ.ad b,off,none⟩ (cs.map (SC.den σ)).length).run P W = .ok (cs.map (SC.den σ)).toArray W:=
          run_loadCells_list (P:=P) W ⟨σ.ad b,off,none⟩ _ fun j v hv=>by
           rw [Addr.add_mid]
           obtain ⟨c,hc,rfl⟩:∃ c,cs[j]?=some c/\c.den σ=v:=by simpa [List.getElem?_map] using hv
           obtain ⟨h3,h4⟩:=h2 j c hc
           exact R.cell (by rw [hrd _ (by simp [h4])];exact h3)
         rw [List.length_map,h1] at hl
         simp only [execOp,hop,he,Instr.loadAt,Instr.sureAddr,loadVar,Sem.run_bind,Sem.run_pure,Result.andThen_ok,aK P hag W,H7 P hn W,if_true,hl]
         rfl
       · cases h
     · cases h
   · rename_i b off hp hag
     split at h
     · rename_i c hc
       cases h
       have he:=heval (fun y hy=>hrd y (by simp [hy])) x hx
       rw [cA hp] at he
       have he:a.eval x = .pointer (some ⟨σ.ad b,off,none⟩):=he
       refine hput (.v false [c]) ?_ rfl rfl
       have hcell:=R.cell (b:=b) (o:=off) (c:=c) (by rw [hrd _ (by simp)];exact cA hc)
       have hl:(load ⟨σ.ad b,off,none⟩).run P W = .ok (c.den σ) W:=by simp [load,Sem.run,hcell]
       simp only [execOp,hop,he,Instr.loadAt,Instr.sureAddr,loadVar,Sem.run_bind,Sem.run_pure,Result.andThen_ok,aK P hag W,Bool.false_eq_true,if_false,hl]
       rfl
     · cases h
   · cases h
 · rename_i ty x y hop
   have hx:x ∈ o.op.operands.toList:=by rw [hop];simp [Op.operands]
   have hy:y ∈ o.op.operands.toList:=by rw [hop];simp [Op.operands]
   split at h
   · rename_i b off cs z hp hcs hz
     split at h
     · rename_i bty n hk
       split at h
       · rename_i hc
         obtain ⟨rfl,hn,hpr,hok⟩:=hc
         cases h
         have hr:∀ q ∈ rd,g q=S.get q:=fun q hq=>hrd q (by simp [hq])
         have he:=heval hr x hx
         rw [cA hp] at he
         have he:a.eval x = .pointer (some ⟨σ.ad b,off,none⟩):=he
         have he2:=heval hr y hy
         have hcells:=lL hcs R.one hok
         have hgk:g (.k b) = .bx bty n true:=by rw [hrd _ (by simp)];exact hk
         obtain ⟨RS,hthere,hother⟩:=R.store hgk hn
         have hst:=run_storeCells_cells (P:=P) (σ.ad b) off (cs.map (SC.den σ)) 0 W (fun j hj=>by simpa using (hthere j (by simpa using hj)).1) (fun j hj=>by simpa using (hthere j (by simpa using hj)).2) (all_one R.one hok)
         refine wp_skipped fc hndf (W':=W.setCells (σ.ad b) off (cs.map (SC.den σ))) ?_ ?_
         · simp [execOp,hop,he,Instr.storeAt,Instr.sureAddr,storeVar,he2,hcells,H7 P hz W,hst]
         · have RP:=RS.put o hd unSV
           rw [<- gZ] at RP
           obtain ⟨⟨arr,ha,_⟩,_⟩:=R.box hgk
           refine hK _ _ _ RP (fun m hm=>?_) (fun _ _ _=>rfl)
           rcases hm with hm | hm
           · obtain ⟨h1,h2⟩:=(hF m hm).1.keeps (τ := σ) (W':=W.setCells (σ.ad b) off (cs.map (SC.den σ))) (fun q arr' t fr hp hq=>by
              rw [hother q fun e=>?_]
              · exact hq
              · rw [e,ha] at hq
                cases hq
                rw [hpr] at hp;cases hp) (fun q hq=>hother q fun e=>(hF m hm).2 b _ _ hgk (e ▸ hq)) (fun _=>rfl)
             refine ⟨h1,fun b' ty' k' hk' hf=>(hF m hm).2 b' ty' k' ?_ (h2 _ hf)⟩
             rw [gZ,dJ] at hk'
             simpa [upd,N6] using hk'
           · exact hm.elim
       · cases h
     · cases h
   · cases h
 · rename_i c hop
   obtain ⟨callee,xs,ats⟩:=c
   unfold callE at h
   simp only at h
   split at h
   rotate_left
   · exact hval h
   · rename_i gg hcal
     have hcal:callee = .value gg:=by
      unfold Callee.val? at hcal
      split at hcal
      · cases hcal;rfl
      · cases hcal
     subst hcal
     split at h
     rotate_left
     · cases h
     rename_i q hg
     obtain ⟨f,cap⟩:=q
     simp only at h
     split at h
     · rename_i hc
       simp only [Bool.and_eq_true] at hc
       obtain ⟨hfn,hargs⟩:=hc
       split at h
       · rename_i nd hnd
         cases h
         have hr:∀ q ∈ rd,g q=S.get q:=fun q hq=>hrd q (by simp [hq])
         have hev:=heval hr
         have hgv:=hev gg (by rw [hop];simp [Op.operands,Call.operands])
         have hgv:a.eval gg = .func (.func f) #[] (cap.map (SC.den σ)).toArray:=hgv.trans (SV.fn?_den σ hg)
         have hxs:xs.toList.map a.eval=xs.toList.map (fun x=>(evS S x).den σ):=List.map_congr_left fun x hx=>hev x (by rw [hop];simp only [Op.operands,Call.operands];simp;right;simpa using hx)
         unfold fnOK at hfn
         split at hfn
         · rename_i fn hf
           simp only [Bool.and_eq_true,Bool.not_eq_true'] at hfn
           obtain ⟨c,hb⟩:=Option.isSome_iff_exists.1 hfn.2
           have hax:Array.map a.eval xs++(cap.map (SC.den σ)).toArray=((xs.toList.map (evS S)++cap.map fun c=>SV.v false [c]).map (SV.den σ)).toArray:=by
            apply Array.toList_inj.1
            rw [Array.toList_append,Array.toList_map,hxs]
            simp [List.map_map,Function.comp_def,SV.den,O5]
           have hrun:(execOp a.eval o).run P W = .ok (.enter f ((xs.toList.map (evS S)++cap.map fun c=>SV.v false [c]).map (SV.den σ)).toArray) W:=by
            rw [<- hax]
            simp only [execOp,hop,resolve,hgv,Deferred.ofValue,Sem.run_bind,Sem.run_pure,Result.andThen_ok,invoke]
            rw [vX hf hfn.1 hb]
            simp
           have hcall:=hvc σ W R.gr (fun m hm=>(hF m hm).1) hps (dZ R hnd fun x hx=>hrd x (by simp [hx]))
           refine wp_enter fc hndf hrun hcall fun v w' hv hgr hfp=>?_
           obtain ⟨fv,hone,hfv⟩:=(specs nc).fits v w' hv
           obtain ⟨hA,hav⟩:=hown
           have RG:=R.grow hgr (n:=nc) (f:=fv) hone hA
           have RP:=RG.put o hd ((sh nc).sv nc)
           have hden:SV.den (σ.setA nc fv) ((specs nc).sh.sv nc)=v:=by
            rw [hfv];exact Sh.sv_den _ fun c=>by simp [Env.setA]
           rw [hsh nc,hden] at RP
           refine hK _ _ _ (by rw [hsh nc];exact RP) (fun m hm=>?_) (fun m c hm=>by
            have:m≠nc:=hm
            simp [Env.setA,this])
           rcases hm with hm | hm
           · refine (hF m hm).grown hgr (fun c=>?_) fun b ty k hk => .inl ⟨by rw [dJ] at hk;exact hk,rfl⟩
             have:m≠nc:=fun e=>hav (e ▸ hm)
             simp [Env.setA,this]
           · cases hm
             refine ⟨by unfold Fact;rw [hden];exact hv,fun b ty k hk hf=>?_⟩
             rw [dJ] at hk
             have hf:(specs nc).fp (SV.den (σ.setA nc fv) ((specs nc).sh.sv nc)) w' (σ.ad b):=hf
             rw [hden] at hf
             have hlt:=R.lt hk
             rcases hfp _ hf with h1 | ⟨m,h1,h2⟩
             · omega
             · exact (hF m h1).2 b ty k hk h2
         · cases hfn
       · cases h
     · cases h
 · exact hval h
theorem sM (fc:Fc F dn P) {o:Oper} (hndf:jN o.op=true) (hd:∀ d,o.dst=some d->d<N) {S:St} {nc nb nc' nb':Nat} {sh:Nat->Sh} {rd:List Var} {eff:Eff} (h:hO P prot S nc nb sh o rd=some (eff,nc',nb'))
 (hrd0:∀ x ∈ pC o,x ∈ rd) (R:Rep dfs base N σ g a W) (hrd:∀ x ∈ eff.rd,g x=S.get x)
 {specs:Nat->Spec prot} (hsh:∀ n,sh n=(specs n).sh) {av:Nat->Prop} (hF:∀ n,av n->FS specs σ W g n) (hown:Own dfs.nb eff.ac g av) {ps:List (Nat × Nat × Bool)} (hps:Ps σ ps) (hvc:VCa P specs base av ps eff.ac) (hob:pU eff.ac=true -> ∀ b ty n w,g (.k b) = .bx ty n w->w=true)
 (hK:∀ σ' a' W',Rep dfs base N σ' (upd g eff.wr) a' W'->(∀ n,av n\/got eff.ac n->FS specs σ' W' (upd g eff.wr) n)->(∀ n c,¬ got eff.ac n->σ'.an n c=σ.an n c)->K a' W'):o.wpIn F dn P a W K Q:=by
 unfold hO at h
 split at h
 · rename_i r hr
   cases h
   exact symRun0_wp fc hndf hd hr hrd0 R hrd hsh hF hown hps hvc hK
 · unfold told at h
   simp only at h
   split at h
   · split at h
     · rename_i nd hnd
       cases h
       have hr:∀ q ∈ rd,g q=S.get q:=fun q hq=>hrd q (by simp [hq])
       have hev:o.op.operands.toList.map a.eval=(o.op.operands.toList.map (evS S)).map (SV.den σ):=by
        rw [List.map_map]
        refine List.map_congr_left fun x hx=>?_
        cases x with
        | tmp t=>
          have hm:(Var.t t) ∈ pC o:=List.mem_flatMap.2 ⟨_,hx,by simp [rdO]⟩
          have:=R.va (.t t)
          rw [hr _ (hrd0 _ hm)] at this
          exact this
        | const v=>exact (Y7 σ v).symm
        | global g=>rfl
        | func f=>rfl
       by_cases hap:(isApp o.op && (sh nc).noRw)=true
       · have haq:qP o (sh nc) = .opw o.op o.type:=by unfold qP;rw [if_pos hap]
         simp only [haq] at hvc hown hob hK
         obtain ⟨v,W',hrun,hwd,hkp,hv,hfp,hrow⟩:=hvc σ W R.gr (fun m hm=>(hF m hm).1) hps (dZ R hnd fun x hx=>hrd x (by simp [hx])) a.eval o rfl rfl hev
         obtain ⟨fv,hone,hfv⟩:=(specs nc).fits v W' hv
         obtain ⟨hA,hav⟩:=hown
         have RG:=R.wide hwd (fun b ty n w hk ⟨m,h1,h2⟩=>(hF m h1).2 b ty n (by rw [hob rfl b ty n w hk] at hk;exact hk) h2) (n:=nc) (f:=fv) hone hA
         have RP:=RG.put o hd ((sh nc).sv nc)
         have hden:SV.den (σ.setA nc fv) ((specs nc).sh.sv nc)=v:=by
          rw [hfv];exact Sh.sv_den _ fun c=>by simp [Env.setA]
         rw [hsh nc,hden] at RP
         refine dL fc hndf hrun (hK _ _ _ (by rw [hsh nc];exact RP) (fun m hm=>?_) (fun m c hm=>by
          have:m≠nc:=hm
          simp [Env.setA,this]))
         rcases hm with hm | hm
         · have hne:m≠nc:=fun e=>hav (e ▸ hm)
           have hval:(σ.setA nc fv).val specs m=σ.val specs m:=Sh.sv_den _ fun c=>by simp [Env.setA,hne]
           have key:(specs m).F (σ.val specs m) W' /\ ∀ q,(specs m).fp (σ.val specs m) W' q->(specs m).fp (σ.val specs m) W q:=by
            cases hr:(specs m).row with
            | true=>exact hrow m hm hr
            | false=>
              obtain ⟨h1,h2⟩:=(hF m hm).1.keeps (τ := σ) hkp (fun q hq=>absurd hq ((specs m).flat hr _ _ _)) (fun _=>rfl)
              exact ⟨h1,h2⟩
           refine ⟨?_,fun b ty k hk hf=>?_⟩
           · show (specs m).F ((σ.setA nc fv).val specs m) W'
             rw [hval];exact key.1
           · rw [hval] at hf
             rw [dJ] at hk
             exact (hF m hm).2 b ty k hk (key.2 _ hf)
         · cases hm
           refine ⟨by unfold Fact;rw [hden];exact hv,fun b ty k hk hf=>?_⟩
           rw [dJ] at hk
           have hf:(specs nc).fp (SV.den (σ.setA nc fv) ((specs nc).sh.sv nc)) W' (σ.ad b):=hf
           rw [hden] at hf
           rcases hfp _ hf with h1 | ⟨m,h1,h2⟩
           · have:=R.lt hk;omega
           · exact (hF m h1).2 b ty k hk h2
       by_cases hnw:(isNew o.op || isApp o.op)=true
       · have haq:qP o (sh nc) = .opa o.op o.type:=by unfold qP;rw [if_neg hap,if_pos hnw]
         simp only [haq] at hvc hown hob hK
         obtain ⟨v,W',hrun,hret⟩:=hvc σ W R.gr (fun m hm=>(hF m hm).1) hps (dZ R hnd fun x hx=>hrd x (by simp [hx])) a.eval o rfl rfl hev
         obtain ⟨v',he,hv,hgr,hfp⟩:=hret.un
         cases he
         obtain ⟨fv,hone,hfv⟩:=(specs nc).fits v W' hv
         obtain ⟨hA,hav⟩:=hown
         have RG:=R.grow hgr (n:=nc) (f:=fv) hone hA
         have RP:=RG.put o hd ((sh nc).sv nc)
         have hden:SV.den (σ.setA nc fv) ((specs nc).sh.sv nc)=v:=by
          rw [hfv];exact Sh.sv_den _ fun c=>by simp [Env.setA]
         rw [hsh nc,hden] at RP
         refine dL fc hndf hrun (hK _ _ _ (by rw [hsh nc];exact RP) (fun m hm=>?_) (fun m c hm=>by
          have:m≠nc:=hm
          simp [Env.setA,this]))
         rcases hm with hm | hm
         · refine (hF m hm).grown hgr (fun c=>?_) fun b ty k hk => .inl ⟨by rw [dJ] at hk;exact hk,rfl⟩
           have:m≠nc:=fun e=>hav (e ▸ hm)
           simp [Env.setA,this]
         · cases hm
           refine ⟨by unfold Fact;rw [hden];exact hv,fun b ty k hk hf=>?_⟩
           rw [dJ] at hk
           have hf:(specs nc).fp (SV.den (σ.setA nc fv) ((specs nc).sh.sv nc)) W' (σ.ad b):=hf
           rw [hden] at hf
           have hlt:=R.lt hk
           rcases hfp _ hf with h1 | ⟨m,h1,h2⟩
           · omega
           · exact (hF m h1).2 b ty k hk h2
       have haq:qP o (sh nc) = .op o.op o.type:=by unfold qP;rw [if_neg hap,if_neg hnw]
       simp only [haq] at hvc hown hob hK
       obtain ⟨v,hrun,hv,hfp⟩:=(hvc σ W R.gr (fun m hm=>(hF m hm).1) hps (dZ R hnd fun x hx=>hrd x (by simp [hx])) a.eval o rfl rfl hev).un
       obtain ⟨fv,hone,hfv⟩:=(specs nc).fits v W hv
       obtain ⟨hA,hav⟩:=hown
       have RG:=R.grow ⟨rfl,rfl,rfl,Nat.le_refl _,fun _ _ _=>rfl⟩ (n:=nc) (f:=fv) hone hA
       have RP:=RG.put o hd ((sh nc).sv nc)
       have hden:SV.den (σ.setA nc fv) ((specs nc).sh.sv nc)=v:=by
        rw [hfv];exact Sh.sv_den _ fun c=>by simp [Env.setA]
       rw [hsh nc,hden] at RP
       refine dL fc hndf hrun (hK _ _ _ (by rw [hsh nc];exact RP) (fun m hm=>?_) (fun m c hm=>by
        have:m≠nc:=hm
        simp [Env.setA,this]))
       rcases hm with hm | hm
       · refine (hF m hm).grown (jV W) (fun c=>?_) fun b ty k hk => .inl ⟨by rw [dJ] at hk;exact hk,rfl⟩
         have:m≠nc:=fun e=>hav (e ▸ hm)
         simp [Env.setA,this]
       · cases hm
         refine ⟨by unfold Fact;rw [hden];exact hv,fun b ty k hk hf=>?_⟩
         rw [dJ] at hk
         have hf:(specs nc).fp (SV.den (σ.setA nc fv) ((specs nc).sh.sv nc)) W (σ.ad b):=hf
         rw [hden] at hf
         obtain ⟨m,h1,h2⟩:=hfp _ hf
         exact (hF m h1).2 b ty k hk h2
     · cases h
   · cases h
end
end
section
def kN (P:Program) (prot:TypeId->Bool) (ops:Array Oper) (N:Nat) (sh:Nat->Sh):List Oper->St->Nat->Nat->Option (List Eff × Nat × Nat)
 | [],_,nc,nb=>some ([],nc,nb)
 | o :: r,S,nc,nb=>match sO P prot ops N S nc nb sh o with
   | some (e,nc1,nb1)=>match kN P prot ops N sh r (S.sets e.wr) nc1 nb1 with
     | some (l,nc2,nb2)=>some (e :: l,nc2,nb2)
     | none=>none
   | none=>none
def N8 (p:Nat->Bool):Nat->List Eff->St->St
 | _,[],S=>S
 | k,e :: r,S=>N8 p (k+1) r (if p k then S.sets e.wr else S)
def lwD (p:Nat->Bool) (x:Var):Nat->List Eff->Option SV
 | _,[]=>none
 | k,e :: r=>match lwD p x (k+1) r with
   | some u=>some u
   | none=>if p k then D8 x e.wr else none
theorem P8 (p:Nat->Bool) (x:Var):∀ (l:List Eff) (k:Nat) (S:St),(N8 p k l S).get x=(lwD p x k l).getD (S.get x)
 | [],k,S=>rfl
 | e :: r,k,S=>by
   rw [N8,P8 p x r,lwD]
   cases lwD p x (k+1) r with
   | some u=>rfl
   | none=>
     cases p k
     · rfl
     · simp [St.get_sets]
theorem lB {p q:Nat->Bool} {x:Var} : ∀ {l:List Eff} {k:Nat},(∀ j e,l[j]?=some e->D8 x e.wr≠none->p (k+j)=q (k+j))->lwD p x k l=lwD q x k l
 | [],k,_=>rfl
 | e :: r,k,h=>by
   have ih:=lB (p:=p) (q:=q) (x:=x) (l:=r) (k:=k+1) fun j e' hj hw=>by
    have:=h (j+1) e' (by simpa using hj) hw
    rwa [show k+1+j=k+(j+1) from by omega]
   rw [lwD,lwD,ih]
   cases lwD q x (k+1) r with
   | some u=>rfl
   | none=>
     by_cases hw:D8 x e.wr=none
     · simp [hw]
     · have:=h 0 e (by simp) hw
       rw [Nat.add_zero] at this
       simp [this]
theorem lwD_none {p:Nat->Bool} {x:Var} : ∀ {l:List Eff} {k:Nat},(∀ j e,l[j]?=some e->p (k+j)=true->D8 x e.wr=none)->lwD p x k l=none
 | [],k,_=>rfl
 | e :: r,k,h=>by
   have ih:=lwD_none (p:=p) (x:=x) (l:=r) (k:=k+1) fun j e' hj hw=>h (j+1) e' (by simpa using hj) (by rwa [show k+(j+1)=k+1+j from by omega])
   rw [lwD,ih]
   by_cases hp:p k=true
   · simp [hp,h 0 e (by simp) (by simpa using hp)]
   · simp [hp]
theorem lwD_at {p:Nat->Bool} {x:Var} {u:SV} : ∀ {l:List Eff} {k i:Nat} {e:Eff},l[i]?=some e->D8 x e.wr=some u->p (k+i)=true->(∀ j e',l[j]?=some e'->i<j->p (k+j)=true->D8 x e'.wr=none)->lwD p x k l=some u
 | e0 :: r,k,0,e,hi,hu,hp,h=>by
   simp at hi;subst hi
   have:lwD p x (k+1) r=none:=lwD_none fun j e' hj hw=>h (j+1) e' (by simpa using hj) (by omega) (by rwa [show k+(j+1)=k+1+j from by omega])
   rw [lwD,this]
   simp only [Nat.add_zero] at hp
   simp [hp,hu]
 | e0 :: r,k,i+1,e,hi,hu,hp,h=>by
   have:=lwD_at (p:=p) (x:=x) (u:=u) (l:=r) (k:=k+1) (i:=i) (e:=e) (by simpa using hi) hu (by rwa [show k+1+i=k+(i+1) from by omega])
    fun j e' hj hij hw=>h (j+1) e' (by simpa using hj) (by omega) (by rwa [show k+(j+1)=k+1+j from by omega])
   rw [lwD,this]
theorem fR {p:Nat->Bool} {x:Var} {u:SV} : ∀ {l:List Eff} {k:Nat},lwD p x k l=some u -> ∃ j e,l[j]?=some e/\p (k+j)=true/\(x,u) ∈ e.wr
 | e :: r,k,h=>by
   rw [lwD] at h
   cases hr:lwD p x (k+1) r with
   | some v=>
     rw [hr] at h;cases h
     obtain ⟨j,e',h1,h2,h3⟩:=fR hr
     exact ⟨j+1,e',by simpa using h1,by rwa [show k+(j+1)=k+1+j from by omega],h3⟩
   | none=>
     rw [hr] at h
     by_cases hp:p k=true
     · simp [hp] at h
       exact ⟨0,e,by simp,by simpa using hp,fT h⟩
     · simp [hp] at h
theorem kO {P:Program} {prot:TypeId->Bool} {ops:Array Oper} {N:Nat} {S:St} {nc nb nc' nb':Nat} {sh:Nat->Sh} {o:Oper} {e:Eff} (h:sO P prot ops N S nc nb sh o=some (e,nc',nb')) :
 (match e.ac with | .call n _ _ _=>n=nc/\nc'=nc+1/\nb'=nb | .alloc b _ _=>b=nb/\nb'=nb+1/\nc'=nc | _=>nc'=nc/\nb'=nb) /\
 (∀ b u,(Var.k b,u) ∈ e.wr -> ∃ ty cs,e.ac = .alloc b ty cs):=by
 have hdst:∀ v b u,(Var.k b,u) ∉ eI o v:=fun v b u=>by unfold eI;cases o.dst<;>simp
 have hcw:∀ b' (cs:List SC) off b u,(Var.k b,u) ∉ M4 b' off cs:=fun b' cs=>by
  induction cs with
  | nil=>intro off b u;simp [M4]
  | cons c r ih=>intro off b u;simp [M4,ih]
 have hbox:∀ rd ty cs e0,Z9 nc nb o rd ty cs e0=some (e,nc',nb')->(match e.ac with | .call n _ _ _=>n=nc/\nc'=nc+1/\nb'=nb | .alloc b _ _=>b=nb/\nb'=nb+1/\nc'=nc | _=>nc'=nc/\nb'=nb) /\
  (∀ b u,(Var.k b,u) ∈ e.wr -> ∃ ty cs,e.ac = .alloc b ty cs):=fun rd ty cs e0 h=>by
  unfold Z9 at h
  split at h
  · cases h
    refine ⟨⟨rfl,rfl,rfl⟩,fun b u hm=>?_⟩
    simp only [List.mem_cons,List.mem_append] at hm
    rcases hm with hm | hm | hm
    · cases hm;exact ⟨_,_,rfl⟩
    · exact absurd hm (hcw _ _ _ _ _)
    · exact absurd hm (hdst _ _ _)
  · cases h
 have hval:∀ {rd},valE P S nc nb o rd=some (e,nc',nb')->(match e.ac with | .call n _ _ _=>n=nc/\nc'=nc+1/\nb'=nb | .alloc b _ _=>b=nb/\nb'=nb+1/\nc'=nc | _=>nc'=nc/\nb'=nb) /\
  (∀ b u,(Var.k b,u) ∈ e.wr -> ∃ ty cs,e.ac = .alloc b ty cs):=fun {rd} h=>by
  unfold valE at h
  split at h
  · cases h;exact ⟨⟨rfl,rfl⟩,fun b u hm=>absurd hm (hdst _ _ _)⟩
  · cases h
 have hrun0:∀ rd,fE P prot S nc nb sh o rd=some (e,nc',nb')->(match e.ac with | .call n _ _ _=>n=nc/\nc'=nc+1/\nb'=nb | .alloc b _ _=>b=nb/\nb'=nb+1/\nc'=nc | _=>nc'=nc/\nb'=nb) /\
  (∀ b u,(Var.k b,u) ∈ e.wr -> ∃ ty cs,e.ac = .alloc b ty cs):=fun rd h=>by
  unfold fE at h
  split at h
  · split at h
    · exact hbox _ _ _ _ h
    · cases h
  · split at h
    · exact hbox _ _ _ _ h
    · cases h
  · split at h
    · split at h
      · split at h
        · split at h
          · exact hbox _ _ _ _ h
          · cases h
        · cases h
      · cases h
    · cases h
  · split at h
    · split at h
      · split at h
        · cases h;exact ⟨⟨rfl,rfl⟩,fun b u hm=>absurd hm (hdst _ _ _)⟩
        · cases h
      · cases h
    · split at h
      · cases h;exact ⟨⟨rfl,rfl⟩,fun b u hm=>absurd hm (hdst _ _ _)⟩
      · cases h
    · cases h
  · split at h
    · split at h
      · split at h
        · cases h
          refine ⟨⟨rfl,rfl⟩,fun b u hm=>?_⟩
          rcases List.mem_append.1 hm with hm | hm
          · exact absurd hm (hcw _ _ _ _ _)
          · exact absurd hm (hdst _ _ _)
        · cases h
      · cases h
    · cases h
  · unfold callE at h
    split at h
    · split at h
      · simp only at h
        split at h
        · split at h
          · cases h;exact ⟨⟨rfl,rfl,rfl⟩,fun b u hm=>absurd hm (hdst _ _ _)⟩
          · cases h
        · cases h
      · cases h
    · exact hval h
  · exact hval h
 have hrun:∀ rd,hO P prot S nc nb sh o rd=some (e,nc',nb')->(match e.ac with | .call n _ _ _=>n=nc/\nc'=nc+1/\nb'=nb | .alloc b _ _=>b=nb/\nb'=nb+1/\nc'=nc | _=>nc'=nc/\nb'=nb) /\
  (∀ b u,(Var.k b,u) ∈ e.wr -> ∃ ty cs,e.ac = .alloc b ty cs):=fun rd h=>by
  unfold hO at h
  split at h
  · rename_i r hr;cases h;exact hrun0 rd hr
  · unfold told at h
    simp only at h
    split at h
    · split at h
      · cases h;exact ⟨⟨rfl,rfl,rfl⟩,fun b u hm=>absurd hm (hdst _ _ _)⟩
      · cases h
    · cases h
 unfold sO at h
 split at h
 · split at h
   · exact hrun _ h
   · split at h
     · split at h
       · split at h
         · split at h
           · exact hrun _ h
           · cases h;exact ⟨⟨rfl,rfl⟩,fun b u hm=>absurd hm (hdst _ _ _)⟩
         · cases h;exact ⟨⟨rfl,rfl⟩,fun b u hm=>absurd hm (hdst _ _ _)⟩
         · cases h
       · cases h
     · cases h
 · cases h
theorem oD {P:Program} {prot:TypeId->Bool} {ops:Array Oper} {N:Nat} {sh:Nat->Sh} : ∀ {l:List Oper} {S:St} {nc nb:Nat} {L:List Eff} {nc2 nb2:Nat},kN P prot ops N sh l S nc nb=some (L,nc2,nb2) ->
 ∃ C B:Nat->Nat,C 0=nc/\B 0=nb/\C l.length=nc2/\B l.length=nb2/\L.length=l.length /\
   ∀ i o,l[i]?=some o -> ∃ e,L[i]?=some e/\sO P prot ops N (N8 (fun j=>decide (j<i)) 0 L S) (C i) (B i) sh o=some (e,C (i+1),B (i+1))
 | [],S,nc,nb,L,nc2,nb2,h=>by
   simp [kN] at h
   obtain ⟨rfl,rfl,rfl⟩:=h
   exact ⟨fun _=>nc,fun _=>nb,rfl,rfl,rfl,rfl,rfl,by simp⟩
 | o :: r,S,nc,nb,L,nc2,nb2,h=>by
   unfold kN at h
   split at h
   · rename_i e nc1 nb1 he
     split at h
     · rename_i l nc3 nb3 hl
       cases h
       obtain ⟨C,B,c0,b0,c1,b1,hlen,hget⟩:=oD hl
       have hshift:∀ (M:List Eff) (T:St) (i k:Nat),N8 (fun j=>decide (j<i+1)) (k+1) M T=N8 (fun j=>decide (j<i)) k M T:=fun M=>by
        induction M with
        | nil=>intros;rfl
        | cons x M ih=>intro T i k;simp only [N8,ih,Nat.add_lt_add_iff_right]
       have hzero:∀ (M:List Eff) (T:St) (k:Nat),N8 (fun j=>decide (j<0)) k M T=T:=fun M=>by
        induction M with
        | nil=>intros;rfl
        | cons x M ih=>intro T k;simp [N8] at ih ⊢;exact ih _ _
       refine ⟨fun i=>match i with | 0=>nc | i+1=>C i,fun i=>match i with | 0=>nb | i+1=>B i,rfl,rfl,c1,b1,by simp [hlen],fun i o' hi=>?_⟩
       cases i with
       | zero=>
         simp at hi;subst hi
         refine ⟨e,by simp, ?_⟩
         rw [hzero]
         simp only [c0,b0,he]
       | succ i=>
         obtain ⟨e',h1,h2⟩:=hget i o' (by simpa using hi)
         refine ⟨e',by simpa using h1, ?_⟩
         rw [N8]
         simp only [Nat.zero_lt_succ,decide_true,if_true]
         rw [hshift]
         exact h2
     · cases h
   · cases h
end
section
def cB (M:List Nat):List Edge->Nat
 | []=>0
 | e :: r=>if Region.binds .any e then (2^e.on ||| F9 0 M e.on) ||| cB M r else cB M r
def T1:List Oper->List Nat->List Nat
 | [],M=>M
 | o :: r,M=>T1 r (M++[cB M o.after.toList])
def cV:List Oper->Nat->Bool
 | [],_=>true
 | o :: r,k=>o.after.toList.all (fun e => !(Region.binds .any e) || Nat.blt e.on k) && cV r (k+1)
def fD (x:Var) (l:List (Var × SV)):Bool:=l.any fun p=>p.1.eq x
def clash (e f:Eff):Bool:=
 e.wr.any (fun p=>fD p.1 f.wr || f.rd.any (fun x=>x.eq p.1)) || e.rd.any (fun x=>fD x f.wr)
def qS (m:Nat) (f:Eff):Nat->Nat->List Eff->Bool
 | 0,_,_=>true
 | _,_,[]=>true
 | k+1,i,e :: r=>(m.testBit i || !clash e f) && qS m f k (i+1) r
def aI (M:List Nat) (L:List Eff):Nat->List Eff->Bool
 | _,[]=>true
 | k,f :: r=>qS (F9 0 M k) f k 0 L && aI M L (k+1) r
def cY (n:Nat):Nat->List Eff->Option Nat
 | _,[]=>none
 | k,e :: r=>match e.ac with
   | .call m _ _ _=>if m == n then some k else cY n (k+1) r
   | _=>cY n (k+1) r
def kB (n:Nat):Nat->List Eff->Option Nat
 | _,[]=>none
 | k,e :: r=>match e.ac with
   | .alloc m _ _=>if m == n then some k else kB n (k+1) r
   | _=>kB n (k+1) r
def Z8 (m k:Nat):Option Nat->Bool
 | some j=>j == k || m.testBit j
 | none=>false
def scOK (L:List Eff) (nc nb m k:Nat):SC->Bool
 | .lit _=>true
 | .an n _=>Nat.blt n nc || Z8 m k (cY n 0 L)
 | .ptr b _=>Nat.blt b nb || Z8 m k (kB b 0 L)
 | .row b _ _ _=>Nat.blt b nb || Z8 m k (kB b 0 L)
def tJ (M:List Nat) (L:List Eff) (nc nb:Nat):Nat->List Eff->Bool
 | _,[]=>true
 | k,e :: r=>e.wr.all (fun p=>p.2.allC (scOK L nc nb (F9 0 M k) k)) && tJ M L nc nb (k+1) r
def avl (L:List Eff) (av:List Nat) (m n:Nat):Bool:=av.elem n || match cY n 0 L with
 | some j=>m.testBit j
 | none=>false
structure Rec where
 ac:Ac
 av:List Nat
def rU (M:List Nat) (L:List Eff) (nc:List Nat):Nat->List Eff->List Rec
 | _,[]=>[]
 | k,e :: r=>match e.ac with
   | .call n f args nd=>⟨e.ac,(List.range n).filter (avl L nc (F9 0 M k))⟩ :: rU M L nc (k+1) r
   | _=>rU M L nc (k+1) r
theorem G5 {α : Type} (d : α):∀ (l:List α) (i:Nat),F9 d l i=(l[i]?).getD d
 | [],i=>by simp [F9]
 | x :: xs,0=>rfl
 | x :: xs,i+1=>by simp [F9,G5 d xs i]
theorem lO:∀ (l:List Oper) (M:List Nat),(T1 l M).take M.length=M
 | [],M=>by simp [T1]
 | o :: r,M=>by
   have:=lO r (M++[cB M o.after.toList])
   rw [T1]
   have h2:=congrArg (List.take M.length) this
   rw [List.take_take] at h2
   simpa using h2
theorem befs_get (l:List Oper):∀ (M:List Nat) (i:Nat) (o:Oper),l[i]?=some o->(T1 l M)[M.length+i]?=some (cB ((T1 l M).take (M.length+i)) o.after.toList):=by
 induction l with
 | nil=>intro M i o h;simp at h
 | cons o r ih=>
   intro M i o' h
   cases i with
   | zero=>
     simp at h;subst h
     have ht:=lO r (M++[cB M o.after.toList])
     have h0:=lO (o :: r) M
     rw [Nat.add_zero,h0,T1]
     have h2:((T1 r (M++[cB M o.after.toList])).take (M++[cB M o.after.toList]).length)[M.length]?=(M++[cB M o.after.toList])[M.length]?:=by rw [ht]
     rw [List.getElem?_take] at h2
     simpa using h2
   | succ i=>
     have:=ih (M++[cB M o.after.toList]) i o' (by simpa using h)
     rw [T1]
     simp only [List.length_append,List.length_singleton] at this
     rw [show M.length+(i+1)=M.length+1+i from by omega]
     exact this
theorem aZ {l:List Oper} : ∀ {k:Nat},cV l k=true -> ∀ i o,l[i]?=some o -> ∀ e ∈ o.after,Region.binds .any e=true->e.on<k+i:=by
 induction l with
 | nil=>intro k h i o hi;simp at hi
 | cons o r ih=>
   intro k h i o' hi e he hb
   simp only [cV,Bool.and_eq_true,List.all_eq_true] at h
   cases i with
   | zero=>
     simp at hi;subst hi
     have:=h.1 e (by simpa using he)
     simp [hb] at this
     simpa using this
   | succ i=>
     have:=ih h.2 i o' (by simpa using hi) e he hb
     omega
theorem qO {M:List Nat} {D:Nat->Prop} : ∀ {l:List Edge},(∀ e ∈ l,Region.binds .any e=true->D e.on /\ ∀ k,(F9 0 M e.on).testBit k=true->D k) -> ∀ k,(cB M l).testBit k=true->D k
 | [],_,k,h=>by simp [cB] at h
 | e :: r,he,k,h=>by
   unfold cB at h
   have ih:=qO (M:=M) (D:=D) (l:=r) fun x hx=>he x (by simp [hx])
   split at h
   · rename_i hb
     obtain ⟨h1,h2⟩:=he e (by simp) hb
     rw [Nat.testBit_or,Nat.testBit_or,Bool.or_eq_true,Bool.or_eq_true] at h
     rcases h with (h | h) | h
     · rw [Nat.testBit_two_pow] at h
       have:e.on=k:=by simpa using h
       exact this ▸ h1
     · exact h2 k h
     · exact ih k h
   · exact ih k h
theorem iO {l:List Oper} (hE:cV l 0=true) {D:Nat->Prop} (hD:∀ j o,l[j]?=some o->D j -> ∀ e ∈ o.after,Region.binds .any e=true->D e.on) :
 ∀ (j:Nat) (o:Oper),l[j]?=some o->(∀ e ∈ o.after,Region.binds .any e=true->D e.on) -> ∀ k,(F9 0 (T1 l []) j).testBit k=true->D k:=by
 intro j
 induction j using Nat.strongRecOn with
 | _ j ih=>
   intro o hj he k hk
   have h1:=befs_get l [] j o hj
   simp only [List.length_nil,Nat.zero_add] at h1
   rw [G5,h1,Option.getD_some] at hk
   refine qO (D:=D) (fun e hm hb=>⟨he e (by simpa using hm) hb,fun q hq=>?_⟩) k hk
   have hlt:=aZ hE j o hj e (by simpa using hm) hb
   rw [Nat.zero_add] at hlt
   have hlen:e.on<l.length:=by
    have:=(List.getElem?_eq_some_iff.1 hj).1
    omega
   have hl2:F9 0 ((T1 l []).take j) e.on=F9 0 (T1 l []) e.on:=by
    rw [G5,G5,List.getElem?_take];simp [hlt]
   rw [hl2] at hq
   have ho:=List.getElem?_eq_getElem hlen
   have hde:=he e (by simpa using hm) hb
   exact ih e.on hlt _ ho (hD e.on _ ho hde) q hq
theorem bef_lt {l:List Oper} (hE:cV l 0=true) (j:Nat) (o:Oper) (hj:l[j]?=some o) (k:Nat) (hk:(F9 0 (T1 l []) j).testBit k=true):k<j:=by
 refine iO hE (D:=fun k=>k<j) (fun i o' hi h e he hb=>?_) j o hj (fun e he hb=>?_) k hk
 · have:=aZ hE i o' hi e he hb;omega
 · have:=aZ hE j o hj e he hb;omega
theorem touches_iff {x:Var} {l:List (Var × SV)} : fD x l=true ↔ D8 x l≠none:=by
 constructor
 · intro h
   obtain ⟨p,hp,hx⟩:=List.any_eq_true.1 h
   intro hn
   have:=(Var.eq_iff _ _).1 hx
   exact pT (e:=p.2) hn (by rw [<- this];exact hp)
 · intro h
   cases hl:D8 x l with
   | none=>exact absurd hl h
   | some e=>exact List.any_eq_true.2 ⟨_,fT hl,(Var.eq_iff _ _).2 rfl⟩
theorem apart1_get {m:Nat} {f:Eff} (L:List Eff):∀ (k i:Nat),qS m f k i L=true -> ∀ (j:Nat) (e:Eff),L[j]?=some e->j<k->m.testBit (i+j)=true\/clash e f=false:=by
 induction L with
 | nil=>intro k i h j e hj;simp at hj
 | cons e r ih=>
   intro k i h j e' hj hk
   cases k with
   | zero=>omega
   | succ k=>
     simp only [qS,Bool.and_eq_true,Bool.or_eq_true,Bool.not_eq_true'] at h
     cases j with
     | zero=>simp at hj;subst hj;simpa using h.1
     | succ j=>
       have:=ih k (i+1) h.2 j e' (by simpa using hj) (by omega)
       rwa [show i+1+j=i+(j+1) from by omega] at this
theorem wA {M:List Nat} {L:List Eff} (l:List Eff):∀ (k:Nat),aI M L k l=true -> ∀ (j:Nat) (f:Eff),l[j]?=some f->qS (F9 0 M (k+j)) f (k+j) 0 L=true:=by
 induction l with
 | nil=>intro k h j f hj;simp at hj
 | cons f r ih=>
   intro k h j f' hj
   simp only [aI,Bool.and_eq_true] at h
   cases j with
   | zero=>simp at hj;subst hj;exact h.1
   | succ j=>
     have:=ih (k+1) h.2 j f' (by simpa using hj)
     rwa [show k+1+j=k+(j+1) from by omega] at this
theorem qR {M:List Nat} {L:List Eff} (h:aI M L 0 L=true) {i k:Nat} {e f:Eff} (hi:L[i]?=some e) (hk:L[k]?=some f) (hik:i<k) (hm:(F9 0 M k).testBit i=false) :
 (∀ x,D8 x e.wr≠none->D8 x f.wr=none)/\(∀ x,D8 x e.wr≠none->x ∉ f.rd)/\(∀ x,x ∈ e.rd->D8 x f.wr=none):=by
 have h1:=wA L 0 h k f hk
 rw [Nat.zero_add] at h1
 have h2:=apart1_get L _ _ h1 i e hi hik
 rw [Nat.zero_add,hm] at h2
 have hc:clash e f=false:=by simpa using h2
 simp only [clash,Bool.or_eq_false_iff] at hc
 have hno:∀ x,D8 x e.wr≠none->fD x f.wr=false /\ ∀ y ∈ f.rd,y≠x:=fun x hx=>by
  cases hl:D8 x e.wr with
  | none=>exact absurd hl hx
  | some u=>
    have:=List.any_eq_false.1 hc.1 (x,u) (fT hl)
    simp only [Bool.or_eq_true,not_or,Bool.not_eq_true] at this
    refine ⟨this.1,fun y hy e=>?_⟩
    have h3:=List.any_eq_false.1 this.2 y hy
    exact h3 ((Var.eq_iff _ _).2 e)
 have hnone:∀ x,fD x f.wr=false->D8 x f.wr=none:=fun x hx=>by
  cases hl:D8 x f.wr with
  | none=>rfl
  | some u=>
    have:fD x f.wr=true:=touches_iff.2 (by rw [hl];simp)
    rw [hx] at this;cases this
 exact ⟨fun x hx=>hnone x (hno x hx).1,fun x hx hm=>(hno x hx).2 x hm rfl,fun x hx=>hnone x (by
  have:=List.any_eq_false.1 hc.2 x hx
  simpa using this)⟩
theorem tI {M:List Nat} {L:List Eff} {nc nb:Nat} {l:List Eff} : ∀ {k:Nat},tJ M L nc nb k l=true -> ∀ (j:Nat) (e:Eff),l[j]?=some e -> ∀ (x:Var) (u:SV),(x,u) ∈ e.wr->u.allC (scOK L nc nb (F9 0 M (k+j)) (k+j))=true:=by
 induction l with
 | nil=>intro k h j e hj;simp at hj
 | cons f r ih=>
   intro k h j e hj x u hu
   simp only [tJ,Bool.and_eq_true,List.all_eq_true] at h
   cases j with
   | zero=>simp at hj;subst hj;exact h.1 _ hu
   | succ j=>
     have:=ih h.2 j e (by simpa using hj) x u hu
     rwa [show k+1+j=k+(j+1) from by omega] at this
theorem bB {n:Nat} : ∀ {L:List Eff} {k j:Nat},cY n k L=some j->k<=j /\ ∃ e f args nd,L[j-k]?=some e/\e.ac = .call n f args nd
 | e :: r,k,j,h=>by
   have hrec:cY n (k+1) r=some j->k<=j /\ ∃ e' f args nd,(e :: r)[j-k]?=some e'/\e'.ac = .call n f args nd:=fun h=>by
    obtain ⟨h1,e',f,args,nd,h2,h3⟩:=bB h
    refine ⟨by omega,e',f,args,nd, ?_,h3⟩
    rw [show j-k=(j-(k+1))+1 from by omega]
    simpa using h2
   unfold cY at h
   split at h
   · rename_i m f args nd he
     split at h
     · rename_i hm
       have hm:m=n:=by simpa using hm
       subst hm
       cases h
       exact ⟨Nat.le_refl _,e,f,args,nd,by simp,he⟩
     · exact hrec h
   · exact hrec h
theorem iM {n:Nat} : ∀ {L:List Eff} {k j:Nat},kB n k L=some j->k<=j /\ ∃ e ty cs,L[j-k]?=some e/\e.ac = .alloc n ty cs
 | e :: r,k,j,h=>by
   have hrec:kB n (k+1) r=some j->k<=j /\ ∃ e' ty cs,(e :: r)[j-k]?=some e'/\e'.ac = .alloc n ty cs:=fun h=>by
    obtain ⟨h1,e',ty,cs,h2,h3⟩:=iM h
    refine ⟨by omega,e',ty,cs, ?_,h3⟩
    rw [show j-k=(j-(k+1))+1 from by omega]
    simpa using h2
   unfold kB at h
   split at h
   · rename_i m ty cs he
     split at h
     · rename_i hm
       have hm:m=n:=by simpa using hm
       subst hm
       cases h
       exact ⟨Nat.le_refl _,e,ty,cs,by simp,he⟩
     · exact hrec h
   · exact hrec h
theorem recs_mem {M:List Nat} {L:List Eff} {nc:List Nat} (l:List Eff):∀ (k j:Nat) (e:Eff) (n:Nat) (f:Ask) (args:List SV) (nd:List (Nat × TypeId × List SC)),l[j]?=some e->e.ac = .call n f args nd ->
 (⟨e.ac,(List.range n).filter (avl L nc (F9 0 M (k+j)))⟩:Rec) ∈ rU M L nc k l:=by
 induction l with
 | nil=>intro k j e n f args nd hj;simp at hj
 | cons e0 r ih=>
   intro k j e n f args nd hj he
   cases j with
   | zero=>simp at hj;subst hj;unfold rU;rw [he];simp
   | succ j=>
     have:=ih (k+1) j e n f args nd (by simpa using hj) he
     rw [show k+1+j=k+(j+1) from by omega] at this
     unfold rU
     split
     · exact List.mem_cons_of_mem _ this
     · exact this
end
section
def jE (nc nb:Nat):SC->Bool
 | .lit _=>true
 | .an n _=>Nat.blt n nc
 | .ptr b _=>Nat.blt b nb
 | .row b _ _ _=>Nat.blt b nb
structure Good (S:St) (nc nb:Nat) (av:List Nat) (ps:List (Nat × Nat × Bool)):Prop where
 av:∀ n,n ∈ av->n<nc
 ps:∀ p,p ∈ ps->p.1<nc
 lt:∀ x,(S.get x).allC (jE nc nb)=true
 bx:∀ b ty n w,S.get (.k b) = .bx ty n w->b<nb
theorem aJ {p q:SC->Bool} (h:∀ c,p c=true->q c=true) (e:SV) (he:e.allC p=true):e.allC q=true:=by
 cases e with
 | v g cs=>exact List.all_eq_true.2 fun c hc=>h c (List.all_eq_true.1 he c hc)
 | fn f cs=>exact List.all_eq_true.2 fun c hc=>h c (List.all_eq_true.1 he c hc)
 | tup l=>exact List.all_eq_true.2 fun x hx=>List.all_eq_true.2 fun c hc=>h c (List.all_eq_true.1 (List.all_eq_true.1 he x hx) c hc)
 | no=>rfl
 | any i=>rfl
 | bx ty n w=>rfl
def gR (D:Nat->Bool) (i j:Nat):Bool:=D j || j == i
section
variable {P:Program} {prot:TypeId->Bool} {ops:Array Oper} {N:Nat} {sh:Nat->Sh} {S0:St} {nc0 nb0 nc2 nb2:Nat} {L:List Eff} {av0:List Nat} {ps:List (Nat × Nat × Bool)}
variable {specs:Nat->Spec prot} {dfs:Root} {base:World} {Q:Exit->Act->World->Prop} {F:Fence} {dn:Nat}
def avD (L:List Eff) (av0:List Nat) (D:Nat->Bool) (n:Nat):Prop:=n ∈ av0 \/ ∃ j e f args nd,D j=true/\L[j]?=some e/\e.ac = .call n f args nd
def InvD (dfs:Root) (base:World) (N:Nat) (specs:Nat->Spec prot) (L:List Eff) (S0:St) (av0:List Nat) (ps:List (Nat × Nat × Bool)) (D:Nat->Bool) (a:Act) (w:World):Prop:=
 ∃ σ,Rep dfs base N σ (N8 D 0 L S0).get a w/\(∀ n,avD L av0 D n->FS specs σ w (N8 D 0 L S0).get n)/\Ps σ ps
theorem sG {o:Oper} {a:Act} {g:Var->SV} {σ : Env} {W:World} (R:Rep dfs base N σ g a W) {j:Nat} {want:Bool} (hg:o.guard=some (j,want)) {d:Tmp} (hd:(ops[j]?).bind (·.dst)=some d) (hN:d<N) {t:Bool}
 (hv:g (.t d) = .v false [.lit (.bool t)]):Region.wanted o (yielded ops a.tmps)=(t == want):=by
 have:=R.va (.t d)
 rw [hv] at this
 have this:a.tmps.getD d undef = .bool t:=this
 have hlt:d<a.tmps.size:=by rw [R.sz];exact hN
 have h2:a.tmps[d]?=some (.bool t):=by
  rw [Array.getElem?_eq_getElem hlt]
  simpa [hlt] using this
 unfold Region.wanted
 rw [hg]
 simp only [yielded,hd,Option.bind_some,h2]
 cases t<;>cases want<;>rfl
theorem wanted_un {o:Oper} {a:Act} {g:Var->SV} {σ : Env} {W:World} (R:Rep dfs base N σ g a W) {j:Nat} {want:Bool} (hg:o.guard=some (j,want)) {d:Tmp} (hd:(ops[j]?).bind (·.dst)=some d) {l:Array Value}
 (hv:g (.t d) = .v false [.lit (.tuple l)]):Region.wanted o (yielded ops a.tmps)=false:=by
 have:=R.va (.t d)
 rw [hv] at this
 have this:a.tmps.getD d undef = .tuple l:=this
 unfold Region.wanted
 rw [hg]
 have h2:∀ b,a.tmps[d]?≠some (.bool b):=fun b hb=>by
  rw [Array.getD_eq_getD_getElem?,hb] at this
  cases this
 cases hq:a.tmps[d]? with
 | none=>simp [yielded,hd,hq]
 | some v=>
   cases v<;>simp [yielded,hd,hq]
   rename_i b
   exact absurd hq (h2 b)
theorem pO {C:Nat->Nat} {n:Nat} (h:∀ i,i<n->C i<=C (i+1)):∀ j i,i<=j->j<=n->C i<=C j:=by
 intro j
 induction j with
 | zero=>intro i hi _;rw [Nat.le_zero.1 hi];exact Nat.le_refl _
 | succ j ih=>
   intro i hi hj
   rcases Nat.lt_or_ge i (j+1) with hlt | hge
   · exact Nat.le_trans (ih i (by omega) (by omega)) (h j (by omega))
   · rw [show i=j+1 from by omega];exact Nat.le_refl _
def ownB:SV->Bool
 | .bx _ _ w=>w
 | _=>true
def nM:Ac->Option Nat
 | .call n _ _ _=>some n
 | _=>none
def allI {α : Type} (p:Nat->α->Bool):Nat->List α->Bool
 | _,[]=>true
 | i,x :: r=>p i x && allI p (i+1) r
theorem qU {α : Type} {p:Nat->α->Bool} : ∀ {l:List α} {i:Nat},allI p i l=true -> ∀ j x,l[j]?=some x->p (i+j) x=true
 | [],_,_,j,x,h=>by simp at h
 | y :: r,i,h,0,x,hx=>by
   simp only [allI,Bool.and_eq_true] at h
   simp at hx;subst hx
   exact h.1
 | y :: r,i,h,j+1,x,hx=>by
   simp only [allI,Bool.and_eq_true] at h
   have:=qU h.2 j x (by simpa using hx)
   rwa [show i+1+j=i+(j+1) from by omega] at this
def lD (M:List Nat) (L:List Eff) (av0:List Nat) (S0:St):Bool:=
 !(L.any fun e=>pU e.ac) || (S0.k.all ownB && L.all (fun e=>e.wr.all fun p=>ownB p.2) && allI (fun i e => !pU e.ac || (match nM e.ac with
   | some n=>av0.all (fun m=>Nat.blt m n) && allI (fun j f=>j == i || (match nM f.ac with
    | some m=>(Nat.blt m n && avl L av0 (F9 0 M i) m) || (F9 0 M j).testBit i
    | none=>true)) 0 L
   | none=>true)) 0 L)
structure Pass (P:Program) (prot:TypeId->Bool) (ops:Array Oper) (N:Nat) (sh:Nat->Sh) (S0:St) (nc0 nb0:Nat) (L:List Eff) (nc2 nb2:Nat):Prop where
 sym:kN P prot ops N sh ops.toList S0 nc0 nb0=some (L,nc2,nb2)
 edges:cV ops.toList 0=true
 ap:aI (T1 ops.toList []) L 0 L=true
 kn:tJ (T1 ops.toList []) L nc0 nb0 0 L=true
theorem vC (H:Pass P prot ops N sh S0 nc0 nb0 L nc2 nb2) :
 (∀ (i:Nat) (e:Eff) (n:Nat) (f:Ask) (args:List SV) (nd:List (Nat × TypeId × List SC)),L[i]?=some e->e.ac = .call n f args nd->nc0<=n/\n<nc2 /\ ∀ (j:Nat) (e':Eff) (f':Ask) (args':List SV) (nd':List (Nat × TypeId × List SC)),L[j]?=some e'->e'.ac = .call n f' args' nd'->j=i) /\
 (∀ (i:Nat) (e:Eff) (b:Nat) (ty:TypeId) (cs:List SC),L[i]?=some e->e.ac = .alloc b ty cs->nb0<=b/\b<nb2 /\ ∀ (j:Nat) (e':Eff) (ty':TypeId) (cs':List SC),L[j]?=some e'->e'.ac = .alloc b ty' cs'->j=i) /\
 nc0<=nc2/\nb0<=nb2/\L.length=ops.toList.length /\
 (∀ i o,ops[i]?=some o -> ∃ (e:Eff) (nci nbi nci' nbi':Nat),L[i]?=some e/\sO P prot ops N (N8 (fun j=>decide (j<i)) 0 L S0) nci nbi sh o=some (e,nci',nbi')):=by
 obtain ⟨C,B,c0,b0,c1,b1,hlen,hget⟩:=oD H.sym
 have hstep:∀ i,i<ops.toList.length -> ∃ e,L[i]?=some e/\(match e.ac with | .call n _ _ _=>n=C i/\C (i+1)=C i+1/\B (i+1)=B i | .alloc b _ _=>b=B i/\B (i+1)=B i+1/\C (i+1)=C i | _=>C (i+1)=C i/\B (i+1)=B i):=fun i hi=>by
  obtain ⟨e,h1,h2⟩:=hget i _ (List.getElem?_eq_getElem hi)
  exact ⟨e,h1,(kO h2).1⟩
 have hC:∀ i,i<ops.toList.length->C i<=C (i+1):=fun i hi=>by
  obtain ⟨e,_,h⟩:=hstep i hi
  cases hac:e.ac<;>rw [hac] at h<;>simp only at h<;>omega
 have hB:∀ i,i<ops.toList.length->B i<=B (i+1):=fun i hi=>by
  obtain ⟨e,_,h⟩:=hstep i hi
  cases hac:e.ac<;>rw [hac] at h<;>simp only at h<;>omega
 have mC:=pO hC
 have mB:=pO hB
 have lt_of:∀ i (e:Eff),L[i]?=some e->i<ops.toList.length:=fun i e h=>by rw [<- hlen];exact (List.getElem?_eq_some_iff.1 h).1
 have callAt:∀ (i:Nat) (e:Eff) (n:Nat) (f:Ask) (args:List SV) (nd:List (Nat × TypeId × List SC)),L[i]?=some e->e.ac = .call n f args nd->n=C i/\C (i+1)=C i+1:=fun i e n f args nd h he=>by
  obtain ⟨e',h1,h2⟩:=hstep i (lt_of i e h)
  rw [h] at h1;cases h1
  rw [he] at h2;exact ⟨h2.1,h2.2.1⟩
 have boxAt:∀ (i:Nat) (e:Eff) (b:Nat) (ty:TypeId) (cs:List SC),L[i]?=some e->e.ac = .alloc b ty cs->b=B i/\B (i+1)=B i+1:=fun i e b ty cs h he=>by
  obtain ⟨e',h1,h2⟩:=hstep i (lt_of i e h)
  rw [h] at h1;cases h1
  rw [he] at h2;exact ⟨h2.1,h2.2.1⟩
 refine ⟨fun i e n f args nd hi he=>?_,fun i e b ty cs hi he=>?_, ?_, ?_,hlen,fun i o hi=>?_⟩
 · obtain ⟨h1,h2⟩:=callAt i e n f args nd hi he
   have hl:=lt_of i e hi
   refine ⟨by rw [h1, <- c0];exact mC i 0 (by omega) (by omega),by have:=mC ops.toList.length (i+1) (by omega) (by omega);omega,fun j e' f' args' nd' hj he'=>?_⟩
   obtain ⟨h3,h4⟩:=callAt j e' n f' args' nd' hj he'
   have hl2:=lt_of j e' hj
   rcases Nat.lt_trichotomy j i with h | h | h
   · have:=mC i (j+1) (by omega) (by omega);omega
   · exact h
   · have:=mC j (i+1) (by omega) (by omega);omega
 · obtain ⟨h1,h2⟩:=boxAt i e b ty cs hi he
   have hl:=lt_of i e hi
   refine ⟨by rw [h1, <- b0];exact mB i 0 (by omega) (by omega),by have:=mB ops.toList.length (i+1) (by omega) (by omega);omega,fun j e' ty' cs' hj he'=>?_⟩
   obtain ⟨h3,h4⟩:=boxAt j e' b ty' cs' hj he'
   have hl2:=lt_of j e' hj
   rcases Nat.lt_trichotomy j i with h | h | h
   · have:=mB i (j+1) (by omega) (by omega);omega
   · exact h
   · have:=mB j (i+1) (by omega) (by omega);omega
 · rw [<- c0, <- c1];exact mC _ _ (by omega) (by omega)
 · rw [<- b0, <- b1];exact mB _ _ (by omega) (by omega)
 · obtain ⟨e,h1,h2⟩:=hget i o (by simpa using hi)
   exact ⟨e,_,_,_,_,h1,h2⟩
theorem mD (fc:Fc F dn P) (H:Pass P prot ops N sh S0 nc0 nb0 L nc2 nb2) (G:Good S0 nc0 nb0 av0 ps) (hz:dfs.nb<=nb0) (hsh:∀ n,sh n=(specs n).sh)
 (hvc:∀ r ∈ rU (T1 ops.toList []) L av0 0 L,VCa P specs base (fun n=>n ∈ r.av) ps r.ac) (hln:lD (T1 ops.toList []) L av0 S0=true)
 {D:Nat->Bool} {i:Nat} {o:Oper} (hi:ops[i]?=some o) (hDi:D i=false) (hb:∀ k,(F9 0 (T1 ops.toList []) i).testBit k=true->D k=true)
 (hc:∀ k,D k=true->(F9 0 (T1 ops.toList []) k).testBit i=false) (hlt:∀ k,D k=true->k<ops.size)
 {a:Act} {w:World} (I:InvD dfs base N specs L S0 av0 ps D a w) {K:Act->World->Prop} (hK:∀ a' w',InvD dfs base N specs L S0 av0 ps (gR D i) a' w'->K a' w'):wpOpIn F dn P ops Q i K a w:=by
 obtain ⟨σ,R,hF,hP⟩:=I
 obtain ⟨oc,ob,_,_,hlen,hget⟩:=vC H
 obtain ⟨e,nci,nbi,nci',nbi',hLi,hsym⟩:=hget i o hi
 have lone:=hln
 generalize hMM:T1 ops.toList []=M at *
 have hob:pU e.ac=true -> ∀ b ty n w,(N8 D 0 L S0).get (.k b) = .bx ty n w->w=true:=fun hw b ty n w' hk=>by
  have hln:=lone
  have hany:(L.any fun e=>pU e.ac)=true:=List.any_eq_true.2 ⟨e,List.mem_of_getElem? hLi,hw⟩
  unfold lD at hln
  rw [hany] at hln
  simp only [Bool.not_true,Bool.false_or,Bool.and_eq_true] at hln
  rw [P8] at hk
  cases hl:lwD D (.k b) 0 L with
  | none=>
    rw [hl] at hk
    have hk:F9 .no S0.k b = .bx ty n w':=hk
    rw [G5] at hk
    cases hg:S0.k[b]? with
    | none=>rw [hg] at hk;cases hk
    | some u=>
      rw [hg] at hk
      have hk:u = .bx ty n w':=hk
      have:=List.all_eq_true.1 hln.1.1 u (List.mem_of_getElem? hg)
      rw [hk] at this;exact this
  | some u=>
    rw [hl] at hk
    have hk:u = .bx ty n w':=hk
    obtain ⟨j,e',h1,_,h2⟩:=fR hl
    have:=List.all_eq_true.1 (List.all_eq_true.1 hln.1.2 e' (List.mem_of_getElem? h1)) _ h2
    rw [hk] at this;exact this
 have hH:aI M L 0 L=true:=by rw [<- hMM];exact H.ap
 have hKn:tJ M L nc0 nb0 0 L=true:=by rw [<- hMM];exact H.kn
 have hc0:=hc
 have late:∀ (k:Nat) (f:Eff),L[k]?=some f->D k=true->i<k->(∀ x,D8 x e.wr≠none->D8 x f.wr=none)/\(∀ x,D8 x e.wr≠none->x ∉ f.rd)/\(∀ x,x ∈ e.rd->D8 x f.wr=none):=fun k f hk hD hik=>
  qR hH hLi hk hik (hc k hD)
 have early:∀ (k:Nat) (f:Eff),L[k]?=some f->D k=false->k<i->(∀ x,D8 x f.wr≠none->x ∉ e.rd):=fun k f hk hD hik=>
  (qR hH hk hLi hik (by
   cases hq:(F9 0 M i).testBit k with
   | false=>rfl
   | true=>rw [hb k hq] at hD;cases hD)).2.1
 have hrd:∀ x ∈ e.rd,(N8 D 0 L S0).get x=(N8 (fun j=>decide (j<i)) 0 L S0).get x:=fun x hx=>by
  rw [P8,P8]
  congr 1
  refine lB fun k f hk hw=>?_
  rw [Nat.zero_add]
  cases hD:D k with
  | false=>
    rcases Nat.lt_or_ge k i with h | h
    · exact absurd hx (early k f hk hD h x hw)
    · simp;omega
  | true=>
    rcases Nat.lt_trichotomy i k with h | h | h
    · exact absurd ((late k f hk hD h).2.2 x hx) hw
    · rw [<- h,hDi] at hD;cases hD
    · simp [h]
 have named:∀ x (p:SC->Bool),(∀ c,jE nc0 nb0 c=true->p c=true)->(∀ k c,D k=true->scOK L nc0 nb0 (F9 0 M k) k c=true->p c=true)->((N8 D 0 L S0).get x).allC p=true:=fun x p h1 h2=>by
  rw [P8]
  cases hl:lwD D x 0 L with
  | none=>exact aJ h1 _ (G.lt x)
  | some u=>
    obtain ⟨k,f,hk,hD,hm⟩:=fR hl
    rw [Nat.zero_add] at hD
    have:=tI hKn k f hk x u hm
    rw [Nat.zero_add] at this
    exact aJ (fun c hc=>h2 k c hD hc) _ this
 have hown:Own dfs.nb e.ac (N8 D 0 L S0).get (avD L av0 D):=by
  cases hac:e.ac with
  | pure=>trivial
  | store b o cs=>trivial
  | call n f args nd=>
    obtain ⟨h1,h2,h3⟩:=oc i e n f args nd hLi hac
    refine ⟨fun x=>named x _ (fun c hc=>?_) (fun k c hD hc=>?_), ?_⟩
    · cases c with
      | an m q=>have hc:Nat.blt m nc0=true:=hc;simp at hc;simp [SC.noA];omega
      | _=>rfl
    · cases c with
      | an m q=>
        simp only [SC.noA,bne_iff_ne,ne_eq]
        rintro rfl
        have hq:(Nat.blt m nc0 || Z8 (F9 0 M k) k (cY m 0 L))=true:=hc
        rw [Bool.or_eq_true] at hq
        rcases hq with hq | hq
        · simp at hq;omega
        · unfold Z8 at hq
          split at hq
          · rename_i j hj
            obtain ⟨_,e',f',args',nd',h4,h5⟩:=bB hj
            have:=h3 _ _ _ _ _ h4 h5
            rw [Nat.sub_zero] at this
            rw [this,Bool.or_eq_true] at hq
            rcases hq with hq | hq
            · have:i=k:=by simpa using hq
              rw [this,hD] at hDi;cases hDi
            · rw [hc0 k hD] at hq;cases hq
          · cases hq
      | _=>rfl
    · rintro (h | ⟨j,e',f',args',nd',hD,h4,h5⟩)
      · have:=G.av n h;omega
      · have:=h3 _ _ _ _ _ h4 h5
        rw [this,hDi] at hD;cases hD
  | alloc b ty cs=>
    obtain ⟨h1,h2,h3⟩:=ob i e b ty cs hLi hac
    have hbad:∀ m k,D k=true->(Nat.blt m nb0 || Z8 (F9 0 M k) k (kB m 0 L))=true->m≠b:=fun m k hD hq hmb=>by
     subst hmb
     rw [Bool.or_eq_true] at hq
     rcases hq with hq | hq
     · simp at hq;omega
     · unfold Z8 at hq
       split at hq
       · rename_i j hj
         obtain ⟨_,e',ty',cs',h4,h5⟩:=iM hj
         have:=h3 _ _ _ _ h4 h5
         rw [Nat.sub_zero] at this
         rw [this,Bool.or_eq_true] at hq
         rcases hq with hq | hq
         · have:i=k:=by simpa using hq
           rw [this,hD] at hDi;cases hDi
         · rw [hc k hD] at hq;cases hq
       · cases hq
    refine ⟨fun x=>named x _ (fun c hc=>?_) (fun k c hD hc=>?_),fun t n w' hk=>?_,by omega⟩
    · cases c with
      | ptr m q=>have hc:Nat.blt m nb0=true:=hc;simp at hc;simp [SC.noB];omega
      | row m p q r=>have hc:Nat.blt m nb0=true:=hc;simp at hc;simp [SC.noB];omega
      | _=>rfl
    · cases c with
      | ptr m q=>simp only [SC.noB,bne_iff_ne,ne_eq];exact hbad m k hD hc
      | row m p q r=>simp only [SC.noB,bne_iff_ne,ne_eq];exact hbad m k hD hc
      | _=>rfl
    · rw [P8] at hk
      cases hl:lwD D (.k b) 0 L with
      | none=>
        rw [hl] at hk
        have:=G.bx b _ _ _ hk;omega
      | some u=>
        obtain ⟨k,f,hk',hD,hm⟩:=fR hl
        rw [Nat.zero_add] at hD
        obtain ⟨f2,_,_,_,_,hf2,hs2⟩:=hget k (ops[k]'(hlt k hD)) (Array.getElem?_eq_getElem (hlt k hD))
        rw [hk'] at hf2;cases hf2
        obtain ⟨ty',cs',hac'⟩:=(kO hs2).2 b u hm
        have:=h3 _ _ _ _ hk' hac'
        rw [this,hDi] at hD;cases hD
 have hvce:VCa P specs base (avD L av0 D) ps e.ac:=by
  cases hac:e.ac with
  | pure=>trivial
  | store b o cs=>trivial
  | alloc b ty cs=>trivial
  | call n f args nd=>
    have hmem:=recs_mem (M:=M) (L:=L) (nc:=av0) L 0 i e n f args nd hLi hac
    have:=hvc _ hmem
    rw [hac] at this
    have hav:∀ m,m ∈ (List.range n).filter (avl L av0 (F9 0 M (0+i)))->avD L av0 D m:=fun m hm=>by
     have:=(List.mem_filter.1 hm).2
     unfold avl at this
     rw [Bool.or_eq_true] at this
     rcases this with h | h
     · exact .inl (by simpa using h)
     · split at h
       · rename_i j hj
         obtain ⟨_,e',f',args',nd',h4,h5⟩:=bB hj
         rw [Nat.zero_add] at h
         exact .inr ⟨j,e',f',args',nd',hb j h,by simpa using h4,h5⟩
       · cases h
    refine this.mono hav fun hw m hm=>?_
    have hln:=lone
    have hany:(L.any fun e=>pU e.ac)=true:=List.any_eq_true.2 ⟨e,List.mem_of_getElem? hLi,by rw [hac];exact hw⟩
    unfold lD at hln
    rw [hany] at hln
    simp only [Bool.not_true,Bool.false_or,Bool.and_eq_true] at hln
    have h1:=qU hln.2 i e hLi
    rw [Nat.zero_add,hac] at h1
    rw [hw] at h1
    simp only [Bool.not_true,Bool.false_or,nM,Bool.and_eq_true] at h1
    refine List.mem_filter.2 ?_
    rw [Nat.zero_add,List.mem_range]
    rcases hm with h | ⟨j,e',f',args',nd',hD,h4,h5⟩
    · have h6:=List.all_eq_true.1 h1.1 m h
      exact ⟨by simpa using h6,by unfold avl;rw [Bool.or_eq_true];exact .inl (by simpa using h)⟩
    · have h6:=qU h1.2 j e' h4
      rw [Nat.zero_add,h5] at h6
      have hne:(j == i)=false:=by
       rw [beq_eq_false_iff_ne];rintro rfl
       rw [hDi] at hD;cases hD
      rw [hne,hc0 j hD] at h6
      simp only [Bool.false_or,Bool.or_false,nM,Bool.and_eq_true] at h6
      exact ⟨by simpa using h6.1,h6.2⟩
 have hupd:upd (N8 D 0 L S0).get e.wr=(N8 (gR D i) 0 L S0).get:=by
  funext x
  unfold upd
  rw [P8,P8]
  cases hl:D8 x e.wr with
  | none=>
    rw [Option.getD_none]
    congr 1
    refine lB fun k f hk hw=>?_
    rw [Nat.zero_add]
    have:k≠i:=fun hki=>by subst hki;rw [hLi] at hk;cases hk;exact hw hl
    simp [gR,this]
  | some u=>
    have:=lwD_at (p:=gR D i) (k:=0) hLi hl (by simp [gR]) (fun j f hj hij hp=>by
     rw [Nat.zero_add] at hp
     have hD:D j=true:=by
      have:j≠i:=by omega
      simpa [gR,this] using hp
     exact (late j f hj hD hij).1 x (by rw [hl];simp))
    rw [this];rfl
 have hfin:∀ σ' a' W',Rep dfs base N σ' (upd (N8 D 0 L S0).get e.wr) a' W'->(∀ n,avD L av0 D n\/got e.ac n->FS specs σ' W' (upd (N8 D 0 L S0).get e.wr) n)->(∀ n c,¬ got e.ac n->σ'.an n c=σ.an n c)->K a' W':=fun σ' a' W' hR hf hsm=>by
  rw [hupd] at hR hf
  refine hK a' W' ⟨σ',hR,fun n hn=>hf n ?_,fun p hp=>?_⟩
  rotate_left
  · rw [hsm p.1 p.2.1 fun hg=>?_]
    · exact hP p hp
    · cases hac:e.ac with
      | call n f args nd=>
        rw [hac] at hg
        have hg:p.1=n:=hg
        have:=(oc i e n f args nd hLi hac).1
        have:=G.ps p hp
        omega
      | pure=>rw [hac] at hg;exact hg
      | store b o cs=>rw [hac] at hg;exact hg
      | alloc b ty cs=>rw [hac] at hg;exact hg
  rcases hn with h | ⟨j,e',f',args',nd',hD,h4,h5⟩
  · exact .inl (.inl h)
  · by_cases hj:j=i
    · subst hj
      rw [hLi] at h4;cases h4
      exact .inr (by rw [h5];rfl)
    · exact .inl (.inr ⟨j,e',f',args',nd',by simpa [gR,hj] using hD,h4,h5⟩)
 unfold sO at hsym
 split at hsym
 · rename_i hdst
   have hd:∀ d,o.dst=some d->d<N:=fun d h=>by
    unfold dstOK at hdst;rw [h] at hdst;simp only [Bool.and_eq_true] at hdst;simpa using hdst.2
   have hnd:jN o.op=true:=by unfold dstOK at hdst;simp only [Bool.and_eq_true] at hdst;exact hdst.1
   unfold wpOpIn
   rw [hi]
   simp only
   split at hsym
   · rename_i hg
     rw [if_pos (by unfold Region.wanted;rw [hg])]
     exact (sM fc hnd hd hsym (fun x hx=>hx) R hrd hsh hF hown hP hvce hob hfin)
   · rename_i j want hg
     split at hsym
     · rename_i d hdd
       split at hsym
       · rename_i hdN
         split at hsym
         · rename_i t ht
           have hin:∀ rd',(Var.t d) ∈ rd'->rd'=e.rd\/True:=fun _ _ => .inr trivial
           split at hsym
           · rename_i htw
             have hmem:∀ x ∈ Var.t d :: pC o,x ∈ e.rd:=by
              unfold hO at hsym
              split at hsym
              rotate_left
              · unfold told at hsym
                simp only at hsym
                split at hsym
                · split at hsym
                  · cases hsym;exact fun x hx=>List.mem_append_right _ hx
                  · cases hsym
                · cases hsym
              rename_i r hr
              cases hsym
              have hsym:=hr
              clear hr
              unfold fE at hsym
              intro x hx
              have hve:valE P (N8 (fun j=>decide (j<i)) 0 L S0) nci nbi o (Var.t d :: pC o)=some (e,nci',nbi')->x ∈ e.rd:=fun h=>by
               unfold valE at h
               split at h
               · cases h;exact hx
               · cases h
              have hbx:∀ ty cs e0,Z9 nci nbi o (Var.t d :: pC o) ty cs e0=some (e,nci',nbi')->x ∈ e.rd:=fun ty cs e0 h=>by
               unfold Z9 at h;split at h
               · cases h;exact hx
               · cases h
              split at hsym
              · split at hsym
                · exact hbx _ _ _ hsym
                · cases hsym
              · split at hsym
                · exact hbx _ _ _ hsym
                · cases hsym
              · split at hsym
                · split at hsym
                  · split at hsym
                    · split at hsym
                      · exact hbx _ _ _ hsym
                      · cases hsym
                    · cases hsym
                  · cases hsym
                · cases hsym
              · split at hsym
                · split at hsym
                  · split at hsym
                    · cases hsym;exact List.mem_append_right _ hx
                    · cases hsym
                  · cases hsym
                · split at hsym
                  · cases hsym;exact List.mem_cons_of_mem _ hx
                  · cases hsym
                · cases hsym
              · split at hsym
                · split at hsym
                  · split at hsym
                    · cases hsym;exact List.mem_cons_of_mem _ hx
                    · cases hsym
                  · cases hsym
                · cases hsym
              · unfold callE at hsym
                split at hsym
                · split at hsym
                  · simp only at hsym
                    split at hsym
                    · split at hsym
                      · cases hsym;exact List.mem_append_right _ hx
                      · cases hsym
                    · cases hsym
                  · cases hsym
                · exact hve hsym
              · exact hve hsym
             have hgv:(N8 D 0 L S0).get (.t d) = .v false [.lit (.bool t)]:=by
              rw [hrd _ (hmem _ (by simp))];exact Y3 ht
             have hw:Region.wanted o (yielded ops a.tmps)=true:=(sG R hg hdd hdN hgv).trans htw
             rw [if_pos hw]
             exact (sM fc hnd hd hsym (fun x hx=>by simp [hx]) R hrd hsh hF hown hP hvce hob hfin)
           · rename_i htw
             cases hsym
             have hgv:(N8 D 0 L S0).get (.t d) = .v false [.lit (.bool t)]:=by
              rw [hrd _ (by simp)];exact Y3 ht
             have hw:¬ Region.wanted o (yielded ops a.tmps)=true:=by rw [sG R hg hdd hdN hgv];exact htw
             rw [if_neg hw]
             refine ⟨fun f _=>fc.fn f, ?_⟩
             refine hfin σ _ w (R.put o hd unSV) (fun n hn=>?_) (fun _ _ _=>rfl)
             rcases hn with hn | hn
             · exact ⟨(hF n hn).1,fun b ty k hk=>(hF n hn).2 b ty k (by rw [dJ] at hk;exact hk)⟩
             · exact hn.elim
         · rename_i tl ht
           cases hsym
           have hgv:(N8 D 0 L S0).get (.t d) = .v false [.lit (.tuple tl)]:=by
            rw [hrd _ (by simp)];exact Y3 ht
           have hw:¬ Region.wanted o (yielded ops a.tmps)=true:=by rw [wanted_un R hg hdd hgv];simp
           rw [if_neg hw]
           refine ⟨fun f _=>fc.fn f, ?_⟩
           refine hfin σ _ w (R.put o hd unSV) (fun n hn=>?_) (fun _ _ _=>rfl)
           rcases hn with hn | hn
           · exact ⟨(hF n hn).1,fun b ty k hk=>(hF n hn).2 b ty k (by rw [dJ] at hk;exact hk)⟩
           · exact hn.elim
         · cases hsym
       · cases hsym
     · cases hsym
 · cases hsym
end
end
section
section
variable {P:Program} {prot:TypeId->Bool} {ops:Array Oper} {N:Nat} {sh:Nat->Sh} {S0:St} {nc0 nb0 nc2 nb2:Nat} {L:List Eff} {av0:List Nat} {ps:List (Nat × Nat × Bool)}
variable {specs:Nat->Spec prot} {dfs:Root} {base:World} {Q:Exit->Act->World->Prop} {F:Fence} {dn:Nat}
theorem runD_ext {p q:Nat->Bool} : ∀ {l:List Eff} {k:Nat} {S:St},(∀ j,j<l.length->p (k+j)=q (k+j))->N8 p k l S=N8 q k l S
 | [],_,_,_=>rfl
 | e :: r,k,S,h=>by
   have h0:=h 0 (by simp)
   rw [Nat.add_zero] at h0
   rw [N8,N8,h0]
   exact runD_ext fun j hj=>by
    have:=h (j+1) (by simpa using hj)
    rwa [show k+1+j=k+(j+1) from by omega]
def fin (L:List Eff) (S0:St):St:=N8 (fun _=>true) 0 L S0
def rL (dfs:Root) (base:World) (N:Nat) (specs:Nat->Spec prot) (S:St) (av:List Nat) (ps:List (Nat × Nat × Bool)) (a:Act) (w:World):Prop:=
 ∃ σ,Rep dfs base N σ S.get a w/\(∀ n,n ∈ av->FS specs σ w S.get n)/\Ps σ ps
def bN:List Eff->List Nat
 | []=>[]
 | e :: r=>match e.ac with
   | .call n _ _ _=>n :: bN r
   | _=>bN r
theorem tF {n:Nat} {L:List Eff} : n ∈ bN L -> ∃ (j:Nat) (e:Eff) (f:Ask) (args:List SV) (nd:List (Nat × TypeId × List SC)),L[j]?=some e/\e.ac = .call n f args nd:=by
 induction L with
 | nil=>intro h;cases h
 | cons e r ih=>
   intro h
   have hr:n ∈ bN r -> ∃ (j:Nat) (e':Eff) (f:Ask) (args:List SV) (nd:List (Nat × TypeId × List SC)),(e :: r)[j]?=some e'/\e'.ac = .call n f args nd:=fun h=>by
    obtain ⟨j,e',f,args,nd,h1,h2⟩:=ih h
    exact ⟨j+1,e',f,args,nd,by simpa using h1,h2⟩
   unfold bN at h
   split at h
   · rename_i m f args nd he
     rcases List.mem_cons.1 h with h | h
     · subst h;exact ⟨0,e,f,args,nd,by simp,he⟩
     · exact hr h
   · exact hr h
theorem sets_fin {o:Oper} : ∀ {l:List Eff} {S:St},fin l S=l.foldl (fun S e=>S.sets e.wr) S:=by
 have:∀ (l:List Eff) (k:Nat) (S:St),N8 (fun _=>true) k l S=l.foldl (fun S e=>S.sets e.wr) S:=fun l=>by
  induction l with
  | nil=>intros;rfl
  | cons e r ih=>intro k S;simp [N8,ih]
 exact fun {l S}=>this l 0 S
theorem vL (H:Pass P prot ops N sh S0 nc0 nb0 L nc2 nb2) {D:Nat->Bool} (hD:∀ j,j<ops.size->D j=true) {a:Act} {w:World} (I:InvD dfs base N specs L S0 av0 ps D a w):rL dfs base N specs (fin L S0) (av0++bN L) ps a w:=by
 obtain ⟨σ,R,hF,hP⟩:=I
 obtain ⟨oc,ob,hle,_,hlen,hget⟩:=vC H
 have hsz:L.length=ops.size:=by rw [hlen];simp
 have he:N8 D 0 L S0=fin L S0:=runD_ext fun j hj=>by rw [Nat.zero_add];exact hD j (by omega)
 rw [he] at R hF
 refine ⟨σ,R,fun n hn=>hF n ?_,hP⟩
 rcases List.mem_append.1 hn with h | h
 · exact .inl h
 · obtain ⟨j,e,f,args,nd,h1,h2⟩:=tF h
   exact .inr ⟨j,e,f,args,nd,hD j (by have:=(List.getElem?_eq_some_iff.1 h1).1;omega),h1,h2⟩
theorem good_fin (H:Pass P prot ops N sh S0 nc0 nb0 L nc2 nb2) (G:Good S0 nc0 nb0 av0 ps):Good (fin L S0) nc2 nb2 (av0++bN L) ps:=by
 obtain ⟨oc,ob,hle,hlb,hlen,hget⟩:=vC H
 refine ⟨fun n hn=>?_,fun p hp=>by have:=G.ps p hp;omega,fun x=>?_,fun b ty n w hk=>?_⟩
 · rcases List.mem_append.1 hn with h | h
   · have:=G.av n h;omega
   · obtain ⟨j,e,f,args,nd,h1,h2⟩:=tF h
     exact (oc _ _ _ _ _ _ h1 h2).2.1
 · rw [fin,P8]
   cases hl:lwD (fun _=>true) x 0 L with
   | none=>exact aJ (fun c hc=>by cases c<;>simp [jE] at hc ⊢ <;> omega) _ (G.lt x)
   | some u=>
     obtain ⟨k,f,hk,_,hm⟩:=fR hl
     have:=tI H.kn k f hk x u hm
     refine aJ (fun c hc=>?_) _ this
     have hA:∀ m t q,Z8 t q (cY m 0 L)=true->m<nc2:=fun m t q hq=>by
      unfold Z8 at hq;split at hq
      · rename_i j hj
        obtain ⟨_,e',f',args',nd',h4,h5⟩:=bB hj
        exact (oc _ _ _ _ _ _ h4 h5).2.1
      · cases hq
     have hB:∀ m t q,Z8 t q (kB m 0 L)=true->m<nb2:=fun m t q hq=>by
      unfold Z8 at hq;split at hq
      · rename_i j hj
        obtain ⟨_,e',ty',cs',h4,h5⟩:=iM hj
        exact (ob _ _ _ _ _ h4 h5).2.1
      · cases hq
     cases c with
     | lit v=>rfl
     | an m q=>
       simp only [scOK,Bool.or_eq_true] at hc
       have:m<nc2:=by
        rcases hc with hc | hc
        · simp at hc;omega
        · exact hA _ _ _ hc
       simp [jE,this]
     | ptr m q=>
       simp only [scOK,Bool.or_eq_true] at hc
       have:m<nb2:=by
        rcases hc with hc | hc
        · simp at hc;omega
        · exact hB _ _ _ hc
       simp [jE,this]
     | row m p q r=>
       simp only [scOK,Bool.or_eq_true] at hc
       have:m<nb2:=by
        rcases hc with hc | hc
        · simp at hc;omega
        · exact hB _ _ _ hc
       simp [jE,this]
 · rw [fin,P8] at hk
   cases hl:lwD (fun _=>true) (.k b) 0 L with
   | none=>rw [hl] at hk;have:=G.bx b _ _ _ hk;omega
   | some u=>
     obtain ⟨k,f,hk',_,hm⟩:=fR hl
     have hlt:k<ops.size:=by
      have:=(List.getElem?_eq_some_iff.1 hk').1
      rw [hlen] at this;simpa using this
     obtain ⟨f2,_,_,_,_,hf2,hs2⟩:=hget k (ops[k]'hlt) (Array.getElem?_eq_getElem hlt)
     rw [hk'] at hf2;cases hf2
     obtain ⟨ty',cs',hac'⟩:=(kO hs2).2 b u hm
     exact (ob _ _ _ _ _ hk' hac').2.1
theorem tK {a:Act} {w:World} (I:rL dfs base N specs S0 av0 ps a w) {L:List Eff} : InvD dfs base N specs L S0 av0 ps (fun _=>false) a w:=by
 obtain ⟨σ,R,hF,hP⟩:=I
 have:N8 (fun _=>false) 0 L S0=S0:=by
  have:∀ (l:List Eff) (k:Nat),N8 (fun _=>false) k l S0=S0:=fun l=>by
   induction l with
   | nil=>intros;rfl
   | cons e r ih=>intro k;simp [N8,ih]
  exact this L 0
 rw [<- this] at R hF
 refine ⟨σ,R,fun n hn=>hF n ?_,hP⟩
 rcases hn with h | ⟨j,e,f,args,nd,h,_⟩
 · exact h
 · cases h
theorem region_seq (fc:Fc F dn P) (H:Pass P prot ops N sh S0 nc0 nb0 L nc2 nb2) (G:Good S0 nc0 nb0 av0 ps) (hz:dfs.nb<=nb0) (hsh:∀ n,sh n=(specs n).sh)
 (hvc:∀ r ∈ rU (T1 ops.toList []) L av0 0 L,VCa P specs base (fun n=>n ∈ r.av) ps r.ac) (hln:lD (T1 ops.toList []) L av0 S0=true)
 {a:Act} {w:World} (I:rL dfs base N specs S0 av0 ps a w) (hQ:∀ a' w',rL dfs base N specs (fin L S0) (av0++bN L) ps a' w'->Q .normal a' w') (id:Nat):(Code.region id ops false).wpIn F dn P Q a w:=by
 refine wpIn_region ?_
 have key:∀ m i a w,i+m=ops.size->InvD dfs base N specs L S0 av0 ps (fun j=>decide (j<i)) a w->wpOpsIn F dn P ops Q (List.range' i m) a w:=by
  intro m
  induction m with
  | zero=>
    intro i a w hi I
    exact hQ a w (vL H (fun j hj=>by simp;omega) I)
  | succ m ih=>
    intro i a w hi I
    rw [List.range'_succ,wpOpsIn_cons]
    have hlt:i<ops.size:=by omega
    refine mD fc H G hz hsh hvc hln (Array.getElem?_eq_getElem hlt) (by simp) (fun k hk=>?_) (fun k hk=>?_) (fun k hk=>by simp at hk;omega) I fun a' w' I'=>ih (i+1) a' w' (by omega) ?_
    · have:=bef_lt H.edges i (ops[i]'hlt) (by simp [hlt]) k hk
      simpa using this
    · cases hq:(F9 0 (T1 ops.toList []) k).testBit i with
      | false=>rfl
      | true=>
        have hk:k<i:=by simpa using hk
        have:=bef_lt H.edges k (ops[k]'(by omega)) (by simp [show k<ops.size by omega]) i hq
        omega
    · have:gR (fun j=>decide (j<i)) i=fun j=>decide (j<i+1):=by
       funext j;simp only [gR]
       rw [Bool.eq_iff_iff];simp;omega
      rwa [this] at I'
 have h0:(fun j=>decide (j<0))=fun _=>false:=by funext j;simp
 have:=key ops.size 0 a w (by omega) (by rw [h0];exact tK I)
 rwa [List.range_eq_range']
theorem FS.drew {σ : Env} {w:World} {g:Var->SV} {n:Nat} (h:FS specs σ w g n):FS specs σ { w with drawn:=w.drawn+1 } g n:=by
 obtain ⟨h1,h2⟩:=h.1.keeps (τ := σ) (W' := { w with drawn:=w.drawn+1 }) (fun b arr ty fr _ h=>h) (fun _ _=>rfl) fun _=>rfl
 exact ⟨h1,fun b ty k hk hf=>h.2 b ty k hk (h2 _ hf)⟩
theorem region_any (fc:Fc F dn P) (hm:P.follows .mixedOrders=true) (H:Pass P prot ops N sh S0 nc0 nb0 L nc2 nb2) (G:Good S0 nc0 nb0 av0 ps) (hz:dfs.nb<=nb0) (hsh:∀ n,sh n=(specs n).sh)
 (hvc:∀ r ∈ rU (T1 ops.toList []) L av0 0 L,VCa P specs base (fun n=>n ∈ r.av) ps r.ac) (hln:lD (T1 ops.toList []) L av0 S0=true)
 {a:Act} {w:World} (I:rL dfs base N specs S0 av0 ps a w) (hQ:∀ a' w',rL dfs base N specs (fin L S0) (av0++bN L) ps a' w'->Q .normal a' w') (id:Nat):(Code.region id ops true).wpIn F dn P Q a w:=by
 refine wpIn_region_any hm ?_
 have hdrew:rL dfs base N specs S0 av0 ps a { w with drawn:=w.drawn+1 }:=by
  obtain ⟨σ,R,hF,hP⟩:=I
  refine ⟨σ,⟨fun x=>?_,R.sz,R.df,⟨R.gr.os,R.gr.tape,R.gr.output,R.gr.size,R.gr.block⟩,R.inj,R.cl,R.one,R.ke.trans ⟨Nat.le_refl _,fun _ _ h _=>h⟩,R.ad⟩,fun n hn=>(hF n hn).drew,hP⟩
  have:=R.va x
  cases x with
  | t i=>exact this
  | c b o=>exact this
  | k b=>exact this
 have key:∀ fuel (listed:Array Bool) a w,listed.size=ops.size ->
  (∀ j o,ops[j]?=some o->listed.getD j false=true -> ∀ e ∈ o.after,Region.binds .any e=true->listed.getD e.on false=true) ->
  ((List.range ops.size).filter fun j => !listed.getD j false).length<=fuel ->
  InvD dfs base N specs L S0 av0 ps (fun j=>listed.getD j false) a w->wpAnyIn F dn P .any ops Q fuel listed a w:=by
  intro fuel
  have hdone:∀ (listed:Array Bool) a w,listed.size=ops.size->Region.ready .any ops listed=[]->InvD dfs base N specs L S0 av0 ps (fun j=>listed.getD j false) a w->Q .normal a w:=by
   intro listed a w hsz hr I
   refine hQ a w (vL H (fun j=>?_) I)
   induction j using Nat.strongRecOn with
   | _ j ih=>
     intro hj
     cases hl:listed.getD j false with
     | true=>rfl
     | false=>
       have:j ∈ Region.ready .any ops listed:=by
        refine mem_ready.2 ⟨by simp [show j<listed.size by omega] at hl ⊢;exact hl,ops[j],Array.getElem?_eq_getElem hj,fun e he hb=>?_⟩
        have hlt:=aZ H.edges j ops[j] (by simp [hj]) e he hb
        rw [Nat.zero_add] at hlt
        exact ih e.on hlt (by omega)
       rw [hr] at this;cases this
  induction fuel with
  | zero=>
    intro listed a w hsz hcl hfu I
    have hnone:∀ j,j<ops.size->listed.getD j false=true:=fun j hj=>by
     cases hl:listed.getD j false with
     | true=>rfl
     | false=>
       have hm:j ∈ (List.range ops.size).filter fun j => !listed.getD j false:=List.mem_filter.2 ⟨List.mem_range.2 hj,by rw [hl];rfl⟩
       rw [List.length_eq_zero_iff.1 (Nat.le_zero.1 hfu)] at hm
       cases hm
    refine ⟨?_,hQ a w (vL H hnone I)⟩
    cases hr:Region.ready .any ops listed with
    | nil=>rfl
    | cons x xs=>
      have hx:x ∈ Region.ready .any ops listed:=by rw [hr];simp
      obtain ⟨h1,o,ho,_⟩:=mem_ready.1 hx
      have hxl:x<ops.size:=(Array.getElem?_eq_some_iff.1 ho).1
      have:=hnone x hxl
      simp [show x<listed.size by omega] at h1 this
      rw [h1] at this;cases this
  | succ fuel ih=>
    intro listed a w hsz hcl hfu I
    refine ⟨fun hr=>hdone listed a w hsz hr I,fun i hi=>?_⟩
    obtain ⟨h1,o,ho,hall⟩:=mem_ready.1 hi
    have hil:i<ops.size:=(Array.getElem?_eq_some_iff.1 ho).1
    have hDi:listed.getD i false=false:=by simp [show i<listed.size by omega] at h1 ⊢;exact h1
    have hcl':∀ j o,ops.toList[j]?=some o->listed.getD j false=true -> ∀ e ∈ o.after,Region.binds .any e=true->listed.getD e.on false=true:=fun j o hj=>hcl j o (by simpa using hj)
    have hset:∀ j,(listed.setIfInBounds i true).getD j false=gR (fun j=>listed.getD j false) i j:=fun j=>by
     unfold gR
     by_cases hj:j=i
     · subst hj;simp [show j<listed.size by omega]
     · simp [Array.getElem?_setIfInBounds_ne (Ne.symm hj),hj]
    refine mD fc H G hz hsh hvc hln ho hDi (fun k hk=>?_) (fun k hk=>?_) (fun k hk=>?_) I fun a' w' I'=>ih _ a' w' (by simp [hsz]) (fun j o' hj hl e he hb=>?_) ?_ ?_
    · exact iO H.edges (D:=fun j=>listed.getD j false=true) hcl' i o (by simpa using ho) hall k hk
    · cases hq:(F9 0 (T1 ops.toList []) k).testBit i with
      | false=>rfl
      | true=>
        have hks:k<listed.size:=by
         rcases Nat.lt_or_ge k listed.size with h | h
         · exact h
         · simp [Array.getElem?_eq_none h] at hk
        have hko:=Array.getElem?_eq_getElem (xs:=ops) (i:=k) (by omega)
        have:=iO H.edges (D:=fun j=>listed.getD j false=true) hcl' k _ (by rw [Array.getElem?_toList];exact hko) (hcl k _ hko hk) i hq
        rw [hDi] at this;cases this
    · rcases Nat.lt_or_ge k listed.size with h | h
      · omega
      · simp [Array.getElem?_eq_none h] at hk
    · rw [hset] at hl ⊢
      simp only [gR,Bool.or_eq_true] at hl ⊢
      left
      rcases hl with hl | hl
      · exact hcl j o' hj hl e he hb
      · have:j=i:=by simpa using hl
        subst this
        rw [ho] at hj;cases hj
        exact hall e he hb
    · have hsub:((List.range ops.size).filter fun j => !(listed.setIfInBounds i true).getD j false).length<((List.range ops.size).filter fun j => !listed.getD j false).length:=by
       have hle:∀ (l:List Nat),(l.filter fun j => !(listed.setIfInBounds i true).getD j false).length<=(l.filter fun j => !listed.getD j false).length:=fun l=>by
        induction l with
        | nil=>simp
        | cons x r ih2=>
          simp only [List.filter_cons,hset,gR] at ih2 ⊢
          cases hx:listed.getD x false<;>by_cases hxi:x=i<;>simp [hx,hxi] at ih2 ⊢ <;> omega
       have hlt:∀ (l:List Nat),i ∈ l->(l.filter fun j => !(listed.setIfInBounds i true).getD j false).length<(l.filter fun j => !listed.getD j false).length:=fun l=>by
        induction l with
        | nil=>simp
        | cons x r ih2=>
          intro hm
          by_cases hxi:x=i
          · subst hxi
            have h2:=hle r
            have e1:(listed.setIfInBounds x true).getD x false=true:=by rw [hset];simp [gR]
            rw [List.filter_cons_of_neg (by rw [e1];simp),List.filter_cons_of_pos (by rw [hDi];rfl)]
            simp only [List.length_cons];omega
          · have h2:=ih2 (by
             rcases List.mem_cons.1 hm with h | h
             · exact absurd h.symm hxi
             · exact h)
            have e1:(listed.setIfInBounds i true).getD x false=listed.getD x false:=by rw [hset];simp [gR,hxi]
            by_cases hx:listed.getD x false=true
            · rw [List.filter_cons_of_neg (by rw [e1,hx];simp),List.filter_cons_of_neg (by rw [hx];simp)];exact h2
            · rw [List.filter_cons_of_pos (by rw [e1];simpa using hx),List.filter_cons_of_pos (by simpa using hx)]
              simp only [List.length_cons];omega
       exact hlt _ (List.mem_range.2 hil)
      omega
    · have:(fun j=>(listed.setIfInBounds i true).getD j false)=gR (fun j=>listed.getD j false) i:=funext hset
      rw [this];exact I'
 refine key ops.size _ a _ (by simp) (fun j o hj hl=>?_) ?_ ?_
 · have:j<ops.size:=(Array.getElem?_eq_some_iff.1 hj).1
   simp [this] at hl
 · exact Nat.le_trans (List.length_filter_le _ _) (by simp)
 · have:(fun j=>(Array.replicate ops.size false).getD j false)=fun _=>false:=by
    funext j;by_cases h:j<ops.size<;>simp [h]
   rw [this];exact tK hdrew
end
end
section
def veq:Value->Value->Bool
 | .bool a,.bool b=>a == b
 | .int k a,.int l b=>decide (k=l) && a == b
 | .slice none n m,.slice none p q=>n == p && m == q
 | .tuple a,.tuple b=>a.size == 0 && b.size == 0
 | .string a,.string b=>a.data.toList == b.data.toList
 | _,_=>false
theorem veq_eq {a b:Value} (h:veq a b=true):a=b:=by
 unfold veq at h
 split at h
 · simp at h;rw [h]
 · simp at h;rw [h.1,h.2]
 · simp at h;rw [h.1,h.2]
 · simp at h;rw [h.1,h.2]
 · rename_i x y
   obtain ⟨x⟩:=x
   obtain ⟨y⟩:=y
   have e:x.toList=y.toList:=eq_of_beq h
   rw [Array.toList_inj.1 e]
 · cases h
def SC.eqb:SC->SC->Bool
 | .lit a,.lit b=>veq a b
 | .an i c,.an j d=>i == j && c == d
 | .ptr b o,.ptr d p=>b == d && o == p
 | .row b o n m,.row d p q r=>b == d && o == p && n == q && m == r
 | _,_=>false
theorem SC.eqb_eq {a b:SC} (h:a.eqb b=true):a=b:=by
 unfold SC.eqb at h
 split at h
 · rw [veq_eq h]
 · simp at h;rw [h.1,h.2]
 · simp at h;rw [h.1,h.2]
 · simp at h;rw [h.1.1.1,h.1.1.2,h.1.2,h.2]
 · cases h
def leq {α : Type} (p : α->α->Bool):List α->List α->Bool
 | [],[]=>true
 | x :: xs,y :: ys=>p x y && leq p xs ys
 | _,_=>false
theorem pR {α : Type} {p : α->α->Bool} (hp:∀ x y,p x y=true->x=y):∀ {l m:List α},leq p l m=true->l=m
 | [],[],_=>rfl
 | x :: xs,y :: ys,h=>by
   simp only [leq,Bool.and_eq_true] at h
   rw [hp x y h.1,pR hp h.2]
 | [],_ :: _,h=>by cases h
 | _ :: _,[],h=>by cases h
def SV.eqb:SV->SV->Bool
 | .no,.no=>true
 | .v g cs,.v h ds=>(g == h) && leq SC.eqb cs ds
 | .fn f cs,.fn g ds=>f == g && leq SC.eqb cs ds
 | .tup l,.tup m=>leq (fun p q=>(p.1 == q.1) && leq SC.eqb p.2 q.2) l m
 | .bx t n w,.bx u m x=>t == u && n == m && w == x
 | .any i,.any j=>i == j
 | _,_=>false
theorem SV.eqb_eq {a b:SV} (h:a.eqb b=true):a=b:=by
 unfold SV.eqb at h
 split at h
 · rfl
 · simp only [Bool.and_eq_true,beq_iff_eq] at h;rw [h.1,pR (fun _ _=>SC.eqb_eq) h.2]
 · simp only [Bool.and_eq_true,beq_iff_eq] at h;rw [h.1,pR (fun _ _=>SC.eqb_eq) h.2]
 · rw [pR (fun x y hxy=>?_) h]
   simp only [Bool.and_eq_true,beq_iff_eq] at hxy
   exact Prod.ext hxy.1 (pR (fun _ _=>SC.eqb_eq) hxy.2)
 · simp at h;rw [h.1.1,h.1.2,h.2]
 · simp at h;rw [h]
 · cases h
inductive eY where
 | meet (news:List (Nat × SV)) (av:List Nat) (ps:List (Nat × Nat × Bool))
 | test (n k:Nat) (av:List Nat) (ps:List (Nat × Nat × Bool))
 | ghost (n:Nat) (av:List Nat) (ps:List (Nat × Nat × Bool))
 | loop (back:Bool) (nc:Nat) (news:List (Nat × SV)) (av:List Nat) (ps:List (Nat × Nat × Bool))
structure G where
 nc:Nat
 nb:Nat
 nj:Nat
 rs:List (Rec × List (Nat × Nat × Bool))
 js:List eY
structure Y where
 S:St
 av:List Nat
 ps:List (Nat × Nat × Bool)
inductive XE where
 | normal
 | ret
 | exit (id:Nat)
def XE.out:XE->Exit
 | .normal => .normal
 | .ret => .ret
 | .exit id => .exit id
def dK (n:Nat):List (Nat × SV)->Option SV
 | []=>none
 | (m,e) :: r=>if m == n then some e else dK n r
def eM:SV->Nat->SC
 | .v _ cs,c=>F9 (.lit (.bool false)) cs c
 | _,_ => .lit (.bool false)
def rQ (news:List (Nat × SV)):SC->SC
 | .an n c=>match dK n news with
   | some e=>eM e c
   | none => .an n c
 | s=>s
def subV (news:List (Nat × SV)):SV->SV
 | .v g cs => .v g (cs.map (rQ news))
 | .fn f cs => .fn f (cs.map (rQ news))
 | .tup l => .tup (l.map fun p=>(p.1,p.2.map (rQ news)))
 | e=>e
def Env.sub (σ : Env) (news:List (Nat × SV)) (jk:Nat->Value):Env:=
 ⟨fun n c=>match dK n news with | some e=>(eM e c).den σ | none => σ.an n c, σ.ad,jk⟩
theorem oK (σ : Env) (news:List (Nat × SV)) (jk:Nat->Value) (s:SC):s.den (σ.sub news jk)=(rQ news s).den σ:=by
 cases s with
 | an n c=>
   show (match dK n news with | some e=>(eM e c).den σ | none => σ.an n c)=(match dK n news with | some e=>eM e c | none => .an n c).den σ
   cases dK n news<;>rfl
 | lit v=>rfl
 | ptr b o=>rfl
 | row b o n m=>rfl
theorem denK_sub (σ : Env) (news:List (Nat × SV)) (jk:Nat->Value) (g:Bool) (cs:List SC):O5 (σ.sub news jk) g cs=O5 σ g (cs.map (rQ news)):=by
 have hm:cs.map (SC.den (σ.sub news jk))=(cs.map (rQ news)).map (SC.den σ):=by
  rw [List.map_map];exact List.map_congr_left fun c _=>oK σ news jk c
 cases g
 · match cs,hm with
   | [],_=>rfl
   | [c],hm=>simpa [O5] using hm
   | _ :: _ :: _,_=>rfl
 · simp only [O5,hm]
theorem subV_den (σ : Env) (news:List (Nat × SV)) (jk:Nat->Value) (e:SV) (he:∀ i,e ≠ .any i):e.den (σ.sub news jk)=(subV news e).den σ:=by
 cases e with
 | v g cs=>exact denK_sub σ news jk g cs
 | fn f cs=>
   simp only [SV.den,subV]
   rw [show cs.map (SC.den (σ.sub news jk))=(cs.map (rQ news)).map (SC.den σ) by rw [List.map_map];exact List.map_congr_left fun c _=>oK σ news jk c]
 | tup l=>
   simp only [SV.den,subV,List.map_map]
   rw [show (l.map fun p=>O5 (σ.sub news jk) p.1 p.2)=l.map ((fun p=>O5 σ p.1 p.2) ∘ fun p=>(p.1,p.2.map (rQ news))) from List.map_congr_left fun p _=>denK_sub σ news jk p.1 p.2]
 | no=>rfl
 | bx t n w=>rfl
 | any i=>exact absurd rfl (he i)
def mP {α : Type} (p:Nat->α->Bool):Nat->List α->Bool
 | _,[]=>true
 | i,x :: r=>p i x && mP p (i+1) r
theorem Z4 {α : Type} {p:Nat->α->Bool} (d : α):∀ {l:List α} {i:Nat},mP p i l=true -> ∀ j,j<l.length->p (i+j) (F9 d l j)=true
 | x :: r,i,h,0,_=>by simp only [mP,Bool.and_eq_true] at h;exact h.1
 | x :: r,i,h,j+1,hj=>by
   simp only [mP,Bool.and_eq_true] at h
   have:=Z4 d h.2 j (by simpa using hj)
   rwa [show i+1+j=i+(j+1) from by omega] at this
def mapIx {α β : Type} (f:Nat->α->β):Nat->List α->List β
 | _,[]=>[]
 | i,x :: r=>f i x :: mapIx f (i+1) r
def SV.isBx:SV->Bool
 | .bx ..=>true
 | _=>false
def absT (S:St) (news:List (Nat × SV)) (i:Nat) (e:SV):Bool:=match e with
 | .any j=>j == i
 | e=>SV.eqb (subV news e) (S.get (.t i))
def absC (J S:St) (news:List (Nat × SV)) (b o:Nat) (e:SV):Bool:=match e.c1 with
 | some c=>SV.eqb (.v false [rQ news c]) (S.get (.c b o)) && (J.get (.k b)).isBx
 | none=>true
def absK (S:St) (b:Nat) (e:SV):Bool:=match e with
 | .bx ..=>SV.eqb e (S.get (.k b))
 | _=>true
def absOK (N:Nat) (J S:St) (news:List (Nat × SV)):Bool:=
 Nat.ble N J.t.length && mP (absT S news) 0 J.t && mP (fun b row=>mP (absC J S news b) 0 row) 0 J.m && mP (absK S) 0 J.k &&
  news.all fun p=>match p.2.cells with | some cs=>cs.all SC.ok | none=>false
theorem bU {α : Type} (d : α):∀ (l:List α) (i:Nat),l.length<=i->F9 d l i=d:=fun l i h=>by
 rw [G5,List.getElem?_eq_none h];rfl
theorem cellOf_ok {news:List (Nat × SV)} (h:news.all (fun p=>match p.2.cells with | some cs=>cs.all SC.ok | none=>false)=true) {n:Nat} {e:SV} (he:dK n news=some e) (c:Nat):(eM e c).ok=true:=by
 have hm:∀ {l:List (Nat × SV)},dK n l=some e -> ∃ m,(m,e) ∈ l:=fun {l}=>by
  induction l with
  | nil=>intro h;cases h
  | cons p r ih=>
    intro h
    unfold dK at h
    split at h
    · cases h;exact ⟨p.1,by simp⟩
    · obtain ⟨m,hm⟩:=ih h;exact ⟨m,by simp [hm]⟩
 obtain ⟨m,hm⟩:=hm he
 have h2:=List.all_eq_true.1 h _ hm
 simp only at h2
 have key:∀ (g:Bool) (cs:List SC),e = .v g cs->(F9 (.lit (.bool false)) cs c).ok=true:=fun g cs hq=>by
  subst hq
  rw [G5]
  cases hc:cs[c]? with
  | none=>rfl
  | some x=>
    simp only [Option.getD_some]
    split at h2
    · rename_i cs' hcs
      have:cs'=cs:=by
       unfold SV.cells at hcs
       split at hcs
       · rename_i hq;cases hq;cases hcs;rfl
       · rename_i hq;cases hq;cases hcs;rfl
       · cases hcs
      subst this
      exact List.all_eq_true.1 h2 x (List.mem_of_getElem? hc)
    · cases h2
 cases e with
 | v g cs=>exact key g cs rfl
 | _=>rfl
theorem abs_k {N:Nat} {S J:St} {news:List (Nat × SV)} (h:absOK N J S news=true) (b:Nat) (ty:TypeId) (n:Nat) (w:Bool) (he:J.get (.k b) = .bx ty n w):S.get (.k b) = .bx ty n w:=by
 unfold absOK at h
 simp only [Bool.and_eq_true] at h
 have h4:=h.1.2
 have hb:b<J.k.length:=by
  rcases Nat.lt_or_ge b J.k.length with hb | hb
  · exact hb
  · simp [St.get,bU _ _ _ hb] at he
 have h6:=Z4 .no h4 b hb
 rw [Nat.zero_add] at h6
 have he':F9 .no J.k b = .bx ty n w:=he
 rw [he'] at h6
 exact (SV.eqb_eq h6).symm
theorem abs_rep {dfs:Root} {base:World} {N:Nat} {σ : Env} {S J:St} {a:Act} {W:World} {news:List (Nat × SV)} (h:absOK N J S news=true) (R:Rep dfs base N σ S.get a W) :
 Rep dfs base N (σ.sub news (fun i=>a.tmps.getD i undef)) J.get a W:=by
 unfold absOK at h
 simp only [Bool.and_eq_true] at h
 obtain ⟨⟨⟨⟨h1,h2⟩,h3⟩,h4⟩,h5⟩:=h
 have hN:N<=J.t.length:=by simpa using h1
 have hc:∀ b o c,J.get (.c b o) = .v false [c]->S.get (.c b o) = .v false [rQ news c]/\(J.get (.k b)).isBx=true:=fun b o c he=>by
  have hb:b<J.m.length:=by
   rcases Nat.lt_or_ge b J.m.length with hb | hb
   · exact hb
   · simp [St.get,bU _ _ _ hb,F9] at he
  have ho:o<(F9 [] J.m b).length:=by
   rcases Nat.lt_or_ge o (F9 [] J.m b).length with ho | ho
   · exact ho
   · simp [St.get,bU _ _ _ ho] at he
  have h6:=Z4 [] h3 b hb
  rw [Nat.zero_add] at h6
  have h7:=Z4 .no h6 o ho
  rw [Nat.zero_add] at h7
  have he':F9 .no (F9 [] J.m b) o = .v false [c]:=he
  rw [he'] at h7
  simp only [absC,SV.c1,Bool.and_eq_true] at h7
  exact ⟨(SV.eqb_eq h7.1).symm,h7.2⟩
 have hk:∀ b ty n w,J.get (.k b) = .bx ty n w->S.get (.k b) = .bx ty n w:=fun b ty n w he=>by
  have hb:b<J.k.length:=by
   rcases Nat.lt_or_ge b J.k.length with hb | hb
   · exact hb
   · simp [St.get,bU _ _ _ hb] at he
  have h6:=Z4 .no h4 b hb
  rw [Nat.zero_add] at h6
  have he':F9 .no J.k b = .bx ty n w:=he
  rw [he'] at h6
  exact (SV.eqb_eq h6).symm
 refine ⟨fun x=>?_,R.sz,R.df,R.gr,fun b b' ty n w ty' n' w' hb hb' hab=>R.inj b b' _ _ _ _ _ _ (hk _ _ _ _ hb) (hk _ _ _ _ hb') hab,fun b o c he=>?_,fun n c=>?_,R.ke,R.ad⟩
 · cases x with
   | t i=>
     show a.tmps.getD i undef=_
     rcases Nat.lt_or_ge i J.t.length with hi | hi
     · have h6:=Z4 .no h2 i hi
       rw [Nat.zero_add] at h6
       show _=(F9 .no J.t i).den _
       unfold absT at h6
       split at h6
       · rename_i j hj
         have:j=i:=by simpa using h6
         subst this
         rw [hj];rfl
       · rename_i hna
         have:=R.va (.t i)
         rw [subV_den _ _ _ _ hna,SV.eqb_eq h6]
         exact this
     · have:¬ i<a.tmps.size:=by rw [R.sz];omega
       show _=(F9 .no J.t i).den _
       rw [bU _ _ _ hi]
       simp [this];rfl
   | c b o=>
     intro c he
     rw [oK]
     exact R.cell (hc b o c he).1
   | k b=>
     intro ty n w he
     exact R.box (hk b ty n w he)
 · have:=(hc b o c he).2
   cases hb:J.get (.k b) with
   | bx ty n w=>exact ⟨ty,n,w,rfl⟩
   | _=>rw [hb] at this;cases this
 · show Value.oneCell' (match dK n news with | some e=>(eM e c).den σ | none => σ.an n c)=true
   cases hl:dK n news with
   | none=>exact R.one n c
   | some e=>exact vS R.one (cellOf_ok h5 hl c)
end
section
def Y4 {α : Type} (n:Nat) (k:Nat->α) : α:=match n with
 | 0=>k 0
 | m+1=>k (m+1)
theorem S6 {α : Type} (n:Nat) (k:Nat->α):Y4 n k=k n:=by cases n<;>rfl
def tR {α : Type} (b:Bool) (k:Bool->α) : α:=match b with
 | true=>k true
 | false=>k false
theorem qB {α : Type} (b:Bool) (k:Bool->α):tR b k=k b:=by cases b<;>rfl
def aH {α β : Type} (f : β->(β->α)->α):List β->(List β->α)->α
 | [],k=>k []
 | x :: r,k=>f x fun x=>aH f r fun r=>k (x :: r)
theorem L7 {α β : Type} {f : β->(β->α)->α} (hf:∀ x k,f x k=k x):∀ (l:List β) (k:List β->α),aH f l k=k l
 | [],k=>rfl
 | x :: r,k=>by rw [aH,hf,L7 hf r]
def fVal {α : Type} (v:Value) (k:Value->α) : α:=match v with
 | .bool b=>tR b fun b=>k (.bool b)
 | .int kd i=>match i with
   | .ofNat n=>Y4 n fun n=>k (.int kd (.ofNat n))
   | .negSucc n=>Y4 n fun n=>k (.int kd (.negSucc n))
 | v=>k v
theorem fVal_eq {α : Type} (v:Value) (k:Value->α):fVal v k=k v:=by
 unfold fVal
 split
 · rw [qB]
 · split<;>rw [S6]
 · rfl
def fSC {α : Type} (s:SC) (k:SC->α) : α:=match s with
 | .lit v=>fVal v fun v=>k (.lit v)
 | .an i c=>Y4 i fun i=>Y4 c fun c=>k (.an i c)
 | .ptr b o=>Y4 b fun b=>Y4 o fun o=>k (.ptr b o)
 | .row b o n m=>Y4 b fun b=>Y4 o fun o=>Y4 n fun n=>Y4 m fun m=>k (.row b o n m)
theorem fSC_eq {α : Type} (s:SC) (k:SC->α):fSC s k=k s:=by cases s<;>simp only [fSC,fVal_eq,S6]
def fSV {α : Type} (e:SV) (k:SV->α) : α:=match e with
 | .no=>k .no
 | .v g cs=>tR g fun g=>aH fSC cs fun cs=>k (.v g cs)
 | .fn f cap=>Y4 f fun f=>aH fSC cap fun cap=>k (.fn f cap)
 | .tup l=>aH (fun p k=>tR p.1 fun b=>aH fSC p.2 fun cs=>k (b,cs)) l fun l=>k (.tup l)
 | .bx ty n own=>Y4 ty fun ty=>Y4 n fun n=>tR own fun own=>k (.bx ty n own)
 | .any i=>Y4 i fun i=>k (.any i)
theorem fSV_eq {α : Type} (e:SV) (k:SV->α):fSV e k=k e:=by
 cases e<;>simp only [fSV,qB,S6,L7 fSC_eq]
 rw [L7 fun x k=>rfl]
def fSt {α : Type} (S:St) (k:St->α) : α:=aH fSV S.t fun t=>aH (aH fSV) S.m fun m=>aH fSV S.k fun kk=>k ⟨t,m,kk⟩
theorem vP {α : Type} (S:St) (k:St->α):fSt S k=k S:=by
 unfold fSt
 rw [L7 fSV_eq,L7 (L7 fSV_eq),L7 fSV_eq]
def fPs {α : Type} (p:Nat × Nat × Bool) (k:Nat × Nat × Bool->α) : α:=Y4 p.1 fun a=>Y4 p.2.1 fun b=>tR p.2.2 fun c=>k (a,b,c)
theorem fPs_eq {α : Type} (p:Nat × Nat × Bool) (k:Nat × Nat × Bool->α):fPs p k=k p:=by simp only [fPs,S6,qB]
def fY {α : Type} (y:Y) (k:Y->α) : α:=fSt y.S fun S=>aH Y4 y.av fun av=>aH fPs y.ps fun ps=>k ⟨S,av,ps⟩
theorem qA {α : Type} (y:Y) (k:Y->α):fY y k=k y:=by simp only [fY,vP,L7 S6,L7 fPs_eq]
def fG {α : Type} (g:G) (k:G->α) : α:=Y4 g.nc fun nc=>Y4 g.nb fun nb=>Y4 g.nj fun nj=>k ⟨nc,nb,nj,g.rs,g.js⟩
theorem tQ {α : Type} (g:G) (k:G->α):fG g k=k g:=by simp only [fG,S6]
def comm2 (d:Nat->SV):Nat->List SV->List SV->List SV
 | i,x :: xs,y :: ys=>(if x.eqb y then x else d i) :: comm2 d (i+1) xs ys
 | _,_,_=>[]
def commM:List (List SV)->List (List SV)->List SV->List (List SV)
 | x :: xs,y :: ys,k :: ks=>(if k.isBx then comm2 (fun _ => .no) 0 x y else []) :: commM xs ys ks
 | _,_,_=>[]
def comm (S T:St):St:=
 let k:=comm2 (fun _ => .no) 0 S.k T.k
 ⟨comm2 .any 0 S.t T.t,commM S.m T.m k,k⟩
def vA (n:Nat):List (List Var)->List (Var × SV)
 | []=>[]
 | l :: r=>mapIx (fun c x=>(x,.v false [.an n c])) 0 l++vA (n+1) r
def T7 (sh:Nat->Sh) (S:St) (n:Nat):List (List Var)->List (Nat × SV)
 | []=>[]
 | l :: r=>
   let cs:=l.map fun x=>(S.get x).c1.getD (.lit (.bool false))
   (n,match sh n with | .agg _ => .v true cs | _ => .v false cs) :: T7 sh S (n+1) r
def newOK (sh:Nat->Sh) (news:List (Nat × SV)) (n:Nat):Bool:=match dK n news with
 | some e=>SV.eqb (subV news ((sh n).sv n)) e
 | none=>false
def cS (sh:Nat->Sh) (N nc len:Nat) (J:St) (av:List Nat) (ps:List (Nat × Nat × Bool)) (y:Y) (news:List (Nat × SV)):Bool:=
 absOK N J y.S news && av.all (fun n=>y.av.elem n) && ps.all (fun p=>y.ps.elem p) && news.all (fun p=>Nat.ble nc p.1) && (List.range' nc len).all (newOK sh news)
def goodB (S:St) (nc nb:Nat):Bool:=
 S.t.all (SV.allC (jE nc nb)) && S.m.all (fun l=>l.all (SV.allC (jE nc nb))) && S.k.all (SV.allC (jE nc nb)) && Nat.ble S.k.length nb
def joinSt (nc:Nat) (pls:List (List Var)) (y:Y) (r:List Y):St:=(r.foldl (fun S z=>comm S z.S) y.S).sets (vA nc pls)
def joinAv (y:Y) (r:List Y):List Nat:=y.av.filter fun n=>r.all fun z=>z.av.elem n
def joinPs (y:Y) (r:List Y):List (Nat × Nat × Bool):=y.ps.filter fun p=>r.all fun z=>z.ps.elem p
def qH (sh:Nat->Sh) (N:Nat) (g:G) (pls:List (List Var)) (y:Y) (r:List Y):Option (G × Y):=
 fSt (joinSt g.nc pls y r) fun J=>aH Y4 (joinAv y r) fun av=>aH fPs (joinPs y r) fun ps=>Y4 pls.length fun len=>
 if (y :: r).all (fun z=>cS sh N g.nc len J av ps z (T7 sh z.S g.nc pls)) && goodB J (g.nc+len) g.nb then
  fG ⟨g.nc+len,g.nb,g.nj+1,g.rs,g.js++(y :: r).map fun z => .meet (T7 sh z.S g.nc pls) z.av z.ps⟩ fun g'=>fY ⟨J,av++List.range' g.nc len,ps⟩ fun y'=>some (g',y')
 else none
def gW:List (XE × Y)->List Y
 | []=>[]
 | (.normal,y) :: r=>y :: gW r
 | _ :: r=>gW r
def bG:List (XE × Y)->List (XE × Y)
 | []=>[]
 | (.normal,_) :: r=>bG r
 | p :: r=>p :: bG r
def forget (l:List Var) (S:St):St:=S.sets (l.map fun x=>(x,match x with | .t i => .any i | _ => .no))
def enter (sh:Nat->Sh) (N:Nat) (g:G) (off:List Var) (pls:List (List Var)) (y:Y):Option (G × Y):=
 fSt ((forget off y.S).sets (vA g.nc pls)) fun J=>Y4 pls.length fun len=>
 if cS sh N g.nc len J y.av y.ps y (T7 sh y.S g.nc pls) && goodB J (g.nc+len) g.nb && Nat.blt 0 len then
  fG ⟨g.nc+len,g.nb,g.nj+1,g.rs,g.js++[.loop false g.nc (T7 sh y.S g.nc pls) y.av y.ps]⟩ fun g'=>fY ⟨J,y.av++List.range' g.nc len,y.ps⟩ fun y'=>some (g',y')
 else none
def around (sh:Nat->Sh) (N nc:Nat) (pls:List (List Var)) (y y1:Y) (g:G) (l:List (XE × Y)):Option (G × List (XE × Y)):=
 if (gW l).all (fun z=>cS sh N nc pls.length y1.S y.av y.ps z (T7 sh z.S nc pls)) then
  fG ⟨g.nc,g.nb,g.nj,g.rs,g.js++(gW l).map fun z => .loop true nc (T7 sh z.S nc pls) z.av z.ps⟩ fun g'=>some (g',bG l)
 else none
def after (J:Nat->Option (List (List Var))) (sh:Nat->Sh) (N:Nat) (g:G) (l:List (XE × Y)):Option (G × List (XE × Y)):=
 match gW l with
 | y :: z :: r=>match J g.nj with
   | none=>some (⟨g.nc,g.nb,g.nj+1,g.rs,g.js⟩,l)
   | some pls=>match qH sh N g pls y (z :: r) with
     | some (g',y')=>some (g',(.normal,y') :: bG l)
     | none=>none
 | _=>some (g,l)
def mV (F:G->Y->Option (G × List (XE × Y))):G->List (XE × Y)->Option (G × List (XE × Y))
 | g,[]=>some (g,[])
 | g,(.normal,y) :: r=>match F g y with
   | some (g1,l)=>match mV F g1 r with
     | some (g2,m)=>some (g2,l++m)
     | none=>none
   | none=>none
 | g,p :: r=>match mV F g r with
   | some (g2,m)=>some (g2,p :: m)
   | none=>none
def eB (id:Nat):List (XE × Y)->List (XE × Y)
 | []=>[]
 | (.exit i,y) :: r=>(if i == id then (.normal,y) else (.exit i,y)) :: eB id r
 | p :: r=>p :: eB id r
def lookP (n c:Nat):List (Nat × Nat × Bool)->Option Bool
 | []=>none
 | (m,d,b) :: r=>if m == n && d == c then some b else lookP n c r
def qD (P:Program) (prot:TypeId->Bool) (N:Nat) (sh:Nat->Sh) (ops:Array Oper) (g:G) (y:Y):Option (G × List (XE × Y)):=
 match kN P prot ops N sh ops.toList y.S g.nc g.nb with
 | some (L,nc2,nb2)=>
   let M:=T1 ops.toList []
   if cV ops.toList 0 && aI M L 0 L && tJ M L g.nc g.nb 0 L && lD M L y.av y.S then
    fG ⟨nc2,nb2,g.nj,g.rs++(rU M L y.av 0 L).map fun r=>(r,y.ps),g.js⟩ fun g'=>fY ⟨L.foldl (fun S e=>S.sets e.wr) y.S,y.av++bN L,y.ps⟩ fun y'=>some (g',[(.normal,y')])
   else none
 | none=>none
def mK (P:Program) (prot:TypeId->Bool) (N:Nat) (sh:Nat->Sh) (ops:Array Oper):Nat->G->Y->Option (G × List (XE × Y))
 | 0,g,y=>qD P prot N sh ops g y
 | d+1,g,y=>match qD P prot N sh ops g y with
   | some r=>some r
   | none=>match sh g.nc with
     | .one=>match mK P prot N sh ops d ⟨g.nc+1,g.nb,g.nj,g.rs,g.js++[.ghost g.nc y.av y.ps]⟩ ⟨y.S,y.av++[g.nc],(g.nc,0,true) :: y.ps⟩ with
       | some (g1,l)=>match mK P prot N sh ops d g1 ⟨y.S,y.av++[g.nc],(g.nc,0,false) :: y.ps⟩ with
         | some (g2,m)=>some (g2,l++m)
         | none=>none
       | none=>none
     | _=>none
def lessAv (K:Nat->Bool) (y:Y):Y:=⟨y.S,y.av.filter fun n => !K (3000000+n),y.ps⟩
def tS (P:Program) (prot:TypeId->Bool) (K:Nat->Bool) (J:Nat->Option (List (List Var))) (N:Nat) (sh:Nat->Sh) (id:Nat) (ops:Array Oper) (g:G) (y:Y):Option (G × List (XE × Y)):=
 if K id then
  match sh g.nc with
  | .one=>match mK P prot N sh ops 2 ⟨g.nc+1,g.nb,g.nj,g.rs,g.js++[.ghost g.nc y.av y.ps]⟩ ⟨y.S,y.av++[g.nc],(g.nc,0,true) :: y.ps⟩ with
    | some (g1,l)=>match mK P prot N sh ops 2 g1 ⟨y.S,y.av++[g.nc],(g.nc,0,false) :: y.ps⟩ with
      | some (g2,m)=>after J sh N g2 (l++m)
      | none=>none
    | none=>none
  | _=>none
 else qD P prot N sh ops g y
def J4 (P:Program) (prot:TypeId->Bool) (K:Nat->Bool) (J:Nat->Option (List (List Var))) (N:Nat) (sh:Nat->Sh):Nat->Code->G->Y->Option (G × List (XE × Y))
 | 0,_,_,_=>none
 | _+1,.skip,g,y=>some (g,[(.normal,y)])
 | _+1,.label _,g,y=>some (g,[(.normal,y)])
 | _+1,.exit id,g,y=>some (g,[(.exit id,y)])
 | _+1,.ret,g,y=>some (g,[(.ret,y)])
 | f+1,.seq a b,g,y=>match J4 P prot K J N sh f a g y with
   | some (g1,l)=>mV (J4 P prot K J N sh f b) g1 l
   | none=>none
 | f+1,.cond c a b,g,y=>match evS y.S c with
   | .v false [.lit (.bool true)]=>J4 P prot K J N sh f a g y
   | .v false [.lit (.bool false)]=>J4 P prot K J N sh f b g y
   | .v false [.an n k]=>match lookP n k y.ps with
     | some true=>J4 P prot K J N sh f a g y
     | some false=>J4 P prot K J N sh f b g y
     | none=>if Nat.blt n g.nc then
      match J4 P prot K J N sh f a ⟨g.nc,g.nb,g.nj,g.rs,g.js++[.test n k y.av y.ps]⟩ ⟨y.S,y.av,(n,k,true) :: y.ps⟩ with
      | some (g1,l)=>match J4 P prot K J N sh f b g1 ⟨y.S,y.av,(n,k,false) :: y.ps⟩ with
        | some (g2,m)=>after J sh N g2 (l++m)
        | none=>none
      | none=>none
       else none
   | _=>none
 | f+1,.block id c,g,y=>match J4 P prot K J N sh f c g y with
   | some (g1,l)=>after J sh N g1 (eB id l)
   | none=>none
 | f + 1,.loop c,g,y=>if K (1000000+g.nj) then
     match J g.nj with
     | some (off :: pls)=>match enter sh N g off pls y with
       | some (g1,y1)=>match J4 P prot K J N sh f c g1 y1 with
         | some (g2,l)=>around sh N g.nc pls y y1 g2 l
         | none=>none
       | none=>none
     | _=>none
   else match J4 P prot K J N sh f c g y with
   | some (g1,l)=>mV (J4 P prot K J N sh f (.loop c)) g1 l
   | none=>none
 | _ + 1,.region id ops _,g,y=>if K (2000000+id) then
     match J g.nj with
     | some (off :: pls)=>match enter sh N g off pls y with
       | some (g1,y1)=>fY (lessAv K y1) fun y2=>tS P prot K J N sh id ops g1 y2
       | none=>none
     | _=>none
   else tS P prot K J N sh id ops g y
 | _,_,_,_=>none
end
section
variable {P:Program} {prot:TypeId->Bool} {N:Nat} {sh:Nat->Sh} {specs:Nat->Spec prot} {dfs:Root} {base:World} {F:Fence} {dn:Nat} {J:Nat->Option (List (List Var))} {K:Nat->Bool}
def GY (g:G) (y:Y):Prop:=Good y.S g.nc g.nb y.av y.ps
structure Le (g h:G):Prop where
 nc:g.nc<=h.nc
 nb:g.nb<=h.nb
 rs:∀ r,r ∈ g.rs->r ∈ h.rs
 js:∀ j,j ∈ g.js->j ∈ h.js
theorem Le.refl (g:G):Le g g:=⟨Nat.le_refl _,Nat.le_refl _,fun _ h=>h,fun _ h=>h⟩
theorem Le.trans {g h k:G} (a:Le g h) (b:Le h k):Le g k:=⟨Nat.le_trans a.nc b.nc,Nat.le_trans a.nb b.nb,fun r hr=>b.rs r (a.rs r hr),fun j hj=>b.js j (a.js j hj)⟩
theorem GY.mono {g h:G} {y:Y} (l:Le g h) (G:GY g y):GY h y:=by
 have h1:=l.nc
 have h2:=l.nb
 refine ⟨fun n hn=>?_,fun p hp=>?_,fun x=>?_,fun b ty n w hk=>?_⟩
 · have:=G.av n hn;omega
 · have:=G.ps p hp;omega
 · exact aJ (fun c hc=>by cases c<;>simp [jE] at hc ⊢ <;> omega) _ (G.lt x)
 · have:=G.bx b ty n w hk;omega
def NewS (specs:Nat->Spec prot) (old:Nat->Prop) (W:World) (s:Spec prot) (v:Value):Prop:=match s.row with
 | false=>s.F v W
 | true=>s.F v W /\ ∀ q,s.fp v W q->old q
theorem NewS.un {specs:Nat->Spec prot} {old:Nat->Prop} {W:World} {s:Spec prot} {v:Value} (h:NewS specs old W s v):s.F v W /\ ∀ q,s.fp v W q->old q:=by
 unfold NewS at h
 cases hr:s.row with
 | false=>rw [hr] at h;exact ⟨h,fun q hq=>absurd hq (s.flat hr _ _ _)⟩
 | true=>rw [hr] at h;exact h
def VCj (specs:Nat->Spec prot) (base:World):eY->Prop
 | .meet news av ps=>∀ (σ : Env) (W:World),base.grownBy W none->(∀ m,m ∈ av->Fact specs σ W m)->Ps σ ps -> ∀ p ∈ news,NewS specs (Old specs (fun m=>m ∈ av) σ W) W (specs p.1) (p.2.den σ)
 | .test n k av ps=>∀ (σ : Env) (W:World),base.grownBy W none->(∀ m,m ∈ av->Fact specs σ W m)->Ps σ ps -> ∃ b, σ.an n k = .bool b
 | .ghost n av ps=>∀ (σ : Env) (W:World),base.grownBy W none->(∀ m,m ∈ av->Fact specs σ W m)->Ps σ ps->(specs n).row=false /\ ∃ b,(specs n).F (.bool b) W
 | .loop ..=>True
structure Sat (P:Program) (specs:Nat->Spec prot) (base:World) (g:G):Prop where
 rs:∀ r,r ∈ g.rs->VCa P specs base (fun n=>n ∈ r.1.av) r.2 r.1.ac
 js:∀ j,j ∈ g.js->VCj specs base j
theorem Sat.le {g h:G} (l:Le g h) (s:Sat P specs base h):Sat P specs base g:=⟨fun r hr=>s.rs r (l.rs r hr),fun j hj=>s.js j (l.js j hj)⟩
def bL (dfs:Root) (base:World) (N:Nat) (specs:Nat->Spec prot) (y:Y) (a:Act) (w:World):Prop:=rL dfs base N specs y.S y.av y.ps a w
theorem kC {α : Type} {p : α->Bool} {d : α} (hd:p d=true):∀ {l:List α} (i:Nat),l.all p=true->p (F9 d l i)=true:=fun {l} i h=>by
 rw [G5]
 cases hc:l[i]? with
 | none=>exact hd
 | some x=>exact List.all_eq_true.1 h x (List.mem_of_getElem? hc)
theorem pY {S:St} {nc nb:Nat} {av:List Nat} {ps:List (Nat × Nat × Bool)} (h:goodB S nc nb=true) (h1:∀ n,n ∈ av->n<nc) (h2:∀ p,p ∈ ps->p.1<nc):Good S nc nb av ps:=by
 unfold goodB at h
 simp only [Bool.and_eq_true] at h
 obtain ⟨⟨⟨ht,hm⟩,hk⟩,hl⟩:=h
 refine ⟨h1,h2,fun x=>?_,fun b ty n w hb=>?_⟩
 · cases x with
   | t i=>exact kC rfl i ht
   | c b o=>
     refine kC rfl o ?_
     exact kC (p:=fun l:List SV=>l.all (SV.allC (jE nc nb))) rfl b hm
   | k b=>exact kC rfl b hk
 · rcases Nat.lt_or_ge b S.k.length with h | h
   · have:S.k.length<=nb:=by simpa using hl
     omega
   · simp [St.get,bU _ _ _ h] at hb
theorem lC {nc n:Nat} (hn:n<nc):∀ {news:List (Nat × SV)},news.all (fun p=>Nat.ble nc p.1)=true->dK n news=none
 | [],_=>rfl
 | p :: r,h=>by
   simp only [List.all_cons,Bool.and_eq_true] at h
   have h1:nc<=p.1:=by simpa using h.1
   unfold dK
   rw [if_neg (by simp;omega)]
   exact lC hn h.2
theorem look_mem {n:Nat} {e:SV} : ∀ {news:List (Nat × SV)},dK n news=some e->(n,e) ∈ news
 | p :: r,h=>by
   unfold dK at h
   split at h
   · rename_i hq
     cases h
     have:p.1=n:=by simpa using hq
     subst this;simp
   · simp [look_mem h]
theorem sv_any (s:Sh) (n i:Nat):s.sv n ≠ .any i:=by
 cases s with
 | lit v=>simp only [Sh.sv];unfold jK;split<;>simp
 | _=>simp [Sh.sv]
theorem lA {specs':Nat->Spec prot} (hsh':∀ n,sh n=(specs' n).sh) {nc len:Nat} (hold:∀ n,n<nc->specs' n=specs n) {S:St} {av:List Nat} {ps:List (Nat × Nat × Bool)} {y:Y} {news:List (Nat × SV)} (h:cS sh N nc len S av ps y news=true)
 (h1:∀ n,n ∈ av->n<nc) (h2:∀ p,p ∈ ps->p.1<nc) {a:Act} {w:World} {σ : Env} (R:Rep dfs base N σ y.S.get a w) (hF:∀ n,n ∈ y.av->FS specs σ w y.S.get n) (hP:Ps σ y.ps)
 (hv:∀ p ∈ news,NewS specs' (Old specs (fun m=>m ∈ y.av) σ w) w (specs' p.1) (p.2.den σ)):rL dfs base N specs' S (av++List.range' nc len) ps a w:=by
 unfold cS at h
 simp only [Bool.and_eq_true] at h
 obtain ⟨⟨⟨⟨hab,hav⟩,hps⟩,hnc⟩,hnew⟩:=h
 refine ⟨_,abs_rep hab R,fun n hn=>?_,fun p hp=>?_⟩
 · rcases List.mem_append.1 hn with h | h
   · have hf:=hF n (by simpa using List.all_eq_true.1 hav n h)
     have e:(σ.sub news fun i=>a.tmps.getD i undef).val specs n=σ.val specs n:=Sh.sv_den _ fun c=>by
      show (match dK n news with | some e=>(eM e c).den σ | none => σ.an n c)=σ.an n c
      rw [lC (h1 n h) hnc]
     have e2:=hold n (h1 n h)
     refine ⟨?_,fun b ty k hk=>?_⟩
     · show (specs' n).F ((σ.sub news fun i=>a.tmps.getD i undef).val specs' n) w
       unfold Env.val;rw [e2]
       show (specs n).F ((σ.sub news fun i=>a.tmps.getD i undef).val specs n) w
       rw [e];exact hf.1
     · unfold Env.val;rw [e2]
       show ¬ (specs n).fp ((σ.sub news fun i=>a.tmps.getD i undef).val specs n) w _
       rw [e];exact hf.2 b ty k (abs_k hab b ty k true hk)
   · have h3:=List.all_eq_true.1 hnew n h
     unfold newOK at h3
     split at h3
     · rename_i e he
       have hx:(σ.sub news fun i=>a.tmps.getD i undef).val specs' n=e.den σ:=by
        unfold Env.val
        rw [subV_den _ _ _ _ fun i=>sv_any _ _ _, <- hsh',SV.eqb_eq h3]
       obtain ⟨n1,n2⟩:=(hv _ (look_mem he)).un
       refine ⟨?_,fun b ty k hk hfp=>?_⟩
       · show (specs' n).F ((σ.sub news fun i=>a.tmps.getD i undef).val specs' n) w
         rw [hx];exact n1
       · rw [hx] at hfp
         obtain ⟨m,hm,hq⟩:=n2 _ hfp
         exact (hF m hm).2 b ty k (abs_k hab b ty k true hk) hq
     · cases h3
 · have:=hP p (by simpa using List.all_eq_true.1 hps p hp)
   rw [<- this]
   show (match dK p.1 news with | some e=>(eM e p.2.1).den σ | none => σ.an p.1 p.2.1)=_
   rw [lC (h2 p hp) hnc]
theorem meet_inv (hsh:∀ n,sh n=(specs n).sh) {nc len:Nat} {S:St} {av:List Nat} {ps:List (Nat × Nat × Bool)} {y:Y} {news:List (Nat × SV)} (h:cS sh N nc len S av ps y news=true)
 (h1:∀ n,n ∈ av->n<nc) (h2:∀ p,p ∈ ps->p.1<nc) (hv:VCj specs base (.meet news y.av y.ps)) {a:Act} {w:World} (I:bL dfs base N specs y a w):rL dfs base N specs S (av++List.range' nc len) ps a w:=by
 obtain ⟨σ,R,hF,hP⟩:=I
 exact lA hsh (fun _ _=>rfl) h h1 h2 R hF hP (hv σ w R.gr (fun m hm=>(hF m hm).1) hP)
theorem join_sub {g g':G} {pls:List (List Var)} {y y':Y} {r:List Y} (h:qH sh N g pls y r=some (g',y')):Le g g'/\((∀ z ∈ y :: r,GY g z)->GY g' y'):=by
 unfold qH at h
 simp only [vP,L7 S6,L7 fPs_eq,S6,tQ,qA] at h
 split at h
 · rename_i hc
   simp only [Bool.and_eq_true] at hc
   cases h
   refine ⟨⟨by simp,by simp,fun r hr=>hr,fun j hj=>List.mem_append_left _ hj⟩,fun hG=>pY hc.2 (fun n hn=>?_) fun p hp=>?_⟩
   · rcases List.mem_append.1 hn with h | h
     · have:=(hG y (by simp)).av n (List.mem_filter.1 h).1
       show n<g.nc+_
       omega
     · have:=List.mem_range'_1.1 h
       show n<g.nc+_
       omega
   · have:=(hG y (by simp)).ps p (List.mem_filter.1 hp).1
     show _<g.nc+_
     omega
 · cases h
theorem join_wp (hsh:∀ n,sh n=(specs n).sh) {g g':G} {pls:List (List Var)} {y y':Y} {r:List Y} (h:qH sh N g pls y r=some (g',y')) (hG:∀ z ∈ y :: r,GY g z) (s:Sat P specs base g') {z:Y} (hz:z ∈ y :: r)
 {a:Act} {w:World} (I:bL dfs base N specs z a w):bL dfs base N specs y' a w:=by
 unfold qH at h
 simp only [vP,L7 S6,L7 fPs_eq,S6,tQ,qA] at h
 split at h
 · rename_i hc
   simp only [Bool.and_eq_true] at hc
   cases h
   refine meet_inv hsh (List.all_eq_true.1 hc.1 z hz) (fun n hn=>?_) (fun p hp=>?_) (s.js _ (List.mem_append_right _ (List.mem_map.2 ⟨z,hz,rfl⟩))) I
   · exact (hG y (by simp)).av n (List.mem_filter.1 hn).1
   · exact (hG y (by simp)).ps p (List.mem_filter.1 hp).1
 · cases h
def X2 (g:G) (l:List (XE × Y)):Prop:=∀ p ∈ l,GY g p.2
theorem norms_mem:∀ {l:List (XE × Y)} {y:Y},y ∈ gW l ↔ (XE.normal,y) ∈ l
 | [],y=>by simp [gW]
 | (.normal,z) :: r,y=>by simp [gW,norms_mem (l:=r)]
 | (.ret,z) :: r,y=>by simp [gW,norms_mem (l:=r)]
 | (.exit i,z) :: r,y=>by simp [gW,norms_mem (l:=r)]
theorem others_mem:∀ {l:List (XE × Y)} {p:XE × Y},p ∈ bG l ↔ p ∈ l/\p.1 ≠ .normal
 | [],p=>by simp [bG]
 | (.normal,z) :: r,p=>by
   simp only [bG,others_mem (l:=r),List.mem_cons]
   constructor
   · exact fun h=>⟨.inr h.1,h.2⟩
   · rintro ⟨h | h,h2⟩
     · subst h;exact absurd rfl h2
     · exact ⟨h,h2⟩
 | (.ret,z) :: r,p=>by
   simp only [bG,others_mem (l:=r),List.mem_cons]
   constructor
   · rintro (h | h)
     · subst h;exact ⟨.inl rfl,by simp⟩
     · exact ⟨.inr h.1,h.2⟩
   · rintro ⟨h | h,h2⟩
     · exact .inl h
     · exact .inr ⟨h,h2⟩
 | (.exit i,z) :: r,p=>by
   simp only [bG,others_mem (l:=r),List.mem_cons]
   constructor
   · rintro (h | h)
     · subst h;exact ⟨.inl rfl,by simp⟩
     · exact ⟨.inr h.1,h.2⟩
   · rintro ⟨h | h,h2⟩
     · exact .inl h
     · exact .inr ⟨h,h2⟩
theorem Z5 {g g':G} {l m:List (XE × Y)} (h:after J sh N g l=some (g',m)):Le g g'/\(X2 g l->X2 g' m):=by
 unfold after at h
 split at h
 · rename_i y z r hn
   split at h
   · cases h
     exact ⟨⟨Nat.le_refl _,Nat.le_refl _,fun _ h=>h,fun _ h=>h⟩,fun hG p hp=>(hG p hp:GY g p.2)⟩
   · rename_i pls hJ
     split at h
     · rename_i g2 y2 hj
       cases h
       obtain ⟨h1,h2⟩:=join_sub hj
       refine ⟨h1,fun hG p hp=>?_⟩
       rcases List.mem_cons.1 hp with rfl | hp
       · exact h2 fun z hz=>by rw [<- hn] at hz;exact hG _ (norms_mem.1 hz)
       · exact (hG p (others_mem.1 hp).1).mono h1
     · cases h
 · cases h;exact ⟨Le.refl _,fun h=>h⟩
def HQ (dfs:Root) (base:World) (N:Nat) (specs:Nat->Spec prot) (Q:Exit->Act->World->Prop) (l:List (XE × Y)):Prop:=∀ p ∈ l,∀ a w,bL dfs base N specs p.2 a w->Q p.1.out a w
theorem qV (hsh:∀ n,sh n=(specs n).sh) {g g':G} {l m:List (XE × Y)} (h:after J sh N g l=some (g',m)) (hG:X2 g l) (s:Sat P specs base g') {Q:Exit->Act->World->Prop} (hQ:HQ dfs base N specs Q m):HQ dfs base N specs Q l:=by
 unfold after at h
 split at h
 · rename_i y z r hn
   split at h
   · cases h;exact hQ
   · rename_i pls hJ
     split at h
     · rename_i g2 y2 hj
       cases h
       intro p hp a w I
       obtain ⟨e,x⟩:=p
       by_cases he:e = .normal
       · subst he
         have hx:x ∈ y :: z :: r:=by rw [<- hn];exact norms_mem.2 hp
         exact hQ (.normal,y2) (by simp) a w (join_wp hsh hj (fun z hz=>by rw [<- hn] at hz;exact hG _ (norms_mem.1 hz)) s hx I)
       · exact hQ (e,x) (List.mem_cons_of_mem _ (others_mem.2 ⟨hp,he⟩)) a w I
     · cases h
 · cases h;exact hQ
theorem W1 {F:G->Y->Option (G × List (XE × Y))} (hF:∀ g y g' l,F g y=some (g',l)->Le g g'/\(GY g y->X2 g' l)):∀ {l m:List (XE × Y)} {g g':G},mV F g l=some (g',m)->Le g g'/\(X2 g l->X2 g' m)
 | [],m,g,g',h=>by cases h;exact ⟨Le.refl _,fun h=>h⟩
 | (.normal,y) :: r,m,g,g',h=>by
   simp only [mV] at h
   split at h
   · rename_i g1 l1 h1
     split at h
     · rename_i g2 m2 h2
       cases h
       obtain ⟨a1,a2⟩:=hF _ _ _ _ h1
       obtain ⟨b1,b2⟩:=W1 hF h2
       refine ⟨a1.trans b1,fun hG p hp=>?_⟩
       rcases List.mem_append.1 hp with hp | hp
       · exact (a2 (hG (.normal,y) (by simp)) p hp).mono b1
       · exact b2 (fun q hq=>(hG q (by simp [hq])).mono a1) p hp
     · cases h
   · cases h
 | (.ret,y) :: r,m,g,g',h=>by
   simp only [mV] at h
   split at h
   · rename_i g2 m2 h2
     cases h
     obtain ⟨b1,b2⟩:=W1 hF h2
     refine ⟨b1,fun hG p hp=>?_⟩
     rcases List.mem_cons.1 hp with rfl | hp
     · exact (hG _ (by simp)).mono b1
     · exact b2 (fun q hq=>hG q (by simp [hq])) p hp
   · cases h
 | (.exit i,y) :: r,m,g,g',h=>by
   simp only [mV] at h
   split at h
   · rename_i g2 m2 h2
     cases h
     obtain ⟨b1,b2⟩:=W1 hF h2
     refine ⟨b1,fun hG p hp=>?_⟩
     rcases List.mem_cons.1 hp with rfl | hp
     · exact (hG _ (by simp)).mono b1
     · exact b2 (fun q hq=>hG q (by simp [hq])) p hp
   · cases h
section
variable {α : Type} {spk : α->Nat->Spec prot} {μ : Nat->α->Nat}
def Rel (spk : α->Nat->Spec prot) (μ : Nat->α->Nat) (n:Nat) (k k' : α):Prop:=∀ m,m<n->spk k' m=spk k m/\μ m k'=μ m k
theorem Rel.refl (n:Nat) (k : α):Rel spk μ n k k:=fun _ _=>⟨rfl,rfl⟩
theorem Rel.trans {n m:Nat} {a b c : α} (h:Rel spk μ n a b) (h':Rel spk μ m b c) (hn:n<=m):Rel spk μ n a c:=fun i hi=>
 ⟨(h' i (by omega)).1.trans (h i hi).1,(h' i (by omega)).2.trans (h i hi).2⟩
def VCl (spk : α->Nat->Spec prot) (μ : Nat->α->Nat) (base:World) (k : α):eY->Prop
 | .loop back nc news av ps=>∀ (σ : Env) (W:World),base.grownBy W none->(∀ m,m ∈ av->Fact (spk k) σ W m)->Ps σ ps ->
  ∃ k',(back=true->μ nc k'<μ nc k)/\Rel spk μ nc k k' /\ ∀ p ∈ news,NewS (spk k') (Old (spk k) (fun m=>m ∈ av) σ W) W (spk k' p.1) (p.2.den σ)
 | _=>True
structure SatK (P:Program) (spk : α->Nat->Spec prot) (μ : Nat->α->Nat) (base:World) (g:G):Prop where
 at_:∀ k,Sat P (spk k) base g
 ls:∀ k j,j ∈ g.js->VCl spk μ base k j
theorem SatK.le {g h:G} (l:Le g h) (s:SatK P spk μ base h):SatK P spk μ base g:=⟨fun k=>(s.at_ k).le l,fun k j hj=>s.ls k j (l.js j hj)⟩
def HQK (dfs:Root) (base:World) (N:Nat) (spk : α->Nat->Spec prot) (μ : Nat->α->Nat) (n:Nat) (k : α) (Q:Exit->Act->World->Prop) (l:List (XE × Y)):Prop:=∀ k',Rel spk μ n k k'->HQ dfs base N (spk k') Q l
theorem jP {n0:Nat} {k0 : α} {F:G->Y->Option (G × List (XE × Y))} (hF:∀ g y g' l,F g y=some (g',l)->Le g g'/\(GY g y->X2 g' l)) {T:Act->World->Prop} {Q:Exit->Act->World->Prop}
 (hT:∀ g y g' l,F g y=some (g',l)->GY g y->n0<=g.nc/\dfs.nb<=g.nb->SatK P spk μ base g'->HQK dfs base N spk μ n0 k0 Q l -> ∀ k,Rel spk μ n0 k0 k -> ∀ a w,bL dfs base N (spk k) y a w->T a w) :
 ∀ {l m:List (XE × Y)} {g g':G},mV F g l=some (g',m)->X2 g l->n0<=g.nc/\dfs.nb<=g.nb->SatK P spk μ base g'->HQK dfs base N spk μ n0 k0 Q m->HQK dfs base N spk μ n0 k0 (Exit.then T Q) l
 | [],m,g,g',h,hG,hn,s,hQ=>fun k hk p hp=>by cases hp
 | (.normal,y) :: r,m,g,g',h,hG,hn,s,hQ=>by
   simp only [mV] at h
   split at h
   · rename_i g1 l1 h1
     split at h
     · rename_i g2 m2 h2
       cases h
       obtain ⟨a1,a2⟩:=hF _ _ _ _ h1
       obtain ⟨b1,b2⟩:=W1 hF h2
       have:=a1.nc
       have:=a1.nb
       intro k hk p hp a w I
       rcases List.mem_cons.1 hp with rfl | hp
       · exact hT _ _ _ _ h1 (hG (.normal,y) (by simp)) hn (s.le b1) (fun k hk q hq=>hQ k hk q (List.mem_append_left _ hq)) k hk a w I
       · exact jP hF hT h2 (fun q hq=>(hG q (by simp [hq])).mono a1) (by omega) s (fun k hk q hq=>hQ k hk q (List.mem_append_right _ hq)) k hk p hp a w I
     · cases h
   · cases h
 | (.ret,y) :: r,m,g,g',h,hG,hn,s,hQ=>by
   simp only [mV] at h
   split at h
   · rename_i g2 m2 h2
     cases h
     intro k hk p hp a w I
     rcases List.mem_cons.1 hp with rfl | hp
     · exact hQ k hk (.ret,y) (by simp) a w I
     · exact jP hF hT h2 (fun q hq=>hG q (by simp [hq])) hn s (fun k hk q hq=>hQ k hk q (by simp [hq])) k hk p hp a w I
   · cases h
 | (.exit i,y) :: r,m,g,g',h,hG,hn,s,hQ=>by
   simp only [mV] at h
   split at h
   · rename_i g2 m2 h2
     cases h
     intro k hk p hp a w I
     rcases List.mem_cons.1 hp with rfl | hp
     · exact hQ k hk (.exit i,y) (by simp) a w I
     · exact jP hF hT h2 (fun q hq=>hG q (by simp [hq])) hn s (fun k hk q hq=>hQ k hk q (by simp [hq])) k hk p hp a w I
   · cases h
end
theorem fZ {g g':G} {off:List Var} {pls:List (List Var)} {y y':Y} (h:enter sh N g off pls y=some (g',y')) :
 Le g g'/\(GY g y->GY g' y')/\g'.nc=g.nc+pls.length/\0<pls.length/\y'.av=y.av++List.range' g.nc pls.length/\y'.ps=y.ps/\cS sh N g.nc pls.length y'.S y.av y.ps y (T7 sh y.S g.nc pls)=true /\
  .loop false g.nc (T7 sh y.S g.nc pls) y.av y.ps ∈ g'.js:=by
 unfold enter at h
 simp only [vP,S6,tQ,qA] at h
 split at h
 · rename_i hc
   simp only [Bool.and_eq_true] at hc
   cases h
   refine ⟨⟨by simp,by simp,fun r hr=>hr,fun j hj=>List.mem_append_left _ hj⟩,fun hG=>pY hc.1.2 (fun n hn=>?_) (fun p hp=>?_),rfl,by simpa using hc.2,rfl,rfl,hc.1.1,by simp⟩
   · show n<g.nc+_
     rcases List.mem_append.1 hn with h | h
     · have:=hG.av n h;omega
     · have:=List.mem_range'_1.1 h;omega
   · have:=hG.ps p hp
     show _<g.nc+_
     omega
 · cases h
theorem qQ {nc:Nat} {pls:List (List Var)} {y y1:Y} {g g':G} {l m:List (XE × Y)} (h:around sh N nc pls y y1 g l=some (g',m)) :
 Le g g'/\g'.nc=g.nc/\(X2 g l->X2 g' m)/\m=bG l /\ ∀ z,(XE.normal,z) ∈ l->cS sh N nc pls.length y1.S y.av y.ps z (T7 sh z.S nc pls)=true /\ .loop true nc (T7 sh z.S nc pls) z.av z.ps ∈ g'.js:=by
 unfold around at h
 simp only [tQ] at h
 split at h
 · rename_i hc
   cases h
   refine ⟨⟨Nat.le_refl _,Nat.le_refl _,fun _ h=>h,fun _ h=>List.mem_append_left _ h⟩,rfl,fun hG p hp=>(hG p (others_mem.1 hp).1:GY g p.2),rfl,fun z hz=>⟨List.all_eq_true.1 hc z (norms_mem.2 hz),List.mem_append_right _ (List.mem_map.2 ⟨z,norms_mem.2 hz,rfl⟩)⟩⟩
 · cases h
def LoopIn (F:Fence) (dn:Nat) (P:Program) (c:Code) (Q:Exit->Act->World->Prop) (a:Act) (w:World):Prop:=
 ∀ (b:Frame) (k:List Item) (cs:List Frame),b.roundOf=F.round->F.fn b.fn->F.room (cs.length+1+dn) -> ∃ e a' w',Q e a' w'/\ArrivesIn (Machine.fenced P F) P (lone (b.atR a (.code c :: .inLoop c :: k)) cs w) b k cs e a' w'
theorem LoopIn.loop {F:Fence} {dn:Nat} {P:Program} {c:Code} {Q:Exit->Act->World->Prop} {a:Act} {w:World} (h:LoopIn F dn P c Q a w):(Code.loop c).wpIn F dn P Q a w:=by
 intro b k cs hro hb hr
 obtain ⟨e,a',w',hq,harr⟩:=h b k cs hro hb hr
 exact ⟨e,a',w',hq,.of_steps (.one (fenced_calm hb hr rfl) stepR_loop) harr⟩
theorem LoopIn.round {F:Fence} {dn:Nat} {P:Program} {c:Code} {Q:Exit->Act->World->Prop} {a:Act} {w:World} (h:c.wpIn F dn P (Exit.then (LoopIn F dn P c Q) Q) a w):LoopIn F dn P c Q a w:=by
 intro b k cs hro hb hr
 obtain ⟨e,a₁,w₁,hq,harr⟩:=h b (.inLoop c :: k) cs hro hb hr
 cases e with
 | normal=>
   obtain ⟨e₂,a₂,w₂,hq₂,harr₂⟩:=hq b k cs hro hb hr
   exact ⟨e₂,a₂,w₂,hq₂,.of_steps (StepsIn.trans harr (.one (fenced_calm hb hr rfl) stepR_inLoop)) harr₂⟩
 | exit id=>exact ⟨_,a₁,w₁,hq,.pass (x := .inLoop c) rfl (fun _ _ => .inl (by simp)) harr⟩
 | goto l=>exact ⟨_,a₁,w₁,hq,.pass (x := .inLoop c) rfl (fun _ _ => .inl (by simp)) harr⟩
 | ret=>exact ⟨_,a₁,w₁,hq,.pass (x := .inLoop c) rfl (fun _ _ => .inl (by simp)) harr⟩
 | panic ch=>exact ⟨_,a₁,w₁,hq,.pass (x := .inLoop c) rfl (fun _ _ => .inl (by simp)) harr⟩
 | outgrown=>exact ⟨_,a₁,w₁,hq,.pass (x := .inLoop c) rfl (fun _ _ => .inl (by simp)) harr⟩
theorem W3 {id:Nat} {g:G} : ∀ {l:List (XE × Y)},X2 g l->X2 g (eB id l)
 | [],_=>fun p hp=>by cases hp
 | (.exit i,y) :: r,h=>by
   intro p hp
   simp only [eB,List.mem_cons] at hp
   rcases hp with rfl | hp
   · have:=h _ (List.mem_cons_self ..)
     split<;>exact this
   · exact W3 (fun q hq=>h q (by simp [hq])) p hp
 | (.normal,y) :: r,h=>by
   intro p hp
   simp only [eB,List.mem_cons] at hp
   rcases hp with rfl | hp
   · exact h _ (List.mem_cons_self ..)
   · exact W3 (fun q hq=>h q (by simp [hq])) p hp
 | (.ret,y) :: r,h=>by
   intro p hp
   simp only [eB,List.mem_cons] at hp
   rcases hp with rfl | hp
   · exact h _ (List.mem_cons_self ..)
   · exact W3 (fun q hq=>h q (by simp [hq])) p hp
theorem jR {id:Nat} {Q:Exit->Act->World->Prop} : ∀ {l:List (XE × Y)},HQ dfs base N specs Q (eB id l)->HQ dfs base N specs (Exit.inBlock id Q) l
 | [],_=>fun p hp=>by cases hp
 | (.exit i,y) :: r,h=>by
   intro p hp a w I
   simp only [eB] at h
   rcases List.mem_cons.1 hp with rfl | hp
   · have:=h _ (List.mem_cons_self ..)
     by_cases hi:i=id
     · rw [if_pos (by simpa using hi)] at this
       simp only [XE.out,Exit.inBlock,hi,if_true]
       exact this a w I
     · rw [if_neg (by simpa using hi)] at this
       simp only [XE.out,Exit.inBlock,hi,if_false]
       exact this a w I
   · exact jR (fun q hq=>h q (by simp [hq])) p hp a w I
 | (.normal,y) :: r,h=>by
   intro p hp a w I
   simp only [eB] at h
   rcases List.mem_cons.1 hp with rfl | hp
   · exact h (.normal,y) (by simp) a w I
   · exact jR (fun q hq=>h q (by simp [hq])) p hp a w I
 | (.ret,y) :: r,h=>by
   intro p hp a w I
   simp only [eB] at h
   rcases List.mem_cons.1 hp with rfl | hp
   · exact h (.ret,y) (by simp) a w I
   · exact jR (fun q hq=>h q (by simp [hq])) p hp a w I
theorem fS {n c:Nat} {b:Bool} : ∀ {ps:List (Nat × Nat × Bool)},lookP n c ps=some b->(n,c,b) ∈ ps
 | (m,d,b') :: r,h=>by
   unfold lookP at h
   split at h
   · rename_i hq
     simp only [Bool.and_eq_true,beq_iff_eq] at hq
     cases h
     rw [hq.1,hq.2];simp
   · simp [fS h]
theorem lH {ops:Array Oper} {g g':G} {y:Y} {l:List (XE × Y)} (h:qD P prot N sh ops g y=some (g',l)):Le g g'/\(GY g y->X2 g' l):=by
 unfold qD at h
 split at h
 · rename_i L nc2 nb2 hL
   simp only [tQ,qA] at h
   split at h
   · rename_i hc
     simp only [Bool.and_eq_true] at hc
     simp only [Option.some.injEq,Prod.mk.injEq] at h
     obtain ⟨rfl,rfl⟩:=h
     have H:Pass P prot ops N sh y.S g.nc g.nb L nc2 nb2:=⟨hL,hc.1.1.1,hc.1.1.2,hc.1.2⟩
     obtain ⟨oc,ob,hle,hlb,_⟩:=vC H
     refine ⟨⟨hle,hlb,fun r hr=>List.mem_append_left _ hr,fun _ h=>h⟩,fun hG p hp=>?_⟩
     have:p=(XE.normal,(⟨L.foldl (fun S e=>S.sets e.wr) y.S,y.av++bN L,y.ps⟩:Y)):=by simpa using hp
     subst this
     have:=good_fin H hG
     rwa [sets_fin (o:=default)] at this
   · cases h
 · cases h
theorem qC (fc:Fc F dn P) (hm:P.follows .mixedOrders=true) (hsh:∀ n,sh n=(specs n).sh) {ops:Array Oper} {g g':G} {y:Y} {l:List (XE × Y)} (h:qD P prot N sh ops g y=some (g',l)) (hG:GY g y) (hz:dfs.nb<=g.nb) (s:Sat P specs base g')
 {Q:Exit->Act->World->Prop} (hQ:HQ dfs base N specs Q l) {a:Act} {w:World} (I:bL dfs base N specs y a w) (id:Nat) (draw:Bool):(Code.region id ops draw).wpIn F dn P Q a w:=by
 unfold qD at h
 split at h
 · rename_i L nc2 nb2 hL
   simp only [tQ,qA] at h
   split at h
   · rename_i hc
     simp only [Bool.and_eq_true] at hc
     simp only [Option.some.injEq,Prod.mk.injEq] at h
     obtain ⟨rfl,rfl⟩:=h
     have H:Pass P prot ops N sh y.S g.nc g.nb L nc2 nb2:=⟨hL,hc.1.1.1,hc.1.1.2,hc.1.2⟩
     have hv':∀ r ∈ rU (T1 ops.toList []) L y.av 0 L,VCa P specs base (fun n=>n ∈ r.av) y.ps r.ac:=fun r hr=>s.rs (r,y.ps) (List.mem_append_right _ (List.mem_map.2 ⟨r,hr,rfl⟩))
     have hQ':∀ a' w',rL dfs base N specs (fin L y.S) (y.av++bN L) y.ps a' w'->Q .normal a' w':=fun a' w' I'=>hQ (.normal,⟨L.foldl (fun S e=>S.sets e.wr) y.S,y.av++bN L,y.ps⟩) (by simp) a' w' (by rwa [sets_fin (o:=default)] at I')
     cases draw
     · exact region_seq fc H hG hz hsh hv' hc.2 I hQ' id
     · exact region_any fc hm H hG hz hsh hv' hc.2 I hQ' id
   · cases h
 · cases h
theorem K4 {g:G} {y:Y} {js:List eY} (hG:GY g y) (t:Bool):GY ⟨g.nc+1,g.nb,g.nj,g.rs,js⟩ ⟨y.S,y.av++[g.nc],(g.nc,0,t) :: y.ps⟩:=by
 refine ⟨fun n hn=>?_,fun p hp=>?_,fun x=>?_,hG.bx⟩
 · show n<g.nc+1
   rcases List.mem_append.1 hn with h | h
   · have:=hG.av n h;omega
   · have:n=g.nc:=by simpa using h
     omega
 · show p.1<g.nc+1
   rcases List.mem_cons.1 hp with rfl | h
   · simp
   · have:=hG.ps p h;omega
 · exact aJ (fun c hc=>by cases c<;>simp [jE] at hc ⊢ <;> omega) _ (hG.lt x)
theorem tL (hsh:∀ n,sh n=(specs n).sh) {g:G} {y:Y} (hG:GY g y) (ho:sh g.nc = .one) (hv:VCj specs base (.ghost g.nc y.av y.ps)) {a:Act} {w:World} (I:bL dfs base N specs y a w) :
 ∃ b,bL dfs base N specs ⟨y.S,y.av++[g.nc],(g.nc,0,b) :: y.ps⟩ a w:=by
 obtain ⟨σ,R,hF,hP⟩:=I
 obtain ⟨hrow,b,hb⟩:=hv σ w R.gr (fun m hm=>(hF m hm).1) hP
 refine ⟨b, σ.setA g.nc fun _ => .bool b,R.grow ⟨rfl,rfl,rfl,Nat.le_refl _,fun _ _ _=>rfl⟩ (fun _=>rfl) fun x=>aJ (fun c hc=>?_) _ (hG.lt x),fun n hn=>?_,fun p hp=>?_⟩
 · cases c with
   | an m q=>have hc:Nat.blt m g.nc=true:=hc;simp at hc;simp [SC.noA];omega
   | _=>rfl
 · rcases List.mem_append.1 hn with h | h
   · have hlt:=hG.av n h
     exact (hF n h).grown (jV _) (fun c=>by simp [Env.setA,show n≠g.nc by omega]) fun b ty k hk => .inl ⟨hk,rfl⟩
   · have:n=g.nc:=by simpa using h
     subst this
     refine ⟨?_,fun _ _ _ _ hf=>(specs g.nc).flat hrow _ _ _ hf⟩
     unfold Fact
     rw [<- hsh,ho]
     have:(Sh.one.sv g.nc).den (σ.setA g.nc fun _ => .bool b) = .bool b:=by simp [Sh.sv,SV.den,O5,SC.den,Env.setA]
     rw [this];exact hb
 · rcases List.mem_cons.1 hp with rfl | h
   · simp [Env.setA]
   · have hlt:=hG.ps p h
     have:=hP p h
     simpa [Env.setA,show p.1≠g.nc by omega] using this
theorem R3 {ops:Array Oper} : ∀ {d:Nat} {g g':G} {y:Y} {l:List (XE × Y)},mK P prot N sh ops d g y=some (g',l)->Le g g'/\(GY g y->X2 g' l)
 | 0,_,_,_,_,h=>lH h
 | d+1,g,g',y,l,h=>by
   unfold mK at h
   split at h
   · rename_i r hr
     cases h
     exact lH hr
   · split at h
     · split at h
       · rename_i g1 l1 h1
         split at h
         · rename_i g2 l2 h2
           cases h
           obtain ⟨a1,a2⟩:=R3 h1
           obtain ⟨b1,b2⟩:=R3 h2
           have a0:Le g ⟨g.nc+1,g.nb,g.nj,g.rs,g.js++[.ghost g.nc y.av y.ps]⟩:=⟨Nat.le_succ _,Nat.le_refl _,fun _ h=>h,fun _ h=>List.mem_append_left _ h⟩
           refine ⟨(a0.trans a1).trans b1,fun hG p hp=>?_⟩
           rcases List.mem_append.1 hp with hp | hp
           · exact (a2 (K4 hG true) p hp).mono b1
           · exact b2 ((K4 hG false).mono a1) p hp
         · cases h
       · cases h
     · cases h
theorem jW (fc:Fc F dn P) (hm:P.follows .mixedOrders=true) (hsh:∀ n,sh n=(specs n).sh) {ops:Array Oper} (id:Nat) (draw:Bool) {Q:Exit->Act->World->Prop} : ∀ {d:Nat} {g g':G} {y:Y} {l:List (XE × Y)},mK P prot N sh ops d g y=some (g',l)->GY g y->dfs.nb<=g.nb->Sat P specs base g' ->
 HQ dfs base N specs Q l -> ∀ {a:Act} {w:World},bL dfs base N specs y a w->(Code.region id ops draw).wpIn F dn P Q a w
 | 0,_,_,_,_,h,hG,hz,s,hQ,_,_,I=>qC fc hm hsh h hG hz s hQ I id draw
 | d+1,g,g',y,l,h,hG,hz,s,hQ,a,w,I=>by
   unfold mK at h
   split at h
   · rename_i r hr
     cases h
     exact qC fc hm hsh hr hG hz s hQ I id draw
   · split at h
     · rename_i ho
       split at h
       · rename_i g1 l1 h1
         split at h
         · rename_i g2 l2 h2
           cases h
           obtain ⟨a1,a2⟩:=R3 h1
           obtain ⟨b1,b2⟩:=R3 h2
           obtain ⟨b,I2⟩:=tL hsh hG ho ((s.le b1).js _ (a1.js _ (List.mem_append_right _ (List.mem_singleton.2 rfl)))) I
           cases b with
           | true=>exact jW fc hm hsh id draw h1 (K4 hG true) hz (s.le b1) (fun p hp=>hQ p (List.mem_append_left _ hp)) I2
           | false=>exact jW fc hm hsh id draw h2 ((K4 hG false).mono a1) (Nat.le_trans hz a1.nb) s (fun p hp=>hQ p (List.mem_append_right _ hp)) I2
         · cases h
       · cases h
     · cases h
theorem mH {K:Nat->Bool} {g:G} {y:Y} (h:GY g y):GY g (lessAv K y):=⟨fun n hn=>h.av n (List.mem_filter.1 hn).1,h.ps,h.lt,h.bx⟩
theorem lessAv_inv {K:Nat->Bool} {y:Y} {a:Act} {w:World} (h:bL dfs base N specs y a w):bL dfs base N specs (lessAv K y) a w:=by
 obtain ⟨σ,R,hF,hP⟩:=h
 exact ⟨σ,R,fun n hn=>hF n (List.mem_filter.1 hn).1,hP⟩
theorem lI {id:Nat} {ops:Array Oper} {g g':G} {y:Y} {l:List (XE × Y)} (h:tS P prot K J N sh id ops g y=some (g',l)):Le g g'/\(GY g y->X2 g' l):=by
 unfold tS at h
 split at h
 · split at h
   · split at h
     · rename_i g1 l1 h1
       split at h
       · rename_i g2 l2 h2
         obtain ⟨a1,a2⟩:=R3 h1
         obtain ⟨b1,b2⟩:=R3 h2
         obtain ⟨c1,c2⟩:=Z5 h
         have a0:Le g ⟨g.nc+1,g.nb,g.nj,g.rs,g.js++[.ghost g.nc y.av y.ps]⟩:=⟨Nat.le_succ _,Nat.le_refl _,fun _ h=>h,fun _ h=>List.mem_append_left _ h⟩
         refine ⟨((a0.trans a1).trans b1).trans c1,fun hG=>c2 fun p hp=>?_⟩
         rcases List.mem_append.1 hp with hp | hp
         · exact (a2 (K4 hG true) p hp).mono b1
         · exact b2 ((K4 hG false).mono a1) p hp
       · cases h
     · cases h
   · cases h
 · exact lH h
theorem P9:∀ (f:Nat) (c:Code) (g:G) (y:Y) (g':G) (l:List (XE × Y)),J4 P prot K J N sh f c g y=some (g',l)->Le g g'/\(GY g y->X2 g' l):=by
 intro f
 have one:∀ (g:G) (y:Y) (e:XE),Le g g/\(GY g y->X2 g [(e,y)]):=fun g y e=>⟨Le.refl g,fun h p hp=>by
  have:p=(e,y):=by simpa using hp
  subst this;exact h⟩
 induction f with
 | zero=>intro c g y g' l h;simp [J4] at h
 | succ f ih=>
   intro c g y g' l h
   cases c with
   | skip=>simp only [J4,Option.some.injEq,Prod.mk.injEq] at h;obtain ⟨rfl,rfl⟩:=h;exact one _ _ _
   | label i=>simp only [J4,Option.some.injEq,Prod.mk.injEq] at h;obtain ⟨rfl,rfl⟩:=h;exact one _ _ _
   | exit i=>simp only [J4,Option.some.injEq,Prod.mk.injEq] at h;obtain ⟨rfl,rfl⟩:=h;exact one _ _ _
   | ret=>simp only [J4,Option.some.injEq,Prod.mk.injEq] at h;obtain ⟨rfl,rfl⟩:=h;exact one _ _ _
   | seq a b=>
     simp only [J4] at h
     split at h
     · rename_i g1 l1 h1
       obtain ⟨a1,a2⟩:=ih _ _ _ _ _ h1
       obtain ⟨b1,b2⟩:=W1 (fun g y g' l=>ih b g y g' l) h
       exact ⟨a1.trans b1,fun hG=>b2 (a2 hG)⟩
     · cases h
   | loop c=>
     simp only [J4] at h
     split at h
     · split at h
       · split at h
         · rename_i g1 y1 h1
           split at h
           · rename_i g2 l2 h2
             obtain ⟨a1,a2,_⟩:=fZ h1
             obtain ⟨b1,b2⟩:=ih _ _ _ _ _ h2
             obtain ⟨c1,_,c2,_⟩:=qQ h
             exact ⟨(a1.trans b1).trans c1,fun hG=>c2 (b2 (a2 hG))⟩
           · cases h
         · cases h
       · cases h
     · split at h
       · rename_i g1 l1 h1
         obtain ⟨a1,a2⟩:=ih _ _ _ _ _ h1
         obtain ⟨b1,b2⟩:=W1 (fun g y g' l=>ih (.loop c) g y g' l) h
         exact ⟨a1.trans b1,fun hG=>b2 (a2 hG)⟩
       · cases h
   | cond c a b=>
     simp only [J4] at h
     split at h
     · exact ih _ _ _ _ _ h
     · exact ih _ _ _ _ _ h
     · rename_i n k he
       split at h
       · exact ih _ _ _ _ _ h
       · exact ih _ _ _ _ _ h
       · split at h
         · rename_i hn
           have hn:n<g.nc:=by simpa using hn
           split at h
           · rename_i g1 l1 h1
             split at h
             · rename_i g2 l2 h2
               obtain ⟨a1,a2⟩:=ih _ _ _ _ _ h1
               obtain ⟨b1,b2⟩:=ih _ _ _ _ _ h2
               obtain ⟨c1,c2⟩:=Z5 h
               have a0:Le g ⟨g.nc,g.nb,g.nj,g.rs,g.js++[.test n k y.av y.ps]⟩:=⟨Nat.le_refl _,Nat.le_refl _,fun _ h=>h,fun _ h=>List.mem_append_left _ h⟩
               have key:∀ (t:Bool),GY g y->GY g ⟨y.S,y.av,(n,k,t) :: y.ps⟩:=fun t hG=>⟨hG.av,fun p hp=>by
                rcases List.mem_cons.1 hp with rfl | hp
                · exact hn
                · exact hG.ps p hp,hG.lt,hG.bx⟩
               refine ⟨((a0.trans a1).trans b1).trans c1,fun hG=>c2 fun p hp=>?_⟩
               rcases List.mem_append.1 hp with hp | hp
               · exact (a2 ((key true hG).mono a0) p hp).mono b1
               · exact b2 ((key false hG).mono (a0.trans a1)) p hp
             · cases h
           · cases h
         · cases h
     · cases h
   | block id c=>
     simp only [J4] at h
     split at h
     · rename_i g1 l1 h1
       obtain ⟨a1,a2⟩:=ih _ _ _ _ _ h1
       obtain ⟨c1,c2⟩:=Z5 h
       exact ⟨a1.trans c1,fun hG=>c2 (W3 (a2 hG))⟩
     · cases h
   | region id ops draw=>
     simp only [J4] at h
     split at h
     · split at h
       · split at h
         · rename_i g1 y1 h1
           obtain ⟨a1,a2,_⟩:=fZ h1
           simp only [qA] at h
           obtain ⟨b1,b2⟩:=lI h
           exact ⟨a1.trans b1,fun hG=>b2 (mH (a2 hG))⟩
         · cases h
       · cases h
     · exact lI h
   | rangeFunc f ps a b=>simp [J4] at h
   | scope c=>simp [J4] at h
   | goto l=>simp [J4] at h
   | refuse s=>simp [J4] at h
theorem execG_wp (fc:Fc F dn P) (hm:P.follows .mixedOrders=true) (hsh:∀ n,sh n=(specs n).sh) {id0:Nat} {ops:Array Oper} {g g':G} {y:Y} {l:List (XE × Y)} (h:tS P prot K J N sh id0 ops g y=some (g',l)) (hG:GY g y) (hz:dfs.nb<=g.nb) (s:Sat P specs base g')
 {Q:Exit->Act->World->Prop} (hQ:HQ dfs base N specs Q l) {a:Act} {w:World} (I:bL dfs base N specs y a w) (id:Nat) (draw:Bool):(Code.region id ops draw).wpIn F dn P Q a w:=by
 unfold tS at h
 split at h
 · split at h
   · rename_i ho
     split at h
     · rename_i g1 l1 h1
       split at h
       · rename_i g2 l2 h2
         obtain ⟨a1,a2⟩:=R3 h1
         obtain ⟨b1,b2⟩:=R3 h2
         obtain ⟨c1,c2⟩:=Z5 h
         have s2:=s.le c1
         have hg1:=a2 (K4 hG true)
         have hg2:=b2 ((K4 hG false).mono a1)
         have hQ2:=qV hsh h (fun p hp=>by
          rcases List.mem_append.1 hp with hp | hp
          · exact (hg1 p hp).mono b1
          · exact hg2 p hp) (s) hQ
         obtain ⟨b,I2⟩:=tL hsh hG ho ((s2.le b1).js _ (a1.js _ (List.mem_append_right _ (List.mem_singleton.2 rfl)))) I
         cases b with
         | true=>exact jW fc hm hsh id draw h1 (K4 hG true) hz (s2.le b1) (fun p hp=>hQ2 p (List.mem_append_left _ hp)) I2
         | false=>exact jW fc hm hsh id draw h2 ((K4 hG false).mono a1) (Nat.le_trans hz a1.nb) (s2) (fun p hp=>hQ2 p (List.mem_append_right _ hp)) I2
       · cases h
     · cases h
   · cases h
 · exact qC fc hm hsh h hG hz (s) hQ I id draw
section
variable {α : Type} {spk : α->Nat->Spec prot} {μ : Nat->α->Nat}
theorem exec_wp (fc:Fc F dn P) (hm:P.follows .mixedOrders=true) (hsh:∀ k n,sh n=(spk k n).sh):∀ (f:Nat),
 (∀ (c:Code) (g:G) (y:Y) (g':G) (l:List (XE × Y)),J4 P prot K J N sh f c g y=some (g',l)->GY g y->SatK P spk μ base g' ->
  ∀ (n0:Nat) (k0 : α),n0<=g.nc/\dfs.nb<=g.nb -> ∀ (Q:Exit->Act->World->Prop),HQK dfs base N spk μ n0 k0 Q l -> ∀ k,Rel spk μ n0 k0 k -> ∀ a w,bL dfs base N (spk k) y a w->c.wpIn F dn P Q a w) /\
 (∀ (c:Code) (g:G) (y:Y) (g':G) (l:List (XE × Y)),J4 P prot K J N sh f (.loop c) g y=some (g',l)->GY g y->SatK P spk μ base g' ->
  ∀ (n0:Nat) (k0 : α),n0<=g.nc/\dfs.nb<=g.nb -> ∀ (Q:Exit->Act->World->Prop),HQK dfs base N spk μ n0 k0 Q l -> ∀ k,Rel spk μ n0 k0 k -> ∀ a w,bL dfs base N (spk k) y a w->LoopIn F dn P c Q a w):=by
 intro f
 induction f with
 | zero=>exact ⟨fun c g y g' l h=>by simp [J4] at h,fun c g y g' l h=>by simp [J4] at h⟩
 | succ f ih=>
   obtain ⟨ihA,ihB⟩:=ih
   have hloop:∀ (c:Code) (g:G) (y:Y) (g':G) (l:List (XE × Y)),J4 P prot K J N sh (f+1) (.loop c) g y=some (g',l)->GY g y->SatK P spk μ base g' ->
    ∀ (n0:Nat) (k0 : α),n0<=g.nc/\dfs.nb<=g.nb -> ∀ (Q:Exit->Act->World->Prop),HQK dfs base N spk μ n0 k0 Q l -> ∀ k,Rel spk μ n0 k0 k -> ∀ a w,bL dfs base N (spk k) y a w->LoopIn F dn P c Q a w:=by
    intro c g y g' l h hG s n0 k0 hn Q hQ k hk a w I
    simp only [J4] at h
    split at h
    · split at h
      · rename_i off pls hJ
        split at h
        · rename_i g1 y1 h1
          split at h
          · rename_i g2 l2 h2
            obtain ⟨a1,a2,anc,apos,aav,aps,amt,ajs⟩:=fZ h1
            obtain ⟨b1,b2⟩:=P9 _ _ _ _ _ _ h2
            obtain ⟨c1,cnc,c2,rfl,c3⟩:=qQ h
            have hav:∀ n,n ∈ y.av->n<g.nc:=hG.av
            have hps:∀ p,p ∈ y.ps->p.1<g.nc:=hG.ps
            have into:∀ {specs specs':Nat->Spec prot} (_:∀ n,sh n=(specs' n).sh) (_:∀ n,n<g.nc->specs' n=specs n) {z:Y} (_:cS sh N g.nc pls.length y1.S y.av y.ps z (T7 sh z.S g.nc pls)=true) {a:Act} {w:World} {σ : Env}
             (R:Rep dfs base N σ z.S.get a w) (hF:∀ n,n ∈ z.av->FS specs σ w z.S.get n) (hP:Ps σ z.ps)
             (_:∀ p ∈ T7 sh z.S g.nc pls,NewS specs' (Old specs (fun m=>m ∈ z.av) σ w) w (specs' p.1) (p.2.den σ)),bL dfs base N specs' y1 a w:=by
             intro specs specs' e1 e2 z e3 a w σ R hF hP hv
             have:=lA e1 e2 e3 hav hps R hF hP hv
             unfold bL;rw [aav,aps];exact this
            have hnb:=a1.nb
            have go:∀ (m:Nat) (k : α) (a:Act) (w:World), μ g.nc k<m->Rel spk μ n0 k0 k->bL dfs base N (spk k) y1 a w->LoopIn F dn P c Q a w:=by
             intro m
             induction m with
             | zero=>intro k a w h;exact absurd h (by omega)
             | succ m ihm=>
               intro k a w hlt hk I
               refine LoopIn.round (ihA c g1 y1 g2 l2 h2 (a2 hG) (s.le c1) (g.nc+1) k (by omega) _ (fun k2 hk2 p hp a2 w2 I2=>?_) k (Rel.refl _ _) a w I)
               have hk02:Rel spk μ n0 k0 k2:=hk.trans (m:=g.nc+1) hk2 (by omega)
               obtain ⟨e,z⟩:=p
               cases e with
               | normal=>
                 show LoopIn F dn P c Q a2 w2
                 obtain ⟨d1,d2⟩:=c3 z hp
                 obtain ⟨σ,R,hF,hP⟩:=I2
                 obtain ⟨k3,hμ,hr,hv⟩:=s.ls k2 _ d2 σ w2 R.gr (fun m hm=>(hF m hm).1) hP
                 have hμ:=hμ rfl
                 have:=(hk2 g.nc (by omega)).2
                 exact ihm k3 a2 w2 (by omega) (hk02.trans hr (by omega)) (into (hsh k3) (fun n hn=>(hr n hn).1) d1 R hF hP hv)
               | ret=>exact hQ k2 hk02 (.ret,z) (others_mem.2 ⟨hp,by simp⟩) a2 w2 I2
               | exit i=>exact hQ k2 hk02 (.exit i,z) (others_mem.2 ⟨hp,by simp⟩) a2 w2 I2
            obtain ⟨σ,R,hF,hP⟩:=I
            obtain ⟨k1, -,hr,hv⟩:=s.ls k _ (c1.js _ (b1.js _ ajs)) σ w R.gr (fun m hm=>(hF m hm).1) hP
            exact go _ k1 a w (Nat.lt_succ_self _) (hk.trans hr hn.1) (into (hsh k1) (fun n hn=>(hr n hn).1) amt R hF hP hv)
          · cases h
        · cases h
      · cases h
    · split at h
      · rename_i g1 l1 h1
        obtain ⟨a1,a2⟩:=P9 _ _ _ _ _ _ h1
        obtain ⟨b1,b2⟩:=W1 (fun g y g' l=>P9 f (.loop c) g y g' l) h
        have:=a1.nc
        have:=a1.nb
        exact LoopIn.round (ihA c g y g1 l1 h1 hG (s.le b1) n0 k0 hn _ (jP (fun g y g' l=>P9 f (.loop c) g y g' l) (fun g y g' l h hG hn s hQ k hk a w I=>ihB c g y g' l h hG s n0 k0 hn Q hQ k hk a w I) h (a2 hG) (by omega) s hQ) k hk a w I)
      · cases h
   refine ⟨fun c g y g' l h hG s n0 k0 hn Q hQ k hk a w I=>?_,hloop⟩
   cases c with
   | skip=>simp only [J4,Option.some.injEq,Prod.mk.injEq] at h;obtain ⟨rfl,rfl⟩:=h;exact wpIn_skip (hQ k hk (.normal,y) (by simp) a w I)
   | label i=>simp only [J4,Option.some.injEq,Prod.mk.injEq] at h;obtain ⟨rfl,rfl⟩:=h;exact wpIn_label (hQ k hk (.normal,y) (by simp) a w I)
   | exit i=>simp only [J4,Option.some.injEq,Prod.mk.injEq] at h;obtain ⟨rfl,rfl⟩:=h;exact wpIn_exit (hQ k hk (.exit i,y) (by simp) a w I)
   | ret=>simp only [J4,Option.some.injEq,Prod.mk.injEq] at h;obtain ⟨rfl,rfl⟩:=h;exact wpIn_ret (hQ k hk (.ret,y) (by simp) a w I)
   | seq c d=>
     simp only [J4] at h
     refine wpIn_seq ?_
     split at h
     · rename_i g1 l1 h1
       obtain ⟨a1,a2⟩:=P9 _ _ _ _ _ _ h1
       obtain ⟨b1,b2⟩:=W1 (fun g y g' l=>P9 f d g y g' l) h
       have:=a1.nc
       have:=a1.nb
       exact ihA c g y g1 l1 h1 hG (s.le b1) n0 k0 hn _ (jP (fun g y g' l=>P9 f d g y g' l) (fun g y g' l h hG hn s hQ k hk a w I=>ihA d g y g' l h hG s n0 k0 hn Q hQ k hk a w I) h (a2 hG) (by omega) s hQ) k hk a w I
     · cases h
   | loop c=>exact (hloop c g y g' l h hG s n0 k0 hn Q hQ k hk a w I).loop
   | cond c t u=>
     simp only [J4] at h
     have hev:∀ e,(evS y.S c) = .v false [e] -> ∃ σ,Rep dfs base N σ y.S.get a w/\(∀ n,n ∈ y.av->FS (spk k) σ w y.S.get n)/\Ps σ y.ps/\a.eval c=e.den σ:=fun e he=>by
      obtain ⟨σ,R,hF,hP⟩:=I
      refine ⟨σ,R,hF,hP, ?_⟩
      cases c with
      | tmp i=>
        have:=R.va (.t i)
        have he:y.S.get (.t i) = .v false [e]:=he
        rw [he] at this;exact this
      | const u=>have:=Y7 σ u;rw [show jK u = .v false [e] from he] at this;exact this.symm
      | global g=>
        cases he;rfl
      | func g=>cases he
     split at h
     · rename_i he
       obtain ⟨σ,R,hF,hP,hc⟩:=hev _ he
       exact wpIn_cond_true hc (ihA t g y g' l h hG s n0 k0 hn Q hQ k hk a w I)
     · rename_i he
       obtain ⟨σ,R,hF,hP,hc⟩:=hev _ he
       exact wpIn_cond_false hc (ihA u g y g' l h hG s n0 k0 hn Q hQ k hk a w I)
     · rename_i n kk he
       obtain ⟨σ,R,hF,hP,hc⟩:=hev _ he
       split at h
       · rename_i hl
         exact wpIn_cond_true (hc.trans (hP _ (fS hl))) (ihA t g y g' l h hG s n0 k0 hn Q hQ k hk a w I)
       · rename_i hl
         exact wpIn_cond_false (hc.trans (hP _ (fS hl))) (ihA u g y g' l h hG s n0 k0 hn Q hQ k hk a w I)
       · split at h
         · rename_i hn1
           have hn1:n<g.nc:=by simpa using hn1
           split at h
           · rename_i g1 l1 h1
             split at h
             · rename_i g2 l2 h2
               obtain ⟨a1,a2⟩:=P9 _ _ _ _ _ _ h1
               obtain ⟨b1,b2⟩:=P9 _ _ _ _ _ _ h2
               obtain ⟨c1,c2⟩:=Z5 h
               have a0:Le g ⟨g.nc,g.nb,g.nj,g.rs,g.js++[.test n kk y.av y.ps]⟩:=⟨Nat.le_refl _,Nat.le_refl _,fun _ h=>h,fun _ h=>List.mem_append_left _ h⟩
               have key:∀ (t:Bool),GY g y->GY g ⟨y.S,y.av,(n,kk,t) :: y.ps⟩:=fun t hG=>⟨hG.av,fun p hp=>by
                rcases List.mem_cons.1 hp with rfl | hp
                · exact hn1
                · exact hG.ps p hp,hG.lt,hG.bx⟩
               have hg1:=a2 ((key true hG).mono a0)
               have hg2:=b2 ((key false hG).mono (a0.trans a1))
               have s2:=s.le c1
               have hQ2:HQK dfs base N spk μ n0 k0 Q (l1++l2):=fun k hk=>qV (hsh k) h (fun p hp=>by
                rcases List.mem_append.1 hp with hp | hp
                · exact (hg1 p hp).mono b1
                · exact hg2 p hp) (s.at_ k) (hQ k hk)
               obtain ⟨b,hb⟩:=((s2.le b1).at_ k).js (.test n kk y.av y.ps) (a1.js _ (by simp)) σ w R.gr (fun m hm=>(hF m hm).1) hP
               have hc:a.eval c = .bool b:=hc.trans hb
               have I2:bL dfs base N (spk k) ⟨y.S,y.av,(n,kk,b) :: y.ps⟩ a w:=⟨σ,R,hF,fun p hp=>by
                rcases List.mem_cons.1 hp with rfl | hp
                · exact hb
                · exact hP p hp⟩
               have:=a1.nc
               cases b with
               | true=>exact wpIn_cond_true hc (ihA t _ _ g1 l1 h1 ((key true hG).mono a0) (s2.le b1) n0 k0 hn Q (fun k hk p hp=>hQ2 k hk p (List.mem_append_left _ hp)) k hk a w I2)
               | false=>exact wpIn_cond_false hc (ihA u _ _ g2 l2 h2 ((key false hG).mono (a0.trans a1)) s2 n0 k0 ⟨Nat.le_trans hn.1 a1.nc,Nat.le_trans hn.2 a1.nb⟩ Q (fun k hk p hp=>hQ2 k hk p (List.mem_append_right _ hp)) k hk a w I2)
             · cases h
           · cases h
         · cases h
     · cases h
   | block id c=>
     simp only [J4] at h
     refine wpIn_block ?_
     split at h
     · rename_i g1 l1 h1
       obtain ⟨a1,a2⟩:=P9 _ _ _ _ _ _ h1
       obtain ⟨c1,c2⟩:=Z5 h
       exact ihA c g y g1 l1 h1 hG (s.le c1) n0 k0 hn _ (fun k hk=>jR (qV (hsh k) h (W3 (a2 hG)) (s.at_ k) (hQ k hk))) k hk a w I
     · cases h
   | region id ops draw=>
     simp only [J4] at h
     split at h
     · split at h
       · rename_i off pls hJ
         split at h
         · rename_i g1 y1 h1
           obtain ⟨a1,a2,anc,apos,aav,aps,amt,ajs⟩:=fZ h1
           simp only [qA] at h
           obtain ⟨b1,_⟩:=lI h
           obtain ⟨σ,R,hF,hP⟩:=I
           obtain ⟨k1, -,hr,hv⟩:=s.ls k _ (b1.js _ ajs) σ w R.gr (fun m hm=>(hF m hm).1) hP
           refine execG_wp fc hm (hsh k1) h (mH (a2 hG)) (Nat.le_trans hn.2 a1.nb) (s.at_ k1) (hQ k1 (hk.trans hr hn.1)) (lessAv_inv ?_) id draw
           have:=lA (hsh k1) (fun n hn=>(hr n hn).1) amt hG.av hG.ps R hF hP hv
           unfold bL;rw [aav,aps];exact this
         · cases h
       · cases h
     · exact execG_wp fc hm (hsh k) h hG hn.2 (s.at_ k) (hQ k hk) I id draw
   | rangeFunc f ps a b=>simp [J4] at h
   | scope c=>simp [J4] at h
   | goto l=>simp [J4] at h
   | refuse s=>simp [J4] at h
end
end
section
def pJ (P:Program) (S:St):ResultVar->Option SV
 | .tmp t=>nn (S.get (.t t))
 | .cell t ty=>match (S.get (.t t)).c1,aggT P ty with
   | some (.ptr b o),some true=>match S3 P ty with
     | some n=>(mM S b o n).map (.v true)
     | none=>none
   | some (.ptr b o),some false=>(S.get (.c b o)).c1.map fun c => .v false [c]
   | _,_=>none
def outs (P:Program) (S:St):List ResultVar->Option (List SV)
 | []=>some []
 | r :: l=>match pJ P S r,outs P S l with
   | some e,some m=>some (e :: m)
   | _,_=>none
def pair:SV->Option (Bool × List SC)
 | .v g cs=>some (g,cs)
 | _=>none
def pG:List SV->Option (List (Bool × List SC))
 | []=>some []
 | e :: l=>match pair e,pG l with
   | some p,some m=>some (p :: m)
   | _,_=>none
def outS (P:Program) (S:St) (l:List ResultVar):Option SV:=
 match outs P S l with
 | some [e]=>some e
 | some m=>(pG m).map .tup
 | none=>none
section
variable {P:Program} {dfs:Root} {base:World} {N:Nat} {σ : Env} {S:St} {a:Act} {W:World}
def pB (tm:Array Value):ResultVar->Sem Value
 | .tmp t=>pure (tm.getD t undef)
 | .cell t ty=>do loadVar ty (<- asAddr (tm.getD t undef))
theorem results_eq (fn:Func) (tm:Array Value):results fn tm=(do
 let vs <- fn.results.mapM (pB tm)
 pure (if h:vs.size=1 then vs[0] else .tuple vs)):=rfl
theorem outOne_run (R:Rep dfs base N σ S.get a W) {r:ResultVar} {e:SV} (h:pJ P S r=some e) :
 (pB a.tmps r).run P W = .ok (e.den σ) W:=by
 cases r with
 | tmp t=>
   have:=R.va (.t t)
   simp only [pJ] at h
   rw [nn_eq h] at this
   show Sem.run P (pure (a.tmps.getD t undef)) W=_
   rw [show a.tmps.getD t undef=e.den σ from this];rfl
 | cell t ty=>
   have hp:∀ b o,(S.get (.t t)).c1=some (.ptr b o)->a.tmps.getD t undef = .pointer (some ⟨σ.ad b,o,none⟩):=fun b o hc=>by
    have:=R.va (.t t)
    rw [cA hc] at this;exact this
   simp only [pJ] at h
   split at h
   · rename_i b o hc hag
     split at h
     · rename_i n hn
       cases hcs:mM S b o n with
       | none=>rw [hcs] at h;cases h
       | some cs=>
         rw [hcs] at h;cases h
         obtain ⟨h1,h2⟩:=gG hcs
         have hl:(loadCells ⟨σ.ad b,o,none⟩ (cs.map (SC.den σ)).length).run P W = .ok (cs.map (SC.den σ)).toArray W:=
          run_loadCells_list (P:=P) W ⟨σ.ad b,o,none⟩ _ fun j v hv=>by
           rw [Addr.add_mid]
           obtain ⟨c,hc,rfl⟩:∃ c,cs[j]?=some c/\c.den σ=v:=by simpa [List.getElem?_map] using hv
           exact R.cell (h2 j c hc).1
         rw [List.length_map,h1] at hl
         simp only [pB,hp b o hc,asAddr,loadVar,Sem.run_bind,Sem.run_pure,Result.andThen_ok,aK P hag W,H7 P hn W,if_true,hl]
         rfl
     · cases h
   · rename_i b o hc hag
     cases hq:(S.get (.c b o)).c1 with
     | none=>rw [hq] at h;cases h
     | some c=>
       rw [hq] at h;cases h
       have hcell:=R.cell (cA hq)
       have hl:(load ⟨σ.ad b,o,none⟩).run P W = .ok (c.den σ) W:=by simp [load,Sem.run,hcell]
       simp only [pB,hp b o hc,asAddr,loadVar,Sem.run_bind,Sem.run_pure,Result.andThen_ok,aK P hag W,Bool.false_eq_true,if_false,hl]
       rfl
   · cases h
theorem outs_run (R:Rep dfs base N σ S.get a W):∀ {l:List ResultVar} {m:List SV},outs P S l=some m ->
 Sem.run P (l.mapM (pB a.tmps)) W = .ok (m.map (SV.den σ)) W
 | [],m,h=>by simp [outs] at h;subst h;rfl
 | r :: l,m,h=>by
   simp only [outs] at h
   cases h1:pJ P S r with
   | none=>rw [h1] at h;cases h
   | some e=>
     cases h2:outs P S l with
     | none=>rw [h1,h2] at h;cases h
     | some n=>
       rw [h1,h2] at h;cases h
       rw [List.mapM_cons]
       simp only [Sem.run_bind,outOne_run R h1,Result.andThen_ok,outs_run R h2,Sem.run_pure,List.map_cons]
theorem tC:∀ {m:List SV} {l:List (Bool × List SC)},pG m=some l->m.map (SV.den σ)=l.map fun p=>O5 σ p.1 p.2
 | [],l,h=>by simp [pG] at h;subst h;rfl
 | e :: r,l,h=>by
   simp only [pG] at h
   cases h1:pair e with
   | none=>rw [h1] at h;cases h
   | some p=>
     cases h2:pG r with
     | none=>rw [h1,h2] at h;cases h
     | some n=>
       rw [h1,h2] at h;cases h
       have he:e = .v p.1 p.2:=by
        unfold pair at h1;split at h1
        · cases h1;rfl
        · cases h1
       simp only [List.map_cons,tC h2,he];rfl
theorem outS_run (R:Rep dfs base N σ S.get a W) {fn:Func} {e:SV} (h:outS P S fn.results.toList=some e):(results fn a.tmps).run P W = .ok (e.den σ) W:=by
 unfold outS at h
 have key:∀ m,outs P S fn.results.toList=some m->(results fn a.tmps).run P W = .ok (if h:(m.map (SV.den σ)).toArray.size=1 then (m.map (SV.den σ)).toArray[0] else .tuple (m.map (SV.den σ)).toArray) W:=fun m hm=>by
  have:=outs_run R hm
  rw [results_eq,Array.mapM_eq_mapM_toList]
  simp only [Sem.run_bind,Sem.run_map,this,Result.andThen_ok,Sem.run_pure]
 split at h
 · rename_i e' hm
   cases h
   rw [key _ hm];rfl
 · rename_i m hne hm
   cases hp:pG m with
   | none=>rw [hp] at h;cases h
   | some l=>
     rw [hp] at h;cases h
     rw [key _ hm]
     have hsz:¬ (m.map (SV.den σ)).toArray.size=1:=by
      intro hq
      simp at hq
      obtain ⟨x,rfl⟩:=List.length_eq_one_iff.1 hq
      exact hne x rfl
     rw [dif_neg hsz,tC hp];rfl
 · cases h
end
end
section
variable {prot:TypeId->Bool}
def Spec.none:Spec prot := .of .one (fun _ _=>False) (fun _ _ h=>h.elim) (fun _ _ _ _ h=>h)
def sp (specs:List (Spec prot)) (n:Nat):Spec prot:=F9 Spec.none specs n
def nB (specs:List (Spec prot)) (av:List Nat) (σ : Env) (W:World) (q:Nat):Prop:=∃ m,av.elem m=true/\(sp specs m).fp (((sp specs m).sh.sv m).den σ) W q
def AppS (specs:List (Spec prot)) (base:World) (av:List Nat) (σ : Env) (W:World) (n:Nat) (run:Value->World->Prop):Prop:=
 ∃ v W',run v W'/\Wide base (nB specs av σ W) W W'/\Keeps prot W W'/\(sp specs n).F v W'/\(∀ q,(sp specs n).fp v W' q->W.heap.size<=q\/nB specs av σ W q) /\
   ∀ m,av.elem m=true->(sp specs m).row=true->(sp specs m).F (((sp specs m).sh.sv m).den σ) W' /\ ∀ q,(sp specs m).fp (((sp specs m).sh.sv m).den σ) W' q->(sp specs m).fp (((sp specs m).sh.sv m).den σ) W q
def VC (P:Program) (specs:List (Spec prot)) (base:World):Rec->Prop
 | ⟨.call n (.fn f) args nd,av⟩=>∀ (σ : Env) (W:World),base.grownBy W none->(∀ m,av.elem m=true->Fact (sp specs) σ W m)->X7 σ W nd->Calls P f (args.map (SV.den σ)).toArray W (RetS W (sp specs n) (nB specs av σ W))
 | ⟨.call n (.op p ty) args nd,av⟩=>∀ (σ : Env) (W:World),base.grownBy W none->(∀ m,av.elem m=true->Fact (sp specs) σ W m)->X7 σ W nd -> ∀ (ρ : Operand->Value) (o:Oper),o.op=p->o.type=ty ->
  p.operands.toList.map ρ=args.map (SV.den σ)->HasS W (sp specs n) (nB specs av σ W) fun v=>(execOp ρ o).run P W = .ok (.value v) W
 | ⟨.call n (.opw p ty) args nd,av⟩=>∀ (σ : Env) (W:World),base.grownBy W none->(∀ m,av.elem m=true->Fact (sp specs) σ W m)->X7 σ W nd -> ∀ (ρ : Operand->Value) (o:Oper),o.op=p->o.type=ty ->
  p.operands.toList.map ρ=args.map (SV.den σ)->AppS specs base av σ W n fun v W'=>(execOp ρ o).run P W = .ok (.value v) W'
 | ⟨.call n (.opa p ty) args nd,av⟩=>∀ (σ : Env) (W:World),base.grownBy W none->(∀ m,av.elem m=true->Fact (sp specs) σ W m)->X7 σ W nd -> ∀ (ρ : Operand->Value) (o:Oper),o.op=p->o.type=ty ->
  p.operands.toList.map ρ=args.map (SV.den σ) -> ∃ v W',(execOp ρ o).run P W = .ok (.value v) W'/\RetS W (sp specs n) (nB specs av σ W) (.returned v) W'
 | _=>True
def VCs (P:Program) (specs:List (Spec prot)) (base:World):List Rec->Prop
 | []=>True
 | r :: l=>VC P specs base r/\VCs P specs base l
def Way (σ : Env) (ps:List (Nat × Nat × Bool)):Prop:=∀ n k b,lookP n k ps=some b->σ.an n k = .bool b
theorem Way.of {σ : Env} {ps:List (Nat × Nat × Bool)} (h:Ps σ ps):Way σ ps:=fun n k b hl=>h _ (fS hl)
def WVC (P:Program) (specs:List (Spec prot)) (base:World):Rec × List (Nat × Nat × Bool)->Prop
 | (⟨.call n (.fn f) args nd,av⟩,ps)=>∀ (σ : Env) (W:World),base.grownBy W none->(∀ m,av.elem m=true->Fact (sp specs) σ W m)->Way σ ps->X7 σ W nd->Calls P f (args.map (SV.den σ)).toArray W (RetS W (sp specs n) (nB specs av σ W))
 | (⟨.call n (.op p ty) args nd,av⟩,ps)=>∀ (σ : Env) (W:World),base.grownBy W none->(∀ m,av.elem m=true->Fact (sp specs) σ W m)->Way σ ps->X7 σ W nd -> ∀ (ρ : Operand->Value) (o:Oper),o.op=p->o.type=ty ->
     p.operands.toList.map ρ=args.map (SV.den σ)->HasS W (sp specs n) (nB specs av σ W) fun v=>(execOp ρ o).run P W = .ok (.value v) W
 | (⟨.call n (.opw p ty) args nd,av⟩,ps)=>∀ (σ : Env) (W:World),base.grownBy W none->(∀ m,av.elem m=true->Fact (sp specs) σ W m)->Way σ ps->X7 σ W nd -> ∀ (ρ : Operand->Value) (o:Oper),o.op=p->o.type=ty ->
     p.operands.toList.map ρ=args.map (SV.den σ)->AppS specs base av σ W n fun v W'=>(execOp ρ o).run P W = .ok (.value v) W'
 | (⟨.call n (.opa p ty) args nd,av⟩,ps)=>∀ (σ : Env) (W:World),base.grownBy W none->(∀ m,av.elem m=true->Fact (sp specs) σ W m)->Way σ ps->X7 σ W nd -> ∀ (ρ : Operand->Value) (o:Oper),o.op=p->o.type=ty ->
     p.operands.toList.map ρ=args.map (SV.den σ) -> ∃ v W',(execOp ρ o).run P W = .ok (.value v) W'/\RetS W (sp specs n) (nB specs av σ W) (.returned v) W'
 | _=>True
def WVCs (P:Program) (specs:List (Spec prot)) (base:World):List (Rec × List (Nat × Nat × Bool))->Prop
 | []=>True
 | r :: l=>WVC P specs base r/\WVCs P specs base l
def News (specs:List (Spec prot)) (old:Nat->Prop) (σ : Env) (W:World):List (Nat × SV)->Prop
 | []=>True
 | p :: r=>NewS (sp specs) old W (sp specs p.1) (p.2.den σ)/\News specs old σ W r
def JVC (specs:List (Spec prot)) (base:World):eY->Prop
 | .meet news av ps=>∀ (σ : Env) (W:World),base.grownBy W none->(∀ m,av.elem m=true->Fact (sp specs) σ W m)->Way σ ps->News specs (nB specs av σ W) σ W news
 | .test n k av ps=>∀ (σ : Env) (W:World),base.grownBy W none->(∀ m,av.elem m=true->Fact (sp specs) σ W m)->Way σ ps -> ∃ b, σ.an n k = .bool b
 | .ghost n av ps=>∀ (σ : Env) (W:World),base.grownBy W none->(∀ m,av.elem m=true->Fact (sp specs) σ W m)->Way σ ps->(sp specs n).row=false /\ ∃ b,(sp specs n).F (.bool b) W
 | .loop ..=>False
def JVCs (specs:List (Spec prot)) (base:World):List eY->Prop
 | []=>True
 | r :: l=>JVC specs base r/\JVCs specs base l
def ag (k i:Nat):SV:=(Sh.agg k).sv i
def on (i:Nat):SV := .v false [.an i 0]
def cla (n:Nat) (f:FuncId) (args:List SV) (av:List Nat):Rec:=⟨.call n (.fn f) args [],av⟩
def clb (n:Nat) (f:FuncId) (args:List SV) (av:List Nat) (nd:List (Nat × TypeId × List SC)):Rec:=⟨.call n (.fn f) args nd,av⟩
def co (n:Nat) (p:Op) (ty:TypeId) (args:List SV) (av:List Nat) (nd:List (Nat × TypeId × List SC)):Rec:=⟨.call n (.op p ty) args nd,av⟩
def cow (n:Nat) (p:Op) (ty:TypeId) (args:List SV) (av:List Nat) (nd:List (Nat × TypeId × List SC)):Rec:=⟨.call n (.opw p ty) args nd,av⟩
def cl (n:Nat) (f:FuncId) (args:List SV):Rec:=⟨.call n (.fn f) args [],List.range n⟩
theorem iG {specs:List (Spec prot)} {av:List Nat} {σ : Env} {W:World} (q:Nat) (h:nB specs av σ W q):Old (sp specs) (fun m=>m ∈ av) σ W q:=by
 obtain ⟨m,h1,h2⟩:=h
 exact ⟨m,by simpa using h1,h2⟩
theorem qY {P:Program} {specs:List (Spec prot)} {base:World} : ∀ {l:List (Rec × List (Nat × Nat × Bool))},WVCs P specs base l -> ∀ r ∈ l,VCa P (sp specs) base (fun n=>n ∈ r.1.av) r.2 r.1.ac
 | r :: l,h,x,hx=>by
   rcases List.mem_cons.1 hx with rfl | hx
   · obtain ⟨⟨ac,av⟩,ps⟩:=x
     cases ac with
     | call n f args nd=>
       cases f with
       | fn f=>exact fun σ W g hf hp hb=>(h.1 σ W g (fun m hm=>hf m (by simpa using hm)) (.of hp) hb).mono fun _ _ hr=>hr.mono iG
       | op p ty=>exact fun σ W g hf hp hb ρ o h1 h2 h3=>(h.1 σ W g (fun m hm=>hf m (by simpa using hm)) (.of hp) hb ρ o h1 h2 h3).mono iG
       | opw p ty=>
         intro σ W g hf hp hb ρ o h1 h2 h3
         obtain ⟨v,W',hr,hw,hk,hF,hfp,hrow⟩:=h.1 σ W g (fun m hm=>hf m (by simpa using hm)) (.of hp) hb ρ o h1 h2 h3
         exact ⟨v,W',hr,⟨hw.1,hw.2.1,fun q hq ho=>hw.2.2.1 q hq fun z=>ho (iG q z),hw.2.2.2⟩,hk,hF,fun q hq=>(hfp q hq).imp_right (iG q),fun m hm hr=>hrow m (by simpa using hm) hr⟩
       | opa p ty=>
         intro σ W g hf hp hb ρ o h1 h2 h3
         obtain ⟨v,W',hr,h4⟩:=h.1 σ W g (fun m hm=>hf m (by simpa using hm)) (.of hp) hb ρ o h1 h2 h3
         exact ⟨v,W',hr,h4.mono iG⟩
     | _=>trivial
   · exact qY h.2 x hx
theorem rI {specs:List (Spec prot)} {old:Nat->Prop} {σ : Env} {W:World} : ∀ {l:List (Nat × SV)},News specs old σ W l -> ∀ p ∈ l,NewS (sp specs) old W (sp specs p.1) (p.2.den σ)
 | q :: r,h,p,hp=>by
   rcases List.mem_cons.1 hp with rfl | hp
   · exact h.1
   · exact rI h.2 p hp
theorem eX {specs:List (Spec prot)} {base:World} : ∀ {l:List eY},JVCs specs base l -> ∀ r ∈ l,VCj (sp specs) base r
 | r :: l,h,x,hx=>by
   rcases List.mem_cons.1 hx with rfl | hx
   · cases x with
     | meet news av ps=>
      intro σ W g hf hp p hm
      have hn:=rI (h.1 σ W g (fun m hm=>hf m (by simpa using hm)) (.of hp)) p hm
      unfold NewS at hn ⊢
      cases hr:(sp specs p.1).row with
      | false=>rw [hr] at hn;exact hn
      | true=>rw [hr] at hn;exact ⟨hn.1,fun q hq=>iG q (hn.2 q hq)⟩
     | test n k av ps=>exact fun σ W g hf hp=>h.1 σ W g (fun m hm=>hf m (by simpa using hm)) (.of hp)
     | ghost n av ps=>exact fun σ W g hf hp=>h.1 σ W g (fun m hm=>hf m (by simpa using hm)) (.of hp)
     | loop back nc news av ps=>exact h.1.elim
   · exact eX h.2 x hx
theorem JVCs_ls {specs:List (Spec prot)} {base:World} {α : Type} {spk : α->Nat->Spec prot} {μ : Nat->α->Nat} {k : α} : ∀ {l:List eY},JVCs specs base l -> ∀ r ∈ l,VCl spk μ base k r
 | r :: l,h,x,hx=>by
   rcases List.mem_cons.1 hx with rfl | hx
   · cases x with
     | loop back nc news av ps=>exact h.1.elim
     | _=>trivial
   · exact JVCs_ls h.2 x hx
def JVL {α : Type} (specs : α->List (Spec prot)) (μ : Nat->α->Nat) (base:World) (k : α):eY->Prop
 | .loop back nc news av ps=>∀ (σ : Env) (W:World),base.grownBy W none->(∀ m,av.elem m=true->Fact (sp (specs k)) σ W m)->Way σ ps ->
  ∃ k',(back=true->μ nc k'<μ nc k)/\((specs k').take nc=(specs k).take nc /\ ∀ m,m<nc->μ m k'=μ m k)/\News (specs k') (nB (specs k) av σ W) σ W news
 | j=>JVC (specs k) base j
def JVLs {α : Type} (specs : α->List (Spec prot)) (μ : Nat->α->Nat) (base:World) (k : α):List eY->Prop
 | []=>True
 | r :: l=>JVL specs μ base k r/\JVLs specs μ base k l
theorem tM {β : Type} (d : β) (l:List β) (n m:Nat) (h:m<n):F9 d (l.take n) m=F9 d l m:=by
 rw [G5,G5,List.getElem?_take_of_lt h]
theorem rK {α : Type} {specs : α->List (Spec prot)} {μ : Nat->α->Nat} {base:World} {k : α} : ∀ {l:List eY},JVLs specs μ base k l->(∀ r ∈ l,VCj (sp (specs k)) base r) /\ ∀ r ∈ l,VCl (fun k=>sp (specs k)) μ base k r
 | [],_=>⟨fun _ h=>(nomatch h),fun _ h=>(nomatch h)⟩
 | r :: l,h=>by
   obtain ⟨h1,h2⟩:=rK h.2
   have h0:VCj (sp (specs k)) base r/\VCl (fun k=>sp (specs k)) μ base k r:=by
    cases r with
    | loop back nc news av ps=>
      refine ⟨trivial,fun σ W g hf hp=>?_⟩
      obtain ⟨k',a,⟨b,c⟩,d⟩:=h.1 σ W g (fun m hm=>hf m (by simpa using hm)) (.of hp)
      refine ⟨k',a,fun m hm=>⟨?_,c m hm⟩,fun p hm=>?_⟩
      · show sp (specs k') m=sp (specs k) m
        unfold sp;rw [<- tM _ _ nc m hm,b,tM _ _ nc m hm]
      · have hn:=rI d p hm
        unfold NewS at hn ⊢
        cases hr:(sp (specs k') p.1).row with
        | false=>rw [hr] at hn;exact hn
        | true=>rw [hr] at hn;exact ⟨hn.1,fun q hq=>iG q (hn.2 q hq)⟩
    | meet news av ps=>exact ⟨eX (l:=[.meet news av ps]) ⟨h.1,trivial⟩ _ (by simp),trivial⟩
    | test n k av ps=>exact ⟨eX (l:=[.test n k av ps]) ⟨h.1,trivial⟩ _ (by simp),trivial⟩
    | ghost n av ps=>exact ⟨eX (l:=[.ghost n av ps]) ⟨h.1,trivial⟩ _ (by simp),trivial⟩
   exact ⟨fun x hx=>(List.mem_cons.1 hx).elim (fun e=>e ▸ h0.1) (h1 x),fun x hx=>(List.mem_cons.1 hx).elim (fun e=>e ▸ h0.2) (h2 x)⟩
theorem mQ {P:Program} {specs:List (Spec prot)} {base:World} : ∀ {l:List (Rec × List (Nat × Nat × Bool))},VCs P specs base (l.map Prod.fst)->WVCs P specs base l
 | [],_=>trivial
 | (⟨.call n (.fn f) args nd,av⟩,ps) :: l,h=>⟨fun σ W g hf _ hb=>h.1 σ W g hf hb,mQ h.2⟩
 | (⟨.call n (.op p ty) args nd,av⟩,ps) :: l,h=>⟨fun σ W g hf _ hb=>h.1 σ W g hf hb,mQ h.2⟩
 | (⟨.call n (.opw p ty) args nd,av⟩,ps) :: l,h=>⟨fun σ W g hf _ hb=>h.1 σ W g hf hb,mQ h.2⟩
 | (⟨.call n (.opa p ty) args nd,av⟩,ps) :: l,h=>⟨fun σ W g hf _ hb=>h.1 σ W g hf hb,mQ h.2⟩
 | (⟨.pure,av⟩,ps) :: l,h=>⟨trivial,mQ h.2⟩
 | (⟨.alloc ..,av⟩,ps) :: l,h=>⟨trivial,mQ h.2⟩
 | (⟨.store ..,av⟩,ps) :: l,h=>⟨trivial,mQ h.2⟩
def gU (nt:Nat) (as:List SV) (bxs:List (TypeId × List SC)):St:=
 ⟨as++List.replicate (nt-as.length) unSV,bxs.map fun p=>p.2.map fun c => .v false [c],bxs.map fun p => .bx p.1 p.2.length false⟩
structure Out where
 out:SV
 av:List Nat
 ps:List (Nat × Nat × Bool)
 nd:List (Nat × TypeId × List SC)
 own:List Nat
def SV.outBoxes:SV->List Nat
 | .tup l=>l.flatMap fun p=>p.2.flatMap scBox
 | e=>e.boxes
def ownOf (S:St) (l:List Nat):List Nat:=l.filter fun b=>match S.get (.k b) with | .bx _ _ true=>true | _=>false
def OBoxes (w:World) (τ : Env) (W:World) (o:Out):Prop:=X7 τ W o.nd /\ ∀ b,o.own.elem b=true->w.heap.size<=τ.ad b
def dX (P:Program) (l:List ResultVar):List (XE × Y)->Option (List Out)
 | []=>some []
 | (.exit _,_) :: _=>none
 | (_,y) :: r=>match outS P y.S l,dX P l r with
   | some e,some m=>some (⟨e,y.av,y.ps,(N9 y.S e.outBoxes).getD [],ownOf y.S e.outBoxes⟩ :: m)
   | _,_=>none
def qF (P:Program) (prot:TypeId->Bool) (K:List Nat) (J:List (Option (List (List Var)))) (fn:Func) (sh:Nat->Sh) (np:Nat) (as:List SV) (bxs:List (TypeId × List SC)):Option (List (Rec × List (Nat × Nat × Bool)) × List eY × List Out × Nat):=
 if Nat.ble as.length fn.ntmps && as.all (fun e=>e.isVal && e.allC (jE np bxs.length)) && bxs.all (fun p=>p.2.all (jE np bxs.length)) then
  match J4 P prot (fun n => K.elem n) (fun n => F9 none J n) fn.ntmps sh 1000 (fn.body.getD (.refuse "")) ⟨np, bxs.length, 0, [], []⟩ ⟨gU fn.ntmps as bxs, List.range np, []⟩ with
  | some (g,l)=>(dX P fn.results.toList l).map fun m=>(g.rs,g.js,m,g.nc)
  | none=>none
 else none
def vQ (P:Program) (prot:TypeId->Bool) (fn:Func) (sh:Nat->Sh) (np:Nat) (as:List SV) (bxs:List (TypeId × List SC)):Option (List Rec × SV × Nat × List (Nat × TypeId × List SC) × List Nat):=
 match qF P prot [] [] fn sh np as bxs with
 | some (rs,[],[o],nc)=>if (List.range nc).all fun n=>o.av.elem n then some (rs.map Prod.fst,o.out,nc,o.nd,o.own) else none
 | _=>none
def execFn (P:Program) (prot:TypeId->Bool) (fn:Func) (sh:Nat->Sh) (np:Nat) (as:List SV) (bxs:List (TypeId × List SC)):Option (List Rec × SV × Nat):=
 (vQ P prot fn sh np as bxs).map fun r=>(r.1,r.2.1,r.2.2.1)
def Outs (specs:List (Spec prot)) (w:World) (R:Ending->World->Prop):List Out->Prop
 | []=>True
 | o :: l=>(∀ (τ : Env) (W:World),w.grownBy W none->(∀ m,o.av.elem m=true->Fact (sp specs) τ W m)->Way τ o.ps->OBoxes w τ W o->R (.returned (o.out.den τ)) W)/\Outs specs w R l
theorem start_t (nt:Nat) (as:List SV) (bxs:List (TypeId × List SC)) (i:Nat):(gU nt as bxs).get (.t i)=if h:i<as.length then as[i] else if i<nt then unSV else .no:=by
 show F9 _ _ _=_
 rw [G5]
 by_cases h:i<as.length
 · simp [gU,h,List.getElem?_append_left h]
 · simp only [gU,h,dif_neg,not_false_eq_true,List.getElem?_append_right (Nat.not_lt.1 h),List.getElem?_replicate]
   by_cases h2:i<nt
   · simp [h2,show i-as.length<nt-as.length by omega]
   · simp [h2,show ¬ i-as.length<nt-as.length by omega]
theorem fH (nt:Nat) (as:List SV) (bxs:List (TypeId × List SC)) (b:Nat):(gU nt as bxs).get (.k b)=match bxs[b]? with | some p => .bx p.1 p.2.length false | none => .no:=by
 show F9 _ _ _=_
 rw [G5]
 simp only [gU,List.getElem?_map]
 cases bxs[b]?<;>rfl
theorem uN (nt:Nat) (as:List SV) (bxs:List (TypeId × List SC)) (b o:Nat):(gU nt as bxs).get (.c b o)=match bxs[b]? with | some p=>(match p.2[o]? with | some c => .v false [c] | none => .no) | none => .no:=by
 show F9 _ (F9 _ _ _) _=_
 rw [G5,G5]
 simp only [gU,List.getElem?_map]
 cases bxs[b]? with
 | none=>rfl
 | some p=>
   simp only [Option.map_some,Option.getD_some,List.getElem?_map]
   cases p.2[o]?<;>rfl
theorem tE {dfs:Root} {base:World} {N:Nat} {τ : Env} {S:St} {a:Act} {W:World} (R:Rep dfs base N τ S.get a W) (e:SV) (av:List Nat) (ps:List (Nat × Nat × Bool)):OBoxes base τ W ⟨e,av,ps,(N9 S e.outBoxes).getD [],ownOf S e.outBoxes⟩:=by
 refine ⟨?_,fun b hb=>?_⟩
 · show X7 τ W ((N9 S e.outBoxes).getD [])
   cases h:N9 S e.outBoxes with
   | none=>exact ⟨fun p hp=>(nomatch hp),fun p hp=>(nomatch hp)⟩
   | some nd=>exact dZ R h fun _ _=>rfl
 · have hm:b ∈ ownOf S e.outBoxes:=by simpa using hb
   have h2:=(List.mem_filter.1 hm).2
   split at h2
   · rename_i ty n hk
     exact (R.box hk).2 rfl
   · cases h2
theorem fO {P:Program} {fn:Func} {specs:List (Spec prot)} {w:World} {R:Ending->World->Prop} : ∀ {l:List (XE × Y)} {m:List Out},dX P fn.results.toList l=some m->Outs specs w R m ->
 HQ (.fn w) w fn.ntmps (sp specs) (bodyPost P fn R) l
 | [],m,h,hR=>fun p hp=>by cases hp
 | (.exit i,y) :: r,m,h,hR=>by simp [dX] at h
 | (.normal,y) :: r,m,h,hR=>by
   simp only [dX] at h
   split at h
   · rename_i e n h1 h2
     cases h
     intro p hp a W I
     rcases List.mem_cons.1 hp with rfl | hp
     · obtain ⟨τ,RR,hFF,hPP⟩:=I
       exact ⟨RR.df,_,outS_run RR h1,hR.1 τ W RR.gr (fun m hm=>(hFF m (by simpa using hm)).1) (.of hPP) (tE RR _ _ _)⟩
     · exact fO h2 hR.2 p hp a W I
   · cases h
 | (.ret,y) :: r,m,h,hR=>by
   simp only [dX] at h
   split at h
   · rename_i e n h1 h2
     cases h
     intro p hp a W I
     rcases List.mem_cons.1 hp with rfl | hp
     · obtain ⟨τ,RR,hFF,hPP⟩:=I
       exact ⟨RR.df,_,outS_run RR h1,hR.1 τ W RR.gr (fun m hm=>(hFF m (by simpa using hm)).1) (.of hPP) (tE RR _ _ _)⟩
     · exact fO h2 hR.2 p hp a W I
   · cases h
theorem bW {α : Type} {P:Program} (hm:P.follows .mixedOrders=true) {f:FuncId} {fn:Func} (hf:P.funcs[f]?=some fn)
 (spk : α->Nat->Spec prot) (μ : Nat->α->Nat) (k0 : α) {sh:Nat->Sh} (hsh:∀ k n,sh n=(spk k n).sh) (K:List Nat) (J:List (Option (List (List Var)))) (np:Nat) (as:List SV) (bxs:List (TypeId × List SC)) {rs:List (Rec × List (Nat × Nat × Bool))} {js:List eY} {outs:List Out} {nc:Nat}
 (he:qF P prot K J fn sh np as bxs=some (rs,js,outs,nc)) (w:World) (σ : Env) (hone:∀ n c,(σ.an n c).oneCell'=true)
 (hbox:∀ b p,bxs[b]?=some p->gY σ w (b,p)) (hinj:∀ b b',b<bxs.length->b'<bxs.length->σ.ad b=σ.ad b'->b=b')
 (hF:∀ n,n<np->Fact (spk k0) σ w n) (hvc:∀ k r,r ∈ rs->VCa P (spk k) w (fun n=>n ∈ r.1.av) r.2 r.1.ac) (hjc:∀ k r,r ∈ js->VCj (spk k) w r) (hjl:∀ k r,r ∈ js->VCl spk μ w k r) (R:Ending->World->Prop)
 (hR:∀ (l:List (XE × Y)),dX P fn.results.toList l=some outs -> ∀ k,Rel spk μ np k0 k->HQ (.fn w) w fn.ntmps (spk k) (bodyPost P fn R) l) :
 Calls P f (as.map (SV.den σ)).toArray w R:=by
 unfold qF at he
 split at he
 · rename_i hck
   simp only [Bool.and_eq_true,List.all_eq_true] at hck
   obtain ⟨⟨h1,h2⟩,h3⟩:=hck
   have h1:as.length<=fn.ntmps:=by simpa using h1
   obtain ⟨c,hb⟩:∃ c,fn.body=some c:=by
    cases hb:fn.body with
    | some c=>exact ⟨c,rfl⟩
    | none=>rw [hb] at he;simp [J4] at he
   rw [hb,Option.getD_some] at he
   refine calls_of_wp hf hb ?_
   have G:GY ⟨np,bxs.length,0,[],[]⟩ ⟨gU fn.ntmps as bxs,List.range np,[]⟩:=by
    refine ⟨fun n hn=>by simpa using hn,fun p hp=>(nomatch hp),fun x=>?_,fun b ty n w' hk=>?_⟩
    · cases x with
      | t i=>
        rw [start_t]
        by_cases h:i<as.length
        · rw [dif_pos h];exact (h2 _ (List.getElem_mem h)).2
        · rw [dif_neg h];split<;>rfl
      | c b o=>
        rw [uN]
        split
        · rename_i p hp
          split
          · rename_i c hc
            have:=h3 p (List.mem_of_getElem? hp) c (List.mem_of_getElem? hc)
            simpa [SV.allC] using this
          · rfl
        · rfl
      | k b=>rw [fH];split<;>rfl
    · rw [fH] at hk
      split at hk
      · rename_i p hp;exact (List.getElem?_eq_some_iff.1 hp).1
      · cases hk
   have I:bL (.fn w) w fn.ntmps (spk k0) ⟨gU fn.ntmps as bxs,List.range np,[]⟩ ⟨(as.map (SV.den σ)).toArray++Array.replicate (fn.ntmps-(as.map (SV.den σ)).toArray.size) undef,[]⟩ w:=by
    refine ⟨σ,⟨fun x=>?_,by simp;omega,rfl,⟨rfl,rfl,rfl,Nat.le_refl _,fun _ _ _=>rfl⟩,fun b b' ty n w' ty' n' w'' hk hk' hab=>?_,fun b o c hc=>?_,hone,KeepsOthers.refl w,fun b hb=>absurd hb (Nat.not_lt_zero b)⟩,fun n hn=>⟨hF n (by simpa using hn),fun b ty k hk=>?_⟩,fun p hp=>(nomatch hp)⟩
    · cases x with
      | t i=>
        rw [start_t]
        show Array.getD _ i undef=_
        by_cases h:i<as.length
        · rw [dif_pos h]
          simp [h,Array.getElem?_append]
        · rw [dif_neg h]
          by_cases h4:i<fn.ntmps
          · rw [if_pos h4]
            simp [h,Array.getElem?_append,Array.getElem?_replicate,show i-as.length<fn.ntmps-as.length by omega];rfl
          · rw [if_neg h4]
            simp [h,Array.getElem?_append,Array.getElem?_replicate,show ¬ i-as.length<fn.ntmps-as.length by omega];rfl
      | c b o=>
        intro c hc
        rw [uN] at hc
        split at hc
        · rename_i p hp
          split at hc
          · rename_i c' hc'
            cases hc
            have:=hbox b p hp
            unfold gY at this
            simp [World.cell?,this,hc']
          · cases hc
        · cases hc
      | k b=>
        intro ty n own hk
        rw [fH] at hk
        split at hk
        · rename_i p hp
          cases hk
          exact ⟨⟨_,hbox b p hp,by simp⟩,fun h=>by cases h⟩
        · cases hk
    · rw [fH] at hk hk'
      split at hk
      · rename_i p hp
        split at hk'
        · rename_i p' hp'
          exact hinj b b' (List.getElem?_eq_some_iff.1 hp).1 (List.getElem?_eq_some_iff.1 hp').1 hab
        · cases hk'
      · cases hk
    · rw [uN] at hc
      rw [fH]
      split at hc
      · rename_i p hp
        exact ⟨_,_,_,rfl⟩
      · cases hc
    · rw [fH] at hk
      split at hk
      · cases hk
      · cases hk
   split at he
   · rename_i g l hy
     cases ho:dX P fn.results.toList l with
     | none=>rw [ho] at he;cases he
     | some m=>
       rw [ho] at he
       simp only [Option.map_some,Option.some.injEq,Prod.mk.injEq] at he
       obtain ⟨rfl,rfl,rfl,rfl⟩:=he
       exact wpIn_wide.1 ((exec_wp (Fc.wide 1 P) hm hsh 1000).1 c _ _ g l hy G ⟨fun k=>⟨hvc k,hjc k⟩,hjl⟩ np k0 ⟨Nat.le_refl _,Nat.zero_le _⟩ _ (hR l ho) k0 (Rel.refl _ _) _ w I)
   · cases he
 · cases he
theorem dI {P:Program} (hm:P.follows .mixedOrders=true) {f:FuncId} {fn:Func} (hf:P.funcs[f]?=some fn)
 (specs:List (Spec prot)) (K:List Nat) (J:List (Option (List (List Var)))) (np:Nat) (as:List SV) (bxs:List (TypeId × List SC)) {rs:List (Rec × List (Nat × Nat × Bool))} {js:List eY} {outs:List Out} {nc:Nat}
 (he:qF P prot K J fn (fun n=>(sp specs n).sh) np as bxs=some (rs,js,outs,nc)) (w:World) (σ : Env) (hone:∀ n c,(σ.an n c).oneCell'=true)
 (hbox:∀ b p,bxs[b]?=some p->gY σ w (b,p)) (hinj:∀ b b',b<bxs.length->b'<bxs.length->σ.ad b=σ.ad b'->b=b')
 (hF:∀ n,n<np->Fact (sp specs) σ w n) (hvc:WVCs P specs w rs) (hjc:JVCs specs w js) (R:Ending->World->Prop)
 (hR:Outs specs w R outs) :
 Calls P f (as.map (SV.den σ)).toArray w R:=
 bW (α:=Unit) hm hf (fun _=>sp specs) (fun _ _=>0) () (fun _ _=>rfl) K J np as bxs he w σ hone hbox hinj hF (fun _=>qY hvc) (fun _=>eX hjc) (fun _=>JVCs_ls hjc) R (fun _ ho _ _=>fO ho hR)
theorem mX {α : Type} {P:Program} (hm:P.follows .mixedOrders=true) {f:FuncId} {fn:Func} (hf:P.funcs[f]?=some fn)
 (specs : α->List (Spec prot)) (μ : Nat->α->Nat) (k0 : α) (hsh:∀ k,(specs k).map (fun s=>s.sh)=(specs k0).map (fun s=>s.sh)) (K:List Nat) (J:List (Option (List (List Var)))) (np:Nat) (as:List SV) (bxs:List (TypeId × List SC)) {rs:List (Rec × List (Nat × Nat × Bool))} {js:List eY} {outs:List Out} {nc:Nat}
 (he:qF P prot K J fn (fun n=>(sp (specs k0) n).sh) np as bxs=some (rs,js,outs,nc)) (w:World) (σ : Env) (hone:∀ n c,(σ.an n c).oneCell'=true)
 (hbox:∀ b p,bxs[b]?=some p->gY σ w (b,p)) (hinj:∀ b b',b<bxs.length->b'<bxs.length->σ.ad b=σ.ad b'->b=b')
 (hF:∀ n,n<np->Fact (sp (specs k0)) σ w n) (hvc:∀ k,WVCs P (specs k) w rs) (hjc:∀ k,JVLs specs μ w k js) (R:Ending->World->Prop)
 (hR:∀ k,Rel (fun k=>sp (specs k)) μ np k0 k->Outs (specs k) w R outs) :
 Calls P f (as.map (SV.den σ)).toArray w R:=
 bW hm hf (fun k=>sp (specs k)) μ k0 (fun k n=>by
  have h:=congrArg (fun l=>l[n]?) (hsh k)
  simp only [List.getElem?_map] at h
  show (sp (specs k0) n).sh=(sp (specs k) n).sh
  unfold sp;rw [G5,G5]
  cases h1:(specs k)[n]?<;>cases h2:(specs k0)[n]?<;>rw [h1,h2] at h<;>simp at h ⊢
  exact h.symm) K J np as bxs he w σ hone hbox hinj hF (fun k=>qY (hvc k)) (fun k=>(rK (hjc k)).1) (fun k=>(rK (hjc k)).2) R (fun _ ho k hk=>fO ho (hR k hk))
theorem mY {P:Program} (hm:P.follows .mixedOrders=true) {f:FuncId} {fn:Func} (hf:P.funcs[f]?=some fn)
 (specs:List (Spec prot)) (np:Nat) (as:List SV) (bxs:List (TypeId × List SC)) {rs:List Rec} {out:SV} {nc:Nat} {nd:List (Nat × TypeId × List SC)} {own:List Nat}
 (he:vQ P prot fn (fun n=>(sp specs n).sh) np as bxs=some (rs,out,nc,nd,own)) (w:World) (σ : Env) (hone:∀ n c,(σ.an n c).oneCell'=true)
 (hbox:∀ b p,bxs[b]?=some p->gY σ w (b,p)) (hinj:∀ b b',b<bxs.length->b'<bxs.length->σ.ad b=σ.ad b'->b=b')
 (hF:∀ n,n<np->Fact (sp specs) σ w n) (hvc:VCs P specs w rs) (R:Ending->World->Prop)
 (hR:∀ (τ : Env) (W:World),w.grownBy W none->(∀ m,Nat.blt m nc=true->Fact (sp specs) τ W m)->X7 τ W nd->(∀ b,own.elem b=true->w.heap.size<=τ.ad b)->R (.returned (out.den τ)) W) :
 Calls P f (as.map (SV.den σ)).toArray w R:=by
 unfold vQ at he
 split at he
 · rename_i rs' o nc' hx
   split at he
   · rename_i hall
     simp only [Option.some.injEq,Prod.mk.injEq] at he
     obtain ⟨rfl,rfl,rfl,rfl,rfl⟩:=he
     refine dI hm hf specs [] [] np as bxs hx w σ hone hbox hinj hF (mQ hvc) trivial R ⟨fun τ W g hf _ hb=>hR τ W g (fun m hm=>hf m ?_) hb.1 hb.2,trivial⟩
     exact List.all_eq_true.1 hall m (List.mem_range.2 (by simpa using hm))
   · cases he
 · cases he
theorem P2 {P:Program} (hm:P.follows .mixedOrders=true) {f:FuncId} {fn:Func} (hf:P.funcs[f]?=some fn)
 (specs:List (Spec prot)) (np:Nat) (as:List SV) (bxs:List (TypeId × List SC)) {rs:List Rec} {out:SV} {nc:Nat}
 (he:execFn P prot fn (fun n=>(sp specs n).sh) np as bxs=some (rs,out,nc)) (w:World) (σ : Env) (hone:∀ n c,(σ.an n c).oneCell'=true)
 (hbox:∀ b p,bxs[b]?=some p->gY σ w (b,p)) (hinj:∀ b b',b<bxs.length->b'<bxs.length->σ.ad b=σ.ad b'->b=b')
 (hF:∀ n,n<np->Fact (sp specs) σ w n) (hvc:VCs P specs w rs) (R:Ending->World->Prop)
 (hR:∀ (τ : Env) (W:World),w.grownBy W none->(∀ m,Nat.blt m nc=true->Fact (sp specs) τ W m)->R (.returned (out.den τ)) W) :
 Calls P f (as.map (SV.den σ)).toArray w R:=by
 unfold execFn at he
 cases hx:vQ P prot fn (fun n=>(sp specs n).sh) np as bxs with
 | none=>rw [hx] at he;cases he
 | some r=>
   obtain ⟨rs',out',nc',nd,own⟩:=r
   rw [hx] at he
   simp only [Option.map_some,Option.some.injEq,Prod.mk.injEq] at he
   obtain ⟨rfl,rfl,rfl⟩:=he
   exact mY hm hf specs np as bxs hx w σ hone hbox hinj hF hvc R fun τ W g hf _ _=>hR τ W g hf
inductive Ins (w:World):List (Spec prot)->List Value->Prop
 | nil:Ins w [] []
 | cons {s:Spec prot} {v:Value} {l:List (Spec prot)} {vs:List Value} : s.F v w->Ins w l vs->Ins w (s :: l) (v :: vs)
theorem nN {w:World} : ∀ {l:List (Spec prot)} {vs:List Value},Ins w l vs -> ∃ f:Nat->Nat->Value,(∀ n c,(f n c).oneCell'=true)/\l.length=vs.length /\
 ∀ (i:Nat) (s:Spec prot) (v:Value),l[i]?=some s->vs[i]?=some v->(s.sh.sv i).den ⟨f,fun _=>0,fun _=>undef⟩=v/\s.F v w
 | _,_,.nil=>⟨fun _ _ => .bool false,fun _ _=>rfl,rfl,by simp⟩
 | _,_,.cons (s:=s) (v:=v) h t=>by
   obtain ⟨f,h1,h2,h3⟩:=nN t
   obtain ⟨g,hg,hv⟩:=s.fits v w h
   refine ⟨fun n=>match n with | 0=>g | n+1=>f n,fun n c=>?_,by simp [h2],fun i s' v' hs hv'=>?_⟩
   · cases n with
     | zero=>exact hg c
     | succ n=>exact h1 n c
   · cases i with
     | zero=>
       simp at hs hv';subst hs;subst hv'
       exact ⟨by rw [hv];exact Sh.sv_den _ fun c=>rfl,h⟩
     | succ i=>
       obtain ⟨h4,h5⟩:=h3 i s' v' (by simpa using hs) (by simpa using hv')
       exact ⟨by rw [<- h4];exact Sh.sv_den _ fun c=>rfl,h5⟩
def S7 (ins:List (Spec prot)):Nat->List SV
 | i=>match ins with
   | []=>[]
   | s :: r=>s.sh.sv i :: S7 r (i+1)
theorem cZ:∀ (l:List (Spec prot)) (i j:Nat),(S7 l i)[j]?=(l[j]?).map fun s=>s.sh.sv (i+j)
 | [],i,j=>by simp [S7]
 | s :: r,i,0=>by simp [S7]
 | s :: r,i,j+1=>by
   simp only [S7,List.getElem?_cons_succ,cZ r (i+1) j]
   rw [show i+1+j=i+(j+1) from by omega]
theorem A6 {P:Program} (hm:P.follows .mixedOrders=true) {f:FuncId} {fn:Func} (hf:P.funcs[f]?=some fn)
 (ins specs:List (Spec prot)) {vs:List Value} {w:World} (hin:Ins w ins vs) {rs:List Rec} {out:SV} {nc:Nat}
 (he:execFn P prot fn (fun n=>(sp (ins++specs) n).sh) ins.length (S7 ins 0) []=some (rs,out,nc))
 (hvc:VCs P (ins++specs) w rs) {R:Ending->World->Prop}
 (hR:∀ (τ : Env) (W:World),w.grownBy W none->(∀ m,Nat.blt m nc=true->Fact (sp (ins++specs)) τ W m)->R (.returned (out.den τ)) W) :
 Calls P f vs.toArray w R:=by
 obtain ⟨g,h1,h2,h3⟩:=nN hin
 have hvs:(S7 ins 0).map (SV.den ⟨g,fun _=>0,fun _=>undef⟩)=vs:=by
  apply List.ext_getElem?
  intro i
  rw [List.getElem?_map,cZ]
  cases hs:ins[i]? with
  | none=>
    have:vs[i]?=Option.none:=by
     rw [List.getElem?_eq_none_iff] at hs ⊢;omega
    rw [this];rfl
  | some s=>
    have hi:i<vs.length:=by have:=(List.getElem?_eq_some_iff.1 hs).1;omega
    have hv:=List.getElem?_eq_getElem hi
    rw [hv]
    simp only [Option.map_some,Nat.zero_add]
    rw [(h3 i s _ hs hv).1]
 rw [<- hvs]
 refine P2 hm hf (ins++specs) ins.length (S7 ins 0) [] he w ⟨g,fun _=>0,fun _=>undef⟩ h1 (by simp) (by simp) (fun n hn=>?_) hvc R hR
 have hs:=List.getElem?_eq_getElem hn
 have hv:=List.getElem?_eq_getElem (show n<vs.length by omega)
 obtain ⟨h4,h5⟩:=h3 n _ _ hs hv
 have hsp:sp (ins++specs) n=ins[n]:=by
  unfold sp;rw [G5,List.getElem?_append_left hn,hs];rfl
 unfold Fact
 rw [hsp,h4]
 exact h5
theorem eH {P:Program} (hm:P.follows .mixedOrders=true) {f:FuncId} {fn:Func} (hf:P.funcs[f]?=some fn)
 (ins specs:List (Spec prot)) (K:List Nat) (J:List (Option (List (List Var)))) {vs:List Value} {w:World} (hin:Ins w ins vs) {rs:List (Rec × List (Nat × Nat × Bool))} {js:List eY} {outs:List Out} {nc:Nat}
 (he:qF P prot K J fn (fun n=>(sp (ins++specs) n).sh) ins.length (S7 ins 0) []=some (rs,js,outs,nc))
 (hvc:WVCs P (ins++specs) w rs) (hjc:JVCs (ins++specs) w js) {R:Ending->World->Prop}
 (hR:Outs (ins++specs) w R outs) :
 Calls P f vs.toArray w R:=by
 obtain ⟨g,h1,h2,h3⟩:=nN hin
 have hvs:(S7 ins 0).map (SV.den ⟨g,fun _=>0,fun _=>undef⟩)=vs:=by
  apply List.ext_getElem?
  intro i
  rw [List.getElem?_map,cZ]
  cases hs:ins[i]? with
  | none=>
    have:vs[i]?=Option.none:=by
     rw [List.getElem?_eq_none_iff] at hs ⊢;omega
    rw [this];rfl
  | some s=>
    have hi:i<vs.length:=by have:=(List.getElem?_eq_some_iff.1 hs).1;omega
    have hv:=List.getElem?_eq_getElem hi
    rw [hv]
    simp only [Option.map_some,Nat.zero_add]
    rw [(h3 i s _ hs hv).1]
 rw [<- hvs]
 refine dI hm hf (ins++specs) K J ins.length (S7 ins 0) [] he w ⟨g,fun _=>0,fun _=>undef⟩ h1 (by simp) (by simp) (fun n hn=>?_) hvc hjc R hR
 have hs:=List.getElem?_eq_getElem hn
 have hv:=List.getElem?_eq_getElem (show n<vs.length by omega)
 obtain ⟨h4,h5⟩:=h3 n _ _ hs hv
 have hsp:sp (ins++specs) n=ins[n]:=by
  unfold sp;rw [G5,List.getElem?_append_left hn,hs];rfl
 unfold Fact
 rw [hsp,h4]
 exact h5
theorem W6 {α : Type} {P:Program} (hm:P.follows .mixedOrders=true) {f:FuncId} {fn:Func} (hf:P.funcs[f]?=some fn)
 (ins:List (Spec prot)) (specs : α->List (Spec prot)) (μ : Nat->α->Nat) (k0 : α) (hsh:∀ k,(specs k).map (fun s=>s.sh)=(specs k0).map (fun s=>s.sh)) (K:List Nat) (J:List (Option (List (List Var)))) {vs:List Value} {w:World} (hin:Ins w ins vs) {rs:List (Rec × List (Nat × Nat × Bool))} {js:List eY} {outs:List Out} {nc:Nat}
 (he:qF P prot K J fn (fun n=>(sp (ins++specs k0) n).sh) ins.length (S7 ins 0) []=some (rs,js,outs,nc))
 (hvc:∀ k,WVCs P (ins++specs k) w rs) (hjc:∀ k,JVLs (fun k=>ins++specs k) μ w k js) {R:Ending->World->Prop}
 (hR:∀ k,Rel (fun k=>sp (ins++specs k)) μ ins.length k0 k->Outs (ins++specs k) w R outs) :
 Calls P f vs.toArray w R:=by
 obtain ⟨g,h1,h2,h3⟩:=nN hin
 have hvs:(S7 ins 0).map (SV.den ⟨g,fun _=>0,fun _=>undef⟩)=vs:=by
  apply List.ext_getElem?
  intro i
  rw [List.getElem?_map,cZ]
  cases hs:ins[i]? with
  | none=>
    have:vs[i]?=Option.none:=by
     rw [List.getElem?_eq_none_iff] at hs ⊢;omega
    rw [this];rfl
  | some s=>
    have hi:i<vs.length:=by have:=(List.getElem?_eq_some_iff.1 hs).1;omega
    have hv:=List.getElem?_eq_getElem hi
    rw [hv]
    simp only [Option.map_some,Nat.zero_add]
    rw [(h3 i s _ hs hv).1]
 rw [<- hvs]
 refine mX hm hf (fun k=>ins++specs k) μ k0 (fun k=>by simp only [List.map_append,hsh k]) K J ins.length (S7 ins 0) [] he w ⟨g,fun _=>0,fun _=>undef⟩ h1 (by simp) (by simp) (fun n hn=>?_) hvc hjc R hR
 have hs:=List.getElem?_eq_getElem hn
 have hv:=List.getElem?_eq_getElem (show n<vs.length by omega)
 obtain ⟨h4,h5⟩:=h3 n _ _ hs hv
 have hsp:sp (ins++specs k0) n=ins[n]:=by
  unfold sp;rw [G5,List.getElem?_append_left hn,hs];rfl
 show (sp (ins++specs k0) n).F (((sp (ins++specs k0) n).sh.sv n).den _) w
 rw [hsp,h4]
 exact h5
end
section
section
variable {prot:TypeId->Bool}
end
end
end Go.Proofs.YtdgdmicbbfoghaaGreatDoor.Ex
