/- What the laws lean on, part 2. -/
import Derived.BigQuiet
import Derived.Deep.LoopGhost
import Derived.Deep.QuietTactic
import Derived.Deep.RegionHeld3
import Derived.Laws.Externs
import Derived.Lib.Hide
import Derived.Outline
import Derived.StillTailTactics
import Derived.WalkKit
import Derived.WalkLawsBesides
import Derived.WalkSpells
import Derived.Test.YtdgdmicbbfoghaaGreatDoorProg
set_option linter.unusedVariables false
set_option linter.unusedSimpArgs false
set_option maxRecDepth 100000
namespace Go.Proofs.YtdgdmicbbfoghaaGreatDoor.Mat
def val (m:Nat):List Nat->Nat
 | []=>0
 | x :: xs=>x+m*val m xs
def Dig (m:Nat) (xs:List Nat):Prop:=∀ x ∈ xs,x<m
def Top (xs:List Nat):Prop:=∀ x,xs.getLast?=some x->x≠0
theorem O6 (m:Nat) (xs ys:List Nat):val m (xs++ys)=val m xs+m^xs.length*val m ys:=by
 induction xs with
 | nil=>simp [val]
 | cons x xs ih=>simp only [List.cons_append,val,ih,List.length_cons];grind
theorem F8 (m:Nat) (xs:List Nat) (y:Nat):val m (xs++[y])=val m xs+m^xs.length*y:=by
 rw [O6];simp [val]
theorem S1 (m:Nat) (xs:List Nat) (h:Dig m xs):val m xs<m^xs.length:=by
 induction xs with
 | nil=>simp [val]
 | cons x xs ih=>
   have h1:=ih (fun y hy=>h y (List.mem_cons_of_mem _ hy))
   have h2:x<m:=h x (List.mem_cons_self ..)
   have h3:m*(val m xs+1)<=m*m^xs.length:=Nat.mul_le_mul_left m h1
   simp only [val,List.length_cons]
   grind
theorem Dig.nil (m:Nat):Dig m []:=fun _ h=>by cases h
theorem Dig.cons {m x:Nat} {xs:List Nat} (hx:x<m) (h:Dig m xs):Dig m (x :: xs):=by
 intro y hy;rcases List.mem_cons.1 hy with rfl | hy;exact hx;exact h y hy
theorem Dig.append {m:Nat} {xs ys:List Nat} (h:Dig m xs) (k:Dig m ys):Dig m (xs++ys):=by
 intro y hy;rcases List.mem_append.1 hy with hy | hy;exact h y hy;exact k y hy
theorem Dig.snoc {m y:Nat} {xs:List Nat} (h:Dig m xs) (hy:y<m):Dig m (xs++[y]):=h.append (Dig.cons hy (Dig.nil m))
theorem Dig.take {m:Nat} {xs:List Nat} (h:Dig m xs) (k:Nat):Dig m (xs.take k):=fun y hy=>h y (List.mem_of_mem_take hy)
theorem Dig.drop {m:Nat} {xs:List Nat} (h:Dig m xs) (k:Nat):Dig m (xs.drop k):=fun y hy=>h y (List.mem_of_mem_drop hy)
theorem Dig.get {m:Nat} {xs:List Nat} (h:Dig m xs) (k:Nat) (hk:k<xs.length):xs[k]<m:=h _ (List.getElem_mem hk)
theorem Dig.getD {m:Nat} {xs:List Nat} (h:Dig m xs) (hm : 0<m) (k:Nat):xs.getD k 0<m:=by
 rw [List.getD_eq_getElem?_getD]
 cases e:xs[k]? with
 | none=>simpa using hm
 | some v=>simpa using h v (List.mem_of_getElem? e)
theorem Dig.replicate {m:Nat} (hm : 0<m) (k:Nat):Dig m (List.replicate k 0):=fun y hy=>by rw [(List.mem_replicate.1 hy).2];exact hm
theorem gS (m k:Nat):val m (List.replicate k 0)=0:=by
 induction k with
 | zero=>rfl
 | succ k ih=>simp [List.replicate_succ,val,ih]
theorem C0 (m:Nat) (xs:List Nat) (k:Nat) (hk:k<xs.length):val m (xs.take (k+1))=val m (xs.take k)+m^k*xs[k]:=by
 rw [List.take_succ_eq_append_getElem hk,F8,List.length_take,Nat.min_eq_left (by omega)]
theorem G8 (m:Nat) (xs:List Nat) (k:Nat) (hk:k<xs.length):val m (xs.take (k+1))=val m (xs.take k)+m^k*xs.getD k 0:=by
 rw [C0 m xs k hk];simp [List.getD_eq_getElem?_getD,hk]
theorem rO (m:Nat) (xs:List Nat) (k:Nat):val m xs=val m (xs.take k)+m^(xs.take k).length*val m (xs.drop k):=by
 rw [<- O6,List.take_append_drop]
theorem L4 (m:Nat) (xs:List Nat) (k:Nat) (hk:k<=xs.length):val m xs=val m (xs.take k)+m^k*val m (xs.drop k):=by
 have:=rO m xs k
 rwa [List.length_take,Nat.min_eq_left hk] at this
theorem kM (m:Nat) (xs:List Nat) (hx:xs≠[]) (ht:Top xs):m^(xs.length-1)<=val m xs:=by
 have e:=List.dropLast_concat_getLast hx
 have h:xs.getLast hx≠0:=ht _ (List.getLast?_eq_some_getLast hx)
 rw [<- e,F8]
 simp only [List.length_append,List.length_dropLast,List.length_cons,List.length_nil]
 have:m^(xs.length-1)*1<=m^(xs.length-1)*xs.getLast hx:=Nat.mul_le_mul_left _ (by omega)
 have e2:xs.length-1+(0+1)-1=xs.length-1:=by omega
 rw [e2];omega
theorem val_pos (m:Nat) (hm : 0<m) (xs:List Nat) (hx:xs≠[]) (ht:Top xs) : 0<val m xs:=
 Nat.lt_of_lt_of_le (Nat.pow_pos hm) (kM m xs hx ht)
theorem R8 (m:Nat) (hm : 0<m) (xs:List Nat) (ht:Top xs):val m xs=0 ↔ xs=[]:=by
 constructor
 · intro h
   refine Classical.byContradiction fun hx=>?_
   have:=val_pos m hm xs hx ht
   omega
 · rintro rfl;rfl
theorem J0 (m:Nat) (hm : 0<m) (xs ys:List Nat) (hd:Dig m xs) (ht:Top ys) (hl:xs.length<ys.length):val m xs<val m ys:=by
 have h1:=S1 m xs hd
 have h2:=kM m ys (by intro h;simp [h] at hl) ht
 have h3:m^xs.length<=m^(ys.length-1):=Nat.pow_le_pow_right hm (by omega)
 omega
theorem val_inj (m:Nat):∀ (xs ys:List Nat),Dig m xs->Dig m ys->xs.length=ys.length->val m xs=val m ys->xs=ys
 | [],[],_,_,_,_=>rfl
 | [],y :: ys,_,_,h,_=>by simp at h
 | x :: xs,[],_,_,h,_=>by simp at h
 | x :: xs,y :: ys,hx,hy,h,e=>by
   have a:x<m:=hx x (List.mem_cons_self ..)
   have b:y<m:=hy y (List.mem_cons_self ..)
   simp only [val] at e
   have e1:x=y:=by
    have:=congrArg (· % m) e
    simpa [Nat.mod_eq_of_lt a,Nat.mod_eq_of_lt b] using this
   subst e1
   have e2:val m xs=val m ys:=by
    have:m*val m xs=m*val m ys:=by omega
    exact Nat.eq_of_mul_eq_mul_left (by omega) this
   rw [val_inj m xs ys (fun z hz=>hx z (List.mem_cons_of_mem _ hz)) (fun z hz=>hy z (List.mem_cons_of_mem _ hz)) (by simpa using h) e2]
theorem val_uniq (m:Nat) (hm : 0<m) (xs ys:List Nat) (hx:Dig m xs) (hy:Dig m ys) (tx:Top xs) (ty:Top ys) (e:val m xs=val m ys):xs=ys:=by
 rcases Nat.lt_trichotomy xs.length ys.length with h | h | h
 · have:=J0 m hm xs ys hx ty h;omega
 · exact val_inj m xs ys hx hy h e
 · have:=J0 m hm ys xs hy tx h;omega
theorem sH (m:Nat) (xs ys:List Nat) (k:Nat) (hl:xs.length=ys.length) (hk:k<xs.length) (hx:Dig m xs) (hd:xs.drop (k+1)=ys.drop (k+1)) (hlt:xs[k]<ys[k]'(by omega)):val m xs<val m ys:=by
 have e1:=L4 m xs (k+1) (by omega)
 have e2:=L4 m ys (k+1) (by omega)
 rw [C0 m xs k hk] at e1
 rw [C0 m ys k (by omega)] at e2
 have h1:=S1 m (xs.take k) (hx.take k)
 rw [List.length_take,Nat.min_eq_left (by omega)] at h1
 have h2:m^k*(xs[k]+1)<=m^k*ys[k]'(by omega):=Nat.mul_le_mul_left _ hlt
 rw [hd] at e1
 rw [Nat.mul_add] at h2
 omega
theorem carry_step (m k v x y c s:Nat) (h:v+c*m^k=s):v+m^k*((x+y+c)%m)+(x+y+c) / m*m^(k+1)=s+m^k*x+m^k*y:=by
 have e:=Nat.mod_add_div (x+y+c) m
 generalize (x+y+c)%m=r at *
 generalize (x+y+c) / m=q at *
 have:m^k*(r+m*q)=m^k*(x+y+c):=by rw [e]
 rw [Nat.pow_succ]
 grind
theorem borrow_step (m k v x y c s t:Nat) (hx:x<m) (hy:y<m) (hc:c<=1) (h:v+t=s+c*m^k) :
 v+m^k*((x+m-y-c)%m)+(t+m^k*y)=s+m^k*x+(if x<y+c then 1 else 0)*m^(k+1):=by
 have e:(x+m-y-c)%m+y+c=x+(if x<y+c then 1 else 0)*m:=by
  split
  · rw [Nat.mod_eq_of_lt (by omega)];omega
  · have:x+m-y-c=(x-y-c)+m:=by omega
    rw [this,Nat.add_mod_right,Nat.mod_eq_of_lt (by omega)];omega
 generalize (x+m-y-c)%m=r at *
 generalize (if x<y+c then 1 else 0)=q at *
 have:m^k*(r+y+c)=m^k*(x+q*m):=by rw [e]
 rw [Nat.pow_succ]
 grind
end Go.Proofs.YtdgdmicbbfoghaaGreatDoor.Mat
namespace Go.Proofs.YtdgdmicbbfoghaaGreatDoor
open Go.RowKit Mat
def B:Nat:=18446744073709551616
theorem D6 : 0<B:=by unfold B;omega
def At (cs:Array Value) (off:Nat) (xs:List Nat):Prop:=∀ i (h:i<xs.length),cs[off+i]?=some (.int .u64 (xs[i]:Int))
def Put (cs:Array Value) (off:Nat):List Nat->Array Value
 | []=>cs
 | y :: ys=>Put (cs.setIfInBounds off (.int .u64 (y:Int))) (off+1) ys
theorem P3 (ys:List Nat):∀ (cs:Array Value) (off y:Nat),Put cs off (ys++[y])=(Put cs off ys).setIfInBounds (off+ys.length) (.int .u64 (y:Int)):=by
 induction ys with
 | nil=>intro cs off y;rfl
 | cons z ys ih=>intro cs off y;show Put _ _ (ys++[y])=_;rw [ih];simp only [Put,List.length_cons];congr 1;omega
theorem dQ (ys:List Nat):∀ (cs:Array Value) (off:Nat),(Put cs off ys).size=cs.size:=by
 induction ys with
 | nil=>intro cs off;rfl
 | cons z ys ih=>intro cs off;show (Put _ _ ys).size=_;rw [ih];simp
theorem J6 (ys:List Nat):∀ (cs:Array Value) (off j:Nat),j<off\/off+ys.length<=j->(Put cs off ys)[j]?=cs[j]?:=by
 induction ys with
 | nil=>intro cs off j _;rfl
 | cons z ys ih=>
   intro cs off j h
   simp only [List.length_cons] at h
   show (Put _ _ ys)[j]?=_
   rw [ih _ _ _ (by omega),Array.getElem?_setIfInBounds_ne (by omega)]
theorem iR (ys:List Nat):∀ (cs:Array Value) (off:Nat),off+ys.length<=cs.size->At (Put cs off ys) off ys:=by
 induction ys with
 | nil=>intro cs off _ i h;simp at h
 | cons z ys ih=>
   intro cs off h i hi
   simp only [List.length_cons] at h hi
   show (Put _ _ ys)[_]?=_
   cases i with
   | zero=>
     rw [J6 _ _ _ _ (by omega)]
     simp only [Nat.add_zero,List.getElem_cons_zero]
     rw [Array.getElem?_setIfInBounds_self_of_lt (by omega)]
   | succ i=>
     have:=ih (cs.setIfInBounds off (.int .u64 (z:Int))) (off+1) (by simp;omega) i (by omega)
     rw [show off+(i+1)=off+1+i from by omega]
     simpa using this
theorem At.nil (cs:Array Value) (off:Nat):At cs off []:=fun _ h=>by simp at h
theorem At.get {cs:Array Value} {off:Nat} {xs:List Nat} (h:At cs off xs) (i:Nat) (hi:i<xs.length):cs[off+i]?=some (.int .u64 (xs[i]:Int)):=h i hi
theorem At.take {cs:Array Value} {off:Nat} {xs:List Nat} (h:At cs off xs) (k:Nat):At cs off (xs.take k):=by
 intro i hi
 rw [List.length_take] at hi
 rw [h i (by omega),List.getElem_take]
theorem At.drop {cs:Array Value} {off:Nat} {xs:List Nat} (h:At cs off xs) (k:Nat):At cs (off+k) (xs.drop k):=by
 intro i hi
 rw [List.length_drop] at hi
 rw [Nat.add_assoc,h (k+i) (by omega),List.getElem_drop]
theorem At.append {cs:Array Value} {off:Nat} {xs ys:List Nat} (h:At cs off xs) (k:At cs (off+xs.length) ys):At cs off (xs++ys):=by
 intro i hi
 rw [List.length_append] at hi
 by_cases hx:i<xs.length
 · rw [h i hx,List.getElem_append_left hx]
 · have:=k (i-xs.length) (by omega)
   rw [show off+xs.length+(i-xs.length)=off+i from by omega] at this
   rw [this,List.getElem_append_right (by omega)]
theorem At.le {cs:Array Value} {off:Nat} {xs:List Nat} (h:At cs off xs):xs=[]\/off+xs.length<=cs.size:=by
 cases e:xs with
 | nil=>exact Or.inl rfl
 | cons x t=>
   right
   have:=h (xs.length-1) (by simp [e])
   have hl:=(Array.getElem?_eq_some_iff.1 this).1
   simp [e] at hl ⊢;omega
theorem At.put_out {cs:Array Value} {off o:Nat} {xs ys:List Nat} (h:At cs off xs) (hd:off+xs.length<=o\/o+ys.length<=off):At (Put cs o ys) off xs:=by
 intro i hi
 rw [J6 _ _ _ _ (by omega),h i hi]
def Blk (w:World) (b:Nat) (cs:Array Value):Prop:=w.heap[b]?=some (.cells cs 91 (0,0))
theorem Blk.cell {w:World} {b:Nat} {cs:Array Value} (h:Blk w b cs) (o:Nat):w.cell? ⟨b,o,none⟩=cs[o]?:=by
 unfold Blk at h;simp [World.cell?,h]
theorem Blk.frozen {w:World} {b:Nat} {cs:Array Value} (h:Blk w b cs) (o:Nat):w.frozen? ⟨b,o,none⟩=false:=by
 unfold Blk at h;simp [World.frozen?,h]
theorem Blk.lt {w:World} {b:Nat} {cs:Array Value} (h:Blk w b cs):b<w.heap.size:=(Array.getElem?_eq_some_iff.1 h).1
theorem Blk.at {w:World} {b off:Nat} {cs:Array Value} {xs:List Nat} (h:Blk w b cs) (k:At cs off xs) (i:Nat) (hi:i<xs.length):w.cell? ⟨b,off+i,none⟩=some (.int .u64 (xs[i]:Int)):=by
 rw [h.cell,k i hi]
theorem Blk.setCell {w:World} {b:Nat} {cs:Array Value} (h:Blk w b cs) (o:Nat) (v:Value):Blk (w.setCell ⟨b,o,none⟩ v) b (cs.setIfInBounds o v):=by
 unfold Blk at *
 simp [World.setCell,Array.getElem?_modify,h]
theorem Blk.kept {w w':World} {b:Nat} {cs:Array Value} {row:Option Nat} (h:Blk w b cs) (hg:w.grownBy w' row) (hr:some b≠row):Blk w' b cs:=(hg.block b h.lt hr).trans h
theorem Blk.alloc {w:World} {b:Nat} {cs:Array Value} (h:Blk w b cs) (o:Obj):Blk (w.alloc o) b cs:=(Below.heap_alloc w o b h.lt).trans h
theorem Blk.drew {w:World} {b:Nat} {cs:Array Value} (h:Blk w b cs):Blk w.drew b cs:=h
theorem A9 (w:World) (row:Option Nat):w.grownBy w row:=⟨rfl,rfl,rfl,Nat.le_refl _,fun _ _ _=>rfl⟩
theorem A2 {a b c:World} {row:Option Nat} (h:a.grownBy b row) (k:b.grownBy c row):a.grownBy c row:=
 ⟨k.os.trans h.os,k.tape.trans h.tape,k.output.trans h.output,Nat.le_trans h.size k.size,fun i hi hr=>(k.block i (Nat.lt_of_lt_of_le hi h.size) hr).trans (h.block i hi hr)⟩
theorem B1 {a b c:World} {row:Option Nat} {g:Nat} (h:a.grownBy b row) (k:b.grownBy c (some g)) (hg:a.heap.size<=g):a.grownBy c row:=
 ⟨k.os.trans h.os,k.tape.trans h.tape,k.output.trans h.output,Nat.le_trans h.size k.size,fun i hi hr=>(k.block i (Nat.lt_of_lt_of_le hi h.size) (by intro e;cases e;omega)).trans (h.block i hi hr)⟩
theorem grown_any {a b:World} {row:Option Nat} (h:a.grownBy b none):a.grownBy b row:=⟨h.os,h.tape,h.output,h.size,fun i hi _=>h.block i hi (by simp)⟩
theorem A8 {a b:World} {row:Option Nat} (h:a.grownBy b row) (o:Obj):a.grownBy (b.alloc o) row:=A2 h (World.grownBy_alloc b o row)
theorem B2 {a b:World} {g:Nat} (h:a.grownBy b (some g)) (o:Nat) (v:Value):a.grownBy (b.setCell ⟨g,o,none⟩ v) (some g):=
 A2 h ⟨rfl,rfl,rfl,by simp [World.setCell],fun i _ hr=>Below.heap_setCell _ _ _ _ (by intro e;exact hr (by rw [e]))⟩
theorem C9 {a b:World} {row:Option Nat} (h:a.grownBy b row):a.grownBy b.drew row:=⟨h.os,h.tape,h.output,h.size,h.block⟩
theorem D4 (w:World) (n:Nat) (row:Option Nat):w.grownBy (w.drewN n) row:=⟨rfl,rfl,rfl,Nat.le_refl _,fun _ _ _=>rfl⟩
def E7 (x y c:Nat):Nat:=(x+y+c)%B
def G6 (x y c:Nat):Nat:=(x+y+c) / B
def S2 (x y c:Nat):Nat:=(x+B-y-c)%B
def aA (x y c:Nat):Nat:=if x<y+c then 1 else 0
theorem eO (x y c:Nat):E7 x y c<B:=Nat.mod_lt _ D6
theorem addHi_le {x y c:Nat} (hx:x<B) (hy:y<B) (hc:c<=1):G6 x y c<=1:=by
 unfold G6;unfold B at *;omega
theorem iY (x y c:Nat):S2 x y c<B:=Nat.mod_lt _ D6
theorem iZ (x y c:Nat):aA x y c<=1:=by unfold aA;split<;>omega
def sub64Row:Array Value->Sem Value:=fun args=>do
 let (x, y, b) ← Extern.MathBitsCarry.three "Sub64" args
 pure (Extern.MathBitsCarry.pair ((x+Extern.MathBitsCarry.m64-y-b)%Extern.MathBitsCarry.m64) (if x<y+b then 1 else 0))
theorem uT {P:Program} (x y b:Nat) (hb:b<=1) (w:World) :
 (sub64Row #[.int .u64 x,.int .u64 y,.int .u64 b]).run P w = .ok (.tuple #[.int .u64 (S2 x y b:Int),.int .u64 (aA x y b:Int)]) w:=by
 have:b=0\/b=1:=by omega
 rcases this with rfl | rfl<;>rfl
theorem tY (x y c:Nat) (hc:c<=1) (w:World) :
 (callFunc 165 #[.int .u64 (x:Int),.int .u64 (y:Int),.int .u64 (c:Int)]).run Tryz.prog w = .ok (.value (.tuple #[.int .u64 (E7 x y c:Int),.int .u64 (G6 x y c:Int)])) w:=by
 rw [run_callFunc_extern Tryz.func165 (by kernel_rfl) (by kernel_rfl) (by kernel_rfl) (e:=add64Entry) (by kernel_rfl),run_add64 x y c (by omega) (by omega) (by omega) (by omega)]
 simp only [Result.andThen,E7,G6,B]
 congr 5
theorem sub64 (x y c:Nat) (hc:c<=1) (w:World) :
 (callFunc 142 #[.int .u64 (x:Int),.int .u64 (y:Int),.int .u64 (c:Int)]).run Tryz.prog w = .ok (.value (.tuple #[.int .u64 (S2 x y c:Int),.int .u64 (aA x y c:Int)])) w:=by
 rw [run_callFunc_extern Tryz.func142 (by kernel_rfl) (by kernel_rfl) (by kernel_rfl) (e:=sub64Row) (by kernel_rfl),uT x y c hc]
 rfl
def Rd (w:World) (sa:Option Addr) (xs:List Nat) (g:Nat):Prop:=xs=[] \/ ∃ (b off:Nat) (cs:Array Value),sa=some ⟨b,off,none⟩/\b≠g/\Blk w b cs/\At cs off xs
theorem Rd.get {w:World} {sa:Option Addr} {xs:List Nat} {g:Nat} (h:Rd w sa xs g) (k:Nat) (hk:k<xs.length):∃ (b off:Nat) (cs:Array Value),sa=some ⟨b,off,none⟩/\b≠g/\Blk w b cs/\At cs off xs:=by
 rcases h with h | h
 · rw [h] at hk;simp at hk
 · exact h
structure tZ (cs cs':Array Value) (off:Nat) (zs:List Nat):Prop where
 size:cs'.size=cs.size
 out:∀ j,j<off\/off+zs.length<=j->cs'[j]?=cs[j]?
 lies:At cs' off zs
theorem sum_step (k v x y c s:Nat) (h:v+c*B^k=s):v+B^k*E7 x y c+G6 x y c*B^(k+1)=s+B^k*x+B^k*y:=carry_step B k v x y c s h
def wI (w:World) (b off:Nat) (xs ys:List Nat) (cs:Array Value) (e:Ending) (w':World):Prop:=
 ∃ (c:Nat) (zs:List Nat) (cs':Array Value),e = .returned (.int .u64 (c:Int))/\Blk w' b cs'/\tZ cs cs' off zs/\w.grownBy w' (some b)/\zs.length=xs.length/\Dig B zs/\c<=1/\val B zs+c*B^xs.length=val B xs+val B ys
set_option maxHeartbeats 1000000 in
theorem addTo_any (w:World) (b off cap:Nat) (xs:List Nat) (cs:Array Value) (sa:Option Addr) (cap2:Nat) (ys:List Nat)
 (hb:Blk w b cs) (hx:At cs off xs) (hs:Rd w sa ys b) (hl:ys.length<=xs.length) (hm:xs.length<=1099511627776) (dx:Dig B xs) (dy:Dig B ys) :
 Calls Tryz.prog 148 #[.slice (some ⟨b,off,none⟩) xs.length cap,.slice sa ys.length cap2] w (wI w b off xs ys cs):=by
 generalize hn:xs.length=n at *
 generalize hmm:ys.length=m at *
 have Hn:=Lib.hid hn
 have Hm:=Lib.hid hmm
 clear hn hmm
 go_enter Tryz.func148,Tryz.ntmps148
 go_wp2_with fail
 go_loopw [5,11] (fun c i wr=>∃ (k cc:Nat) (zs:List Nat),k<=m/\i = .int .i64 k/\c = .int .u64 cc/\cc<=1/\Hid (zs.length=k)/\Dig B zs/\Blk wr b (Put cs off zs)/\w.grownBy wr (some b)/\Hid (val B zs+cc*B^k=val B (xs.take k)+val B (ys.take k)))
  (fun _ i _=>m-(intOf i).toNat)
 case atStart=>exact ⟨0,0,[],Nat.zero_le _,rfl,rfl,Nat.zero_le _,rfl,Dig.nil _,hb,A9 _ _,by show _=_;simp [val]⟩
 case round=>
  obtain ⟨k,cc,zs,hk,rfl,rfl,hc,hzl,hzd,hbk,hg,hv⟩:=hrel
  by_cases hlt:k<m
  · obtain ⟨x,ex⟩:∃ x,xs[k]'(by rw [Hn.out];omega)=x:=⟨_,rfl⟩
    obtain ⟨y,ey⟩:∃ y,ys[k]'(by rw [Hm.out];omega)=y:=⟨_,rfl⟩
    obtain ⟨b2,off2,cs2,rfl,hne,h2,hy⟩:=hs.get k (by rw [Hm.out];omega)
    have cx:wr.cell? ⟨b,off+k,none⟩=some (.int .u64 (x:Int)):=by
     rw [hbk.cell,J6 _ _ _ _ (by rw [hzl.out];omega),hx k (by rw [Hn.out];omega),ex]
    have cy:wr.cell? ⟨b2,off2+k,none⟩=some (.int .u64 (y:Int)):=by
     rw [(h2.kept hg (by simpa using hne)).cell,hy k (by rw [Hm.out];omega),ey]
    have fx:wr.frozen? ⟨b,off+k,none⟩=false:=hbk.frozen _
    have ha:=fun w=>tY x y cc hc w
    go_wp2_with fail
    clear ha cx cy fx
    go_roundw
    case rel=>
     refine ⟨k+1,G6 x y cc,zs++[E7 x y cc],by omega,by go_num,rfl,addHi_le (ex ▸ dx.get k _) (ey ▸ dy.get k _) hc, ?_,hzd.snoc (eO _ _ _), ?_,B2 hg _ _, ?_⟩
     · show _=_;rw [List.length_append,hzl.out];rfl
     · rw [P3,hzl.out];exact hbk.setCell _ _
     · show _=_
       rw [F8,hzl.out,sum_step k _ x y cc _ hv.out,C0 B xs k (by rw [Hn.out];omega),C0 B ys k (by rw [Hm.out];omega),ex,ey];omega
    case measure=>simp [intOf];omega
  · obtain rfl:k=m:=by omega
    go_wp2_with fail
    have hrest:Hid (val B (ys.take k)=val B ys):=by show _=_;rw [<- Hm.out,List.take_length]
    go_loopw [5,8] (fun c i w2=>∃ (j cc:Nat) (zs:List Nat),k<=j/\j<=n/\i = .int .i64 j/\c = .int .u64 cc/\cc<=1/\Hid (zs.length=j)/\Dig B zs/\Blk w2 b (Put cs off zs)/\w.grownBy w2 (some b)/\Hid (val B zs+cc*B^j=val B (xs.take j)+val B ys))
     (fun _ i _=>n-(intOf i).toNat)
    case atStart=>exact ⟨k,cc,zs,Nat.le_refl _,hl,rfl,rfl,hc,hzl,hzd,hbk,hg,by show _=_;rw [hv.out,hrest.out]⟩
    case round=>
     clear hzl hzd hbk hg hv
     obtain ⟨j,c2,zs,hkj,hj,rfl,rfl,hc2,hzl,hzd,hbk,hg,hv⟩:=hrel
     by_cases hgo:j<n/\0<c2
     · obtain ⟨hlt,hpos⟩:=hgo
       obtain rfl:c2=1:=by omega
       obtain ⟨x,ex⟩:∃ x,xs[j]'(by rw [Hn.out];omega)=x:=⟨_,rfl⟩
       have cx:wr.cell? ⟨b,off+j,none⟩=some (.int .u64 (x:Int)):=by
        rw [hbk.cell,J6 _ _ _ _ (by rw [hzl.out];omega),hx j (by rw [Hn.out];omega),ex]
       have fx:wr.frozen? ⟨b,off+j,none⟩=false:=hbk.frozen _
       have ha:∀ w,(callFunc 165 #[.int .u64 (x:Int),.int .u64 0,.int .u64 1]).run Tryz.prog w = .ok (.value (.tuple #[.int .u64 (E7 x 0 1:Int),.int .u64 (G6 x 0 1:Int)])) w:=fun w=>tY x 0 1 (Nat.le_refl _) w
       go_wp2_with fail
       clear ha cx fx
       go_roundw
       case rel=>
        refine ⟨j+1,G6 x 0 1,zs++[E7 x 0 1],by omega,by omega,by go_num,rfl,addHi_le (ex ▸ dx.get j _) D6 (Nat.le_refl _), ?_,hzd.snoc (eO _ _ _), ?_,B2 hg _ _, ?_⟩
        · show _=_;rw [List.length_append,hzl.out];rfl
        · rw [P3,hzl.out];exact hbk.setCell _ _
        · show _=_
          rw [F8,hzl.out,sum_step j _ x 0 1 _ hv.out,C0 B xs j (by rw [Hn.out];omega),ex];omega
       case measure=>simp [intOf];omega
     · have hfin:wI w b off xs ys cs (.returned (.int .u64 (c2:Int))) wr:=by
        have hz:=L4 B xs j (by rw [Hn.out];omega)
        have hlen:(zs++xs.drop j).length=n:=by rw [List.length_append,hzl.out,List.length_drop,Hn.out];omega
        have hcs:zs=[]\/off+j<=cs.size:=by
         rcases hx.le with h | h
         · left;rw [<- List.length_eq_zero_iff,hzl.out];rw [<- Hn.out,h] at hj;simpa using hj
         · right;rw [Hn.out] at h;omega
        refine ⟨c2,zs++xs.drop j,Put cs off zs,rfl,hbk,⟨dQ _ _ _,fun i hi=>J6 _ _ _ _ (by rw [hlen] at hi;rw [hzl.out];omega), ?_⟩,hg,hlen.trans Hn.out.symm,hzd.append (dx.drop j),hc2, ?_⟩
        · refine At.append ?_ ?_
          · rcases hcs with h | h
            · rw [h];exact At.nil _ _
            · exact iR _ _ _ (by rw [hzl.out];exact h)
          · rw [hzl.out];exact (hx.drop j).put_out (by rw [hzl.out];omega)
        · rw [O6,hzl.out,Hn.out]
          have hv:=hv.out
          rw [hz]
          by_cases h0:c2=0
          · subst h0;simp only [Nat.zero_mul,Nat.add_zero] at hv ⊢;omega
          · obtain rfl:j=n:=by omega
            have:xs.drop j=[]:=List.drop_eq_nil_of_le (by rw [Hn.out];omega)
            rw [this];simp only [val,Nat.mul_zero,Nat.add_zero];omega
       have HF:=Lib.hid hfin
       clear hfin hzl hzd hbk hg hv hrest
       by_cases hjn:j<n
       · obtain rfl:c2=0:=by omega
         go_wp2_with fail
         go_ret
         exact HF.out
       · obtain rfl:j=n:=by omega
         go_wp2_with fail
         go_ret
         exact HF.out
theorem dif_step (k v x y c s t:Nat) (hx:x<B) (hy:y<B) (hc:c<=1) (h:v+t=s+c*B^k):v+B^k*S2 x y c+(t+B^k*y)=s+B^k*x+aA x y c*B^(k+1):=borrow_step B k v x y c s t hx hy hc h
def rA (w:World) (b off:Nat) (xs ys:List Nat) (cs:Array Value) (e:Ending) (w':World):Prop:=
 ∃ (zs:List Nat) (cs':Array Value),e = .returned (.tuple #[])/\Blk w' b cs'/\tZ cs cs' off zs/\w.grownBy w' (some b)/\zs.length=xs.length/\Dig B zs/\val B zs+val B ys=val B xs
set_option maxHeartbeats 1000000 in
theorem uK (w:World) (b off cap:Nat) (xs:List Nat) (cs:Array Value) (sa:Option Addr) (cap2:Nat) (ys:List Nat)
 (hb:Blk w b cs) (hx:At cs off xs) (hs:Rd w sa ys b) (hl:ys.length<=xs.length) (hm:xs.length<=1099511627776) (dx:Dig B xs) (dy:Dig B ys) (hle:val B ys<=val B xs) :
 Calls Tryz.prog 95 #[.slice (some ⟨b,off,none⟩) xs.length cap,.slice sa ys.length cap2] w (rA w b off xs ys cs):=by
 generalize hn:xs.length=n at *
 generalize hmm:ys.length=m at *
 have Hn:=Lib.hid hn
 have Hm:=Lib.hid hmm
 have Hle:=Lib.hid hle
 clear hn hmm hle
 go_enter Tryz.func95,Tryz.ntmps95
 go_wp2_with fail
 go_loopw [4,10] (fun c i wr=>∃ (k cc:Nat) (zs:List Nat),k<=m/\i = .int .i64 k/\c = .int .u64 cc/\cc<=1/\Hid (zs.length=k)/\Dig B zs/\Blk wr b (Put cs off zs)/\w.grownBy wr (some b)/\Hid (val B zs+val B (ys.take k)=val B (xs.take k)+cc*B^k))
  (fun _ i _=>m-(intOf i).toNat)
 case atStart=>exact ⟨0,0,[],Nat.zero_le _,rfl,rfl,Nat.zero_le _,rfl,Dig.nil _,hb,A9 _ _,by show _=_;simp [val]⟩
 case round=>
  obtain ⟨k,cc,zs,hk,rfl,rfl,hc,hzl,hzd,hbk,hg,hv⟩:=hrel
  by_cases hlt:k<m
  · obtain ⟨x,ex⟩:∃ x,xs[k]'(by rw [Hn.out];omega)=x:=⟨_,rfl⟩
    obtain ⟨y,ey⟩:∃ y,ys[k]'(by rw [Hm.out];omega)=y:=⟨_,rfl⟩
    obtain ⟨b2,off2,cs2,rfl,hne,h2,hy⟩:=hs.get k (by rw [Hm.out];omega)
    have cx:wr.cell? ⟨b,off+k,none⟩=some (.int .u64 (x:Int)):=by
     rw [hbk.cell,J6 _ _ _ _ (by rw [hzl.out];omega),hx k (by rw [Hn.out];omega),ex]
    have cy:wr.cell? ⟨b2,off2+k,none⟩=some (.int .u64 (y:Int)):=by
     rw [(h2.kept hg (by simpa using hne)).cell,hy k (by rw [Hm.out];omega),ey]
    have fx:wr.frozen? ⟨b,off+k,none⟩=false:=hbk.frozen _
    have ha:=fun w=>sub64 x y cc hc w
    go_wp2_with fail
    clear ha cx cy fx
    go_roundw
    case rel=>
     refine ⟨k+1,aA x y cc,zs++[S2 x y cc],by omega,by go_num,rfl,iZ _ _ _, ?_,hzd.snoc (iY _ _ _), ?_,B2 hg _ _, ?_⟩
     · show _=_;rw [List.length_append,hzl.out];rfl
     · rw [P3,hzl.out];exact hbk.setCell _ _
     · show _=_
       have hxB:x<B:=ex ▸ dx.get k _
       have hyB:y<B:=ey ▸ dy.get k _
       rw [F8,hzl.out,C0 B xs k (by rw [Hn.out];omega),C0 B ys k (by rw [Hm.out];omega),ex,ey]
       exact dif_step k _ x y cc _ _ hxB hyB hc hv.out
    case measure=>simp [intOf];omega
  · obtain rfl:k=m:=by omega
    go_wp2_with fail
    have hrest:Hid (val B (ys.take k)=val B ys):=by show _=_;rw [<- Hm.out,List.take_length]
    go_loopw [4,7] (fun c i w2=>∃ (j cc:Nat) (zs:List Nat),k<=j/\j<=n/\i = .int .i64 j/\c = .int .u64 cc/\cc<=1/\Hid (zs.length=j)/\Dig B zs/\Blk w2 b (Put cs off zs)/\w.grownBy w2 (some b)/\Hid (val B zs+val B ys=val B (xs.take j)+cc*B^j))
     (fun _ i _=>n-(intOf i).toNat)
    case atStart=>exact ⟨k,cc,zs,Nat.le_refl _,hl,rfl,rfl,hc,hzl,hzd,hbk,hg,by show _=_;rw [<- hv.out,hrest.out]⟩
    case round=>
     clear hzl hzd hbk hg hv
     obtain ⟨j,c2,zs,hkj,hj,rfl,rfl,hc2,hzl,hzd,hbk,hg,hv⟩:=hrel
     by_cases hpos : 0<c2
     · obtain rfl:c2=1:=by omega
       have hlt:j<n:=by
        refine Nat.lt_of_le_of_ne hj fun e=>?_
        subst e
        have h1:=hv.out
        have h2:=S1 B zs hzd
        have h3:=Hle.out
        rw [hzl.out] at h2
        rw [<- Hn.out,List.take_length,Hn.out] at h1
        omega
       obtain ⟨x,ex⟩:∃ x,xs[j]'(by rw [Hn.out];omega)=x:=⟨_,rfl⟩
       have cx:wr.cell? ⟨b,off+j,none⟩=some (.int .u64 (x:Int)):=by
        rw [hbk.cell,J6 _ _ _ _ (by rw [hzl.out];omega),hx j (by rw [Hn.out];omega),ex]
       have fx:wr.frozen? ⟨b,off+j,none⟩=false:=hbk.frozen _
       have ha:∀ w,(callFunc 142 #[.int .u64 (x:Int),.int .u64 0,.int .u64 1]).run Tryz.prog w = .ok (.value (.tuple #[.int .u64 (S2 x 0 1:Int),.int .u64 (aA x 0 1:Int)])) w:=fun w=>sub64 x 0 1 (Nat.le_refl _) w
       go_wp2_with fail
       clear ha cx fx
       go_roundw
       case rel=>
        refine ⟨j+1,aA x 0 1,zs++[S2 x 0 1],by omega,by omega,by go_num,rfl,iZ _ _ _, ?_,hzd.snoc (iY _ _ _), ?_,B2 hg _ _, ?_⟩
        · show _=_;rw [List.length_append,hzl.out];rfl
        · rw [P3,hzl.out];exact hbk.setCell _ _
        · show _=_
          have hxB:x<B:=ex ▸ dx.get j _
          have:=dif_step j _ x 0 1 _ _ hxB D6 (Nat.le_refl _) hv.out
          rw [F8,hzl.out,C0 B xs j (by rw [Hn.out];omega),ex]
          simpa using this
       case measure=>simp [intOf];omega
     · obtain rfl:c2=0:=by omega
       have hfin:rA w b off xs ys cs (.returned (.tuple #[])) wr:=by
        have hz:=L4 B xs j (by rw [Hn.out];omega)
        have hlen:(zs++xs.drop j).length=n:=by rw [List.length_append,hzl.out,List.length_drop,Hn.out];omega
        have hcs:zs=[]\/off+j<=cs.size:=by
         rcases hx.le with h | h
         · left;rw [<- List.length_eq_zero_iff,hzl.out];rw [<- Hn.out,h] at hj;simpa using hj
         · right;rw [Hn.out] at h;omega
        refine ⟨zs++xs.drop j,Put cs off zs,rfl,hbk,⟨dQ _ _ _,fun i hi=>J6 _ _ _ _ (by rw [hlen] at hi;rw [hzl.out];omega), ?_⟩,hg,hlen.trans Hn.out.symm,hzd.append (dx.drop j), ?_⟩
        · refine At.append ?_ ?_
          · rcases hcs with h | h
            · rw [h];exact At.nil _ _
            · exact iR _ _ _ (by rw [hzl.out];exact h)
          · rw [hzl.out];exact (hx.drop j).put_out (by rw [hzl.out];omega)
        · rw [O6,hzl.out]
          have hv:=hv.out
          rw [hz]
          simp only [Nat.zero_mul,Nat.add_zero] at hv
          omega
       have HF:=Lib.hid hfin
       clear hfin hzl hzd hbk hg hv hrest
       go_wp2_with fail
       go_end0
       exact HF.out
def K5 (a b:Nat):Int:=if a<b then -1 else if a=b then 0 else 1
theorem bX {a b:Nat} (h:a<b):K5 a b = -1:=by unfold K5;rw [if_pos h]
theorem gE {a b:Nat} (h:a=b):K5 a b=0:=by unfold K5;rw [if_neg (by omega),if_pos h]
theorem bZ {a b:Nat} (h:b<a):K5 a b=1:=by unfold K5;rw [if_neg (by omega),if_neg (by omega)]
def Rdo (w:World) (sa:Option Addr) (xs:List Nat):Prop:=xs=[] \/ ∃ (b off:Nat) (cs:Array Value),sa=some ⟨b,off,none⟩/\Blk w b cs/\At cs off xs
theorem Rdo.get {w:World} {sa:Option Addr} {xs:List Nat} (h:Rdo w sa xs) (k:Nat) (hk:k<xs.length):∃ (b off:Nat) (cs:Array Value),sa=some ⟨b,off,none⟩/\Blk w b cs/\At cs off xs:=by
 rcases h with h | h
 · rw [h] at hk;simp at hk
 · exact h
theorem Rdo.cell {w:World} {sa:Option Addr} {xs:List Nat} (h:Rdo w sa xs) (hx : 0<xs.length):∃ (b off:Nat),sa=some ⟨b,off,none⟩ /\ ∀ k (hk:k<xs.length),w.cell? ⟨b,off+k,none⟩=some (.int .u64 (xs[k]:Int)):=by
 obtain ⟨b,off,cs,e,h1,h2⟩:=h.get 0 hx
 exact ⟨b,off,e,fun k hk=>h1.at h2 k hk⟩
def rN (w:World) (a b:Nat) (e:Ending) (w':World):Prop:=e = .returned (.int .i64 (K5 a b)) /\ ∃ q,w'=w.drewN q
set_option maxHeartbeats 1000000 in
theorem vV (w:World) (sa sb:Option Addr) (ca cb n m:Nat) (hlt:n<m) (hn:n<=1099511627776) (hm:m<=1099511627776) :
 Calls Tryz.prog 114 #[.slice sa n ca,.slice sb m cb] w fun e w'=>e = .returned (.int .i64 (-1))/\w=w':=by
 have h0:((n:Int) != (m:Int))=true:=by rw [bne_iff_ne];omega
 go_enter Tryz.func114,Tryz.ntmps114
 go_wp2_with fail
 go_ret
 exact ⟨rfl,rfl⟩
set_option maxHeartbeats 1000000 in
theorem vU (w:World) (sa sb:Option Addr) (ca cb n m:Nat) (hlt:m<n) (hn:n<=1099511627776) (hm:m<=1099511627776) :
 Calls Tryz.prog 114 #[.slice sa n ca,.slice sb m cb] w fun e w'=>e = .returned (.int .i64 1)/\w=w':=by
 have h0:((n:Int) != (m:Int))=true:=by rw [bne_iff_ne];omega
 go_enter Tryz.func114,Tryz.ntmps114
 go_wp2_with fail
 go_ret
 exact ⟨rfl,rfl⟩
set_option maxHeartbeats 1000000 in
theorem vT (w:World) (sa sb:Option Addr) (ca cb:Nat) (xs ys:List Nat) (n:Nat) (hx:Rdo w sa xs) (hy:Rdo w sb ys) (hl:xs.length=n) (hl2:ys.length=n) (hn:n<=1099511627776) (dx:Dig B xs) (dy:Dig B ys) :
 Calls Tryz.prog 114 #[.slice sa n ca,.slice sb n cb] w (rN w (val B xs) (val B ys)):=by
 have Hx:=Lib.hid hl
 have Hy:=Lib.hid hl2
 clear hl hl2
 go_enter Tryz.func114,Tryz.ntmps114
 go_wp2_with fail
 go_loopw [5] (fun i wr=>∃ (k q:Nat),k<=n/\i = .int .i64 ((k:Int)-1)/\wr=w.drewN q/\Hid (xs.drop k=ys.drop k)) (fun i _=>(intOf i+1).toNat)
 case atStart=>exact ⟨n,0,Nat.le_refl _,rfl,rfl,by show _=_;rw [List.drop_eq_nil_of_le (by rw [Hx.out];omega),List.drop_eq_nil_of_le (by rw [Hy.out];omega)]⟩
 case round=>
  obtain ⟨k,q,hk,rfl,rfl,hd⟩:=hrel
  by_cases h0:k=0
  · subst h0
    go_wp2_with fail
    go_ret
    exact ⟨by rw [gE (by have:=hd.out;simp at this;rw [this])];rfl,q,rfl⟩
  · obtain ⟨j,rfl⟩:∃ j,k=j+1:=⟨k-1,by omega⟩
    clear h0
    obtain ⟨b1,o1,rfl,c1⟩:=hx.cell (by rw [Hx.out];omega)
    obtain ⟨b2,o2,rfl,c2⟩:=hy.cell (by rw [Hy.out];omega)
    have c1:=c1 j (by rw [Hx.out];omega)
    have c2:=c2 j (by rw [Hy.out];omega)
    obtain ⟨x,ex⟩:∃ x,xs[j]'(by rw [Hx.out];omega)=x:=⟨_,rfl⟩
    obtain ⟨y,ey⟩:∃ y,ys[j]'(by rw [Hy.out];omega)=y:=⟨_,rfl⟩
    rw [ex] at c1
    rw [ey] at c2
    have e1:((j+1:Nat):Int)-1=(j:Int):=by omega
    rw [e1]
    clear e1
    have EX:=Lib.hid ex
    have EY:=Lib.hid ey
    clear ex ey
    by_cases hxy:x=y
    · have t:((x:Int) != (y:Int))=false:=by rw [bne_eq_false_iff_eq];omega
      go_wp2_with fail
      go_quiet (fail)
      go_wp2_with fail
      go_roundw
      case rel=>exact ⟨j,_,by omega,by go_num,rfl,by
       show _=_;rw [List.drop_eq_getElem_cons (by rw [Hx.out];omega),List.drop_eq_getElem_cons (l:=ys) (by rw [Hy.out];omega),EX.out,EY.out,hxy,hd.out]⟩
      case measure=>simp [intOf]
    · have t:((x:Int) != (y:Int))=true:=by rw [bne_iff_ne];omega
      by_cases hlt:x<y
      · have hv:=sH B xs ys j (by rw [Hx.out,Hy.out]) (by rw [Hx.out];omega) dx hd.out (by rw [EX.out,EY.out];exact hlt)
        have hC:=Lib.hid (bX hv)
        clear hv
        go_wp2_with fail
        go_quiet (fail)
        go_wp2_with fail
        go_quiet (fail)
        go_wp2_with fail
        go_ret
        exact ⟨by rw [hC.out];rfl,_,by rw [World.drewN_drewN,World.drewN_drewN]⟩
      · have hlt':y<x:=by omega
        have hv:=sH B ys xs j (by rw [Hx.out,Hy.out]) (by rw [Hy.out];omega) dy hd.out.symm (by rw [EX.out,EY.out];exact hlt')
        have hC:=Lib.hid (bZ hv)
        clear hv
        go_wp2_with fail
        go_quiet (fail)
        go_wp2_with fail
        go_quiet (fail)
        go_wp2_with fail
        go_ret
        exact ⟨by rw [hC.out];rfl,_,by rw [World.drewN_drewN,World.drewN_drewN]⟩
def Sa (sa:Option Addr) (k:Nat):Option Addr:=if k=0 then none else sa
theorem eS {sa:Option Addr} {k:Nat} (h : 0<k):Sa sa k=sa:=by unfold Sa;rw [if_neg (by omega)]
def CutTo (w:World) (sa:Option Addr) (xs:List Nat) (e:Ending) (w':World):Prop:=
 ∃ k,k<=xs.length/\e = .returned (.slice (Sa sa k) k k)/\Top (xs.take k)/\val B (xs.take k)=val B xs/\w=w'
structure Lm (w:World) (sa:Option Addr) (xs:List Nat):Prop where
 rd:Rdo w sa xs
 nil:xs=[]->sa=none
 top:Top xs
 dig:Dig B xs
def NatV (w:World) (v:Value) (n:Nat):Prop:=∃ (sa:Option Addr) (xs:List Nat),v = .agg #[.slice sa xs.length xs.length]/\Lm w sa xs/\val B xs=n
theorem Rdo.kept {w w':World} {sa:Option Addr} {xs:List Nat} (h:Rdo w sa xs) (hg:w.grownBy w' none):Rdo w' sa xs:=by
 rcases h with h | ⟨b,off,cs,e,h1,h2⟩
 · exact Or.inl h
 · exact Or.inr ⟨b,off,cs,e,h1.kept hg (by simp),h2⟩
theorem Rdo.take {w:World} {sa:Option Addr} {xs:List Nat} (h:Rdo w sa xs) (k:Nat):Rdo w (Sa sa k) (xs.take k):=by
 by_cases hk:k=0
 · subst hk;exact Or.inl rfl
 · rw [eS (by omega)]
   rcases h with h | ⟨b,off,cs,e,h1,h2⟩
   · exact Or.inl (by rw [h];simp)
   · exact Or.inr ⟨b,off,cs,e,h1,h2.take k⟩
theorem Lm.kept {w w':World} {sa:Option Addr} {xs:List Nat} (h:Lm w sa xs) (hg:w.grownBy w' none):Lm w' sa xs:=⟨h.rd.kept hg,h.nil,h.top,h.dig⟩
theorem NatV.kept {w w':World} {v:Value} {n:Nat} (h:NatV w v n) (hg:w.grownBy w' none):NatV w' v n:=by
 obtain ⟨sa,xs,e,h1,h2⟩:=h
 exact ⟨sa,xs,e,h1.kept hg,h2⟩
theorem NatV.drewN {w:World} {v:Value} {n:Nat} (h:NatV w v n) (q:Nat):NatV (w.drewN q) v n:=h.kept (D4 _ _ _)
theorem Rdo.beside {w:World} {sa:Option Addr} {xs:List Nat} (h:Rdo w sa xs) {g:Nat} (hg:w.heap.size<=g):Rd w sa xs g:=by
 rcases h with h | ⟨b,off,cs,e,h1,h2⟩
 · exact Or.inl h
 · exact Or.inr ⟨b,off,cs,e,by have:=h1.lt;omega,h1,h2⟩
theorem Rd.kept {w w':World} {sa:Option Addr} {xs:List Nat} {g:Nat} (h:Rd w sa xs g) (hg:w.grownBy w' (some g)):Rd w' sa xs g:=by
 rcases h with h | ⟨b,off,cs,e,hne,h1,h2⟩
 · exact Or.inl h
 · exact Or.inr ⟨b,off,cs,e,hne,h1.kept hg (by simpa using hne),h2⟩
theorem Rd.kept_none {w w':World} {sa:Option Addr} {xs:List Nat} {g:Nat} (h:Rd w sa xs g) (hg:w.grownBy w' none):Rd w' sa xs g:=h.kept (grown_any hg)
theorem Rdo.of {w:World} {b off:Nat} {cs:Array Value} {xs:List Nat} (h:Blk w b cs) (k:At cs off xs):Rdo w (some ⟨b,off,none⟩) xs:=Or.inr ⟨b,off,cs,rfl,h,k⟩
def RetNat (w:World) (n:Nat) (e:Ending) (w':World):Prop:=∃ v,e = .returned v/\NatV w' v n/\w.grownBy w' none
theorem top_take (xs:List Nat) (k:Nat) (hk:k<xs.length) (h:xs[k]≠0):Top (xs.take (k+1)):=by
 intro x hx
 rw [List.take_succ_eq_append_getElem hk,List.getLast?_append] at hx
 simp at hx
 rw [<- hx];exact h
set_option maxHeartbeats 1000000 in
theorem cut_any (w:World) (sa:Option Addr) (cap:Nat) (xs:List Nat) (hx:Rdo w sa xs) (hn:xs.length<=1099511627776) (hcap:xs.length<=cap) :
 Calls Tryz.prog 112 #[.slice sa xs.length cap] w (CutTo w sa xs):=by
 generalize hl:xs.length=n at *
 have Hn:=Lib.hid hl
 clear hl
 go_enter Tryz.func112,Tryz.ntmps112
 go_wp2_with fail
 go_loopw [3] (fun i wr=>∃ (k:Nat),k<=n/\i = .int .i64 k/\w=wr/\Hid (val B (xs.take k)=val B xs)) (fun i _=>(intOf i).toNat)
 case atStart=>exact ⟨n,Nat.le_refl _,rfl,rfl,by show _=_;rw [<- Hn.out,List.take_length]⟩
 case round=>
  obtain ⟨k,hk,rfl,rfl,hv⟩:=hrel
  by_cases h0:k=0
  · subst h0
    have HF:Hid (CutTo w sa xs (.returned (.slice (Sa sa 0) 0 0)) w):=⟨0,Nat.zero_le _,rfl,by intro x hx;simp at hx,hv.out,rfl⟩
    go_wp2_with fail
    go_ret
    exact HF
  · obtain ⟨j,rfl⟩:∃ j,k=j+1:=⟨k-1,by omega⟩
    clear h0
    obtain ⟨b1,o1,rfl,c1⟩:=hx.cell (by rw [Hn.out];omega)
    have c1:=c1 j (by rw [Hn.out];omega)
    obtain ⟨x,ex⟩:∃ x,xs[j]'(by rw [Hn.out];omega)=x:=⟨_,rfl⟩
    rw [ex] at c1
    have EX:=Lib.hid ex
    clear ex
    by_cases hz:x=0
    · subst hz
      go_wp2_with fail
      go_roundw
      case rel=>exact ⟨j,by omega,by go_num,by trivial,by show _=_;rw [<- hv.out,C0 B xs j (by rw [Hn.out];omega),EX.out];omega⟩
      case measure=>simp [intOf]
    · have t:((x:Int) == 0)=false:=beq_eq_false_iff_ne.2 (by omega)
      have HF:Hid (CutTo w (some ⟨b1,o1,none⟩) xs (.returned (.slice (some ⟨b1,o1,none⟩) (j+1) (j+1))) w):=
       ⟨j+1,by rw [Hn.out];omega,rfl,top_take xs j (by rw [Hn.out];omega) (by rw [EX.out];exact hz),hv.out,rfl⟩
      have t2:((j:Int)+1 == 0)=false:=beq_eq_false_iff_ne.2 (by omega)
      go_wp2_with fail
      go_ret
      exact HF
def RetOwn (w:World) (sa:Option Addr) (n:Nat) (e:Ending) (w':World):Prop:=
 ∃ (s:Option Addr) (zs:List Nat),e = .returned (.agg #[.slice s zs.length zs.length])/\Lm w' s zs/\val B zs=n/\(s=none\/s=sa)/\w.grownBy w' none
def RetFresh (w:World) (n:Nat) (e:Ending) (w':World):Prop:=
 ∃ (s:Option Addr) (zs:List Nat),e = .returned (.agg #[.slice s zs.length zs.length])/\Lm w' s zs/\val B zs=n/\(∀ ad,s=some ad->w.heap.size<=ad.block)/\w.grownBy w' none
theorem RetFresh.nat {w:World} {n:Nat} {e:Ending} {w':World} (h:RetFresh w n e w'):RetNat w n e w':=by
 obtain ⟨s,zs,e1,h1,h2,_,h3⟩:=h
 exact ⟨_,e1,⟨s,zs,rfl,h1,h2⟩,h3⟩
set_option maxHeartbeats 1000000 in
theorem own_own (w:World) (sa:Option Addr) (cap:Nat) (xs:List Nat) (hx:Rdo w sa xs) (hn:xs.length<=1099511627776) (hcap:xs.length<=cap) (dx:Dig B xs) :
 Calls Tryz.prog 97 #[.slice sa xs.length cap] w (RetOwn w sa (val B xs)):=by
 go_enter Tryz.func97,Tryz.ntmps97
 go_wp2_with fail
 refine (cut_any _ sa cap xs (hx.kept (World.grownBy_alloc _ _ _)) hn hcap).mono ?_
 rintro e w' ⟨k,hk,rfl,ht,hv,rfl⟩
 go_wp2_with fail
 refine bodyPost_ret (v := .agg #[.slice (Sa sa k) k k]) (by simp [results,Tryz.results97,go_sem]) rfl ?_
 have hlen:(xs.take k).length=k:=by rw [List.length_take];omega
 refine ⟨Sa sa k,xs.take k,by rw [hlen],⟨?_, ?_,ht,dx.take k⟩,hv, ?_, ?_⟩
 · exact (hx.take k).kept (by repeat (first | exact World.grownBy_alloc _ _ _ | exact A9 _ _ | refine A8 ?_ _))
 · intro h;rw [h] at hlen;simp at hlen;rw [<- hlen];rfl
 · unfold Sa;split
   · exact Or.inl rfl
   · exact Or.inr rfl
 · exact World.grownBy_alloc _ _ _
theorem own_any (w:World) (sa:Option Addr) (cap:Nat) (xs:List Nat) (hx:Rdo w sa xs) (hn:xs.length<=1099511627776) (hcap:xs.length<=cap) (dx:Dig B xs) :
 Calls Tryz.prog 97 #[.slice sa xs.length cap] w (RetNat w (val B xs)):=by
 refine (own_own w sa cap xs hx hn hcap dx).mono ?_
 rintro e w' ⟨s,zs,e1,h1,h2,_,h3⟩
 exact ⟨_,e1,⟨s,zs,rfl,h1,h2⟩,h3⟩
theorem lN (w:World) (cs:Array Value):Blk (w.alloc (.cells cs 91)) w.heap.size cs:=by
 show (w.heap.push _)[w.heap.size]?=_
 simp
theorem vZ (w:World) (cs:Array Value) (g:Nat) (h:g=w.heap.size):Blk (w.alloc (.cells cs 91)) g cs:=by subst h;exact lN w cs
theorem RetNat.after {w w1:World} {n:Nat} {e:Ending} {w':World} (h:RetNat w1 n e w') (hg:w.grownBy w1 none):RetNat w n e w':=by
 obtain ⟨v,e1,e2,e3⟩:=h
 exact ⟨v,e1,e2,A2 hg e3⟩
theorem res_kept {W w':World} (hg:W.grownBy w' none) {a:Addr} {v:Value} (h:W.cell? a=some v) (f:W.frozen? a=false):w'.cell? a=some v/\w'.frozen? a=false:=by
 have hlt:a.block<W.heap.size:=by
  rcases Nat.lt_or_ge a.block W.heap.size with h1 | h1
  · exact h1
  · simp [World.cell?,Array.getElem?_eq_none h1] at h
 exact ⟨hg.cell h (by simp),(World.frozen?_of_block (w:=W) (hg.block a.block hlt (by simp))).trans f⟩
theorem Blk.set_other {w:World} {b g:Nat} {cs c:Array Value} {t:TypeId} (h:Blk w b cs) (hbox:w.heap[g]?=some (.cells c t (0,0))) (ht:t≠91) (o:Nat) (u:Value):Blk (w.setCell ⟨g,o,none⟩ u) b cs:=by
 unfold Blk at *
 rw [Below.heap_setCell _ _ _ _ (by rintro rfl;rw [hbox] at h;simp at h;exact ht h.2)]
 exact h
theorem Rdo.set_other {w:World} {sa:Option Addr} {xs:List Nat} {g:Nat} {c:Array Value} {t:TypeId} (h:Rdo w sa xs) (hbox:w.heap[g]?=some (.cells c t (0,0))) (ht:t≠91) (o:Nat) (u:Value):Rdo (w.setCell ⟨g,o,none⟩ u) sa xs:=by
 rcases h with h | ⟨b,off,cs,e,h1,h2⟩
 · exact Or.inl h
 · exact Or.inr ⟨b,off,cs,e,h1.set_other hbox ht o u,h2⟩
theorem Lm.set_other {w:World} {sa:Option Addr} {xs:List Nat} {g:Nat} {c:Array Value} {t:TypeId} (h:Lm w sa xs) (hbox:w.heap[g]?=some (.cells c t (0,0))) (ht:t≠91) (o:Nat) (u:Value):Lm (w.setCell ⟨g,o,none⟩ u) sa xs:=⟨h.rd.set_other hbox ht o u,h.nil,h.top,h.dig⟩
theorem NatV.set_other {w:World} {v:Value} {n:Nat} {g:Nat} {c:Array Value} {t:TypeId} (h:NatV w v n) (hbox:w.heap[g]?=some (.cells c t (0,0))) (ht:t≠91) (o:Nat) (u:Value):NatV (w.setCell ⟨g,o,none⟩ u) v n:=by
 obtain ⟨sa,xs,e,h1,h2⟩:=h
 exact ⟨sa,xs,e,h1.set_other hbox ht o u,h2⟩
theorem A1 {w w':World} {g:Nat} {o:Obj} (hg:w.grownBy w' none) (h:w.heap[g]?=some o):w'.heap[g]?=some o:=
 (hg.block g (Array.getElem?_eq_some_iff.1 h).1 (by simp)).trans h
theorem A4 (w:World) (o:Obj) (g:Nat) (h:g=w.heap.size):(w.alloc o).heap[g]?=some o:=by
 subst h;show (w.heap.push o)[w.heap.size]?=_;simp
theorem jI {w w':World} {sa:Option Addr} {xs:List Nat} {n g:Nat} {c:Array Value} {t:TypeId} (hg:w.grownBy w' none) (hbox:w'.heap[g]?=some (.cells c t (0,0))) (ht:t≠91) (hl:w.heap.size<=g) (h:Lm w' sa xs) (hv:val B xs=n) (u:Value) :
 RetNat w n (.returned (.agg #[.slice sa xs.length xs.length])) (w'.setCell ⟨g,0,none⟩ u):=
 ⟨_,rfl,⟨sa,xs,rfl,h.set_other hbox ht 0 u,hv⟩,B1 hg (B2 (A9 _ _) _ _) hl⟩
set_option maxHeartbeats 1000000 in
theorem rH (w:World) (n:Nat) (hn:n<B) :
 Calls Tryz.prog 48 #[.int .u64 (n:Int)] w (RetNat w n):=by
 have hb:=vZ (w.alloc (.cells #[.slice none 0 0] 26)) #[.int .u64 (n:Int)] (w.heap.size+1) (by simp)
 have hat:At #[.int .u64 (n:Int)] 0 [n]:=fun i hi=>by
  obtain rfl:i=0:=by simpa using hi
  rfl
 have Hv:=Lib.hid (show val B [n]=n by simp [val])
 go_enter Tryz.func48,Tryz.ntmps48
 go_wp2_with fail
 refine (own_any _ _ _ [n] (Rdo.of hb hat) (by simp) (by simp) (Dig.cons hn (Dig.nil _))).mono ?_
 rintro e w' ⟨v,rfl,⟨sa,xs,rfl,hl,hv⟩,hg⟩
 obtain ⟨hc,hf⟩:=res_kept hg (a:=⟨w.heap.size,0,none⟩) (v := .slice none 0 0) (by go_simp) (by go_simp)
 have hb2:=A1 hg (Below.heap_alloc _ _ w.heap.size (by simp) |>.trans (A4 w (.cells #[.slice none 0 0] 26) _ rfl))
 have hF:=Lib.hid (jI (w:=w) (A2 (A8 (World.grownBy_alloc _ _ _) _) hg) hb2 (by decide) (Nat.le_refl _) hl hv (.slice sa xs.length xs.length))
 rw [Hv.out] at hF
 clear hv hb2
 go_wp2_with fail
 exact bodyPost_ret (v := .agg #[.slice sa xs.length xs.length]) (by simp [results,Tryz.results48,go_sem,hc]) rfl hF.out
def Cloned (w:World) (xs:List Nat) (e:Ending) (w':World):Prop:=
 ∃ (g cap:Nat) (cs:Array Value),e = .returned (.slice (some ⟨g,0,none⟩) xs.length cap)/\w.heap.size<=g/\Blk w' g cs/\At cs 0 xs/\xs.length<=cap/\w.grownBy w' none
theorem lR (w:World):Calls Tryz.prog 94 #[.slice none 0 0] w fun e w'=>e = .returned (.slice none 0 0)/\w=w':=by
 have hnil:=fun w a l c=>Lib.run_eql_slice_nil (P:=Tryz.prog) w 24 91 a l c 0 0 Tryz.underlying24
 go_enter Tryz.func94,Tryz.ntmps94
 go_wp2_with fail
 go_ret
 exact ⟨rfl,rfl⟩
theorem Tryz.infoU64:(Tryz.prog.info? 91).map (fun i=>(i.zero,i.size,i.bytes))=some (some (.int .u64 0),1,8):=by kernel_rfl
theorem own_limbs {w:World} {base:Nat} {v:Value} {xs:List Nat} (h:w.ownsRow base 91 1 v xs.length (xs.map fun x:Nat=>Value.int .u64 (x:Int))) (h0 : 0<xs.length) :
 ∃ (g cap:Nat) (cs:Array Value),v = .slice (some ⟨g,0,none⟩) xs.length cap/\base<=g/\Blk w g cs/\At cs 0 xs/\xs.length<=cap/\cs.size=cap:=by
 obtain ⟨_,⟨_,h⟩ | ⟨g,cap,cur,hv,hg,hh,hle,hm,hs,ht⟩⟩:=h
 · omega
 · refine ⟨g,cap,cur,hv,hg,hh, ?_,hle,by simpa using hs⟩
   intro i hi
   have e1:(cur.toList.take (xs.length*1))[i]?=some (.int .u64 (xs[i]:Int)):=by rw [ht];simp [hi]
   rw [List.getElem?_take_of_lt (by omega)] at e1
   simpa using e1
set_option maxHeartbeats 1000000 in
theorem uF (w:World) (b off cap:Nat) (cs:Array Value) (xs:List Nat) (hb:Blk w b cs) (hx:At cs off xs) (h0 : 0<xs.length) (hn:xs.length<=1099511627776) :
 Calls Tryz.prog 94 #[.slice (some ⟨b,off,none⟩) xs.length cap] w (Cloned w xs):=by
 obtain ⟨i0,hi,hz0,hz1,hz2⟩:=info_parts Tryz.infoU64
 have hnil:=fun w a l c=>Lib.run_eql_slice_nil (P:=Tryz.prog) w 24 91 a l c 0 0 Tryz.underlying24
 go_enter Tryz.func94,Tryz.ntmps94
 have hat:∀ j u,(xs.map fun x:Nat=>Value.int .u64 (x:Int))[j]?=some u->w.cell? ((⟨b,off,none⟩:Addr).add j)=some u:=by
  intro j u hj
  rw [List.getElem?_map] at hj
  cases e:xs[j]? with
  | none=>rw [e] at hj;cases hj
  | some x=>
    rw [e] at hj
    obtain ⟨hlt,ex⟩:=List.getElem?_eq_some_iff.1 e
    have:=hb.at hx j hlt
    have e2:(⟨b,off,none⟩:Addr).add j=⟨b,off+j,none⟩:=by unfold Addr.add;split<;>simp_all
    rw [e2,this,ex];exact hj
 go_wp2_with (at_builtin;refine wpList_append_own _ rfl _ _ 24 rfl w.heap.size 91 i0 (.int .u64 0) 1 8 Tryz.underlying24 hi hz0 hz1 hz2 rfl (by decide) _ 0 [] rfl (World.ownsRow_made w #[] 0 (Nat.le_refl _) (by unfold maxLen;omega) rfl) ⟨b,off,none⟩ xs.length cap (xs.map fun x:Nat=>Value.int .u64 (x:Int)) rfl (by simp) ?h1 ?h2 ?h3 ?h4 ?h5 ?_)
 case h1=>intro j u hj;exact (World.grownBy_alloc w (.cells #[] 91) none).cell (hat j u hj) (by simp)
 case h2=>intro u hu;simp at hu;obtain ⟨a,_,rfl⟩:=hu;rfl
 case h3=>unfold maxLen;omega
 case h4=>omega
 case h5=>simp
 intro v' w1 hown hgrow _
 obtain ⟨g,cap',cs',hv',hge,hbk,hat',hle,_⟩:=own_limbs (base:=w.heap.size) (xs:=xs) (by simpa using hown) h0
 have HV:=Lib.hid hv'
 have hg2:w.grownBy w1 none:=B1 (World.grownBy_alloc w (.cells #[] 91) none) hgrow (Nat.le_refl _)
 clear hown hv' hgrow hat hb
 go_wp2_with fail
 go_ret
 exact ⟨g,cap',cs',by show Ending.returned v'=_;rw [HV.out],hge,hbk,hat',hle,hg2⟩
end Go.Proofs.YtdgdmicbbfoghaaGreatDoor
