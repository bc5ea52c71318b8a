/- What the laws lean on, part 1. -/
import Derived.BigQuiet
import Derived.Deep.LoopGhost
import Derived.Deep.QuietTactic
import Derived.Deep.RegionHeld3
import Derived.Laws.CopyOwn
import Derived.Laws.Externs
import Derived.Lib.Hide
import Derived.Outline
import Derived.StillTailTactics
import Derived.WalkKit
import Derived.WalkLawsBesides
import Derived.WalkSpells
import Derived.Test.YtamdnbbgpacfkaaDoorProg
set_option linter.unusedVariables false
set_option linter.unusedSimpArgs false
set_option maxRecDepth 100000
namespace Go.Proofs.YtamdnbbgpacfkaaDoor.Mat
def val (m:Nat):List Nat->Nat
 | []=>0
 | x :: xs=>x+m*val m xs
def Dig (m:Nat) (xs:List Nat):Prop:=∀ x ∈ xs,x<m
def Top (xs:List Nat):Prop:=∀ x,xs.getLast?=some x->x≠0
theorem L7 (m:Nat) (xs ys:List Nat):val m (xs++ys)=val m xs+m^xs.length*val m ys:=by
 induction xs with
 | nil=>simp [val]
 | cons x xs ih=>simp only [List.cons_append,val,ih,List.length_cons];grind
theorem F9 (m:Nat) (xs:List Nat) (y:Nat):val m (xs++[y])=val m xs+m^xs.length*y:=by
 rw [L7];simp [val]
theorem Q2 (m:Nat) (xs:List Nat) (h:Dig m xs):val m xs<m^xs.length:=by
 induction xs with
 | nil=>simp [val]
 | cons x xs ih=>
   have h1:=ih (fun y hy=>h y (List.mem_cons_of_mem _ hy))
   have h2:x<m:=h x (List.mem_cons_self ..)
   have h3:m*(val m xs+1)<=m*m^xs.length:=Nat.mul_le_mul_left m h1
   simp only [val,List.length_cons]
   grind
theorem Dig.nil (m:Nat):Dig m []:=fun _ h=>by cases h
theorem Dig.cons {m x:Nat} {xs:List Nat} (hx:x<m) (h:Dig m xs):Dig m (x :: xs):=by
 intro y hy;rcases List.mem_cons.1 hy with rfl | hy;exact hx;exact h y hy
theorem Dig.append {m:Nat} {xs ys:List Nat} (h:Dig m xs) (k:Dig m ys):Dig m (xs++ys):=by
 intro y hy;rcases List.mem_append.1 hy with hy | hy;exact h y hy;exact k y hy
theorem Dig.snoc {m y:Nat} {xs:List Nat} (h:Dig m xs) (hy:y<m):Dig m (xs++[y]):=h.append (Dig.cons hy (Dig.nil m))
theorem Dig.take {m:Nat} {xs:List Nat} (h:Dig m xs) (k:Nat):Dig m (xs.take k):=fun y hy=>h y (List.mem_of_mem_take hy)
theorem Dig.drop {m:Nat} {xs:List Nat} (h:Dig m xs) (k:Nat):Dig m (xs.drop k):=fun y hy=>h y (List.mem_of_mem_drop hy)
theorem Dig.get {m:Nat} {xs:List Nat} (h:Dig m xs) (k:Nat) (hk:k<xs.length):xs[k]<m:=h _ (List.getElem_mem hk)
theorem Dig.getD {m:Nat} {xs:List Nat} (h:Dig m xs) (hm : 0<m) (k:Nat):xs.getD k 0<m:=by
 rw [List.getD_eq_getElem?_getD]
 cases e:xs[k]? with
 | none=>simpa using hm
 | some v=>simpa using h v (List.mem_of_getElem? e)
theorem Dig.replicate {m:Nat} (hm : 0<m) (k:Nat):Dig m (List.replicate k 0):=fun y hy=>by rw [(List.mem_replicate.1 hy).2];exact hm
theorem dG (m k:Nat):val m (List.replicate k 0)=0:=by
 induction k with
 | zero=>rfl
 | succ k ih=>simp [List.replicate_succ,val,ih]
theorem B9 (m:Nat) (xs:List Nat) (k:Nat) (hk:k<xs.length):val m (xs.take (k+1))=val m (xs.take k)+m^k*xs[k]:=by
 rw [List.take_succ_eq_append_getElem hk,F9,List.length_take,Nat.min_eq_left (by omega)]
theorem F5 (m:Nat) (xs:List Nat) (k:Nat) (hk:k<xs.length):val m (xs.take (k+1))=val m (xs.take k)+m^k*xs.getD k 0:=by
 rw [B9 m xs k hk];simp [List.getD_eq_getElem?_getD,hk]
theorem nX (m:Nat) (xs:List Nat) (k:Nat):val m xs=val m (xs.take k)+m^(xs.take k).length*val m (xs.drop k):=by
 rw [<- L7,List.take_append_drop]
theorem J6 (m:Nat) (xs:List Nat) (k:Nat) (hk:k<=xs.length):val m xs=val m (xs.take k)+m^k*val m (xs.drop k):=by
 have:=nX m xs k
 rwa [List.length_take,Nat.min_eq_left hk] at this
theorem fX (m:Nat) (xs:List Nat) (hx:xs≠[]) (ht:Top xs):m^(xs.length-1)<=val m xs:=by
 have e:=List.dropLast_concat_getLast hx
 have h:xs.getLast hx≠0:=ht _ (List.getLast?_eq_some_getLast hx)
 rw [<- e,F9]
 simp only [List.length_append,List.length_dropLast,List.length_cons,List.length_nil]
 have:m^(xs.length-1)*1<=m^(xs.length-1)*xs.getLast hx:=Nat.mul_le_mul_left _ (by omega)
 have e2:xs.length-1+(0+1)-1=xs.length-1:=by omega
 rw [e2];omega
theorem val_pos (m:Nat) (hm : 0<m) (xs:List Nat) (hx:xs≠[]) (ht:Top xs) : 0<val m xs:=
 Nat.lt_of_lt_of_le (Nat.pow_pos hm) (fX m xs hx ht)
theorem S6 (m:Nat) (hm : 0<m) (xs:List Nat) (ht:Top xs):val m xs=0 ↔ xs=[]:=by
 constructor
 · intro h
   refine Classical.byContradiction fun hx=>?_
   have:=val_pos m hm xs hx ht
   omega
 · rintro rfl;rfl
theorem I0 (m:Nat) (hm : 0<m) (xs ys:List Nat) (hd:Dig m xs) (ht:Top ys) (hl:xs.length<ys.length):val m xs<val m ys:=by
 have h1:=Q2 m xs hd
 have h2:=fX m ys (by intro h;simp [h] at hl) ht
 have h3:m^xs.length<=m^(ys.length-1):=Nat.pow_le_pow_right hm (by omega)
 omega
theorem oL (m:Nat) (xs ys:List Nat) (k:Nat) (hl:xs.length=ys.length) (hk:k<xs.length) (hx:Dig m xs) (hd:xs.drop (k+1)=ys.drop (k+1)) (hlt:xs[k]<ys[k]'(by omega)):val m xs<val m ys:=by
 have e1:=J6 m xs (k+1) (by omega)
 have e2:=J6 m ys (k+1) (by omega)
 rw [B9 m xs k hk] at e1
 rw [B9 m ys k (by omega)] at e2
 have h1:=Q2 m (xs.take k) (hx.take k)
 rw [List.length_take,Nat.min_eq_left (by omega)] at h1
 have h2:m^k*(xs[k]+1)<=m^k*ys[k]'(by omega):=Nat.mul_le_mul_left _ hlt
 rw [hd] at e1
 rw [Nat.mul_add] at h2
 omega
theorem carry_step (m k v x y c s:Nat) (h:v+c*m^k=s):v+m^k*((x+y+c)%m)+(x+y+c) / m*m^(k+1)=s+m^k*x+m^k*y:=by
 have e:=Nat.mod_add_div (x+y+c) m
 generalize (x+y+c)%m=r at *
 generalize (x+y+c) / m=q at *
 have:m^k*(r+m*q)=m^k*(x+y+c):=by rw [e]
 rw [Nat.pow_succ]
 grind
theorem borrow_step (m k v x y c s t:Nat) (hx:x<m) (hy:y<m) (hc:c<=1) (h:v+t=s+c*m^k) :
 v+m^k*((x+m-y-c)%m)+(t+m^k*y)=s+m^k*x+(if x<y+c then 1 else 0)*m^(k+1):=by
 have e:(x+m-y-c)%m+y+c=x+(if x<y+c then 1 else 0)*m:=by
  split
  · rw [Nat.mod_eq_of_lt (by omega)];omega
  · have:x+m-y-c=(x-y-c)+m:=by omega
    rw [this,Nat.add_mod_right,Nat.mod_eq_of_lt (by omega)];omega
 generalize (x+m-y-c)%m=r at *
 generalize (if x<y+c then 1 else 0)=q at *
 have:m^k*(r+y+c)=m^k*(x+q*m):=by rw [e]
 rw [Nat.pow_succ]
 grind
end Go.Proofs.YtamdnbbgpacfkaaDoor.Mat
namespace Go.Proofs.YtamdnbbgpacfkaaDoor
open Go.RowKit Mat
def B:Nat:=18446744073709551616
theorem E5 : 0<B:=by unfold B;omega
def At (cs:Array Value) (off:Nat) (xs:List Nat):Prop:=∀ i (h:i<xs.length),cs[off+i]?=some (.int .u64 (xs[i]:Int))
def Put (cs:Array Value) (off:Nat):List Nat->Array Value
 | []=>cs
 | y :: ys=>Put (cs.setIfInBounds off (.int .u64 (y:Int))) (off+1) ys
theorem N5 (ys:List Nat):∀ (cs:Array Value) (off y:Nat),Put cs off (ys++[y])=(Put cs off ys).setIfInBounds (off+ys.length) (.int .u64 (y:Int)):=by
 induction ys with
 | nil=>intro cs off y;rfl
 | cons z ys ih=>intro cs off y;show Put _ _ (ys++[y])=_;rw [ih];simp only [Put,List.length_cons];congr 1;omega
theorem eM (ys:List Nat):∀ (cs:Array Value) (off:Nat),(Put cs off ys).size=cs.size:=by
 induction ys with
 | nil=>intro cs off;rfl
 | cons z ys ih=>intro cs off;show (Put _ _ ys).size=_;rw [ih];simp
theorem J3 (ys:List Nat):∀ (cs:Array Value) (off j:Nat),j<off\/off+ys.length<=j->(Put cs off ys)[j]?=cs[j]?:=by
 induction ys with
 | nil=>intro cs off j _;rfl
 | cons z ys ih=>
   intro cs off j h
   simp only [List.length_cons] at h
   show (Put _ _ ys)[j]?=_
   rw [ih _ _ _ (by omega),Array.getElem?_setIfInBounds_ne (by omega)]
theorem iG (ys:List Nat):∀ (cs:Array Value) (off:Nat),off+ys.length<=cs.size->At (Put cs off ys) off ys:=by
 induction ys with
 | nil=>intro cs off _ i h;simp at h
 | cons z ys ih=>
   intro cs off h i hi
   simp only [List.length_cons] at h hi
   show (Put _ _ ys)[_]?=_
   cases i with
   | zero=>
     rw [J3 _ _ _ _ (by omega)]
     simp only [Nat.add_zero,List.getElem_cons_zero]
     rw [Array.getElem?_setIfInBounds_self_of_lt (by omega)]
   | succ i=>
     have:=ih (cs.setIfInBounds off (.int .u64 (z:Int))) (off+1) (by simp;omega) i (by omega)
     rw [show off+(i+1)=off+1+i from by omega]
     simpa using this
theorem At.nil (cs:Array Value) (off:Nat):At cs off []:=fun _ h=>by simp at h
theorem At.get {cs:Array Value} {off:Nat} {xs:List Nat} (h:At cs off xs) (i:Nat) (hi:i<xs.length):cs[off+i]?=some (.int .u64 (xs[i]:Int)):=h i hi
theorem At.take {cs:Array Value} {off:Nat} {xs:List Nat} (h:At cs off xs) (k:Nat):At cs off (xs.take k):=by
 intro i hi
 rw [List.length_take] at hi
 rw [h i (by omega),List.getElem_take]
theorem At.drop {cs:Array Value} {off:Nat} {xs:List Nat} (h:At cs off xs) (k:Nat):At cs (off+k) (xs.drop k):=by
 intro i hi
 rw [List.length_drop] at hi
 rw [Nat.add_assoc,h (k+i) (by omega),List.getElem_drop]
theorem At.append {cs:Array Value} {off:Nat} {xs ys:List Nat} (h:At cs off xs) (k:At cs (off+xs.length) ys):At cs off (xs++ys):=by
 intro i hi
 rw [List.length_append] at hi
 by_cases hx:i<xs.length
 · rw [h i hx,List.getElem_append_left hx]
 · have:=k (i-xs.length) (by omega)
   rw [show off+xs.length+(i-xs.length)=off+i from by omega] at this
   rw [this,List.getElem_append_right (by omega)]
theorem At.le {cs:Array Value} {off:Nat} {xs:List Nat} (h:At cs off xs):xs=[]\/off+xs.length<=cs.size:=by
 cases e:xs with
 | nil=>exact Or.inl rfl
 | cons x t=>
   right
   have:=h (xs.length-1) (by simp [e])
   have hl:=(Array.getElem?_eq_some_iff.1 this).1
   simp [e] at hl ⊢;omega
theorem At.put_out {cs:Array Value} {off o:Nat} {xs ys:List Nat} (h:At cs off xs) (hd:off+xs.length<=o\/o+ys.length<=off):At (Put cs o ys) off xs:=by
 intro i hi
 rw [J3 _ _ _ _ (by omega),h i hi]
def Blk (w:World) (b:Nat) (cs:Array Value):Prop:=w.heap[b]?=some (.cells cs 52 (0,0))
theorem Blk.cell {w:World} {b:Nat} {cs:Array Value} (h:Blk w b cs) (o:Nat):w.cell? ⟨b,o,none⟩=cs[o]?:=by
 unfold Blk at h;simp [World.cell?,h]
theorem Blk.frozen {w:World} {b:Nat} {cs:Array Value} (h:Blk w b cs) (o:Nat):w.frozen? ⟨b,o,none⟩=false:=by
 unfold Blk at h;simp [World.frozen?,h]
theorem Blk.lt {w:World} {b:Nat} {cs:Array Value} (h:Blk w b cs):b<w.heap.size:=(Array.getElem?_eq_some_iff.1 h).1
theorem Blk.at {w:World} {b off:Nat} {cs:Array Value} {xs:List Nat} (h:Blk w b cs) (k:At cs off xs) (i:Nat) (hi:i<xs.length):w.cell? ⟨b,off+i,none⟩=some (.int .u64 (xs[i]:Int)):=by
 rw [h.cell,k i hi]
theorem Blk.setCell {w:World} {b:Nat} {cs:Array Value} (h:Blk w b cs) (o:Nat) (v:Value):Blk (w.setCell ⟨b,o,none⟩ v) b (cs.setIfInBounds o v):=by
 unfold Blk at *
 simp [World.setCell,Array.getElem?_modify,h]
theorem Blk.kept {w w':World} {b:Nat} {cs:Array Value} {row:Option Nat} (h:Blk w b cs) (hg:w.grownBy w' row) (hr:some b≠row):Blk w' b cs:=(hg.block b h.lt hr).trans h
theorem Blk.alloc {w:World} {b:Nat} {cs:Array Value} (h:Blk w b cs) (o:Obj):Blk (w.alloc o) b cs:=(Below.heap_alloc w o b h.lt).trans h
theorem Blk.drew {w:World} {b:Nat} {cs:Array Value} (h:Blk w b cs):Blk w.drew b cs:=h
theorem B5 (w:World) (row:Option Nat):w.grownBy w row:=⟨rfl,rfl,rfl,Nat.le_refl _,fun _ _ _=>rfl⟩
theorem A4 {a b c:World} {row:Option Nat} (h:a.grownBy b row) (k:b.grownBy c row):a.grownBy c row:=
 ⟨k.os.trans h.os,k.tape.trans h.tape,k.output.trans h.output,Nat.le_trans h.size k.size,fun i hi hr=>(k.block i (Nat.lt_of_lt_of_le hi h.size) hr).trans (h.block i hi hr)⟩
theorem D2 {a b c:World} {row:Option Nat} {g:Nat} (h:a.grownBy b row) (k:b.grownBy c (some g)) (hg:a.heap.size<=g):a.grownBy c row:=
 ⟨k.os.trans h.os,k.tape.trans h.tape,k.output.trans h.output,Nat.le_trans h.size k.size,fun i hi hr=>(k.block i (Nat.lt_of_lt_of_le hi h.size) (by intro e;cases e;omega)).trans (h.block i hi hr)⟩
theorem grown_any {a b:World} {row:Option Nat} (h:a.grownBy b none):a.grownBy b row:=⟨h.os,h.tape,h.output,h.size,fun i hi _=>h.block i hi (by simp)⟩
theorem B1 {a b:World} {row:Option Nat} (h:a.grownBy b row) (o:Obj):a.grownBy (b.alloc o) row:=A4 h (World.grownBy_alloc b o row)
theorem C2 {a b:World} {g:Nat} (h:a.grownBy b (some g)) (o:Nat) (v:Value):a.grownBy (b.setCell ⟨g,o,none⟩ v) (some g):=
 A4 h ⟨rfl,rfl,rfl,by simp [World.setCell],fun i _ hr=>Below.heap_setCell _ _ _ _ (by intro e;exact hr (by rw [e]))⟩
theorem C7 {a b:World} {row:Option Nat} (h:a.grownBy b row):a.grownBy b.drew row:=⟨h.os,h.tape,h.output,h.size,h.block⟩
theorem C1 (w:World) (n:Nat) (row:Option Nat):w.grownBy (w.drewN n) row:=⟨rfl,rfl,rfl,Nat.le_refl _,fun _ _ _=>rfl⟩
def E4 (x y c:Nat):Nat:=(x+y+c)%B
def G7 (x y c:Nat):Nat:=(x+y+c) / B
def O8 (x y c:Nat):Nat:=(x+B-y-c)%B
def U3 (x y c:Nat):Nat:=if x<y+c then 1 else 0
theorem fP (x y c:Nat):E4 x y c<B:=Nat.mod_lt _ E5
theorem addHi_le {x y c:Nat} (hx:x<B) (hy:y<B) (hc:c<=1):G7 x y c<=1:=by
 unfold G7;unfold B at *;omega
theorem eJ (x y c:Nat):O8 x y c<B:=Nat.mod_lt _ E5
theorem eK (x y c:Nat):U3 x y c<=1:=by unfold U3;split<;>omega
def sub64Row:Array Value->Sem Value:=fun args=>do
 let (x, y, b) ← Extern.MathBitsCarry.three "Sub64" args
 pure (Extern.MathBitsCarry.pair ((x+Extern.MathBitsCarry.m64-y-b)%Extern.MathBitsCarry.m64) (if x<y+b then 1 else 0))
theorem rB {P:Program} (x y b:Nat) (hb:b<=1) (w:World) :
 (sub64Row #[.int .u64 x,.int .u64 y,.int .u64 b]).run P w = .ok (.tuple #[.int .u64 (O8 x y b:Int),.int .u64 (U3 x y b:Int)]) w:=by
 have:b=0\/b=1:=by omega
 rcases this with rfl | rfl<;>rfl
theorem add64 (x y c:Nat) (hc:c<=1) (w:World) :
 (callFunc 100 #[.int .u64 (x:Int),.int .u64 (y:Int),.int .u64 (c:Int)]).run Tryd.prog w = .ok (.value (.tuple #[.int .u64 (E4 x y c:Int),.int .u64 (G7 x y c:Int)])) w:=by
 rw [run_callFunc_extern Tryd.func100 (by kernel_rfl) (by kernel_rfl) (by kernel_rfl) (e:=add64Entry) (by kernel_rfl),run_add64 x y c (by omega) (by omega) (by omega) (by omega)]
 simp only [Result.andThen,E4,G7,B]
 congr 5
theorem sub64 (x y c:Nat) (hc:c<=1) (w:World) :
 (callFunc 115 #[.int .u64 (x:Int),.int .u64 (y:Int),.int .u64 (c:Int)]).run Tryd.prog w = .ok (.value (.tuple #[.int .u64 (O8 x y c:Int),.int .u64 (U3 x y c:Int)])) w:=by
 rw [run_callFunc_extern Tryd.func115 (by kernel_rfl) (by kernel_rfl) (by kernel_rfl) (e:=sub64Row) (by kernel_rfl),rB x y c hc]
 rfl
def Rd (w:World) (sa:Option Addr) (xs:List Nat) (g:Nat):Prop:=xs=[] \/ ∃ (b off:Nat) (cs:Array Value),sa=some ⟨b,off,none⟩/\b≠g/\Blk w b cs/\At cs off xs
theorem Rd.get {w:World} {sa:Option Addr} {xs:List Nat} {g:Nat} (h:Rd w sa xs g) (k:Nat) (hk:k<xs.length):∃ (b off:Nat) (cs:Array Value),sa=some ⟨b,off,none⟩/\b≠g/\Blk w b cs/\At cs off xs:=by
 rcases h with h | h
 · rw [h] at hk;simp at hk
 · exact h
structure qL (cs cs':Array Value) (off:Nat) (zs:List Nat):Prop where
 size:cs'.size=cs.size
 out:∀ j,j<off\/off+zs.length<=j->cs'[j]?=cs[j]?
 lies:At cs' off zs
theorem sum_step (k v x y c s:Nat) (h:v+c*B^k=s):v+B^k*E4 x y c+G7 x y c*B^(k+1)=s+B^k*x+B^k*y:=carry_step B k v x y c s h
def tA (w:World) (b off:Nat) (xs ys:List Nat) (cs:Array Value) (e:Ending) (w':World):Prop:=
 ∃ (c:Nat) (zs:List Nat) (cs':Array Value),e = .returned (.int .u64 (c:Int))/\Blk w' b cs'/\qL cs cs' off zs/\w.grownBy w' (some b)/\zs.length=xs.length/\Dig B zs/\c<=1/\val B zs+c*B^xs.length=val B xs+val B ys
set_option maxHeartbeats 1000000 in
theorem addTo_any (w:World) (b off cap:Nat) (xs:List Nat) (cs:Array Value) (sa:Option Addr) (cap2:Nat) (ys:List Nat)
 (hb:Blk w b cs) (hx:At cs off xs) (hs:Rd w sa ys b) (hl:ys.length<=xs.length) (hm:xs.length<=1099511627776) (dx:Dig B xs) (dy:Dig B ys) :
 Calls Tryd.prog 102 #[.slice (some ⟨b,off,none⟩) xs.length cap,.slice sa ys.length cap2] w (tA w b off xs ys cs):=by
 generalize hn:xs.length=n at *
 generalize hmm:ys.length=m at *
 have Hn:=Lib.hid hn
 have Hm:=Lib.hid hmm
 clear hn hmm
 go_enter Tryd.func102,Tryd.ntmps102
 go_wp2_with fail
 go_loopw [5,11] (fun c i wr=>∃ (k cc:Nat) (zs:List Nat),k<=m/\i = .int .i64 k/\c = .int .u64 cc/\cc<=1/\Hid (zs.length=k)/\Dig B zs/\Blk wr b (Put cs off zs)/\w.grownBy wr (some b)/\Hid (val B zs+cc*B^k=val B (xs.take k)+val B (ys.take k)))
  (fun _ i _=>m-(intOf i).toNat)
 case atStart=>exact ⟨0,0,[],Nat.zero_le _,rfl,rfl,Nat.zero_le _,rfl,Dig.nil _,hb,B5 _ _,by show _=_;simp [val]⟩
 case round=>
  obtain ⟨k,cc,zs,hk,rfl,rfl,hc,hzl,hzd,hbk,hg,hv⟩:=hrel
  by_cases hlt:k<m
  · obtain ⟨x,ex⟩:∃ x,xs[k]'(by rw [Hn.out];omega)=x:=⟨_,rfl⟩
    obtain ⟨y,ey⟩:∃ y,ys[k]'(by rw [Hm.out];omega)=y:=⟨_,rfl⟩
    obtain ⟨b2,off2,cs2,rfl,hne,h2,hy⟩:=hs.get k (by rw [Hm.out];omega)
    have cx:wr.cell? ⟨b,off+k,none⟩=some (.int .u64 (x:Int)):=by
     rw [hbk.cell,J3 _ _ _ _ (by rw [hzl.out];omega),hx k (by rw [Hn.out];omega),ex]
    have cy:wr.cell? ⟨b2,off2+k,none⟩=some (.int .u64 (y:Int)):=by
     rw [(h2.kept hg (by simpa using hne)).cell,hy k (by rw [Hm.out];omega),ey]
    have fx:wr.frozen? ⟨b,off+k,none⟩=false:=hbk.frozen _
    have ha:=fun w=>add64 x y cc hc w
    go_wp2_with fail
    clear ha cx cy fx
    go_roundw
    case rel=>
     refine ⟨k+1,G7 x y cc,zs++[E4 x y cc],by omega,by go_num,rfl,addHi_le (ex ▸ dx.get k _) (ey ▸ dy.get k _) hc, ?_,hzd.snoc (fP _ _ _), ?_,C2 hg _ _, ?_⟩
     · show _=_;rw [List.length_append,hzl.out];rfl
     · rw [N5,hzl.out];exact hbk.setCell _ _
     · show _=_
       rw [F9,hzl.out,sum_step k _ x y cc _ hv.out,B9 B xs k (by rw [Hn.out];omega),B9 B ys k (by rw [Hm.out];omega),ex,ey];omega
    case measure=>simp [intOf];omega
  · obtain rfl:k=m:=by omega
    go_wp2_with fail
    have hrest:Hid (val B (ys.take k)=val B ys):=by show _=_;rw [<- Hm.out,List.take_length]
    go_loopw [5,8] (fun c i w2=>∃ (j cc:Nat) (zs:List Nat),k<=j/\j<=n/\i = .int .i64 j/\c = .int .u64 cc/\cc<=1/\Hid (zs.length=j)/\Dig B zs/\Blk w2 b (Put cs off zs)/\w.grownBy w2 (some b)/\Hid (val B zs+cc*B^j=val B (xs.take j)+val B ys))
     (fun _ i _=>n-(intOf i).toNat)
    case atStart=>exact ⟨k,cc,zs,Nat.le_refl _,hl,rfl,rfl,hc,hzl,hzd,hbk,hg,by show _=_;rw [hv.out,hrest.out]⟩
    case round=>
     clear hzl hzd hbk hg hv
     obtain ⟨j,c2,zs,hkj,hj,rfl,rfl,hc2,hzl,hzd,hbk,hg,hv⟩:=hrel
     by_cases hgo:j<n/\0<c2
     · obtain ⟨hlt,hpos⟩:=hgo
       obtain rfl:c2=1:=by omega
       obtain ⟨x,ex⟩:∃ x,xs[j]'(by rw [Hn.out];omega)=x:=⟨_,rfl⟩
       have cx:wr.cell? ⟨b,off+j,none⟩=some (.int .u64 (x:Int)):=by
        rw [hbk.cell,J3 _ _ _ _ (by rw [hzl.out];omega),hx j (by rw [Hn.out];omega),ex]
       have fx:wr.frozen? ⟨b,off+j,none⟩=false:=hbk.frozen _
       have ha:∀ w,(callFunc 100 #[.int .u64 (x:Int),.int .u64 0,.int .u64 1]).run Tryd.prog w = .ok (.value (.tuple #[.int .u64 (E4 x 0 1:Int),.int .u64 (G7 x 0 1:Int)])) w:=fun w=>add64 x 0 1 (Nat.le_refl _) w
       go_wp2_with fail
       clear ha cx fx
       go_roundw
       case rel=>
        refine ⟨j+1,G7 x 0 1,zs++[E4 x 0 1],by omega,by omega,by go_num,rfl,addHi_le (ex ▸ dx.get j _) E5 (Nat.le_refl _), ?_,hzd.snoc (fP _ _ _), ?_,C2 hg _ _, ?_⟩
        · show _=_;rw [List.length_append,hzl.out];rfl
        · rw [N5,hzl.out];exact hbk.setCell _ _
        · show _=_
          rw [F9,hzl.out,sum_step j _ x 0 1 _ hv.out,B9 B xs j (by rw [Hn.out];omega),ex];omega
       case measure=>simp [intOf];omega
     · have hfin:tA w b off xs ys cs (.returned (.int .u64 (c2:Int))) wr:=by
        have hz:=J6 B xs j (by rw [Hn.out];omega)
        have hlen:(zs++xs.drop j).length=n:=by rw [List.length_append,hzl.out,List.length_drop,Hn.out];omega
        have hcs:zs=[]\/off+j<=cs.size:=by
         rcases hx.le with h | h
         · left;rw [<- List.length_eq_zero_iff,hzl.out];rw [<- Hn.out,h] at hj;simpa using hj
         · right;rw [Hn.out] at h;omega
        refine ⟨c2,zs++xs.drop j,Put cs off zs,rfl,hbk,⟨eM _ _ _,fun i hi=>J3 _ _ _ _ (by rw [hlen] at hi;rw [hzl.out];omega), ?_⟩,hg,hlen.trans Hn.out.symm,hzd.append (dx.drop j),hc2, ?_⟩
        · refine At.append ?_ ?_
          · rcases hcs with h | h
            · rw [h];exact At.nil _ _
            · exact iG _ _ _ (by rw [hzl.out];exact h)
          · rw [hzl.out];exact (hx.drop j).put_out (by rw [hzl.out];omega)
        · rw [L7,hzl.out,Hn.out]
          have hv:=hv.out
          rw [hz]
          by_cases h0:c2=0
          · subst h0;simp only [Nat.zero_mul,Nat.add_zero] at hv ⊢;omega
          · obtain rfl:j=n:=by omega
            have:xs.drop j=[]:=List.drop_eq_nil_of_le (by rw [Hn.out];omega)
            rw [this];simp only [val,Nat.mul_zero,Nat.add_zero];omega
       have HF:=Lib.hid hfin
       clear hfin hzl hzd hbk hg hv hrest
       by_cases hjn:j<n
       · obtain rfl:c2=0:=by omega
         go_wp2_with fail
         go_ret
         exact HF.out
       · obtain rfl:j=n:=by omega
         go_wp2_with fail
         go_ret
         exact HF.out
theorem dif_step (k v x y c s t:Nat) (hx:x<B) (hy:y<B) (hc:c<=1) (h:v+t=s+c*B^k):v+B^k*O8 x y c+(t+B^k*y)=s+B^k*x+U3 x y c*B^(k+1):=borrow_step B k v x y c s t hx hy hc h
def nL (w:World) (b off:Nat) (xs ys:List Nat) (cs:Array Value) (e:Ending) (w':World):Prop:=
 ∃ (zs:List Nat) (cs':Array Value),e = .returned (.tuple #[])/\Blk w' b cs'/\qL cs cs' off zs/\w.grownBy w' (some b)/\zs.length=xs.length/\Dig B zs/\val B zs+val B ys=val B xs
set_option maxHeartbeats 1000000 in
theorem qW (w:World) (b off cap:Nat) (xs:List Nat) (cs:Array Value) (sa:Option Addr) (cap2:Nat) (ys:List Nat)
 (hb:Blk w b cs) (hx:At cs off xs) (hs:Rd w sa ys b) (hl:ys.length<=xs.length) (hm:xs.length<=1099511627776) (dx:Dig B xs) (dy:Dig B ys) (hle:val B ys<=val B xs) :
 Calls Tryd.prog 104 #[.slice (some ⟨b,off,none⟩) xs.length cap,.slice sa ys.length cap2] w (nL w b off xs ys cs):=by
 generalize hn:xs.length=n at *
 generalize hmm:ys.length=m at *
 have Hn:=Lib.hid hn
 have Hm:=Lib.hid hmm
 have Hle:=Lib.hid hle
 clear hn hmm hle
 go_enter Tryd.func104,Tryd.ntmps104
 go_wp2_with fail
 go_loopw [4,10] (fun c i wr=>∃ (k cc:Nat) (zs:List Nat),k<=m/\i = .int .i64 k/\c = .int .u64 cc/\cc<=1/\Hid (zs.length=k)/\Dig B zs/\Blk wr b (Put cs off zs)/\w.grownBy wr (some b)/\Hid (val B zs+val B (ys.take k)=val B (xs.take k)+cc*B^k))
  (fun _ i _=>m-(intOf i).toNat)
 case atStart=>exact ⟨0,0,[],Nat.zero_le _,rfl,rfl,Nat.zero_le _,rfl,Dig.nil _,hb,B5 _ _,by show _=_;simp [val]⟩
 case round=>
  obtain ⟨k,cc,zs,hk,rfl,rfl,hc,hzl,hzd,hbk,hg,hv⟩:=hrel
  by_cases hlt:k<m
  · obtain ⟨x,ex⟩:∃ x,xs[k]'(by rw [Hn.out];omega)=x:=⟨_,rfl⟩
    obtain ⟨y,ey⟩:∃ y,ys[k]'(by rw [Hm.out];omega)=y:=⟨_,rfl⟩
    obtain ⟨b2,off2,cs2,rfl,hne,h2,hy⟩:=hs.get k (by rw [Hm.out];omega)
    have cx:wr.cell? ⟨b,off+k,none⟩=some (.int .u64 (x:Int)):=by
     rw [hbk.cell,J3 _ _ _ _ (by rw [hzl.out];omega),hx k (by rw [Hn.out];omega),ex]
    have cy:wr.cell? ⟨b2,off2+k,none⟩=some (.int .u64 (y:Int)):=by
     rw [(h2.kept hg (by simpa using hne)).cell,hy k (by rw [Hm.out];omega),ey]
    have fx:wr.frozen? ⟨b,off+k,none⟩=false:=hbk.frozen _
    have ha:=fun w=>sub64 x y cc hc w
    go_wp2_with fail
    clear ha cx cy fx
    go_roundw
    case rel=>
     refine ⟨k+1,U3 x y cc,zs++[O8 x y cc],by omega,by go_num,rfl,eK _ _ _, ?_,hzd.snoc (eJ _ _ _), ?_,C2 hg _ _, ?_⟩
     · show _=_;rw [List.length_append,hzl.out];rfl
     · rw [N5,hzl.out];exact hbk.setCell _ _
     · show _=_
       have hxB:x<B:=ex ▸ dx.get k _
       have hyB:y<B:=ey ▸ dy.get k _
       rw [F9,hzl.out,B9 B xs k (by rw [Hn.out];omega),B9 B ys k (by rw [Hm.out];omega),ex,ey]
       exact dif_step k _ x y cc _ _ hxB hyB hc hv.out
    case measure=>simp [intOf];omega
  · obtain rfl:k=m:=by omega
    go_wp2_with fail
    have hrest:Hid (val B (ys.take k)=val B ys):=by show _=_;rw [<- Hm.out,List.take_length]
    go_loopw [4,7] (fun c i w2=>∃ (j cc:Nat) (zs:List Nat),k<=j/\j<=n/\i = .int .i64 j/\c = .int .u64 cc/\cc<=1/\Hid (zs.length=j)/\Dig B zs/\Blk w2 b (Put cs off zs)/\w.grownBy w2 (some b)/\Hid (val B zs+val B ys=val B (xs.take j)+cc*B^j))
     (fun _ i _=>n-(intOf i).toNat)
    case atStart=>exact ⟨k,cc,zs,Nat.le_refl _,hl,rfl,rfl,hc,hzl,hzd,hbk,hg,by show _=_;rw [<- hv.out,hrest.out]⟩
    case round=>
     clear hzl hzd hbk hg hv
     obtain ⟨j,c2,zs,hkj,hj,rfl,rfl,hc2,hzl,hzd,hbk,hg,hv⟩:=hrel
     by_cases hpos : 0<c2
     · obtain rfl:c2=1:=by omega
       have hlt:j<n:=by
        refine Nat.lt_of_le_of_ne hj fun e=>?_
        subst e
        have h1:=hv.out
        have h2:=Q2 B zs hzd
        have h3:=Hle.out
        rw [hzl.out] at h2
        rw [<- Hn.out,List.take_length,Hn.out] at h1
        omega
       obtain ⟨x,ex⟩:∃ x,xs[j]'(by rw [Hn.out];omega)=x:=⟨_,rfl⟩
       have cx:wr.cell? ⟨b,off+j,none⟩=some (.int .u64 (x:Int)):=by
        rw [hbk.cell,J3 _ _ _ _ (by rw [hzl.out];omega),hx j (by rw [Hn.out];omega),ex]
       have fx:wr.frozen? ⟨b,off+j,none⟩=false:=hbk.frozen _
       have ha:∀ w,(callFunc 115 #[.int .u64 (x:Int),.int .u64 0,.int .u64 1]).run Tryd.prog w = .ok (.value (.tuple #[.int .u64 (O8 x 0 1:Int),.int .u64 (U3 x 0 1:Int)])) w:=fun w=>sub64 x 0 1 (Nat.le_refl _) w
       go_wp2_with fail
       clear ha cx fx
       go_roundw
       case rel=>
        refine ⟨j+1,U3 x 0 1,zs++[O8 x 0 1],by omega,by omega,by go_num,rfl,eK _ _ _, ?_,hzd.snoc (eJ _ _ _), ?_,C2 hg _ _, ?_⟩
        · show _=_;rw [List.length_append,hzl.out];rfl
        · rw [N5,hzl.out];exact hbk.setCell _ _
        · show _=_
          have hxB:x<B:=ex ▸ dx.get j _
          have:=dif_step j _ x 0 1 _ _ hxB E5 (Nat.le_refl _) hv.out
          rw [F9,hzl.out,B9 B xs j (by rw [Hn.out];omega),ex]
          simpa using this
       case measure=>simp [intOf];omega
     · obtain rfl:c2=0:=by omega
       have hfin:nL w b off xs ys cs (.returned (.tuple #[])) wr:=by
        have hz:=J6 B xs j (by rw [Hn.out];omega)
        have hlen:(zs++xs.drop j).length=n:=by rw [List.length_append,hzl.out,List.length_drop,Hn.out];omega
        have hcs:zs=[]\/off+j<=cs.size:=by
         rcases hx.le with h | h
         · left;rw [<- List.length_eq_zero_iff,hzl.out];rw [<- Hn.out,h] at hj;simpa using hj
         · right;rw [Hn.out] at h;omega
        refine ⟨zs++xs.drop j,Put cs off zs,rfl,hbk,⟨eM _ _ _,fun i hi=>J3 _ _ _ _ (by rw [hlen] at hi;rw [hzl.out];omega), ?_⟩,hg,hlen.trans Hn.out.symm,hzd.append (dx.drop j), ?_⟩
        · refine At.append ?_ ?_
          · rcases hcs with h | h
            · rw [h];exact At.nil _ _
            · exact iG _ _ _ (by rw [hzl.out];exact h)
          · rw [hzl.out];exact (hx.drop j).put_out (by rw [hzl.out];omega)
        · rw [L7,hzl.out]
          have hv:=hv.out
          rw [hz]
          simp only [Nat.zero_mul,Nat.add_zero] at hv
          omega
       have HF:=Lib.hid hfin
       clear hfin hzl hzd hbk hg hv hrest
       go_wp2_with fail
       go_end0
       exact HF.out
def K7 (a b:Nat):Int:=if a<b then -1 else if a=b then 0 else 1
theorem cT {a b:Nat} (h:a<b):K7 a b = -1:=by unfold K7;rw [if_pos h]
theorem hO {a b:Nat} (h:a=b):K7 a b=0:=by unfold K7;rw [if_neg (by omega),if_pos h]
theorem cU {a b:Nat} (h:b<a):K7 a b=1:=by unfold K7;rw [if_neg (by omega),if_neg (by omega)]
def Rdo (w:World) (sa:Option Addr) (xs:List Nat):Prop:=xs=[] \/ ∃ (b off:Nat) (cs:Array Value),sa=some ⟨b,off,none⟩/\Blk w b cs/\At cs off xs
theorem Rdo.get {w:World} {sa:Option Addr} {xs:List Nat} (h:Rdo w sa xs) (k:Nat) (hk:k<xs.length):∃ (b off:Nat) (cs:Array Value),sa=some ⟨b,off,none⟩/\Blk w b cs/\At cs off xs:=by
 rcases h with h | h
 · rw [h] at hk;simp at hk
 · exact h
theorem Rdo.cell {w:World} {sa:Option Addr} {xs:List Nat} (h:Rdo w sa xs) (hx : 0<xs.length):∃ (b off:Nat),sa=some ⟨b,off,none⟩ /\ ∀ k (hk:k<xs.length),w.cell? ⟨b,off+k,none⟩=some (.int .u64 (xs[k]:Int)):=by
 obtain ⟨b,off,cs,e,h1,h2⟩:=h.get 0 hx
 exact ⟨b,off,e,fun k hk=>h1.at h2 k hk⟩
def nU (w:World) (a b:Nat) (e:Ending) (w':World):Prop:=e = .returned (.int .i64 (K7 a b)) /\ ∃ q,w'=w.drewN q
set_option maxHeartbeats 1000000 in
theorem sD (w:World) (sa sb:Option Addr) (ca cb n m:Nat) (hlt:n<m) (hn:n<=1099511627776) (hm:m<=1099511627776) :
 Calls Tryd.prog 83 #[.slice sa n ca,.slice sb m cb] w fun e w'=>e = .returned (.int .i64 (-1))/\w=w':=by
 have h0:((n:Int) != (m:Int))=true:=by rw [bne_iff_ne];omega
 go_enter Tryd.func83,Tryd.ntmps83
 go_wp2_with fail
 go_ret
 exact ⟨rfl,rfl⟩
set_option maxHeartbeats 1000000 in
theorem sB (w:World) (sa sb:Option Addr) (ca cb n m:Nat) (hlt:m<n) (hn:n<=1099511627776) (hm:m<=1099511627776) :
 Calls Tryd.prog 83 #[.slice sa n ca,.slice sb m cb] w fun e w'=>e = .returned (.int .i64 1)/\w=w':=by
 have h0:((n:Int) != (m:Int))=true:=by rw [bne_iff_ne];omega
 go_enter Tryd.func83,Tryd.ntmps83
 go_wp2_with fail
 go_ret
 exact ⟨rfl,rfl⟩
set_option maxHeartbeats 1000000 in
theorem sA (w:World) (sa sb:Option Addr) (ca cb:Nat) (xs ys:List Nat) (n:Nat) (hx:Rdo w sa xs) (hy:Rdo w sb ys) (hl:xs.length=n) (hl2:ys.length=n) (hn:n<=1099511627776) (dx:Dig B xs) (dy:Dig B ys) :
 Calls Tryd.prog 83 #[.slice sa n ca,.slice sb n cb] w (nU w (val B xs) (val B ys)):=by
 have Hx:=Lib.hid hl
 have Hy:=Lib.hid hl2
 clear hl hl2
 go_enter Tryd.func83,Tryd.ntmps83
 go_wp2_with fail
 go_loopw [5] (fun i wr=>∃ (k q:Nat),k<=n/\i = .int .i64 ((k:Int)-1)/\wr=w.drewN q/\Hid (xs.drop k=ys.drop k)) (fun i _=>(intOf i+1).toNat)
 case atStart=>exact ⟨n,0,Nat.le_refl _,rfl,rfl,by show _=_;rw [List.drop_eq_nil_of_le (by rw [Hx.out];omega),List.drop_eq_nil_of_le (by rw [Hy.out];omega)]⟩
 case round=>
  obtain ⟨k,q,hk,rfl,rfl,hd⟩:=hrel
  by_cases h0:k=0
  · subst h0
    go_wp2_with fail
    go_ret
    exact ⟨by rw [hO (by have:=hd.out;simp at this;rw [this])];rfl,q,rfl⟩
  · obtain ⟨j,rfl⟩:∃ j,k=j+1:=⟨k-1,by omega⟩
    clear h0
    obtain ⟨b1,o1,rfl,c1⟩:=hx.cell (by rw [Hx.out];omega)
    obtain ⟨b2,o2,rfl,c2⟩:=hy.cell (by rw [Hy.out];omega)
    have c1:=c1 j (by rw [Hx.out];omega)
    have c2:=c2 j (by rw [Hy.out];omega)
    obtain ⟨x,ex⟩:∃ x,xs[j]'(by rw [Hx.out];omega)=x:=⟨_,rfl⟩
    obtain ⟨y,ey⟩:∃ y,ys[j]'(by rw [Hy.out];omega)=y:=⟨_,rfl⟩
    rw [ex] at c1
    rw [ey] at c2
    have e1:((j+1:Nat):Int)-1=(j:Int):=by omega
    rw [e1]
    clear e1
    have EX:=Lib.hid ex
    have EY:=Lib.hid ey
    clear ex ey
    by_cases hxy:x=y
    · have t:((x:Int) != (y:Int))=false:=by rw [bne_eq_false_iff_eq];omega
      go_wp2_with fail
      go_quiet (fail)
      go_wp2_with fail
      go_roundw
      case rel=>exact ⟨j,_,by omega,by go_num,rfl,by
       show _=_;rw [List.drop_eq_getElem_cons (by rw [Hx.out];omega),List.drop_eq_getElem_cons (l:=ys) (by rw [Hy.out];omega),EX.out,EY.out,hxy,hd.out]⟩
      case measure=>simp [intOf]
    · have t:((x:Int) != (y:Int))=true:=by rw [bne_iff_ne];omega
      by_cases hlt:x<y
      · have hv:=oL B xs ys j (by rw [Hx.out,Hy.out]) (by rw [Hx.out];omega) dx hd.out (by rw [EX.out,EY.out];exact hlt)
        have hC:=Lib.hid (cT hv)
        clear hv
        go_wp2_with fail
        go_quiet (fail)
        go_wp2_with fail
        go_quiet (fail)
        go_wp2_with fail
        go_ret
        exact ⟨by rw [hC.out];rfl,_,by rw [World.drewN_drewN,World.drewN_drewN]⟩
      · have hlt':y<x:=by omega
        have hv:=oL B ys xs j (by rw [Hx.out,Hy.out]) (by rw [Hy.out];omega) dy hd.out.symm (by rw [EX.out,EY.out];exact hlt')
        have hC:=Lib.hid (cU hv)
        clear hv
        go_wp2_with fail
        go_quiet (fail)
        go_wp2_with fail
        go_quiet (fail)
        go_wp2_with fail
        go_ret
        exact ⟨by rw [hC.out];rfl,_,by rw [World.drewN_drewN,World.drewN_drewN]⟩
def Sa (sa:Option Addr) (k:Nat):Option Addr:=if k=0 then none else sa
theorem bT {sa:Option Addr} {k:Nat} (h : 0<k):Sa sa k=sa:=by unfold Sa;rw [if_neg (by omega)]
def CutTo (w:World) (sa:Option Addr) (xs:List Nat) (e:Ending) (w':World):Prop:=
 ∃ k,k<=xs.length/\e = .returned (.slice (Sa sa k) k k)/\Top (xs.take k)/\val B (xs.take k)=val B xs/\w=w'
structure Lm (w:World) (sa:Option Addr) (xs:List Nat):Prop where
 rd:Rdo w sa xs
 nil:xs=[]->sa=none
 top:Top xs
 dig:Dig B xs
def NatV (w:World) (v:Value) (n:Nat):Prop:=∃ (sa:Option Addr) (xs:List Nat),v = .agg #[.slice sa xs.length xs.length]/\Lm w sa xs/\val B xs=n
theorem Rdo.kept {w w':World} {sa:Option Addr} {xs:List Nat} (h:Rdo w sa xs) (hg:w.grownBy w' none):Rdo w' sa xs:=by
 rcases h with h | ⟨b,off,cs,e,h1,h2⟩
 · exact Or.inl h
 · exact Or.inr ⟨b,off,cs,e,h1.kept hg (by simp),h2⟩
theorem Rdo.take {w:World} {sa:Option Addr} {xs:List Nat} (h:Rdo w sa xs) (k:Nat):Rdo w (Sa sa k) (xs.take k):=by
 by_cases hk:k=0
 · subst hk;exact Or.inl rfl
 · rw [bT (by omega)]
   rcases h with h | ⟨b,off,cs,e,h1,h2⟩
   · exact Or.inl (by rw [h];simp)
   · exact Or.inr ⟨b,off,cs,e,h1,h2.take k⟩
theorem Lm.kept {w w':World} {sa:Option Addr} {xs:List Nat} (h:Lm w sa xs) (hg:w.grownBy w' none):Lm w' sa xs:=⟨h.rd.kept hg,h.nil,h.top,h.dig⟩
theorem NatV.kept {w w':World} {v:Value} {n:Nat} (h:NatV w v n) (hg:w.grownBy w' none):NatV w' v n:=by
 obtain ⟨sa,xs,e,h1,h2⟩:=h
 exact ⟨sa,xs,e,h1.kept hg,h2⟩
theorem NatV.drewN {w:World} {v:Value} {n:Nat} (h:NatV w v n) (q:Nat):NatV (w.drewN q) v n:=h.kept (C1 _ _ _)
theorem Rdo.beside {w:World} {sa:Option Addr} {xs:List Nat} (h:Rdo w sa xs) {g:Nat} (hg:w.heap.size<=g):Rd w sa xs g:=by
 rcases h with h | ⟨b,off,cs,e,h1,h2⟩
 · exact Or.inl h
 · exact Or.inr ⟨b,off,cs,e,by have:=h1.lt;omega,h1,h2⟩
theorem Rd.kept {w w':World} {sa:Option Addr} {xs:List Nat} {g:Nat} (h:Rd w sa xs g) (hg:w.grownBy w' (some g)):Rd w' sa xs g:=by
 rcases h with h | ⟨b,off,cs,e,hne,h1,h2⟩
 · exact Or.inl h
 · exact Or.inr ⟨b,off,cs,e,hne,h1.kept hg (by simpa using hne),h2⟩
theorem Rd.kept_none {w w':World} {sa:Option Addr} {xs:List Nat} {g:Nat} (h:Rd w sa xs g) (hg:w.grownBy w' none):Rd w' sa xs g:=h.kept (grown_any hg)
theorem Rdo.of {w:World} {b off:Nat} {cs:Array Value} {xs:List Nat} (h:Blk w b cs) (k:At cs off xs):Rdo w (some ⟨b,off,none⟩) xs:=Or.inr ⟨b,off,cs,rfl,h,k⟩
def RetNat (w:World) (n:Nat) (e:Ending) (w':World):Prop:=∃ v,e = .returned v/\NatV w' v n/\w.grownBy w' none
theorem top_take (xs:List Nat) (k:Nat) (hk:k<xs.length) (h:xs[k]≠0):Top (xs.take (k+1)):=by
 intro x hx
 rw [List.take_succ_eq_append_getElem hk,List.getLast?_append] at hx
 simp at hx
 rw [<- hx];exact h
set_option maxHeartbeats 1000000 in
theorem cut_any (w:World) (sa:Option Addr) (cap:Nat) (xs:List Nat) (hx:Rdo w sa xs) (hn:xs.length<=1099511627776) (hcap:xs.length<=cap) :
 Calls Tryd.prog 101 #[.slice sa xs.length cap] w (CutTo w sa xs):=by
 generalize hl:xs.length=n at *
 have Hn:=Lib.hid hl
 clear hl
 go_enter Tryd.func101,Tryd.ntmps101
 go_wp2_with fail
 go_loopw [3] (fun i wr=>∃ (k:Nat),k<=n/\i = .int .i64 k/\w=wr/\Hid (val B (xs.take k)=val B xs)) (fun i _=>(intOf i).toNat)
 case atStart=>exact ⟨n,Nat.le_refl _,rfl,rfl,by show _=_;rw [<- Hn.out,List.take_length]⟩
 case round=>
  obtain ⟨k,hk,rfl,rfl,hv⟩:=hrel
  by_cases h0:k=0
  · subst h0
    have HF:Hid (CutTo w sa xs (.returned (.slice (Sa sa 0) 0 0)) w):=⟨0,Nat.zero_le _,rfl,by intro x hx;simp at hx,hv.out,rfl⟩
    go_wp2_with fail
    go_ret
    exact HF
  · obtain ⟨j,rfl⟩:∃ j,k=j+1:=⟨k-1,by omega⟩
    clear h0
    obtain ⟨b1,o1,rfl,c1⟩:=hx.cell (by rw [Hn.out];omega)
    have c1:=c1 j (by rw [Hn.out];omega)
    obtain ⟨x,ex⟩:∃ x,xs[j]'(by rw [Hn.out];omega)=x:=⟨_,rfl⟩
    rw [ex] at c1
    have EX:=Lib.hid ex
    clear ex
    by_cases hz:x=0
    · subst hz
      go_wp2_with fail
      go_roundw
      case rel=>exact ⟨j,by omega,by go_num,by trivial,by show _=_;rw [<- hv.out,B9 B xs j (by rw [Hn.out];omega),EX.out];omega⟩
      case measure=>simp [intOf]
    · have t:((x:Int) == 0)=false:=beq_eq_false_iff_ne.2 (by omega)
      have HF:Hid (CutTo w (some ⟨b1,o1,none⟩) xs (.returned (.slice (some ⟨b1,o1,none⟩) (j+1) (j+1))) w):=
       ⟨j+1,by rw [Hn.out];omega,rfl,top_take xs j (by rw [Hn.out];omega) (by rw [EX.out];exact hz),hv.out,rfl⟩
      have t2:((j:Int)+1 == 0)=false:=beq_eq_false_iff_ne.2 (by omega)
      go_wp2_with fail
      go_ret
      exact HF
def RetOwn (w:World) (sa:Option Addr) (n:Nat) (e:Ending) (w':World):Prop:=
 ∃ (s:Option Addr) (zs:List Nat),e = .returned (.agg #[.slice s zs.length zs.length])/\Lm w' s zs/\val B zs=n/\(s=none\/s=sa)/\w.grownBy w' none
def RetFresh (w:World) (n:Nat) (e:Ending) (w':World):Prop:=
 ∃ (s:Option Addr) (zs:List Nat),e = .returned (.agg #[.slice s zs.length zs.length])/\Lm w' s zs/\val B zs=n/\(∀ ad,s=some ad->w.heap.size<=ad.block)/\w.grownBy w' none
theorem RetFresh.nat {w:World} {n:Nat} {e:Ending} {w':World} (h:RetFresh w n e w'):RetNat w n e w':=by
 obtain ⟨s,zs,e1,h1,h2,_,h3⟩:=h
 exact ⟨_,e1,⟨s,zs,rfl,h1,h2⟩,h3⟩
set_option maxHeartbeats 1000000 in
theorem own_own (w:World) (sa:Option Addr) (cap:Nat) (xs:List Nat) (hx:Rdo w sa xs) (hn:xs.length<=1099511627776) (hcap:xs.length<=cap) (dx:Dig B xs) :
 Calls Tryd.prog 85 #[.slice sa xs.length cap] w (RetOwn w sa (val B xs)):=by
 go_enter Tryd.func85,Tryd.ntmps85
 go_wp2_with fail
 refine (cut_any _ sa cap xs (hx.kept (World.grownBy_alloc _ _ _)) hn hcap).mono ?_
 rintro e w' ⟨k,hk,rfl,ht,hv,rfl⟩
 go_wp2_with fail
 refine bodyPost_ret (v := .agg #[.slice (Sa sa k) k k]) (by simp [results,Tryd.results85,go_sem]) rfl ?_
 have hlen:(xs.take k).length=k:=by rw [List.length_take];omega
 refine ⟨Sa sa k,xs.take k,by rw [hlen],⟨?_, ?_,ht,dx.take k⟩,hv, ?_, ?_⟩
 · exact (hx.take k).kept (by repeat (first | exact World.grownBy_alloc _ _ _ | exact B5 _ _ | refine B1 ?_ _))
 · intro h;rw [h] at hlen;simp at hlen;rw [<- hlen];rfl
 · unfold Sa;split
   · exact Or.inl rfl
   · exact Or.inr rfl
 · exact World.grownBy_alloc _ _ _
theorem own_any (w:World) (sa:Option Addr) (cap:Nat) (xs:List Nat) (hx:Rdo w sa xs) (hn:xs.length<=1099511627776) (hcap:xs.length<=cap) (dx:Dig B xs) :
 Calls Tryd.prog 85 #[.slice sa xs.length cap] w (RetNat w (val B xs)):=by
 refine (own_own w sa cap xs hx hn hcap dx).mono ?_
 rintro e w' ⟨s,zs,e1,h1,h2,_,h3⟩
 exact ⟨_,e1,⟨s,zs,rfl,h1,h2⟩,h3⟩
theorem hZ (w:World) (cs:Array Value):Blk (w.alloc (.cells cs 52)) w.heap.size cs:=by
 show (w.heap.push _)[w.heap.size]?=_
 simp
theorem sF (w:World) (cs:Array Value) (g:Nat) (h:g=w.heap.size):Blk (w.alloc (.cells cs 52)) g cs:=by subst h;exact hZ w cs
theorem RetNat.after {w w1:World} {n:Nat} {e:Ending} {w':World} (h:RetNat w1 n e w') (hg:w.grownBy w1 none):RetNat w n e w':=by
 obtain ⟨v,e1,e2,e3⟩:=h
 exact ⟨v,e1,e2,A4 hg e3⟩
theorem res_kept {W w':World} (hg:W.grownBy w' none) {a:Addr} {v:Value} (h:W.cell? a=some v) (f:W.frozen? a=false):w'.cell? a=some v/\w'.frozen? a=false:=by
 have hlt:a.block<W.heap.size:=by
  rcases Nat.lt_or_ge a.block W.heap.size with h1 | h1
  · exact h1
  · simp [World.cell?,Array.getElem?_eq_none h1] at h
 exact ⟨hg.cell h (by simp),(World.frozen?_of_block (w:=W) (hg.block a.block hlt (by simp))).trans f⟩
theorem Blk.set_other {w:World} {b g:Nat} {cs c:Array Value} {t:TypeId} (h:Blk w b cs) (hbox:w.heap[g]?=some (.cells c t (0,0))) (ht:t≠52) (o:Nat) (u:Value):Blk (w.setCell ⟨g,o,none⟩ u) b cs:=by
 unfold Blk at *
 rw [Below.heap_setCell _ _ _ _ (by rintro rfl;rw [hbox] at h;simp at h;exact ht h.2)]
 exact h
theorem Rdo.set_other {w:World} {sa:Option Addr} {xs:List Nat} {g:Nat} {c:Array Value} {t:TypeId} (h:Rdo w sa xs) (hbox:w.heap[g]?=some (.cells c t (0,0))) (ht:t≠52) (o:Nat) (u:Value):Rdo (w.setCell ⟨g,o,none⟩ u) sa xs:=by
 rcases h with h | ⟨b,off,cs,e,h1,h2⟩
 · exact Or.inl h
 · exact Or.inr ⟨b,off,cs,e,h1.set_other hbox ht o u,h2⟩
theorem Lm.set_other {w:World} {sa:Option Addr} {xs:List Nat} {g:Nat} {c:Array Value} {t:TypeId} (h:Lm w sa xs) (hbox:w.heap[g]?=some (.cells c t (0,0))) (ht:t≠52) (o:Nat) (u:Value):Lm (w.setCell ⟨g,o,none⟩ u) sa xs:=⟨h.rd.set_other hbox ht o u,h.nil,h.top,h.dig⟩
theorem NatV.set_other {w:World} {v:Value} {n:Nat} {g:Nat} {c:Array Value} {t:TypeId} (h:NatV w v n) (hbox:w.heap[g]?=some (.cells c t (0,0))) (ht:t≠52) (o:Nat) (u:Value):NatV (w.setCell ⟨g,o,none⟩ u) v n:=by
 obtain ⟨sa,xs,e,h1,h2⟩:=h
 exact ⟨sa,xs,e,h1.set_other hbox ht o u,h2⟩
theorem A5 {w w':World} {g:Nat} {o:Obj} (hg:w.grownBy w' none) (h:w.heap[g]?=some o):w'.heap[g]?=some o:=
 (hg.block g (Array.getElem?_eq_some_iff.1 h).1 (by simp)).trans h
theorem A9 (w:World) (o:Obj) (g:Nat) (h:g=w.heap.size):(w.alloc o).heap[g]?=some o:=by
 subst h;show (w.heap.push o)[w.heap.size]?=_;simp
theorem eV {w w':World} {sa:Option Addr} {xs:List Nat} {n g:Nat} {c:Array Value} {t:TypeId} (hg:w.grownBy w' none) (hbox:w'.heap[g]?=some (.cells c t (0,0))) (ht:t≠52) (hl:w.heap.size<=g) (h:Lm w' sa xs) (hv:val B xs=n) (u:Value) :
 RetNat w n (.returned (.agg #[.slice sa xs.length xs.length])) (w'.setCell ⟨g,0,none⟩ u):=
 ⟨_,rfl,⟨sa,xs,rfl,h.set_other hbox ht 0 u,hv⟩,D2 hg (C2 (B5 _ _) _ _) hl⟩
set_option maxHeartbeats 1000000 in
theorem Of_any (w:World) (n:Nat) (hn:n<B) :
 Calls Tryd.prog 75 #[.int .u64 (n:Int)] w (RetNat w n):=by
 have hb:=sF (w.alloc (.cells #[.slice none 0 0] 27)) #[.int .u64 (n:Int)] (w.heap.size+1) (by simp)
 have hat:At #[.int .u64 (n:Int)] 0 [n]:=fun i hi=>by
  obtain rfl:i=0:=by simpa using hi
  rfl
 have Hv:=Lib.hid (show val B [n]=n by simp [val])
 go_enter Tryd.func75,Tryd.ntmps75
 go_wp2_with fail
 refine (own_any _ _ _ [n] (Rdo.of hb hat) (by simp) (by simp) (Dig.cons hn (Dig.nil _))).mono ?_
 rintro e w' ⟨v,rfl,⟨sa,xs,rfl,hl,hv⟩,hg⟩
 obtain ⟨hc,hf⟩:=res_kept hg (a:=⟨w.heap.size,0,none⟩) (v := .slice none 0 0) (by go_simp) (by go_simp)
 have hb2:=A5 hg (Below.heap_alloc _ _ w.heap.size (by simp) |>.trans (A9 w (.cells #[.slice none 0 0] 27) _ rfl))
 have hF:=Lib.hid (eV (w:=w) (A4 (B1 (World.grownBy_alloc _ _ _) _) hg) hb2 (by decide) (Nat.le_refl _) hl hv (.slice sa xs.length xs.length))
 rw [Hv.out] at hF
 clear hv hb2
 go_wp2_with fail
 exact bodyPost_ret (v := .agg #[.slice sa xs.length xs.length]) (by simp [results,Tryd.results75,go_sem,hc]) rfl hF.out
def Cloned (w:World) (xs:List Nat) (e:Ending) (w':World):Prop:=
 ∃ (g cap:Nat) (cs:Array Value),e = .returned (.slice (some ⟨g,0,none⟩) xs.length cap)/\w.heap.size<=g/\Blk w' g cs/\At cs 0 xs/\xs.length<=cap/\w.grownBy w' none
theorem iH (w:World):Calls Tryd.prog 103 #[.slice none 0 0] w fun e w'=>e = .returned (.slice none 0 0)/\w=w':=by
 have hnil:=fun w a l c=>Lib.run_eql_slice_nil (P:=Tryd.prog) w 25 52 a l c 0 0 Tryd.underlying25
 go_enter Tryd.func103,Tryd.ntmps103
 go_wp2_with fail
 go_ret
 exact ⟨rfl,rfl⟩
theorem Tryd.infoU64:(Tryd.prog.info? 52).map (fun i=>(i.zero,i.size,i.bytes))=some (some (.int .u64 0),1,8):=by kernel_rfl
theorem own_limbs {w:World} {base:Nat} {v:Value} {xs:List Nat} (h:w.ownsRow base 52 1 v xs.length (xs.map fun x:Nat=>Value.int .u64 (x:Int))) (h0 : 0<xs.length) :
 ∃ (g cap:Nat) (cs:Array Value),v = .slice (some ⟨g,0,none⟩) xs.length cap/\base<=g/\Blk w g cs/\At cs 0 xs/\xs.length<=cap/\cs.size=cap:=by
 obtain ⟨_,⟨_,h⟩ | ⟨g,cap,cur,hv,hg,hh,hle,hm,hs,ht⟩⟩:=h
 · omega
 · refine ⟨g,cap,cur,hv,hg,hh, ?_,hle,by simpa using hs⟩
   intro i hi
   have e1:(cur.toList.take (xs.length*1))[i]?=some (.int .u64 (xs[i]:Int)):=by rw [ht];simp [hi]
   rw [List.getElem?_take_of_lt (by omega)] at e1
   simpa using e1
set_option maxHeartbeats 1000000 in
theorem qS (w:World) (b off cap:Nat) (cs:Array Value) (xs:List Nat) (hb:Blk w b cs) (hx:At cs off xs) (h0 : 0<xs.length) (hn:xs.length<=1099511627776) :
 Calls Tryd.prog 103 #[.slice (some ⟨b,off,none⟩) xs.length cap] w (Cloned w xs):=by
 obtain ⟨i0,hi,hz0,hz1,hz2⟩:=info_parts Tryd.infoU64
 have hnil:=fun w a l c=>Lib.run_eql_slice_nil (P:=Tryd.prog) w 25 52 a l c 0 0 Tryd.underlying25
 go_enter Tryd.func103,Tryd.ntmps103
 have hat:∀ j u,(xs.map fun x:Nat=>Value.int .u64 (x:Int))[j]?=some u->w.cell? ((⟨b,off,none⟩:Addr).add j)=some u:=by
  intro j u hj
  rw [List.getElem?_map] at hj
  cases e:xs[j]? with
  | none=>rw [e] at hj;cases hj
  | some x=>
    rw [e] at hj
    obtain ⟨hlt,ex⟩:=List.getElem?_eq_some_iff.1 e
    have:=hb.at hx j hlt
    have e2:(⟨b,off,none⟩:Addr).add j=⟨b,off+j,none⟩:=by unfold Addr.add;split<;>simp_all
    rw [e2,this,ex];exact hj
 go_wp2_with (at_builtin;refine wpList_append_own _ rfl _ _ 25 rfl w.heap.size 52 i0 (.int .u64 0) 1 8 Tryd.underlying25 hi hz0 hz1 hz2 rfl (by decide) _ 0 [] rfl (World.ownsRow_made w #[] 0 (Nat.le_refl _) (by unfold maxLen;omega) rfl) ⟨b,off,none⟩ xs.length cap (xs.map fun x:Nat=>Value.int .u64 (x:Int)) rfl (by simp) ?h1 ?h2 ?h3 ?h4 ?h5 ?_)
 case h1=>intro j u hj;exact (World.grownBy_alloc w (.cells #[] 52) none).cell (hat j u hj) (by simp)
 case h2=>intro u hu;simp at hu;obtain ⟨a,_,rfl⟩:=hu;rfl
 case h3=>unfold maxLen;omega
 case h4=>omega
 case h5=>simp
 intro v' w1 hown hgrow _
 obtain ⟨g,cap',cs',hv',hge,hbk,hat',hle,_⟩:=own_limbs (base:=w.heap.size) (xs:=xs) (by simpa using hown) h0
 have HV:=Lib.hid hv'
 have hg2:w.grownBy w1 none:=D2 (World.grownBy_alloc w (.cells #[] 52) none) hgrow (Nat.le_refl _)
 clear hown hv' hgrow hat hb
 go_wp2_with fail
 go_ret
 exact ⟨g,cap',cs',by show Ending.returned v'=_;rw [HV.out],hge,hbk,hat',hle,hg2⟩
theorem aC {w:World} {g n:Nat} (h:w.ownsRow g 52 1 (.slice (some ⟨g,0,none⟩) n n) n (madeCells #[.int .u64 0] (n*1)).toList) :
 ∃ cs,Blk w g cs/\cs.size=n/\At cs 0 (List.replicate n 0):=by
 obtain ⟨_,⟨h,_⟩ | ⟨g',cap,cur,hv,hg,hh,hle,hm,hs,ht⟩⟩:=h
 · cases h
 · simp only [Value.slice.injEq,Option.some.injEq,Addr.mk.injEq] at hv
   obtain ⟨⟨rfl,_⟩,_,rfl⟩:=hv
   refine ⟨cur,hh,by simpa using hs, ?_⟩
   intro i hi
   rw [List.length_replicate] at hi
   have e1:(cur.toList.take (n*1))[i]?=some (.int .u64 0):=by
    rw [ht,Array.getElem?_toList]
    simp [madeCells,hi]
    rw [Nat.mod_one];rfl
   rw [List.getElem?_take_of_lt (by omega)] at e1
   simpa using e1
theorem at_splice {cs:Array Value} {xs:List Nat} {m:Nat} (h:At cs 0 (List.replicate m 0)) (hm:cs.size=m) (hl:xs.length<=m) :
 At (splice cs.toList 0 (xs.map fun x:Nat=>Value.int .u64 (x:Int))).toArray 0 (xs++List.replicate (m-xs.length) 0):=by
 intro i hi
 simp only [List.length_append,List.length_replicate] at hi
 simp only [splice,List.take_zero,List.nil_append,Nat.zero_add,List.length_map]
 rw [List.getElem?_toArray]
 by_cases h2:i<xs.length
 · rw [List.getElem?_append_left (by simpa using h2),List.getElem_append_left h2];simp [h2]
 · rw [List.getElem?_append_right (by simpa using h2),List.getElem_append_right (by omega)]
   have:=h i (by simp;omega)
   simp only [Nat.zero_add,List.getElem_replicate] at this
   simp only [List.length_map,List.getElem?_drop,List.getElem_replicate]
   rw [show xs.length+(i-xs.length)=i from by omega]
   simpa using this
theorem Lm.len {w:World} {sa:Option Addr} {xs:List Nat} (h:Lm w sa xs) {K:Nat} (hK:val B xs<B^K):xs.length<=K:=by
 rcases Nat.lt_or_ge K xs.length with h1 | h1
 · have h2:=fX B xs (by rintro rfl;simp at h1) h.top
   have h3:B^K<=B^(xs.length-1):=Nat.pow_le_pow_right E5 (by omega)
   omega
 · exact h1
theorem hat_limbs {w:World} {b off:Nat} {cs:Array Value} {xs:List Nat} (hb:Blk w b cs) (hx:At cs off xs) :
 ∀ j u,(xs.map fun x:Nat=>Value.int .u64 (x:Int))[j]?=some u->w.cell? ((⟨b,off,none⟩:Addr).add j)=some u:=by
 intro j u hj
 rw [List.getElem?_map] at hj
 cases e:xs[j]? with
 | none=>rw [e] at hj;cases hj
 | some x=>
   rw [e] at hj
   obtain ⟨hlt,ex⟩:=List.getElem?_eq_some_iff.1 e
   have:=hb.at hx j hlt
   have e2:(⟨b,off,none⟩:Addr).add j=⟨b,off+j,none⟩:=by unfold Addr.add;split<;>simp_all
   rw [e2,this,ex];exact hj
theorem one_limbs (xs:List Nat):∀ v ∈ (xs.map fun x:Nat=>Value.int .u64 (x:Int)),v.oneCell'=true:=by
 intro u hu;simp at hu;obtain ⟨a,_,rfl⟩:=hu;rfl
theorem addTo_at (w:World) (b off n cap:Nat) (xs:List Nat) (cs:Array Value) (sa:Option Addr) (m cap2:Nat) (ys:List Nat) (hn:xs.length=n) (hmm:ys.length=m)
 (hb:Blk w b cs) (hx:At cs off xs) (hs:Rd w sa ys b) (hl:m<=n) (hm:n<=1099511627776) (dx:Dig B xs) (dy:Dig B ys) :
 Calls Tryd.prog 102 #[.slice (some ⟨b,off,none⟩) n cap,.slice sa m cap2] w (tA w b off xs ys cs):=by
 subst hn;subst hmm;exact addTo_any w b off cap xs cs sa cap2 ys hb hx hs hl hm dx dy
theorem aX (w:World) (b off n cap:Nat) (xs:List Nat) (cs:Array Value) (sa:Option Addr) (m cap2:Nat) (ys:List Nat) (hn:xs.length=n) (hmm:ys.length=m)
 (hb:Blk w b cs) (hx:At cs off xs) (hs:Rd w sa ys b) (hl:m<=n) (hm:n<=1099511627776) (dx:Dig B xs) (dy:Dig B ys) (hle:val B ys<=val B xs) :
 Calls Tryd.prog 104 #[.slice (some ⟨b,off,none⟩) n cap,.slice sa m cap2] w (nL w b off xs ys cs):=by
 subst hn;subst hmm;exact qW w b off cap xs cs sa cap2 ys hb hx hs hl hm dx dy hle
theorem gM (w:World) (sa:Option Addr) (n cap:Nat) (xs:List Nat) (hl:xs.length=n) (hx:Rdo w sa xs) (hn:n<=1099511627776) (hcap:n<=cap) (dx:Dig B xs) :
 Calls Tryd.prog 85 #[.slice sa n cap] w (RetNat w (val B xs)):=by
 subst hl;exact own_any w sa cap xs hx hn hcap dx
theorem lH (w:World) (sa:Option Addr) (n cap:Nat) (xs:List Nat) (hl:xs.length=n) (hx:Rdo w sa xs) (hn:n<=1099511627776) (hcap:n<=cap) (dx:Dig B xs) :
 Calls Tryd.prog 85 #[.slice sa n cap] w (RetOwn w sa (val B xs)):=by
 subst hl;exact own_own w sa cap xs hx hn hcap dx
theorem ret_setF {w w':World} {sa:Option Addr} {xs:List Nat} {n g:Nat} {c:Array Value} {t:TypeId} (hg:w.grownBy w' none) (hbox:w'.heap[g]?=some (.cells c t (0,0))) (ht:t≠52) (hl:w.heap.size<=g) (h:Lm w' sa xs) (hv:val B xs=n) (hf:∀ ad,sa=some ad->w.heap.size<=ad.block) (u:Value) :
 RetFresh w n (.returned (.agg #[.slice sa xs.length xs.length])) (w'.setCell ⟨g,0,none⟩ u):=
 ⟨sa,xs,rfl,h.set_other hbox ht 0 u,hv,hf,D2 hg (C2 (B5 _ _) _ _) hl⟩
theorem fresh_of {s:Option Addr} {g n:Nat} (h:s=none\/s=some ⟨g,0,none⟩) (hg:n<=g):∀ ad,s=some ad->n<=ad.block:=by
 intro ad e
 rcases h with h | h
 · rw [h] at e;cases e
 · rw [h] at e;cases e;exact hg
theorem bN (w:World) (sa:Option Addr) (n cap:Nat) (xs:List Nat) (hl:xs.length=n) (hx:Rdo w sa xs) (hn:n<=1099511627776) (hcap:n<=cap) :
 Calls Tryd.prog 101 #[.slice sa n cap] w (CutTo w sa xs):=by
 subst hl;exact cut_any w sa cap xs hx hn hcap
theorem fW (w:World) (b off n cap:Nat) (cs:Array Value) (xs:List Nat) (hl:xs.length=n) (hb:Blk w b cs) (hx:At cs off xs) (h0 : 0<n) (hn:n<=1099511627776) :
 Calls Tryd.prog 103 #[.slice (some ⟨b,off,none⟩) n cap] w (Cloned w xs):=by
 subst hl;exact qS w b off cap cs xs hb hx h0 hn
theorem Blk.raw {w:World} {b:Nat} {cs:Array Value} (h:Blk w b cs):w.heap[b]?=some (.cells cs.toList.toArray 52 (0,0)):=h
theorem copy_pos {w:World} {ls:Option Addr} {lx:List Nat} (h:Rdo w ls lx) (g:Nat) : 0<(lx.map fun x:Nat=>Value.int .u64 (x:Int)).length ->
 some (⟨g,0,none⟩:Addr)=some ⟨g,0,none⟩ /\ ∃ ad,ls=some ad /\ ∀ j v,(lx.map fun x:Nat=>Value.int .u64 (x:Int))[j]?=some v->w.cell? (ad.add j)=some v:=by
 intro h0
 obtain ⟨b,off,cs,rfl,h1,h2⟩:=h.get 0 (by simpa using h0)
 exact ⟨rfl,_,rfl,hat_limbs h1 h2⟩
theorem copy_len {lx:List Nat} {n m:Nat} (hn:lx.length=n) (h:n<=m):(lx.map fun x:Nat=>Value.int .u64 (x:Int)).length=Nat.min n m:=by
 rw [List.length_map,hn];exact (Nat.min_eq_left h).symm
theorem copy_fit {lx:List Nat} {n m:Nat} {cs:Array Value} (hn:lx.length=n) (hs:cs.size=m) (h:n<=m) : 0+(lx.map fun x:Nat=>Value.int .u64 (x:Int)).length<=cs.toList.length:=by
 rw [List.length_map,hn,Array.length_toList,hs];omega
theorem J9 {w w1 w2:World} {g:Nat} (h:w.grownBy w1 none) (k:Below g w1 w2) (hg:w.heap.size<=g):w.grownBy w2 none:=
 ⟨k.os.trans h.os,k.tape.trans h.tape,k.output.trans h.output,Nat.le_trans h.size k.size,fun i hi hr=>(k.block i (by omega)).trans (h.block i hi hr)⟩
theorem Q4 {w w':World} {g b:Nat} {o:Obj} (k:Below g w w') (h:w.heap[b]?=some o) (hb:b<g):w'.heap[b]?=some o:=(k.block b hb).trans h
theorem Y2 {w w':World} {g b:Nat} {o:Obj} (k:w.grownBy w' (some g)) (h:w.heap[b]?=some o) (hb:b≠g):w'.heap[b]?=some o:=(k.block b (Array.getElem?_eq_some_iff.1 h).1 (by simpa using hb)).trans h
theorem B8 {w:World} {g:Nat} {v:Value} {t:TypeId} (h:w.heap[g]?=some (.cells #[v] t (0,0))):w.cell? ⟨g,0,none⟩=some v/\w.frozen? ⟨g,0,none⟩=false:=by
 constructor<;>simp [World.cell?,World.frozen?,h]
theorem val_pad (xs:List Nat):val B (xs++[0])=val B xs:=by rw [F9];simp
theorem carry_out {xs ys zs:List Nat} {c n:Nat} (dx:Dig B xs) (dy:Dig B ys) (hx:xs.length<=n) (hy:ys.length<=n) (h:val B zs+c*B^(n+1)=val B (xs++[0])+val B ys):val B zs=val B xs+val B ys:=by
 have h1:=Q2 B xs dx
 have h2:=Q2 B ys dy
 have h3:B^xs.length<=B^n:=Nat.pow_le_pow_right E5 hx
 have h4:B^ys.length<=B^n:=Nat.pow_le_pow_right E5 hy
 have h5:B^(n+1)=B^n*B:=Nat.pow_succ ..
 have h6:B^n*2<=B^n*B:=Nat.mul_le_mul_left _ (by unfold B;omega)
 rw [val_pad] at h
 rcases Nat.eq_zero_or_pos c with rfl | hc
 · simpa using h
 · have : 1*B^(n+1)<=c*B^(n+1):=Nat.mul_le_mul_right _ hc
   omega
theorem sizeU64:(Tryd.prog.info? 52).map (·.size)=some 1:=by kernel_rfl
set_option maxHeartbeats 2000000 in
theorem Add_core (w:World) (ls ss:Option Addr) (lx sx:List Nat) (va vb:Value) (hl:Lm w ls lx) (hs:Lm w ss sx) (n m:Nat) (hn:lx.length=n) (hm:sx.length=m) (hmn:m<=n) (hb:n<=1073741824)
 (hor:(va = .agg #[.slice ls n n]/\vb = .agg #[.slice ss m m] /\ ¬ n<m)\/(va = .agg #[.slice ss m m]/\vb = .agg #[.slice ls n n]/\m<n)) :
 Calls Tryd.prog 86 #[va,vb] w (RetFresh w (val B lx+val B sx)):=by
 have Hn:=Lib.hid hn
 have Hm:=Lib.hid hm
 clear hn hm
 obtain ⟨i0,hi,hz0,hz1,hz2⟩:=info_parts Tryd.infoU64
 rcases hor with ⟨rfl,rfl,ho⟩ | ⟨rfl,rfl,ho⟩
 all_goals
  go_enter Tryd.func86,Tryd.ntmps86
  go_wp2_with fail
  go_quiet (fail)
  go_wp2_with (first | (at_make;refine wpList_make_full _ rfl _ _ 25 rfl _ 52 i0 (.int .u64 0) 1 Tryd.underlying25 hi hz0 hz1 .i64 .i64 _ _ (n+1) rfl rfl (by omega) (by omega) (by rw [hz2];omega) (by unfold maxLen;omega) (Nat.le_refl _) ?_;intro w1 hown hg1;obtain ⟨cs,hb1,hsz,hat⟩:=aC hown;have HS:=Lib.hid hsz;clear hsz hown;simp only [World.heap_drewN,World.size_alloc] at hb1;have hgw:=A4 (A4 (B1 (B1 (World.grownBy_alloc w _ _) _) _) (C1 _ _ none)) hg1;have hbox1:=A5 hg1 (A9 ((w.alloc _).alloc _) _ (w.heap.size+1+1) (by simp))) | (with_reducible show wpList _ _ _ _ _ _;refine wpList_copy_splice (o:=⟨some 25,_,_,_,_,_⟩) rfl _ _ _ _ rfl 52 Tryd.underlying25 sizeU64 _ _ _ _ _ _ rfl rfl _ 0 cs.toList 52 hb1.raw (lx.map fun x:Nat=>Value.int .u64 (x:Int)) (copy_len Hn.out (Nat.le_succ n)) (copy_pos (hl.rd.kept hgw) _) (copy_fit Hn.out HS.out (Nat.le_succ n)) (one_limbs _) (w.heap.size+1+1+1) w1 (Below.refl _ _) (Nat.le_refl _) ?_;intro w2 hblk2 hbel2))
  have hat2:=at_splice hat HS.out (by rw [Hn.out];omega)
  rw [Hn.out,Nat.add_sub_cancel_left] at hat2
  have hgw2:=J9 hgw hbel2 (by omega)
  have hbox2:=Q4 hbel2 hbox1 (by omega)
  refine (addTo_at _ _ 0 (n+1) _ (lx++[0]) _ ss m _ sx (by rw [List.length_append,Hn.out];rfl) Hm.out hblk2.out hat2 (((hs.rd.beside (by omega)).kept_none hgw2)) (by omega) (by omega) (hl.dig.snoc E5) hs.dig).mono ?_
  rintro e w3 ⟨c,zs,cs3,rfl,hb3,hw3,hg3,hl3,hd3,hc3,hv3⟩
  have hbox3:=Y2 hg3 hbox2 (by omega)
  have hgw3:=D2 hgw2 hg3 (by omega)
  rw [List.length_append,Hn.out] at hl3 hv3
  have HV:=Lib.hid (carry_out hl.dig hs.dig (by rw [Hn.out];omega) (by rw [Hm.out];omega) hv3)
  have HL:=Lib.hid hl3
  clear hv3 hl3 hc3 hbox1 hbox2 hg1 hb1 hat hat2 hblk2 hbel2 hg3 hgw hgw2
  go_wp2_with fail
  refine (lH _ _ (n+1) _ zs HL.out (Rdo.of hb3 hw3.lies) (by omega) (Nat.le_refl _) hd3).mono ?_
  rintro e w4 ⟨sa,xs,rfl,hl4,hv4,hfr,hg4⟩
  have hbox4:=A5 hg4 hbox3
  obtain ⟨hc4,hf4⟩:=B8 hbox4
  have hF:=Lib.hid (ret_setF (A4 hgw3 hg4) hbox4 (by decide) (by omega) hl4 (hv4.trans HV.out) (fresh_of hfr (by omega)) (.slice sa xs.length xs.length))
  clear hv4 hbox4 hbox3 hg4 hgw3 hb3 hw3 hfr
  go_wp2_with fail
  exact bodyPost_ret (v := .agg #[.slice sa xs.length xs.length]) (by simp [results,Tryd.results86,go_sem,hc4]) rfl hF.out
theorem Add_fresh (w:World) (va vb:Value) (a b K:Nat) (ha:NatV w va a) (hb:NatV w vb b) (hK:K<=1073741824) (la:a<B^K) (lb:b<B^K) :
 Calls Tryd.prog 86 #[va,vb] w (RetFresh w (a+b)):=by
 obtain ⟨sa,xs,rfl,hx,rfl⟩:=ha
 obtain ⟨sb,ys,rfl,hy,rfl⟩:=hb
 have h1:=hx.len la
 have h2:=hy.len lb
 by_cases h:xs.length<ys.length
 · rw [Nat.add_comm]
   exact Add_core w sb sa ys xs _ _ hy hx _ _ rfl rfl (by omega) (by omega) (Or.inr ⟨rfl,rfl,h⟩)
 · exact Add_core w sa sb xs ys _ _ hx hy _ _ rfl rfl (by omega) (by omega) (Or.inl ⟨rfl,rfl,h⟩)
theorem kF (w:World) (va vb:Value) (a b K:Nat) (ha:NatV w va a) (hb:NatV w vb b) (hK:K<=1073741824) (la:a<B^K) (lb:b<B^K) :
 Calls Tryd.prog 86 #[va,vb] w (RetNat w (a+b)):=
 (Add_fresh w va vb a b K ha hb hK la lb).mono fun _ _ h=>h.nat
theorem R6 (w:World) (sa sb:Option Addr) (xs ys:List Nat) (hx:Lm w sa xs) (hy:Lm w sb ys) (hn:xs.length<=1099511627776) (hm:ys.length<=1099511627776) :
 Calls Tryd.prog 83 #[.slice sa xs.length xs.length,.slice sb ys.length ys.length] w (nU w (val B xs) (val B ys)):=by
 rcases Nat.lt_trichotomy xs.length ys.length with h | h | h
 · have:=I0 B E5 xs ys hx.dig hy.top h
   refine (sD w sa sb _ _ _ _ h hn hm).mono ?_
   rintro e w' ⟨rfl,rfl⟩
   exact ⟨by rw [cT this],0,rfl⟩
 · have:=sA w sa sb xs.length ys.length xs ys xs.length hx.rd hy.rd rfl h.symm hn hx.dig hy.dig
   rw [<- h]
   rw [<- h] at this
   exact this
 · have:=I0 B E5 ys xs hy.dig hx.top h
   refine (sB w sa sb _ _ _ _ h hn hm).mono ?_
   rintro e w' ⟨rfl,rfl⟩
   exact ⟨by rw [cU this],0,rfl⟩
set_option maxHeartbeats 1000000 in
theorem Cmp_any (w:World) (va vb:Value) (a b K:Nat) (ha:NatV w va a) (hb:NatV w vb b) (hK:K<=1073741824) (la:a<B^K) (lb:b<B^K) :
 Calls Tryd.prog 56 #[va,vb] w fun e w'=>e = .returned (.int .i64 (K7 a b))/\w.grownBy w' none:=by
 obtain ⟨sa,xs,rfl,hx,rfl⟩:=ha
 obtain ⟨sb,ys,rfl,hy,rfl⟩:=hb
 have h1:=hx.len la
 have h2:=hy.len lb
 have hgw:w.grownBy ((w.alloc (.cells #[.slice sa xs.length xs.length] 27)).alloc (.cells #[.slice sb ys.length ys.length] 27)) none:=B1 (World.grownBy_alloc _ _ _) _
 go_enter Tryd.func56,Tryd.ntmps56
 go_wp2_with fail
 refine (R6 _ sa sb xs ys (hx.kept hgw) (hy.kept hgw) (by omega) (by omega)).mono ?_
 rintro e w' ⟨rfl,q,rfl⟩
 go_wp2_with fail
 go_ret
 exact ⟨rfl,A4 hgw (C1 _ _ _)⟩
def kC (w:World) (n:Nat) (code:Int) (e:Ending) (w':World):Prop:=∃ v,e = .returned (.tuple #[v,.int .i64 code])/\NatV w' v n/\w.grownBy w' none
theorem NatV.zero (w:World):NatV w (.agg #[.slice none 0 0]) 0:=⟨none,[],rfl,⟨Or.inl rfl,fun _=>rfl,by intro x hx;simp at hx,Dig.nil _⟩,rfl⟩
theorem ret_setE {w w':World} {sa:Option Addr} {xs:List Nat} {n g:Nat} {c:Array Value} {t:TypeId} {code:Int} (hg:w.grownBy w' none) (hbox:w'.heap[g]?=some (.cells c t (0,0))) (ht:t≠52) (hl:w.heap.size<=g) (h:Lm w' sa xs) (hv:val B xs=n) (u:Value) :
 kC w n code (.returned (.tuple #[.agg #[.slice sa xs.length xs.length],.int .i64 code])) (w'.setCell ⟨g,0,none⟩ u):=
 ⟨_,rfl,⟨sa,xs,rfl,h.set_other hbox ht 0 u,hv⟩,D2 hg (C2 (B5 _ _) _ _) hl⟩
set_option maxHeartbeats 1000000 in
theorem Sub_less (w:World) (va vb:Value) (a b K:Nat) (ha:NatV w va a) (hb:NatV w vb b) (hK:K<=1073741824) (la:a<B^K) (lb:b<B^K) (hlt:a<b) :
 Calls Tryd.prog 87 #[va,vb] w (kC w 0 4):=by
 obtain ⟨sa,xs,rfl,hx,rfl⟩:=ha
 obtain ⟨sb,ys,rfl,hy,rfl⟩:=hb
 have h1:=hx.len la
 have h2:=hy.len lb
 have HC:=Lib.hid (cT hlt)
 clear hlt
 have hgw:w.grownBy (((w.alloc (.cells #[.slice sa xs.length xs.length] 27)).alloc (.cells #[.slice sb ys.length ys.length] 27)).alloc (.cells #[.slice none 0 0] 27)) none:=B1 (B1 (World.grownBy_alloc _ _ _) _) _
 go_enter Tryd.func87,Tryd.ntmps87
 go_wp2_with fail
 refine (R6 _ sa sb xs ys (hx.kept hgw) (hy.kept hgw) (by omega) (by omega)).mono ?_
 rintro e w' ⟨rfl,q,rfl⟩
 rw [HC.out]
 go_wp2_with fail
 exact bodyPost_ret (v := .tuple #[.agg #[.slice none 0 0],.int .i64 4]) (by simp [results,Tryd.results87,go_sem]) rfl ⟨_,rfl,NatV.zero _,D2 (g:=w.heap.size+1+1) (A4 hgw (C1 _ _ _)) (C2 (B5 _ _) _ _) (by omega)⟩
theorem kI {sa:Option Addr} {w:World} {xs:List Nat} (h:Lm w sa xs) (hp : 0<val B xs) : 0<xs.length:=by
 rcases Nat.eq_zero_or_pos xs.length with h0 | h0
 · rw [List.length_eq_zero_iff] at h0;subst h0;simp [val] at hp
 · exact h0
theorem cK {w:World} {sa sb:Option Addr} {xs ys:List Nat} (hx:Lm w sa xs) (hy:Lm w sb ys) (h:val B xs<=val B ys):xs.length<=ys.length:=by
 rcases Nat.lt_or_ge ys.length xs.length with h1 | h1
 · have:=I0 B E5 ys xs hy.dig hx.top h1;omega
 · exact h1
theorem qV (w:World):Calls Tryd.prog 104 #[.slice none 0 0,.slice none 0 0] w fun e w'=>e = .returned (.tuple #[])/\w=w':=by
 go_enter Tryd.func104,Tryd.ntmps104
 go_wp2_with fail
 refine wp_loop_rounds 1 ?_
 rw [rounds_succ]
 go_wp2_with fail
 refine wp_loop_rounds 1 ?_
 rw [rounds_succ]
 go_wp2_with fail
 go_end0
 exact ⟨rfl,rfl⟩
set_option maxHeartbeats 1000000 in
theorem bS (w:World) (va vb:Value) (a b K:Nat) (ha:NatV w va a) (hb:NatV w vb b) (hK:K<=1073741824) (la:a<B^K) (hle:b<=a) :
 Calls Tryd.prog 87 #[va,vb] w (kC w (a-b) 0):=by
 obtain ⟨sa,xs,rfl,hx,rfl⟩:=ha
 obtain ⟨sb,ys,rfl,hy,rfl⟩:=hb
 have h1:=hx.len la
 have h2:=cK hy hx hle
 have HD:=Lib.hid hle
 have hC : 0<=K7 (val B xs) (val B ys):=by
  rcases Nat.lt_or_ge (val B ys) (val B xs) with h | h
  · rw [cU h];omega
  · rw [hO (by omega)];omega
 generalize hcc:K7 (val B xs) (val B ys)=cc at hC
 have HC:=Lib.hid hcc
 clear hle hcc la
 have hgw:w.grownBy (((w.alloc (.cells #[.slice sa xs.length xs.length] 27)).alloc (.cells #[.slice sb ys.length ys.length] 27)).alloc (.cells #[.slice none 0 0] 27)) none:=B1 (B1 (World.grownBy_alloc _ _ _) _) _
 have hbox:=A9 ((w.alloc (.cells #[.slice sa xs.length xs.length] 27)).alloc (.cells #[.slice sb ys.length ys.length] 27)) (.cells #[.slice none 0 0] 27) (w.heap.size+1+1) (by simp)
 have hboxb:=(Below.heap_alloc _ (.cells #[.slice none 0 0] 27) (w.heap.size+1) (by simp)).trans (A9 (w.alloc (.cells #[.slice sa xs.length xs.length] 27)) (.cells #[.slice sb ys.length ys.length] 27) (w.heap.size+1) (by simp))
 by_cases h0:xs.length=0
 · obtain rfl:xs=[]:=List.length_eq_zero_iff.1 h0
   obtain rfl:ys=[]:=List.length_eq_zero_iff.1 (by simpa using h2)
   obtain rfl:=hx.nil rfl
   obtain rfl:=hy.nil rfl
   clear h0 h1 h2
   simp only [List.length_nil] at hgw hbox hboxb ⊢
   go_enter Tryd.func87,Tryd.ntmps87
   go_wp2_with fail
   refine (R6 _ none none [] [] (hx.kept hgw) (hy.kept hgw) (by simp) (by simp)).mono ?_
   rintro e w' ⟨rfl,q,rfl⟩
   rw [HC.out]
   go_wp2_with fail
   refine (iH _).mono ?_
   rintro e w' ⟨rfl,rfl⟩
   go_wp2_with fail
   refine (qV _).mono ?_
   rintro e w' ⟨rfl,rfl⟩
   go_wp2_with fail
   refine (gM _ none 0 0 [] rfl (Or.inl rfl) (by omega) (by omega) (Dig.nil _)).mono ?_
   rintro e w4 ⟨v,rfl,⟨sa,xs,rfl,hl4,hv4⟩,hg4⟩
   have hbox4:=A5 (A4 (C1 _ _ none) hg4) hbox
   obtain ⟨hc4,hf4⟩:=B8 hbox4
   have hF:=Lib.hid (ret_setE (w:=w) (n:=0) (code:=0) (A4 hgw (A4 (C1 _ _ none) hg4)) hbox4 (by decide) (by omega) hl4 hv4 (.slice sa xs.length xs.length))
   clear hv4 hbox4 hg4 hgw hbox hboxb
   go_wp2_with fail
   exact bodyPost_ret (v := .tuple #[.agg #[.slice sa xs.length xs.length],.int .i64 0]) (by simp [results,Tryd.results87,go_sem,hc4]) rfl hF.out
 · obtain ⟨b1,o1,cs1,rfl,hb1,hat1⟩:=hx.rd.get 0 (by omega)
   go_enter Tryd.func87,Tryd.ntmps87
   go_wp2_with fail
   refine (R6 _ (some ⟨b1,o1,none⟩) sb xs ys (hx.kept hgw) (hy.kept hgw) (by omega) (by omega)).mono ?_
   rintro e w' ⟨rfl,q,rfl⟩
   rw [HC.out]
   go_wp2_with fail
   refine (qS _ b1 o1 _ cs1 xs (hb1.kept (A4 hgw (C1 _ _ none)) (by simp)) hat1 (by omega) (by omega)).mono ?_
   rintro e w2 ⟨g,cap,cs2,rfl,hge,hb2,hat2,hcap,hg2⟩
   have hge':w.heap.size+1+1+1<=g:=by simpa using hge
   have hgw2:=A4 (A4 hgw (C1 _ q none)) hg2
   have hbox2:=A5 (A4 (C1 _ _ none) hg2) hbox
   obtain ⟨hcb,hfb⟩:=B8 (A5 (A4 (C1 _ _ none) hg2) hboxb)
   clear hge hg2 hbox hboxb
   obtain ⟨hc2,hf2⟩:=B8 hbox2
   go_wp2_with fail
   refine (aX _ g 0 _ _ xs cs2 sb _ _ ys rfl rfl hb2 hat2 ((hy.rd.beside (by omega)).kept_none hgw2) h2 (by omega) hx.dig hy.dig HD.out).mono ?_
   rintro e w3 ⟨zs,cs3,rfl,hb3,hw3,hg3,hl3,hd3,hv3⟩
   have hbox3:=Y2 hg3 hbox2 (by omega)
   have hgw3:=D2 hgw2 hg3 (by omega)
   have HV:=Lib.hid (show val B zs=val B xs-val B ys by omega)
   have HL:=Lib.hid hl3
   clear hv3 hl3 hbox2 hgw2 hg3 hb2 hat2 hc2 hf2 hcb hfb
   go_wp2_with fail
   refine (gM _ _ _ _ zs HL.out (Rdo.of hb3 hw3.lies) (by omega) (by omega) hd3).mono ?_
   rintro e w4 ⟨v,rfl,⟨sa,zs2,rfl,hl4,hv4⟩,hg4⟩
   have hbox4:=A5 hg4 hbox3
   obtain ⟨hc4,hf4⟩:=B8 hbox4
   have hF:=Lib.hid (ret_setE (code:=0) (A4 hgw3 hg4) hbox4 (by decide) (by omega) hl4 (hv4.trans HV.out) (.slice sa zs2.length zs2.length))
   clear hv4 hbox4 hbox3 hg4 hgw3 hb3 hw3
   go_wp2_with fail
   exact bodyPost_ret (v := .tuple #[.agg #[.slice sa zs2.length zs2.length],.int .i64 0]) (by simp [results,Tryd.results87,go_sem,hc4]) rfl hF.out
end Go.Proofs.YtamdnbbgpacfkaaDoor
