/- What the laws lean on, part 8. -/
import Derived.Below
import Derived.BigCall
import Derived.BigQuiet
import Derived.BigRegion
import Derived.Deep.AppendLies
import Derived.Deep.CutBlock
import Derived.Deep.CutRange
import Derived.Deep.DeepCutAuto
import Derived.Deep.DeepHandedRow
import Derived.Deep.LoopGhost
import Derived.Deep.MidRow
import Derived.Deep.QuietTactic
import Derived.Deep.RegionHeld3
import Derived.Deep.WholeRow
import Derived.Laws.AppendOwn
import Derived.Laws.CopyOwn
import Derived.Laws.Externs
import Derived.Laws.IdiomStrings
import Derived.Lib.BitFns
import Derived.Lib.Hide
import Derived.Lib.Slices
import Derived.Lib.Small
import Derived.Lib.Strings
import Derived.Lib.Walk
import Derived.LoopN
import Derived.OpenShut
import Derived.OrdersHeld
import Derived.OrdersIn
import Derived.Outline
import Derived.OwnWalk
import Derived.ProofKit
import Derived.RangeFuncCalls
import Derived.RangeFuncNested
import Derived.RangeFuncOwn
import Derived.Shelf.Bits.Mul64
import Derived.Shelf.Spec.TrailingZeros
import Derived.StillTailTactics
import Derived.WalkKit
import Derived.WalkLawsBesides
import Derived.WalkSpells
import Derived.Test.YtamdnbbgpacfkaaDoorProg
import Derived.Test.YtamdnbbgpacfkaaDoorRows
import Derived.Test.YtamdnbbgpacfkaaDoorMe5
import Derived.Test.YtamdnbbgpacfkaaDoorMe7
set_option linter.unusedVariables false
set_option linter.unusedSimpArgs false
set_option maxRecDepth 100000
namespace Go.Proofs.YtamdnbbgpacfkaaDoor
open Go.RowKit Mat Ex
def G0 (t:TypeId):Bool:=t == 52 || t == 3
theorem Rdo.keeps {W W':World} {sa:Option Addr} {xs:List Nat} (h:Rdo W sa xs) (k:Keeps G0 W W'):Rdo W' sa xs:=by
 rcases h with h | ⟨b,off,cs,e,h1,h2⟩
 · exact Or.inl h
 · exact Or.inr ⟨b,off,cs,e,k b cs _ _ rfl h1,h2⟩
theorem Lm.keeps {W W':World} {sa:Option Addr} {xs:List Nat} (h:Lm W sa xs) (k:Keeps G0 W W'):Lm W' sa xs:=⟨h.rd.keeps k,h.nil,h.top,h.dig⟩
theorem NatV.keeps {W W':World} {v:Value} {n:Nat} (h:NatV W v n) (k:Keeps G0 W W'):NatV W' v n:=by
 obtain ⟨sa,xs,e,h1,h2⟩:=h
 exact ⟨sa,xs,e,h1.keeps k,h2⟩
theorem IntV.keeps {W W':World} {v:Value} {z:Int} (h:IntV W v z) (k:Keeps G0 W W'):IntV W' v z:=by
 obtain ⟨sa,xs,b,e,h1,h2⟩:=h
 exact ⟨sa,xs,b,e,h1.keeps k,h2⟩
theorem RatV.keeps {W W':World} {v:Value} {r:Rat} (h:RatV W v r) (k:Keeps G0 W W'):RatV W' v r:=by
 obtain ⟨s,xs,b,s',xs',b',e,h1,h2⟩:=h
 exact ⟨s,xs,b,s',xs',b',e,h1.keeps k,h2.keeps k⟩
def D7 (cs:List Value) (c:Nat):Value:=E7 (.bool false) cs c
theorem B4 {cs:List Value} (h:∀ v ∈ cs,v.oneCell'=true) (c:Nat):(D7 cs c).oneCell'=true:=by
 unfold D7;rw [D8]
 cases hc:cs[c]? with
 | none=>rfl
 | some v=>exact h v (List.mem_of_getElem? hc)
abbrev Sp:=Ex.Spec G0
def sN (n:Nat):Sp := .of (.agg 1) (fun v W=>NatV W v n) (fun v W h=>by
 obtain ⟨sa,xs,rfl,_⟩:=h
 exact ⟨D7 [.slice sa xs.length xs.length],B4 (by simp [Value.oneCell']),rfl⟩) (fun v W W' k h=>h.keeps k)
def sI (z:Int):Sp := .of (.agg 2) (fun v W=>IntV W v z) (fun v W h=>by
 obtain ⟨sa,xs,b,rfl,_⟩:=h
 exact ⟨D7 [.slice sa xs.length xs.length,.bool b],B4 (by simp [Value.oneCell']),rfl⟩) (fun v W W' k h=>h.keeps k)
def sQ (r:Rat):Sp := .of (.agg 4) (fun v W=>RatV W v r) (fun v W h=>by
 obtain ⟨s,xs,b,s',xs',b',rfl,_⟩:=h
 exact ⟨D7 [.slice s xs.length xs.length,.bool b,.slice s' xs'.length xs'.length,.bool b'],B4 (by simp [Value.oneCell']),rfl⟩) (fun v W W' k h=>h.keeps k)
def sV (u:Value):Sp := .of (.lit u) (fun v _=>v=u) (fun v W h=>⟨fun _ => .bool false,fun _=>rfl,by rw [h];exact (T6 _ u).symm⟩) (fun _ _ _ _ h=>h)
def sVV (a b:Value):Sp := .of (.tup [(some a,0),(some b,0)]) (fun v _=>v = .tuple #[a,b]) (fun v W h=>⟨fun _ => .bool false,fun _=>rfl,h⟩) (fun _ _ _ _ h=>h)
theorem Y4 {u v:Value} {cs:List Value} (h:∀ x ∈ cs,x.oneCell'=true) {l:List (Option Value × Nat)} (e:v=(Sh.sv 0 (.tup l)).den ⟨fun _=>D7 cs,fun _=>0,fun _=>undef⟩):∃ f:Nat->Value,(∀ c,(f c).oneCell'=true)/\v=(Sh.sv 0 (.tup l)).den ⟨fun _=>f,fun _=>0,fun _=>undef⟩:=⟨_,B4 h,e⟩
def sNE (n:Nat) (c:Int):Sp := .of (.tup [(none,2),(some (.int .i64 c),0)]) (fun v W=>∃ u,v = .tuple #[u,.int .i64 c]/\NatV W u n) (fun v W h=>by
 obtain ⟨u,rfl,sa,xs,rfl,_⟩:=h
 exact Y4 (u := .bool true) (cs:=[.slice sa xs.length xs.length]) (by simp [Value.oneCell']) rfl) (fun v W W' k h=>by obtain ⟨u,e,h⟩:=h;exact ⟨u,e,h.keeps k⟩)
def sQE (r:Rat) (c:Int):Sp := .of (.tup [(none,5),(some (.int .i64 c),0)]) (fun v W=>∃ u,v = .tuple #[u,.int .i64 c]/\RatV W u r) (fun v W h=>by
 obtain ⟨u,rfl,s,xs,b,s',xs',b',rfl,_⟩:=h
 exact Y4 (u := .bool true) (cs:=[.slice s xs.length xs.length,.bool b,.slice s' xs'.length xs'.length,.bool b']) (by simp [Value.oneCell']) rfl) (fun v W W' k h=>by obtain ⟨u,e,h⟩:=h;exact ⟨u,e,h.keeps k⟩)
def sNN (n m:Nat):Sp := .of (.tup [(none,2),(none,2)]) (fun v W=>∃ u t,v = .tuple #[u,t]/\NatV W u n/\NatV W t m) (fun v W h=>by
 obtain ⟨u,t,rfl,⟨sa,xs,rfl,_⟩,sb,ys,rfl,_⟩:=h
 exact Y4 (u := .bool true) (cs:=[.slice sa xs.length xs.length,.slice sb ys.length ys.length]) (by simp [Value.oneCell']) rfl) (fun v W W' k h=>by obtain ⟨u,t,e,h,h'⟩:=h;exact ⟨u,t,e,h.keeps k,h'.keeps k⟩)
def sIIE (n m c:Int):Sp := .of (.tup [(none,3),(none,3),(some (.int .i64 c),0)]) (fun v W=>∃ u t,v = .tuple #[u,t,.int .i64 c]/\IntV W u n/\IntV W t m) (fun v W h=>by
 obtain ⟨u,t,rfl,⟨sa,xs,b,rfl,_⟩,sb,ys,d,rfl,_⟩:=h
 exact Y4 (u := .bool true) (cs:=[.slice sa xs.length xs.length,.bool b,.slice sb ys.length ys.length,.bool d]) (by simp [Value.oneCell']) rfl) (fun v W W' k h=>by obtain ⟨u,t,e,h,h'⟩:=h;exact ⟨u,t,e,h.keeps k,h'.keeps k⟩)
def sC (u:Value) (h:u.oneCell'=true):Sp := .of (.one) (fun v _=>v=u) (fun v W e=>⟨fun _=>u,fun _=>h,e⟩) (fun _ _ _ _ h=>h)
def sZ (n:Int):Sp:=sC (.int .i64 n) rfl
def sZB (n:Int) (b:Bool):Sp := .of (.tup [(none,0),(none,0)]) (fun v _=>v = .tuple #[.int .i64 n,.bool b]) (fun v W h=>Y4 (u := .bool true) (cs:=[.int .i64 n,.bool b]) (by simp [Value.oneCell']) h) (fun _ _ _ _ h=>h)
theorem zb1 {n:Int} {b:Bool} {u v:Value} {W:World} : (sZB n b).F (.tuple #[u,v]) W->u = .int .i64 n:=fun h=>by cases h;rfl
def sQC (r:Rat) (c:Int):Sp := .of (.tup [(none,5),(none,0)]) (fun v W=>∃ u,v = .tuple #[u,.int .i64 c]/\RatV W u r) (fun v W h=>by
 obtain ⟨u,rfl,s,xs,b,s',xs',b',rfl,_⟩:=h
 exact Y4 (u := .bool true) (cs:=[.slice s xs.length xs.length,.bool b,.slice s' xs'.length xs'.length,.bool b',.int .i64 c]) (by simp [Value.oneCell']) rfl) (fun v W W' k h=>by obtain ⟨u,e,h⟩:=h;exact ⟨u,e,h.keeps k⟩)
theorem qcE {r:Rat} {c:Int} {a b:Value} {w W:World} (h:(sQC r c).F (.tuple #[a,b]) W) (g:w.grownBy W none):cY w r c (.returned (.tuple #[a,b])) W:=by
 obtain ⟨u,e,h⟩:=h;cases e;exact ⟨_,rfl,h,g⟩
theorem qE {r:Rat} {c:Int} {a b:Value} {W:World} : (sQE r c).F (.tuple #[a,b]) W->RatV W a r:=by rintro ⟨u,e,h⟩;cases e;exact h
theorem nn1 {n m:Nat} {a b:Value} {W:World} : (sNN n m).F (.tuple #[a,b]) W->NatV W a n:=by rintro ⟨u,t,e,h,_⟩;cases e;exact h
theorem nn2 {n m:Nat} {a b:Value} {W:World} : (sNN n m).F (.tuple #[a,b]) W->NatV W b m:=by rintro ⟨u,t,e,_,h⟩;cases e;exact h
theorem iiE1 {n m c:Int} {a b d:Value} {W:World} : (sIIE n m c).F (.tuple #[a,b,d]) W->IntV W a n:=by rintro ⟨u,t,e,h,_⟩;cases e;exact h
theorem qn {W:World} {a b c d:Value} {r:Rat} : RatV W (.agg #[a,b,c,d]) r->IntV W (.agg #[a,b]) r.num:=by
 rintro ⟨s,xs,f,s',xs',f',e,h,h'⟩;cases e;exact h
theorem qd {W:World} {a b c d:Value} {r:Rat} : RatV W (.agg #[a,b,c,d]) r->IntV W (.agg #[c,d]) (dn r):=by
 rintro ⟨s,xs,f,s',xs',f',e,h,h'⟩;cases e;exact h'
theorem mkq {W:World} {a b c d:Value} {r:Rat} (h:IntV W (.agg #[a,b]) r.num) (h':IntV W (.agg #[c,d]) (dn r)):RatV W (.agg #[a,b,c,d]) r:=by
 obtain ⟨s,xs,f,e,h1⟩:=h
 obtain ⟨s',xs',f',e',h1'⟩:=h'
 cases e;cases e'
 exact ⟨s,xs,f,s',xs',f',rfl,⟨s,xs,f,rfl,h1⟩,s',xs',f',rfl,h1'⟩
theorem zn {W:World} {a b:Value} {z:Int} : IntV W (.agg #[a,b]) z->NatV W (.agg #[a]) z.natAbs:=by
 rintro ⟨s,xs,f,e,h,h',_⟩;cases e;exact ⟨s,xs,rfl,h,h'⟩
theorem mkz {W:World} {a:Value} {b:Bool} {z:Int} (h:NatV W (.agg #[a]) z.natAbs) (hb:b=true ↔ z<0):IntV W (.agg #[a,.bool b]) z:=by
 obtain ⟨s,xs,e,h1,h2⟩:=h
 cases e
 exact ⟨s,xs,b,rfl,h1,h2,hb⟩
section
variable {P:Program} {f:FuncId} {args:Array Value} {W:World}
theorem toV {u u':Value} (h:Calls P f args W (fun e w'=>e = .returned u/\W.grownBy w' none)) (e:u=u'):Calls P f args W (Ret W (sV u').F):=
 h.mono fun _ _ ⟨a,g⟩=>⟨u,a,e,g⟩
theorem toVV {a b a' b':Value} (h:Calls P f args W (fun e w'=>e = .returned (.tuple #[a,b])/\W.grownBy w' none)) (e:a=a') (e':b=b'):Calls P f args W (Ret W (sVV a' b').F):=
 h.mono fun _ _ ⟨a,g⟩=>⟨_,a,by rw [e,e'];rfl,g⟩
theorem toZB {n:Int} {b:Bool} (h:Calls P f args W (fun e w'=>e = .returned (.tuple #[.int .i64 n,.bool b])/\W.grownBy w' none)):Calls P f args W (Ret W (sZB n b).F):=
 h.mono fun _ _ ⟨a,g⟩=>⟨_,a,rfl,g⟩
theorem toQE {r:Rat} {c c':Int} (h:Calls P f args W (cY W r c)) (e:c=c'):Calls P f args W (Ret W (sQE r c').F):=
 h.mono fun _ _ ⟨v,a,h,g⟩=>⟨_,a,⟨v,by rw [e],h⟩,g⟩
theorem toQC {r:Rat} {c:Int} (h:Calls P f args W (cY W r c)):Calls P f args W (Ret W (sQC r c).F):=
 h.mono fun _ _ ⟨v,a,h,g⟩=>⟨_,a,⟨v,rfl,h⟩,g⟩
theorem toIIE {n m c c':Int} (h:Calls P f args W (bV W n m c)) (e:c=c'):Calls P f args W (Ret W (sIIE n m c').F):=
 h.mono fun _ _ ⟨v,u,a,h,h',g⟩=>⟨_,a,⟨v,u,by rw [e],h,h'⟩,g⟩
end
theorem arg1 {P:Program} {f:FuncId} {a b:Value} {w:World} {R:Ending->World->Prop} (e:a=b) (h:Calls P f #[b] w R):Calls P f #[a] w R:=e ▸ h
theorem V3 {P:Program} {f:FuncId} {l m:List Value} {w:World} {R:Ending->World->Prop} (e:l=m) (h:Calls P f m.toArray w R):Calls P f l.toArray w R:=e ▸ h
theorem B3:Tryd.prog.follows .mixedOrders=true:=by kernel_rfl
theorem fits_one {x:Int} (h:x=1):bW x:=by unfold bW;omega
theorem B7 {P:Program} {ρ : Operand->Value} {o:Oper} {op:BinOp} {t t':TypeId} {x y:Operand} {a b:Int} {v:Value} {W:World} (ho:o.op = .binOp op t x y t') (hx : ρ x = .int .i64 a) (hy : ρ y = .int .i64 b) (h:binOp op t (.int .i64 a) (.int .i64 b) = .pure v) :
 (execOp ρ o).run P W = .ok (.value v) W:=by
 have hg:eqGuard op t x y (.int .i64 a) (.int .i64 b)=pure ():=by unfold eqGuard;cases op<;>rfl
 simp only [execOp,ho,hx,hy,hg,h];rfl
theorem A1 {ρ : Operand->Value} {x y:Operand} {u v:Value} (h:[x,y].map ρ=[u,v]) : ρ x=u/\ρ y=v:=by simpa using h
def sNNE (n k:Nat) (c:Int):Sp := .of (.tup [(none,2),(none,2),(some (.int .i64 c),0)]) (fun v W=>∃ u t,v = .tuple #[u,t,.int .i64 c]/\NatV W u n/\NatV W t k) (fun v W h=>by
 obtain ⟨u,t,rfl,⟨s,xs,rfl,_⟩,s',xs',rfl,_⟩:=h
 exact Y4 (u := .bool true) (cs:=[.slice s xs.length xs.length,.slice s' xs'.length xs'.length]) (by simp [Value.oneCell']) rfl) (fun v W W' k h=>by obtain ⟨u,t,e,h,h'⟩:=h;exact ⟨u,t,e,h.keeps k,h'.keeps k⟩)
theorem nnE1 {n k:Nat} {c:Int} {a b d:Value} {W:World} : (sNNE n k c).F (.tuple #[a,b,d]) W->NatV W a n:=by rintro ⟨u,t,e,h,_⟩;cases e;exact h
theorem nnE2 {n k:Nat} {c:Int} {a b d:Value} {W:World} : (sNNE n k c).F (.tuple #[a,b,d]) W->NatV W b k:=by rintro ⟨u,t,e,_,h⟩;cases e;exact h
theorem toNNE {P:Program} {f:FuncId} {args:Array Value} {W:World} {n k:Nat} {c:Int} (h:Calls P f args W (nN W n k c)):Calls P f args W (Ret W (sNNE n k c).F):=h.mono fun _ _ ⟨v,u,a,h,h',g⟩=>⟨_,a,⟨v,u,rfl,h,h'⟩,g⟩
theorem toNE' {P:Program} {f:FuncId} {args:Array Value} {W:World} {n:Nat} {c:Int} (h:Calls P f args W (kC W n c)):Calls P f args W (Ret W (sNE n c).F):=h.mono fun _ _ ⟨v,a,h,g⟩=>⟨_,a,⟨v,rfl,h⟩,g⟩
theorem neE' {n:Nat} {c:Int} {a b:Value} {W:World} : (sNE n c).F (.tuple #[a,b]) W->NatV W a n:=by rintro ⟨u,e,h⟩;cases e;exact h
theorem zsb {W:World} {a b:Value} {z:Int} : IntV W (.agg #[a,b]) z->b = .bool (decide (z<0)):=by
 rintro ⟨s,xs,f,e,h,h',h2⟩
 cases e
 cases f
 · rw [decide_eq_false (fun z=>Bool.false_ne_true (h2.2 z))]
 · rw [decide_eq_true (h2.1 rfl)]
theorem gN {P:Program} {ρ : Operand->Value} {o:Oper} {t t':TypeId} {x y:Operand} {p q:Bool} {W:World} (ho:o.op = .binOp .neq t x y t') (hx : ρ x = .bool p) (hy : ρ y = .bool q) (hu:P.underlying t=some .bool):(execOp ρ o).run P W = .ok (.value (.bool (p != q))) W:=by
 have hg:eqGuard .neq t x y (.bool p) (.bool q)=pure ():=by unfold eqGuard;rfl
 have hb:binOp .neq t (.bool p) (.bool q)=(do pure (.bool (!(<- Op.equal t (.bool p) (.bool q))))):=by simp [binOp]
 have he:(Op.equal t (.bool p) (.bool q)).run P W = .ok (p == q) W:=by
  unfold Op.equal
  show Sem.run P (Op.equalIn (_+1) t (.bool p) (.bool q)) W=_
  rw [Op.equalIn,Sem.run_bind,run_underlying hu W]
  rfl
 simp only [execOp,ho,hx,hy,hg,hb,Sem.run_bind,Sem.run_pure,Result.andThen_ok,he]
 rfl
theorem sgn_neg {x:Int} : decide (x.sign<0)=decide (x<0):=by
 rcases Int.lt_trichotomy x 0 with h | h | h
 · rw [Int.sign_eq_neg_one_of_neg h,decide_eq_true h];rfl
 · rw [h];rfl
 · rw [Int.sign_eq_one_of_pos h];exact (decide_eq_false (by omega)).symm
theorem zar2 {P:Program} {f:FuncId} {u a b:Value} {w:World} {R:Ending->World->Prop} (e:a=b) (h:Calls P f #[u,b] w R):Calls P f #[u,a] w R:=e ▸ h
theorem ZFloor_low (w:World) (va vb:Value) (x y:Int) (K:Nat) (ha:IntV w va x) (hb:IntV w vb y) (hK:K<=900000) (la:x.natAbs<B^K) (lb:y.natAbs<B^K) (h0:y≠0) (hx:¬ x<0) :
 Calls Tryd.prog 92 #[va,vb] w (bV w (x / y) (x%y) 0):=by
 have hy : 0<y.natAbs:=by omega
 have lr:x.natAbs%y.natAbs<B^K:=Nat.lt_trans (Nat.mod_lt _ hy) lb
 have lq:x.natAbs / y.natAbs<B^K:=Nat.lt_of_le_of_lt (Nat.div_le_self _ _) la
 have lq1:x.natAbs / y.natAbs<B^(K+1):=Nat.lt_of_lt_of_le lq (Nat.pow_le_pow_right E5 (by omega))
 have lq2:x.natAbs / y.natAbs+1<B^(K+1):=by
  have:B^(K+1)=B^K*B:=Nat.pow_succ ..
  have:B^K*2<=B^K*B:=Nat.mul_le_mul_left _ (by unfold B;decide)
  omega
 have hd:=Nat.div_add_mod x.natAbs y.natAbs
 have hm:=Nat.mod_lt x.natAbs hy
 obtain ⟨q,hq⟩:∃ q,x.natAbs / y.natAbs=q:=⟨_,rfl⟩
 obtain ⟨r,hr'⟩:∃ r,x.natAbs%y.natAbs=r:=⟨_,rfl⟩
 rw [hq] at lq lq1 lq2 hd
 rw [hr'] at lr hd hm
 · skip
   have e:=gV (x:=x) (y:=y) (za:=decide (x<0)) (zb:=decide (y<0)) (by simp) (by simp) q r hm (.inl ⟨hx,hd⟩)
   refine A6 B3 Tryd.func92 [sI x,sI y] [sNNE q r 0,sZ x.sign,sV (.bool false),sC (.bool (decide (x<0) != decide (y<0))) rfl,sI (if (decide (x<0) != decide (y<0))=true then -((q:Nat):Int) else ((q:Nat):Int))] (.cons ha (.cons hb .nil)) (rs:=[cl 2 111 [ag 1 0,ag 1 1],cl 3 55 [ag 2 0],co 4 (.binOp .lss 3 (.tmp 25) (.const (.int .i64 0)) 3) 4 [on 3,.v false [.lit (.int .i64 0)]] [0,1,2,3] [],co 5 (.binOp .neq 4 (.tmp 44) (.tmp 46) 4) 4 [.v false [.an 0 1],.v false [.an 1 1]] [0,1,2,3,4] [],cl 6 57 [ag 1 2,on 5]]) (out := .tup [(true,[.an 6 0,.an 6 1]),(true,[.an 2 1,.lit (.bool false)]),(false,[.lit (.int .i64 0)])]) (nc:=7) (by kernel_rfl)
    ⟨fun σ W g h hb=>toNNE (hq ▸ hr' ▸ nT W _ _ _ _ K (zn (h 0 rfl)) (zn (h 1 rfl)) (by omega) la lb hy),
    fun σ W g h hb=>(F7 W _ x K (h 0 rfl) (by omega) la).mono fun _ _ ⟨a,g⟩=>⟨_,a,rfl,g⟩,
    fun σ W g h hb=>fun ρ o ho _ hv=>⟨_,B7 ho ((A1 hv).1.trans (h 3 rfl)) (A1 hv).2 rfl,congrArg Value.bool (sgn_neg.trans (decide_eq_false hx))⟩,
    fun σ W g h hb=>fun ρ o ho _ hv=>⟨_,gN ho ((A1 hv).1.trans (zsb (h 0 rfl))) ((A1 hv).2.trans (zsb (h 1 rfl))) Tryd.underlying4,rfl⟩,
    fun σ W g h hb=>zar2 (h 5 rfl) (F6 W _ q (K+1) _ (nnE1 (h 2 rfl)) (by omega) lq1),
    trivial⟩ fun τ W g h=>⟨_,_,rfl,e.1 ▸ h 6 rfl,e.2 ▸ mkz (nnE2 (h 2 rfl)) (by simp),g⟩
theorem ZFloor_even (w:World) (va vb:Value) (x y:Int) (K:Nat) (ha:IntV w va x) (hb:IntV w vb y) (hK:K<=900000) (la:x.natAbs<B^K) (lb:y.natAbs<B^K) (h0:y≠0) (hx:x<0) (hr0:x.natAbs%y.natAbs=0) :
 Calls Tryd.prog 92 #[va,vb] w (bV w (x / y) (x%y) 0):=by
 have hy : 0<y.natAbs:=by omega
 have lr:x.natAbs%y.natAbs<B^K:=Nat.lt_trans (Nat.mod_lt _ hy) lb
 have lq:x.natAbs / y.natAbs<B^K:=Nat.lt_of_le_of_lt (Nat.div_le_self _ _) la
 have lq1:x.natAbs / y.natAbs<B^(K+1):=Nat.lt_of_lt_of_le lq (Nat.pow_le_pow_right E5 (by omega))
 have lq2:x.natAbs / y.natAbs+1<B^(K+1):=by
  have:B^(K+1)=B^K*B:=Nat.pow_succ ..
  have:B^K*2<=B^K*B:=Nat.mul_le_mul_left _ (by unfold B;decide)
  omega
 have hd:=Nat.div_add_mod x.natAbs y.natAbs
 have hm:=Nat.mod_lt x.natAbs hy
 obtain ⟨q,hq⟩:∃ q,x.natAbs / y.natAbs=q:=⟨_,rfl⟩
 obtain ⟨r,hr'⟩:∃ r,x.natAbs%y.natAbs=r:=⟨_,rfl⟩
 rw [hq] at lq lq1 lq2 hd
 rw [hr'] at lr hd hm
 rw [hr'] at hr0
 have hr:¬ (0:Int)<nb r:=by rw [hr0];decide
 · skip
   have e:=gV (x:=x) (y:=y) (za:=decide (x<0)) (zb:=decide (y<0)) (by simp) (by simp) q r hm (.inr ⟨hx,by omega⟩)
   refine A6 B3 Tryd.func92 [sI x,sI y] [sNNE q r 0,sZ x.sign,sV (.bool true),sZ (nb r),sV (.bool false),sC (.bool (decide (x<0) != decide (y<0))) rfl,sI (if (decide (x<0) != decide (y<0))=true then -((q:Nat):Int) else ((q:Nat):Int))] (.cons ha (.cons hb .nil)) (rs:=[cl 2 111 [ag 1 0,ag 1 1],cl 3 55 [ag 2 0],co 4 (.binOp .lss 3 (.tmp 25) (.const (.int .i64 0)) 3) 4 [on 3,.v false [.lit (.int .i64 0)]] [0,1,2,3] [],cl 5 82 [.v true [.an 2 1]],co 6 (.binOp .gtr 3 (.tmp 29) (.const (.int .i64 0)) 3) 4 [on 5,.v false [.lit (.int .i64 0)]] [0,1,2,3,4,5] [],co 7 (.binOp .neq 4 (.tmp 44) (.tmp 46) 4) 4 [.v false [.an 0 1],.v false [.an 1 1]] [0,1,2,3,4,5,6] [],cl 8 57 [ag 1 2,on 7]]) (out := .tup [(true,[.an 8 0,.an 8 1]),(true,[.an 2 1,.lit (.bool false)]),(false,[.lit (.int .i64 0)])]) (nc:=9) (by kernel_rfl)
    ⟨fun σ W g h hb=>toNNE (hq ▸ hr' ▸ nT W _ _ _ _ K (zn (h 0 rfl)) (zn (h 1 rfl)) (by omega) la lb hy),
    fun σ W g h hb=>(F7 W _ x K (h 0 rfl) (by omega) la).mono fun _ _ ⟨a,g⟩=>⟨_,a,rfl,g⟩,
    fun σ W g h hb=>fun ρ o ho _ hv=>⟨_,B7 ho ((A1 hv).1.trans (h 3 rfl)) (A1 hv).2 rfl,congrArg Value.bool (sgn_neg.trans (decide_eq_true hx))⟩,
    fun σ W g h hb=>(bX W _ _ K (nnE2 (h 2 rfl)) (by omega) lr).mono fun _ _ ⟨a,g⟩=>⟨_,a,rfl,g⟩,
    fun σ W g h hb=>fun ρ o ho _ hv=>⟨_,B7 ho ((A1 hv).1.trans (h 5 rfl)) (A1 hv).2 rfl,congrArg Value.bool (decide_eq_false hr)⟩,
    fun σ W g h hb=>fun ρ o ho _ hv=>⟨_,gN ho ((A1 hv).1.trans (zsb (h 0 rfl))) ((A1 hv).2.trans (zsb (h 1 rfl))) Tryd.underlying4,rfl⟩,
    fun σ W g h hb=>zar2 (h 7 rfl) (F6 W _ q (K+1) _ (nnE1 (h 2 rfl)) (by omega) lq1),
    trivial⟩ fun τ W g h=>⟨_,_,rfl,e.1 ▸ h 8 rfl,e.2 ▸ mkz (nnE2 (h 2 rfl)) (by simp),g⟩
theorem ZFloor_odd (w:World) (va vb:Value) (x y:Int) (K:Nat) (ha:IntV w va x) (hb:IntV w vb y) (hK:K<=900000) (la:x.natAbs<B^K) (lb:y.natAbs<B^K) (h0:y≠0) (hx:x<0) (hr0 : 0<x.natAbs%y.natAbs) :
 Calls Tryd.prog 92 #[va,vb] w (bV w (x / y) (x%y) 0):=by
 have hy : 0<y.natAbs:=by omega
 have lr:x.natAbs%y.natAbs<B^K:=Nat.lt_trans (Nat.mod_lt _ hy) lb
 have lq:x.natAbs / y.natAbs<B^K:=Nat.lt_of_le_of_lt (Nat.div_le_self _ _) la
 have lq1:x.natAbs / y.natAbs<B^(K+1):=Nat.lt_of_lt_of_le lq (Nat.pow_le_pow_right E5 (by omega))
 have lq2:x.natAbs / y.natAbs+1<B^(K+1):=by
  have:B^(K+1)=B^K*B:=Nat.pow_succ ..
  have:B^K*2<=B^K*B:=Nat.mul_le_mul_left _ (by unfold B;decide)
  omega
 have hd:=Nat.div_add_mod x.natAbs y.natAbs
 have hm:=Nat.mod_lt x.natAbs hy
 obtain ⟨q,hq⟩:∃ q,x.natAbs / y.natAbs=q:=⟨_,rfl⟩
 obtain ⟨r,hr'⟩:∃ r,x.natAbs%y.natAbs=r:=⟨_,rfl⟩
 rw [hq] at lq lq1 lq2 hd
 rw [hr'] at lr hd hm
 rw [hr'] at hr0
 have hr:(0:Int)<nb r:=by have:=(gO hr0).2.2;omega
 · skip
   have e:=gV (x:=x) (y:=y) (za:=decide (x<0)) (zb:=decide (y<0)) (by simp) (by simp) (q+1) (y.natAbs-r) (by omega) (.inr ⟨hx,by rw [Nat.mul_add];omega⟩)
   refine A6 B3 Tryd.func92 [sI x,sI y] [sNNE q r 0,sZ x.sign,sV (.bool true),sZ (nb r),sV (.bool true),sN 1,sN (q+1),sNE (y.natAbs-r) 0,sC (.bool (decide (x<0) != decide (y<0))) rfl,sI (if (decide (x<0) != decide (y<0))=true then -(((q+1):Nat):Int) else (((q+1):Nat):Int))] (.cons ha (.cons hb .nil)) (rs:=[cl 2 111 [ag 1 0,ag 1 1],cl 3 55 [ag 2 0],co 4 (.binOp .lss 3 (.tmp 25) (.const (.int .i64 0)) 3) 4 [on 3,.v false [.lit (.int .i64 0)]] [0,1,2,3] [],cl 5 82 [.v true [.an 2 1]],co 6 (.binOp .gtr 3 (.tmp 29) (.const (.int .i64 0)) 3) 4 [on 5,.v false [.lit (.int .i64 0)]] [0,1,2,3,4,5] [],cl 7 75 [.v false [.lit (.int .u64 1)]],cl 8 86 [ag 1 2,ag 1 7],cl 9 87 [ag 1 1,.v true [.an 2 1]],co 10 (.binOp .neq 4 (.tmp 44) (.tmp 46) 4) 4 [.v false [.an 0 1],.v false [.an 1 1]] [0,1,2,3,4,5,6,7,8,9] [],cl 11 57 [ag 1 8,on 10]]) (out := .tup [(true,[.an 11 0,.an 11 1]),(true,[.an 9 0,.lit (.bool false)]),(false,[.lit (.int .i64 0)])]) (nc:=12) (by kernel_rfl)
    ⟨fun σ W g h hb=>toNNE (hq ▸ hr' ▸ nT W _ _ _ _ K (zn (h 0 rfl)) (zn (h 1 rfl)) (by omega) la lb hy),
    fun σ W g h hb=>(F7 W _ x K (h 0 rfl) (by omega) la).mono fun _ _ ⟨a,g⟩=>⟨_,a,rfl,g⟩,
    fun σ W g h hb=>fun ρ o ho _ hv=>⟨_,B7 ho ((A1 hv).1.trans (h 3 rfl)) (A1 hv).2 rfl,congrArg Value.bool (sgn_neg.trans (decide_eq_true hx))⟩,
    fun σ W g h hb=>(bX W _ _ K (nnE2 (h 2 rfl)) (by omega) lr).mono fun _ _ ⟨a,g⟩=>⟨_,a,rfl,g⟩,
    fun σ W g h hb=>fun ρ o ho _ hv=>⟨_,B7 ho ((A1 hv).1.trans (h 5 rfl)) (A1 hv).2 rfl,congrArg Value.bool (decide_eq_true hr)⟩,
    fun σ W g h hb=>Of_any W 1 (by unfold B;decide),
    fun σ W g h hb=>kF W _ _ q 1 (K+1) (nnE1 (h 2 rfl)) (h 7 rfl) (by omega) lq1 (Nat.one_lt_pow (by omega) (by unfold B;decide)),
    fun σ W g h hb=>toNE' (bS W _ _ _ _ K (zn (h 1 rfl)) (nnE2 (h 2 rfl)) (by omega) lb (by omega)),
    fun σ W g h hb=>fun ρ o ho _ hv=>⟨_,gN ho ((A1 hv).1.trans (zsb (h 0 rfl))) ((A1 hv).2.trans (zsb (h 1 rfl))) Tryd.underlying4,rfl⟩,
    fun σ W g h hb=>zar2 (h 10 rfl) (F6 W _ (q+1) (K+1) _ (h 8 rfl) (by omega) lq2),
    trivial⟩ fun τ W g h=>⟨_,_,rfl,e.1 ▸ h 11 rfl,e.2 ▸ mkz (neE' (h 9 rfl)) (by simp),g⟩
theorem ZFloor_run (w:World) (va vb:Value) (x y:Int) (K:Nat) (ha:IntV w va x) (hb:IntV w vb y) (hK:K<=900000) (la:x.natAbs<B^K) (lb:y.natAbs<B^K) (h0:y≠0) :
 Calls Tryd.prog 92 #[va,vb] w (bV w (x / y) (x%y) 0):=by
 by_cases hx:x<0
 · by_cases hr:x.natAbs%y.natAbs=0
   · exact ZFloor_even w va vb x y K ha hb hK la lb h0 hx hr
   · exact ZFloor_odd w va vb x y K ha hb hK la lb h0 hx (by omega)
 · exact ZFloor_low w va vb x y K ha hb hK la lb h0 hx
theorem Q7 (w:World) (va:Value) (x:Int) (K:Nat) (Ha:IntV w va x) (hK:K<=800000) (la:x.natAbs<B^K) :
 Calls Tryd.prog 30 #[va] w (E6 w x):=by
 refine A6 B3 Tryd.func30 [sI x] [sI x] (.cons Ha .nil) (rs:=[cl 1 31 [ag 2 0,.v true [.lit (.slice none 0 0),.lit (.bool false)]]]) (out:=ag 2 1) (nc:=2) (by kernel_rfl)
  ⟨fun σ W g h hb=>Int.add_zero x ▸ nI W _ _ x 0 K (h 0 rfl) (IntV.zero W) (by omega) la (Nat.pow_pos E5),
  trivial⟩ fun τ W g h=>⟨_,rfl,h 1 rfl,g⟩
theorem P5 (w:World) (va:Value) (x:Int) (K:Nat) (Ha:IntV w va x) (hK:K<=800000) (la:x.natAbs<B^K) :
 Calls Tryd.prog 88 #[va] w (RetB w (decide (x=1))):=by
 by_cases h1:x=1
 · skip
   rw [decide_eq_true h1]
   refine A6 B3 Tryd.func88 [sI x] [sVV (.int .i64 1) (.bool true)] (.cons Ha .nil) (rs:=[cl 1 105 [ag 2 0]]) (out := .v false [.lit (.bool true)]) (nc:=2) (by kernel_rfl)
    ⟨fun σ W g h hb=>toVV (nG W _ x K (h 0 rfl) (by omega) la) (by rw [if_pos (fits_one h1),h1]) (by rw [decide_eq_true (fits_one h1)]),
    trivial⟩ fun τ W g h=>⟨rfl,g⟩
 · skip
   rw [decide_eq_false h1]
   have hn:(if bW x then x else 0)≠1:=by split<;>omega
   refine A6 B3 Tryd.func88 [sI x] [sZB (if bW x then x else 0) (decide (bW x)),sV (.bool false)] (.cons Ha .nil) (rs:=[cl 1 105 [ag 2 0],co 2 (.binOp .eql 3 (.tmp 10) (.const (.int .i64 1)) 3) 4 [on 1,.v false [.lit (.int .i64 1)]] [0,1] []]) (out := .v false [.lit (.bool false)]) (nc:=3) (by kernel_rfl)
    ⟨fun σ W g h hb=>toZB (nG W _ x K (h 0 rfl) (by omega) la),
    fun σ W g h hb=>fun ρ o ho _ hv=>⟨_,B7 ho ((A1 hv).1.trans (zb1 (h 1 rfl))) (A1 hv).2 rfl,congrArg Value.bool (beq_eq_false_iff_ne.2 hn)⟩,
    trivial⟩ fun τ W g h=>⟨rfl,g⟩
theorem H4 (w:World) (va vb:Value) (x y:Int) (K:Nat) (Ha:IntV w va x) (Hb:IntV w vb y) (hK:K<=800000) (la:x.natAbs<B^K) (lb:y.natAbs<B^K) (h0 : 0<y) :
 Calls Tryd.prog 62 #[va,vb] w (E6 w (x / y)):=by
 by_cases h1:y=1
 · skip
   rw [h1,Int.ediv_one]
   refine A6 B3 Tryd.func62 [sI x,sI y] [sV (.bool true)] (.cons Ha (.cons Hb .nil)) (rs:=[cl 2 88 [ag 2 1]]) (out:=ag 2 0) (nc:=3) (by kernel_rfl)
    ⟨fun σ W g h hb=>toV (P5 W _ y K (h 1 rfl) hK lb) (by rw [decide_eq_true h1]),
    trivial⟩ fun τ W g h=>⟨_,rfl,h 0 rfl,g⟩
 · skip
   refine A6 B3 Tryd.func62 [sI x,sI y] [sV (.bool false),sIIE (x / y) (x%y) 0] (.cons Ha (.cons Hb .nil)) (rs:=[cl 2 88 [ag 2 1],cl 3 92 [ag 2 0,ag 2 1]]) (out:=ag 2 3) (nc:=4) (by kernel_rfl)
    ⟨fun σ W g h hb=>toV (P5 W _ y K (h 1 rfl) hK lb) (by rw [decide_eq_false h1]),
    fun σ W g h hb=>toIIE (ZFloor_run W _ _ x y K (h 0 rfl) (h 1 rfl) (by omega) la lb (by omega)) rfl,
    trivial⟩ fun τ W g h=>⟨_,rfl,iiE1 (h 3 rfl),g⟩
theorem cP {a b k:Nat} (ha:a<B^k) (hb:b<B^k):Nat.gcd a b<B^k:=by
 rcases Nat.eq_zero_or_pos a with h | h
 · rw [h,Nat.gcd_zero_left];exact hb
 · exact Nat.lt_of_le_of_lt (Nat.gcd_le_left _ h) ha
theorem O6 (w:World) (va vb:Value) (x y:Int) (K:Nat) (Ha:IntV w va x) (Hb:IntV w vb y) (hK:K<=800000) (la:x.natAbs<B^K) (lb:y.natAbs<B^K) (hT:Tab w) :
 Calls Tryd.prog 61 #[va,vb] w (E6 w ((Nat.gcd x.natAbs y.natAbs:Nat):Int)):=by
 rcases (show x=1\/(x≠1/\y=1)\/(x≠1/\y≠1) by omega) with h1 | ⟨h1,h2⟩ | ⟨h1,h2⟩
 · skip
   rw [h1,show Int.natAbs 1=1 from rfl,Nat.gcd_one_left]
   refine A6 B3 Tryd.func61 [sI x,sI y] [sV (.bool true),sI 1] (.cons Ha (.cons Hb .nil)) (rs:=[cl 2 88 [ag 2 0],cl 3 44 [.v false [.lit (.int .i64 1)]]]) (out:=ag 2 3) (nc:=4) (by kernel_rfl)
    ⟨fun σ W g h hb=>toV (P5 W _ x K (h 0 rfl) hK la) (by rw [decide_eq_true h1]),
    fun σ W g h hb=>cX W 1 (by omega) (by omega),
    trivial⟩ fun τ W g h=>⟨_,rfl,h 3 rfl,g⟩
 · skip
   rw [h2,show Int.natAbs 1=1 from rfl,Nat.gcd_one_right]
   refine A6 B3 Tryd.func61 [sI x,sI y] [sV (.bool false),sV (.bool true),sI 1] (.cons Ha (.cons Hb .nil)) (rs:=[cl 2 88 [ag 2 0],cl 3 88 [ag 2 1],cl 4 44 [.v false [.lit (.int .i64 1)]]]) (out:=ag 2 4) (nc:=5) (by kernel_rfl)
    ⟨fun σ W g h hb=>toV (P5 W _ x K (h 0 rfl) hK la) (by rw [decide_eq_false h1]),
    fun σ W g h hb=>toV (P5 W _ y K (h 1 rfl) hK lb) (by rw [decide_eq_true h2]),
    fun σ W g h hb=>cX W 1 (by omega) (by omega),
    trivial⟩ fun τ W g h=>⟨_,rfl,h 4 rfl,g⟩
 · skip
   refine A6 B3 Tryd.func61 [sI x,sI y] [sV (.bool false),sV (.bool false),sN x.natAbs,sN y.natAbs,sN (Nat.gcd x.natAbs y.natAbs),sI (Nat.gcd x.natAbs y.natAbs:Nat)] (.cons Ha (.cons Hb .nil)) (rs:=[cl 2 88 [ag 2 0],cl 3 88 [ag 2 1],cl 4 90 [ag 2 0],cl 5 90 [ag 2 1],cl 6 91 [ag 1 4,ag 1 5],cl 7 89 [ag 1 6]]) (out:=ag 2 7) (nc:=8) (by kernel_rfl)
    ⟨fun σ W g h hb=>toV (P5 W _ x K (h 0 rfl) hK la) (by rw [decide_eq_false h1]),
    fun σ W g h hb=>toV (P5 W _ y K (h 1 rfl) hK lb) (by rw [decide_eq_false h2]),
    fun σ W g h hb=>Abs_any W _ x K (h 0 rfl) (by omega) la,
    fun σ W g h hb=>Abs_any W _ y K (h 1 rfl) (by omega) lb,
    fun σ W g h hb=>Gcd_any W _ _ x.natAbs y.natAbs K (h 4 rfl) (h 5 rfl) (by omega) la lb (hT.kept g (by simp)),
    fun σ W g h hb=>Big_any W _ _ K (h 6 rfl) (by omega) (cP la lb),
    trivial⟩ fun τ W g h=>⟨_,rfl,h 7 rfl,g⟩
theorem ldi {n K:Nat} (h:n<B^K):((n:Nat):Int).natAbs<B^K:=by rw [Int.natAbs_natCast];exact h
theorem dn_one {r:Rat} (h:r.den=1):dn r=0:=by unfold dn;rw [if_pos h]
theorem jV {r:Rat} (h:r.den≠1):dn r=(r.den:Int):=by unfold dn;rw [if_neg h]
theorem dn_sign {r:Rat} (h:r.den≠1):(dn r).sign=1:=by
 rw [jV h];exact Int.sign_eq_one_of_pos (by have:=r.den_pos;omega)
theorem dB (w:World) (va vb:Value) (r:Rat) (K:Nat) (Ha:IntV w va r.num) (Hb:IntV w vb (r.den:Int)) (hK:K<=800000) (lb:r.den<B^K) :
 Calls Tryd.prog 63 #[va,vb] w (S2 w r):=by
 by_cases h1:r.den=1
 · skip
   refine A6 B3 Tryd.func63 [sI r.num,sI (r.den:Int)] [sV (.bool true)] (.cons Ha (.cons Hb .nil)) (rs:=[cl 2 88 [ag 2 1]]) (out := .v true [.an 0 0,.an 0 1,.lit (.slice none 0 0),.lit (.bool false)]) (nc:=3) (by kernel_rfl)
    ⟨fun σ W g h hb=>toV (P5 W _ _ K (h 1 rfl) hK (ldi lb)) (by rw [decide_eq_true (by omega)]),
    trivial⟩ fun τ W g h=>⟨_,rfl,mkq (h 0 rfl) (by rw [dn_one h1];exact IntV.zero W),g⟩
 · skip
   refine A6 B3 Tryd.func63 [sI r.num,sI (r.den:Int)] [sV (.bool false)] (.cons Ha (.cons Hb .nil)) (rs:=[cl 2 88 [ag 2 1]]) (out := .v true [.an 0 0,.an 0 1,.an 1 0,.an 1 1]) (nc:=3) (by kernel_rfl)
    ⟨fun σ W g h hb=>toV (P5 W _ _ K (h 1 rfl) hK (ldi lb)) (by rw [decide_eq_false (by omega)]),
    trivial⟩ fun τ W g h=>⟨_,rfl,mkq (h 0 rfl) (by rw [jV h1];exact h 1 rfl),g⟩
theorem C3 (w:World) (va:Value) (r:Rat) (K:Nat) (Ha:RatV w va r) (hK:K<=800000) (ld:r.den<B^K) :
 Calls Tryd.prog 25 #[va] w (RetB w (decide (r.den=1))):=by
 by_cases h1:r.den=1
 · skip
   rw [decide_eq_true h1]
   refine A6 B3 Tryd.func25 [sQ r] [sV (.int .i64 0)] (.cons Ha .nil) (rs:=[cl 1 55 [.v true [.an 0 2,.an 0 3]]]) (out := .v false [.lit (.bool true)]) (nc:=2) (by kernel_rfl)
    ⟨fun σ W g h hb=>toV (F7 W _ (dn r) K (qd (h 0 rfl)) (by omega) (dn_bd ld)) (by rw [dn_one h1];rfl),
    trivial⟩ fun τ W g h=>⟨rfl,g⟩
 · skip
   rw [decide_eq_false h1]
   refine A6 B3 Tryd.func25 [sQ r] [sV (.int .i64 1)] (.cons Ha .nil) (rs:=[cl 1 55 [.v true [.an 0 2,.an 0 3]]]) (out := .v false [.lit (.bool false)]) (nc:=2) (by kernel_rfl)
    ⟨fun σ W g h hb=>toV (F7 W _ (dn r) K (qd (h 0 rfl)) (by omega) (dn_bd ld)) (by rw [dn_sign h1]),
    trivial⟩ fun τ W g h=>⟨rfl,g⟩
theorem D5 (w:World) (va:Value) (r:Rat) (K:Nat) (Ha:RatV w va r) (hK:K<=800000) (ln:r.num.natAbs<B^K) :
 Calls Tryd.prog 51 #[va] w (fun e w'=>e = .returned (.int .i64 r.num.sign)/\w.grownBy w' none):=by
 refine A6 B3 Tryd.func51 [sQ r] [sZ r.num.sign] (.cons Ha .nil) (rs:=[cl 1 55 [ag 2 0]]) (out:=on 1) (nc:=2) (by kernel_rfl)
  ⟨fun σ W g h hb=>F7 W _ _ K (qn (h 0 rfl)) (by omega) ln |>.mono fun _ _ ⟨a,g⟩=>⟨_,a,rfl,g⟩,
  trivial⟩ fun τ W g h=>⟨congrArg Ending.returned (h 1 rfl),g⟩
theorem D4 (w:World) (va:Value) (r:Rat) (K:Nat) (Ha:RatV w va r) (hK:K<=800000) (ld:r.den<B^K) :
 Calls Tryd.prog 28 #[va] w (E6 w (r.den:Int)):=by
 by_cases h1:r.den=1
 · skip
   rw [h1]
   refine A6 B3 Tryd.func28 [sQ r] [sV (.bool true),sI 1] (.cons Ha .nil) (rs:=[cl 1 25 [ag 4 0],cl 2 44 [.v false [.lit (.int .i64 1)]]]) (out:=ag 2 2) (nc:=3) (by kernel_rfl)
    ⟨fun σ W g h hb=>toV (C3 W _ r K (h 0 rfl) (by omega) ld) (by rw [decide_eq_true h1]),
    fun σ W g h hb=>cX W 1 (by omega) (by omega),
    trivial⟩ fun τ W g h=>⟨_,rfl,h 2 rfl,g⟩
 · skip
   refine A6 B3 Tryd.func28 [sQ r] [sV (.bool false)] (.cons Ha .nil) (rs:=[cl 1 25 [ag 4 0]]) (out := .v true [.an 0 2,.an 0 3]) (nc:=2) (by kernel_rfl)
    ⟨fun σ W g h hb=>toV (C3 W _ r K (h 0 rfl) (by omega) ld) (by rw [decide_eq_false h1]),
    trivial⟩ fun τ W g h=>⟨_,rfl,jV h1 ▸ qd (h 0 rfl),g⟩
theorem sU (w:World) (va:Value) (x:Int) (K:Nat) (Ha:IntV w va x) (hK:K<=800000) (la:x.natAbs<B^K) :
 Calls Tryd.prog 66 #[va] w (S2 w (x:Rat)):=by
 refine A6 B3 Tryd.func66 [sI x] [sI x] (.cons Ha .nil) (rs:=[cl 1 30 [ag 2 0]]) (out := .v true [.an 1 0,.an 1 1,.lit (.slice none 0 0),.lit (.bool false)]) (nc:=2) (by kernel_rfl)
  ⟨fun σ W g h hb=>Q7 W _ _ K (h 0 rfl) hK la,
  trivial⟩ fun τ W g h=>⟨_,rfl,mkq (by rw [Rat.num_intCast];exact h 1 rfl) (by rw [dn_int];exact IntV.zero W),g⟩
theorem toZ {P:Program} {f:FuncId} {args:Array Value} {W:World} {n m:Int} (h:Calls P f args W (fun e w'=>e = .returned (.int .i64 n)/\W.grownBy w' none)) (e:n=m):Calls P f args W (Ret W (sZ m).F):=
 h.mono fun _ _ ⟨a,g⟩=>⟨_,a,by rw [e];rfl,g⟩
theorem F4 (w:World) (va vb:Value) (r t:Rat) (K:Nat) (Ha:RatV w va r) (Hb:RatV w vb t) (hK:K<=400000) (ln:r.num.natAbs<B^K) (ld:r.den<B^K) (mn:t.num.natAbs<B^K) (md:t.den<B^K) :
 Calls Tryd.prog 9 #[va,vb] w (fun e w'=>e = .returned (.int .i64 (G4 r t))/\w.grownBy w' none):=by
 rcases (show (r.den=1/\t.den=1)\/(r.den=1/\t.den≠1)\/r.den≠1 by omega) with ⟨h1,h2⟩ | ⟨h1,h2⟩ | h1
 · skip
   refine A6 B3 Tryd.func9 [sQ r,sQ t] [sV (.bool true),sV (.bool true),sZ (G4 r t)] (.cons Ha (.cons Hb .nil)) (rs:=[cl 2 25 [ag 4 0],cl 3 25 [ag 4 1],cl 4 26 [ag 2 0,ag 2 1]]) (out:=on 4) (nc:=5) (by kernel_rfl)
    ⟨fun σ W g h hb=>toV (C3 W _ r K (h 0 rfl) (by omega) ld) (by rw [decide_eq_true h1]),
    fun σ W g h hb=>toV (C3 W _ t K (h 1 rfl) (by omega) md) (by rw [decide_eq_true h2]),
    fun σ W g h hb=>toZ (nH W _ _ _ _ K (qn (h 0 rfl)) (qn (h 1 rfl)) (by omega) ln mn) (rcmp_whole h1 h2),
    trivial⟩ fun τ W g h=>⟨congrArg Ending.returned (h 4 rfl),g⟩
 · skip
   refine A6 B3 Tryd.func9 [sQ r,sQ t] [sV (.bool true),sV (.bool false),sI (t.den:Int),sI (r.num*t.den),sI (r.den:Int),sI (t.num*r.den),sZ (G4 r t)] (.cons Ha (.cons Hb .nil)) (rs:=[cl 2 25 [ag 4 0],cl 3 25 [ag 4 1],cl 4 28 [ag 4 1],cl 5 27 [ag 2 0,ag 2 4],cl 6 28 [ag 4 0],cl 7 27 [ag 2 1,ag 2 6],cl 8 26 [ag 2 5,ag 2 7]]) (out:=on 8) (nc:=9) (by kernel_rfl)
    ⟨fun σ W g h hb=>toV (C3 W _ r K (h 0 rfl) (by omega) ld) (by rw [decide_eq_true h1]),
    fun σ W g h hb=>toV (C3 W _ t K (h 1 rfl) (by omega) md) (by rw [decide_eq_false h2]),
    fun σ W g h hb=>D4 W _ t K (h 1 rfl) (by omega) md,
    fun σ W g h hb=>N4 W _ _ _ _ K (qn (h 0 rfl)) (h 4 rfl) (by omega) ln (ldi md),
    fun σ W g h hb=>D4 W _ r K (h 0 rfl) (by omega) ld,
    fun σ W g h hb=>N4 W _ _ _ _ K (qn (h 1 rfl)) (h 6 rfl) (by omega) mn (ldi ld),
    fun σ W g h hb=>toZ (nH W _ _ _ _ (K+K) (h 5 rfl) (h 7 rfl) (by omega) (N6 ln (ldi md)) (N6 mn (ldi ld))) rfl,
    trivial⟩ fun τ W g h=>⟨congrArg Ending.returned (h 8 rfl),g⟩
 · skip
   refine A6 B3 Tryd.func9 [sQ r,sQ t] [sV (.bool false),sI (t.den:Int),sI (r.num*t.den),sI (r.den:Int),sI (t.num*r.den),sZ (G4 r t)] (.cons Ha (.cons Hb .nil)) (rs:=[cl 2 25 [ag 4 0],cl 3 28 [ag 4 1],cl 4 27 [ag 2 0,ag 2 3],cl 5 28 [ag 4 0],cl 6 27 [ag 2 1,ag 2 5],cl 7 26 [ag 2 4,ag 2 6]]) (out:=on 7) (nc:=8) (by kernel_rfl)
    ⟨fun σ W g h hb=>toV (C3 W _ r K (h 0 rfl) (by omega) ld) (by rw [decide_eq_false h1]),
    fun σ W g h hb=>D4 W _ t K (h 1 rfl) (by omega) md,
    fun σ W g h hb=>N4 W _ _ _ _ K (qn (h 0 rfl)) (h 3 rfl) (by omega) ln (ldi md),
    fun σ W g h hb=>D4 W _ r K (h 0 rfl) (by omega) ld,
    fun σ W g h hb=>N4 W _ _ _ _ K (qn (h 1 rfl)) (h 5 rfl) (by omega) mn (ldi ld),
    fun σ W g h hb=>toZ (nH W _ _ _ _ (K+K) (h 4 rfl) (h 6 rfl) (by omega) (N6 ln (ldi md)) (N6 mn (ldi ld))) rfl,
    trivial⟩ fun τ W g h=>⟨congrArg Ending.returned (h 7 rfl),g⟩
theorem jT {x:Int} {g K:Nat} (hg:g ∣ x.natAbs) (h:x.natAbs<B^K):(x / (g:Int)).natAbs<B^K:=by
 exact Nat.lt_of_le_of_lt (Int.natAbs_ediv_le_natAbs _ _) h
theorem T4 (w:World) (va vb vc vd:Value) (r t:Rat) (K:Nat) (Ha:IntV w va r.num) (Hb:IntV w vb (r.den:Int)) (Hc:IntV w vc t.num) (Hd:IntV w vd (t.den:Int)) (hK:K<=300000) (ln:r.num.natAbs<B^K) (ld:r.den<B^K) (mn:t.num.natAbs<B^K) (md:t.den<B^K) (hTab:Tab w) :
 Calls Tryd.prog 65 #[va,vb,vc,vd] w (S2 w (r*t)):=by
 have ldi:(r.den:Int).natAbs<B^K:=by rw [Int.natAbs_natCast];exact ld
 have mdi:(t.den:Int).natAbs<B^K:=by rw [Int.natAbs_natCast];exact md
 obtain ⟨G1,e1⟩:∃ G,Nat.gcd r.num.natAbs t.den=G:=⟨_,rfl⟩
 obtain ⟨G2,e2⟩:∃ G,Nat.gcd t.num.natAbs r.den=G:=⟨_,rfl⟩
 have g1p : 0<G1:=by rw [<- e1];exact Nat.gcd_pos_of_pos_right _ t.den_pos
 have g2p : 0<G2:=by rw [<- e2];exact Nat.gcd_pos_of_pos_right _ r.den_pos
 have g1d:G1 ∣ r.num.natAbs/\G1 ∣ t.den:=by rw [<- e1];exact ⟨Nat.gcd_dvd_left _ _,Nat.gcd_dvd_right _ _⟩
 have g2d:G2 ∣ t.num.natAbs/\G2 ∣ r.den:=by rw [<- e2];exact ⟨Nat.gcd_dvd_left _ _,Nat.gcd_dvd_right _ _⟩
 have g1b:(G1:Int).natAbs<B^K:=by rw [Int.natAbs_natCast, <- e1];exact cP ln md
 have g2b:(G2:Int).natAbs<B^K:=by rw [Int.natAbs_natCast, <- e2];exact cP mn ld
 have b1:(r.num / (G1:Int)).natAbs<B^K:=jT g1d.1 ln
 have b2:(t.num / (G2:Int)).natAbs<B^K:=jT g2d.1 mn
 have b3:((r.den:Int) / (G2:Int)).natAbs<B^K:=jT (by rw [Int.natAbs_natCast];exact g2d.2) ldi
 have b4:((t.den:Int) / (G1:Int)).natAbs<B^K:=jT (by rw [Int.natAbs_natCast];exact g1d.2) mdi
 have rn:(r*t).num=r.num / (G1:Int)*(t.num / (G2:Int)):=by rw [kZ,e1,e2]
 have rd:((r*t).den:Int)=(r.den:Int) / (G2:Int)*((t.den:Int) / (G1:Int)):=by rw [lA,e1,e2,Int.natCast_mul];rfl
 have rb:(r*t).den<B^(K+K):=by
  have h:=N6 b3 b4
  rw [<- rd,Int.natAbs_natCast] at h;exact h
 refine A6 B3 Tryd.func65 [sI r.num,sI r.den,sI t.num,sI t.den] [sI G1,sI G2,sI (r.num / G1),sI (t.num / G2),sI (r*t).num,sI (r.den / G2),sI (t.den / G1),sI (r*t).den,sQ (r*t)] (.cons Ha (.cons Hb (.cons Hc (.cons Hd .nil))))
  (rs:=[cl 4 61 [ag 2 0,ag 2 3],cl 5 61 [ag 2 2,ag 2 1],cl 6 62 [ag 2 0,ag 2 4],cl 7 62 [ag 2 2,ag 2 5],cl 8 27 [ag 2 6,ag 2 7],cl 9 62 [ag 2 1,ag 2 5],cl 10 62 [ag 2 3,ag 2 4],cl 11 27 [ag 2 9,ag 2 10],cl 12 63 [ag 2 8,ag 2 11]])
  (out:=ag 4 12) (nc:=13) (by kernel_rfl) ⟨?_, ?_, ?_, ?_, ?_, ?_, ?_, ?_, ?_,trivial⟩ fun τ W g h=>⟨_,rfl,h 12 rfl,g⟩
 · intro σ W g h _
   have:=O6 W _ _ r.num (t.den:Int) K (h 0 rfl) (h 3 rfl) (by omega) ln mdi (hTab.kept g (by simp))
   rw [Int.natAbs_natCast,e1] at this;exact this
 · intro σ W g h _
   have:=O6 W _ _ t.num (r.den:Int) K (h 2 rfl) (h 1 rfl) (by omega) mn ldi (hTab.kept g (by simp))
   rw [Int.natAbs_natCast,e2] at this;exact this
 · exact fun σ W g h _=>H4 W _ _ r.num (G1:Int) K (h 0 rfl) (h 4 rfl) (by omega) ln g1b (by omega)
 · exact fun σ W g h _=>H4 W _ _ t.num (G2:Int) K (h 2 rfl) (h 5 rfl) (by omega) mn g2b (by omega)
 · exact fun σ W g h _=>rn ▸ N4 W _ _ _ _ K (h 6 rfl) (h 7 rfl) (by omega) b1 b2
 · exact fun σ W g h _=>H4 W _ _ (r.den:Int) (G2:Int) K (h 1 rfl) (h 5 rfl) (by omega) ldi g2b (by omega)
 · exact fun σ W g h _=>H4 W _ _ (t.den:Int) (G1:Int) K (h 3 rfl) (h 4 rfl) (by omega) mdi g1b (by omega)
 · exact fun σ W g h _=>rd ▸ N4 W _ _ _ _ K (h 9 rfl) (h 10 rfl) (by omega) b3 b4
 · exact fun σ W g h _=>dB W _ _ _ (K+K) (h 8 rfl) (h 11 rfl) (by omega) rb
theorem Z4 (w:World) (va vb:Value) (r t:Rat) (K:Nat) (Ha:RatV w va r) (Hb:RatV w vb t) (hK:K<=300000) (ln:r.num.natAbs<B^K) (ld:r.den<B^K) (mn:t.num.natAbs<B^K) (md:t.den<B^K) (hTab:Tab w) :
 Calls Tryd.prog 45 #[va,vb] w (S2 w (r*t)):=by
 rcases (show (r.den=1/\t.den=1)\/(r.den=1/\t.den≠1)\/r.den≠1 by omega) with ⟨h1,h2⟩ | ⟨h1,h2⟩ | h1
 · skip
   refine A6 B3 Tryd.func45 [sQ r,sQ t] [sV (.bool true),sV (.bool true),sI (r.num*t.num)] (.cons Ha (.cons Hb .nil)) (rs:=[cl 2 25 [ag 4 0],cl 3 25 [ag 4 1],cl 4 27 [ag 2 0,ag 2 1]]) (out := .v true [.an 4 0,.an 4 1,.lit (.slice none 0 0),.lit (.bool false)]) (nc:=5) (by kernel_rfl)
    ⟨fun σ W g h hb=>toV (C3 W _ r K (h 0 rfl) (by omega) ld) (by rw [decide_eq_true h1]),
    fun σ W g h hb=>toV (C3 W _ t K (h 1 rfl) (by omega) md) (by rw [decide_eq_true h2]),
    fun σ W g h hb=>N4 W _ _ _ _ K (qn (h 0 rfl)) (qn (h 1 rfl)) (by omega) ln mn,
    trivial⟩ fun τ W g h=>⟨_,rfl,mkq (by rw [(kY h1 h2).1];exact h 4 rfl) (by rw [(kY h1 h2).2];exact IntV.zero W),g⟩
 · skip
   refine A6 B3 Tryd.func45 [sQ r,sQ t] [sV (.bool true),sV (.bool false),sI (r.den:Int),sI (t.den:Int),sQ (r*t)] (.cons Ha (.cons Hb .nil)) (rs:=[cl 2 25 [ag 4 0],cl 3 25 [ag 4 1],cl 4 28 [ag 4 0],cl 5 28 [ag 4 1],cl 6 65 [ag 2 0,ag 2 4,ag 2 1,ag 2 5]]) (out:=ag 4 6) (nc:=7) (by kernel_rfl)
    ⟨fun σ W g h hb=>toV (C3 W _ r K (h 0 rfl) (by omega) ld) (by rw [decide_eq_true h1]),
    fun σ W g h hb=>toV (C3 W _ t K (h 1 rfl) (by omega) md) (by rw [decide_eq_false h2]),
    fun σ W g h hb=>D4 W _ r K (h 0 rfl) (by omega) ld,
    fun σ W g h hb=>D4 W _ t K (h 1 rfl) (by omega) md,
    fun σ W g h hb=>T4 W _ _ _ _ r t K (qn (h 0 rfl)) (h 4 rfl) (qn (h 1 rfl)) (h 5 rfl) hK ln ld mn md (hTab.kept g (by simp)),
    trivial⟩ fun τ W g h=>⟨_,rfl,h 6 rfl,g⟩
 · skip
   refine A6 B3 Tryd.func45 [sQ r,sQ t] [sV (.bool false),sI (r.den:Int),sI (t.den:Int),sQ (r*t)] (.cons Ha (.cons Hb .nil)) (rs:=[cl 2 25 [ag 4 0],cl 3 28 [ag 4 0],cl 4 28 [ag 4 1],cl 5 65 [ag 2 0,ag 2 3,ag 2 1,ag 2 4]]) (out:=ag 4 5) (nc:=6) (by kernel_rfl)
    ⟨fun σ W g h hb=>toV (C3 W _ r K (h 0 rfl) (by omega) ld) (by rw [decide_eq_false h1]),
    fun σ W g h hb=>D4 W _ r K (h 0 rfl) (by omega) ld,
    fun σ W g h hb=>D4 W _ t K (h 1 rfl) (by omega) md,
    fun σ W g h hb=>T4 W _ _ _ _ r t K (qn (h 0 rfl)) (h 3 rfl) (qn (h 1 rfl)) (h 4 rfl) hK ln ld mn md (hTab.kept g (by simp)),
    trivial⟩ fun τ W g h=>⟨_,rfl,h 5 rfl,g⟩
theorem fT (w:World) (va vb vc vd:Value) (r t:Rat) (K:Nat) (Ha:IntV w va r.num) (Hb:IntV w vb (r.den:Int)) (Hc:IntV w vc t.num) (Hd:IntV w vd (t.den:Int)) (hK:K<=300000) (ln:r.num.natAbs<B^K) (ld:r.den<B^K) (mn:t.num.natAbs<B^K) (md:t.den<B^K) (hTab:Tab w) :
 Calls Tryd.prog 32 #[va,vb,vc,vd] w (S2 w (r+t)):=by
 have rdi:=ldi ld
 have mdi:=ldi md
 obtain ⟨G1,e1⟩:∃ G,Nat.gcd r.den t.den=G:=⟨_,rfl⟩
 have g1p : 0<G1:=by rw [<- e1];exact Nat.gcd_pos_of_pos_right _ t.den_pos
 have g1b:(G1:Int).natAbs<B^K:=by rw [Int.natAbs_natCast, <- e1];exact cP ld md
 obtain ⟨D1,q3⟩:∃ z,(r.den:Int) / (G1:Int)=z:=⟨_,rfl⟩
 obtain ⟨F1,q4⟩:∃ z,(t.den:Int) / (G1:Int)=z:=⟨_,rfl⟩
 have b1:D1.natAbs<B^K:=by rw [<- q3];exact Nat.lt_of_le_of_lt (Int.natAbs_ediv_le_natAbs _ _) rdi
 have b2:F1.natAbs<B^K:=by rw [<- q4];exact Nat.lt_of_le_of_lt (Int.natAbs_ediv_le_natAbs _ _) mdi
 have b3:(r.num*F1).natAbs<B^(K+K):=N6 ln b2
 have b4:(t.num*D1).natAbs<B^(K+K):=N6 mn b1
 have b5:(r.num*F1+t.num*D1).natAbs<B^(K+K+1):=rT b3 b4
 obtain ⟨G2,e2⟩:∃ G,Nat.gcd (r.num*F1+t.num*D1).natAbs G1=G:=⟨_,rfl⟩
 have hp:=lD r t G1 G2 (r.num*F1+t.num*D1) e1.symm (by rw [<- q3, <- q4];rfl) e2.symm
 have g2p : 0<G2:=by rw [<- e2];exact Nat.gcd_pos_of_pos_right _ g1p
 have g2b:(G2:Int).natAbs<B^K:=by rw [Int.natAbs_natCast, <- e2];rw [Int.natAbs_natCast] at g1b;exact Nat.lt_of_le_of_lt (Nat.gcd_le_right _ g1p) g1b
 have b6:((t.den:Int) / (G2:Int)).natAbs<B^K:=Nat.lt_of_le_of_lt (Int.natAbs_ediv_le_natAbs _ _) mdi
 have rd:((r+t).den:Int)=D1*((t.den:Int) / (G2:Int)):=by rw [hp.2, <- q3,Int.natCast_mul];rfl
 have rb:(r+t).den<B^(K+K):=by
  have h:=N6 b1 b6
  rw [<- rd,Int.natAbs_natCast] at h;exact h
 refine A6 B3 Tryd.func32 [sI r.num,sI r.den,sI t.num,sI t.den] [sI G1,sI D1,sI F1,sI (r.num*F1),sI (t.num*D1),sI (r.num*F1+t.num*D1),sI G2,sI (r+t).num,sI (t.den / G2),sI (r+t).den,sQ (r+t)] (.cons Ha (.cons Hb (.cons Hc (.cons Hd .nil)))) (rs:=[cl 4 61 [ag 2 1,ag 2 3],cl 5 62 [ag 2 1,ag 2 4],cl 6 62 [ag 2 3,ag 2 4],cl 7 27 [ag 2 0,ag 2 6],cl 8 27 [ag 2 2,ag 2 5],cl 9 31 [ag 2 7,ag 2 8],cl 10 61 [ag 2 9,ag 2 4],cl 11 62 [ag 2 9,ag 2 10],cl 12 62 [ag 2 3,ag 2 10],cl 13 27 [ag 2 5,ag 2 12],cl 14 63 [ag 2 11,ag 2 13]]) (out:=ag 4 14) (nc:=15) (by kernel_rfl)
  ⟨fun σ W g h hb=>by
   have:=O6 W _ _ (r.den:Int) (t.den:Int) K (h 1 rfl) (h 3 rfl) (by omega) rdi mdi (hTab.kept g (by simp))
   rw [Int.natAbs_natCast,Int.natAbs_natCast,e1] at this;exact this,
  fun σ W g h hb=>q3 ▸ H4 W _ _ (r.den:Int) (G1:Int) K (h 1 rfl) (h 4 rfl) (by omega) rdi g1b (by omega),
  fun σ W g h hb=>q4 ▸ H4 W _ _ (t.den:Int) (G1:Int) K (h 3 rfl) (h 4 rfl) (by omega) mdi g1b (by omega),
  fun σ W g h hb=>N4 W _ _ _ _ K (h 0 rfl) (h 6 rfl) (by omega) ln b2,
  fun σ W g h hb=>N4 W _ _ _ _ K (h 2 rfl) (h 5 rfl) (by omega) mn b1,
  fun σ W g h hb=>nI W _ _ _ _ (K+K) (h 7 rfl) (h 8 rfl) (by omega) b3 b4,
  fun σ W g h hb=>by
   have:=O6 W _ _ _ (G1:Int) (K+K+1) (h 9 rfl) (h 4 rfl) (by omega) b5 (fbw g1b (by omega)) (hTab.kept g (by simp))
   rw [Int.natAbs_natCast,e2] at this;exact this,
  fun σ W g h hb=>hp.1 ▸ H4 W _ _ _ (G2:Int) (K+K+1) (h 9 rfl) (h 10 rfl) (by omega) b5 (fbw g2b (by omega)) (by omega),
  fun σ W g h hb=>H4 W _ _ (t.den:Int) (G2:Int) K (h 3 rfl) (h 10 rfl) (by omega) mdi g2b (by omega),
  fun σ W g h hb=>rd ▸ N4 W _ _ _ _ K (h 5 rfl) (h 12 rfl) (by omega) b1 b6,
  fun σ W g h hb=>dB W _ _ _ (K+K) (h 11 rfl) (h 13 rfl) (by omega) rb,
  trivial⟩ fun τ W g h=>⟨_,rfl,h 14 rfl,g⟩
theorem P6 (w:World) (va vb:Value) (r t:Rat) (K:Nat) (Ha:RatV w va r) (Hb:RatV w vb t) (hK:K<=300000) (ln:r.num.natAbs<B^K) (ld:r.den<B^K) (mn:t.num.natAbs<B^K) (md:t.den<B^K) (hTab:Tab w) :
 Calls Tryd.prog 11 #[va,vb] w (S2 w (r+t)):=by
 rcases (show (r.den=1/\t.den=1)\/(r.den=1/\t.den≠1)\/r.den≠1 by omega) with ⟨h1,h2⟩ | ⟨h1,h2⟩ | h1
 · skip
   refine A6 B3 Tryd.func11 [sQ r,sQ t] [sV (.bool true),sV (.bool true),sI (r.num+t.num)] (.cons Ha (.cons Hb .nil)) (rs:=[cl 2 25 [ag 4 0],cl 3 25 [ag 4 1],cl 4 31 [ag 2 0,ag 2 1]]) (out := .v true [.an 4 0,.an 4 1,.lit (.slice none 0 0),.lit (.bool false)]) (nc:=5) (by kernel_rfl)
    ⟨fun σ W g h hb=>toV (C3 W _ r K (h 0 rfl) (by omega) ld) (by rw [decide_eq_true h1]),
    fun σ W g h hb=>toV (C3 W _ t K (h 1 rfl) (by omega) md) (by rw [decide_eq_true h2]),
    fun σ W g h hb=>nI W _ _ _ _ K (qn (h 0 rfl)) (qn (h 1 rfl)) (by omega) ln mn,
    trivial⟩ fun τ W g h=>⟨_,rfl,mkq (by rw [(dU h1 h2).1];exact h 4 rfl) (by rw [(dU h1 h2).2];exact IntV.zero W),g⟩
 · skip
   refine A6 B3 Tryd.func11 [sQ r,sQ t] [sV (.bool true),sV (.bool false),sI (r.den:Int),sI (t.den:Int),sQ (r+t)] (.cons Ha (.cons Hb .nil)) (rs:=[cl 2 25 [ag 4 0],cl 3 25 [ag 4 1],cl 4 28 [ag 4 0],cl 5 28 [ag 4 1],cl 6 32 [ag 2 0,ag 2 4,ag 2 1,ag 2 5]]) (out:=ag 4 6) (nc:=7) (by kernel_rfl)
    ⟨fun σ W g h hb=>toV (C3 W _ r K (h 0 rfl) (by omega) ld) (by rw [decide_eq_true h1]),
    fun σ W g h hb=>toV (C3 W _ t K (h 1 rfl) (by omega) md) (by rw [decide_eq_false h2]),
    fun σ W g h hb=>D4 W _ r K (h 0 rfl) (by omega) ld,
    fun σ W g h hb=>D4 W _ t K (h 1 rfl) (by omega) md,
    fun σ W g h hb=>fT W _ _ _ _ r t K (qn (h 0 rfl)) (h 4 rfl) (qn (h 1 rfl)) (h 5 rfl) hK ln ld mn md (hTab.kept g (by simp)),
    trivial⟩ fun τ W g h=>⟨_,rfl,h 6 rfl,g⟩
 · skip
   refine A6 B3 Tryd.func11 [sQ r,sQ t] [sV (.bool false),sI (r.den:Int),sI (t.den:Int),sQ (r+t)] (.cons Ha (.cons Hb .nil)) (rs:=[cl 2 25 [ag 4 0],cl 3 28 [ag 4 0],cl 4 28 [ag 4 1],cl 5 32 [ag 2 0,ag 2 3,ag 2 1,ag 2 4]]) (out:=ag 4 5) (nc:=6) (by kernel_rfl)
    ⟨fun σ W g h hb=>toV (C3 W _ r K (h 0 rfl) (by omega) ld) (by rw [decide_eq_false h1]),
    fun σ W g h hb=>D4 W _ r K (h 0 rfl) (by omega) ld,
    fun σ W g h hb=>D4 W _ t K (h 1 rfl) (by omega) md,
    fun σ W g h hb=>fT W _ _ _ _ r t K (qn (h 0 rfl)) (h 3 rfl) (qn (h 1 rfl)) (h 4 rfl) hK ln ld mn md (hTab.kept g (by simp)),
    trivial⟩ fun τ W g h=>⟨_,rfl,h 5 rfl,g⟩
theorem fU (w:World) (va vb:Value) (r t:Rat) (K:Nat) (Ha:RatV w va r) (Hb:RatV w vb t) (hK:K<=300000) (ln:r.num.natAbs<B^K) (ld:r.den<B^K) (mn:t.num.natAbs<B^K) (md:t.den<B^K) (hTab:Tab w) :
 Calls Tryd.prog 46 #[va,vb] w (S2 w (r-t)):=by
 rcases (show (r.den=1/\t.den=1)\/(r.den=1/\t.den≠1)\/r.den≠1 by omega) with ⟨h1,h2⟩ | ⟨h1,h2⟩ | h1
 · skip
   refine A6 B3 Tryd.func46 [sQ r,sQ t] [sV (.bool true),sV (.bool true),sI (r.num-t.num)] (.cons Ha (.cons Hb .nil)) (rs:=[cl 2 25 [ag 4 0],cl 3 25 [ag 4 1],cl 4 76 [ag 2 0,ag 2 1]]) (out := .v true [.an 4 0,.an 4 1,.lit (.slice none 0 0),.lit (.bool false)]) (nc:=5) (by kernel_rfl)
    ⟨fun σ W g h hb=>toV (C3 W _ r K (h 0 rfl) (by omega) ld) (by rw [decide_eq_true h1]),
    fun σ W g h hb=>toV (C3 W _ t K (h 1 rfl) (by omega) md) (by rw [decide_eq_true h2]),
    fun σ W g h hb=>ZSub_any W _ _ _ _ K (qn (h 0 rfl)) (qn (h 1 rfl)) (by omega) ln mn,
    trivial⟩ fun τ W g h=>⟨_,rfl,mkq (by rw [(kW h1 h2).1];exact h 4 rfl) (by rw [(kW h1 h2).2];exact IntV.zero W),g⟩
 · skip
   refine A6 B3 Tryd.func46 [sQ r,sQ t] [sV (.bool true),sV (.bool false),sI (r.den:Int),sI (-t).num,sI (t.den:Int),sQ (r-t)] (.cons Ha (.cons Hb .nil)) (rs:=[cl 2 25 [ag 4 0],cl 3 25 [ag 4 1],cl 4 28 [ag 4 0],cl 5 29 [ag 2 1],cl 6 28 [ag 4 1],cl 7 32 [ag 2 0,ag 2 4,ag 2 5,ag 2 6]]) (out:=ag 4 7) (nc:=8) (by kernel_rfl)
    ⟨fun σ W g h hb=>toV (C3 W _ r K (h 0 rfl) (by omega) ld) (by rw [decide_eq_true h1]),
    fun σ W g h hb=>toV (C3 W _ t K (h 1 rfl) (by omega) md) (by rw [decide_eq_false h2]),
    fun σ W g h hb=>D4 W _ r K (h 0 rfl) (by omega) ld,
    fun σ W g h hb=>V2 W _ _ K (qn (h 1 rfl)) (by omega) mn,
    fun σ W g h hb=>D4 W _ t K (h 1 rfl) (by omega) md,
    fun σ W g h hb=>Rat.sub_eq_add_neg r t ▸ fT W _ _ _ _ r (-t) K (qn (h 0 rfl)) (h 4 rfl) (h 5 rfl) (h 6 rfl) hK ln ld (by rw [show (-t).num = -t.num from rfl,Int.natAbs_neg];exact mn) md (hTab.kept g (by simp)),
    trivial⟩ fun τ W g h=>⟨_,rfl,h 7 rfl,g⟩
 · skip
   refine A6 B3 Tryd.func46 [sQ r,sQ t] [sV (.bool false),sI (r.den:Int),sI (-t).num,sI (t.den:Int),sQ (r-t)] (.cons Ha (.cons Hb .nil)) (rs:=[cl 2 25 [ag 4 0],cl 3 28 [ag 4 0],cl 4 29 [ag 2 1],cl 5 28 [ag 4 1],cl 6 32 [ag 2 0,ag 2 3,ag 2 4,ag 2 5]]) (out:=ag 4 6) (nc:=7) (by kernel_rfl)
    ⟨fun σ W g h hb=>toV (C3 W _ r K (h 0 rfl) (by omega) ld) (by rw [decide_eq_false h1]),
    fun σ W g h hb=>D4 W _ r K (h 0 rfl) (by omega) ld,
    fun σ W g h hb=>V2 W _ _ K (qn (h 1 rfl)) (by omega) mn,
    fun σ W g h hb=>D4 W _ t K (h 1 rfl) (by omega) md,
    fun σ W g h hb=>Rat.sub_eq_add_neg r t ▸ fT W _ _ _ _ r (-t) K (qn (h 0 rfl)) (h 3 rfl) (h 4 rfl) (h 5 rfl) hK ln ld (by rw [show (-t).num = -t.num from rfl,Int.natAbs_neg];exact mn) md (hTab.kept g (by simp)),
    trivial⟩ fun τ W g h=>⟨_,rfl,h 6 rfl,g⟩
theorem FMake_any (w:World) (va vb:Value) (x y:Int) (K:Nat) (Ha:IntV w va x) (Hb:IntV w vb y) (hK:K<=300000) (la:x.natAbs<B^K) (lb:y.natAbs<B^K) (hTab:Tab w) :
 Calls Tryd.prog 43 #[va,vb] w (cY w (Rat.divInt x y) (if y=0 then 5 else 0)):=by
 rcases eE y with ⟨hy,hs⟩ | ⟨hy,hs⟩ | ⟨hy,hs⟩
 · skip
   rw [if_neg (by omega)]
   have gp : 0<Nat.gcd x.natAbs y.natAbs:=Nat.gcd_pos_of_pos_right _ (by omega)
   have gb:((Nat.gcd x.natAbs y.natAbs:Nat):Int).natAbs<B^K:=ldi (cP la lb)
   have e9:Rat.divInt x y=Rat.divInt (-x) (-y):=(Rat.neg_divInt_neg x y).symm
   have hm:=pS (-x) (-y) (by omega)
   rw [<- e9,Int.natAbs_neg,Int.natAbs_neg] at hm
   have xb:(-x).natAbs<B^K:=by rw [Int.natAbs_neg];exact la
   have yb:(-y).natAbs<B^K:=by rw [Int.natAbs_neg];exact lb
   have nb:(Rat.divInt x y).num.natAbs<B^K:=eW la
   have db:(Rat.divInt x y).den<B^K:=eX lb (by omega)
   refine A6 B3 Tryd.func43 [sI x,sI y] [sV (.int .i64 (-1)),sI (-x),sI (-y),sI (Nat.gcd x.natAbs y.natAbs:Nat),sI (Rat.divInt x y).num,sI (Rat.divInt x y).num,sI (Rat.divInt x y).den,sI (Rat.divInt x y).den,sQ (Rat.divInt x y)] (.cons Ha (.cons Hb .nil)) (rs:=[cl 2 55 [ag 2 1],cl 3 29 [ag 2 0],cl 4 29 [ag 2 1],cl 5 61 [ag 2 3,ag 2 4],cl 6 62 [ag 2 3,ag 2 5],cl 7 30 [ag 2 6],cl 8 62 [ag 2 4,ag 2 5],cl 9 30 [ag 2 8],cl 10 63 [ag 2 7,ag 2 9]]) (out := .tup [(true,[.an 10 0,.an 10 1,.an 10 2,.an 10 3]),(false,[.lit (.int .i64 0)])]) (nc:=11) (by kernel_rfl)
    ⟨fun σ W g h hb=>toV (F7 W _ y K (h 1 rfl) (by omega) lb) (by rw [hs]),
    fun σ W g h hb=>V2 W _ x K (h 0 rfl) (by omega) la,
    fun σ W g h hb=>V2 W _ y K (h 1 rfl) (by omega) lb,
    fun σ W g h hb=>by
     have:=O6 W _ _ (-x) (-y) K (h 3 rfl) (h 4 rfl) (by omega) xb yb (hTab.kept g (by simp))
     rw [Int.natAbs_neg,Int.natAbs_neg] at this;exact this,
    fun σ W g h hb=>hm.1 ▸ H4 W _ _ (-x) _ K (h 3 rfl) (h 5 rfl) (by omega) xb gb (by omega),
    fun σ W g h hb=>Q7 W _ _ K (h 6 rfl) (by omega) nb,
    fun σ W g h hb=>hm.2 ▸ H4 W _ _ (-y) _ K (h 4 rfl) (h 5 rfl) (by omega) yb gb (by omega),
    fun σ W g h hb=>Q7 W _ _ K (h 8 rfl) (by omega) (ldi db),
    fun σ W g h hb=>dB W _ _ _ K (h 7 rfl) (h 9 rfl) (by omega) db,
    trivial⟩ fun τ W g h=>⟨_,rfl,h 10 rfl,g⟩
 · skip
   rw [if_pos hy,show Rat.divInt x y=0 by rw [hy,Rat.divInt_zero]]
   refine A6 B3 Tryd.func43 [sI x,sI y] [sV (.int .i64 0)] (.cons Ha (.cons Hb .nil)) (rs:=[cl 2 55 [ag 2 1]]) (out := .tup [(true,[.lit (.slice none 0 0),.lit (.bool false),.lit (.slice none 0 0),.lit (.bool false)]),(false,[.lit (.int .i64 5)])]) (nc:=3) (by kernel_rfl)
    ⟨fun σ W g h hb=>toV (F7 W _ y K (h 1 rfl) (by omega) lb) (by rw [hs]),
    trivial⟩ fun τ W g h=>⟨_,rfl,RatV.zero W,g⟩
 · skip
   rw [if_neg (by omega)]
   have gp : 0<Nat.gcd x.natAbs y.natAbs:=Nat.gcd_pos_of_pos_right _ (by omega)
   have gb:((Nat.gcd x.natAbs y.natAbs:Nat):Int).natAbs<B^K:=ldi (cP la lb)
   have hm:=pS x y hy
   have nb:(Rat.divInt x y).num.natAbs<B^K:=eW la
   have db:(Rat.divInt x y).den<B^K:=eX lb (by omega)
   refine A6 B3 Tryd.func43 [sI x,sI y] [sV (.int .i64 1),sI (Nat.gcd x.natAbs y.natAbs:Nat),sI (Rat.divInt x y).num,sI (Rat.divInt x y).num,sI (Rat.divInt x y).den,sI (Rat.divInt x y).den,sQ (Rat.divInt x y)] (.cons Ha (.cons Hb .nil)) (rs:=[cl 2 55 [ag 2 1],cl 3 61 [ag 2 0,ag 2 1],cl 4 62 [ag 2 0,ag 2 3],cl 5 30 [ag 2 4],cl 6 62 [ag 2 1,ag 2 3],cl 7 30 [ag 2 6],cl 8 63 [ag 2 5,ag 2 7]]) (out := .tup [(true,[.an 8 0,.an 8 1,.an 8 2,.an 8 3]),(false,[.lit (.int .i64 0)])]) (nc:=9) (by kernel_rfl)
    ⟨fun σ W g h hb=>toV (F7 W _ y K (h 1 rfl) (by omega) lb) (by rw [hs]),
    fun σ W g h hb=>O6 W _ _ x y K (h 0 rfl) (h 1 rfl) (by omega) la lb (hTab.kept g (by simp)),
    fun σ W g h hb=>hm.1 ▸ H4 W _ _ x _ K (h 0 rfl) (h 3 rfl) (by omega) la gb (by omega),
    fun σ W g h hb=>Q7 W _ _ K (h 4 rfl) (by omega) nb,
    fun σ W g h hb=>hm.2 ▸ H4 W _ _ y _ K (h 1 rfl) (h 3 rfl) (by omega) lb gb (by omega),
    fun σ W g h hb=>Q7 W _ _ K (h 6 rfl) (by omega) (ldi db),
    fun σ W g h hb=>dB W _ _ _ K (h 5 rfl) (h 7 rfl) (by omega) db,
    trivial⟩ fun τ W g h=>⟨_,rfl,h 8 rfl,g⟩
theorem sW (w:World) (n d:Int) (h1 : -9223372036854775808<=n) (h2:n<=9223372036854775807) (h3 : -9223372036854775808<=d) (h4:d<=9223372036854775807) (hTab:Tab w) :
 Calls Tryd.prog 16 #[.int .i64 n,.int .i64 d] w (cY w (Rat.divInt n d) (if d=0 then 5 else 0)):=by
 have ln:n.natAbs<B^1:=by unfold B;omega
 have lb:d.natAbs<B^1:=by unfold B;omega
 refine A6 B3 Tryd.func16 [sZ n,sZ d] [sI n,sI d,sQC (Rat.divInt n d) (if d=0 then 5 else 0)] (.cons rfl (.cons rfl .nil)) (rs:=[cl 2 44 [on 0],cl 3 44 [on 1],cl 4 43 [ag 2 2,ag 2 3]]) (out := .tup [(true,[.an 4 0,.an 4 1,.an 4 2,.an 4 3]),(false,[.an 4 4])]) (nc:=5) (by kernel_rfl)
  ⟨fun σ W g h hb=>arg1 (h 0 rfl) (cX W n h1 h2),
  fun σ W g h hb=>arg1 (h 1 rfl) (cX W d h3 h4),
  fun σ W g h hb=>toQC (FMake_any W _ _ n d 1 (h 2 rfl) (h 3 rfl) (by omega) ln lb (hTab.kept g (by simp))),
  trivial⟩ fun τ W g h=>qcE (h 4 rfl) g
end Go.Proofs.YtamdnbbgpacfkaaDoor
namespace Go.Proofs.YtamdnbbgpacfkaaDoor
open Go.RowKit Mat
def Ints (w:World) (g:Nat) (zs:List Nat):Prop:=RBlk w g (zs.map iv).toArray
theorem heap_setv {w:World} {g o:Nat} {cs:Array Value} {v:Value} {t:TypeId} (h:w.heap[g]?=some (.cells cs t (0,0))):(w.setCell ⟨g,o,none⟩ v).heap[g]?=some (.cells (cs.setIfInBounds o v) t (0,0)):=by
 simp [World.setCell,Array.getElem?_modify,h]
theorem Ints.set {w:World} {g:Nat} {zs:List Nat} (h:Ints w g zs) (j d:Nat):Ints (w.setCell ⟨g,j,none⟩ (.int .i64 (d:Int))) g (zs.set j d):=by
 unfold Ints RBlk at h ⊢
 have:=heap_setv (w:=w) (g:=g) (v := .int .i64 (d:Int)) (o:=j) h
 rw [this]
 congr 2
 rw [List.map_set]
 simp [iv]
theorem Ints.drewN {w:World} {g:Nat} {zs:List Nat} (h:Ints w g zs) (q:Nat):Ints (w.drewN q) g zs:=h
theorem Ints.cell {w:World} {g:Nat} {zs:List Nat} {n:Nat} (h:Ints w g zs) (hn:zs.length=n) (j:Nat) (hj:j<n):w.cell? ⟨g,j,none⟩=some (.int .i64 (zs.getD j 0:Int)):=by
 rw [RBlk.cell h,List.getElem?_toArray,List.getElem?_map,List.getD_eq_getElem?_getD,List.getElem?_eq_getElem (by omega)];rfl
theorem Ints.frozen {w:World} {g:Nat} {zs:List Nat} (h:Ints w g zs) (j:Nat):w.frozen? ⟨g,j,none⟩=false:=RBlk.frozen h j
theorem Ints.rd {w:World} {g:Nat} {zs:List Nat} (h:Ints w g zs):RRdo w (some ⟨g,0,none⟩) zs:=by
 refine Or.inr ⟨g,0,_,rfl,h,fun i hi=>?_⟩
 rw [Nat.zero_add,List.getElem?_toArray,List.getElem?_map,List.getElem?_eq_getElem hi];rfl
theorem Mat.Dig.set {m:Nat} {xs:List Nat} (h:Dig m xs) {d:Nat} (hd:d<m) (j:Nat):Dig m (xs.set j d):=by
 intro x hx
 rcases List.mem_or_eq_of_mem_set hx with h1 | h1
 · exact h x h1
 · rw [h1];exact hd
def RIntV (w:World) (v:Value) (z:Int):Prop:=∃ (g:Int) (s:Option Addr) (l c:Nat),v = .agg #[.int .i64 g,.slice s l c]/\Hid (g=z.sign)/\RefV w (.agg #[.slice s l c]) z.natAbs
theorem RIntV.kept {w w':World} {v:Value} {z:Int} (h:RIntV w v z) (hg:w.grownBy w' none):RIntV w' v z:=by
 obtain ⟨g,s,l,c,e,h1,h2⟩:=h
 exact ⟨g,s,l,c,e,h1,h2.kept hg⟩
theorem RIntV.zero (w:World):RIntV w (.agg #[.int .i64 0,.slice none 0 0]) 0:=⟨0,none,0,0,rfl,rfl,RefV.zero w⟩
theorem RIntV.set_other {w:World} {v:Value} {n:Int} {g:Nat} {c:Array Value} {t:TypeId} (h:RIntV w v n) (hbox:w.heap[g]?=some (.cells c t (0,0))) (ht:t≠3) (o:Nat) (u:Value):RIntV (w.setCell ⟨g,o,none⟩ u) v n:=by
 obtain ⟨s,a,l,k,e,h1,h2⟩:=h
 exact ⟨s,a,l,k,e,h1,h2.set_other hbox ht o u⟩
end Go.Proofs.YtamdnbbgpacfkaaDoor
namespace Go.Proofs.YtamdnbbgpacfkaaDoor
open Go.ChangeShapes Go.WideShapes Go.ChangeAt Go.RowKit Go.ChangeMaps Mat
theorem rL:ownKnob Tryd.prog.godebug=none:=by kernel_rfl
theorem oG {W W':World} (h:W.grownBy W' none):W.keptBut W' (fun _=>False):=by
 refine ⟨h.os,h.output,fun i hi=>?_⟩
 rw [h.block i hi (by simp)]
 cases W.heap[i]? with
 | none=>rfl
 | some o=>cases o<;>simp
end Go.Proofs.YtamdnbbgpacfkaaDoor
