/- What the laws lean on, part 10. -/
import Derived.Below
import Derived.BigCall
import Derived.BigQuiet
import Derived.BigRegion
import Derived.Deep.AppendLies
import Derived.Deep.CutBlock
import Derived.Deep.CutRange
import Derived.Deep.DeepCutAuto
import Derived.Deep.LoopGhost
import Derived.Deep.MidRow
import Derived.Deep.QuietTactic
import Derived.Deep.RegionHeld3
import Derived.Deep.WholeRow
import Derived.Laws.AppendOwn
import Derived.Laws.CopyOwn
import Derived.Laws.Externs
import Derived.Laws.IdiomStrings
import Derived.Lib.BitFns
import Derived.Lib.Hide
import Derived.Lib.Slices
import Derived.Lib.Small
import Derived.Lib.Strings
import Derived.Lib.Walk
import Derived.LoopN
import Derived.OrdersHeld
import Derived.OrdersIn
import Derived.Outline
import Derived.OwnWalk
import Derived.RangeFuncCalls
import Derived.RangeFuncNested
import Derived.RangeFuncOwn
import Derived.Shelf.Bits.Mul64
import Derived.Shelf.Spec.TrailingZeros
import Derived.StillTailTactics
import Derived.WalkKit
import Derived.WalkLawsBesides
import Derived.WalkSpells
import Derived.Test.YtdgdmicbbfoghaaGreatDoorProg
import Derived.Test.YtdgdmicbbfoghaaGreatDoorMf9
set_option linter.unusedVariables false
set_option linter.unusedSimpArgs false
set_option maxRecDepth 100000
namespace Go.Proofs.YtdgdmicbbfoghaaGreatDoor
open Go.RowKit Mat Ex
theorem K7 (w:World) (va:Value) (x:Int) (K:Nat) (Ha:IntV w va x) (hK:K<=800000) (la:x.natAbs<B^K) :
 Calls Tryz.prog 47 #[va] w (E8 w x):=by
 refine A4 B6 Tryz.func47 [sI x] [sI x] (.cons Ha .nil) (rs:=[cl 1 45 [ag 2 0,.v true [.lit (.slice none 0 0),.lit (.bool false)]]]) (out:=ag 2 1) (nc:=2) (by kernel_rfl)
  ⟨fun σ W g h hb=>Int.add_zero x ▸ D7 W _ _ x 0 K (h 0 rfl) (IntV.zero W) (by omega) la (Nat.pow_pos D6),
  trivial⟩ fun τ W g h=>⟨_,rfl,h 1 rfl,g⟩
theorem T0 (w:World) (va:Value) (x:Int) (K:Nat) (Ha:IntV w va x) (hK:K<=800000) (la:x.natAbs<B^K) :
 Calls Tryz.prog 166 #[va] w (RetB w (decide (x=1))):=by
 by_cases h1:x=1
 · skip
   rw [decide_eq_true h1]
   refine A4 B6 Tryz.func166 [sI x] [sVV (.int .i64 1) (.bool true)] (.cons Ha .nil) (rs:=[cl 1 173 [ag 2 0]]) (out := .v false [.lit (.bool true)]) (nc:=2) (by kernel_rfl)
    ⟨fun σ W g h hb=>toVV (rH W _ x K (h 0 rfl) (by omega) la) (by rw [if_pos (fits_one h1),h1]) (by rw [decide_eq_true (fits_one h1)]),
    trivial⟩ fun τ W g h=>⟨rfl,g⟩
 · skip
   rw [decide_eq_false h1]
   have hn:(if fB x then x else 0)≠1:=by split<;>omega
   refine A4 B6 Tryz.func166 [sI x] [sZB (if fB x then x else 0) (decide (fB x)),sV (.bool false)] (.cons Ha .nil) (rs:=[cl 1 173 [ag 2 0],co 2 (.binOp .eql 3 (.tmp 10) (.const (.int .i64 1)) 3) 4 [on 1,.v false [.lit (.int .i64 1)]] [0,1] []]) (out := .v false [.lit (.bool false)]) (nc:=3) (by kernel_rfl)
    ⟨fun σ W g h hb=>toZB (rH W _ x K (h 0 rfl) (by omega) la),
    fun σ W g h hb=>fun ρ o ho _ hv=>⟨_,A7 ho ((A1 hv).1.trans (zb1 (h 1 rfl))) (A1 hv).2 rfl,congrArg Value.bool (beq_eq_false_iff_ne.2 hn)⟩,
    trivial⟩ fun τ W g h=>⟨rfl,g⟩
theorem I7 (w:World) (va vb:Value) (x y:Int) (K:Nat) (Ha:IntV w va x) (Hb:IntV w vb y) (hK:K<=800000) (la:x.natAbs<B^K) (lb:y.natAbs<B^K) (h0 : 0<y) :
 Calls Tryz.prog 146 #[va,vb] w (E8 w (x / y)):=by
 by_cases h1:y=1
 · skip
   rw [h1,Int.ediv_one]
   refine A4 B6 Tryz.func146 [sI x,sI y] [sV (.bool true)] (.cons Ha (.cons Hb .nil)) (rs:=[cl 2 166 [ag 2 1]]) (out:=ag 2 0) (nc:=3) (by kernel_rfl)
    ⟨fun σ W g h hb=>toV (T0 W _ y K (h 1 rfl) hK lb) (by rw [decide_eq_true h1]),
    trivial⟩ fun τ W g h=>⟨_,rfl,h 0 rfl,g⟩
 · skip
   refine A4 B6 Tryz.func146 [sI x,sI y] [sV (.bool false),kY (x / y) (x%y) 0] (.cons Ha (.cons Hb .nil)) (rs:=[cl 2 166 [ag 2 1],cl 3 44 [ag 2 0,ag 2 1]]) (out:=ag 2 3) (nc:=4) (by kernel_rfl)
    ⟨fun σ W g h hb=>toV (T0 W _ y K (h 1 rfl) hK lb) (by rw [decide_eq_false h1]),
    fun σ W g h hb=>gX (K6 W _ _ x y K (h 0 rfl) (h 1 rfl) (by omega) la lb (by omega)) rfl,
    trivial⟩ fun τ W g h=>⟨_,rfl,iiE1 (h 3 rfl),g⟩
theorem gG {a b k:Nat} (ha:a<B^k) (hb:b<B^k):Nat.gcd a b<B^k:=by
 rcases Nat.eq_zero_or_pos a with h | h
 · rw [h,Nat.gcd_zero_left];exact hb
 · exact Nat.lt_of_le_of_lt (Nat.gcd_le_left _ h) ha
theorem R8 (w:World) (va vb:Value) (x y:Int) (K:Nat) (Ha:IntV w va x) (Hb:IntV w vb y) (hK:K<=800000) (la:x.natAbs<B^K) (lb:y.natAbs<B^K) (hT:Tab w) :
 Calls Tryz.prog 144 #[va,vb] w (E8 w ((Nat.gcd x.natAbs y.natAbs:Nat):Int)):=by
 rcases (show x=1\/(x≠1/\y=1)\/(x≠1/\y≠1) by omega) with h1 | ⟨h1,h2⟩ | ⟨h1,h2⟩
 · skip
   rw [h1,show Int.natAbs 1=1 from rfl,Nat.gcd_one_left]
   refine A4 B6 Tryz.func144 [sI x,sI y] [sV (.bool true),sI 1] (.cons Ha (.cons Hb .nil)) (rs:=[cl 2 166 [ag 2 0],cl 3 10 [.v false [.lit (.int .i64 1)]]]) (out:=ag 2 3) (nc:=4) (by kernel_rfl)
    ⟨fun σ W g h hb=>toV (T0 W _ x K (h 0 rfl) hK la) (by rw [decide_eq_true h1]),
    fun σ W g h hb=>C5 W 1 (by omega) (by omega),
    trivial⟩ fun τ W g h=>⟨_,rfl,h 3 rfl,g⟩
 · skip
   rw [h2,show Int.natAbs 1=1 from rfl,Nat.gcd_one_right]
   refine A4 B6 Tryz.func144 [sI x,sI y] [sV (.bool false),sV (.bool true),sI 1] (.cons Ha (.cons Hb .nil)) (rs:=[cl 2 166 [ag 2 0],cl 3 166 [ag 2 1],cl 4 10 [.v false [.lit (.int .i64 1)]]]) (out:=ag 2 4) (nc:=5) (by kernel_rfl)
    ⟨fun σ W g h hb=>toV (T0 W _ x K (h 0 rfl) hK la) (by rw [decide_eq_false h1]),
    fun σ W g h hb=>toV (T0 W _ y K (h 1 rfl) hK lb) (by rw [decide_eq_true h2]),
    fun σ W g h hb=>C5 W 1 (by omega) (by omega),
    trivial⟩ fun τ W g h=>⟨_,rfl,h 4 rfl,g⟩
 · skip
   refine A4 B6 Tryz.func144 [sI x,sI y] [sV (.bool false),sV (.bool false),sN x.natAbs,sN y.natAbs,sN (Nat.gcd x.natAbs y.natAbs),sI (Nat.gcd x.natAbs y.natAbs:Nat)] (.cons Ha (.cons Hb .nil)) (rs:=[cl 2 166 [ag 2 0],cl 3 166 [ag 2 1],cl 4 36 [ag 2 0],cl 5 36 [ag 2 1],cl 6 167 [ag 1 4,ag 1 5],cl 7 40 [ag 1 6]]) (out:=ag 2 7) (nc:=8) (by kernel_rfl)
    ⟨fun σ W g h hb=>toV (T0 W _ x K (h 0 rfl) hK la) (by rw [decide_eq_false h1]),
    fun σ W g h hb=>toV (T0 W _ y K (h 1 rfl) hK lb) (by rw [decide_eq_false h2]),
    fun σ W g h hb=>bD W _ x K (h 0 rfl) (by omega) la,
    fun σ W g h hb=>bD W _ y K (h 1 rfl) (by omega) lb,
    fun σ W g h hb=>Gcd_any W _ _ x.natAbs y.natAbs K (h 4 rfl) (h 5 rfl) (by omega) la lb (hT.kept g (by simp)),
    fun σ W g h hb=>bB W _ _ K (h 6 rfl) (by omega) (gG la lb),
    trivial⟩ fun τ W g h=>⟨_,rfl,h 7 rfl,g⟩
theorem ldi {n K:Nat} (h:n<B^K):((n:Nat):Int).natAbs<B^K:=by rw [Int.natAbs_natCast];exact h
theorem dn_one {r:Rat} (h:r.den=1):dn r=0:=by unfold dn;rw [if_pos h]
theorem nX {r:Rat} (h:r.den≠1):dn r=(r.den:Int):=by unfold dn;rw [if_neg h]
theorem dn_sign {r:Rat} (h:r.den≠1):(dn r).sign=1:=by
 rw [nX h];exact Int.sign_eq_one_of_pos (by have:=r.den_pos;omega)
theorem gP (w:World) (va vb:Value) (r:Rat) (K:Nat) (Ha:IntV w va r.num) (Hb:IntV w vb (r.den:Int)) (hK:K<=800000) (lb:r.den<B^K) :
 Calls Tryz.prog 145 #[va,vb] w (bK w r):=by
 by_cases h1:r.den=1
 · skip
   refine A4 B6 Tryz.func145 [sI r.num,sI (r.den:Int)] [sV (.bool true)] (.cons Ha (.cons Hb .nil)) (rs:=[cl 2 166 [ag 2 1]]) (out := .v true [.an 0 0,.an 0 1,.lit (.slice none 0 0),.lit (.bool false)]) (nc:=3) (by kernel_rfl)
    ⟨fun σ W g h hb=>toV (T0 W _ _ K (h 1 rfl) hK (ldi lb)) (by rw [decide_eq_true (by omega)]),
    trivial⟩ fun τ W g h=>⟨_,rfl,mkq (h 0 rfl) (by rw [dn_one h1];exact IntV.zero W),g⟩
 · skip
   refine A4 B6 Tryz.func145 [sI r.num,sI (r.den:Int)] [sV (.bool false)] (.cons Ha (.cons Hb .nil)) (rs:=[cl 2 166 [ag 2 1]]) (out := .v true [.an 0 0,.an 0 1,.an 1 0,.an 1 1]) (nc:=3) (by kernel_rfl)
    ⟨fun σ W g h hb=>toV (T0 W _ _ K (h 1 rfl) hK (ldi lb)) (by rw [decide_eq_false (by omega)]),
    trivial⟩ fun τ W g h=>⟨_,rfl,mkq (h 0 rfl) (by rw [nX h1];exact h 1 rfl),g⟩
theorem E4 (w:World) (va:Value) (r:Rat) (K:Nat) (Ha:RatV w va r) (hK:K<=800000) (ld:r.den<B^K) :
 Calls Tryz.prog 58 #[va] w (RetB w (decide (r.den=1))):=by
 by_cases h1:r.den=1
 · skip
   rw [decide_eq_true h1]
   refine A4 B6 Tryz.func58 [sQ r] [sV (.int .i64 0)] (.cons Ha .nil) (rs:=[cl 1 46 [.v true [.an 0 2,.an 0 3]]]) (out := .v false [.lit (.bool true)]) (nc:=2) (by kernel_rfl)
    ⟨fun σ W g h hb=>toV (D3 W _ (dn r) K (qd (h 0 rfl)) (by omega) (dn_bd ld)) (by rw [dn_one h1];rfl),
    trivial⟩ fun τ W g h=>⟨rfl,g⟩
 · skip
   rw [decide_eq_false h1]
   refine A4 B6 Tryz.func58 [sQ r] [sV (.int .i64 1)] (.cons Ha .nil) (rs:=[cl 1 46 [.v true [.an 0 2,.an 0 3]]]) (out := .v false [.lit (.bool false)]) (nc:=2) (by kernel_rfl)
    ⟨fun σ W g h hb=>toV (D3 W _ (dn r) K (qd (h 0 rfl)) (by omega) (dn_bd ld)) (by rw [dn_sign h1]),
    trivial⟩ fun τ W g h=>⟨rfl,g⟩
theorem B1 (w:World) (va:Value) (r:Rat) (K:Nat) (Ha:RatV w va r) (hK:K<=800000) (ln:r.num.natAbs<B^K) :
 Calls Tryz.prog 66 #[va] w (fun e w'=>e = .returned (.int .i64 r.num.sign)/\w.grownBy w' none):=by
 refine A4 B6 Tryz.func66 [sQ r] [sZ r.num.sign] (.cons Ha .nil) (rs:=[cl 1 46 [ag 2 0]]) (out:=on 1) (nc:=2) (by kernel_rfl)
  ⟨fun σ W g h hb=>D3 W _ _ K (qn (h 0 rfl)) (by omega) ln |>.mono fun _ _ ⟨a,g⟩=>⟨_,a,rfl,g⟩,
  trivial⟩ fun τ W g h=>⟨congrArg Ending.returned (h 1 rfl),g⟩
theorem cH (w:World) (va:Value) (r:Rat) (K:Nat) (Ha:RatV w va r) (hK:K<=800000) (ln:r.num.natAbs<B^K) :
 Calls Tryz.prog 90 #[va] w (E8 w r.num):=by
 refine A4 B6 Tryz.func90 [sQ r] [sI r.num] (.cons Ha .nil) (rs:=[cl 1 47 [ag 2 0]]) (out:=ag 2 1) (nc:=2) (by kernel_rfl)
  ⟨fun σ W g h hb=>K7 W _ _ K (qn (h 0 rfl)) hK ln,
  trivial⟩ fun τ W g h=>⟨_,rfl,h 1 rfl,g⟩
theorem E6 (w:World) (va:Value) (r:Rat) (K:Nat) (Ha:RatV w va r) (hK:K<=800000) (ld:r.den<B^K) :
 Calls Tryz.prog 99 #[va] w (E8 w (r.den:Int)):=by
 by_cases h1:r.den=1
 · skip
   rw [h1]
   refine A4 B6 Tryz.func99 [sQ r] [sV (.bool true),sI 1] (.cons Ha .nil) (rs:=[cl 1 58 [ag 4 0],cl 2 10 [.v false [.lit (.int .i64 1)]]]) (out:=ag 2 2) (nc:=3) (by kernel_rfl)
    ⟨fun σ W g h hb=>toV (E4 W _ r K (h 0 rfl) (by omega) ld) (by rw [decide_eq_true h1]),
    fun σ W g h hb=>C5 W 1 (by omega) (by omega),
    trivial⟩ fun τ W g h=>⟨_,rfl,h 2 rfl,g⟩
 · skip
   refine A4 B6 Tryz.func99 [sQ r] [sV (.bool false)] (.cons Ha .nil) (rs:=[cl 1 58 [ag 4 0]]) (out := .v true [.an 0 2,.an 0 3]) (nc:=2) (by kernel_rfl)
    ⟨fun σ W g h hb=>toV (E4 W _ r K (h 0 rfl) (by omega) ld) (by rw [decide_eq_false h1]),
    trivial⟩ fun τ W g h=>⟨_,rfl,nX h1 ▸ qd (h 0 rfl),g⟩
theorem kN (w:World) (va:Value) (r:Rat) (K:Nat) (Ha:RatV w va r) (hK:K<=800000) (ld:r.den<B^K) :
 Calls Tryz.prog 109 #[va] w (E8 w (r.den:Int)):=by
 refine A4 B6 Tryz.func109 [sQ r] [sI (r.den:Int),sI (r.den:Int)] (.cons Ha .nil) (rs:=[cl 1 99 [ag 4 0],cl 2 47 [ag 2 1]]) (out:=ag 2 2) (nc:=3) (by kernel_rfl)
  ⟨fun σ W g h hb=>E6 W _ _ K (h 0 rfl) hK ld,
  fun σ W g h hb=>K7 W _ _ K (h 1 rfl) hK (ldi ld),
  trivial⟩ fun τ W g h=>⟨_,rfl,h 2 rfl,g⟩
theorem B2 (w:World) (va:Value) (x:Int) (K:Nat) (Ha:IntV w va x) (hK:K<=800000) (la:x.natAbs<B^K) :
 Calls Tryz.prog 9 #[va] w (bK w (x:Rat)):=by
 refine A4 B6 Tryz.func9 [sI x] [sI x] (.cons Ha .nil) (rs:=[cl 1 47 [ag 2 0]]) (out := .v true [.an 1 0,.an 1 1,.lit (.slice none 0 0),.lit (.bool false)]) (nc:=2) (by kernel_rfl)
  ⟨fun σ W g h hb=>K7 W _ _ K (h 0 rfl) hK la,
  trivial⟩ fun τ W g h=>⟨_,rfl,mkq (by rw [Rat.num_intCast];exact h 1 rfl) (by rw [dn_int];exact IntV.zero W),g⟩
theorem cI (w:World) (va:Value) (r:Rat) (K:Nat) (Ha:RatV w va r) (hK:K<=800000) (ln:r.num.natAbs<B^K) (ld:r.den<B^K) :
 Calls Tryz.prog 74 #[va] w (bK w (-r)):=by
 refine A4 B6 Tryz.func74 [sQ r] [sI (-r.num),sI (dn r)] (.cons Ha .nil) (rs:=[cl 1 81 [ag 2 0],cl 2 47 [.v true [.an 0 2,.an 0 3]]]) (out := .v true [.an 1 0,.an 1 1,.an 2 0,.an 2 1]) (nc:=3) (by kernel_rfl)
  ⟨fun σ W g h hb=>X0 W _ _ K (qn (h 0 rfl)) (by omega) ln,
  fun σ W g h hb=>K7 W _ _ K (qd (h 0 rfl)) hK (dn_bd ld),
  trivial⟩ fun τ W g h=>⟨_,rfl,mkq (show IntV W _ (-r.num) from h 1 rfl) (by rw [dn_neg];exact h 2 rfl),g⟩
theorem toZ {P:Program} {f:FuncId} {args:Array Value} {W:World} {n m:Int} (h:Calls P f args W (fun e w'=>e = .returned (.int .i64 n)/\W.grownBy w' none)) (e:n=m):Calls P f args W (Ret W (sZ m).F):=
 h.mono fun _ _ ⟨a,g⟩=>⟨_,a,by rw [e];rfl,g⟩
theorem FCmp_any (w:World) (va vb:Value) (r t:Rat) (K:Nat) (Ha:RatV w va r) (Hb:RatV w vb t) (hK:K<=400000) (ln:r.num.natAbs<B^K) (ld:r.den<B^K) (mn:t.num.natAbs<B^K) (md:t.den<B^K) :
 Calls Tryz.prog 39 #[va,vb] w (fun e w'=>e = .returned (.int .i64 (dW r t))/\w.grownBy w' none):=by
 rcases (show (r.den=1/\t.den=1)\/(r.den=1/\t.den≠1)\/r.den≠1 by omega) with ⟨h1,h2⟩ | ⟨h1,h2⟩ | h1
 · skip
   refine A4 B6 Tryz.func39 [sQ r,sQ t] [sV (.bool true),sV (.bool true),sZ (dW r t)] (.cons Ha (.cons Hb .nil)) (rs:=[cl 2 58 [ag 4 0],cl 3 58 [ag 4 1],cl 4 18 [ag 2 0,ag 2 1]]) (out:=on 4) (nc:=5) (by kernel_rfl)
    ⟨fun σ W g h hb=>toV (E4 W _ r K (h 0 rfl) (by omega) ld) (by rw [decide_eq_true h1]),
    fun σ W g h hb=>toV (E4 W _ t K (h 1 rfl) (by omega) md) (by rw [decide_eq_true h2]),
    fun σ W g h hb=>toZ (G6 W _ _ _ _ K (qn (h 0 rfl)) (qn (h 1 rfl)) (by omega) ln mn) (rcmp_whole h1 h2),
    trivial⟩ fun τ W g h=>⟨congrArg Ending.returned (h 4 rfl),g⟩
 · skip
   refine A4 B6 Tryz.func39 [sQ r,sQ t] [sV (.bool true),sV (.bool false),sI (t.den:Int),sI (r.num*t.den),sI (r.den:Int),sI (t.num*r.den),sZ (dW r t)] (.cons Ha (.cons Hb .nil)) (rs:=[cl 2 58 [ag 4 0],cl 3 58 [ag 4 1],cl 4 99 [ag 4 1],cl 5 38 [ag 2 0,ag 2 4],cl 6 99 [ag 4 0],cl 7 38 [ag 2 1,ag 2 6],cl 8 18 [ag 2 5,ag 2 7]]) (out:=on 8) (nc:=9) (by kernel_rfl)
    ⟨fun σ W g h hb=>toV (E4 W _ r K (h 0 rfl) (by omega) ld) (by rw [decide_eq_true h1]),
    fun σ W g h hb=>toV (E4 W _ t K (h 1 rfl) (by omega) md) (by rw [decide_eq_false h2]),
    fun σ W g h hb=>E6 W _ t K (h 1 rfl) (by omega) md,
    fun σ W g h hb=>E7 W _ _ _ _ K (qn (h 0 rfl)) (h 4 rfl) (by omega) ln (ldi md),
    fun σ W g h hb=>E6 W _ r K (h 0 rfl) (by omega) ld,
    fun σ W g h hb=>E7 W _ _ _ _ K (qn (h 1 rfl)) (h 6 rfl) (by omega) mn (ldi ld),
    fun σ W g h hb=>toZ (G6 W _ _ _ _ (K+K) (h 5 rfl) (h 7 rfl) (by omega) (Y3 ln (ldi md)) (Y3 mn (ldi ld))) rfl,
    trivial⟩ fun τ W g h=>⟨congrArg Ending.returned (h 8 rfl),g⟩
 · skip
   refine A4 B6 Tryz.func39 [sQ r,sQ t] [sV (.bool false),sI (t.den:Int),sI (r.num*t.den),sI (r.den:Int),sI (t.num*r.den),sZ (dW r t)] (.cons Ha (.cons Hb .nil)) (rs:=[cl 2 58 [ag 4 0],cl 3 99 [ag 4 1],cl 4 38 [ag 2 0,ag 2 3],cl 5 99 [ag 4 0],cl 6 38 [ag 2 1,ag 2 5],cl 7 18 [ag 2 4,ag 2 6]]) (out:=on 7) (nc:=8) (by kernel_rfl)
    ⟨fun σ W g h hb=>toV (E4 W _ r K (h 0 rfl) (by omega) ld) (by rw [decide_eq_false h1]),
    fun σ W g h hb=>E6 W _ t K (h 1 rfl) (by omega) md,
    fun σ W g h hb=>E7 W _ _ _ _ K (qn (h 0 rfl)) (h 3 rfl) (by omega) ln (ldi md),
    fun σ W g h hb=>E6 W _ r K (h 0 rfl) (by omega) ld,
    fun σ W g h hb=>E7 W _ _ _ _ K (qn (h 1 rfl)) (h 5 rfl) (by omega) mn (ldi ld),
    fun σ W g h hb=>toZ (G6 W _ _ _ _ (K+K) (h 4 rfl) (h 6 rfl) (by omega) (Y3 ln (ldi md)) (Y3 mn (ldi ld))) rfl,
    trivial⟩ fun τ W g h=>⟨congrArg Ending.returned (h 7 rfl),g⟩
theorem nW {x:Int} {g K:Nat} (hg:g ∣ x.natAbs) (h:x.natAbs<B^K):(x / (g:Int)).natAbs<B^K:=by
 exact Nat.lt_of_le_of_lt (Int.natAbs_ediv_le_natAbs _ _) h
theorem kM (w:World) (va vb vc vd:Value) (r t:Rat) (K:Nat) (Ha:IntV w va r.num) (Hb:IntV w vb (r.den:Int)) (Hc:IntV w vc t.num) (Hd:IntV w vd (t.den:Int)) (hK:K<=300000) (ln:r.num.natAbs<B^K) (ld:r.den<B^K) (mn:t.num.natAbs<B^K) (md:t.den<B^K) (hTab:Tab w) :
 Calls Tryz.prog 125 #[va,vb,vc,vd] w (bK w (r*t)):=by
 have ldi:(r.den:Int).natAbs<B^K:=by rw [Int.natAbs_natCast];exact ld
 have mdi:(t.den:Int).natAbs<B^K:=by rw [Int.natAbs_natCast];exact md
 obtain ⟨G1,e1⟩:∃ G,Nat.gcd r.num.natAbs t.den=G:=⟨_,rfl⟩
 obtain ⟨G2,e2⟩:∃ G,Nat.gcd t.num.natAbs r.den=G:=⟨_,rfl⟩
 have g1p : 0<G1:=by rw [<- e1];exact Nat.gcd_pos_of_pos_right _ t.den_pos
 have g2p : 0<G2:=by rw [<- e2];exact Nat.gcd_pos_of_pos_right _ r.den_pos
 have g1d:G1 ∣ r.num.natAbs/\G1 ∣ t.den:=by rw [<- e1];exact ⟨Nat.gcd_dvd_left _ _,Nat.gcd_dvd_right _ _⟩
 have g2d:G2 ∣ t.num.natAbs/\G2 ∣ r.den:=by rw [<- e2];exact ⟨Nat.gcd_dvd_left _ _,Nat.gcd_dvd_right _ _⟩
 have g1b:(G1:Int).natAbs<B^K:=by rw [Int.natAbs_natCast, <- e1];exact gG ln md
 have g2b:(G2:Int).natAbs<B^K:=by rw [Int.natAbs_natCast, <- e2];exact gG mn ld
 have b1:(r.num / (G1:Int)).natAbs<B^K:=nW g1d.1 ln
 have b2:(t.num / (G2:Int)).natAbs<B^K:=nW g2d.1 mn
 have b3:((r.den:Int) / (G2:Int)).natAbs<B^K:=nW (by rw [Int.natAbs_natCast];exact g2d.2) ldi
 have b4:((t.den:Int) / (G1:Int)).natAbs<B^K:=nW (by rw [Int.natAbs_natCast];exact g1d.2) mdi
 have rn:(r*t).num=r.num / (G1:Int)*(t.num / (G2:Int)):=by rw [jK,e1,e2]
 have rd:((r*t).den:Int)=(r.den:Int) / (G2:Int)*((t.den:Int) / (G1:Int)):=by rw [jL,e1,e2,Int.natCast_mul];rfl
 have rb:(r*t).den<B^(K+K):=by
  have h:=Y3 b3 b4
  rw [<- rd,Int.natAbs_natCast] at h;exact h
 refine A4 B6 Tryz.func125 [sI r.num,sI r.den,sI t.num,sI t.den] [sI G1,sI G2,sI (r.num / G1),sI (t.num / G2),sI (r*t).num,sI (r.den / G2),sI (t.den / G1),sI (r*t).den,sQ (r*t)] (.cons Ha (.cons Hb (.cons Hc (.cons Hd .nil))))
  (rs:=[cl 4 144 [ag 2 0,ag 2 3],cl 5 144 [ag 2 2,ag 2 1],cl 6 146 [ag 2 0,ag 2 4],cl 7 146 [ag 2 2,ag 2 5],cl 8 38 [ag 2 6,ag 2 7],cl 9 146 [ag 2 1,ag 2 5],cl 10 146 [ag 2 3,ag 2 4],cl 11 38 [ag 2 9,ag 2 10],cl 12 145 [ag 2 8,ag 2 11]])
  (out:=ag 4 12) (nc:=13) (by kernel_rfl) ⟨?_, ?_, ?_, ?_, ?_, ?_, ?_, ?_, ?_,trivial⟩ fun τ W g h=>⟨_,rfl,h 12 rfl,g⟩
 · intro σ W g h _
   have:=R8 W _ _ r.num (t.den:Int) K (h 0 rfl) (h 3 rfl) (by omega) ln mdi (hTab.kept g (by simp))
   rw [Int.natAbs_natCast,e1] at this;exact this
 · intro σ W g h _
   have:=R8 W _ _ t.num (r.den:Int) K (h 2 rfl) (h 1 rfl) (by omega) mn ldi (hTab.kept g (by simp))
   rw [Int.natAbs_natCast,e2] at this;exact this
 · exact fun σ W g h _=>I7 W _ _ r.num (G1:Int) K (h 0 rfl) (h 4 rfl) (by omega) ln g1b (by omega)
 · exact fun σ W g h _=>I7 W _ _ t.num (G2:Int) K (h 2 rfl) (h 5 rfl) (by omega) mn g2b (by omega)
 · exact fun σ W g h _=>rn ▸ E7 W _ _ _ _ K (h 6 rfl) (h 7 rfl) (by omega) b1 b2
 · exact fun σ W g h _=>I7 W _ _ (r.den:Int) (G2:Int) K (h 1 rfl) (h 5 rfl) (by omega) ldi g2b (by omega)
 · exact fun σ W g h _=>I7 W _ _ (t.den:Int) (G1:Int) K (h 3 rfl) (h 4 rfl) (by omega) mdi g1b (by omega)
 · exact fun σ W g h _=>rd ▸ E7 W _ _ _ _ K (h 9 rfl) (h 10 rfl) (by omega) b3 b4
 · exact fun σ W g h _=>gP W _ _ _ (K+K) (h 8 rfl) (h 11 rfl) (by omega) rb
theorem B9 (w:World) (va vb:Value) (r t:Rat) (K:Nat) (Ha:RatV w va r) (Hb:RatV w vb t) (hK:K<=300000) (ln:r.num.natAbs<B^K) (ld:r.den<B^K) (mn:t.num.natAbs<B^K) (md:t.den<B^K) (hTab:Tab w) :
 Calls Tryz.prog 67 #[va,vb] w (bK w (r*t)):=by
 rcases (show (r.den=1/\t.den=1)\/(r.den=1/\t.den≠1)\/r.den≠1 by omega) with ⟨h1,h2⟩ | ⟨h1,h2⟩ | h1
 · skip
   refine A4 B6 Tryz.func67 [sQ r,sQ t] [sV (.bool true),sV (.bool true),sI (r.num*t.num)] (.cons Ha (.cons Hb .nil)) (rs:=[cl 2 58 [ag 4 0],cl 3 58 [ag 4 1],cl 4 38 [ag 2 0,ag 2 1]]) (out := .v true [.an 4 0,.an 4 1,.lit (.slice none 0 0),.lit (.bool false)]) (nc:=5) (by kernel_rfl)
    ⟨fun σ W g h hb=>toV (E4 W _ r K (h 0 rfl) (by omega) ld) (by rw [decide_eq_true h1]),
    fun σ W g h hb=>toV (E4 W _ t K (h 1 rfl) (by omega) md) (by rw [decide_eq_true h2]),
    fun σ W g h hb=>E7 W _ _ _ _ K (qn (h 0 rfl)) (qn (h 1 rfl)) (by omega) ln mn,
    trivial⟩ fun τ W g h=>⟨_,rfl,mkq (by rw [(pK h1 h2).1];exact h 4 rfl) (by rw [(pK h1 h2).2];exact IntV.zero W),g⟩
 · skip
   refine A4 B6 Tryz.func67 [sQ r,sQ t] [sV (.bool true),sV (.bool false),sI (r.den:Int),sI (t.den:Int),sQ (r*t)] (.cons Ha (.cons Hb .nil)) (rs:=[cl 2 58 [ag 4 0],cl 3 58 [ag 4 1],cl 4 99 [ag 4 0],cl 5 99 [ag 4 1],cl 6 125 [ag 2 0,ag 2 4,ag 2 1,ag 2 5]]) (out:=ag 4 6) (nc:=7) (by kernel_rfl)
    ⟨fun σ W g h hb=>toV (E4 W _ r K (h 0 rfl) (by omega) ld) (by rw [decide_eq_true h1]),
    fun σ W g h hb=>toV (E4 W _ t K (h 1 rfl) (by omega) md) (by rw [decide_eq_false h2]),
    fun σ W g h hb=>E6 W _ r K (h 0 rfl) (by omega) ld,
    fun σ W g h hb=>E6 W _ t K (h 1 rfl) (by omega) md,
    fun σ W g h hb=>kM W _ _ _ _ r t K (qn (h 0 rfl)) (h 4 rfl) (qn (h 1 rfl)) (h 5 rfl) hK ln ld mn md (hTab.kept g (by simp)),
    trivial⟩ fun τ W g h=>⟨_,rfl,h 6 rfl,g⟩
 · skip
   refine A4 B6 Tryz.func67 [sQ r,sQ t] [sV (.bool false),sI (r.den:Int),sI (t.den:Int),sQ (r*t)] (.cons Ha (.cons Hb .nil)) (rs:=[cl 2 58 [ag 4 0],cl 3 99 [ag 4 0],cl 4 99 [ag 4 1],cl 5 125 [ag 2 0,ag 2 3,ag 2 1,ag 2 4]]) (out:=ag 4 5) (nc:=6) (by kernel_rfl)
    ⟨fun σ W g h hb=>toV (E4 W _ r K (h 0 rfl) (by omega) ld) (by rw [decide_eq_false h1]),
    fun σ W g h hb=>E6 W _ r K (h 0 rfl) (by omega) ld,
    fun σ W g h hb=>E6 W _ t K (h 1 rfl) (by omega) md,
    fun σ W g h hb=>kM W _ _ _ _ r t K (qn (h 0 rfl)) (h 3 rfl) (qn (h 1 rfl)) (h 4 rfl) hK ln ld mn md (hTab.kept g (by simp)),
    trivial⟩ fun τ W g h=>⟨_,rfl,h 5 rfl,g⟩
theorem kL (w:World) (va vb vc vd:Value) (r t:Rat) (K:Nat) (Ha:IntV w va r.num) (Hb:IntV w vb (r.den:Int)) (Hc:IntV w vc t.num) (Hd:IntV w vd (t.den:Int)) (hK:K<=300000) (ln:r.num.natAbs<B^K) (ld:r.den<B^K) (mn:t.num.natAbs<B^K) (md:t.den<B^K) (hTab:Tab w) :
 Calls Tryz.prog 101 #[va,vb,vc,vd] w (bK w (r+t)):=by
 have rdi:=ldi ld
 have mdi:=ldi md
 obtain ⟨G1,e1⟩:∃ G,Nat.gcd r.den t.den=G:=⟨_,rfl⟩
 have g1p : 0<G1:=by rw [<- e1];exact Nat.gcd_pos_of_pos_right _ t.den_pos
 have g1b:(G1:Int).natAbs<B^K:=by rw [Int.natAbs_natCast, <- e1];exact gG ld md
 obtain ⟨D1,q3⟩:∃ z,(r.den:Int) / (G1:Int)=z:=⟨_,rfl⟩
 obtain ⟨F1,q4⟩:∃ z,(t.den:Int) / (G1:Int)=z:=⟨_,rfl⟩
 have b1:D1.natAbs<B^K:=by rw [<- q3];exact Nat.lt_of_le_of_lt (Int.natAbs_ediv_le_natAbs _ _) rdi
 have b2:F1.natAbs<B^K:=by rw [<- q4];exact Nat.lt_of_le_of_lt (Int.natAbs_ediv_le_natAbs _ _) mdi
 have b3:(r.num*F1).natAbs<B^(K+K):=Y3 ln b2
 have b4:(t.num*D1).natAbs<B^(K+K):=Y3 mn b1
 have b5:(r.num*F1+t.num*D1).natAbs<B^(K+K+1):=kC b3 b4
 obtain ⟨G2,e2⟩:∃ G,Nat.gcd (r.num*F1+t.num*D1).natAbs G1=G:=⟨_,rfl⟩
 have hp:=pO r t G1 G2 (r.num*F1+t.num*D1) e1.symm (by rw [<- q3, <- q4];rfl) e2.symm
 have g2p : 0<G2:=by rw [<- e2];exact Nat.gcd_pos_of_pos_right _ g1p
 have g2b:(G2:Int).natAbs<B^K:=by rw [Int.natAbs_natCast, <- e2];rw [Int.natAbs_natCast] at g1b;exact Nat.lt_of_le_of_lt (Nat.gcd_le_right _ g1p) g1b
 have b6:((t.den:Int) / (G2:Int)).natAbs<B^K:=Nat.lt_of_le_of_lt (Int.natAbs_ediv_le_natAbs _ _) mdi
 have rd:((r+t).den:Int)=D1*((t.den:Int) / (G2:Int)):=by rw [hp.2, <- q3,Int.natCast_mul];rfl
 have rb:(r+t).den<B^(K+K):=by
  have h:=Y3 b1 b6
  rw [<- rd,Int.natAbs_natCast] at h;exact h
 refine A4 B6 Tryz.func101 [sI r.num,sI r.den,sI t.num,sI t.den] [sI G1,sI D1,sI F1,sI (r.num*F1),sI (t.num*D1),sI (r.num*F1+t.num*D1),sI G2,sI (r+t).num,sI (t.den / G2),sI (r+t).den,sQ (r+t)] (.cons Ha (.cons Hb (.cons Hc (.cons Hd .nil)))) (rs:=[cl 4 144 [ag 2 1,ag 2 3],cl 5 146 [ag 2 1,ag 2 4],cl 6 146 [ag 2 3,ag 2 4],cl 7 38 [ag 2 0,ag 2 6],cl 8 38 [ag 2 2,ag 2 5],cl 9 45 [ag 2 7,ag 2 8],cl 10 144 [ag 2 9,ag 2 4],cl 11 146 [ag 2 9,ag 2 10],cl 12 146 [ag 2 3,ag 2 10],cl 13 38 [ag 2 5,ag 2 12],cl 14 145 [ag 2 11,ag 2 13]]) (out:=ag 4 14) (nc:=15) (by kernel_rfl)
  ⟨fun σ W g h hb=>by
   have:=R8 W _ _ (r.den:Int) (t.den:Int) K (h 1 rfl) (h 3 rfl) (by omega) rdi mdi (hTab.kept g (by simp))
   rw [Int.natAbs_natCast,Int.natAbs_natCast,e1] at this;exact this,
  fun σ W g h hb=>q3 ▸ I7 W _ _ (r.den:Int) (G1:Int) K (h 1 rfl) (h 4 rfl) (by omega) rdi g1b (by omega),
  fun σ W g h hb=>q4 ▸ I7 W _ _ (t.den:Int) (G1:Int) K (h 3 rfl) (h 4 rfl) (by omega) mdi g1b (by omega),
  fun σ W g h hb=>E7 W _ _ _ _ K (h 0 rfl) (h 6 rfl) (by omega) ln b2,
  fun σ W g h hb=>E7 W _ _ _ _ K (h 2 rfl) (h 5 rfl) (by omega) mn b1,
  fun σ W g h hb=>D7 W _ _ _ _ (K+K) (h 7 rfl) (h 8 rfl) (by omega) b3 b4,
  fun σ W g h hb=>by
   have:=R8 W _ _ _ (G1:Int) (K+K+1) (h 9 rfl) (h 4 rfl) (by omega) b5 (fbw g1b (by omega)) (hTab.kept g (by simp))
   rw [Int.natAbs_natCast,e2] at this;exact this,
  fun σ W g h hb=>hp.1 ▸ I7 W _ _ _ (G2:Int) (K+K+1) (h 9 rfl) (h 10 rfl) (by omega) b5 (fbw g2b (by omega)) (by omega),
  fun σ W g h hb=>I7 W _ _ (t.den:Int) (G2:Int) K (h 3 rfl) (h 10 rfl) (by omega) mdi g2b (by omega),
  fun σ W g h hb=>rd ▸ E7 W _ _ _ _ K (h 5 rfl) (h 12 rfl) (by omega) b1 b6,
  fun σ W g h hb=>gP W _ _ _ (K+K) (h 11 rfl) (h 13 rfl) (by omega) rb,
  trivial⟩ fun τ W g h=>⟨_,rfl,h 14 rfl,g⟩
theorem F4 (w:World) (va vb:Value) (r t:Rat) (K:Nat) (Ha:RatV w va r) (Hb:RatV w vb t) (hK:K<=300000) (ln:r.num.natAbs<B^K) (ld:r.den<B^K) (mn:t.num.natAbs<B^K) (md:t.den<B^K) (hTab:Tab w) :
 Calls Tryz.prog 42 #[va,vb] w (bK w (r+t)):=by
 rcases (show (r.den=1/\t.den=1)\/(r.den=1/\t.den≠1)\/r.den≠1 by omega) with ⟨h1,h2⟩ | ⟨h1,h2⟩ | h1
 · skip
   refine A4 B6 Tryz.func42 [sQ r,sQ t] [sV (.bool true),sV (.bool true),sI (r.num+t.num)] (.cons Ha (.cons Hb .nil)) (rs:=[cl 2 58 [ag 4 0],cl 3 58 [ag 4 1],cl 4 45 [ag 2 0,ag 2 1]]) (out := .v true [.an 4 0,.an 4 1,.lit (.slice none 0 0),.lit (.bool false)]) (nc:=5) (by kernel_rfl)
    ⟨fun σ W g h hb=>toV (E4 W _ r K (h 0 rfl) (by omega) ld) (by rw [decide_eq_true h1]),
    fun σ W g h hb=>toV (E4 W _ t K (h 1 rfl) (by omega) md) (by rw [decide_eq_true h2]),
    fun σ W g h hb=>D7 W _ _ _ _ K (qn (h 0 rfl)) (qn (h 1 rfl)) (by omega) ln mn,
    trivial⟩ fun τ W g h=>⟨_,rfl,mkq (by rw [(iI h1 h2).1];exact h 4 rfl) (by rw [(iI h1 h2).2];exact IntV.zero W),g⟩
 · skip
   refine A4 B6 Tryz.func42 [sQ r,sQ t] [sV (.bool true),sV (.bool false),sI (r.den:Int),sI (t.den:Int),sQ (r+t)] (.cons Ha (.cons Hb .nil)) (rs:=[cl 2 58 [ag 4 0],cl 3 58 [ag 4 1],cl 4 99 [ag 4 0],cl 5 99 [ag 4 1],cl 6 101 [ag 2 0,ag 2 4,ag 2 1,ag 2 5]]) (out:=ag 4 6) (nc:=7) (by kernel_rfl)
    ⟨fun σ W g h hb=>toV (E4 W _ r K (h 0 rfl) (by omega) ld) (by rw [decide_eq_true h1]),
    fun σ W g h hb=>toV (E4 W _ t K (h 1 rfl) (by omega) md) (by rw [decide_eq_false h2]),
    fun σ W g h hb=>E6 W _ r K (h 0 rfl) (by omega) ld,
    fun σ W g h hb=>E6 W _ t K (h 1 rfl) (by omega) md,
    fun σ W g h hb=>kL W _ _ _ _ r t K (qn (h 0 rfl)) (h 4 rfl) (qn (h 1 rfl)) (h 5 rfl) hK ln ld mn md (hTab.kept g (by simp)),
    trivial⟩ fun τ W g h=>⟨_,rfl,h 6 rfl,g⟩
 · skip
   refine A4 B6 Tryz.func42 [sQ r,sQ t] [sV (.bool false),sI (r.den:Int),sI (t.den:Int),sQ (r+t)] (.cons Ha (.cons Hb .nil)) (rs:=[cl 2 58 [ag 4 0],cl 3 99 [ag 4 0],cl 4 99 [ag 4 1],cl 5 101 [ag 2 0,ag 2 3,ag 2 1,ag 2 4]]) (out:=ag 4 5) (nc:=6) (by kernel_rfl)
    ⟨fun σ W g h hb=>toV (E4 W _ r K (h 0 rfl) (by omega) ld) (by rw [decide_eq_false h1]),
    fun σ W g h hb=>E6 W _ r K (h 0 rfl) (by omega) ld,
    fun σ W g h hb=>E6 W _ t K (h 1 rfl) (by omega) md,
    fun σ W g h hb=>kL W _ _ _ _ r t K (qn (h 0 rfl)) (h 3 rfl) (qn (h 1 rfl)) (h 4 rfl) hK ln ld mn md (hTab.kept g (by simp)),
    trivial⟩ fun τ W g h=>⟨_,rfl,h 5 rfl,g⟩
theorem fC (w:World) (va vb:Value) (r t:Rat) (K:Nat) (Ha:RatV w va r) (Hb:RatV w vb t) (hK:K<=300000) (ln:r.num.natAbs<B^K) (ld:r.den<B^K) (mn:t.num.natAbs<B^K) (md:t.den<B^K) (hTab:Tab w) :
 Calls Tryz.prog 43 #[va,vb] w (bK w (r-t)):=by
 rcases (show (r.den=1/\t.den=1)\/(r.den=1/\t.den≠1)\/r.den≠1 by omega) with ⟨h1,h2⟩ | ⟨h1,h2⟩ | h1
 · skip
   refine A4 B6 Tryz.func43 [sQ r,sQ t] [sV (.bool true),sV (.bool true),sI (r.num-t.num)] (.cons Ha (.cons Hb .nil)) (rs:=[cl 2 58 [ag 4 0],cl 3 58 [ag 4 1],cl 4 102 [ag 2 0,ag 2 1]]) (out := .v true [.an 4 0,.an 4 1,.lit (.slice none 0 0),.lit (.bool false)]) (nc:=5) (by kernel_rfl)
    ⟨fun σ W g h hb=>toV (E4 W _ r K (h 0 rfl) (by omega) ld) (by rw [decide_eq_true h1]),
    fun σ W g h hb=>toV (E4 W _ t K (h 1 rfl) (by omega) md) (by rw [decide_eq_true h2]),
    fun σ W g h hb=>rG W _ _ _ _ K (qn (h 0 rfl)) (qn (h 1 rfl)) (by omega) ln mn,
    trivial⟩ fun τ W g h=>⟨_,rfl,mkq (by rw [(pI h1 h2).1];exact h 4 rfl) (by rw [(pI h1 h2).2];exact IntV.zero W),g⟩
 · skip
   refine A4 B6 Tryz.func43 [sQ r,sQ t] [sV (.bool true),sV (.bool false),sI (r.den:Int),sI (-t).num,sI (t.den:Int),sQ (r-t)] (.cons Ha (.cons Hb .nil)) (rs:=[cl 2 58 [ag 4 0],cl 3 58 [ag 4 1],cl 4 99 [ag 4 0],cl 5 81 [ag 2 1],cl 6 99 [ag 4 1],cl 7 101 [ag 2 0,ag 2 4,ag 2 5,ag 2 6]]) (out:=ag 4 7) (nc:=8) (by kernel_rfl)
    ⟨fun σ W g h hb=>toV (E4 W _ r K (h 0 rfl) (by omega) ld) (by rw [decide_eq_true h1]),
    fun σ W g h hb=>toV (E4 W _ t K (h 1 rfl) (by omega) md) (by rw [decide_eq_false h2]),
    fun σ W g h hb=>E6 W _ r K (h 0 rfl) (by omega) ld,
    fun σ W g h hb=>X0 W _ _ K (qn (h 1 rfl)) (by omega) mn,
    fun σ W g h hb=>E6 W _ t K (h 1 rfl) (by omega) md,
    fun σ W g h hb=>Rat.sub_eq_add_neg r t ▸ kL W _ _ _ _ r (-t) K (qn (h 0 rfl)) (h 4 rfl) (h 5 rfl) (h 6 rfl) hK ln ld (by rw [show (-t).num = -t.num from rfl,Int.natAbs_neg];exact mn) md (hTab.kept g (by simp)),
    trivial⟩ fun τ W g h=>⟨_,rfl,h 7 rfl,g⟩
 · skip
   refine A4 B6 Tryz.func43 [sQ r,sQ t] [sV (.bool false),sI (r.den:Int),sI (-t).num,sI (t.den:Int),sQ (r-t)] (.cons Ha (.cons Hb .nil)) (rs:=[cl 2 58 [ag 4 0],cl 3 99 [ag 4 0],cl 4 81 [ag 2 1],cl 5 99 [ag 4 1],cl 6 101 [ag 2 0,ag 2 3,ag 2 4,ag 2 5]]) (out:=ag 4 6) (nc:=7) (by kernel_rfl)
    ⟨fun σ W g h hb=>toV (E4 W _ r K (h 0 rfl) (by omega) ld) (by rw [decide_eq_false h1]),
    fun σ W g h hb=>E6 W _ r K (h 0 rfl) (by omega) ld,
    fun σ W g h hb=>X0 W _ _ K (qn (h 1 rfl)) (by omega) mn,
    fun σ W g h hb=>E6 W _ t K (h 1 rfl) (by omega) md,
    fun σ W g h hb=>Rat.sub_eq_add_neg r t ▸ kL W _ _ _ _ r (-t) K (qn (h 0 rfl)) (h 3 rfl) (h 4 rfl) (h 5 rfl) hK ln ld (by rw [show (-t).num = -t.num from rfl,Int.natAbs_neg];exact mn) md (hTab.kept g (by simp)),
    trivial⟩ fun τ W g h=>⟨_,rfl,h 6 rfl,g⟩
theorem uM (w:World) (va vb:Value) (x y:Int) (K:Nat) (Ha:IntV w va x) (Hb:IntV w vb y) (hK:K<=300000) (la:x.natAbs<B^K) (lb:y.natAbs<B^K) (hTab:Tab w) :
 Calls Tryz.prog 100 #[va,vb] w (gO w (Rat.divInt x y) (if y=0 then 5 else 0)):=by
 rcases iZ y with ⟨hy,hs⟩ | ⟨hy,hs⟩ | ⟨hy,hs⟩
 · skip
   rw [if_neg (by omega)]
   have gp : 0<Nat.gcd x.natAbs y.natAbs:=Nat.gcd_pos_of_pos_right _ (by omega)
   have gb:((Nat.gcd x.natAbs y.natAbs:Nat):Int).natAbs<B^K:=ldi (gG la lb)
   have e9:Rat.divInt x y=Rat.divInt (-x) (-y):=(Rat.neg_divInt_neg x y).symm
   have hm:=tU (-x) (-y) (by omega)
   rw [<- e9,Int.natAbs_neg,Int.natAbs_neg] at hm
   have xb:(-x).natAbs<B^K:=by rw [Int.natAbs_neg];exact la
   have yb:(-y).natAbs<B^K:=by rw [Int.natAbs_neg];exact lb
   have nb:(Rat.divInt x y).num.natAbs<B^K:=vE la
   have db:(Rat.divInt x y).den<B^K:=vF lb (by omega)
   refine A4 B6 Tryz.func100 [sI x,sI y] [sV (.int .i64 (-1)),sI (-x),sI (-y),sI (Nat.gcd x.natAbs y.natAbs:Nat),sI (Rat.divInt x y).num,sI (Rat.divInt x y).num,sI (Rat.divInt x y).den,sI (Rat.divInt x y).den,sQ (Rat.divInt x y)] (.cons Ha (.cons Hb .nil)) (rs:=[cl 2 46 [ag 2 1],cl 3 81 [ag 2 0],cl 4 81 [ag 2 1],cl 5 144 [ag 2 3,ag 2 4],cl 6 146 [ag 2 3,ag 2 5],cl 7 47 [ag 2 6],cl 8 146 [ag 2 4,ag 2 5],cl 9 47 [ag 2 8],cl 10 145 [ag 2 7,ag 2 9]]) (out := .tup [(true,[.an 10 0,.an 10 1,.an 10 2,.an 10 3]),(false,[.lit (.int .i64 0)])]) (nc:=11) (by kernel_rfl)
    ⟨fun σ W g h hb=>toV (D3 W _ y K (h 1 rfl) (by omega) lb) (by rw [hs]),
    fun σ W g h hb=>X0 W _ x K (h 0 rfl) (by omega) la,
    fun σ W g h hb=>X0 W _ y K (h 1 rfl) (by omega) lb,
    fun σ W g h hb=>by
     have:=R8 W _ _ (-x) (-y) K (h 3 rfl) (h 4 rfl) (by omega) xb yb (hTab.kept g (by simp))
     rw [Int.natAbs_neg,Int.natAbs_neg] at this;exact this,
    fun σ W g h hb=>hm.1 ▸ I7 W _ _ (-x) _ K (h 3 rfl) (h 5 rfl) (by omega) xb gb (by omega),
    fun σ W g h hb=>K7 W _ _ K (h 6 rfl) (by omega) nb,
    fun σ W g h hb=>hm.2 ▸ I7 W _ _ (-y) _ K (h 4 rfl) (h 5 rfl) (by omega) yb gb (by omega),
    fun σ W g h hb=>K7 W _ _ K (h 8 rfl) (by omega) (ldi db),
    fun σ W g h hb=>gP W _ _ _ K (h 7 rfl) (h 9 rfl) (by omega) db,
    trivial⟩ fun τ W g h=>⟨_,rfl,h 10 rfl,g⟩
 · skip
   rw [if_pos hy,show Rat.divInt x y=0 by rw [hy,Rat.divInt_zero]]
   refine A4 B6 Tryz.func100 [sI x,sI y] [sV (.int .i64 0)] (.cons Ha (.cons Hb .nil)) (rs:=[cl 2 46 [ag 2 1]]) (out := .tup [(true,[.lit (.slice none 0 0),.lit (.bool false),.lit (.slice none 0 0),.lit (.bool false)]),(false,[.lit (.int .i64 5)])]) (nc:=3) (by kernel_rfl)
    ⟨fun σ W g h hb=>toV (D3 W _ y K (h 1 rfl) (by omega) lb) (by rw [hs]),
    trivial⟩ fun τ W g h=>⟨_,rfl,RatV.zero W,g⟩
 · skip
   rw [if_neg (by omega)]
   have gp : 0<Nat.gcd x.natAbs y.natAbs:=Nat.gcd_pos_of_pos_right _ (by omega)
   have gb:((Nat.gcd x.natAbs y.natAbs:Nat):Int).natAbs<B^K:=ldi (gG la lb)
   have hm:=tU x y hy
   have nb:(Rat.divInt x y).num.natAbs<B^K:=vE la
   have db:(Rat.divInt x y).den<B^K:=vF lb (by omega)
   refine A4 B6 Tryz.func100 [sI x,sI y] [sV (.int .i64 1),sI (Nat.gcd x.natAbs y.natAbs:Nat),sI (Rat.divInt x y).num,sI (Rat.divInt x y).num,sI (Rat.divInt x y).den,sI (Rat.divInt x y).den,sQ (Rat.divInt x y)] (.cons Ha (.cons Hb .nil)) (rs:=[cl 2 46 [ag 2 1],cl 3 144 [ag 2 0,ag 2 1],cl 4 146 [ag 2 0,ag 2 3],cl 5 47 [ag 2 4],cl 6 146 [ag 2 1,ag 2 3],cl 7 47 [ag 2 6],cl 8 145 [ag 2 5,ag 2 7]]) (out := .tup [(true,[.an 8 0,.an 8 1,.an 8 2,.an 8 3]),(false,[.lit (.int .i64 0)])]) (nc:=9) (by kernel_rfl)
    ⟨fun σ W g h hb=>toV (D3 W _ y K (h 1 rfl) (by omega) lb) (by rw [hs]),
    fun σ W g h hb=>R8 W _ _ x y K (h 0 rfl) (h 1 rfl) (by omega) la lb (hTab.kept g (by simp)),
    fun σ W g h hb=>hm.1 ▸ I7 W _ _ x _ K (h 0 rfl) (h 3 rfl) (by omega) la gb (by omega),
    fun σ W g h hb=>K7 W _ _ K (h 4 rfl) (by omega) nb,
    fun σ W g h hb=>hm.2 ▸ I7 W _ _ y _ K (h 1 rfl) (h 3 rfl) (by omega) lb gb (by omega),
    fun σ W g h hb=>K7 W _ _ K (h 6 rfl) (by omega) (ldi db),
    fun σ W g h hb=>gP W _ _ _ K (h 5 rfl) (h 7 rfl) (by omega) db,
    trivial⟩ fun τ W g h=>⟨_,rfl,h 8 rfl,g⟩
theorem gQ (w:World) (n d:Int) (h1 : -9223372036854775808<=n) (h2:n<=9223372036854775807) (h3 : -9223372036854775808<=d) (h4:d<=9223372036854775807) (hTab:Tab w) :
 Calls Tryz.prog 41 #[.int .i64 n,.int .i64 d] w (gO w (Rat.divInt n d) (if d=0 then 5 else 0)):=by
 have ln:n.natAbs<B^1:=by unfold B;omega
 have lb:d.natAbs<B^1:=by unfold B;omega
 refine A4 B6 Tryz.func41 [sZ n,sZ d] [sI n,sI d,sQC (Rat.divInt n d) (if d=0 then 5 else 0)] (.cons rfl (.cons rfl .nil)) (rs:=[cl 2 10 [on 0],cl 3 10 [on 1],cl 4 100 [ag 2 2,ag 2 3]]) (out := .tup [(true,[.an 4 0,.an 4 1,.an 4 2,.an 4 3]),(false,[.an 4 4])]) (nc:=5) (by kernel_rfl)
  ⟨fun σ W g h hb=>R4 (h 0 rfl) (C5 W n h1 h2),
  fun σ W g h hb=>R4 (h 1 rfl) (C5 W d h3 h4),
  fun σ W g h hb=>toQC (uM W _ _ n d 1 (h 2 rfl) (h 3 rfl) (by omega) ln lb (hTab.kept g (by simp))),
  trivial⟩ fun τ W g h=>qcE (h 4 rfl) g
theorem aN (w:World) (va:Value) (r:Rat) (K:Nat) (Ha:RatV w va r) (hK:K<=400000) (ln:r.num.natAbs<B^K) (ld:r.den<B^K) :
 Calls Tryz.prog 132 #[va] w (RetInt2 w (r.num / (r.den:Int)) (r.num%(r.den:Int))):=by
 refine A4 B6 Tryz.func132 [sQ r] [sI r.den,kY (r.num / r.den) (r.num%r.den) 0] (.cons Ha .nil) (rs:=[cl 1 99 [ag 4 0],cl 2 44 [ag 2 0,ag 2 1]]) (out := .tup [(true,[.an 2 0,.an 2 1]),(true,[.an 2 2,.an 2 3])]) (nc:=3) (by kernel_rfl)
  ⟨fun σ W g h hb=>E6 W _ r K (h 0 rfl) (by omega) ld,
  fun σ W g h hb=>gX (K6 W _ _ _ _ K (qn (h 0 rfl)) (h 1 rfl) (by omega) ln (ldi ld) (by have:=r.den_pos;omega)) rfl,
  trivial⟩ fun τ W g h=>⟨_,_,rfl,iiE1 (h 2 rfl),iiE2 (h 2 rfl),g⟩
theorem FFloor_any (w:World) (va:Value) (r:Rat) (K:Nat) (Ha:RatV w va r) (hK:K<=400000) (ln:r.num.natAbs<B^K) (ld:r.den<B^K) :
 Calls Tryz.prog 78 #[va] w (E8 w r.floor):=by
 rw [Rat.floor_def]
 refine A4 B6 Tryz.func78 [sQ r] [sII (r.num / r.den) (r.num%r.den)] (.cons Ha .nil) (rs:=[cl 1 132 [ag 4 0]]) (out:=ag 2 1) (nc:=2) (by kernel_rfl)
  ⟨fun σ W g h hb=>jC (aN W _ r K (h 0 rfl) hK ln ld),
  trivial⟩ fun τ W g h=>⟨_,rfl,ii1 (h 1 rfl),g⟩
theorem uN (w:World) (va:Value) (x:Int) (K:Nat) (Ha:IntV w va x) (hK : 1<=K/\K<=800000) (la:x.natAbs<B^K) :
 Calls Tryz.prog 138 #[va] w (RetB w (decide (x%2=0))):=by
 have hb2:(2:Int).natAbs<B^K:=Nat.lt_of_lt_of_le (show 2<B^1 by unfold B;omega) (Nat.pow_le_pow_right D6 hK.1)
 have hbr:(x%2).natAbs<B^K:=Nat.lt_trans (show (x%2).natAbs<2 by omega) hb2
 by_cases h1:x%2=0
 · skip
   rw [decide_eq_true h1]
   refine A4 B6 Tryz.func138 [sI x] [sI 2,kY (x / 2) (x%2) 0,sV (.int .i64 0)] (.cons Ha .nil) (rs:=[cl 1 10 [.v false [.lit (.int .i64 2)]],cl 2 44 [ag 2 0,ag 2 1],cl 3 46 [.v true [.an 2 2,.an 2 3]]]) (out := .v false [.lit (.bool true)]) (nc:=4) (by kernel_rfl)
    ⟨fun σ W g h hb=>C5 W 2 (by omega) (by omega),
    fun σ W g h hb=>gX (K6 W _ _ x 2 K (h 0 rfl) (h 1 rfl) (by omega) la hb2 (by omega)) rfl,
    fun σ W g h hb=>toV (D3 W _ _ K (iiE2 (h 2 rfl)) (by omega) hbr) (by rw [h1];rfl),
    trivial⟩ fun τ W g h=>⟨rfl,g⟩
 · skip
   rw [decide_eq_false h1]
   refine A4 B6 Tryz.func138 [sI x] [sI 2,kY (x / 2) (x%2) 0,sV (.int .i64 1)] (.cons Ha .nil) (rs:=[cl 1 10 [.v false [.lit (.int .i64 2)]],cl 2 44 [ag 2 0,ag 2 1],cl 3 46 [.v true [.an 2 2,.an 2 3]]]) (out := .v false [.lit (.bool false)]) (nc:=4) (by kernel_rfl)
    ⟨fun σ W g h hb=>C5 W 2 (by omega) (by omega),
    fun σ W g h hb=>gX (K6 W _ _ x 2 K (h 0 rfl) (h 1 rfl) (by omega) la hb2 (by omega)) rfl,
    fun σ W g h hb=>toV (D3 W _ _ K (iiE2 (h 2 rfl)) (by omega) hbr) (by rw [Int.sign_eq_one_of_pos (by omega)]),
    trivial⟩ fun τ W g h=>⟨rfl,g⟩
theorem uL (w:World) (va:Value) (r:Rat) (K:Nat) (Ha:RatV w va r) (hK : 1<=K/\K<=400000) (ln:r.num.natAbs<B^K) (ld:r.den<B^K) :
 Calls Tryz.prog 89 #[va] w (E8 w (M0 r)):=by
 obtain ⟨q,hq⟩:∃ q,r.num / (r.den:Int)=q:=⟨_,rfl⟩
 have hqb:q.natAbs<B^K:=by rw [<- hq];exact Nat.lt_of_le_of_lt (Int.natAbs_ediv_le_natAbs _ _) ln
 have hrb:(r.num%(r.den:Int)).natAbs<B^K:=by
  have h1:=r.den_pos
  have h2:=Int.emod_nonneg r.num (show (r.den:Int)≠0 by omega)
  have h3:=Int.emod_lt_of_pos r.num (show (0:Int)<(r.den:Int) by omega)
  omega
 have h1b:(1:Int).natAbs<B^K:=Nat.lt_of_lt_of_le (show 1<B^1 by unfold B;omega) (Nat.pow_le_pow_right D6 hK.1)
 have hcc:J0 (r.num%(r.den:Int)+r.num%(r.den:Int)) (r.den:Int) = -1\/J0 (r.num%(r.den:Int)+r.num%(r.den:Int)) (r.den:Int)=1\/J0 (r.num%(r.den:Int)+r.num%(r.den:Int)) (r.den:Int)=0:=by
  unfold J0;split
  · left;rfl
  · split
    · right;right;rfl
    · right;left;rfl
 unfold M0
 rw [hq]
 have h4:J0 (r.num%(r.den:Int)+r.num%(r.den:Int)) (r.den:Int) = -1\/J0 (r.num%(r.den:Int)+r.num%(r.den:Int)) (r.den:Int)=1\/(J0 (r.num%(r.den:Int)+r.num%(r.den:Int)) (r.den:Int)=0/\q%2=0)\/(J0 (r.num%(r.den:Int)+r.num%(r.den:Int)) (r.den:Int)=0 /\ ¬ q%2=0):=by omega
 rcases h4 with hc | hc | ⟨hc,h2⟩ | ⟨hc,h2⟩
 · skip
   rw [if_pos hc]
   refine A4 B6 Tryz.func89 [sQ r] [sII q (r.num%r.den),sI 1,sI (q+1),sI (r.num%r.den+r.num%r.den),sI r.den,sV (.int .i64 (-1))] (.cons Ha .nil) (rs:=[cl 1 132 [ag 4 0],cl 2 10 [.v false [.lit (.int .i64 1)]],cl 3 45 [ag 2 1,ag 2 2],cl 4 45 [.v true [.an 1 2,.an 1 3],.v true [.an 1 2,.an 1 3]],cl 5 99 [ag 4 0],cl 6 18 [ag 2 4,ag 2 5]]) (out:=ag 2 1) (nc:=7) (by kernel_rfl)
    ⟨fun σ W g h hb=>hq ▸ jC (aN W _ r K (h 0 rfl) hK.2 ln ld),
    fun σ W g h hb=>C5 W 1 (by omega) (by omega),
    fun σ W g h hb=>D7 W _ _ q 1 K (ii1 (h 1 rfl)) (h 2 rfl) (by omega) hqb h1b,
    fun σ W g h hb=>D7 W _ _ _ _ K (ii2 (h 1 rfl)) (ii2 (h 1 rfl)) (by omega) hrb hrb,
    fun σ W g h hb=>E6 W _ r K (h 0 rfl) (by omega) ld,
    fun σ W g h hb=>toV (G6 W _ _ _ _ (K+1) (h 4 rfl) (h 5 rfl) (by omega) (kC hrb hrb) (fbw (ldi ld) (by omega))) (by rw [hc]),
    trivial⟩ fun τ W g h=>⟨_,rfl,ii1 (h 1 rfl),g⟩
 · skip
   rw [if_neg (by omega),if_pos hc]
   refine A4 B6 Tryz.func89 [sQ r] [sII q (r.num%r.den),sI 1,sI (q+1),sI (r.num%r.den+r.num%r.den),sI r.den,sV (.int .i64 1)] (.cons Ha .nil) (rs:=[cl 1 132 [ag 4 0],cl 2 10 [.v false [.lit (.int .i64 1)]],cl 3 45 [ag 2 1,ag 2 2],cl 4 45 [.v true [.an 1 2,.an 1 3],.v true [.an 1 2,.an 1 3]],cl 5 99 [ag 4 0],cl 6 18 [ag 2 4,ag 2 5]]) (out:=ag 2 3) (nc:=7) (by kernel_rfl)
    ⟨fun σ W g h hb=>hq ▸ jC (aN W _ r K (h 0 rfl) hK.2 ln ld),
    fun σ W g h hb=>C5 W 1 (by omega) (by omega),
    fun σ W g h hb=>D7 W _ _ q 1 K (ii1 (h 1 rfl)) (h 2 rfl) (by omega) hqb h1b,
    fun σ W g h hb=>D7 W _ _ _ _ K (ii2 (h 1 rfl)) (ii2 (h 1 rfl)) (by omega) hrb hrb,
    fun σ W g h hb=>E6 W _ r K (h 0 rfl) (by omega) ld,
    fun σ W g h hb=>toV (G6 W _ _ _ _ (K+1) (h 4 rfl) (h 5 rfl) (by omega) (kC hrb hrb) (fbw (ldi ld) (by omega))) (by rw [hc]),
    trivial⟩ fun τ W g h=>⟨_,rfl,h 3 rfl,g⟩
 · skip
   rw [if_neg (by omega),if_neg (by omega),if_pos h2]
   refine A4 B6 Tryz.func89 [sQ r] [sII q (r.num%r.den),sI 1,sI (q+1),sI (r.num%r.den+r.num%r.den),sI r.den,sV (.int .i64 0),sV (.bool true)] (.cons Ha .nil) (rs:=[cl 1 132 [ag 4 0],cl 2 10 [.v false [.lit (.int .i64 1)]],cl 3 45 [ag 2 1,ag 2 2],cl 4 45 [.v true [.an 1 2,.an 1 3],.v true [.an 1 2,.an 1 3]],cl 5 99 [ag 4 0],cl 6 18 [ag 2 4,ag 2 5],cl 7 138 [ag 2 1]]) (out:=ag 2 1) (nc:=8) (by kernel_rfl)
    ⟨fun σ W g h hb=>hq ▸ jC (aN W _ r K (h 0 rfl) hK.2 ln ld),
    fun σ W g h hb=>C5 W 1 (by omega) (by omega),
    fun σ W g h hb=>D7 W _ _ q 1 K (ii1 (h 1 rfl)) (h 2 rfl) (by omega) hqb h1b,
    fun σ W g h hb=>D7 W _ _ _ _ K (ii2 (h 1 rfl)) (ii2 (h 1 rfl)) (by omega) hrb hrb,
    fun σ W g h hb=>E6 W _ r K (h 0 rfl) (by omega) ld,
    fun σ W g h hb=>toV (G6 W _ _ _ _ (K+1) (h 4 rfl) (h 5 rfl) (by omega) (kC hrb hrb) (fbw (ldi ld) (by omega))) (by rw [hc]),
    fun σ W g h hb=>toV (uN W _ q K (ii1 (h 1 rfl)) ⟨hK.1,by omega⟩ hqb) (by rw [decide_eq_true h2]),
    trivial⟩ fun τ W g h=>⟨_,rfl,ii1 (h 1 rfl),g⟩
 · skip
   rw [if_neg (by omega),if_neg (by omega),if_neg h2]
   refine A4 B6 Tryz.func89 [sQ r] [sII q (r.num%r.den),sI 1,sI (q+1),sI (r.num%r.den+r.num%r.den),sI r.den,sV (.int .i64 0),sV (.bool false)] (.cons Ha .nil) (rs:=[cl 1 132 [ag 4 0],cl 2 10 [.v false [.lit (.int .i64 1)]],cl 3 45 [ag 2 1,ag 2 2],cl 4 45 [.v true [.an 1 2,.an 1 3],.v true [.an 1 2,.an 1 3]],cl 5 99 [ag 4 0],cl 6 18 [ag 2 4,ag 2 5],cl 7 138 [ag 2 1]]) (out:=ag 2 3) (nc:=8) (by kernel_rfl)
    ⟨fun σ W g h hb=>hq ▸ jC (aN W _ r K (h 0 rfl) hK.2 ln ld),
    fun σ W g h hb=>C5 W 1 (by omega) (by omega),
    fun σ W g h hb=>D7 W _ _ q 1 K (ii1 (h 1 rfl)) (h 2 rfl) (by omega) hqb h1b,
    fun σ W g h hb=>D7 W _ _ _ _ K (ii2 (h 1 rfl)) (ii2 (h 1 rfl)) (by omega) hrb hrb,
    fun σ W g h hb=>E6 W _ r K (h 0 rfl) (by omega) ld,
    fun σ W g h hb=>toV (G6 W _ _ _ _ (K+1) (h 4 rfl) (h 5 rfl) (by omega) (kC hrb hrb) (fbw (ldi ld) (by omega))) (by rw [hc]),
    fun σ W g h hb=>toV (uN W _ q K (ii1 (h 1 rfl)) ⟨hK.1,by omega⟩ hqb) (by rw [decide_eq_false h2]),
    trivial⟩ fun τ W g h=>⟨_,rfl,h 3 rfl,g⟩
end Go.Proofs.YtdgdmicbbfoghaaGreatDoor
namespace Go.Proofs.YtdgdmicbbfoghaaGreatDoor
abbrev Sq:=Nat->Rat
def SPos (f:Sq):Prop:=∃ e:Rat,0<e /\ ∃ K:Nat,∀ k,K<=k->e<=f k
def SNull (f:Sq):Prop:=∀ e:Rat,0<e -> ∃ K:Nat,∀ k,K<=k->f k<=e /\ -e<=f k
def SCau (f:Sq):Prop:=∀ e:Rat,0<e -> ∃ K:Nat,∀ j k,K<=j->K<=k->f j-f k<=e
def SBd (f:Sq):Prop:=∃ M:Rat,0<M /\ ∃ K:Nat,∀ k,K<=k->f k<=M /\ -M<=f k
theorem L5 {e:Rat} (h : 0<e) : 0<e / 2:=by grind
theorem SPos.congr {f g:Sq} (h:SPos f) (hn:SNull (fun k=>f k-g k)):SPos g:=by
 obtain ⟨e,he,K,hK⟩:=h
 obtain ⟨L,hL⟩:=hn (e / 2) (L5 he)
 refine ⟨e / 2,L5 he,K+L,fun k hk=>?_⟩
 have h1:=hK k (by omega)
 have h2:=(hL k (by omega)).1
 grind
theorem SPos.add {f g:Sq} (h:SPos f) (hg:SPos g):SPos (fun k=>f k+g k):=by
 obtain ⟨e,he,K,hK⟩:=h
 obtain ⟨d,hd,L,hL⟩:=hg
 refine ⟨e,he,K+L,fun k hk=>?_⟩
 have h1:=hK k (by omega)
 have h2:=hL k (by omega)
 grind
theorem SPos.mul {f g:Sq} (h:SPos f) (hg:SPos g):SPos (fun k=>f k*g k):=by
 obtain ⟨e,he,K,hK⟩:=h
 obtain ⟨d,hd,L,hL⟩:=hg
 refine ⟨e*d,Rat.mul_pos he hd,K+L,fun k hk=>?_⟩
 have h1:=hK k (by omega)
 have h2:=hL k (by omega)
 have h3:=Rat.mul_le_mul_of_nonneg_right h1 (Rat.le_of_lt hd)
 have h4:=Rat.mul_le_mul_of_nonneg_left h2 (c:=f k) (by grind)
 grind
theorem SPos.not_null {f:Sq} (h:SPos f):¬ SNull f:=by
 intro hn
 obtain ⟨e,he,K,hK⟩:=h
 obtain ⟨L,hL⟩:=hn (e / 2) (L5 he)
 have h1:=hK (K+L) (by omega)
 have h2:=(hL (K+L) (by omega)).1
 grind
theorem SPos.not_neg {f:Sq} (h:SPos f):¬ SPos (fun k => -f k):=by
 intro hn
 obtain ⟨e,he,K,hK⟩:=h
 obtain ⟨d,hd,L,hL⟩:=hn
 have h1:=hK (K+L) (by omega)
 have h2:=hL (K+L) (by omega)
 grind
theorem SNull.neg {f:Sq} (h:SNull f):SNull (fun k => -f k):=by
 intro e he
 obtain ⟨L,hL⟩:=h e he
 refine ⟨L,fun k hk=>?_⟩
 have:=hL k hk
 grind
theorem SNull.add {f g:Sq} (h:SNull f) (hg:SNull g):SNull (fun k=>f k+g k):=by
 intro e he
 obtain ⟨L,hL⟩:=h (e / 2) (L5 he)
 obtain ⟨K,hK⟩:=hg (e / 2) (L5 he)
 refine ⟨K+L,fun k hk=>?_⟩
 have:=hL k (by omega)
 have:=hK k (by omega)
 grind
theorem pG {x y M e:Rat} (hM : 0<M) (h1:x<=e) (h2 : -e<=x) (h3:y<=M) (h4 : -M<=y):x*y<=e*M /\ -(e*M)<=x*y:=by
 have a1:=Rat.mul_nonneg (a:=e-x) (b:=M+y) (by grind) (by grind)
 have a2:=Rat.mul_nonneg (a:=e+x) (b:=M-y) (by grind) (by grind)
 have a3:=Rat.mul_nonneg (a:=e-x) (b:=M-y) (by grind) (by grind)
 have a4:=Rat.mul_nonneg (a:=e+x) (b:=M+y) (by grind) (by grind)
 constructor<;>grind
theorem SNull.mul {f g:Sq} (h:SNull f) (hg:SBd g):SNull (fun k=>f k*g k):=by
 obtain ⟨M,hM,K,hK⟩:=hg
 intro e he
 obtain ⟨L,hL⟩:=h (e / M) (by rw [Rat.div_def];exact Rat.mul_pos he (Rat.inv_pos.2 hM))
 refine ⟨K+L,fun k hk=>?_⟩
 have h1:=hL k (by omega)
 have h2:=hK k (by omega)
 have h3:=pG hM h1.1 h1.2 h2.1 h2.2
 rw [Rat.div_mul_cancel (show M≠0 by grind)] at h3
 exact h3
theorem SCau.bd {f:Sq} (h:SCau f):SBd f:=by
 obtain ⟨K,hK⟩:=h 1 (by decide)
 refine ⟨(if f K<0 then -f K else f K)+1,by split<;>grind,K,fun k hk=>?_⟩
 have h1:=hK k K hk (Nat.le_refl _)
 have h2:=hK K k (Nat.le_refl _) hk
 split<;>grind
theorem SCau.const (q:Rat):SCau (fun _=>q):=fun e he=>⟨0,fun _ _ _ _=>by grind⟩
theorem SCau.neg {f:Sq} (h:SCau f):SCau (fun k => -f k):=by
 intro e he
 obtain ⟨K,hK⟩:=h e he
 exact ⟨K,fun j k hj hk=>by have:=hK k j hk hj;grind⟩
theorem SCau.add {f g:Sq} (h:SCau f) (hg:SCau g):SCau (fun k=>f k+g k):=by
 intro e he
 obtain ⟨L,hL⟩:=h (e / 2) (L5 he)
 obtain ⟨K,hK⟩:=hg (e / 2) (L5 he)
 refine ⟨K+L,fun j k hj hk=>?_⟩
 have:=hL j k (by omega) (by omega)
 have:=hK j k (by omega) (by omega)
 grind
theorem SCau.mul {f g:Sq} (h:SCau f) (hg:SCau g):SCau (fun k=>f k*g k):=by
 obtain ⟨M,hM,K1,hK1⟩:=h.bd
 obtain ⟨N,hN,K2,hK2⟩:=hg.bd
 intro e he
 have hd:∀ {x:Rat},0<x->0<e / 2 / x:=fun hx=>by rw [Rat.div_def];exact Rat.mul_pos (L5 he) (Rat.inv_pos.2 hx)
 obtain ⟨L,hL⟩:=h (e / 2 / N) (hd hN)
 obtain ⟨K,hK⟩:=hg (e / 2 / M) (hd hM)
 refine ⟨K1+K2+K+L,fun j k hj hk=>?_⟩
 have a1:=hL j k (by omega) (by omega)
 have a2:=hL k j (by omega) (by omega)
 have b1:=hK j k (by omega) (by omega)
 have b2:=hK k j (by omega) (by omega)
 have c1:=hK1 k (by omega)
 have c2:=hK2 j (by omega)
 have d1:=(pG hN a1 (show -(e / 2 / N)<=f j-f k by grind) c2.1 c2.2).1
 have d2:=(pG hM b1 (show -(e / 2 / M)<=g j-g k by grind) c1.1 c1.2).1
 rw [Rat.div_mul_cancel (show N≠0 by grind)] at d1
 rw [Rat.div_mul_cancel (show M≠0 by grind)] at d2
 grind
theorem SCau.tri {f:Sq} (h:SCau f):SPos f\/SPos (fun k => -f k)\/SNull f:=by
 by_cases hn:SNull f
 · exact Or.inr (Or.inr hn)
 · have ⟨e,he,hx⟩:∃ e:Rat,0<e /\ ∀ K:Nat,∃ k,K<=k /\ ¬ (f k<=e /\ -e<=f k):=by
    apply Classical.byContradiction
    intro hc
    apply hn
    intro e he
    apply Classical.byContradiction
    intro hK
    exact hc ⟨e,he,fun K=>Classical.byContradiction fun hk=>hK ⟨K,fun k hk2=>Classical.byContradiction fun h3=>hk ⟨k,hk2,h3⟩⟩⟩
   obtain ⟨K,hK⟩:=h (e / 2) (L5 he)
   obtain ⟨k,hk,hx⟩:=hx K
   by_cases h1:f k<=e
   · right;left
     refine ⟨e / 2,L5 he,K,fun j hj=>?_⟩
     have:=hK j k hj hk
     have:¬ -e<=f k:=fun h2=>hx ⟨h1,h2⟩
     grind
   · left
     refine ⟨e / 2,L5 he,K,fun j hj=>?_⟩
     have:=hK k j hk hj
     grind
open Classical in
noncomputable def rs (f:Sq):Int:=if SPos f then 1 else if SPos (fun k => -f k) then -1 else 0
theorem M5 {f:Sq} (h:SPos f):rs f=1:=by unfold rs;rw [if_pos h]
theorem M7 {f:Sq} (h:SPos (fun k => -f k)):rs f = -1:=by
 unfold rs
 rw [if_neg (fun h1=>h1.not_neg h),if_pos h]
theorem M6 {f:Sq} (h:SNull f):rs f=0:=by
 unfold rs
 rw [if_neg (fun h1=>h1.not_null h),if_neg (fun h1=>h1.not_null h.neg)]
theorem Y6 {f:Sq} (h:rs f=1):SPos f:=by
 unfold rs at h
 split at h
 · assumption
 · split at h<;>simp at h
theorem bO {f:Sq} (h:rs f = -1):SPos (fun k => -f k):=by
 unfold rs at h
 split at h
 · simp at h
 · split at h
   · assumption
   · simp at h
theorem M8 {f:Sq} (hc:SCau f) (h:rs f=0):SNull f:=by
 rcases hc.tri with h1 | h1 | h1
 · rw [M5 h1] at h;simp at h
 · rw [M7 h1] at h;simp at h
 · exact h1
theorem X3 (f:Sq):rs f=1\/rs f = -1\/rs f=0:=by
 unfold rs
 split
 · exact Or.inl rfl
 · split
   · exact Or.inr (Or.inl rfl)
   · exact Or.inr (Or.inr rfl)
theorem neg_neg_sq (f:Sq):(fun k => - -f k)=f:=by funext k;grind
theorem vC {f:Sq} (hc:SCau f):rs (fun k => -f k) = -rs f:=by
 rcases hc.tri with h1 | h1 | h1
 · rw [M5 h1,M7 (by rw [neg_neg_sq];exact h1)]
 · rw [M5 h1,M7 h1];rfl
 · rw [M6 h1,M6 h1.neg];rfl
theorem U7 {f g:Sq} (hc:SCau f) (hn:SNull (fun k=>f k-g k)):rs g=rs f:=by
 rcases hc.tri with h1 | h1 | h1
 · rw [M5 h1,M5 (h1.congr hn)]
 · rw [M7 h1,M7 (h1.congr (by have:=hn.neg;have e:(fun k => -f k - -g k)=(fun k => -(f k-g k)):=by funext k;grind
                              rw [e];exact this))]
 · rw [M6 h1,M6 (by have:=(hn.neg).add h1;have e:(fun k => -(f k-g k)+f k)=g:=by funext k;grind
                    rw [e] at this;exact this)]
theorem iH {f g:Sq} (hf:SCau f) (hg:SCau g):rs (fun k=>f k*g k)=rs f*rs g:=by
 rcases hf.tri with h1 | h1 | h1
 · rcases hg.tri with h2 | h2 | h2
   · rw [M5 h1,M5 h2,M5 (h1.mul h2)];rfl
   · rw [M5 h1,M7 h2,M7 (by have:=h1.mul h2;have e:(fun k=>f k * -g k)=(fun k => -(f k*g k)):=by funext k;grind
                            rw [e] at this;exact this)];rfl
   · rw [M6 h2,Int.mul_zero,M6 (by have:=h2.mul hf.bd;have e:(fun k=>g k*f k)=(fun k=>f k*g k):=by funext k;grind
                                   rw [e] at this;exact this)]
 · rcases hg.tri with h2 | h2 | h2
   · rw [M7 h1,M5 h2,M7 (by have:=h1.mul h2;have e:(fun k => -f k*g k)=(fun k => -(f k*g k)):=by funext k;grind
                            rw [e] at this;exact this)];rfl
   · rw [M7 h1,M7 h2,M5 (by have:=h1.mul h2;have e:(fun k => -f k * -g k)=(fun k=>(f k*g k)):=by funext k;grind
                            rw [e] at this;exact this)];rfl
   · rw [M6 h2,Int.mul_zero,M6 (by have:=h2.mul hf.bd;have e:(fun k=>g k*f k)=(fun k=>f k*g k):=by funext k;grind
                                   rw [e] at this;exact this)]
 · rw [M6 h1,Int.zero_mul,M6 (h1.mul hg.bd)]
theorem O9 (q:Rat):rs (fun _=>q)=q.num.sign:=by
 rcases Int.lt_trichotomy q.num 0 with h | h | h
 · have h1:q<0:=by
    apply Classical.byContradiction;intro h1
    have:=Rat.num_nonneg.2 (show 0<=q by grind);omega
   rw [M7 ⟨-q,by grind,0,fun _ _=>by grind⟩,Int.sign_eq_neg_one_of_neg h]
 · rw [M6 (by rw [Rat.num_eq_zero.1 h];exact fun e he=>⟨0,fun _ _=>by grind⟩),h];rfl
 · have h1 : 0<q:=by
    apply Classical.byContradiction;intro h1
    have h2:=Rat.num_nonneg.1 (Int.le_of_lt h)
    have h3:q=0:=by grind
    rw [h3] at h;exact absurd h (by decide)
   rw [M5 ⟨q,h1,0,fun _ _=>by grind⟩,Int.sign_eq_one_of_pos h]
theorem rs_mono {f g:Sq} (hf:SCau f) (hg:SCau g) (h:∀ k,f k<=g k):rs f<=rs g:=by
 have a2:=X3 g
 rcases X3 f with h1 | h1 | h1
 · obtain ⟨e,he,K,hK⟩:=Y6 h1
   rw [h1,M5 ⟨e,he,K,fun k hk=>Rat.le_trans (hK k hk) (h k)⟩]
   exact Int.le_refl _
 · rw [h1];omega
 · have:rs g ≠ -1:=by
    intro h2
    obtain ⟨e,he,K,hK⟩:=bO h2
    have:=M7 (f:=f) ⟨e,he,K,fun k hk=>by have:=hK k hk;have:=h k;grind⟩
    omega
   omega
theorem pA (n:Nat):∃ r:Nat,r*r<=n/\n<(r+1)*(r+1):=by
 induction n with
 | zero=>exact ⟨0,by simp,by simp⟩
 | succ n ih=>
   obtain ⟨r,h1,h2⟩:=ih
   by_cases h:n+1<(r+1)*(r+1)
   · exact ⟨r,by omega,h⟩
   · refine ⟨r+1,by omega, ?_⟩
     have:n+1=(r+1)*(r+1):=by omega
     rw [this]
     exact Nat.mul_lt_mul_of_lt_of_le (Nat.lt_succ_self _) (Nat.le_succ _) (by omega)
noncomputable def D8 (n:Nat):Nat:=Classical.choose (pA n)
theorem aE (n:Nat):D8 n*D8 n<=n:=(Classical.choose_spec (pA n)).1
theorem jR (n:Nat):n<(D8 n+1)*(D8 n+1):=(Classical.choose_spec (pA n)).2
def dJ (k:Nat):Rat:=((2^k:Nat):Rat)⁻¹
theorem stwo_pos (k:Nat):(0:Rat)<((2^k:Nat):Rat):=Rat.natCast_pos.2 (Nat.pow_pos (by omega))
theorem P7 (k:Nat) : 0<dJ k:=Rat.inv_pos.2 (stwo_pos k)
theorem fN (k:Nat):dJ k*((2^k:Nat):Rat)=1:=Rat.inv_mul_cancel _ (by have:=stwo_pos k;grind)
theorem mJ {e:Rat} (h : 0<e):∃ K,∀ k,K<=k->dJ k<=e:=by
 refine ⟨e.den,fun k hk=>?_⟩
 have h1:e.den<2^k:=Nat.lt_of_le_of_lt hk Nat.lt_two_pow_self
 have h2:((e.den:Nat):Rat)<=((2^k:Nat):Rat):=Rat.natCast_le_natCast.2 (Nat.le_of_lt h1)
 have h3:(0:Rat)<(e.den:Rat):=Rat.natCast_pos.2 e.den_pos
 have h4:e*(e.den:Rat)=(e.num:Rat):=by
  have h9:Rat.divInt e.num (e.den:Int)=e:=Rat.num_divInt_den e
  rw [Rat.divInt_eq_div] at h9
  have h10:((e.den:Int):Rat)=(e.den:Rat):=rfl
  rw [h10] at h9
  conv=>lhs;lhs;rw [<- h9]
  exact Rat.div_mul_cancel (by grind)
 have h5:(1:Rat)<=(e.num:Rat):=by
  have:(1:Int)<=e.num:=by
   have h6 : 0<=e.num:=Rat.num_nonneg.2 (Rat.le_of_lt h)
   have h7:e.num≠0:=fun h8=>by rw [Rat.num_eq_zero.1 h8] at h;exact absurd h (by decide)
   omega
  exact Rat.intCast_le_intCast.2 this
 have h6:=Rat.mul_le_mul_of_nonneg_left h2 (Rat.le_of_lt h)
 have h7:=fN k
 have h8:=Rat.mul_le_mul_of_nonneg_right (show (1:Rat)<=e*((2^k:Nat):Rat) by rw [h4] at h6;exact Rat.le_trans h5 h6) (Rat.le_of_lt (P7 k))
 rw [Rat.mul_assoc,Rat.mul_comm ((2^k:Nat):Rat) (dJ k),h7] at h8
 grind
noncomputable def rt (n:Nat):Sq:=fun k=>(D8 (n*4^k):Rat)*dJ k
theorem fP (n k:Nat) : 0<=rt n k:=Rat.mul_nonneg Rat.natCast_nonneg (Rat.le_of_lt (P7 k))
theorem fM (k:Nat) : 4^k=2^k*2^k:=by rw [<- Nat.mul_pow]
theorem rt_le (n k:Nat):rt n k*rt n k<=(n:Rat):=by
 have h:=Rat.natCast_le_natCast.2 (aE (n*4^k))
 rw [fM] at h
 have h1:=fN k
 have h2:=Rat.mul_nonneg (Rat.le_of_lt (P7 k)) (Rat.le_of_lt (P7 k))
 have h3:=Rat.mul_le_mul_of_nonneg_right h h2
 unfold rt
 rw [fM]
 simp only [Rat.natCast_mul] at h3 ⊢
 generalize ((2^k:Nat):Rat)=t at *
 generalize dJ k=f at *
 rw [show (n:Rat)*(t*t)*(f*f)=(n:Rat)*((f*t)*(f*t)) by grind,h1] at h3
 generalize ((D8 (n*(2^k*2^k)):Nat):Rat)=z at *
 have e1:(((1:Nat):Rat))=1:=rfl
 try rw [e1] at h3
 grind
theorem rt_lt (n k:Nat):(n:Rat)<(rt n k+dJ k)*(rt n k+dJ k):=by
 have h:=Rat.natCast_lt_natCast.2 (jR (n*4^k))
 rw [fM] at h
 have h1:=fN k
 have h2:=Rat.mul_pos (P7 k) (P7 k)
 have h3:=Rat.mul_lt_mul_of_pos_right h h2
 unfold rt
 rw [fM]
 simp only [Rat.natCast_mul,Rat.natCast_add] at h3 ⊢
 generalize ((2^k:Nat):Rat)=t at *
 generalize dJ k=f at *
 rw [show (n:Rat)*(t*t)*(f*f)=(n:Rat)*((f*t)*(f*t)) by grind,h1] at h3
 generalize ((D8 (n*(2^k*2^k)):Nat):Rat)=z at *
 have e1:(((1:Nat):Rat))=1:=rfl
 try rw [e1] at h3
 grind
theorem ssq_lt {x y:Rat} (hy : 0<=y) (hx : 0<=x) (h:x*x<y*y):x<y:=by
 apply Classical.byContradiction
 intro h1
 have h2:y<=x:=by grind
 have h3:=Rat.mul_le_mul_of_nonneg_left h2 hx
 have h4:=Rat.mul_le_mul_of_nonneg_right h2 hy
 grind
theorem rt_near (n j k:Nat):rt n j<rt n k+dJ k:=
 ssq_lt (by have:=fP n k;have:=P7 k;grind) (fP n j) (by have:=rt_le n j;have:=rt_lt n k;grind)
theorem Q2 (n:Nat):SCau (rt n):=by
 intro e he
 obtain ⟨K,hK⟩:=mJ he
 exact ⟨K,fun j k _ hk=>by have:=rt_near n j k;have:=hK k hk;grind⟩
theorem rt_bd (n k:Nat):rt n k<(n:Rat)+1:=
 ssq_lt (by have:(0:Rat)<=(n:Rat):=Rat.natCast_nonneg;grind) (fP n k) (by
  have h:=rt_le n k
  have h1:(0:Rat)<=(n:Rat):=Rat.natCast_nonneg
  have h2:=Rat.mul_nonneg h1 h1
  grind)
theorem sfine_le (k:Nat):dJ k<=1:=by
 have h:=fN k
 have h1:(1:Rat)<=((2^k:Nat):Rat):=Rat.natCast_le_natCast.2 (show 1<=2^k from Nat.pow_pos (by omega))
 have h2:=Rat.mul_le_mul_of_nonneg_left h1 (Rat.le_of_lt (P7 k))
 grind
theorem jJ (n:Nat):SNull (fun k=>rt n k*rt n k-(n:Rat)):=by
 intro e he
 have hn:(0:Rat)<=(n:Rat):=Rat.natCast_nonneg
 have hM:(0:Rat)<2*(n:Rat)+3:=by grind
 obtain ⟨K,hK⟩:=mJ (e:=e / (2*(n:Rat)+3)) (by rw [Rat.div_def];exact Rat.mul_pos he (Rat.inv_pos.2 hM))
 refine ⟨K,fun k hk=>⟨by have:=rt_le n k;grind, ?_⟩⟩
 have h1:=rt_lt n k
 have h2:=Rat.mul_le_mul_of_nonneg_right (hK k hk) (Rat.le_of_lt hM)
 rw [Rat.div_mul_cancel (show 2*(n:Rat)+3≠0 by grind)] at h2
 have h3:=Rat.mul_le_mul_of_nonneg_left (show 2*rt n k+dJ k<=2*(n:Rat)+3 by have:=rt_bd n k;have:=sfine_le k;grind) (Rat.le_of_lt (P7 k))
 grind
theorem rs_rt (n:Nat):rs (rt n)=(n:Int).sign:=by
 have h:=iH (Q2 n) (Q2 n)
 have h1:=U7 ((Q2 n).mul (Q2 n)) (jJ n)
 rw [h,O9] at h1
 have h2:=rs_mono (SCau.const 0) (Q2 n) (fP n)
 rw [O9] at h2
 have h4:((n:Nat):Rat).num=(n:Int):=rfl
 rw [h4] at h1
 have h5:(0:Rat).num.sign=0:=rfl
 rw [h5] at h2
 rcases X3 (rt n) with h3 | h3 | h3
 · rw [h3] at h1 ⊢;rw [h1];rfl
 · omega
 · rw [h3] at h1 ⊢;rw [h1];rfl
def sos (x y z:Int):Int:=if x=0 then y else if y=0\/x=y then x else x*z
theorem rs_sum {f g:Sq} (hf:SCau f) (hg:SCau g):rs (fun k=>f k+g k)=sos (rs f) (rs g) (rs (fun k=>f k*f k-g k*g k)):=by
 unfold sos
 have hs:=hf.add hg
 by_cases h0:rs f=0
 · rw [if_pos h0]
   have h1:=(M8 hf h0).neg
   exact (U7 hs (g:=g) (by have e:(fun k=>f k+g k-g k)=(fun k => - -f k):=by funext k;grind
                           rw [e];exact h1.neg)).symm
 · rw [if_neg h0]
   by_cases h1:rs g=0
   · rw [if_pos (Or.inl h1)]
     have h2:=M8 hg h1
     exact (U7 hs (g:=f) (by have e:(fun k=>f k+g k-f k)=g:=by funext k;grind
                             rw [e];exact h2)).symm
   · by_cases h2:rs f=rs g
     · rw [if_pos (Or.inr h2)]
       rcases X3 f with h3 | h3 | h3
       · rw [h3,M5 ((Y6 h3).add (Y6 (h2.symm.trans h3)))]
       · rw [h3,M7 (by have:=(bO h3).add (bO (h2.symm.trans h3));have e:(fun k => -f k + -g k)=(fun k => -(f k+g k)):=by funext k;grind
                       rw [e] at this;exact this)]
       · exact absurd h3 h0
     · rw [if_neg (by intro h3;rcases h3 with h3 | h3;exact h1 h3;exact h2 h3)]
       have hd:rs (fun k=>f k + -g k)=rs f:=by
        rcases X3 f with h3 | h3 | h3
        · have h4:rs g = -1:=by rcases X3 g with h4 | h4 | h4<;>omega
          rw [h3];exact M5 ((Y6 h3).add (bO h4))
        · have h4:rs g=1:=by rcases X3 g with h4 | h4 | h4<;>omega
          rw [h3]
          exact M7 (by have:=(bO h3).add (Y6 h4);have e:(fun k => -f k+g k)=(fun k => -(f k + -g k)):=by funext k;grind
                       rw [e] at this;exact this)
        · exact absurd h3 h0
       have h5:=iH hs (hf.add hg.neg)
       rw [hd] at h5
       have e:(fun k=>(f k+g k)*(f k + -g k))=(fun k=>f k*f k-g k*g k):=by funext k;grind
       rw [e] at h5
       rw [h5]
       rcases X3 f with h3 | h3 | h3
       · rw [h3];omega
       · rw [h3];omega
       · exact absurd h3 h0
theorem rs_pair {p q b:Sq} {n:Nat} (hp:SCau p) (hq:SCau q) (hb:SCau b) (h2:SNull (fun k=>b k*b k-(n:Rat))) (hs:rs b=(n:Int).sign) :
 rs (fun k=>p k+q k*b k)=sos (rs p) (rs q*(n:Int).sign) (rs (fun k=>p k*p k-q k*q k*(n:Rat))):=by
 rw [rs_sum hp (hq.mul hb),iH hq hb,hs]
 congr 1
 refine U7 (f:=fun k=>p k*p k-q k*q k*(n:Rat)) ?_ ?_
 · have:=(hp.mul hp).add ((hq.mul hq).mul (SCau.const (-(n:Rat))))
   have e:(fun k=>p k*p k+q k*q k * -(n:Rat))=(fun k=>p k*p k-q k*q k*(n:Rat)):=by funext k;grind
   rw [e] at this;exact this
 · have:=h2.mul (hq.mul hq).bd
   have e:(fun k=>(b k*b k-(n:Rat))*(q k*q k))=(fun k=>p k*p k-q k*q k*(n:Rat)-(p k*p k-q k*b k*(q k*b k))):=by funext k;grind
   rw [e] at this;exact this
noncomputable def X7 (m n:Nat) (a b c d:Rat):Sq:=fun k=>(a+b*rt m k)+(c+d*rt m k)*rt n k
noncomputable def sg4 (m n:Nat) (a b c d:Rat):Int:=rs (X7 m n a b c d)
theorem jW (m:Nat) (a b:Rat):SCau (fun k=>a+b*rt m k):=(SCau.const a).add ((SCau.const b).mul (Q2 m))
theorem dR (m n:Nat) (a b c d:Rat):SCau (X7 m n a b c d):=(jW m a b).add ((jW m c d).mul (Q2 n))
def psg (u v:Int) (m:Nat):Int:=sos u.sign (v.sign*(m:Int).sign) (u*u-v*v*m).sign
def ssg (m n:Nat) (a b c d:Int):Int:=
 sos (psg a b m) (psg c d m*(n:Int).sign) (psg ((a*a+b*b*m)-(c*c+d*d*m)*n) ((a*b+a*b)-(c*d+c*d)*n) m)
theorem fU (z:Int):((z:Rat)).num=z:=rfl
theorem psg_rs (u v:Int) (m:Nat):rs (fun k=>(u:Rat)+(v:Rat)*rt m k)=psg u v m:=by
 have h:=rs_pair (p:=fun _=>(u:Rat)) (q:=fun _=>(v:Rat)) (b:=rt m) (n:=m) (SCau.const _) (SCau.const _) (Q2 m) (jJ m) (rs_rt m)
 rw [O9,O9,O9,fU,fU] at h
 rw [h]
 unfold psg
 have e:((u:Rat)*u-(v:Rat)*v*(m:Rat))=((u*u-v*v*m:Int):Rat):=by
  simp only [Rat.intCast_sub,Rat.intCast_mul,Rat.intCast_natCast]
 rw [e,fU]
theorem ssg_rs (m n:Nat) (a b c d:Int):sg4 m n a b c d=ssg m n a b c d:=by
 unfold sg4 X7
 rw [rs_pair (n:=n) (jW m a b) (jW m c d) (Q2 n) (jJ n) (rs_rt n),psg_rs,psg_rs]
 unfold ssg
 congr 1
 rw [<- psg_rs]
 refine U7 (jW m _ _) ?_
 have h:=(jJ m).mul (SCau.const ((d:Rat)*d*(n:Rat)-(b:Rat)*b)).bd
 have e:(fun k=>(rt m k*rt m k-(m:Rat))*((d:Rat)*d*(n:Rat)-(b:Rat)*b))=(fun k=>(((a*a+b*b*(m:Int))-(c*c+d*d*(m:Int))*(n:Int):Int):Rat)+(((a*b+a*b)-(c*d+c*d)*(n:Int):Int):Rat)*rt m k-(((a:Rat)+b*rt m k)*(a+b*rt m k)-(c+d*rt m k)*(c+d*rt m k)*(n:Rat))):=by
  funext k
  simp only [Rat.intCast_sub,Rat.intCast_add,Rat.intCast_mul,Rat.intCast_natCast]
  grind
 rw [e] at h
 exact h
theorem kW (m n:Nat) (a b c d:Rat) {s:Rat} (hs : 0<s):sg4 m n (a*s) (b*s) (c*s) (d*s)=sg4 m n a b c d:=by
 unfold sg4
 have h:=iH (dR m n a b c d) (SCau.const s)
 have h1:rs (fun _=>s)=1:=M5 ⟨s,hs,0,fun _ _=>Rat.le_refl⟩
 rw [h1,Int.mul_one] at h
 rw [<- h]
 congr 1
 funext k
 unfold X7
 grind
theorem sg4_zero (m n:Nat):sg4 m n 0 0 0 0=0:=by
 unfold sg4
 have e:X7 m n 0 0 0 0=(fun _=>(0:Rat)):=by funext k;unfold X7;grind
 rw [e,O9];rfl
theorem nP (m n:Nat) (a:Rat):sg4 m n a 0 0 0=a.num.sign:=by
 unfold sg4
 have e:X7 m n a 0 0 0=(fun _=>a):=by funext k;unfold X7;grind
 rw [e,O9]
theorem nO (m n:Nat) (a b c d:Rat):sg4 m n a b c d=1\/sg4 m n a b c d = -1\/sg4 m n a b c d=0:=X3 _
theorem jF (m n:Nat) {a a':Rat} (b c d:Rat) (h:a<=a'):sg4 m n a b c d<=sg4 m n a' b c d:=
 rs_mono (dR _ _ _ _ _ _) (dR _ _ _ _ _ _) (fun k=>by unfold X7;grind)
theorem sg4_more (m n:Nat) {a a':Rat} (b c d:Rat) (h:a<a') (h0 : 0<=sg4 m n a b c d):sg4 m n a' b c d=1:=by
 have hs:SPos (fun _=>a'-a):=⟨a'-a,by grind,0,fun _ _=>Rat.le_refl⟩
 have e:X7 m n a' b c d=(fun k=>X7 m n a b c d k+(a'-a)):=by funext k;unfold X7;grind
 rcases nO m n a b c d with h1 | h1 | h1
 · have:=(Y6 h1).add hs
   unfold sg4;rw [e];exact M5 this
 · omega
 · have hn:=M8 (dR m n a b c d) h1
   unfold sg4;rw [e]
   refine M5 (hs.congr ?_)
   refine cast (congrArg SNull ?_) hn.neg
   funext k;grind
def SFloor (m n:Nat) (a b c d:Rat) (z:Int):Prop:=0<=sg4 m n (a-z) b c d/\sg4 m n (a-(z+1:Int)) b c d = -1
theorem SFloor.uniq {m n:Nat} {a b c d:Rat} {x y:Int} (h:SFloor m n a b c d x) (h':SFloor m n a b c d y):x=y:=by
 have key:∀ {x y:Int},SFloor m n a b c d x->SFloor m n a b c d y -> ¬ x<y:=by
  intro x y h h' hlt
  have h1:x+1<=y:=hlt
  have h2:=Rat.intCast_le_intCast.2 h1
  have h3:=jF m n b c d (show a-(y:Rat)<=a-((x+1:Int):Rat) by grind)
  have:=h.2;have:=h'.1
  omega
 have:=key h h';have:=key h' h;omega
end Go.Proofs.YtdgdmicbbfoghaaGreatDoor
