/- What the laws lean on, part 10. -/
import Derived.Below
import Derived.BigCall
import Derived.BigQuiet
import Derived.BigRegion
import Derived.Deep.AppendLies
import Derived.Deep.CutBlock
import Derived.Deep.CutRange
import Derived.Deep.DeepCutAuto
import Derived.Deep.LoopGhost
import Derived.Deep.MidRow
import Derived.Deep.QuietTactic
import Derived.Deep.RegionHeld3
import Derived.Deep.WholeRow
import Derived.Laws.AppendOwn
import Derived.Laws.CopyOwn
import Derived.Laws.Externs
import Derived.Laws.IdiomStrings
import Derived.Lib.BitFns
import Derived.Lib.Hide
import Derived.Lib.Slices
import Derived.Lib.Small
import Derived.Lib.Strings
import Derived.Lib.Walk
import Derived.LoopN
import Derived.OrdersHeld
import Derived.OrdersIn
import Derived.Outline
import Derived.OwnWalk
import Derived.RangeFuncCalls
import Derived.RangeFuncNested
import Derived.RangeFuncOwn
import Derived.Shelf.Bits.Mul64
import Derived.Shelf.Spec.TrailingZeros
import Derived.StillTailTactics
import Derived.WalkKit
import Derived.WalkLawsBesides
import Derived.WalkSpells
import Derived.Test.YtdgdmicbbfoghaaGreatDoorProg
import Derived.Test.YtdgdmicbbfoghaaGreatDoorMg9
set_option linter.unusedVariables false
set_option linter.unusedSimpArgs false
set_option maxRecDepth 100000
namespace Go.Proofs.YtdgdmicbbfoghaaGreatDoor
open Go.RowKit Mat Ex
theorem K7 (w:World) (va:Value) (x:Int) (K:Nat) (Ha:IntV w va x) (hK:K<=800000) (la:x.natAbs<B^K) :
 Calls Tryz.prog 47 #[va] w (E4 w x):=by
 refine A6 B5 Tryz.func47 [sI x] [sI x] (.cons Ha .nil) (rs:=[cl 1 45 [ag 2 0,.v true [.lit (.slice none 0 0),.lit (.bool false)]]]) (out:=ag 2 1) (nc:=2) (by kernel_rfl)
  ⟨fun σ W g h hb=>Int.add_zero x ▸ F6 W _ _ x 0 K (h 0 rfl) (IntV.zero W) (by omega) la (Nat.pow_pos D6),
  trivial⟩ fun τ W g h=>⟨_,rfl,h 1 rfl,g⟩
theorem S8 (w:World) (va:Value) (x:Int) (K:Nat) (Ha:IntV w va x) (hK:K<=800000) (la:x.natAbs<B^K) :
 Calls Tryz.prog 166 #[va] w (RetB w (decide (x=1))):=by
 by_cases h1:x=1
 · skip
   rw [decide_eq_true h1]
   refine A6 B5 Tryz.func166 [sI x] [sVV (.int .i64 1) (.bool true)] (.cons Ha .nil) (rs:=[cl 1 173 [ag 2 0]]) (out := .v false [.lit (.bool true)]) (nc:=2) (by kernel_rfl)
    ⟨fun σ W g h hb=>toVV (qX W _ x K (h 0 rfl) (by omega) la) (by rw [if_pos (fits_one h1),h1]) (by rw [decide_eq_true (fits_one h1)]),
    trivial⟩ fun τ W g h=>⟨rfl,g⟩
 · skip
   rw [decide_eq_false h1]
   have hn:(if fA x then x else 0)≠1:=by split<;>omega
   refine A6 B5 Tryz.func166 [sI x] [sZB (if fA x then x else 0) (decide (fA x)),sV (.bool false)] (.cons Ha .nil) (rs:=[cl 1 173 [ag 2 0],co 2 (.binOp .eql 3 (.tmp 10) (.const (.int .i64 1)) 3) 4 [on 1,.v false [.lit (.int .i64 1)]] [0,1] []]) (out := .v false [.lit (.bool false)]) (nc:=3) (by kernel_rfl)
    ⟨fun σ W g h hb=>toZB (qX W _ x K (h 0 rfl) (by omega) la),
    fun σ W g h hb=>fun ρ o ho _ hv=>⟨_,A5 ho ((A0 hv).1.trans (zb1 (h 1 rfl))) (A0 hv).2 rfl,congrArg Value.bool (beq_eq_false_iff_ne.2 hn)⟩,
    trivial⟩ fun τ W g h=>⟨rfl,g⟩
theorem I5 (w:World) (va vb:Value) (x y:Int) (K:Nat) (Ha:IntV w va x) (Hb:IntV w vb y) (hK:K<=800000) (la:x.natAbs<B^K) (lb:y.natAbs<B^K) (h0 : 0<y) :
 Calls Tryz.prog 146 #[va,vb] w (E4 w (x / y)):=by
 by_cases h1:y=1
 · skip
   rw [h1,Int.ediv_one]
   refine A6 B5 Tryz.func146 [sI x,sI y] [sV (.bool true)] (.cons Ha (.cons Hb .nil)) (rs:=[cl 2 166 [ag 2 1]]) (out:=ag 2 0) (nc:=3) (by kernel_rfl)
    ⟨fun σ W g h hb=>toV (S8 W _ y K (h 1 rfl) hK lb) (by rw [decide_eq_true h1]),
    trivial⟩ fun τ W g h=>⟨_,rfl,h 0 rfl,g⟩
 · skip
   refine A6 B5 Tryz.func146 [sI x,sI y] [sV (.bool false),uR (x / y) (x%y) 0] (.cons Ha (.cons Hb .nil)) (rs:=[cl 2 166 [ag 2 1],cl 3 44 [ag 2 0,ag 2 1]]) (out:=ag 2 3) (nc:=4) (by kernel_rfl)
    ⟨fun σ W g h hb=>toV (S8 W _ y K (h 1 rfl) hK lb) (by rw [decide_eq_false h1]),
    fun σ W g h hb=>sJ (U1 W _ _ x y K (h 0 rfl) (h 1 rfl) (by omega) la lb (by omega)) rfl,
    trivial⟩ fun τ W g h=>⟨_,rfl,iiE1 (h 3 rfl),g⟩
theorem fX {a b k:Nat} (ha:a<B^k) (hb:b<B^k):Nat.gcd a b<B^k:=by
 rcases Nat.eq_zero_or_pos a with h | h
 · rw [h,Nat.gcd_zero_left];exact hb
 · exact Nat.lt_of_le_of_lt (Nat.gcd_le_left _ h) ha
theorem R5 (w:World) (va vb:Value) (x y:Int) (K:Nat) (Ha:IntV w va x) (Hb:IntV w vb y) (hK:K<=800000) (la:x.natAbs<B^K) (lb:y.natAbs<B^K) (hT:Tab w) :
 Calls Tryz.prog 144 #[va,vb] w (E4 w ((Nat.gcd x.natAbs y.natAbs:Nat):Int)):=by
 rcases (show x=1\/(x≠1/\y=1)\/(x≠1/\y≠1) by omega) with h1 | ⟨h1,h2⟩ | ⟨h1,h2⟩
 · skip
   rw [h1,show Int.natAbs 1=1 from rfl,Nat.gcd_one_left]
   refine A6 B5 Tryz.func144 [sI x,sI y] [sV (.bool true),sI 1] (.cons Ha (.cons Hb .nil)) (rs:=[cl 2 166 [ag 2 0],cl 3 10 [.v false [.lit (.int .i64 1)]]]) (out:=ag 2 3) (nc:=4) (by kernel_rfl)
    ⟨fun σ W g h hb=>toV (S8 W _ x K (h 0 rfl) hK la) (by rw [decide_eq_true h1]),
    fun σ W g h hb=>B8 W 1 (by omega) (by omega),
    trivial⟩ fun τ W g h=>⟨_,rfl,h 3 rfl,g⟩
 · skip
   rw [h2,show Int.natAbs 1=1 from rfl,Nat.gcd_one_right]
   refine A6 B5 Tryz.func144 [sI x,sI y] [sV (.bool false),sV (.bool true),sI 1] (.cons Ha (.cons Hb .nil)) (rs:=[cl 2 166 [ag 2 0],cl 3 166 [ag 2 1],cl 4 10 [.v false [.lit (.int .i64 1)]]]) (out:=ag 2 4) (nc:=5) (by kernel_rfl)
    ⟨fun σ W g h hb=>toV (S8 W _ x K (h 0 rfl) hK la) (by rw [decide_eq_false h1]),
    fun σ W g h hb=>toV (S8 W _ y K (h 1 rfl) hK lb) (by rw [decide_eq_true h2]),
    fun σ W g h hb=>B8 W 1 (by omega) (by omega),
    trivial⟩ fun τ W g h=>⟨_,rfl,h 4 rfl,g⟩
 · skip
   refine A6 B5 Tryz.func144 [sI x,sI y] [sV (.bool false),sV (.bool false),sN x.natAbs,sN y.natAbs,sN (Nat.gcd x.natAbs y.natAbs),sI (Nat.gcd x.natAbs y.natAbs:Nat)] (.cons Ha (.cons Hb .nil)) (rs:=[cl 2 166 [ag 2 0],cl 3 166 [ag 2 1],cl 4 36 [ag 2 0],cl 5 36 [ag 2 1],cl 6 167 [ag 1 4,ag 1 5],cl 7 40 [ag 1 6]]) (out:=ag 2 7) (nc:=8) (by kernel_rfl)
    ⟨fun σ W g h hb=>toV (S8 W _ x K (h 0 rfl) hK la) (by rw [decide_eq_false h1]),
    fun σ W g h hb=>toV (S8 W _ y K (h 1 rfl) hK lb) (by rw [decide_eq_false h2]),
    fun σ W g h hb=>gP W _ x K (h 0 rfl) (by omega) la,
    fun σ W g h hb=>gP W _ y K (h 1 rfl) (by omega) lb,
    fun σ W g h hb=>Gcd_any W _ _ x.natAbs y.natAbs K (h 4 rfl) (h 5 rfl) (by omega) la lb (hT.kept g (by simp)),
    fun σ W g h hb=>gN W _ _ K (h 6 rfl) (by omega) (fX la lb),
    trivial⟩ fun τ W g h=>⟨_,rfl,h 7 rfl,g⟩
theorem ldi {n K:Nat} (h:n<B^K):((n:Nat):Int).natAbs<B^K:=by rw [Int.natAbs_natCast];exact h
theorem dn_one {r:Rat} (h:r.den=1):dn r=0:=by unfold dn;rw [if_pos h]
theorem nP {r:Rat} (h:r.den≠1):dn r=(r.den:Int):=by unfold dn;rw [if_neg h]
theorem dn_sign {r:Rat} (h:r.den≠1):(dn r).sign=1:=by
 rw [nP h];exact Int.sign_eq_one_of_pos (by have:=r.den_pos;omega)
theorem gL (w:World) (va vb:Value) (r:Rat) (K:Nat) (Ha:IntV w va r.num) (Hb:IntV w vb (r.den:Int)) (hK:K<=800000) (lb:r.den<B^K) :
 Calls Tryz.prog 145 #[va,vb] w (bK w r):=by
 by_cases h1:r.den=1
 · skip
   refine A6 B5 Tryz.func145 [sI r.num,sI (r.den:Int)] [sV (.bool true)] (.cons Ha (.cons Hb .nil)) (rs:=[cl 2 166 [ag 2 1]]) (out := .v true [.an 0 0,.an 0 1,.lit (.slice none 0 0),.lit (.bool false)]) (nc:=3) (by kernel_rfl)
    ⟨fun σ W g h hb=>toV (S8 W _ _ K (h 1 rfl) hK (ldi lb)) (by rw [decide_eq_true (by omega)]),
    trivial⟩ fun τ W g h=>⟨_,rfl,mkq (h 0 rfl) (by rw [dn_one h1];exact IntV.zero W),g⟩
 · skip
   refine A6 B5 Tryz.func145 [sI r.num,sI (r.den:Int)] [sV (.bool false)] (.cons Ha (.cons Hb .nil)) (rs:=[cl 2 166 [ag 2 1]]) (out := .v true [.an 0 0,.an 0 1,.an 1 0,.an 1 1]) (nc:=3) (by kernel_rfl)
    ⟨fun σ W g h hb=>toV (S8 W _ _ K (h 1 rfl) hK (ldi lb)) (by rw [decide_eq_false (by omega)]),
    trivial⟩ fun τ W g h=>⟨_,rfl,mkq (h 0 rfl) (by rw [nP h1];exact h 1 rfl),g⟩
theorem E9 (w:World) (va:Value) (r:Rat) (K:Nat) (Ha:RatV w va r) (hK:K<=800000) (ld:r.den<B^K) :
 Calls Tryz.prog 58 #[va] w (RetB w (decide (r.den=1))):=by
 by_cases h1:r.den=1
 · skip
   rw [decide_eq_true h1]
   refine A6 B5 Tryz.func58 [sQ r] [sV (.int .i64 0)] (.cons Ha .nil) (rs:=[cl 1 46 [.v true [.an 0 2,.an 0 3]]]) (out := .v false [.lit (.bool true)]) (nc:=2) (by kernel_rfl)
    ⟨fun σ W g h hb=>toV (D5 W _ (dn r) K (qd (h 0 rfl)) (by omega) (dn_bd ld)) (by rw [dn_one h1];rfl),
    trivial⟩ fun τ W g h=>⟨rfl,g⟩
 · skip
   rw [decide_eq_false h1]
   refine A6 B5 Tryz.func58 [sQ r] [sV (.int .i64 1)] (.cons Ha .nil) (rs:=[cl 1 46 [.v true [.an 0 2,.an 0 3]]]) (out := .v false [.lit (.bool false)]) (nc:=2) (by kernel_rfl)
    ⟨fun σ W g h hb=>toV (D5 W _ (dn r) K (qd (h 0 rfl)) (by omega) (dn_bd ld)) (by rw [dn_sign h1]),
    trivial⟩ fun τ W g h=>⟨rfl,g⟩
theorem B0 (w:World) (va:Value) (r:Rat) (K:Nat) (Ha:RatV w va r) (hK:K<=800000) (ln:r.num.natAbs<B^K) :
 Calls Tryz.prog 66 #[va] w (fun e w'=>e = .returned (.int .i64 r.num.sign)/\w.grownBy w' none):=by
 refine A6 B5 Tryz.func66 [sQ r] [sZ r.num.sign] (.cons Ha .nil) (rs:=[cl 1 46 [ag 2 0]]) (out:=on 1) (nc:=2) (by kernel_rfl)
  ⟨fun σ W g h hb=>D5 W _ _ K (qn (h 0 rfl)) (by omega) ln |>.mono fun _ _ ⟨a,g⟩=>⟨_,a,rfl,g⟩,
  trivial⟩ fun τ W g h=>⟨congrArg Ending.returned (h 1 rfl),g⟩
theorem cH (w:World) (va:Value) (r:Rat) (K:Nat) (Ha:RatV w va r) (hK:K<=800000) (ln:r.num.natAbs<B^K) :
 Calls Tryz.prog 90 #[va] w (E4 w r.num):=by
 refine A6 B5 Tryz.func90 [sQ r] [sI r.num] (.cons Ha .nil) (rs:=[cl 1 47 [ag 2 0]]) (out:=ag 2 1) (nc:=2) (by kernel_rfl)
  ⟨fun σ W g h hb=>K7 W _ _ K (qn (h 0 rfl)) hK ln,
  trivial⟩ fun τ W g h=>⟨_,rfl,h 1 rfl,g⟩
theorem F0 (w:World) (va:Value) (r:Rat) (K:Nat) (Ha:RatV w va r) (hK:K<=800000) (ld:r.den<B^K) :
 Calls Tryz.prog 99 #[va] w (E4 w (r.den:Int)):=by
 by_cases h1:r.den=1
 · skip
   rw [h1]
   refine A6 B5 Tryz.func99 [sQ r] [sV (.bool true),sI 1] (.cons Ha .nil) (rs:=[cl 1 58 [ag 4 0],cl 2 10 [.v false [.lit (.int .i64 1)]]]) (out:=ag 2 2) (nc:=3) (by kernel_rfl)
    ⟨fun σ W g h hb=>toV (E9 W _ r K (h 0 rfl) (by omega) ld) (by rw [decide_eq_true h1]),
    fun σ W g h hb=>B8 W 1 (by omega) (by omega),
    trivial⟩ fun τ W g h=>⟨_,rfl,h 2 rfl,g⟩
 · skip
   refine A6 B5 Tryz.func99 [sQ r] [sV (.bool false)] (.cons Ha .nil) (rs:=[cl 1 58 [ag 4 0]]) (out := .v true [.an 0 2,.an 0 3]) (nc:=2) (by kernel_rfl)
    ⟨fun σ W g h hb=>toV (E9 W _ r K (h 0 rfl) (by omega) ld) (by rw [decide_eq_false h1]),
    trivial⟩ fun τ W g h=>⟨_,rfl,nP h1 ▸ qd (h 0 rfl),g⟩
theorem kI (w:World) (va:Value) (r:Rat) (K:Nat) (Ha:RatV w va r) (hK:K<=800000) (ld:r.den<B^K) :
 Calls Tryz.prog 109 #[va] w (E4 w (r.den:Int)):=by
 refine A6 B5 Tryz.func109 [sQ r] [sI (r.den:Int),sI (r.den:Int)] (.cons Ha .nil) (rs:=[cl 1 99 [ag 4 0],cl 2 47 [ag 2 1]]) (out:=ag 2 2) (nc:=3) (by kernel_rfl)
  ⟨fun σ W g h hb=>F0 W _ _ K (h 0 rfl) hK ld,
  fun σ W g h hb=>K7 W _ _ K (h 1 rfl) hK (ldi ld),
  trivial⟩ fun τ W g h=>⟨_,rfl,h 2 rfl,g⟩
theorem B4 (w:World) (va:Value) (x:Int) (K:Nat) (Ha:IntV w va x) (hK:K<=800000) (la:x.natAbs<B^K) :
 Calls Tryz.prog 9 #[va] w (bK w (x:Rat)):=by
 refine A6 B5 Tryz.func9 [sI x] [sI x] (.cons Ha .nil) (rs:=[cl 1 47 [ag 2 0]]) (out := .v true [.an 1 0,.an 1 1,.lit (.slice none 0 0),.lit (.bool false)]) (nc:=2) (by kernel_rfl)
  ⟨fun σ W g h hb=>K7 W _ _ K (h 0 rfl) hK la,
  trivial⟩ fun τ W g h=>⟨_,rfl,mkq (by rw [Rat.num_intCast];exact h 1 rfl) (by rw [dn_int];exact IntV.zero W),g⟩
theorem FNeg_any (w:World) (va:Value) (r:Rat) (K:Nat) (Ha:RatV w va r) (hK:K<=800000) (ln:r.num.natAbs<B^K) (ld:r.den<B^K) :
 Calls Tryz.prog 74 #[va] w (bK w (-r)):=by
 refine A6 B5 Tryz.func74 [sQ r] [sI (-r.num),sI (dn r)] (.cons Ha .nil) (rs:=[cl 1 81 [ag 2 0],cl 2 47 [.v true [.an 0 2,.an 0 3]]]) (out := .v true [.an 1 0,.an 1 1,.an 2 0,.an 2 1]) (nc:=3) (by kernel_rfl)
  ⟨fun σ W g h hb=>X1 W _ _ K (qn (h 0 rfl)) (by omega) ln,
  fun σ W g h hb=>K7 W _ _ K (qd (h 0 rfl)) hK (dn_bd ld),
  trivial⟩ fun τ W g h=>⟨_,rfl,mkq (show IntV W _ (-r.num) from h 1 rfl) (by rw [dn_neg];exact h 2 rfl),g⟩
theorem toZ {P:Program} {f:FuncId} {args:Array Value} {W:World} {n m:Int} (h:Calls P f args W (fun e w'=>e = .returned (.int .i64 n)/\W.grownBy w' none)) (e:n=m):Calls P f args W (Ret W (sZ m).F):=
 h.mono fun _ _ ⟨a,g⟩=>⟨_,a,by rw [e];rfl,g⟩
theorem nO {x:Int} {g K:Nat} (hg:g ∣ x.natAbs) (h:x.natAbs<B^K):(x / (g:Int)).natAbs<B^K:=by
 exact Nat.lt_of_le_of_lt (Int.natAbs_ediv_le_natAbs _ _) h
theorem kH (w:World) (va vb vc vd:Value) (r t:Rat) (K:Nat) (Ha:IntV w va r.num) (Hb:IntV w vb (r.den:Int)) (Hc:IntV w vc t.num) (Hd:IntV w vd (t.den:Int)) (hK:K<=300000) (ln:r.num.natAbs<B^K) (ld:r.den<B^K) (mn:t.num.natAbs<B^K) (md:t.den<B^K) (hTab:Tab w) :
 Calls Tryz.prog 125 #[va,vb,vc,vd] w (bK w (r*t)):=by
 have ldi:(r.den:Int).natAbs<B^K:=by rw [Int.natAbs_natCast];exact ld
 have mdi:(t.den:Int).natAbs<B^K:=by rw [Int.natAbs_natCast];exact md
 obtain ⟨G1,e1⟩:∃ G,Nat.gcd r.num.natAbs t.den=G:=⟨_,rfl⟩
 obtain ⟨G2,e2⟩:∃ G,Nat.gcd t.num.natAbs r.den=G:=⟨_,rfl⟩
 have g1p : 0<G1:=by rw [<- e1];exact Nat.gcd_pos_of_pos_right _ t.den_pos
 have g2p : 0<G2:=by rw [<- e2];exact Nat.gcd_pos_of_pos_right _ r.den_pos
 have g1d:G1 ∣ r.num.natAbs/\G1 ∣ t.den:=by rw [<- e1];exact ⟨Nat.gcd_dvd_left _ _,Nat.gcd_dvd_right _ _⟩
 have g2d:G2 ∣ t.num.natAbs/\G2 ∣ r.den:=by rw [<- e2];exact ⟨Nat.gcd_dvd_left _ _,Nat.gcd_dvd_right _ _⟩
 have g1b:(G1:Int).natAbs<B^K:=by rw [Int.natAbs_natCast, <- e1];exact fX ln md
 have g2b:(G2:Int).natAbs<B^K:=by rw [Int.natAbs_natCast, <- e2];exact fX mn ld
 have b1:(r.num / (G1:Int)).natAbs<B^K:=nO g1d.1 ln
 have b2:(t.num / (G2:Int)).natAbs<B^K:=nO g2d.1 mn
 have b3:((r.den:Int) / (G2:Int)).natAbs<B^K:=nO (by rw [Int.natAbs_natCast];exact g2d.2) ldi
 have b4:((t.den:Int) / (G1:Int)).natAbs<B^K:=nO (by rw [Int.natAbs_natCast];exact g1d.2) mdi
 have rn:(r*t).num=r.num / (G1:Int)*(t.num / (G2:Int)):=by rw [jG,e1,e2]
 have rd:((r*t).den:Int)=(r.den:Int) / (G2:Int)*((t.den:Int) / (G1:Int)):=by rw [jH,e1,e2,Int.natCast_mul];rfl
 have rb:(r*t).den<B^(K+K):=by
  have h:=jX b3 b4
  rw [<- rd,Int.natAbs_natCast] at h;exact h
 refine A6 B5 Tryz.func125 [sI r.num,sI r.den,sI t.num,sI t.den] [sI G1,sI G2,sI (r.num / G1),sI (t.num / G2),sI (r*t).num,sI (r.den / G2),sI (t.den / G1),sI (r*t).den,sQ (r*t)] (.cons Ha (.cons Hb (.cons Hc (.cons Hd .nil))))
  (rs:=[cl 4 144 [ag 2 0,ag 2 3],cl 5 144 [ag 2 2,ag 2 1],cl 6 146 [ag 2 0,ag 2 4],cl 7 146 [ag 2 2,ag 2 5],cl 8 38 [ag 2 6,ag 2 7],cl 9 146 [ag 2 1,ag 2 5],cl 10 146 [ag 2 3,ag 2 4],cl 11 38 [ag 2 9,ag 2 10],cl 12 145 [ag 2 8,ag 2 11]])
  (out:=ag 4 12) (nc:=13) (by kernel_rfl) ⟨?_, ?_, ?_, ?_, ?_, ?_, ?_, ?_, ?_,trivial⟩ fun τ W g h=>⟨_,rfl,h 12 rfl,g⟩
 · intro σ W g h _
   have:=R5 W _ _ r.num (t.den:Int) K (h 0 rfl) (h 3 rfl) (by omega) ln mdi (hTab.kept g (by simp))
   rw [Int.natAbs_natCast,e1] at this;exact this
 · intro σ W g h _
   have:=R5 W _ _ t.num (r.den:Int) K (h 2 rfl) (h 1 rfl) (by omega) mn ldi (hTab.kept g (by simp))
   rw [Int.natAbs_natCast,e2] at this;exact this
 · exact fun σ W g h _=>I5 W _ _ r.num (G1:Int) K (h 0 rfl) (h 4 rfl) (by omega) ln g1b (by omega)
 · exact fun σ W g h _=>I5 W _ _ t.num (G2:Int) K (h 2 rfl) (h 5 rfl) (by omega) mn g2b (by omega)
 · exact fun σ W g h _=>rn ▸ F2 W _ _ _ _ K (h 6 rfl) (h 7 rfl) (by omega) b1 b2
 · exact fun σ W g h _=>I5 W _ _ (r.den:Int) (G2:Int) K (h 1 rfl) (h 5 rfl) (by omega) ldi g2b (by omega)
 · exact fun σ W g h _=>I5 W _ _ (t.den:Int) (G1:Int) K (h 3 rfl) (h 4 rfl) (by omega) mdi g1b (by omega)
 · exact fun σ W g h _=>rd ▸ F2 W _ _ _ _ K (h 9 rfl) (h 10 rfl) (by omega) b3 b4
 · exact fun σ W g h _=>gL W _ _ _ (K+K) (h 8 rfl) (h 11 rfl) (by omega) rb
theorem B6 (w:World) (va vb:Value) (r t:Rat) (K:Nat) (Ha:RatV w va r) (Hb:RatV w vb t) (hK:K<=300000) (ln:r.num.natAbs<B^K) (ld:r.den<B^K) (mn:t.num.natAbs<B^K) (md:t.den<B^K) (hTab:Tab w) :
 Calls Tryz.prog 67 #[va,vb] w (bK w (r*t)):=by
 rcases (show (r.den=1/\t.den=1)\/(r.den=1/\t.den≠1)\/r.den≠1 by omega) with ⟨h1,h2⟩ | ⟨h1,h2⟩ | h1
 · skip
   refine A6 B5 Tryz.func67 [sQ r,sQ t] [sV (.bool true),sV (.bool true),sI (r.num*t.num)] (.cons Ha (.cons Hb .nil)) (rs:=[cl 2 58 [ag 4 0],cl 3 58 [ag 4 1],cl 4 38 [ag 2 0,ag 2 1]]) (out := .v true [.an 4 0,.an 4 1,.lit (.slice none 0 0),.lit (.bool false)]) (nc:=5) (by kernel_rfl)
    ⟨fun σ W g h hb=>toV (E9 W _ r K (h 0 rfl) (by omega) ld) (by rw [decide_eq_true h1]),
    fun σ W g h hb=>toV (E9 W _ t K (h 1 rfl) (by omega) md) (by rw [decide_eq_true h2]),
    fun σ W g h hb=>F2 W _ _ _ _ K (qn (h 0 rfl)) (qn (h 1 rfl)) (by omega) ln mn,
    trivial⟩ fun τ W g h=>⟨_,rfl,mkq (by rw [(oZ h1 h2).1];exact h 4 rfl) (by rw [(oZ h1 h2).2];exact IntV.zero W),g⟩
 · skip
   refine A6 B5 Tryz.func67 [sQ r,sQ t] [sV (.bool true),sV (.bool false),sI (r.den:Int),sI (t.den:Int),sQ (r*t)] (.cons Ha (.cons Hb .nil)) (rs:=[cl 2 58 [ag 4 0],cl 3 58 [ag 4 1],cl 4 99 [ag 4 0],cl 5 99 [ag 4 1],cl 6 125 [ag 2 0,ag 2 4,ag 2 1,ag 2 5]]) (out:=ag 4 6) (nc:=7) (by kernel_rfl)
    ⟨fun σ W g h hb=>toV (E9 W _ r K (h 0 rfl) (by omega) ld) (by rw [decide_eq_true h1]),
    fun σ W g h hb=>toV (E9 W _ t K (h 1 rfl) (by omega) md) (by rw [decide_eq_false h2]),
    fun σ W g h hb=>F0 W _ r K (h 0 rfl) (by omega) ld,
    fun σ W g h hb=>F0 W _ t K (h 1 rfl) (by omega) md,
    fun σ W g h hb=>kH W _ _ _ _ r t K (qn (h 0 rfl)) (h 4 rfl) (qn (h 1 rfl)) (h 5 rfl) hK ln ld mn md (hTab.kept g (by simp)),
    trivial⟩ fun τ W g h=>⟨_,rfl,h 6 rfl,g⟩
 · skip
   refine A6 B5 Tryz.func67 [sQ r,sQ t] [sV (.bool false),sI (r.den:Int),sI (t.den:Int),sQ (r*t)] (.cons Ha (.cons Hb .nil)) (rs:=[cl 2 58 [ag 4 0],cl 3 99 [ag 4 0],cl 4 99 [ag 4 1],cl 5 125 [ag 2 0,ag 2 3,ag 2 1,ag 2 4]]) (out:=ag 4 5) (nc:=6) (by kernel_rfl)
    ⟨fun σ W g h hb=>toV (E9 W _ r K (h 0 rfl) (by omega) ld) (by rw [decide_eq_false h1]),
    fun σ W g h hb=>F0 W _ r K (h 0 rfl) (by omega) ld,
    fun σ W g h hb=>F0 W _ t K (h 1 rfl) (by omega) md,
    fun σ W g h hb=>kH W _ _ _ _ r t K (qn (h 0 rfl)) (h 3 rfl) (qn (h 1 rfl)) (h 4 rfl) hK ln ld mn md (hTab.kept g (by simp)),
    trivial⟩ fun τ W g h=>⟨_,rfl,h 5 rfl,g⟩
theorem kG (w:World) (va vb vc vd:Value) (r t:Rat) (K:Nat) (Ha:IntV w va r.num) (Hb:IntV w vb (r.den:Int)) (Hc:IntV w vc t.num) (Hd:IntV w vd (t.den:Int)) (hK:K<=300000) (ln:r.num.natAbs<B^K) (ld:r.den<B^K) (mn:t.num.natAbs<B^K) (md:t.den<B^K) (hTab:Tab w) :
 Calls Tryz.prog 101 #[va,vb,vc,vd] w (bK w (r+t)):=by
 have rdi:=ldi ld
 have mdi:=ldi md
 obtain ⟨G1,e1⟩:∃ G,Nat.gcd r.den t.den=G:=⟨_,rfl⟩
 have g1p : 0<G1:=by rw [<- e1];exact Nat.gcd_pos_of_pos_right _ t.den_pos
 have g1b:(G1:Int).natAbs<B^K:=by rw [Int.natAbs_natCast, <- e1];exact fX ld md
 obtain ⟨D1,q3⟩:∃ z,(r.den:Int) / (G1:Int)=z:=⟨_,rfl⟩
 obtain ⟨F1,q4⟩:∃ z,(t.den:Int) / (G1:Int)=z:=⟨_,rfl⟩
 have b1:D1.natAbs<B^K:=by rw [<- q3];exact Nat.lt_of_le_of_lt (Int.natAbs_ediv_le_natAbs _ _) rdi
 have b2:F1.natAbs<B^K:=by rw [<- q4];exact Nat.lt_of_le_of_lt (Int.natAbs_ediv_le_natAbs _ _) mdi
 have b3:(r.num*F1).natAbs<B^(K+K):=jX ln b2
 have b4:(t.num*D1).natAbs<B^(K+K):=jX mn b1
 have b5:(r.num*F1+t.num*D1).natAbs<B^(K+K+1):=jY b3 b4
 obtain ⟨G2,e2⟩:∃ G,Nat.gcd (r.num*F1+t.num*D1).natAbs G1=G:=⟨_,rfl⟩
 have hp:=pD r t G1 G2 (r.num*F1+t.num*D1) e1.symm (by rw [<- q3, <- q4];rfl) e2.symm
 have g2p : 0<G2:=by rw [<- e2];exact Nat.gcd_pos_of_pos_right _ g1p
 have g2b:(G2:Int).natAbs<B^K:=by rw [Int.natAbs_natCast, <- e2];rw [Int.natAbs_natCast] at g1b;exact Nat.lt_of_le_of_lt (Nat.gcd_le_right _ g1p) g1b
 have b6:((t.den:Int) / (G2:Int)).natAbs<B^K:=Nat.lt_of_le_of_lt (Int.natAbs_ediv_le_natAbs _ _) mdi
 have rd:((r+t).den:Int)=D1*((t.den:Int) / (G2:Int)):=by rw [hp.2, <- q3,Int.natCast_mul];rfl
 have rb:(r+t).den<B^(K+K):=by
  have h:=jX b1 b6
  rw [<- rd,Int.natAbs_natCast] at h;exact h
 refine A6 B5 Tryz.func101 [sI r.num,sI r.den,sI t.num,sI t.den] [sI G1,sI D1,sI F1,sI (r.num*F1),sI (t.num*D1),sI (r.num*F1+t.num*D1),sI G2,sI (r+t).num,sI (t.den / G2),sI (r+t).den,sQ (r+t)] (.cons Ha (.cons Hb (.cons Hc (.cons Hd .nil)))) (rs:=[cl 4 144 [ag 2 1,ag 2 3],cl 5 146 [ag 2 1,ag 2 4],cl 6 146 [ag 2 3,ag 2 4],cl 7 38 [ag 2 0,ag 2 6],cl 8 38 [ag 2 2,ag 2 5],cl 9 45 [ag 2 7,ag 2 8],cl 10 144 [ag 2 9,ag 2 4],cl 11 146 [ag 2 9,ag 2 10],cl 12 146 [ag 2 3,ag 2 10],cl 13 38 [ag 2 5,ag 2 12],cl 14 145 [ag 2 11,ag 2 13]]) (out:=ag 4 14) (nc:=15) (by kernel_rfl)
  ⟨fun σ W g h hb=>by
   have:=R5 W _ _ (r.den:Int) (t.den:Int) K (h 1 rfl) (h 3 rfl) (by omega) rdi mdi (hTab.kept g (by simp))
   rw [Int.natAbs_natCast,Int.natAbs_natCast,e1] at this;exact this,
  fun σ W g h hb=>q3 ▸ I5 W _ _ (r.den:Int) (G1:Int) K (h 1 rfl) (h 4 rfl) (by omega) rdi g1b (by omega),
  fun σ W g h hb=>q4 ▸ I5 W _ _ (t.den:Int) (G1:Int) K (h 3 rfl) (h 4 rfl) (by omega) mdi g1b (by omega),
  fun σ W g h hb=>F2 W _ _ _ _ K (h 0 rfl) (h 6 rfl) (by omega) ln b2,
  fun σ W g h hb=>F2 W _ _ _ _ K (h 2 rfl) (h 5 rfl) (by omega) mn b1,
  fun σ W g h hb=>F6 W _ _ _ _ (K+K) (h 7 rfl) (h 8 rfl) (by omega) b3 b4,
  fun σ W g h hb=>by
   have:=R5 W _ _ _ (G1:Int) (K+K+1) (h 9 rfl) (h 4 rfl) (by omega) b5 (fbw g1b (by omega)) (hTab.kept g (by simp))
   rw [Int.natAbs_natCast,e2] at this;exact this,
  fun σ W g h hb=>hp.1 ▸ I5 W _ _ _ (G2:Int) (K+K+1) (h 9 rfl) (h 10 rfl) (by omega) b5 (fbw g2b (by omega)) (by omega),
  fun σ W g h hb=>I5 W _ _ (t.den:Int) (G2:Int) K (h 3 rfl) (h 10 rfl) (by omega) mdi g2b (by omega),
  fun σ W g h hb=>rd ▸ F2 W _ _ _ _ K (h 5 rfl) (h 12 rfl) (by omega) b1 b6,
  fun σ W g h hb=>gL W _ _ _ (K+K) (h 11 rfl) (h 13 rfl) (by omega) rb,
  trivial⟩ fun τ W g h=>⟨_,rfl,h 14 rfl,g⟩
theorem I0 (w:World) (va vb:Value) (r t:Rat) (K:Nat) (Ha:RatV w va r) (Hb:RatV w vb t) (hK:K<=300000) (ln:r.num.natAbs<B^K) (ld:r.den<B^K) (mn:t.num.natAbs<B^K) (md:t.den<B^K) (hTab:Tab w) :
 Calls Tryz.prog 42 #[va,vb] w (bK w (r+t)):=by
 rcases (show (r.den=1/\t.den=1)\/(r.den=1/\t.den≠1)\/r.den≠1 by omega) with ⟨h1,h2⟩ | ⟨h1,h2⟩ | h1
 · skip
   refine A6 B5 Tryz.func42 [sQ r,sQ t] [sV (.bool true),sV (.bool true),sI (r.num+t.num)] (.cons Ha (.cons Hb .nil)) (rs:=[cl 2 58 [ag 4 0],cl 3 58 [ag 4 1],cl 4 45 [ag 2 0,ag 2 1]]) (out := .v true [.an 4 0,.an 4 1,.lit (.slice none 0 0),.lit (.bool false)]) (nc:=5) (by kernel_rfl)
    ⟨fun σ W g h hb=>toV (E9 W _ r K (h 0 rfl) (by omega) ld) (by rw [decide_eq_true h1]),
    fun σ W g h hb=>toV (E9 W _ t K (h 1 rfl) (by omega) md) (by rw [decide_eq_true h2]),
    fun σ W g h hb=>F6 W _ _ _ _ K (qn (h 0 rfl)) (qn (h 1 rfl)) (by omega) ln mn,
    trivial⟩ fun τ W g h=>⟨_,rfl,mkq (by rw [(iC h1 h2).1];exact h 4 rfl) (by rw [(iC h1 h2).2];exact IntV.zero W),g⟩
 · skip
   refine A6 B5 Tryz.func42 [sQ r,sQ t] [sV (.bool true),sV (.bool false),sI (r.den:Int),sI (t.den:Int),sQ (r+t)] (.cons Ha (.cons Hb .nil)) (rs:=[cl 2 58 [ag 4 0],cl 3 58 [ag 4 1],cl 4 99 [ag 4 0],cl 5 99 [ag 4 1],cl 6 101 [ag 2 0,ag 2 4,ag 2 1,ag 2 5]]) (out:=ag 4 6) (nc:=7) (by kernel_rfl)
    ⟨fun σ W g h hb=>toV (E9 W _ r K (h 0 rfl) (by omega) ld) (by rw [decide_eq_true h1]),
    fun σ W g h hb=>toV (E9 W _ t K (h 1 rfl) (by omega) md) (by rw [decide_eq_false h2]),
    fun σ W g h hb=>F0 W _ r K (h 0 rfl) (by omega) ld,
    fun σ W g h hb=>F0 W _ t K (h 1 rfl) (by omega) md,
    fun σ W g h hb=>kG W _ _ _ _ r t K (qn (h 0 rfl)) (h 4 rfl) (qn (h 1 rfl)) (h 5 rfl) hK ln ld mn md (hTab.kept g (by simp)),
    trivial⟩ fun τ W g h=>⟨_,rfl,h 6 rfl,g⟩
 · skip
   refine A6 B5 Tryz.func42 [sQ r,sQ t] [sV (.bool false),sI (r.den:Int),sI (t.den:Int),sQ (r+t)] (.cons Ha (.cons Hb .nil)) (rs:=[cl 2 58 [ag 4 0],cl 3 99 [ag 4 0],cl 4 99 [ag 4 1],cl 5 101 [ag 2 0,ag 2 3,ag 2 1,ag 2 4]]) (out:=ag 4 5) (nc:=6) (by kernel_rfl)
    ⟨fun σ W g h hb=>toV (E9 W _ r K (h 0 rfl) (by omega) ld) (by rw [decide_eq_false h1]),
    fun σ W g h hb=>F0 W _ r K (h 0 rfl) (by omega) ld,
    fun σ W g h hb=>F0 W _ t K (h 1 rfl) (by omega) md,
    fun σ W g h hb=>kG W _ _ _ _ r t K (qn (h 0 rfl)) (h 3 rfl) (qn (h 1 rfl)) (h 4 rfl) hK ln ld mn md (hTab.kept g (by simp)),
    trivial⟩ fun τ W g h=>⟨_,rfl,h 5 rfl,g⟩
theorem FSub_any (w:World) (va vb:Value) (r t:Rat) (K:Nat) (Ha:RatV w va r) (Hb:RatV w vb t) (hK:K<=300000) (ln:r.num.natAbs<B^K) (ld:r.den<B^K) (mn:t.num.natAbs<B^K) (md:t.den<B^K) (hTab:Tab w) :
 Calls Tryz.prog 43 #[va,vb] w (bK w (r-t)):=by
 rcases (show (r.den=1/\t.den=1)\/(r.den=1/\t.den≠1)\/r.den≠1 by omega) with ⟨h1,h2⟩ | ⟨h1,h2⟩ | h1
 · skip
   refine A6 B5 Tryz.func43 [sQ r,sQ t] [sV (.bool true),sV (.bool true),sI (r.num-t.num)] (.cons Ha (.cons Hb .nil)) (rs:=[cl 2 58 [ag 4 0],cl 3 58 [ag 4 1],cl 4 102 [ag 2 0,ag 2 1]]) (out := .v true [.an 4 0,.an 4 1,.lit (.slice none 0 0),.lit (.bool false)]) (nc:=5) (by kernel_rfl)
    ⟨fun σ W g h hb=>toV (E9 W _ r K (h 0 rfl) (by omega) ld) (by rw [decide_eq_true h1]),
    fun σ W g h hb=>toV (E9 W _ t K (h 1 rfl) (by omega) md) (by rw [decide_eq_true h2]),
    fun σ W g h hb=>qW W _ _ _ _ K (qn (h 0 rfl)) (qn (h 1 rfl)) (by omega) ln mn,
    trivial⟩ fun τ W g h=>⟨_,rfl,mkq (by rw [(oX h1 h2).1];exact h 4 rfl) (by rw [(oX h1 h2).2];exact IntV.zero W),g⟩
 · skip
   refine A6 B5 Tryz.func43 [sQ r,sQ t] [sV (.bool true),sV (.bool false),sI (r.den:Int),sI (-t).num,sI (t.den:Int),sQ (r-t)] (.cons Ha (.cons Hb .nil)) (rs:=[cl 2 58 [ag 4 0],cl 3 58 [ag 4 1],cl 4 99 [ag 4 0],cl 5 81 [ag 2 1],cl 6 99 [ag 4 1],cl 7 101 [ag 2 0,ag 2 4,ag 2 5,ag 2 6]]) (out:=ag 4 7) (nc:=8) (by kernel_rfl)
    ⟨fun σ W g h hb=>toV (E9 W _ r K (h 0 rfl) (by omega) ld) (by rw [decide_eq_true h1]),
    fun σ W g h hb=>toV (E9 W _ t K (h 1 rfl) (by omega) md) (by rw [decide_eq_false h2]),
    fun σ W g h hb=>F0 W _ r K (h 0 rfl) (by omega) ld,
    fun σ W g h hb=>X1 W _ _ K (qn (h 1 rfl)) (by omega) mn,
    fun σ W g h hb=>F0 W _ t K (h 1 rfl) (by omega) md,
    fun σ W g h hb=>Rat.sub_eq_add_neg r t ▸ kG W _ _ _ _ r (-t) K (qn (h 0 rfl)) (h 4 rfl) (h 5 rfl) (h 6 rfl) hK ln ld (by rw [show (-t).num = -t.num from rfl,Int.natAbs_neg];exact mn) md (hTab.kept g (by simp)),
    trivial⟩ fun τ W g h=>⟨_,rfl,h 7 rfl,g⟩
 · skip
   refine A6 B5 Tryz.func43 [sQ r,sQ t] [sV (.bool false),sI (r.den:Int),sI (-t).num,sI (t.den:Int),sQ (r-t)] (.cons Ha (.cons Hb .nil)) (rs:=[cl 2 58 [ag 4 0],cl 3 99 [ag 4 0],cl 4 81 [ag 2 1],cl 5 99 [ag 4 1],cl 6 101 [ag 2 0,ag 2 3,ag 2 4,ag 2 5]]) (out:=ag 4 6) (nc:=7) (by kernel_rfl)
    ⟨fun σ W g h hb=>toV (E9 W _ r K (h 0 rfl) (by omega) ld) (by rw [decide_eq_false h1]),
    fun σ W g h hb=>F0 W _ r K (h 0 rfl) (by omega) ld,
    fun σ W g h hb=>X1 W _ _ K (qn (h 1 rfl)) (by omega) mn,
    fun σ W g h hb=>F0 W _ t K (h 1 rfl) (by omega) md,
    fun σ W g h hb=>Rat.sub_eq_add_neg r t ▸ kG W _ _ _ _ r (-t) K (qn (h 0 rfl)) (h 3 rfl) (h 4 rfl) (h 5 rfl) hK ln ld (by rw [show (-t).num = -t.num from rfl,Int.natAbs_neg];exact mn) md (hTab.kept g (by simp)),
    trivial⟩ fun τ W g h=>⟨_,rfl,h 6 rfl,g⟩
theorem uD (w:World) (va vb:Value) (x y:Int) (K:Nat) (Ha:IntV w va x) (Hb:IntV w vb y) (hK:K<=300000) (la:x.natAbs<B^K) (lb:y.natAbs<B^K) (hTab:Tab w) :
 Calls Tryz.prog 100 #[va,vb] w (gK w (Rat.divInt x y) (if y=0 then 5 else 0)):=by
 rcases iV y with ⟨hy,hs⟩ | ⟨hy,hs⟩ | ⟨hy,hs⟩
 · skip
   rw [if_neg (by omega)]
   have gp : 0<Nat.gcd x.natAbs y.natAbs:=Nat.gcd_pos_of_pos_right _ (by omega)
   have gb:((Nat.gcd x.natAbs y.natAbs:Nat):Int).natAbs<B^K:=ldi (fX la lb)
   have e9:Rat.divInt x y=Rat.divInt (-x) (-y):=(Rat.neg_divInt_neg x y).symm
   have hm:=tN (-x) (-y) (by omega)
   rw [<- e9,Int.natAbs_neg,Int.natAbs_neg] at hm
   have xb:(-x).natAbs<B^K:=by rw [Int.natAbs_neg];exact la
   have yb:(-y).natAbs<B^K:=by rw [Int.natAbs_neg];exact lb
   have nb:(Rat.divInt x y).num.natAbs<B^K:=uW la
   have db:(Rat.divInt x y).den<B^K:=uX lb (by omega)
   refine A6 B5 Tryz.func100 [sI x,sI y] [sV (.int .i64 (-1)),sI (-x),sI (-y),sI (Nat.gcd x.natAbs y.natAbs:Nat),sI (Rat.divInt x y).num,sI (Rat.divInt x y).num,sI (Rat.divInt x y).den,sI (Rat.divInt x y).den,sQ (Rat.divInt x y)] (.cons Ha (.cons Hb .nil)) (rs:=[cl 2 46 [ag 2 1],cl 3 81 [ag 2 0],cl 4 81 [ag 2 1],cl 5 144 [ag 2 3,ag 2 4],cl 6 146 [ag 2 3,ag 2 5],cl 7 47 [ag 2 6],cl 8 146 [ag 2 4,ag 2 5],cl 9 47 [ag 2 8],cl 10 145 [ag 2 7,ag 2 9]]) (out := .tup [(true,[.an 10 0,.an 10 1,.an 10 2,.an 10 3]),(false,[.lit (.int .i64 0)])]) (nc:=11) (by kernel_rfl)
    ⟨fun σ W g h hb=>toV (D5 W _ y K (h 1 rfl) (by omega) lb) (by rw [hs]),
    fun σ W g h hb=>X1 W _ x K (h 0 rfl) (by omega) la,
    fun σ W g h hb=>X1 W _ y K (h 1 rfl) (by omega) lb,
    fun σ W g h hb=>by
     have:=R5 W _ _ (-x) (-y) K (h 3 rfl) (h 4 rfl) (by omega) xb yb (hTab.kept g (by simp))
     rw [Int.natAbs_neg,Int.natAbs_neg] at this;exact this,
    fun σ W g h hb=>hm.1 ▸ I5 W _ _ (-x) _ K (h 3 rfl) (h 5 rfl) (by omega) xb gb (by omega),
    fun σ W g h hb=>K7 W _ _ K (h 6 rfl) (by omega) nb,
    fun σ W g h hb=>hm.2 ▸ I5 W _ _ (-y) _ K (h 4 rfl) (h 5 rfl) (by omega) yb gb (by omega),
    fun σ W g h hb=>K7 W _ _ K (h 8 rfl) (by omega) (ldi db),
    fun σ W g h hb=>gL W _ _ _ K (h 7 rfl) (h 9 rfl) (by omega) db,
    trivial⟩ fun τ W g h=>⟨_,rfl,h 10 rfl,g⟩
 · skip
   rw [if_pos hy,show Rat.divInt x y=0 by rw [hy,Rat.divInt_zero]]
   refine A6 B5 Tryz.func100 [sI x,sI y] [sV (.int .i64 0)] (.cons Ha (.cons Hb .nil)) (rs:=[cl 2 46 [ag 2 1]]) (out := .tup [(true,[.lit (.slice none 0 0),.lit (.bool false),.lit (.slice none 0 0),.lit (.bool false)]),(false,[.lit (.int .i64 5)])]) (nc:=3) (by kernel_rfl)
    ⟨fun σ W g h hb=>toV (D5 W _ y K (h 1 rfl) (by omega) lb) (by rw [hs]),
    trivial⟩ fun τ W g h=>⟨_,rfl,RatV.zero W,g⟩
 · skip
   rw [if_neg (by omega)]
   have gp : 0<Nat.gcd x.natAbs y.natAbs:=Nat.gcd_pos_of_pos_right _ (by omega)
   have gb:((Nat.gcd x.natAbs y.natAbs:Nat):Int).natAbs<B^K:=ldi (fX la lb)
   have hm:=tN x y hy
   have nb:(Rat.divInt x y).num.natAbs<B^K:=uW la
   have db:(Rat.divInt x y).den<B^K:=uX lb (by omega)
   refine A6 B5 Tryz.func100 [sI x,sI y] [sV (.int .i64 1),sI (Nat.gcd x.natAbs y.natAbs:Nat),sI (Rat.divInt x y).num,sI (Rat.divInt x y).num,sI (Rat.divInt x y).den,sI (Rat.divInt x y).den,sQ (Rat.divInt x y)] (.cons Ha (.cons Hb .nil)) (rs:=[cl 2 46 [ag 2 1],cl 3 144 [ag 2 0,ag 2 1],cl 4 146 [ag 2 0,ag 2 3],cl 5 47 [ag 2 4],cl 6 146 [ag 2 1,ag 2 3],cl 7 47 [ag 2 6],cl 8 145 [ag 2 5,ag 2 7]]) (out := .tup [(true,[.an 8 0,.an 8 1,.an 8 2,.an 8 3]),(false,[.lit (.int .i64 0)])]) (nc:=9) (by kernel_rfl)
    ⟨fun σ W g h hb=>toV (D5 W _ y K (h 1 rfl) (by omega) lb) (by rw [hs]),
    fun σ W g h hb=>R5 W _ _ x y K (h 0 rfl) (h 1 rfl) (by omega) la lb (hTab.kept g (by simp)),
    fun σ W g h hb=>hm.1 ▸ I5 W _ _ x _ K (h 0 rfl) (h 3 rfl) (by omega) la gb (by omega),
    fun σ W g h hb=>K7 W _ _ K (h 4 rfl) (by omega) nb,
    fun σ W g h hb=>hm.2 ▸ I5 W _ _ y _ K (h 1 rfl) (h 3 rfl) (by omega) lb gb (by omega),
    fun σ W g h hb=>K7 W _ _ K (h 6 rfl) (by omega) (ldi db),
    fun σ W g h hb=>gL W _ _ _ K (h 5 rfl) (h 7 rfl) (by omega) db,
    trivial⟩ fun τ W g h=>⟨_,rfl,h 8 rfl,g⟩
theorem FOf_any (w:World) (n d:Int) (h1 : -9223372036854775808<=n) (h2:n<=9223372036854775807) (h3 : -9223372036854775808<=d) (h4:d<=9223372036854775807) (hTab:Tab w) :
 Calls Tryz.prog 41 #[.int .i64 n,.int .i64 d] w (gK w (Rat.divInt n d) (if d=0 then 5 else 0)):=by
 have ln:n.natAbs<B^1:=by unfold B;omega
 have lb:d.natAbs<B^1:=by unfold B;omega
 refine A6 B5 Tryz.func41 [sZ n,sZ d] [sI n,sI d,sQC (Rat.divInt n d) (if d=0 then 5 else 0)] (.cons rfl (.cons rfl .nil)) (rs:=[cl 2 10 [on 0],cl 3 10 [on 1],cl 4 100 [ag 2 2,ag 2 3]]) (out := .tup [(true,[.an 4 0,.an 4 1,.an 4 2,.an 4 3]),(false,[.an 4 4])]) (nc:=5) (by kernel_rfl)
  ⟨fun σ W g h hb=>R0 (h 0 rfl) (B8 W n h1 h2),
  fun σ W g h hb=>R0 (h 1 rfl) (B8 W d h3 h4),
  fun σ W g h hb=>toQC (uD W _ _ n d 1 (h 2 rfl) (h 3 rfl) (by omega) ln lb (hTab.kept g (by simp))),
  trivial⟩ fun τ W g h=>qcE (h 4 rfl) g
theorem aN (w:World) (va:Value) (r:Rat) (K:Nat) (Ha:RatV w va r) (hK:K<=400000) (ln:r.num.natAbs<B^K) (ld:r.den<B^K) :
 Calls Tryz.prog 132 #[va] w (RetInt2 w (r.num / (r.den:Int)) (r.num%(r.den:Int))):=by
 refine A6 B5 Tryz.func132 [sQ r] [sI r.den,uR (r.num / r.den) (r.num%r.den) 0] (.cons Ha .nil) (rs:=[cl 1 99 [ag 4 0],cl 2 44 [ag 2 0,ag 2 1]]) (out := .tup [(true,[.an 2 0,.an 2 1]),(true,[.an 2 2,.an 2 3])]) (nc:=3) (by kernel_rfl)
  ⟨fun σ W g h hb=>F0 W _ r K (h 0 rfl) (by omega) ld,
  fun σ W g h hb=>sJ (U1 W _ _ _ _ K (qn (h 0 rfl)) (h 1 rfl) (by omega) ln (ldi ld) (by have:=r.den_pos;omega)) rfl,
  trivial⟩ fun τ W g h=>⟨_,_,rfl,iiE1 (h 2 rfl),iiE2 (h 2 rfl),g⟩
theorem FFloor_any (w:World) (va:Value) (r:Rat) (K:Nat) (Ha:RatV w va r) (hK:K<=400000) (ln:r.num.natAbs<B^K) (ld:r.den<B^K) :
 Calls Tryz.prog 78 #[va] w (E4 w r.floor):=by
 rw [Rat.floor_def]
 refine A6 B5 Tryz.func78 [sQ r] [sII (r.num / r.den) (r.num%r.den)] (.cons Ha .nil) (rs:=[cl 1 132 [ag 4 0]]) (out:=ag 2 1) (nc:=2) (by kernel_rfl)
  ⟨fun σ W g h hb=>toII (aN W _ r K (h 0 rfl) hK ln ld),
  trivial⟩ fun τ W g h=>⟨_,rfl,ii1 (h 1 rfl),g⟩
theorem uE (w:World) (va:Value) (x:Int) (K:Nat) (Ha:IntV w va x) (hK : 1<=K/\K<=800000) (la:x.natAbs<B^K) :
 Calls Tryz.prog 138 #[va] w (RetB w (decide (x%2=0))):=by
 have hb2:(2:Int).natAbs<B^K:=Nat.lt_of_lt_of_le (show 2<B^1 by unfold B;omega) (Nat.pow_le_pow_right D6 hK.1)
 have hbr:(x%2).natAbs<B^K:=Nat.lt_trans (show (x%2).natAbs<2 by omega) hb2
 by_cases h1:x%2=0
 · skip
   rw [decide_eq_true h1]
   refine A6 B5 Tryz.func138 [sI x] [sI 2,uR (x / 2) (x%2) 0,sV (.int .i64 0)] (.cons Ha .nil) (rs:=[cl 1 10 [.v false [.lit (.int .i64 2)]],cl 2 44 [ag 2 0,ag 2 1],cl 3 46 [.v true [.an 2 2,.an 2 3]]]) (out := .v false [.lit (.bool true)]) (nc:=4) (by kernel_rfl)
    ⟨fun σ W g h hb=>B8 W 2 (by omega) (by omega),
    fun σ W g h hb=>sJ (U1 W _ _ x 2 K (h 0 rfl) (h 1 rfl) (by omega) la hb2 (by omega)) rfl,
    fun σ W g h hb=>toV (D5 W _ _ K (iiE2 (h 2 rfl)) (by omega) hbr) (by rw [h1];rfl),
    trivial⟩ fun τ W g h=>⟨rfl,g⟩
 · skip
   rw [decide_eq_false h1]
   refine A6 B5 Tryz.func138 [sI x] [sI 2,uR (x / 2) (x%2) 0,sV (.int .i64 1)] (.cons Ha .nil) (rs:=[cl 1 10 [.v false [.lit (.int .i64 2)]],cl 2 44 [ag 2 0,ag 2 1],cl 3 46 [.v true [.an 2 2,.an 2 3]]]) (out := .v false [.lit (.bool false)]) (nc:=4) (by kernel_rfl)
    ⟨fun σ W g h hb=>B8 W 2 (by omega) (by omega),
    fun σ W g h hb=>sJ (U1 W _ _ x 2 K (h 0 rfl) (h 1 rfl) (by omega) la hb2 (by omega)) rfl,
    fun σ W g h hb=>toV (D5 W _ _ K (iiE2 (h 2 rfl)) (by omega) hbr) (by rw [Int.sign_eq_one_of_pos (by omega)]),
    trivial⟩ fun τ W g h=>⟨rfl,g⟩
theorem uC (w:World) (va:Value) (r:Rat) (K:Nat) (Ha:RatV w va r) (hK : 1<=K/\K<=400000) (ln:r.num.natAbs<B^K) (ld:r.den<B^K) :
 Calls Tryz.prog 89 #[va] w (E4 w (M0 r)):=by
 obtain ⟨q,hq⟩:∃ q,r.num / (r.den:Int)=q:=⟨_,rfl⟩
 have hqb:q.natAbs<B^K:=by rw [<- hq];exact Nat.lt_of_le_of_lt (Int.natAbs_ediv_le_natAbs _ _) ln
 have hrb:(r.num%(r.den:Int)).natAbs<B^K:=by
  have h1:=r.den_pos
  have h2:=Int.emod_nonneg r.num (show (r.den:Int)≠0 by omega)
  have h3:=Int.emod_lt_of_pos r.num (show (0:Int)<(r.den:Int) by omega)
  omega
 have h1b:(1:Int).natAbs<B^K:=Nat.lt_of_lt_of_le (show 1<B^1 by unfold B;omega) (Nat.pow_le_pow_right D6 hK.1)
 have hcc:J8 (r.num%(r.den:Int)+r.num%(r.den:Int)) (r.den:Int) = -1\/J8 (r.num%(r.den:Int)+r.num%(r.den:Int)) (r.den:Int)=1\/J8 (r.num%(r.den:Int)+r.num%(r.den:Int)) (r.den:Int)=0:=by
  unfold J8;split
  · left;rfl
  · split
    · right;right;rfl
    · right;left;rfl
 unfold M0
 rw [hq]
 have h4:J8 (r.num%(r.den:Int)+r.num%(r.den:Int)) (r.den:Int) = -1\/J8 (r.num%(r.den:Int)+r.num%(r.den:Int)) (r.den:Int)=1\/(J8 (r.num%(r.den:Int)+r.num%(r.den:Int)) (r.den:Int)=0/\q%2=0)\/(J8 (r.num%(r.den:Int)+r.num%(r.den:Int)) (r.den:Int)=0 /\ ¬ q%2=0):=by omega
 rcases h4 with hc | hc | ⟨hc,h2⟩ | ⟨hc,h2⟩
 · skip
   rw [if_pos hc]
   refine A6 B5 Tryz.func89 [sQ r] [sII q (r.num%r.den),sI 1,sI (q+1),sI (r.num%r.den+r.num%r.den),sI r.den,sV (.int .i64 (-1))] (.cons Ha .nil) (rs:=[cl 1 132 [ag 4 0],cl 2 10 [.v false [.lit (.int .i64 1)]],cl 3 45 [ag 2 1,ag 2 2],cl 4 45 [.v true [.an 1 2,.an 1 3],.v true [.an 1 2,.an 1 3]],cl 5 99 [ag 4 0],cl 6 18 [ag 2 4,ag 2 5]]) (out:=ag 2 1) (nc:=7) (by kernel_rfl)
    ⟨fun σ W g h hb=>hq ▸ toII (aN W _ r K (h 0 rfl) hK.2 ln ld),
    fun σ W g h hb=>B8 W 1 (by omega) (by omega),
    fun σ W g h hb=>F6 W _ _ q 1 K (ii1 (h 1 rfl)) (h 2 rfl) (by omega) hqb h1b,
    fun σ W g h hb=>F6 W _ _ _ _ K (ii2 (h 1 rfl)) (ii2 (h 1 rfl)) (by omega) hrb hrb,
    fun σ W g h hb=>F0 W _ r K (h 0 rfl) (by omega) ld,
    fun σ W g h hb=>toV (L8 W _ _ _ _ (K+1) (h 4 rfl) (h 5 rfl) (by omega) (jY hrb hrb) (fbw (ldi ld) (by omega))) (by rw [hc]),
    trivial⟩ fun τ W g h=>⟨_,rfl,ii1 (h 1 rfl),g⟩
 · skip
   rw [if_neg (by omega),if_pos hc]
   refine A6 B5 Tryz.func89 [sQ r] [sII q (r.num%r.den),sI 1,sI (q+1),sI (r.num%r.den+r.num%r.den),sI r.den,sV (.int .i64 1)] (.cons Ha .nil) (rs:=[cl 1 132 [ag 4 0],cl 2 10 [.v false [.lit (.int .i64 1)]],cl 3 45 [ag 2 1,ag 2 2],cl 4 45 [.v true [.an 1 2,.an 1 3],.v true [.an 1 2,.an 1 3]],cl 5 99 [ag 4 0],cl 6 18 [ag 2 4,ag 2 5]]) (out:=ag 2 3) (nc:=7) (by kernel_rfl)
    ⟨fun σ W g h hb=>hq ▸ toII (aN W _ r K (h 0 rfl) hK.2 ln ld),
    fun σ W g h hb=>B8 W 1 (by omega) (by omega),
    fun σ W g h hb=>F6 W _ _ q 1 K (ii1 (h 1 rfl)) (h 2 rfl) (by omega) hqb h1b,
    fun σ W g h hb=>F6 W _ _ _ _ K (ii2 (h 1 rfl)) (ii2 (h 1 rfl)) (by omega) hrb hrb,
    fun σ W g h hb=>F0 W _ r K (h 0 rfl) (by omega) ld,
    fun σ W g h hb=>toV (L8 W _ _ _ _ (K+1) (h 4 rfl) (h 5 rfl) (by omega) (jY hrb hrb) (fbw (ldi ld) (by omega))) (by rw [hc]),
    trivial⟩ fun τ W g h=>⟨_,rfl,h 3 rfl,g⟩
 · skip
   rw [if_neg (by omega),if_neg (by omega),if_pos h2]
   refine A6 B5 Tryz.func89 [sQ r] [sII q (r.num%r.den),sI 1,sI (q+1),sI (r.num%r.den+r.num%r.den),sI r.den,sV (.int .i64 0),sV (.bool true)] (.cons Ha .nil) (rs:=[cl 1 132 [ag 4 0],cl 2 10 [.v false [.lit (.int .i64 1)]],cl 3 45 [ag 2 1,ag 2 2],cl 4 45 [.v true [.an 1 2,.an 1 3],.v true [.an 1 2,.an 1 3]],cl 5 99 [ag 4 0],cl 6 18 [ag 2 4,ag 2 5],cl 7 138 [ag 2 1]]) (out:=ag 2 1) (nc:=8) (by kernel_rfl)
    ⟨fun σ W g h hb=>hq ▸ toII (aN W _ r K (h 0 rfl) hK.2 ln ld),
    fun σ W g h hb=>B8 W 1 (by omega) (by omega),
    fun σ W g h hb=>F6 W _ _ q 1 K (ii1 (h 1 rfl)) (h 2 rfl) (by omega) hqb h1b,
    fun σ W g h hb=>F6 W _ _ _ _ K (ii2 (h 1 rfl)) (ii2 (h 1 rfl)) (by omega) hrb hrb,
    fun σ W g h hb=>F0 W _ r K (h 0 rfl) (by omega) ld,
    fun σ W g h hb=>toV (L8 W _ _ _ _ (K+1) (h 4 rfl) (h 5 rfl) (by omega) (jY hrb hrb) (fbw (ldi ld) (by omega))) (by rw [hc]),
    fun σ W g h hb=>toV (uE W _ q K (ii1 (h 1 rfl)) ⟨hK.1,by omega⟩ hqb) (by rw [decide_eq_true h2]),
    trivial⟩ fun τ W g h=>⟨_,rfl,ii1 (h 1 rfl),g⟩
 · skip
   rw [if_neg (by omega),if_neg (by omega),if_neg h2]
   refine A6 B5 Tryz.func89 [sQ r] [sII q (r.num%r.den),sI 1,sI (q+1),sI (r.num%r.den+r.num%r.den),sI r.den,sV (.int .i64 0),sV (.bool false)] (.cons Ha .nil) (rs:=[cl 1 132 [ag 4 0],cl 2 10 [.v false [.lit (.int .i64 1)]],cl 3 45 [ag 2 1,ag 2 2],cl 4 45 [.v true [.an 1 2,.an 1 3],.v true [.an 1 2,.an 1 3]],cl 5 99 [ag 4 0],cl 6 18 [ag 2 4,ag 2 5],cl 7 138 [ag 2 1]]) (out:=ag 2 3) (nc:=8) (by kernel_rfl)
    ⟨fun σ W g h hb=>hq ▸ toII (aN W _ r K (h 0 rfl) hK.2 ln ld),
    fun σ W g h hb=>B8 W 1 (by omega) (by omega),
    fun σ W g h hb=>F6 W _ _ q 1 K (ii1 (h 1 rfl)) (h 2 rfl) (by omega) hqb h1b,
    fun σ W g h hb=>F6 W _ _ _ _ K (ii2 (h 1 rfl)) (ii2 (h 1 rfl)) (by omega) hrb hrb,
    fun σ W g h hb=>F0 W _ r K (h 0 rfl) (by omega) ld,
    fun σ W g h hb=>toV (L8 W _ _ _ _ (K+1) (h 4 rfl) (h 5 rfl) (by omega) (jY hrb hrb) (fbw (ldi ld) (by omega))) (by rw [hc]),
    fun σ W g h hb=>toV (uE W _ q K (ii1 (h 1 rfl)) ⟨hK.1,by omega⟩ hqb) (by rw [decide_eq_false h2]),
    trivial⟩ fun τ W g h=>⟨_,rfl,h 3 rfl,g⟩
end Go.Proofs.YtdgdmicbbfoghaaGreatDoor
namespace Go.Proofs.YtdgdmicbbfoghaaGreatDoor
abbrev Sq:=Nat->Rat
def SPos (f:Sq):Prop:=∃ e:Rat,0<e /\ ∃ K:Nat,∀ k,K<=k->e<=f k
def SNull (f:Sq):Prop:=∀ e:Rat,0<e -> ∃ K:Nat,∀ k,K<=k->f k<=e /\ -e<=f k
def SCau (f:Sq):Prop:=∀ e:Rat,0<e -> ∃ K:Nat,∀ j k,K<=j->K<=k->f j-f k<=e
def SBd (f:Sq):Prop:=∃ M:Rat,0<M /\ ∃ K:Nat,∀ k,K<=k->f k<=M /\ -M<=f k
theorem L5 {e:Rat} (h : 0<e) : 0<e / 2:=by grind
theorem SPos.congr {f g:Sq} (h:SPos f) (hn:SNull (fun k=>f k-g k)):SPos g:=by
 obtain ⟨e,he,K,hK⟩:=h
 obtain ⟨L,hL⟩:=hn (e / 2) (L5 he)
 refine ⟨e / 2,L5 he,K+L,fun k hk=>?_⟩
 have h1:=hK k (by omega)
 have h2:=(hL k (by omega)).1
 grind
theorem SPos.add {f g:Sq} (h:SPos f) (hg:SPos g):SPos (fun k=>f k+g k):=by
 obtain ⟨e,he,K,hK⟩:=h
 obtain ⟨d,hd,L,hL⟩:=hg
 refine ⟨e,he,K+L,fun k hk=>?_⟩
 have h1:=hK k (by omega)
 have h2:=hL k (by omega)
 grind
theorem SPos.mul {f g:Sq} (h:SPos f) (hg:SPos g):SPos (fun k=>f k*g k):=by
 obtain ⟨e,he,K,hK⟩:=h
 obtain ⟨d,hd,L,hL⟩:=hg
 refine ⟨e*d,Rat.mul_pos he hd,K+L,fun k hk=>?_⟩
 have h1:=hK k (by omega)
 have h2:=hL k (by omega)
 have h3:=Rat.mul_le_mul_of_nonneg_right h1 (Rat.le_of_lt hd)
 have h4:=Rat.mul_le_mul_of_nonneg_left h2 (c:=f k) (by grind)
 grind
theorem SPos.not_null {f:Sq} (h:SPos f):¬ SNull f:=by
 intro hn
 obtain ⟨e,he,K,hK⟩:=h
 obtain ⟨L,hL⟩:=hn (e / 2) (L5 he)
 have h1:=hK (K+L) (by omega)
 have h2:=(hL (K+L) (by omega)).1
 grind
theorem SPos.not_neg {f:Sq} (h:SPos f):¬ SPos (fun k => -f k):=by
 intro hn
 obtain ⟨e,he,K,hK⟩:=h
 obtain ⟨d,hd,L,hL⟩:=hn
 have h1:=hK (K+L) (by omega)
 have h2:=hL (K+L) (by omega)
 grind
theorem SNull.neg {f:Sq} (h:SNull f):SNull (fun k => -f k):=by
 intro e he
 obtain ⟨L,hL⟩:=h e he
 refine ⟨L,fun k hk=>?_⟩
 have:=hL k hk
 grind
theorem SNull.add {f g:Sq} (h:SNull f) (hg:SNull g):SNull (fun k=>f k+g k):=by
 intro e he
 obtain ⟨L,hL⟩:=h (e / 2) (L5 he)
 obtain ⟨K,hK⟩:=hg (e / 2) (L5 he)
 refine ⟨K+L,fun k hk=>?_⟩
 have:=hL k (by omega)
 have:=hK k (by omega)
 grind
theorem oT {x y M e:Rat} (hM : 0<M) (h1:x<=e) (h2 : -e<=x) (h3:y<=M) (h4 : -M<=y):x*y<=e*M /\ -(e*M)<=x*y:=by
 have a1:=Rat.mul_nonneg (a:=e-x) (b:=M+y) (by grind) (by grind)
 have a2:=Rat.mul_nonneg (a:=e+x) (b:=M-y) (by grind) (by grind)
 have a3:=Rat.mul_nonneg (a:=e-x) (b:=M-y) (by grind) (by grind)
 have a4:=Rat.mul_nonneg (a:=e+x) (b:=M+y) (by grind) (by grind)
 constructor<;>grind
theorem SNull.mul {f g:Sq} (h:SNull f) (hg:SBd g):SNull (fun k=>f k*g k):=by
 obtain ⟨M,hM,K,hK⟩:=hg
 intro e he
 obtain ⟨L,hL⟩:=h (e / M) (by rw [Rat.div_def];exact Rat.mul_pos he (Rat.inv_pos.2 hM))
 refine ⟨K+L,fun k hk=>?_⟩
 have h1:=hL k (by omega)
 have h2:=hK k (by omega)
 have h3:=oT hM h1.1 h1.2 h2.1 h2.2
 rw [Rat.div_mul_cancel (show M≠0 by grind)] at h3
 exact h3
theorem SCau.bd {f:Sq} (h:SCau f):SBd f:=by
 obtain ⟨K,hK⟩:=h 1 (by decide)
 refine ⟨(if f K<0 then -f K else f K)+1,by split<;>grind,K,fun k hk=>?_⟩
 have h1:=hK k K hk (Nat.le_refl _)
 have h2:=hK K k (Nat.le_refl _) hk
 split<;>grind
theorem SCau.const (q:Rat):SCau (fun _=>q):=fun e he=>⟨0,fun _ _ _ _=>by grind⟩
theorem SCau.neg {f:Sq} (h:SCau f):SCau (fun k => -f k):=by
 intro e he
 obtain ⟨K,hK⟩:=h e he
 exact ⟨K,fun j k hj hk=>by have:=hK k j hk hj;grind⟩
theorem SCau.add {f g:Sq} (h:SCau f) (hg:SCau g):SCau (fun k=>f k+g k):=by
 intro e he
 obtain ⟨L,hL⟩:=h (e / 2) (L5 he)
 obtain ⟨K,hK⟩:=hg (e / 2) (L5 he)
 refine ⟨K+L,fun j k hj hk=>?_⟩
 have:=hL j k (by omega) (by omega)
 have:=hK j k (by omega) (by omega)
 grind
theorem SCau.mul {f g:Sq} (h:SCau f) (hg:SCau g):SCau (fun k=>f k*g k):=by
 obtain ⟨M,hM,K1,hK1⟩:=h.bd
 obtain ⟨N,hN,K2,hK2⟩:=hg.bd
 intro e he
 have hd:∀ {x:Rat},0<x->0<e / 2 / x:=fun hx=>by rw [Rat.div_def];exact Rat.mul_pos (L5 he) (Rat.inv_pos.2 hx)
 obtain ⟨L,hL⟩:=h (e / 2 / N) (hd hN)
 obtain ⟨K,hK⟩:=hg (e / 2 / M) (hd hM)
 refine ⟨K1+K2+K+L,fun j k hj hk=>?_⟩
 have a1:=hL j k (by omega) (by omega)
 have a2:=hL k j (by omega) (by omega)
 have b1:=hK j k (by omega) (by omega)
 have b2:=hK k j (by omega) (by omega)
 have c1:=hK1 k (by omega)
 have c2:=hK2 j (by omega)
 have d1:=(oT hN a1 (show -(e / 2 / N)<=f j-f k by grind) c2.1 c2.2).1
 have d2:=(oT hM b1 (show -(e / 2 / M)<=g j-g k by grind) c1.1 c1.2).1
 rw [Rat.div_mul_cancel (show N≠0 by grind)] at d1
 rw [Rat.div_mul_cancel (show M≠0 by grind)] at d2
 grind
theorem SCau.tri {f:Sq} (h:SCau f):SPos f\/SPos (fun k => -f k)\/SNull f:=by
 by_cases hn:SNull f
 · exact Or.inr (Or.inr hn)
 · have ⟨e,he,hx⟩:∃ e:Rat,0<e /\ ∀ K:Nat,∃ k,K<=k /\ ¬ (f k<=e /\ -e<=f k):=by
    apply Classical.byContradiction
    intro hc
    apply hn
    intro e he
    apply Classical.byContradiction
    intro hK
    exact hc ⟨e,he,fun K=>Classical.byContradiction fun hk=>hK ⟨K,fun k hk2=>Classical.byContradiction fun h3=>hk ⟨k,hk2,h3⟩⟩⟩
   obtain ⟨K,hK⟩:=h (e / 2) (L5 he)
   obtain ⟨k,hk,hx⟩:=hx K
   by_cases h1:f k<=e
   · right;left
     refine ⟨e / 2,L5 he,K,fun j hj=>?_⟩
     have:=hK j k hj hk
     have:¬ -e<=f k:=fun h2=>hx ⟨h1,h2⟩
     grind
   · left
     refine ⟨e / 2,L5 he,K,fun j hj=>?_⟩
     have:=hK k j hk hj
     grind
open Classical in
noncomputable def rs (f:Sq):Int:=if SPos f then 1 else if SPos (fun k => -f k) then -1 else 0
theorem M6 {f:Sq} (h:SPos f):rs f=1:=by unfold rs;rw [if_pos h]
theorem M8 {f:Sq} (h:SPos (fun k => -f k)):rs f = -1:=by
 unfold rs
 rw [if_neg (fun h1=>h1.not_neg h),if_pos h]
theorem M7 {f:Sq} (h:SNull f):rs f=0:=by
 unfold rs
 rw [if_neg (fun h1=>h1.not_null h),if_neg (fun h1=>h1.not_null h.neg)]
theorem Y6 {f:Sq} (h:rs f=1):SPos f:=by
 unfold rs at h
 split at h
 · assumption
 · split at h<;>simp at h
theorem bO {f:Sq} (h:rs f = -1):SPos (fun k => -f k):=by
 unfold rs at h
 split at h
 · simp at h
 · split at h
   · assumption
   · simp at h
theorem M9 {f:Sq} (hc:SCau f) (h:rs f=0):SNull f:=by
 rcases hc.tri with h1 | h1 | h1
 · rw [M6 h1] at h;simp at h
 · rw [M8 h1] at h;simp at h
 · exact h1
theorem X4 (f:Sq):rs f=1\/rs f = -1\/rs f=0:=by
 unfold rs
 split
 · exact Or.inl rfl
 · split
   · exact Or.inr (Or.inl rfl)
   · exact Or.inr (Or.inr rfl)
theorem neg_neg_sq (f:Sq):(fun k => - -f k)=f:=by funext k;grind
theorem uU {f:Sq} (hc:SCau f):rs (fun k => -f k) = -rs f:=by
 rcases hc.tri with h1 | h1 | h1
 · rw [M6 h1,M8 (by rw [neg_neg_sq];exact h1)]
 · rw [M6 h1,M8 h1];rfl
 · rw [M7 h1,M7 h1.neg];rfl
theorem U8 {f g:Sq} (hc:SCau f) (hn:SNull (fun k=>f k-g k)):rs g=rs f:=by
 rcases hc.tri with h1 | h1 | h1
 · rw [M6 h1,M6 (h1.congr hn)]
 · rw [M8 h1,M8 (h1.congr (by have:=hn.neg;have e:(fun k => -f k - -g k)=(fun k => -(f k-g k)):=by funext k;grind
                              rw [e];exact this))]
 · rw [M7 h1,M7 (by have:=(hn.neg).add h1;have e:(fun k => -(f k-g k)+f k)=g:=by funext k;grind
                    rw [e] at this;exact this)]
theorem iA {f g:Sq} (hf:SCau f) (hg:SCau g):rs (fun k=>f k*g k)=rs f*rs g:=by
 rcases hf.tri with h1 | h1 | h1
 · rcases hg.tri with h2 | h2 | h2
   · rw [M6 h1,M6 h2,M6 (h1.mul h2)];rfl
   · rw [M6 h1,M8 h2,M8 (by have:=h1.mul h2;have e:(fun k=>f k * -g k)=(fun k => -(f k*g k)):=by funext k;grind
                            rw [e] at this;exact this)];rfl
   · rw [M7 h2,Int.mul_zero,M7 (by have:=h2.mul hf.bd;have e:(fun k=>g k*f k)=(fun k=>f k*g k):=by funext k;grind
                                   rw [e] at this;exact this)]
 · rcases hg.tri with h2 | h2 | h2
   · rw [M8 h1,M6 h2,M8 (by have:=h1.mul h2;have e:(fun k => -f k*g k)=(fun k => -(f k*g k)):=by funext k;grind
                            rw [e] at this;exact this)];rfl
   · rw [M8 h1,M8 h2,M6 (by have:=h1.mul h2;have e:(fun k => -f k * -g k)=(fun k=>(f k*g k)):=by funext k;grind
                            rw [e] at this;exact this)];rfl
   · rw [M7 h2,Int.mul_zero,M7 (by have:=h2.mul hf.bd;have e:(fun k=>g k*f k)=(fun k=>f k*g k):=by funext k;grind
                                   rw [e] at this;exact this)]
 · rw [M7 h1,Int.zero_mul,M7 (h1.mul hg.bd)]
theorem O8 (q:Rat):rs (fun _=>q)=q.num.sign:=by
 rcases Int.lt_trichotomy q.num 0 with h | h | h
 · have h1:q<0:=by
    apply Classical.byContradiction;intro h1
    have:=Rat.num_nonneg.2 (show 0<=q by grind);omega
   rw [M8 ⟨-q,by grind,0,fun _ _=>by grind⟩,Int.sign_eq_neg_one_of_neg h]
 · rw [M7 (by rw [Rat.num_eq_zero.1 h];exact fun e he=>⟨0,fun _ _=>by grind⟩),h];rfl
 · have h1 : 0<q:=by
    apply Classical.byContradiction;intro h1
    have h2:=Rat.num_nonneg.1 (Int.le_of_lt h)
    have h3:q=0:=by grind
    rw [h3] at h;exact absurd h (by decide)
   rw [M6 ⟨q,h1,0,fun _ _=>by grind⟩,Int.sign_eq_one_of_pos h]
theorem rs_mono {f g:Sq} (hf:SCau f) (hg:SCau g) (h:∀ k,f k<=g k):rs f<=rs g:=by
 have a2:=X4 g
 rcases X4 f with h1 | h1 | h1
 · obtain ⟨e,he,K,hK⟩:=Y6 h1
   rw [h1,M6 ⟨e,he,K,fun k hk=>Rat.le_trans (hK k hk) (h k)⟩]
   exact Int.le_refl _
 · rw [h1];omega
 · have:rs g ≠ -1:=by
    intro h2
    obtain ⟨e,he,K,hK⟩:=bO h2
    have:=M8 (f:=f) ⟨e,he,K,fun k hk=>by have:=hK k hk;have:=h k;grind⟩
    omega
   omega
theorem oM (n:Nat):∃ r:Nat,r*r<=n/\n<(r+1)*(r+1):=by
 induction n with
 | zero=>exact ⟨0,by simp,by simp⟩
 | succ n ih=>
   obtain ⟨r,h1,h2⟩:=ih
   by_cases h:n+1<(r+1)*(r+1)
   · exact ⟨r,by omega,h⟩
   · refine ⟨r+1,by omega, ?_⟩
     have:n+1=(r+1)*(r+1):=by omega
     rw [this]
     exact Nat.mul_lt_mul_of_lt_of_le (Nat.lt_succ_self _) (Nat.le_succ _) (by omega)
noncomputable def T4 (n:Nat):Nat:=Classical.choose (oM n)
theorem dY (n:Nat):T4 n*T4 n<=n:=(Classical.choose_spec (oM n)).1
theorem pM (n:Nat):n<(T4 n+1)*(T4 n+1):=(Classical.choose_spec (oM n)).2
def dG (k:Nat):Rat:=((2^k:Nat):Rat)⁻¹
theorem stwo_pos (k:Nat):(0:Rat)<((2^k:Nat):Rat):=Rat.natCast_pos.2 (Nat.pow_pos (by omega))
theorem P4 (k:Nat) : 0<dG k:=Rat.inv_pos.2 (stwo_pos k)
theorem fJ (k:Nat):dG k*((2^k:Nat):Rat)=1:=Rat.inv_mul_cancel _ (by have:=stwo_pos k;grind)
theorem lZ {e:Rat} (h : 0<e):∃ K,∀ k,K<=k->dG k<=e:=by
 refine ⟨e.den,fun k hk=>?_⟩
 have h1:e.den<2^k:=Nat.lt_of_le_of_lt hk Nat.lt_two_pow_self
 have h2:((e.den:Nat):Rat)<=((2^k:Nat):Rat):=Rat.natCast_le_natCast.2 (Nat.le_of_lt h1)
 have h3:(0:Rat)<(e.den:Rat):=Rat.natCast_pos.2 e.den_pos
 have h4:e*(e.den:Rat)=(e.num:Rat):=by
  have h9:Rat.divInt e.num (e.den:Int)=e:=Rat.num_divInt_den e
  rw [Rat.divInt_eq_div] at h9
  have h10:((e.den:Int):Rat)=(e.den:Rat):=rfl
  rw [h10] at h9
  conv=>lhs;lhs;rw [<- h9]
  exact Rat.div_mul_cancel (by grind)
 have h5:(1:Rat)<=(e.num:Rat):=by
  have:(1:Int)<=e.num:=by
   have h6 : 0<=e.num:=Rat.num_nonneg.2 (Rat.le_of_lt h)
   have h7:e.num≠0:=fun h8=>by rw [Rat.num_eq_zero.1 h8] at h;exact absurd h (by decide)
   omega
  exact Rat.intCast_le_intCast.2 this
 have h6:=Rat.mul_le_mul_of_nonneg_left h2 (Rat.le_of_lt h)
 have h7:=fJ k
 have h8:=Rat.mul_le_mul_of_nonneg_right (show (1:Rat)<=e*((2^k:Nat):Rat) by rw [h4] at h6;exact Rat.le_trans h5 h6) (Rat.le_of_lt (P4 k))
 rw [Rat.mul_assoc,Rat.mul_comm ((2^k:Nat):Rat) (dG k),h7] at h8
 grind
noncomputable def rt (n:Nat):Sq:=fun k=>(T4 (n*4^k):Rat)*dG k
theorem fL (n k:Nat) : 0<=rt n k:=Rat.mul_nonneg Rat.natCast_nonneg (Rat.le_of_lt (P4 k))
theorem fI (k:Nat) : 4^k=2^k*2^k:=by rw [<- Nat.mul_pow]
theorem rt_le (n k:Nat):rt n k*rt n k<=(n:Rat):=by
 have h:=Rat.natCast_le_natCast.2 (dY (n*4^k))
 rw [fI] at h
 have h1:=fJ k
 have h2:=Rat.mul_nonneg (Rat.le_of_lt (P4 k)) (Rat.le_of_lt (P4 k))
 have h3:=Rat.mul_le_mul_of_nonneg_right h h2
 unfold rt
 rw [fI]
 simp only [Rat.natCast_mul] at h3 ⊢
 generalize ((2^k:Nat):Rat)=t at *
 generalize dG k=f at *
 rw [show (n:Rat)*(t*t)*(f*f)=(n:Rat)*((f*t)*(f*t)) by grind,h1] at h3
 generalize ((T4 (n*(2^k*2^k)):Nat):Rat)=z at *
 have e1:(((1:Nat):Rat))=1:=rfl
 try rw [e1] at h3
 grind
theorem rt_lt (n k:Nat):(n:Rat)<(rt n k+dG k)*(rt n k+dG k):=by
 have h:=Rat.natCast_lt_natCast.2 (pM (n*4^k))
 rw [fI] at h
 have h1:=fJ k
 have h2:=Rat.mul_pos (P4 k) (P4 k)
 have h3:=Rat.mul_lt_mul_of_pos_right h h2
 unfold rt
 rw [fI]
 simp only [Rat.natCast_mul,Rat.natCast_add] at h3 ⊢
 generalize ((2^k:Nat):Rat)=t at *
 generalize dG k=f at *
 rw [show (n:Rat)*(t*t)*(f*f)=(n:Rat)*((f*t)*(f*t)) by grind,h1] at h3
 generalize ((T4 (n*(2^k*2^k)):Nat):Rat)=z at *
 have e1:(((1:Nat):Rat))=1:=rfl
 try rw [e1] at h3
 grind
theorem ssq_lt {x y:Rat} (hy : 0<=y) (hx : 0<=x) (h:x*x<y*y):x<y:=by
 apply Classical.byContradiction
 intro h1
 have h2:y<=x:=by grind
 have h3:=Rat.mul_le_mul_of_nonneg_left h2 hx
 have h4:=Rat.mul_le_mul_of_nonneg_right h2 hy
 grind
theorem rt_near (n j k:Nat):rt n j<rt n k+dG k:=
 ssq_lt (by have:=fL n k;have:=P4 k;grind) (fL n j) (by have:=rt_le n j;have:=rt_lt n k;grind)
theorem P6 (n:Nat):SCau (rt n):=by
 intro e he
 obtain ⟨K,hK⟩:=lZ he
 exact ⟨K,fun j k _ hk=>by have:=rt_near n j k;have:=hK k hk;grind⟩
theorem rt_bd (n k:Nat):rt n k<(n:Rat)+1:=
 ssq_lt (by have:(0:Rat)<=(n:Rat):=Rat.natCast_nonneg;grind) (fL n k) (by
  have h:=rt_le n k
  have h1:(0:Rat)<=(n:Rat):=Rat.natCast_nonneg
  have h2:=Rat.mul_nonneg h1 h1
  grind)
theorem sfine_le (k:Nat):dG k<=1:=by
 have h:=fJ k
 have h1:(1:Rat)<=((2^k:Nat):Rat):=Rat.natCast_le_natCast.2 (show 1<=2^k from Nat.pow_pos (by omega))
 have h2:=Rat.mul_le_mul_of_nonneg_left h1 (Rat.le_of_lt (P4 k))
 grind
theorem jF (n:Nat):SNull (fun k=>rt n k*rt n k-(n:Rat)):=by
 intro e he
 have hn:(0:Rat)<=(n:Rat):=Rat.natCast_nonneg
 have hM:(0:Rat)<2*(n:Rat)+3:=by grind
 obtain ⟨K,hK⟩:=lZ (e:=e / (2*(n:Rat)+3)) (by rw [Rat.div_def];exact Rat.mul_pos he (Rat.inv_pos.2 hM))
 refine ⟨K,fun k hk=>⟨by have:=rt_le n k;grind, ?_⟩⟩
 have h1:=rt_lt n k
 have h2:=Rat.mul_le_mul_of_nonneg_right (hK k hk) (Rat.le_of_lt hM)
 rw [Rat.div_mul_cancel (show 2*(n:Rat)+3≠0 by grind)] at h2
 have h3:=Rat.mul_le_mul_of_nonneg_left (show 2*rt n k+dG k<=2*(n:Rat)+3 by have:=rt_bd n k;have:=sfine_le k;grind) (Rat.le_of_lt (P4 k))
 grind
theorem rs_rt (n:Nat):rs (rt n)=(n:Int).sign:=by
 have h:=iA (P6 n) (P6 n)
 have h1:=U8 ((P6 n).mul (P6 n)) (jF n)
 rw [h,O8] at h1
 have h2:=rs_mono (SCau.const 0) (P6 n) (fL n)
 rw [O8] at h2
 have h4:((n:Nat):Rat).num=(n:Int):=rfl
 rw [h4] at h1
 have h5:(0:Rat).num.sign=0:=rfl
 rw [h5] at h2
 rcases X4 (rt n) with h3 | h3 | h3
 · rw [h3] at h1 ⊢;rw [h1];rfl
 · omega
 · rw [h3] at h1 ⊢;rw [h1];rfl
def sos (x y z:Int):Int:=if x=0 then y else if y=0\/x=y then x else x*z
theorem rs_sum {f g:Sq} (hf:SCau f) (hg:SCau g):rs (fun k=>f k+g k)=sos (rs f) (rs g) (rs (fun k=>f k*f k-g k*g k)):=by
 unfold sos
 have hs:=hf.add hg
 by_cases h0:rs f=0
 · rw [if_pos h0]
   have h1:=(M9 hf h0).neg
   exact (U8 hs (g:=g) (by have e:(fun k=>f k+g k-g k)=(fun k => - -f k):=by funext k;grind
                           rw [e];exact h1.neg)).symm
 · rw [if_neg h0]
   by_cases h1:rs g=0
   · rw [if_pos (Or.inl h1)]
     have h2:=M9 hg h1
     exact (U8 hs (g:=f) (by have e:(fun k=>f k+g k-f k)=g:=by funext k;grind
                             rw [e];exact h2)).symm
   · by_cases h2:rs f=rs g
     · rw [if_pos (Or.inr h2)]
       rcases X4 f with h3 | h3 | h3
       · rw [h3,M6 ((Y6 h3).add (Y6 (h2.symm.trans h3)))]
       · rw [h3,M8 (by have:=(bO h3).add (bO (h2.symm.trans h3));have e:(fun k => -f k + -g k)=(fun k => -(f k+g k)):=by funext k;grind
                       rw [e] at this;exact this)]
       · exact absurd h3 h0
     · rw [if_neg (by intro h3;rcases h3 with h3 | h3;exact h1 h3;exact h2 h3)]
       have hd:rs (fun k=>f k + -g k)=rs f:=by
        rcases X4 f with h3 | h3 | h3
        · have h4:rs g = -1:=by rcases X4 g with h4 | h4 | h4<;>omega
          rw [h3];exact M6 ((Y6 h3).add (bO h4))
        · have h4:rs g=1:=by rcases X4 g with h4 | h4 | h4<;>omega
          rw [h3]
          exact M8 (by have:=(bO h3).add (Y6 h4);have e:(fun k => -f k+g k)=(fun k => -(f k + -g k)):=by funext k;grind
                       rw [e] at this;exact this)
        · exact absurd h3 h0
       have h5:=iA hs (hf.add hg.neg)
       rw [hd] at h5
       have e:(fun k=>(f k+g k)*(f k + -g k))=(fun k=>f k*f k-g k*g k):=by funext k;grind
       rw [e] at h5
       rw [h5]
       rcases X4 f with h3 | h3 | h3
       · rw [h3];omega
       · rw [h3];omega
       · exact absurd h3 h0
theorem rs_pair {p q b:Sq} {n:Nat} (hp:SCau p) (hq:SCau q) (hb:SCau b) (h2:SNull (fun k=>b k*b k-(n:Rat))) (hs:rs b=(n:Int).sign) :
 rs (fun k=>p k+q k*b k)=sos (rs p) (rs q*(n:Int).sign) (rs (fun k=>p k*p k-q k*q k*(n:Rat))):=by
 rw [rs_sum hp (hq.mul hb),iA hq hb,hs]
 congr 1
 refine U8 (f:=fun k=>p k*p k-q k*q k*(n:Rat)) ?_ ?_
 · have:=(hp.mul hp).add ((hq.mul hq).mul (SCau.const (-(n:Rat))))
   have e:(fun k=>p k*p k+q k*q k * -(n:Rat))=(fun k=>p k*p k-q k*q k*(n:Rat)):=by funext k;grind
   rw [e] at this;exact this
 · have:=h2.mul (hq.mul hq).bd
   have e:(fun k=>(b k*b k-(n:Rat))*(q k*q k))=(fun k=>p k*p k-q k*q k*(n:Rat)-(p k*p k-q k*b k*(q k*b k))):=by funext k;grind
   rw [e] at this;exact this
noncomputable def X9 (m n:Nat) (a b c d:Rat):Sq:=fun k=>(a+b*rt m k)+(c+d*rt m k)*rt n k
noncomputable def sg4 (m n:Nat) (a b c d:Rat):Int:=rs (X9 m n a b c d)
theorem jQ (m:Nat) (a b:Rat):SCau (fun k=>a+b*rt m k):=(SCau.const a).add ((SCau.const b).mul (P6 m))
theorem dN (m n:Nat) (a b c d:Rat):SCau (X9 m n a b c d):=(jQ m a b).add ((jQ m c d).mul (P6 n))
def psg (u v:Int) (m:Nat):Int:=sos u.sign (v.sign*(m:Int).sign) (u*u-v*v*m).sign
def ssg (m n:Nat) (a b c d:Int):Int:=
 sos (psg a b m) (psg c d m*(n:Int).sign) (psg ((a*a+b*b*m)-(c*c+d*d*m)*n) ((a*b+a*b)-(c*d+c*d)*n) m)
theorem fQ (z:Int):((z:Rat)).num=z:=rfl
theorem psg_rs (u v:Int) (m:Nat):rs (fun k=>(u:Rat)+(v:Rat)*rt m k)=psg u v m:=by
 have h:=rs_pair (p:=fun _=>(u:Rat)) (q:=fun _=>(v:Rat)) (b:=rt m) (n:=m) (SCau.const _) (SCau.const _) (P6 m) (jF m) (rs_rt m)
 rw [O8,O8,O8,fQ,fQ] at h
 rw [h]
 unfold psg
 have e:((u:Rat)*u-(v:Rat)*v*(m:Rat))=((u*u-v*v*m:Int):Rat):=by
  simp only [Rat.intCast_sub,Rat.intCast_mul,Rat.intCast_natCast]
 rw [e,fQ]
theorem ssg_rs (m n:Nat) (a b c d:Int):sg4 m n a b c d=ssg m n a b c d:=by
 unfold sg4 X9
 rw [rs_pair (n:=n) (jQ m a b) (jQ m c d) (P6 n) (jF n) (rs_rt n),psg_rs,psg_rs]
 unfold ssg
 congr 1
 rw [<- psg_rs]
 refine U8 (jQ m _ _) ?_
 have h:=(jF m).mul (SCau.const ((d:Rat)*d*(n:Rat)-(b:Rat)*b)).bd
 have e:(fun k=>(rt m k*rt m k-(m:Rat))*((d:Rat)*d*(n:Rat)-(b:Rat)*b))=(fun k=>(((a*a+b*b*(m:Int))-(c*c+d*d*(m:Int))*(n:Int):Int):Rat)+(((a*b+a*b)-(c*d+c*d)*(n:Int):Int):Rat)*rt m k-(((a:Rat)+b*rt m k)*(a+b*rt m k)-(c+d*rt m k)*(c+d*rt m k)*(n:Rat))):=by
  funext k
  simp only [Rat.intCast_sub,Rat.intCast_add,Rat.intCast_mul,Rat.intCast_natCast]
  grind
 rw [e] at h
 exact h
theorem kQ (m n:Nat) (a b c d:Rat) {s:Rat} (hs : 0<s):sg4 m n (a*s) (b*s) (c*s) (d*s)=sg4 m n a b c d:=by
 unfold sg4
 have h:=iA (dN m n a b c d) (SCau.const s)
 have h1:rs (fun _=>s)=1:=M6 ⟨s,hs,0,fun _ _=>Rat.le_refl⟩
 rw [h1,Int.mul_one] at h
 rw [<- h]
 congr 1
 funext k
 unfold X9
 grind
theorem aB (m n:Nat):sg4 m n 0 0 0 0=0:=by
 unfold sg4
 have e:X9 m n 0 0 0 0=(fun _=>(0:Rat)):=by funext k;unfold X9;grind
 rw [e,O8];rfl
theorem nJ (m n:Nat) (a:Rat):sg4 m n a 0 0 0=a.num.sign:=by
 unfold sg4
 have e:X9 m n a 0 0 0=(fun _=>a):=by funext k;unfold X9;grind
 rw [e,O8]
theorem sg4_tri (m n:Nat) (a b c d:Rat):sg4 m n a b c d=1\/sg4 m n a b c d = -1\/sg4 m n a b c d=0:=X4 _
theorem jB (m n:Nat) {a a':Rat} (b c d:Rat) (h:a<=a'):sg4 m n a b c d<=sg4 m n a' b c d:=
 rs_mono (dN _ _ _ _ _ _) (dN _ _ _ _ _ _) (fun k=>by unfold X9;grind)
theorem sg4_more (m n:Nat) {a a':Rat} (b c d:Rat) (h:a<a') (h0 : 0<=sg4 m n a b c d):sg4 m n a' b c d=1:=by
 have hs:SPos (fun _=>a'-a):=⟨a'-a,by grind,0,fun _ _=>Rat.le_refl⟩
 have e:X9 m n a' b c d=(fun k=>X9 m n a b c d k+(a'-a)):=by funext k;unfold X9;grind
 rcases sg4_tri m n a b c d with h1 | h1 | h1
 · have:=(Y6 h1).add hs
   unfold sg4;rw [e];exact M6 this
 · omega
 · have hn:=M9 (dN m n a b c d) h1
   unfold sg4;rw [e]
   refine M6 (hs.congr ?_)
   refine cast (congrArg SNull ?_) hn.neg
   funext k;grind
def SFloor (m n:Nat) (a b c d:Rat) (z:Int):Prop:=0<=sg4 m n (a-z) b c d/\sg4 m n (a-(z+1:Int)) b c d = -1
theorem SFloor.uniq {m n:Nat} {a b c d:Rat} {x y:Int} (h:SFloor m n a b c d x) (h':SFloor m n a b c d y):x=y:=by
 have key:∀ {x y:Int},SFloor m n a b c d x->SFloor m n a b c d y -> ¬ x<y:=by
  intro x y h h' hlt
  have h1:x+1<=y:=hlt
  have h2:=Rat.intCast_le_intCast.2 h1
  have h3:=jB m n b c d (show a-(y:Rat)<=a-((x+1:Int):Rat) by grind)
  have:=h.2;have:=h'.1
  omega
 have:=key h h';have:=key h' h;omega
end Go.Proofs.YtdgdmicbbfoghaaGreatDoor
