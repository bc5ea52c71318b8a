/- What the laws lean on, part 15. -/
import Derived.Below
import Derived.BigCall
import Derived.BigQuiet
import Derived.BigRegion
import Derived.Deep.AppendLies
import Derived.Deep.CutBlock
import Derived.Deep.CutRange
import Derived.Deep.DeepCutAuto
import Derived.Deep.DeepHandedRow
import Derived.Deep.LoopGhost
import Derived.Deep.MidRow
import Derived.Deep.QuietTactic
import Derived.Deep.RegionHeld3
import Derived.Deep.WholeRow
import Derived.Laws.AppendOwn
import Derived.Laws.Concat
import Derived.Laws.CopyOwn
import Derived.Laws.Externs
import Derived.Laws.IdiomStrings
import Derived.Lib.BitFns
import Derived.Lib.Bytealg
import Derived.Lib.Hide
import Derived.Lib.Slices
import Derived.Lib.Small
import Derived.Lib.Strings
import Derived.Lib.Walk
import Derived.LoopN
import Derived.OpenShut
import Derived.OrdersHeld
import Derived.Outline
import Derived.OwnWalk
import Derived.ProofKit
import Derived.Shelf.Bits.Mul64
import Derived.Shelf.Spec.TrailingZeros
import Derived.StillTailTactics
import Derived.WalkKit
import Derived.WalkLawsBesides
import Derived.WalkSpells
import Derived.Test.YtoaepibannfbdaaGreatDoorProg
import Derived.Test.YtoaepibannfbdaaGreatDoorRows
import Derived.Test.YtoaepibannfbdaaGreatDoorMr14
namespace Go.Proofs.YtoaepibannfbdaaGreatDoor
open Go.RowKit Mat Ex PM
set_option linter.unusedVariables false
set_option linter.unusedSimpArgs false
set_option maxRecDepth 100000
def One3 (a : Int) : Prop := a = -1 ∨ a = 0 ∨ a = 1
theorem mul3_told {t : TypeId} {a b : Int} (ha : One3 a) (hb : One3 b) : binOp .mul t (.int .i64 a) (.int .i64 b) = .pure (.int .i64 (a * b)) := by
  rcases ha with rfl | rfl | rfl <;> rcases hb with rfl | rfl | rfl <;> rfl
theorem gt_told {P : Program} {ρ : Operand → Value} {o : Oper} {t t' : TypeId} {x y : Operand} {a : Int} {W : World} (b : Bool) (ho : o.op = .binOp .gtr t x y t') (hx : ρ x = .int .i64 a) (hy : ρ y = .int .i64 0) (h : decide (0 < a) = b) : (execOp ρ o).run P W = .ok (.value (.bool b)) W :=
  bin_told ho hx hy (by rw [← h]; rfl)
theorem lt_told {P : Program} {ρ : Operand → Value} {o : Oper} {t t' : TypeId} {x y : Operand} {a : Int} {W : World} (b : Bool) (ho : o.op = .binOp .lss t x y t') (hx : ρ x = .int .i64 a) (hy : ρ y = .int .i64 0) (h : decide (a < 0) = b) : (execOp ρ o).run P W = .ok (.value (.bool b)) W :=
  bin_told ho hx hy (by rw [← h]; rfl)
theorem le_told {P : Program} {ρ : Operand → Value} {o : Oper} {t t' : TypeId} {x y : Operand} {a : Int} {W : World} (b : Bool) (ho : o.op = .binOp .leq t x y t') (hx : ρ x = .int .i64 a) (hy : ρ y = .int .i64 0) (h : decide (a ≤ 0) = b) : (execOp ρ o).run P W = .ok (.value (.bool b)) W :=
  bin_told ho hx hy (by rw [← h]; rfl)
theorem eq_told {P : Program} {ρ : Operand → Value} {o : Oper} {t t' : TypeId} {x y : Operand} {a c : Int} {W : World} (b : Bool) (ho : o.op = .binOp .eql t x y t') (hx : ρ x = .int .i64 a) (hy : ρ y = .int .i64 c) (h : decide (a = c) = b) : (execOp ρ o).run P W = .ok (.value (.bool b)) W :=
  bin_told ho hx hy (by rw [← h, show decide (a = c) = (a == c) from (Bool.beq_eq_decide_eq a c).symm]; rfl)
theorem ne_told {P : Program} {ρ : Operand → Value} {o : Oper} {t t' : TypeId} {x y : Operand} {a c : Int} {W : World} (b : Bool) (ho : o.op = .binOp .neq t x y t') (hx : ρ x = .int .i64 a) (hy : ρ y = .int .i64 c) (h : decide (a = c) = !b) : (execOp ρ o).run P W = .ok (.value (.bool b)) W :=
  bin_told ho hx hy (by rw [show b = !decide (a = c) by rw [h, Bool.not_not], show decide (a = c) = (a == c) from (Bool.beq_eq_decide_eq a c).symm]; rfl)
theorem b1int {n : Int} (h1 : -9223372036854775808 ≤ n) (h2 : n ≤ 9223372036854775807) : n.natAbs < B ^ 1 := by
  have : (18446744073709551616 : Nat) = B ^ 1 := by unfold B; decide
  omega
def sPI (x y : Int) : Sp := .of (.agg 2) (fun v _ => v = .agg #[.int .i64 x, .int .i64 y]) (fun v W h => ⟨cellf [.int .i64 x, .int .i64 y], cellf_one (by simp [Value.oneCell']), h⟩) (fun _ _ _ _ h => h)
theorem pi1 {x y : Int} {a b : Value} {W : World} : (sPI x y).F (.agg #[a, b]) W → a = .int .i64 x := fun h => by cases h; rfl
theorem pi2 {x y : Int} {a b : Value} {W : World} : (sPI x y).F (.agg #[a, b]) W → b = .int .i64 y := fun h => by cases h; rfl
def gridP (x y : Int) : Pq := ((x : Rat), (y : Rat))
theorem PWhole_any (w : World) (n : Int) (h1 : -9223372036854775808 ≤ n) (h2 : n ≤ 9223372036854775807) :
    Calls Tryz.prog 50 #[.int .i64 n] w (RetRat w (n : Rat)) := by
  refine exec_calls mixed Tryz.func50 [sZ n] [sI n, sQ (n : Rat)] (.cons rfl .nil) (rs := [cl 1 31 [on 0], cl 2 30 [ag 2 1]]) (out := ag 4 2) (nc := 3) (by kernel_rfl)
      ⟨fun σ W g h hb => arg1 (h 0 rfl) (ZOf_any W n h1 h2),
      fun σ W g h hb => FWholeOf_any W _ n 1 (h 1 rfl) (by omega) (b1int h1 h2),
      trivial⟩ fun τ W g h => ⟨_, rfl, h 2 rfl, g⟩
theorem PGrid_any (w : World) (x y : Int) (h1 : -9223372036854775808 ≤ x) (h2 : x ≤ 9223372036854775807) (h3 : -9223372036854775808 ≤ y) (h4 : y ≤ 9223372036854775807) :
    Calls Tryz.prog 43 #[.agg #[.int .i64 x, .int .i64 y]] w (RetPt w (gridP x y)) := by
  refine exec_calls mixed Tryz.func43 [sPI x y] [sQ (x : Rat), sQ (y : Rat)] (.cons rfl .nil) (rs := [cl 1 50 [on 0], cl 2 50 [.v false [.an 0 1]]]) (out := .v true [.an 1 0, .an 1 1, .an 1 2, .an 1 3, .an 2 0, .an 2 1, .an 2 2, .an 2 3]) (nc := 3) (by kernel_rfl)
      ⟨fun σ W g h hb => arg1 (pi1 (h 0 rfl)) (PWhole_any W x h1 h2),
      fun σ W g h hb => arg1 (pi2 (h 0 rfl)) (PWhole_any W y h3 h4),
      trivial⟩ fun τ W g h => ⟨_, rfl, mkpt (h 1 rfl) (h 2 rfl), g⟩
theorem PMinus_any (w : World) (va vb : Value) (p q : Pq) (K : Nat) (Ha : PtV w va p) (Hb : PtV w vb q) (hK : K ≤ 100000) (ba : Bp K p) (bb : Bp K q) (hTab : Tab w) :
    Calls Tryz.prog 107 #[va, vb] w (RetPt w (p.1 - q.1, p.2 - q.2)) := by
  refine exec_calls mixed Tryz.func107 [sPt p, sPt q] [sQ (p.1 - q.1), sQ (p.2 - q.2)] (.cons Ha (.cons Hb .nil)) (rs := [cl 2 75 [ag 4 0, ag 4 1], cl 3 75 [.v true [.an 0 4, .an 0 5, .an 0 6, .an 0 7], .v true [.an 1 4, .an 1 5, .an 1 6, .an 1 7]]]) (out := .v true [.an 2 0, .an 2 1, .an 2 2, .an 2 3, .an 3 0, .an 3 1, .an 3 2, .an 3 3]) (nc := 4) (by kernel_rfl)
      ⟨fun σ W g h hb => FSub_any W _ _ p.1 q.1 K (pt1 (h 0 rfl)) (pt1 (h 1 rfl)) (by omega) ba.1.1 ba.1.2 bb.1.1 bb.1.2 (hTab.kept g (by simp)),
      fun σ W g h hb => FSub_any W _ _ p.2 q.2 K (pt2 (h 0 rfl)) (pt2 (h 1 rfl)) (by omega) ba.2.1 ba.2.2 bb.2.1 bb.2.2 (hTab.kept g (by simp)),
      trivial⟩ fun τ W g h => ⟨_, rfl, mkpt (h 2 rfl) (h 3 rfl), g⟩
theorem PPlus_any (w : World) (va vb : Value) (p q : Pq) (K : Nat) (Ha : PtV w va p) (Hb : PtV w vb q) (hK : K ≤ 100000) (ba : Bp K p) (bb : Bp K q) (hTab : Tab w) :
    Calls Tryz.prog 129 #[va, vb] w (RetPt w (p.1 + q.1, p.2 + q.2)) := by
  refine exec_calls mixed Tryz.func129 [sPt p, sPt q] [sQ (p.1 + q.1), sQ (p.2 + q.2)] (.cons Ha (.cons Hb .nil)) (rs := [cl 2 37 [ag 4 0, ag 4 1], cl 3 37 [.v true [.an 0 4, .an 0 5, .an 0 6, .an 0 7], .v true [.an 1 4, .an 1 5, .an 1 6, .an 1 7]]]) (out := .v true [.an 2 0, .an 2 1, .an 2 2, .an 2 3, .an 3 0, .an 3 1, .an 3 2, .an 3 3]) (nc := 4) (by kernel_rfl)
      ⟨fun σ W g h hb => FAdd_any W _ _ p.1 q.1 K (pt1 (h 0 rfl)) (pt1 (h 1 rfl)) (by omega) ba.1.1 ba.1.2 bb.1.1 bb.1.2 (hTab.kept g (by simp)),
      fun σ W g h hb => FAdd_any W _ _ p.2 q.2 K (pt2 (h 0 rfl)) (pt2 (h 1 rfl)) (by omega) ba.2.1 ba.2.2 bb.2.1 bb.2.2 (hTab.kept g (by simp)),
      trivial⟩ fun τ W g h => ⟨_, rfl, mkpt (h 2 rfl) (h 3 rfl), g⟩
theorem PTimes_any (w : World) (va vb : Value) (p : Pq) (t : Rat) (K : Nat) (Ha : PtV w va p) (Hb : RatV w vb t) (hK : K ≤ 100000) (ba : Bp K p) (bb : Bn K t) (hTab : Tab w) :
    Calls Tryz.prog 130 #[va, vb] w (RetPt w (p.1 * t, p.2 * t)) := by
  refine exec_calls mixed Tryz.func130 [sPt p, sQ t] [sQ (p.1 * t), sQ (p.2 * t)] (.cons Ha (.cons Hb .nil)) (rs := [cl 2 34 [ag 4 0, ag 4 1], cl 3 34 [.v true [.an 0 4, .an 0 5, .an 0 6, .an 0 7], ag 4 1]]) (out := .v true [.an 2 0, .an 2 1, .an 2 2, .an 2 3, .an 3 0, .an 3 1, .an 3 2, .an 3 3]) (nc := 4) (by kernel_rfl)
      ⟨fun σ W g h hb => FMul_any W _ _ p.1 t K (pt1 (h 0 rfl)) (h 1 rfl) (by omega) ba.1.1 ba.1.2 bb.1 bb.2 (hTab.kept g (by simp)),
      fun σ W g h hb => FMul_any W _ _ p.2 t K (pt2 (h 0 rfl)) (h 1 rfl) (by omega) ba.2.1 ba.2.2 bb.1 bb.2 (hTab.kept g (by simp)),
      trivial⟩ fun τ W g h => ⟨_, rfl, mkpt (h 2 rfl) (h 3 rfl), g⟩
theorem add_nil (p : Pq) : ((p.1 + (0 : Rat), p.2 + (0 : Rat)) : Pq) = p := Prod.ext (Rat.add_zero _) (Rat.add_zero _)
theorem Bp.nil {K : Nat} (hK : 1 ≤ K) : Bp K ((0 : Rat), (0 : Rat)) := ⟨.zero hK, .zero hK⟩
theorem PFresh_any (w : World) (va : Value) (p : Pq) (K : Nat) (Ha : PtV w va p) (hK : 1 ≤ K ∧ K ≤ 100000) (ba : Bp K p) (hTab : Tab w) :
    Calls Tryz.prog 128 #[va] w (RetPt w p) := by
  refine exec_calls mixed Tryz.func128 [sPt p] [sPt p] (.cons Ha .nil) (rs := [cl 1 129 [ag 8 0, .v true [.lit (.slice none 0 0), .lit (.bool false), .lit (.slice none 0 0), .lit (.bool false), .lit (.slice none 0 0), .lit (.bool false), .lit (.slice none 0 0), .lit (.bool false)]]]) (out := ag 8 1) (nc := 2) (by kernel_rfl)
      ⟨fun σ W g h hb => add_nil p ▸ PPlus_any W _ _ p (0, 0) K (h 0 rfl) (PtV.nil W) hK.2 ba (.nil hK.1) (hTab.kept g (by simp)),
      trivial⟩ fun τ W g h => ⟨_, rfl, h 1 rfl, g⟩
theorem PXross_any (w : World) (va vb : Value) (p q : Pq) (K : Nat) (Ha : PtV w va p) (Hb : PtV w vb q) (hK : K ≤ 100000) (ba : Bp K p) (bb : Bp K q) (hTab : Tab w) :
    Calls Tryz.prog 48 #[va, vb] w (RetRat w (p.1 * q.2 - p.2 * q.1)) := by
  refine exec_calls mixed Tryz.func48 [sPt p, sPt q] [sQ (p.1 * q.2), sQ (p.2 * q.1), sQ (p.1 * q.2 - p.2 * q.1)] (.cons Ha (.cons Hb .nil)) (rs := [cl 2 34 [ag 4 0, .v true [.an 1 4, .an 1 5, .an 1 6, .an 1 7]], cl 3 34 [.v true [.an 0 4, .an 0 5, .an 0 6, .an 0 7], ag 4 1], cl 4 75 [ag 4 2, ag 4 3]]) (out := ag 4 4) (nc := 5) (by kernel_rfl)
      ⟨fun σ W g h hb => FMul_any W _ _ (p.1) (q.2) K (pt1 (h 0 rfl)) (pt2 (h 1 rfl)) (by omega) ba.1.1 ba.1.2 bb.2.1 bb.2.2 (hTab.kept g (by simp)),
      fun σ W g h hb => FMul_any W _ _ (p.2) (q.1) K (pt2 (h 0 rfl)) (pt1 (h 1 rfl)) (by omega) ba.2.1 ba.2.2 bb.1.1 bb.1.2 (hTab.kept g (by simp)),
      fun σ W g h hb => FSub_any W _ _ (p.1 * q.2) (p.2 * q.1) (K + K) (h 2 rfl) (h 3 rfl) (by omega) (ba.1.mul bb.2).1 (ba.1.mul bb.2).2 (ba.2.mul bb.1).1 (ba.2.mul bb.1).2 (hTab.kept g (by simp)),
      trivial⟩ fun τ W g h => ⟨_, rfl, h 4 rfl, g⟩
theorem Bp.sub {K : Nat} {p q : Pq} (h : Bp K p) (h' : Bp K q) : Bp (K + K + 1) (p.1 - q.1, p.2 - q.2) := ⟨h.1.sub h'.1, h.2.sub h'.2⟩
theorem PCross_any (w : World) (va vb vc : Value) (a b c : Pq) (K : Nat) (Ha : PtV w va a) (Hb : PtV w vb b) (Hc : PtV w vc c) (hK : K ≤ 10000) (ba : Bp K a) (bb : Bp K b) (bc : Bp K c) (hTab : Tab w) :
    Calls Tryz.prog 109 #[va, vb, vc] w (RetRat w (pcross a b c)) := by
  refine exec_calls mixed Tryz.func109 [sPt a, sPt b, sPt c] [sPt (b.1 - a.1, b.2 - a.2), sPt (c.1 - a.1, c.2 - a.2), sQ (pcross a b c)] (.cons Ha (.cons Hb (.cons Hc .nil))) (rs := [cl 3 107 [ag 8 1, ag 8 0], cl 4 107 [ag 8 2, ag 8 0], cl 5 48 [ag 8 3, ag 8 4]]) (out := ag 4 5) (nc := 6) (by kernel_rfl)
      ⟨fun σ W g h hb => PMinus_any W _ _ b a K (h 1 rfl) (h 0 rfl) (by omega) bb ba (hTab.kept g (by simp)),
      fun σ W g h hb => PMinus_any W _ _ c a K (h 2 rfl) (h 0 rfl) (by omega) bc ba (hTab.kept g (by simp)),
      fun σ W g h hb => PXross_any W _ _ _ _ (K + K + 1) (h 3 rfl) (h 4 rfl) (by omega) (bb.sub ba) (bc.sub ba) (hTab.kept g (by simp)),
      trivial⟩ fun τ W g h => ⟨_, rfl, h 5 rfl, g⟩
theorem PDot_any (w : World) (va vb vc : Value) (a b c : Pq) (K : Nat) (Ha : PtV w va a) (Hb : PtV w vb b) (Hc : PtV w vc c) (hK : K ≤ 10000) (ba : Bp K a) (bb : Bp K b) (bc : Bp K c) (hTab : Tab w) :
    Calls Tryz.prog 62 #[va, vb, vc] w (RetRat w (pdot a b c)) := by
  have m1 := (bb.sub ba).1.mul (bc.sub ba).1
  have m2 := (bb.sub ba).2.mul (bc.sub ba).2
  refine exec_calls mixed Tryz.func62 [sPt a, sPt b, sPt c] [sPt (b.1 - a.1, b.2 - a.2), sPt (c.1 - a.1, c.2 - a.2), sQ ((b.1 - a.1) * (c.1 - a.1)), sQ ((b.2 - a.2) * (c.2 - a.2)), sQ (pdot a b c)] (.cons Ha (.cons Hb (.cons Hc .nil))) (rs := [cl 3 107 [ag 8 1, ag 8 0], cl 4 107 [ag 8 2, ag 8 0], cl 5 34 [ag 4 3, ag 4 4], cl 6 34 [.v true [.an 3 4, .an 3 5, .an 3 6, .an 3 7], .v true [.an 4 4, .an 4 5, .an 4 6, .an 4 7]], cl 7 37 [ag 4 5, ag 4 6]]) (out := ag 4 7) (nc := 8) (by kernel_rfl)
      ⟨fun σ W g h hb => PMinus_any W _ _ b a K (h 1 rfl) (h 0 rfl) (by omega) bb ba (hTab.kept g (by simp)),
      fun σ W g h hb => PMinus_any W _ _ c a K (h 2 rfl) (h 0 rfl) (by omega) bc ba (hTab.kept g (by simp)),
      fun σ W g h hb => FMul_any W _ _ (b.1 - a.1) (c.1 - a.1) (K + K + 1) (pt1 (h 3 rfl)) (pt1 (h 4 rfl)) (by omega) (bb.sub ba).1.1 (bb.sub ba).1.2 (bc.sub ba).1.1 (bc.sub ba).1.2 (hTab.kept g (by simp)),
      fun σ W g h hb => FMul_any W _ _ (b.2 - a.2) (c.2 - a.2) (K + K + 1) (pt2 (h 3 rfl)) (pt2 (h 4 rfl)) (by omega) (bb.sub ba).2.1 (bb.sub ba).2.2 (bc.sub ba).2.1 (bc.sub ba).2.2 (hTab.kept g (by simp)),
      fun σ W g h hb => FAdd_any W _ _ _ _ (K + K + 1 + (K + K + 1)) (h 5 rfl) (h 6 rfl) (by omega) m1.1 m1.2 m2.1 m2.2 (hTab.kept g (by simp)),
      trivial⟩ fun τ W g h => ⟨_, rfl, h 7 rfl, g⟩
theorem PFirst_any (w : World) (p : Nat) (i j : Int) (Bq : w.heap[p]? = some (.cells #[.int .i64 i, .int .i64 j] 3 (0, 0))) :
    Calls Tryz.prog 78 #[.slice (some ⟨p, 0, none⟩) 2 2] w (fun e w' => e = .returned (.int .i64 (if i = 0 then j else i)) ∧ w.grownBy w' none) := by
  rcases (show i ≠ 0 ∨ (i = 0 ∧ j ≠ 0) ∨ (i = 0 ∧ j = 0) by omega) with h1 | ⟨h1, h2⟩ | ⟨h1, h2⟩
  · rw [if_neg h1]
    exact exec_calls_box mixed Tryz.func78 [sZ i, sZ j, sV (.bool true)] 2 [.v false [.row 0 0 2 2]] [(3, [.an 0 0, .an 1 0])] (rs := [co 2 (.binOp .neq 3 (.tmp 11) (.const (.int .i64 0)) 3) 4 [on 0, .v false [.lit (.int .i64 0)]] [0, 1] []]) (out := on 0) (nc := 3) (by kernel_rfl) w
      ⟨fun n => match n with | 0 => cellf [.int .i64 i] | 1 => cellf [.int .i64 j] | _ => fun _ => .bool false, fun b => match b with | 0 => p | _ => 0, fun _ => undef⟩
      (fun n c => match n with
        | 0 => cellf_one (by simp [Value.oneCell']) c
        | 1 => cellf_one (by simp [Value.oneCell']) c
        | _ + 2 => rfl)
      (fun b q hq => match b, q, hq with
        | 0, _, rfl => Bq
        | _ + 1, _, hq => nomatch hq)
      (fun b c hb hc hq => match b, c, hb, hc with
        | 0, 0, _, _ => rfl
        | _ + 1, _, hb, _ => absurd hb (by simp)
        | _, _ + 1, _, hc => absurd hc (by simp))
      (fun jn hn => match jn, hn with
        | 0, _ => rfl
        | 1, _ => rfl
        | _ + 2, hn => absurd hn (by omega))
      ⟨fun σ W g h hb => fun ρ o ho _ hv => ⟨_, ne_told true ho ((two_vals hv).1.trans (h 0 rfl)) (two_vals hv).2 (decide_eq_false h1), rfl⟩,
      trivial⟩ _ fun τ W g h => ⟨congrArg Ending.returned (h 0 rfl), g⟩
  · rw [if_pos h1]
    exact exec_calls_box mixed Tryz.func78 [sZ i, sZ j, sV (.bool false), sV (.bool true)] 2 [.v false [.row 0 0 2 2]] [(3, [.an 0 0, .an 1 0])] (rs := [co 2 (.binOp .neq 3 (.tmp 11) (.const (.int .i64 0)) 3) 4 [on 0, .v false [.lit (.int .i64 0)]] [0, 1] [], co 3 (.binOp .neq 3 (.tmp 11) (.const (.int .i64 0)) 3) 4 [on 1, .v false [.lit (.int .i64 0)]] [0, 1, 2] []]) (out := on 1) (nc := 4) (by kernel_rfl) w
      ⟨fun n => match n with | 0 => cellf [.int .i64 i] | 1 => cellf [.int .i64 j] | _ => fun _ => .bool false, fun b => match b with | 0 => p | _ => 0, fun _ => undef⟩
      (fun n c => match n with
        | 0 => cellf_one (by simp [Value.oneCell']) c
        | 1 => cellf_one (by simp [Value.oneCell']) c
        | _ + 2 => rfl)
      (fun b q hq => match b, q, hq with
        | 0, _, rfl => Bq
        | _ + 1, _, hq => nomatch hq)
      (fun b c hb hc hq => match b, c, hb, hc with
        | 0, 0, _, _ => rfl
        | _ + 1, _, hb, _ => absurd hb (by simp)
        | _, _ + 1, _, hc => absurd hc (by simp))
      (fun jn hn => match jn, hn with
        | 0, _ => rfl
        | 1, _ => rfl
        | _ + 2, hn => absurd hn (by omega))
      ⟨fun σ W g h hb => fun ρ o ho _ hv => ⟨_, ne_told false ho ((two_vals hv).1.trans (h 0 rfl)) (two_vals hv).2 (decide_eq_true h1), rfl⟩,
      fun σ W g h hb => fun ρ o ho _ hv => ⟨_, ne_told true ho ((two_vals hv).1.trans (h 1 rfl)) (two_vals hv).2 (decide_eq_false h2), rfl⟩,
      trivial⟩ _ fun τ W g h => ⟨congrArg Ending.returned (h 1 rfl), g⟩
  · rw [if_pos h1, h2]
    exact exec_calls_box mixed Tryz.func78 [sZ i, sZ j, sV (.bool false), sV (.bool false)] 2 [.v false [.row 0 0 2 2]] [(3, [.an 0 0, .an 1 0])] (rs := [co 2 (.binOp .neq 3 (.tmp 11) (.const (.int .i64 0)) 3) 4 [on 0, .v false [.lit (.int .i64 0)]] [0, 1] [], co 3 (.binOp .neq 3 (.tmp 11) (.const (.int .i64 0)) 3) 4 [on 1, .v false [.lit (.int .i64 0)]] [0, 1, 2] []]) (out := .v false [.lit (.int .i64 0)]) (nc := 4) (by kernel_rfl) w
      ⟨fun n => match n with | 0 => cellf [.int .i64 i] | 1 => cellf [.int .i64 j] | _ => fun _ => .bool false, fun b => match b with | 0 => p | _ => 0, fun _ => undef⟩
      (fun n c => match n with
        | 0 => cellf_one (by simp [Value.oneCell']) c
        | 1 => cellf_one (by simp [Value.oneCell']) c
        | _ + 2 => rfl)
      (fun b q hq => match b, q, hq with
        | 0, _, rfl => Bq
        | _ + 1, _, hq => nomatch hq)
      (fun b c hb hc hq => match b, c, hb, hc with
        | 0, 0, _, _ => rfl
        | _ + 1, _, hb, _ => absurd hb (by simp)
        | _, _ + 1, _, hc => absurd hc (by simp))
      (fun jn hn => match jn, hn with
        | 0, _ => rfl
        | 1, _ => rfl
        | _ + 2, hn => absurd hn (by omega))
      ⟨fun σ W g h hb => fun ρ o ho _ hv => ⟨_, ne_told false ho ((two_vals hv).1.trans (h 0 rfl)) (two_vals hv).2 (decide_eq_true h1), rfl⟩,
      fun σ W g h hb => fun ρ o ho _ hv => ⟨_, ne_told false ho ((two_vals hv).1.trans (h 1 rfl)) (two_vals hv).2 (decide_eq_true h2), rfl⟩,
      trivial⟩ _ fun τ W g h => ⟨rfl, g⟩
theorem PCmp_any (w : World) (va vb : Value) (p q : Pq) (K : Nat) (Ha : PtV w va p) (Hb : PtV w vb q) (hK : K ≤ 100000) (ba : Bp K p) (bb : Bp K q) :
    Calls Tryz.prog 32 #[va, vb] w (fun e w' => e = .returned (.int .i64 (pcmp p q)) ∧ w.grownBy w' none) := by
  refine exec_calls mixed Tryz.func32 [sPt p, sPt q] [sZ (rcmp p.1 q.1), sZ (rcmp p.2 q.2), sZ (pcmp p q)] (.cons Ha (.cons Hb .nil)) (rs := [cl 2 33 [ag 4 0, ag 4 1], cl 3 33 [.v true [.an 0 4, .an 0 5, .an 0 6, .an 0 7], .v true [.an 1 4, .an 1 5, .an 1 6, .an 1 7]], clb 4 78 [.v false [.row 2 0 2 2]] [0, 1, 2, 3] [(2, 3, [.an 2 0, .an 3 0])]]) (out := on 4) (nc := 5) (by kernel_rfl)
      ⟨fun σ W g h hb => toZ (FCmp_any W _ _ p.1 q.1 K (pt1 (h 0 rfl)) (pt1 (h 1 rfl)) (by omega) ba.1.1 ba.1.2 bb.1.1 bb.1.2) rfl,
      fun σ W g h hb => toZ (FCmp_any W _ _ p.2 q.2 K (pt2 (h 0 rfl)) (pt2 (h 1 rfl)) (by omega) ba.2.1 ba.2.2 bb.2.1 bb.2.2) rfl,
      fun σ W g h hb => toZ (PFirst_any W _ _ _ (by
        have e1 : σ.an 2 0 = .int .i64 (rcmp p.1 q.1) := h 2 rfl
        have e2 : σ.an 3 0 = .int .i64 (rcmp p.2 q.2) := h 3 rfl
        rw [← e1, ← e2]; exact hb.1 _ (.head _))) rfl,
      trivial⟩ fun τ W g h => ⟨congrArg Ending.returned (h 4 rfl), g⟩
end Go.Proofs.YtoaepibannfbdaaGreatDoor
namespace Go.Proofs.YtoaepibannfbdaaGreatDoor
open Go.RowKit Mat Ex PM
set_option linter.unusedVariables false
set_option linter.unusedSimpArgs false
set_option maxRecDepth 100000
theorem ends_le {a b : Pq} (h : ple a b) : lo a b = a ∧ hi a b = b := by unfold lo hi; simp [h]
theorem ends_gt {a b : Pq} (h : ¬ ple a b) : lo a b = b ∧ hi a b = a := by unfold lo hi; simp [h]
theorem pgt {a b : Pq} : ¬ ple a b ↔ 0 < pcmp a b := by rw [← pcmp_le]; omega
theorem pmax_t {a b : Pq} (h : ple b a) : pmax a b = a := by unfold pmax; rw [if_pos h]
theorem pmax_f {a b : Pq} (h : ¬ ple b a) : pmax a b = b := by unfold pmax; rw [if_neg h]
theorem pmin_t {a b : Pq} (h : ple a b) : pmin a b = a := by unfold pmin; rw [if_pos h]
theorem pmin_f {a b : Pq} (h : ¬ ple a b) : pmin a b = b := by unfold pmin; rw [if_neg h]
theorem pback {a b : Pq} : pcmp b a < 0 ↔ ¬ ple a b := by rw [pgt, pcmp_swap a b]; omega
theorem Bp.lo {K : Nat} {a b : Pq} (h : Bp K a) (h' : Bp K b) : Bp K (lo a b) := by rcases lo_or a b with e | e <;> rw [e] <;> assumption
theorem Bp.hi {K : Nat} {a b : Pq} (h : Bp K a) (h' : Bp K b) : Bp K (hi a b) := by rcases hi_or a b with e | e <;> rw [e] <;> assumption
theorem Bp.max {K : Nat} {a b : Pq} (h : Bp K a) (h' : Bp K b) : Bp K (pmax a b) := by rcases pmax_or a b with e | e <;> rw [e] <;> assumption
theorem Bp.min {K : Nat} {a b : Pq} (h : Bp K a) (h' : Bp K b) : Bp K (pmin a b) := by rcases pmin_or a b with e | e <;> rw [e] <;> assumption
theorem PEnds_any (w : World) (va : Value) (a b : Pq) (K : Nat) (Ha : SgV w va a b) (hK : 1 ≤ K ∧ K ≤ 10000) (ba : Bp K a) (bb : Bp K b) :
    Calls Tryz.prog 127 #[va] w (RetPP w (lo a b) (hi a b)) := by
  by_cases h1 : ple a b
  · skip
    rw [(ends_le h1).1, (ends_le h1).2]
    refine exec_calls mixed Tryz.func127 [sSg a b] [sZ (pcmp a b), sV (.bool false)] (.cons Ha .nil) (rs := [cl 1 32 [ag 8 0, .v true [.an 0 8, .an 0 9, .an 0 10, .an 0 11, .an 0 12, .an 0 13, .an 0 14, .an 0 15]], co 2 (.binOp .gtr 3 (.tmp 8) (.const (.int .i64 0)) 3) 4 [on 1, .v false [.lit (.int .i64 0)]] [0, 1] []]) (out := .tup [(true, [.an 0 0, .an 0 1, .an 0 2, .an 0 3, .an 0 4, .an 0 5, .an 0 6, .an 0 7]), (true, [.an 0 8, .an 0 9, .an 0 10, .an 0 11, .an 0 12, .an 0 13, .an 0 14, .an 0 15])]) (nc := 3) (by kernel_rfl)
        ⟨fun σ W g h hb => toZ (PCmp_any W _ _ a b K (sg1 (h 0 rfl)) (sg2 (h 0 rfl)) (by omega) ba bb) rfl,
        fun σ W g h hb => fun ρ o ho _ hv => ⟨_, gt_told false ho ((two_vals hv).1.trans (h 1 rfl)) (two_vals hv).2 (decide_eq_false (by have := pcmp_le.2 h1; omega)), rfl⟩,
        trivial⟩ fun τ W g h => ⟨_, _, rfl, sg1 (h 0 rfl), sg2 (h 0 rfl), g⟩
  · skip
    rw [(ends_gt h1).1, (ends_gt h1).2]
    refine exec_calls mixed Tryz.func127 [sSg a b] [sZ (pcmp a b), sV (.bool true)] (.cons Ha .nil) (rs := [cl 1 32 [ag 8 0, .v true [.an 0 8, .an 0 9, .an 0 10, .an 0 11, .an 0 12, .an 0 13, .an 0 14, .an 0 15]], co 2 (.binOp .gtr 3 (.tmp 8) (.const (.int .i64 0)) 3) 4 [on 1, .v false [.lit (.int .i64 0)]] [0, 1] []]) (out := .tup [(true, [.an 0 8, .an 0 9, .an 0 10, .an 0 11, .an 0 12, .an 0 13, .an 0 14, .an 0 15]), (true, [.an 0 0, .an 0 1, .an 0 2, .an 0 3, .an 0 4, .an 0 5, .an 0 6, .an 0 7])]) (nc := 3) (by kernel_rfl)
        ⟨fun σ W g h hb => toZ (PCmp_any W _ _ a b K (sg1 (h 0 rfl)) (sg2 (h 0 rfl)) (by omega) ba bb) rfl,
        fun σ W g h hb => fun ρ o ho _ hv => ⟨_, gt_told true ho ((two_vals hv).1.trans (h 1 rfl)) (two_vals hv).2 (decide_eq_true (pgt.1 h1)), rfl⟩,
        trivial⟩ fun τ W g h => ⟨_, _, rfl, sg2 (h 0 rfl), sg1 (h 0 rfl), g⟩
theorem POverlap_any (w : World) (va vb : Value) (a b c d : Pq) (K : Nat) (Ha : SgV w va a b) (Hb : SgV w vb c d) (hK : 1 ≤ K ∧ K ≤ 10000) (ba : Bp K a) (bb : Bp K b) (bc : Bp K c) (bd : Bp K d) :
    Calls Tryz.prog 91 #[va, vb] w (RetPP w (pmax (lo a b) (lo c d)) (pmin (hi a b) (hi c d))) := by
  rcases Classical.em (ple (lo c d) (lo a b)) with h1 | h1 <;> rcases Classical.em (ple (hi a b) (hi c d)) with h2 | h2
  · skip
    rw [pmax_t h1, pmin_t h2]
    refine exec_calls mixed Tryz.func91 [sSg a b, sSg c d] [sPP (lo a b) (hi a b), sPP (lo c d) (hi c d), sZ (pcmp (lo c d) (lo a b)), sV (.bool false), sZ (pcmp (hi c d) (hi a b)), sV (.bool false)] (.cons Ha (.cons Hb .nil)) (rs := [cl 2 127 [ag 16 0], cl 3 127 [ag 16 1], cl 4 32 [ag 8 3, ag 8 2], co 5 (.binOp .gtr 3 (.tmp 20) (.const (.int .i64 0)) 3) 4 [on 4, .v false [.lit (.int .i64 0)]] [0, 1, 2, 3, 4] [], cl 6 32 [.v true [.an 3 8, .an 3 9, .an 3 10, .an 3 11, .an 3 12, .an 3 13, .an 3 14, .an 3 15], .v true [.an 2 8, .an 2 9, .an 2 10, .an 2 11, .an 2 12, .an 2 13, .an 2 14, .an 2 15]], co 7 (.binOp .lss 3 (.tmp 25) (.const (.int .i64 0)) 3) 4 [on 6, .v false [.lit (.int .i64 0)]] [0, 1, 2, 3, 4, 5, 6] []]) (out := .tup [(true, [.an 2 0, .an 2 1, .an 2 2, .an 2 3, .an 2 4, .an 2 5, .an 2 6, .an 2 7]), (true, [.an 2 8, .an 2 9, .an 2 10, .an 2 11, .an 2 12, .an 2 13, .an 2 14, .an 2 15])]) (nc := 8) (by kernel_rfl)
        ⟨fun σ W g h hb => toPP (PEnds_any W _ a b K (h 0 rfl) hK ba bb),
        fun σ W g h hb => toPP (PEnds_any W _ c d K (h 1 rfl) hK bc bd),
        fun σ W g h hb => toZ (PCmp_any W _ _ (lo c d) (lo a b) K (pp1 (h 3 rfl)) (pp1 (h 2 rfl)) (by omega) (bc.lo bd) (ba.lo bb)) rfl,
        fun σ W g h hb => fun ρ o ho _ hv => ⟨_, gt_told false ho ((two_vals hv).1.trans (h 4 rfl)) (two_vals hv).2 (decide_eq_false (by have := pcmp_le.2 h1; omega)), rfl⟩,
        fun σ W g h hb => toZ (PCmp_any W _ _ (hi c d) (hi a b) K (pp2 (h 3 rfl)) (pp2 (h 2 rfl)) (by omega) (bc.hi bd) (ba.hi bb)) rfl,
        fun σ W g h hb => fun ρ o ho _ hv => ⟨_, lt_told false ho ((two_vals hv).1.trans (h 6 rfl)) (two_vals hv).2 (decide_eq_false (by exact fun q => pback.1 q h2)), rfl⟩,
        trivial⟩ fun τ W g h => ⟨_, _, rfl, pp1 (h 2 rfl), pp2 (h 2 rfl), g⟩
  · skip
    rw [pmax_t h1, pmin_f h2]
    refine exec_calls mixed Tryz.func91 [sSg a b, sSg c d] [sPP (lo a b) (hi a b), sPP (lo c d) (hi c d), sZ (pcmp (lo c d) (lo a b)), sV (.bool false), sZ (pcmp (hi c d) (hi a b)), sV (.bool true)] (.cons Ha (.cons Hb .nil)) (rs := [cl 2 127 [ag 16 0], cl 3 127 [ag 16 1], cl 4 32 [ag 8 3, ag 8 2], co 5 (.binOp .gtr 3 (.tmp 20) (.const (.int .i64 0)) 3) 4 [on 4, .v false [.lit (.int .i64 0)]] [0, 1, 2, 3, 4] [], cl 6 32 [.v true [.an 3 8, .an 3 9, .an 3 10, .an 3 11, .an 3 12, .an 3 13, .an 3 14, .an 3 15], .v true [.an 2 8, .an 2 9, .an 2 10, .an 2 11, .an 2 12, .an 2 13, .an 2 14, .an 2 15]], co 7 (.binOp .lss 3 (.tmp 25) (.const (.int .i64 0)) 3) 4 [on 6, .v false [.lit (.int .i64 0)]] [0, 1, 2, 3, 4, 5, 6] []]) (out := .tup [(true, [.an 2 0, .an 2 1, .an 2 2, .an 2 3, .an 2 4, .an 2 5, .an 2 6, .an 2 7]), (true, [.an 3 8, .an 3 9, .an 3 10, .an 3 11, .an 3 12, .an 3 13, .an 3 14, .an 3 15])]) (nc := 8) (by kernel_rfl)
        ⟨fun σ W g h hb => toPP (PEnds_any W _ a b K (h 0 rfl) hK ba bb),
        fun σ W g h hb => toPP (PEnds_any W _ c d K (h 1 rfl) hK bc bd),
        fun σ W g h hb => toZ (PCmp_any W _ _ (lo c d) (lo a b) K (pp1 (h 3 rfl)) (pp1 (h 2 rfl)) (by omega) (bc.lo bd) (ba.lo bb)) rfl,
        fun σ W g h hb => fun ρ o ho _ hv => ⟨_, gt_told false ho ((two_vals hv).1.trans (h 4 rfl)) (two_vals hv).2 (decide_eq_false (by have := pcmp_le.2 h1; omega)), rfl⟩,
        fun σ W g h hb => toZ (PCmp_any W _ _ (hi c d) (hi a b) K (pp2 (h 3 rfl)) (pp2 (h 2 rfl)) (by omega) (bc.hi bd) (ba.hi bb)) rfl,
        fun σ W g h hb => fun ρ o ho _ hv => ⟨_, lt_told true ho ((two_vals hv).1.trans (h 6 rfl)) (two_vals hv).2 (decide_eq_true (by exact pback.2 h2)), rfl⟩,
        trivial⟩ fun τ W g h => ⟨_, _, rfl, pp1 (h 2 rfl), pp2 (h 3 rfl), g⟩
  · skip
    rw [pmax_f h1, pmin_t h2]
    refine exec_calls mixed Tryz.func91 [sSg a b, sSg c d] [sPP (lo a b) (hi a b), sPP (lo c d) (hi c d), sZ (pcmp (lo c d) (lo a b)), sV (.bool true), sZ (pcmp (hi c d) (hi a b)), sV (.bool false)] (.cons Ha (.cons Hb .nil)) (rs := [cl 2 127 [ag 16 0], cl 3 127 [ag 16 1], cl 4 32 [ag 8 3, ag 8 2], co 5 (.binOp .gtr 3 (.tmp 20) (.const (.int .i64 0)) 3) 4 [on 4, .v false [.lit (.int .i64 0)]] [0, 1, 2, 3, 4] [], cl 6 32 [.v true [.an 3 8, .an 3 9, .an 3 10, .an 3 11, .an 3 12, .an 3 13, .an 3 14, .an 3 15], .v true [.an 2 8, .an 2 9, .an 2 10, .an 2 11, .an 2 12, .an 2 13, .an 2 14, .an 2 15]], co 7 (.binOp .lss 3 (.tmp 25) (.const (.int .i64 0)) 3) 4 [on 6, .v false [.lit (.int .i64 0)]] [0, 1, 2, 3, 4, 5, 6] []]) (out := .tup [(true, [.an 3 0, .an 3 1, .an 3 2, .an 3 3, .an 3 4, .an 3 5, .an 3 6, .an 3 7]), (true, [.an 2 8, .an 2 9, .an 2 10, .an 2 11, .an 2 12, .an 2 13, .an 2 14, .an 2 15])]) (nc := 8) (by kernel_rfl)
        ⟨fun σ W g h hb => toPP (PEnds_any W _ a b K (h 0 rfl) hK ba bb),
        fun σ W g h hb => toPP (PEnds_any W _ c d K (h 1 rfl) hK bc bd),
        fun σ W g h hb => toZ (PCmp_any W _ _ (lo c d) (lo a b) K (pp1 (h 3 rfl)) (pp1 (h 2 rfl)) (by omega) (bc.lo bd) (ba.lo bb)) rfl,
        fun σ W g h hb => fun ρ o ho _ hv => ⟨_, gt_told true ho ((two_vals hv).1.trans (h 4 rfl)) (two_vals hv).2 (decide_eq_true (by exact pgt.1 h1)), rfl⟩,
        fun σ W g h hb => toZ (PCmp_any W _ _ (hi c d) (hi a b) K (pp2 (h 3 rfl)) (pp2 (h 2 rfl)) (by omega) (bc.hi bd) (ba.hi bb)) rfl,
        fun σ W g h hb => fun ρ o ho _ hv => ⟨_, lt_told false ho ((two_vals hv).1.trans (h 6 rfl)) (two_vals hv).2 (decide_eq_false (by exact fun q => pback.1 q h2)), rfl⟩,
        trivial⟩ fun τ W g h => ⟨_, _, rfl, pp1 (h 3 rfl), pp2 (h 2 rfl), g⟩
  · skip
    rw [pmax_f h1, pmin_f h2]
    refine exec_calls mixed Tryz.func91 [sSg a b, sSg c d] [sPP (lo a b) (hi a b), sPP (lo c d) (hi c d), sZ (pcmp (lo c d) (lo a b)), sV (.bool true), sZ (pcmp (hi c d) (hi a b)), sV (.bool true)] (.cons Ha (.cons Hb .nil)) (rs := [cl 2 127 [ag 16 0], cl 3 127 [ag 16 1], cl 4 32 [ag 8 3, ag 8 2], co 5 (.binOp .gtr 3 (.tmp 20) (.const (.int .i64 0)) 3) 4 [on 4, .v false [.lit (.int .i64 0)]] [0, 1, 2, 3, 4] [], cl 6 32 [.v true [.an 3 8, .an 3 9, .an 3 10, .an 3 11, .an 3 12, .an 3 13, .an 3 14, .an 3 15], .v true [.an 2 8, .an 2 9, .an 2 10, .an 2 11, .an 2 12, .an 2 13, .an 2 14, .an 2 15]], co 7 (.binOp .lss 3 (.tmp 25) (.const (.int .i64 0)) 3) 4 [on 6, .v false [.lit (.int .i64 0)]] [0, 1, 2, 3, 4, 5, 6] []]) (out := .tup [(true, [.an 3 0, .an 3 1, .an 3 2, .an 3 3, .an 3 4, .an 3 5, .an 3 6, .an 3 7]), (true, [.an 3 8, .an 3 9, .an 3 10, .an 3 11, .an 3 12, .an 3 13, .an 3 14, .an 3 15])]) (nc := 8) (by kernel_rfl)
        ⟨fun σ W g h hb => toPP (PEnds_any W _ a b K (h 0 rfl) hK ba bb),
        fun σ W g h hb => toPP (PEnds_any W _ c d K (h 1 rfl) hK bc bd),
        fun σ W g h hb => toZ (PCmp_any W _ _ (lo c d) (lo a b) K (pp1 (h 3 rfl)) (pp1 (h 2 rfl)) (by omega) (bc.lo bd) (ba.lo bb)) rfl,
        fun σ W g h hb => fun ρ o ho _ hv => ⟨_, gt_told true ho ((two_vals hv).1.trans (h 4 rfl)) (two_vals hv).2 (decide_eq_true (by exact pgt.1 h1)), rfl⟩,
        fun σ W g h hb => toZ (PCmp_any W _ _ (hi c d) (hi a b) K (pp2 (h 3 rfl)) (pp2 (h 2 rfl)) (by omega) (bc.hi bd) (ba.hi bb)) rfl,
        fun σ W g h hb => fun ρ o ho _ hv => ⟨_, lt_told true ho ((two_vals hv).1.trans (h 6 rfl)) (two_vals hv).2 (decide_eq_true (by exact pback.2 h2)), rfl⟩,
        trivial⟩ fun τ W g h => ⟨_, _, rfl, pp1 (h 3 rfl), pp2 (h 3 rfl), g⟩
theorem PAside_any (w : World) (va vb : Value) (a b c d : Pq) (K : Nat) (Ha : SgV w va a b) (Hb : SgV w vb c d) (hK : 1 ≤ K ∧ K ≤ 10000) (ba : Bp K a) (bb : Bp K b) (bc : Bp K c) (bd : Bp K d) (hTab : Tab w) :
    Calls Tryz.prog 93 #[va, vb] w (RetQQ w (pcross a b c) (pcross a b d)) := by
  refine exec_calls mixed Tryz.func93 [sSg a b, sSg c d] [sQ (pcross a b c), sQ (pcross a b d)] (.cons Ha (.cons Hb .nil)) (rs := [cl 2 109 [ag 8 0, .v true [.an 0 8, .an 0 9, .an 0 10, .an 0 11, .an 0 12, .an 0 13, .an 0 14, .an 0 15], ag 8 1], cl 3 109 [ag 8 0, .v true [.an 0 8, .an 0 9, .an 0 10, .an 0 11, .an 0 12, .an 0 13, .an 0 14, .an 0 15], .v true [.an 1 8, .an 1 9, .an 1 10, .an 1 11, .an 1 12, .an 1 13, .an 1 14, .an 1 15]]]) (out := .tup [(true, [.an 2 0, .an 2 1, .an 2 2, .an 2 3]), (true, [.an 3 0, .an 3 1, .an 3 2, .an 3 3])]) (nc := 4) (by kernel_rfl)
      ⟨fun σ W g h hb => PCross_any W _ _ _ a b c K (sg1 (h 0 rfl)) (sg2 (h 0 rfl)) (sg1 (h 1 rfl)) hK.2 ba bb bc (hTab.kept g (by simp)),
      fun σ W g h hb => PCross_any W _ _ _ a b d K (sg1 (h 0 rfl)) (sg2 (h 0 rfl)) (sg2 (h 1 rfl)) hK.2 ba bb bd (hTab.kept g (by simp)),
      trivial⟩ fun τ W g h => ⟨_, _, rfl, h 2 rfl, h 3 rfl, g⟩
noncomputable def dec (p : Prop) : Bool := open Classical in decide p
theorem dec_t {p : Prop} (h : p) : dec p = true := by unfold dec; simp [h]
theorem dec_f {p : Prop} (h : ¬ p) : dec p = false := by unfold dec; simp [h]
theorem POneSide_any (w : World) (va vb : Value) (u v : Rat) (K : Nat) (Ha : RatV w va u) (Hb : RatV w vb v) (hK : K ≤ 200000) (bu : Bn K u) (bv : Bn K v) :
    Calls Tryz.prog 92 #[va, vb] w (RetB w (dec (OneS u v))) := by
  by_cases h1 : OneS u v
  · skip
    rw [dec_t h1]
    refine exec_calls mixed Tryz.func92 [sQ u, sQ v] [sZ (rsg u), sZ (rsg v), sZ (rsg u * rsg v), sV (.bool true)] (.cons Ha (.cons Hb .nil)) (rs := [cl 2 35 [ag 4 0], cl 3 35 [ag 4 1], co 4 (.binOp .mul 3 (.tmp 6) (.tmp 8) 3) 3 [on 2, on 3] [0, 1, 2, 3] [], co 5 (.binOp .gtr 3 (.tmp 9) (.const (.int .i64 0)) 3) 4 [on 4, .v false [.lit (.int .i64 0)]] [0, 1, 2, 3, 4] []]) (out := .v false [.lit (.bool true)]) (nc := 6) (by kernel_rfl)
        ⟨fun σ W g h hb => toZ (FSign_any W _ _ K (h 0 rfl) (by omega) bu.1) rfl,
        fun σ W g h hb => toZ (FSign_any W _ _ K (h 1 rfl) (by omega) bv.1) rfl,
        fun σ W g h hb => fun ρ o ho _ hv => ⟨_, bin_told ho ((two_vals hv).1.trans (h 2 rfl)) ((two_vals hv).2.trans (h 3 rfl)) (mul3_told (rsg_or u) (rsg_or v)), rfl⟩,
        fun σ W g h hb => fun ρ o ho _ hv => ⟨_, gt_told true ho ((two_vals hv).1.trans (h 4 rfl)) (two_vals hv).2 (decide_eq_true (aside_iff.2 h1)), rfl⟩,
        trivial⟩ fun τ W g h => ⟨rfl, g⟩
  · skip
    rw [dec_f h1]
    refine exec_calls mixed Tryz.func92 [sQ u, sQ v] [sZ (rsg u), sZ (rsg v), sZ (rsg u * rsg v), sV (.bool false)] (.cons Ha (.cons Hb .nil)) (rs := [cl 2 35 [ag 4 0], cl 3 35 [ag 4 1], co 4 (.binOp .mul 3 (.tmp 6) (.tmp 8) 3) 3 [on 2, on 3] [0, 1, 2, 3] [], co 5 (.binOp .gtr 3 (.tmp 9) (.const (.int .i64 0)) 3) 4 [on 4, .v false [.lit (.int .i64 0)]] [0, 1, 2, 3, 4] []]) (out := .v false [.lit (.bool false)]) (nc := 6) (by kernel_rfl)
        ⟨fun σ W g h hb => toZ (FSign_any W _ _ K (h 0 rfl) (by omega) bu.1) rfl,
        fun σ W g h hb => toZ (FSign_any W _ _ K (h 1 rfl) (by omega) bv.1) rfl,
        fun σ W g h hb => fun ρ o ho _ hv => ⟨_, bin_told ho ((two_vals hv).1.trans (h 2 rfl)) ((two_vals hv).2.trans (h 3 rfl)) (mul3_told (rsg_or u) (rsg_or v)), rfl⟩,
        fun σ W g h hb => fun ρ o ho _ hv => ⟨_, gt_told false ho ((two_vals hv).1.trans (h 4 rfl)) (two_vals hv).2 (decide_eq_false (fun q => h1 (aside_iff.1 q))), rfl⟩,
        trivial⟩ fun τ W g h => ⟨rfl, g⟩
theorem Bp.one {K : Nat} {a : Pq} (h : Bp K a) : Bn K a.1 ∧ Bn K a.2 := h
theorem PCut_any (w : World) (va vb vc : Value) (a b : Pq) (u v : Rat) (K M : Nat) (Ha : SgV w va a b) (Hb : RatV w vb u) (Hc : RatV w vc v) (hK : 1 ≤ K ∧ K ≤ 1000 ∧ 2 * K + 1 ≤ M ∧ M ≤ 10000) (ba : Bp K a) (bb : Bp K b) (bu : Bn M u) (bv : Bn M v) (hne : u ≠ v) (hTab : Tab w) :
    Calls Tryz.prog 95 #[va, vb, vc] w (RetPt w (pat a b (u / (u - v)))) := by
  have h0 : u - v ≠ 0 := fun e => hne (by grind)
  have b1 : Bn (2 * M + 1) (u - v) := (bu.sub bv).mono (by omega)
  have b2 : Bn (4 * M + 2) (u / (u - v)) := ((bu.mono (by omega)).div b1 (by omega)).mono (by omega)
  have b3 : Bp (4 * M + 2) (b.1 - a.1, b.2 - a.2) := (bb.sub ba).mono (by omega)
  have b4 : Bp (8 * M + 4) ((b.1 - a.1) * (u / (u - v)), (b.2 - a.2) * (u / (u - v))) := ⟨(b3.1.mul b2).mono (by omega), (b3.2.mul b2).mono (by omega)⟩
  refine exec_calls mixed Tryz.func95 [sSg a b, sQ u, sQ v] [sQ (u - v), sQE (u / (u - v)) 0, sPt (b.1 - a.1, b.2 - a.2), sPt ((b.1 - a.1) * (u / (u - v)), (b.2 - a.2) * (u / (u - v))), sPt (pat a b (u / (u - v)))] (.cons Ha (.cons Hb (.cons Hc .nil))) (rs := [cl 3 75 [ag 4 1, ag 4 2], cl 4 49 [ag 4 1, ag 4 3], cl 5 107 [.v true [.an 0 8, .an 0 9, .an 0 10, .an 0 11, .an 0 12, .an 0 13, .an 0 14, .an 0 15], ag 8 0], cl 6 130 [ag 8 5, ag 4 4], cl 7 129 [ag 8 0, ag 8 6]]) (out := ag 8 7) (nc := 8) (by kernel_rfl)
      ⟨fun σ W g h hb => FSub_any W _ _ u v M (h 1 rfl) (h 2 rfl) (by omega) bu.1 bu.2 bv.1 bv.2 (hTab.kept g (by simp)),
      fun σ W g h hb => toQE (FDiv_any W _ _ u (u - v) (2 * M + 1) (h 1 rfl) (h 3 rfl) (by omega) (bu.mono (by omega)).1 (bu.mono (by omega)).2 b1.1 b1.2 (hTab.kept g (by simp))) (by rw [if_neg h0]),
      fun σ W g h hb => PMinus_any W _ _ b a K (sg2 (h 0 rfl)) (sg1 (h 0 rfl)) (by omega) bb ba (hTab.kept g (by simp)),
      fun σ W g h hb => PTimes_any W _ _ _ _ (4 * M + 2) (h 5 rfl) (qE (h 4 rfl)) (by omega) b3 b2 (hTab.kept g (by simp)),
      fun σ W g h hb => PPlus_any W _ _ a _ (8 * M + 4) (sg1 (h 0 rfl)) (h 6 rfl) (by omega) (ba.mono (by omega)) b4 (hTab.kept g (by simp)),
      trivial⟩ fun τ W g h => ⟨_, rfl, h 7 rfl, g⟩
theorem pts_one {w : World} {b : Nat} {a0 a1 a2 a3 a4 a5 a6 a7 : Value} {p : Pq} (hb : w.heap[b]? = some (.cells #[a0, a1, a2, a3, a4, a5, a6, a7] 33 (0, 0))) (hp : PtV w (.agg #[a0, a1, a2, a3, a4, a5, a6, a7]) p) : PtsV w (.slice (some ⟨b, 0, none⟩) 1 1) [p] := by
  refine ⟨_, _, _, rfl, rfl, Nat.le_refl _, .inr ⟨b, 0, _, rfl, hb, fun i hi => ?_⟩⟩
  obtain rfl : i = 0 := by simpa using hi
  exact ⟨_, _, _, _, _, _, _, _, rfl, rfl, rfl, rfl, rfl, rfl, rfl, rfl, hp⟩
theorem pts_two {w : World} {b : Nat} {a0 a1 a2 a3 a4 a5 a6 a7 c0 c1 c2 c3 c4 c5 c6 c7 : Value} {p q : Pq} (hb : w.heap[b]? = some (.cells #[a0, a1, a2, a3, a4, a5, a6, a7, c0, c1, c2, c3, c4, c5, c6, c7] 33 (0, 0))) (hp : PtV w (.agg #[a0, a1, a2, a3, a4, a5, a6, a7]) p) (hq : PtV w (.agg #[c0, c1, c2, c3, c4, c5, c6, c7]) q) : PtsV w (.slice (some ⟨b, 0, none⟩) 2 2) [p, q] := by
  refine ⟨_, _, _, rfl, rfl, Nat.le_refl _, .inr ⟨b, 0, _, rfl, hb, fun i hi => ?_⟩⟩
  match i, hi with
  | 0, _ => exact ⟨_, _, _, _, _, _, _, _, rfl, rfl, rfl, rfl, rfl, rfl, rfl, rfl, hp⟩
  | 1, _ => exact ⟨_, _, _, _, _, _, _, _, rfl, rfl, rfl, rfl, rfl, rfl, rfl, rfl, hq⟩
  | n + 2, hi => exact absurd hi (by simp)
theorem pts_nil (w : World) : PtsV w (.slice none 0 0) [] := ⟨none, 0, 0, rfl, rfl, Nat.le_refl _, .inl rfl⟩
theorem fp_new {w : World} {b n c : Nat} (hb : w.heap.size ≤ b) (q : Nat) (hq : fpS (.slice (some ⟨b, 0, none⟩) n c) q) : w.heap.size ≤ q := by obtain ⟨o, m, c, e⟩ := hq; cases e; exact hb
theorem fp_nil {w : World} (q : Nat) (hq : fpS (.slice none 0 0) q) : w.heap.size ≤ q := by obtain ⟨o, m, c, e⟩ := hq; cases e
theorem btw_f {p q : Pq} (h : p ≠ q) : btw p q = [p, q] := by unfold btw; rw [if_neg h]
theorem PBetween_any (w : World) (va vb : Value) (p q : Pq) (K : Nat) (Ha : PtV w va p) (Hb : PtV w vb q) (hK : 1 ≤ K ∧ K ≤ 100000) (ba : Bp K p) (bb : Bp K q) (hTab : Tab w) :
    Calls Tryz.prog 94 #[va, vb] w (RetPts w (btw p q)) := by
  by_cases h1 : p = q
  · skip
    rw [← h1, btw_self]
    refine exec_callso mixed Tryz.func94 [sPt p, sPt q] [sZ (pcmp p q), sV (.bool true), sPt p] (.cons Ha (.cons Hb .nil)) (rs := [cl 2 32 [ag 8 0, ag 8 1], co 3 (.binOp .eql 3 (.tmp 7) (.const (.int .i64 0)) 3) 4 [on 2, .v false [.lit (.int .i64 0)]] [0, 1, 2] [], cl 4 128 [ag 8 0]]) (out := .v false [.row 2 0 1 1]) (nc := 5) (nd := [(2, 33, [.an 4 0, .an 4 1, .an 4 2, .an 4 3, .an 4 4, .an 4 5, .an 4 6, .an 4 7])]) (own := [2]) (by kernel_rfl)
        ⟨fun σ W g h hb => toZ (PCmp_any W _ _ p q K (h 0 rfl) (h 1 rfl) (by omega) ba bb) rfl,
        fun σ W g h hb => fun ρ o ho _ hv => ⟨_, eq_told true ho ((two_vals hv).1.trans (h 2 rfl)) (two_vals hv).2 (decide_eq_true (pcmp_zero.2 h1)), rfl⟩,
        fun σ W g h hb => PFresh_any W _ p K (h 0 rfl) hK ba (hTab.kept g (by simp)),
        trivial⟩ fun τ W g h hb ho => ⟨_, rfl, pts_one (hb.1 _ (.head _)) (h 4 rfl), g, fp_new (ho _ rfl)⟩
  · skip
    rw [btw_f h1]
    refine exec_callso mixed Tryz.func94 [sPt p, sPt q] [sZ (pcmp p q), sV (.bool false), sPt p, sPt q] (.cons Ha (.cons Hb .nil)) (rs := [cl 2 32 [ag 8 0, ag 8 1], co 3 (.binOp .eql 3 (.tmp 7) (.const (.int .i64 0)) 3) 4 [on 2, .v false [.lit (.int .i64 0)]] [0, 1, 2] [], cl 4 128 [ag 8 0], cl 5 128 [ag 8 1]]) (out := .v false [.row 2 0 2 2]) (nc := 6) (nd := [(2, 33, [.an 4 0, .an 4 1, .an 4 2, .an 4 3, .an 4 4, .an 4 5, .an 4 6, .an 4 7, .an 5 0, .an 5 1, .an 5 2, .an 5 3, .an 5 4, .an 5 5, .an 5 6, .an 5 7])]) (own := [2]) (by kernel_rfl)
        ⟨fun σ W g h hb => toZ (PCmp_any W _ _ p q K (h 0 rfl) (h 1 rfl) (by omega) ba bb) rfl,
        fun σ W g h hb => fun ρ o ho _ hv => ⟨_, eq_told false ho ((two_vals hv).1.trans (h 2 rfl)) (two_vals hv).2 (decide_eq_false (fun e => h1 (pcmp_zero.1 e))), rfl⟩,
        fun σ W g h hb => PFresh_any W _ p K (h 0 rfl) hK ba (hTab.kept g (by simp)),
        fun σ W g h hb => PFresh_any W _ q K (h 1 rfl) hK bb (hTab.kept g (by simp)),
        trivial⟩ fun τ W g h hb ho => ⟨_, rfl, pts_two (hb.1 _ (.head _)) (h 4 rfl) (h 5 rfl), g, fp_new (ho _ rfl)⟩
end Go.Proofs.YtoaepibannfbdaaGreatDoor
