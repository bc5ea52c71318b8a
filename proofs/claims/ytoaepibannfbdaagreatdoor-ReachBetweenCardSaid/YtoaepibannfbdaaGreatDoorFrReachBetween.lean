/- ReachBetween: whatever four points and numbers, the square of a point of each way lies between the least and the greatest, a point's square to a segment between the least and it, and what is near makes them closer: the law returns true and leaves its arguments. No condition. -/
import Derived.Below
import Derived.BigCall
import Derived.BigQuiet
import Derived.BigRegion
import Derived.ChangeOld
import Derived.Deep.AppendLies
import Derived.Deep.CutBlock
import Derived.Deep.CutRange
import Derived.Deep.DeepCutAuto
import Derived.Deep.DeepHandedRow
import Derived.Deep.LoopGhost
import Derived.Deep.MidRow
import Derived.Deep.QuietTactic
import Derived.Deep.RegionHeld3
import Derived.Deep.RegionLaw
import Derived.Deep.Strs
import Derived.Deep.WholeRow
import Derived.Laws.AppendOwn
import Derived.Laws.Concat
import Derived.Laws.CopyOwn
import Derived.Laws.Externs
import Derived.Laws.IdiomStrings
import Derived.Lib.BitFns
import Derived.Lib.Bytealg
import Derived.Lib.Hide
import Derived.Lib.LaidTab
import Derived.Lib.Slices
import Derived.Lib.Small
import Derived.Lib.Strings
import Derived.Lib.Walk
import Derived.LoopN
import Derived.Maps.AppendAt
import Derived.OpenShut
import Derived.OrdersHeld
import Derived.Outline
import Derived.OwnWalk
import Derived.ProofKit
import Derived.Shelf.Bits.Mul64
import Derived.Shelf.Spec.TrailingZeros
import Derived.StillTailTactics
import Derived.WalkKit
import Derived.WalkLawsBesides
import Derived.WalkSpells
import Derived.WideKeyArgs
import Derived.Test.YtoaepibannfbdaaGreatDoorCards
import Derived.Test.YtoaepibannfbdaaGreatDoorProg
import Derived.Test.YtoaepibannfbdaaGreatDoorRows
import Derived.Test.YtoaepibannfbdaaGreatDoorTie
import Derived.Test.YtoaepibannfbdaaGreatDoorMr19
namespace Go.Proofs.YtoaepibannfbdaaGreatDoor
open Go.RowKit Mat Ex PM
set_option linter.unusedVariables false
set_option linter.unusedSimpArgs false
set_option maxRecDepth 100000
theorem rcmp_le {x y : Rat} : rcmp x y ≤ 0 ↔ x ≤ y := by
  have := @rcmp_gt x y
  rcases rcmp_or x y with h | h | h <;> rw [h] at this ⊢ <;> simp at this ⊢ <;> grind
theorem arg1b2 {P : Program} {f : FuncId} {a b c : Value} {w : World} {R : Ending → World → Prop} (e : a = b) (h : Calls P f #[c, b] w R) : Calls P f #[c, a] w R := e ▸ h
theorem reachBetween_walk (w : World) (x0 y0 d0 x1 y1 d1 x2 y2 d2 x3 y3 d3 i k n : Int) (a0 : -9223372036854775808 ≤ x0) (b0 : x0 ≤ 9223372036854775807) (c0 : -9223372036854775808 ≤ y0) (e0 : y0 ≤ 9223372036854775807) (a1 : -9223372036854775808 ≤ x1) (b1 : x1 ≤ 9223372036854775807) (c1 : -9223372036854775808 ≤ y1) (e1 : y1 ≤ 9223372036854775807) (a2 : -9223372036854775808 ≤ x2) (b2 : x2 ≤ 9223372036854775807) (c2 : -9223372036854775808 ≤ y2) (e2 : y2 ≤ 9223372036854775807) (a3 : -9223372036854775808 ≤ x3) (b3 : x3 ≤ 9223372036854775807) (c3 : -9223372036854775808 ≤ y3) (e3 : y3 ≤ 9223372036854775807) (i1 : -9223372036854775808 ≤ i) (i2 : i ≤ 9223372036854775807) (k1 : -9223372036854775808 ≤ k) (k2 : k ≤ 9223372036854775807) (n1 : -9223372036854775808 ≤ n) (n2 : n ≤ 9223372036854775807) (hTab : Tab w) :
    Calls Tryz.prog 7 #[.agg #[.int .i64 x0, .int .i64 y0, .int .i64 d0], .agg #[.int .i64 x1, .int .i64 y1, .int .i64 d1], .agg #[.int .i64 x2, .int .i64 y2, .int .i64 d2], .agg #[.int .i64 x3, .int .i64 y3, .int .i64 d3], .int .i64 i, .int .i64 k, .int .i64 n] w (fun e w' => e = .returned (.bool true) ∧ w.grownBy w' none) := by
  have bn := small_b n1 n2
  have bS : Bn 200 (sq (pat (lat x0 y0 d0) (lat x1 y1 d1) (hun i)) (pat (lat x2 y2 d2) (lat x3 y3 d3) (hun k))) := (Bp.sq (part_b (n := i) (lat_b a0 b0 c0 e0) (lat_b a1 b1 c1 e1)) (part_b (n := k) (lat_b a2 b2 c2 e2) (lat_b a3 b3 c3 e3))).mono (by omega)
  have bS1 : Bn 1000 (sq (pat (lat x0 y0 d0) (lat x1 y1 d1) (hun i)) (pat (lat x2 y2 d2) (lat x3 y3 d3) (hun k))) := bS.mono (by omega)
  have bnn : Bn 200 ((n : Rat) * n) := (bn.mul bn).mono (by omega)
  have bT : Bn 1000 (toP (lat x0 y0 d0) (lat x1 y1 d1) (pat (lat x2 y2 d2) (lat x3 y3 d3) (hun k))) := (Bp.to (Bp.mono (lat_b a0 b0 c0 e0) (by omega)) (Bp.mono (lat_b a1 b1 c1 e1) (by omega)) (part_b (n := k) (lat_b a2 b2 c2 e2) (lat_b a3 b3 c3 e3))).mono (by omega)
  have bL : Bn 1000 (leastP (lat x0 y0 d0) (lat x1 y1 d1) (lat x2 y2 d2) (lat x3 y3 d3)) := (Bp.least (K := 1) (lat_b a0 b0 c0 e0) (lat_b a1 b1 c1 e1) (lat_b a2 b2 c2 e2) (lat_b a3 b3 c3 e3)).mono (by omega)
  have bM : Bn 1000 (mostP (lat x0 y0 d0) (lat x1 y1 d1) (lat x2 y2 d2) (lat x3 y3 d3)) := (Bp.most (K := 1) (lat_b a0 b0 c0 e0) (lat_b a1 b1 c1 e1) (lat_b a2 b2 c2 e2) (lat_b a3 b3 c3 e3)).mono (by omega)
  have hp : InS (lat x0 y0 d0) (lat x1 y1 d1) (pat (lat x0 y0 d0) (lat x1 y1 d1) (hun i)) := ⟨hun i, (hun_unit i).1, (hun_unit i).2, rfl⟩
  have hq : InS (lat x2 y2 d2) (lat x3 y3 d3) (pat (lat x2 y2 d2) (lat x3 y3 d3) (hun k)) := ⟨hun k, (hun_unit k).1, (hun_unit k).2, rfl⟩
  have f1 : (leastP (lat x0 y0 d0) (lat x1 y1 d1) (lat x2 y2 d2) (lat x3 y3 d3)) ≤ (sq (pat (lat x0 y0 d0) (lat x1 y1 d1) (hun i)) (pat (lat x2 y2 d2) (lat x3 y3 d3) (hun k))) := (leastP_is _ _ _ _).2 _ _ hp hq
  have f2 : (sq (pat (lat x0 y0 d0) (lat x1 y1 d1) (hun i)) (pat (lat x2 y2 d2) (lat x3 y3 d3) (hun k))) ≤ (mostP (lat x0 y0 d0) (lat x1 y1 d1) (lat x2 y2 d2) (lat x3 y3 d3)) := (mostP_is _ _ _ _).2 _ _ hp hq
  have f3 : (toP (lat x0 y0 d0) (lat x1 y1 d1) (pat (lat x2 y2 d2) (lat x3 y3 d3) (hun k))) ≤ (sq (pat (lat x0 y0 d0) (lat x1 y1 d1) (hun i)) (pat (lat x2 y2 d2) (lat x3 y3 d3) (hun k))) := toP_le _ _ _ _ hp
  have f4 : (leastP (lat x0 y0 d0) (lat x1 y1 d1) (lat x2 y2 d2) (lat x3 y3 d3)) ≤ (toP (lat x0 y0 d0) (lat x1 y1 d1) (pat (lat x2 y2 d2) (lat x3 y3 d3) (hun k))) := by
    obtain ⟨y, hy, e⟩ := toP_has (lat x0 y0 d0) (lat x1 y1 d1) (pat (lat x2 y2 d2) (lat x3 y3 d3) (hun k))
    rw [← e]; exact (leastP_is _ _ _ _).2 _ _ hy hq
  rcases (show ¬ 0 < n ∨ (0 < n ∧ (pat (lat x0 y0 d0) (lat x1 y1 d1) (hun i)) = (pat (lat x2 y2 d2) (lat x3 y3 d3) (hun k))) ∨ (0 < n ∧ (pat (lat x0 y0 d0) (lat x1 y1 d1) (hun i)) ≠ (pat (lat x2 y2 d2) (lat x3 y3 d3) (hun k)) ∧ ¬ (sq (pat (lat x0 y0 d0) (lat x1 y1 d1) (hun i)) (pat (lat x2 y2 d2) (lat x3 y3 d3) (hun k))) < (n : Rat) * n) ∨ (0 < n ∧ (pat (lat x0 y0 d0) (lat x1 y1 d1) (hun i)) ≠ (pat (lat x2 y2 d2) (lat x3 y3 d3) (hun k)) ∧ (sq (pat (lat x0 y0 d0) (lat x1 y1 d1) (hun i)) (pat (lat x2 y2 d2) (lat x3 y3 d3) (hun k))) < (n : Rat) * n) from by
    by_cases j0 : 0 < n
    · by_cases j1 : (pat (lat x0 y0 d0) (lat x1 y1 d1) (hun i)) = (pat (lat x2 y2 d2) (lat x3 y3 d3) (hun k))
      · exact .inr (.inl ⟨j0, j1⟩)
      · by_cases j2 : (sq (pat (lat x0 y0 d0) (lat x1 y1 d1) (hun i)) (pat (lat x2 y2 d2) (lat x3 y3 d3) (hun k))) < (n : Rat) * n
        · exact .inr (.inr (.inr ⟨j0, j1, j2⟩))
        · exact .inr (.inr (.inl ⟨j0, j1, j2⟩))
    · exact .inl j0) with z0 | ⟨z0, z1⟩ | ⟨z0, z1, z2⟩ | ⟨z0, z1, z2⟩
  · skip
    refine exec_calls mixed Tryz.func7 [sDt x0 y0 d0, sDt x1 y1 d1, sDt x2 y2 d2, sDt x3 y3 d3, sZ i, sZ k, sZ n] [sSH (lat x0 y0 d0) (lat x1 y1 d1) ⟨x0, y0, und d0⟩ ⟨x1, y1, und d1⟩, sSH (lat x2 y2 d2) (lat x3 y3 d3) ⟨x2, y2, und d2⟩ ⟨x3, y3, und d3⟩, sPt (pat (lat x0 y0 d0) (lat x1 y1 d1) (hun i)), sPt (pat (lat x2 y2 d2) (lat x3 y3 d3) (hun k)), sQ (sq (pat (lat x0 y0 d0) (lat x1 y1 d1) (hun i)) (pat (lat x2 y2 d2) (lat x3 y3 d3) (hun k))), sI n, sQ (n : Rat), sV (.bool false), sQ (toP (lat x0 y0 d0) (lat x1 y1 d1) (pat (lat x2 y2 d2) (lat x3 y3 d3) (hun k))), sV (.bool true), sQ (leastP (lat x0 y0 d0) (lat x1 y1 d1) (lat x2 y2 d2) (lat x3 y3 d3)), sZ (rcmp (leastP (lat x0 y0 d0) (lat x1 y1 d1) (lat x2 y2 d2) (lat x3 y3 d3)) (sq (pat (lat x0 y0 d0) (lat x1 y1 d1) (hun i)) (pat (lat x2 y2 d2) (lat x3 y3 d3) (hun k)))), sV (.bool true), sQ (mostP (lat x0 y0 d0) (lat x1 y1 d1) (lat x2 y2 d2) (lat x3 y3 d3)), sZ (rcmp (sq (pat (lat x0 y0 d0) (lat x1 y1 d1) (hun i)) (pat (lat x2 y2 d2) (lat x3 y3 d3) (hun k))) (mostP (lat x0 y0 d0) (lat x1 y1 d1) (lat x2 y2 d2) (lat x3 y3 d3))), sV (.bool true), sZ (rcmp (toP (lat x0 y0 d0) (lat x1 y1 d1) (pat (lat x2 y2 d2) (lat x3 y3 d3) (hun k))) (sq (pat (lat x0 y0 d0) (lat x1 y1 d1) (hun i)) (pat (lat x2 y2 d2) (lat x3 y3 d3) (hun k)))), sV (.bool true), sQ (leastP (lat x0 y0 d0) (lat x1 y1 d1) (lat x2 y2 d2) (lat x3 y3 d3)), sZ (rcmp (leastP (lat x0 y0 d0) (lat x1 y1 d1) (lat x2 y2 d2) (lat x3 y3 d3)) (toP (lat x0 y0 d0) (lat x1 y1 d1) (pat (lat x2 y2 d2) (lat x3 y3 d3) (hun k)))), sV (.bool true), sZ (rsg (sq (pat (lat x0 y0 d0) (lat x1 y1 d1) (hun i)) (pat (lat x2 y2 d2) (lat x3 y3 d3) (hun k)))), sV (.bool true)] (.cons rfl (.cons rfl (.cons rfl (.cons rfl (.cons rfl (.cons rfl (.cons rfl .nil))))))) (rs := [cl 7 16 [ag 3 0, ag 3 1], cl 8 16 [ag 3 2, ag 3 3], cl 9 29 [ag 16 7, on 4], cl 10 29 [ag 16 8, on 5], cl 11 19 [ag 8 9, ag 8 10], cl 12 31 [on 6], cl 13 30 [ag 2 12], co 14 (.binOp .gtr 3 (.tmp 49) (.const (.int .i64 0)) 3) 4 [on 6, .v false [.lit (.int .i64 0)]] [0, 1, 2, 3, 4, 5, 6, 7, 8, 9, 10, 11, 12, 13] [], cl 15 21 [ag 16 7, ag 8 10], cl 16 17 [], cl 17 23 [ag 16 7, ag 16 8], cl 18 33 [ag 4 17, ag 4 11], co 19 (.binOp .leq 3 (.tmp 74) (.const (.int .i64 0)) 3) 4 [on 18, .v false [.lit (.int .i64 0)]] [0, 1, 2, 3, 4, 5, 6, 7, 8, 9, 10, 11, 12, 13, 14, 15, 16, 17, 18] [], cl 20 25 [ag 16 7, ag 16 8], cl 21 33 [ag 4 11, ag 4 20], co 22 (.binOp .leq 3 (.tmp 82) (.const (.int .i64 0)) 3) 4 [on 21, .v false [.lit (.int .i64 0)]] [0, 1, 2, 3, 4, 5, 6, 7, 8, 9, 10, 11, 12, 13, 14, 15, 16, 17, 18, 19, 20, 21] [], cl 23 33 [ag 4 15, ag 4 11], co 24 (.binOp .leq 3 (.tmp 88) (.const (.int .i64 0)) 3) 4 [on 23, .v false [.lit (.int .i64 0)]] [0, 1, 2, 3, 4, 5, 6, 7, 8, 9, 10, 11, 12, 13, 14, 15, 16, 17, 18, 19, 20, 21, 22, 23] [], cl 25 23 [ag 16 7, ag 16 8], cl 26 33 [ag 4 25, ag 4 15], co 27 (.binOp .leq 3 (.tmp 96) (.const (.int .i64 0)) 3) 4 [on 26, .v false [.lit (.int .i64 0)]] [0, 1, 2, 3, 4, 5, 6, 7, 8, 9, 10, 11, 12, 13, 14, 15, 16, 17, 18, 19, 20, 21, 22, 23, 24, 25, 26] [], cl 28 35 [ag 4 11], co 29 (.binOp .geq 3 (.tmp 111) (.const (.int .i64 0)) 3) 4 [on 28, .v false [.lit (.int .i64 0)]] [0, 1, 2, 3, 4, 5, 6, 7, 8, 9, 10, 11, 12, 13, 14, 15, 16, 17, 18, 19, 20, 21, 22, 23, 24, 25, 26, 27, 28] []]) (out := .v false [.lit (.bool true)]) (nc := 30) (by kernel_rfl)
        ⟨fun σ W g h hb => toSH (argl (congr3 (h 0 rfl) (h 1 rfl)) (LSeg12_any W x0 y0 d0 x1 y1 d1 a0 b0 c0 e0 a1 b1 c1 e1 (hTab.kept g (by simp)))),
        fun σ W g h hb => toSH (argl (congr3 (h 2 rfl) (h 3 rfl)) (LSeg12_any W x2 y2 d2 x3 y3 d3 a2 b2 c2 e2 a3 b3 c3 e3 (hTab.kept g (by simp)))),
        fun σ W g h hb => arg1b2 (h 4 rfl) (LPart12_any W _ (lat x0 y0 d0) (lat x1 y1 d1) i (sh1 (h 7 rfl)) (lat_b a0 b0 c0 e0) (lat_b a1 b1 c1 e1) (hTab.kept g (by simp))),
        fun σ W g h hb => arg1b2 (h 5 rfl) (LPart12_any W _ (lat x2 y2 d2) (lat x3 y3 d3) k (sh1 (h 8 rfl)) (lat_b a2 b2 c2 e2) (lat_b a3 b3 c3 e3) (hTab.kept g (by simp))),
        fun σ W g h hb => RSquare_any W _ _ _ _ 13 (h 9 rfl) (h 10 rfl) (by omega) (part_b (n := i) (lat_b a0 b0 c0 e0) (lat_b a1 b1 c1 e1)) (part_b (n := k) (lat_b a2 b2 c2 e2) (lat_b a3 b3 c3 e3)) (hTab.kept g (by simp)),
        fun σ W g h hb => arg1 (h 6 rfl) (ZOf_any W n n1 n2),
        fun σ W g h hb => FWholeOf_any W _ n 1 (h 12 rfl) (by omega) (b1int n1 n2),
        fun σ W g h hb => fun ρ o ho _ hv => ⟨_, gt_told false ho ((two_vals hv).1.trans (h 6 rfl)) (two_vals hv).2 (decide_eq_false (z0)), rfl⟩,
        fun σ W g h hb => RTo_any W _ _ (lat x0 y0 d0) (lat x1 y1 d1) _ 13 (sh1 (h 7 rfl)) (h 10 rfl) (by omega) (Bp.mono (lat_b a0 b0 c0 e0) (by omega)) (Bp.mono (lat_b a1 b1 c1 e1) (by omega)) (part_b (n := k) (lat_b a2 b2 c2 e2) (lat_b a3 b3 c3 e3)) (hTab.kept g (by simp)),
        fun σ W g h hb => toV (LKnown12_any W (hTab.kept g (by simp))) rfl,
        fun σ W g h hb => RLeast_any W _ _ (lat x0 y0 d0) (lat x1 y1 d1) (lat x2 y2 d2) (lat x3 y3 d3) 1 (sh1 (h 7 rfl)) (sh1 (h 8 rfl)) (by omega) (lat_b a0 b0 c0 e0) (lat_b a1 b1 c1 e1) (lat_b a2 b2 c2 e2) (lat_b a3 b3 c3 e3) (hTab.kept g (by simp)),
        fun σ W g h hb => toZ (FCmp_any W _ _ _ _ 1000 (h 17 rfl) (h 11 rfl) (by omega) bL.1 bL.2 bS1.1 bS1.2) rfl,
        fun σ W g h hb => fun ρ o ho _ hv => ⟨_, le_told true ho ((two_vals hv).1.trans (h 18 rfl)) (two_vals hv).2 (decide_eq_true (rcmp_le.2 f1)), rfl⟩,
        fun σ W g h hb => RMost_any W _ _ (lat x0 y0 d0) (lat x1 y1 d1) (lat x2 y2 d2) (lat x3 y3 d3) 1 (sh1 (h 7 rfl)) (sh1 (h 8 rfl)) (by omega) (lat_b a0 b0 c0 e0) (lat_b a1 b1 c1 e1) (lat_b a2 b2 c2 e2) (lat_b a3 b3 c3 e3) (hTab.kept g (by simp)),
        fun σ W g h hb => toZ (FCmp_any W _ _ _ _ 1000 (h 11 rfl) (h 20 rfl) (by omega) bS1.1 bS1.2 bM.1 bM.2) rfl,
        fun σ W g h hb => fun ρ o ho _ hv => ⟨_, le_told true ho ((two_vals hv).1.trans (h 21 rfl)) (two_vals hv).2 (decide_eq_true (rcmp_le.2 f2)), rfl⟩,
        fun σ W g h hb => toZ (FCmp_any W _ _ _ _ 1000 (h 15 rfl) (h 11 rfl) (by omega) bT.1 bT.2 bS1.1 bS1.2) rfl,
        fun σ W g h hb => fun ρ o ho _ hv => ⟨_, le_told true ho ((two_vals hv).1.trans (h 23 rfl)) (two_vals hv).2 (decide_eq_true (rcmp_le.2 f3)), rfl⟩,
        fun σ W g h hb => RLeast_any W _ _ (lat x0 y0 d0) (lat x1 y1 d1) (lat x2 y2 d2) (lat x3 y3 d3) 1 (sh1 (h 7 rfl)) (sh1 (h 8 rfl)) (by omega) (lat_b a0 b0 c0 e0) (lat_b a1 b1 c1 e1) (lat_b a2 b2 c2 e2) (lat_b a3 b3 c3 e3) (hTab.kept g (by simp)),
        fun σ W g h hb => toZ (FCmp_any W _ _ _ _ 1000 (h 25 rfl) (h 15 rfl) (by omega) bL.1 bL.2 bT.1 bT.2) rfl,
        fun σ W g h hb => fun ρ o ho _ hv => ⟨_, le_told true ho ((two_vals hv).1.trans (h 26 rfl)) (two_vals hv).2 (decide_eq_true (rcmp_le.2 f4)), rfl⟩,
        fun σ W g h hb => toZ (FSign_any W _ _ 200 (h 11 rfl) (by omega) bS.1) rfl,
        fun σ W g h hb => fun ρ o ho _ hv => ⟨_, ge_told true ho ((two_vals hv).1.trans (h 28 rfl)) (two_vals hv).2 (decide_eq_true (rsg_ge.2 (sq_nonneg' _ _))), rfl⟩,
        trivial⟩ fun τ W g h => ⟨rfl, g⟩
  · skip
    refine exec_calls mixed Tryz.func7 [sDt x0 y0 d0, sDt x1 y1 d1, sDt x2 y2 d2, sDt x3 y3 d3, sZ i, sZ k, sZ n] [sSH (lat x0 y0 d0) (lat x1 y1 d1) ⟨x0, y0, und d0⟩ ⟨x1, y1, und d1⟩, sSH (lat x2 y2 d2) (lat x3 y3 d3) ⟨x2, y2, und d2⟩ ⟨x3, y3, und d3⟩, sPt (pat (lat x0 y0 d0) (lat x1 y1 d1) (hun i)), sPt (pat (lat x2 y2 d2) (lat x3 y3 d3) (hun k)), sQ (sq (pat (lat x0 y0 d0) (lat x1 y1 d1) (hun i)) (pat (lat x2 y2 d2) (lat x3 y3 d3) (hun k))), sI n, sQ (n : Rat), sV (.bool true), sZ (pcmp (pat (lat x0 y0 d0) (lat x1 y1 d1) (hun i)) (pat (lat x2 y2 d2) (lat x3 y3 d3) (hun k))), sV (.bool false), sQ (toP (lat x0 y0 d0) (lat x1 y1 d1) (pat (lat x2 y2 d2) (lat x3 y3 d3) (hun k))), sV (.bool true), sQ (leastP (lat x0 y0 d0) (lat x1 y1 d1) (lat x2 y2 d2) (lat x3 y3 d3)), sZ (rcmp (leastP (lat x0 y0 d0) (lat x1 y1 d1) (lat x2 y2 d2) (lat x3 y3 d3)) (sq (pat (lat x0 y0 d0) (lat x1 y1 d1) (hun i)) (pat (lat x2 y2 d2) (lat x3 y3 d3) (hun k)))), sV (.bool true), sQ (mostP (lat x0 y0 d0) (lat x1 y1 d1) (lat x2 y2 d2) (lat x3 y3 d3)), sZ (rcmp (sq (pat (lat x0 y0 d0) (lat x1 y1 d1) (hun i)) (pat (lat x2 y2 d2) (lat x3 y3 d3) (hun k))) (mostP (lat x0 y0 d0) (lat x1 y1 d1) (lat x2 y2 d2) (lat x3 y3 d3))), sV (.bool true), sZ (rcmp (toP (lat x0 y0 d0) (lat x1 y1 d1) (pat (lat x2 y2 d2) (lat x3 y3 d3) (hun k))) (sq (pat (lat x0 y0 d0) (lat x1 y1 d1) (hun i)) (pat (lat x2 y2 d2) (lat x3 y3 d3) (hun k)))), sV (.bool true), sQ (leastP (lat x0 y0 d0) (lat x1 y1 d1) (lat x2 y2 d2) (lat x3 y3 d3)), sZ (rcmp (leastP (lat x0 y0 d0) (lat x1 y1 d1) (lat x2 y2 d2) (lat x3 y3 d3)) (toP (lat x0 y0 d0) (lat x1 y1 d1) (pat (lat x2 y2 d2) (lat x3 y3 d3) (hun k)))), sV (.bool true), sZ (rsg (sq (pat (lat x0 y0 d0) (lat x1 y1 d1) (hun i)) (pat (lat x2 y2 d2) (lat x3 y3 d3) (hun k)))), sV (.bool true)] (.cons rfl (.cons rfl (.cons rfl (.cons rfl (.cons rfl (.cons rfl (.cons rfl .nil))))))) (rs := [cl 7 16 [ag 3 0, ag 3 1], cl 8 16 [ag 3 2, ag 3 3], cl 9 29 [ag 16 7, on 4], cl 10 29 [ag 16 8, on 5], cl 11 19 [ag 8 9, ag 8 10], cl 12 31 [on 6], cl 13 30 [ag 2 12], co 14 (.binOp .gtr 3 (.tmp 49) (.const (.int .i64 0)) 3) 4 [on 6, .v false [.lit (.int .i64 0)]] [0, 1, 2, 3, 4, 5, 6, 7, 8, 9, 10, 11, 12, 13] [], cl 15 32 [ag 8 9, ag 8 10], co 16 (.binOp .neq 3 (.tmp 54) (.const (.int .i64 0)) 3) 4 [on 15, .v false [.lit (.int .i64 0)]] [0, 1, 2, 3, 4, 5, 6, 7, 8, 9, 10, 11, 12, 13, 14, 15] [], cl 17 21 [ag 16 7, ag 8 10], cl 18 17 [], cl 19 23 [ag 16 7, ag 16 8], cl 20 33 [ag 4 19, ag 4 11], co 21 (.binOp .leq 3 (.tmp 74) (.const (.int .i64 0)) 3) 4 [on 20, .v false [.lit (.int .i64 0)]] [0, 1, 2, 3, 4, 5, 6, 7, 8, 9, 10, 11, 12, 13, 14, 15, 16, 17, 18, 19, 20] [], cl 22 25 [ag 16 7, ag 16 8], cl 23 33 [ag 4 11, ag 4 22], co 24 (.binOp .leq 3 (.tmp 82) (.const (.int .i64 0)) 3) 4 [on 23, .v false [.lit (.int .i64 0)]] [0, 1, 2, 3, 4, 5, 6, 7, 8, 9, 10, 11, 12, 13, 14, 15, 16, 17, 18, 19, 20, 21, 22, 23] [], cl 25 33 [ag 4 17, ag 4 11], co 26 (.binOp .leq 3 (.tmp 88) (.const (.int .i64 0)) 3) 4 [on 25, .v false [.lit (.int .i64 0)]] [0, 1, 2, 3, 4, 5, 6, 7, 8, 9, 10, 11, 12, 13, 14, 15, 16, 17, 18, 19, 20, 21, 22, 23, 24, 25] [], cl 27 23 [ag 16 7, ag 16 8], cl 28 33 [ag 4 27, ag 4 17], co 29 (.binOp .leq 3 (.tmp 96) (.const (.int .i64 0)) 3) 4 [on 28, .v false [.lit (.int .i64 0)]] [0, 1, 2, 3, 4, 5, 6, 7, 8, 9, 10, 11, 12, 13, 14, 15, 16, 17, 18, 19, 20, 21, 22, 23, 24, 25, 26, 27, 28] [], cl 30 35 [ag 4 11], co 31 (.binOp .geq 3 (.tmp 111) (.const (.int .i64 0)) 3) 4 [on 30, .v false [.lit (.int .i64 0)]] [0, 1, 2, 3, 4, 5, 6, 7, 8, 9, 10, 11, 12, 13, 14, 15, 16, 17, 18, 19, 20, 21, 22, 23, 24, 25, 26, 27, 28, 29, 30] []]) (out := .v false [.lit (.bool true)]) (nc := 32) (by kernel_rfl)
        ⟨fun σ W g h hb => toSH (argl (congr3 (h 0 rfl) (h 1 rfl)) (LSeg12_any W x0 y0 d0 x1 y1 d1 a0 b0 c0 e0 a1 b1 c1 e1 (hTab.kept g (by simp)))),
        fun σ W g h hb => toSH (argl (congr3 (h 2 rfl) (h 3 rfl)) (LSeg12_any W x2 y2 d2 x3 y3 d3 a2 b2 c2 e2 a3 b3 c3 e3 (hTab.kept g (by simp)))),
        fun σ W g h hb => arg1b2 (h 4 rfl) (LPart12_any W _ (lat x0 y0 d0) (lat x1 y1 d1) i (sh1 (h 7 rfl)) (lat_b a0 b0 c0 e0) (lat_b a1 b1 c1 e1) (hTab.kept g (by simp))),
        fun σ W g h hb => arg1b2 (h 5 rfl) (LPart12_any W _ (lat x2 y2 d2) (lat x3 y3 d3) k (sh1 (h 8 rfl)) (lat_b a2 b2 c2 e2) (lat_b a3 b3 c3 e3) (hTab.kept g (by simp))),
        fun σ W g h hb => RSquare_any W _ _ _ _ 13 (h 9 rfl) (h 10 rfl) (by omega) (part_b (n := i) (lat_b a0 b0 c0 e0) (lat_b a1 b1 c1 e1)) (part_b (n := k) (lat_b a2 b2 c2 e2) (lat_b a3 b3 c3 e3)) (hTab.kept g (by simp)),
        fun σ W g h hb => arg1 (h 6 rfl) (ZOf_any W n n1 n2),
        fun σ W g h hb => FWholeOf_any W _ n 1 (h 12 rfl) (by omega) (b1int n1 n2),
        fun σ W g h hb => fun ρ o ho _ hv => ⟨_, gt_told true ho ((two_vals hv).1.trans (h 6 rfl)) (two_vals hv).2 (decide_eq_true (z0)), rfl⟩,
        fun σ W g h hb => toZ (PCmp_any W _ _ _ _ 13 (h 9 rfl) (h 10 rfl) (by omega) (part_b (n := i) (lat_b a0 b0 c0 e0) (lat_b a1 b1 c1 e1)) (part_b (n := k) (lat_b a2 b2 c2 e2) (lat_b a3 b3 c3 e3))) rfl,
        fun σ W g h hb => fun ρ o ho _ hv => ⟨_, ne_told false ho ((two_vals hv).1.trans (h 15 rfl)) (two_vals hv).2 (decide_eq_true (pcmp_zero.2 z1)), rfl⟩,
        fun σ W g h hb => RTo_any W _ _ (lat x0 y0 d0) (lat x1 y1 d1) _ 13 (sh1 (h 7 rfl)) (h 10 rfl) (by omega) (Bp.mono (lat_b a0 b0 c0 e0) (by omega)) (Bp.mono (lat_b a1 b1 c1 e1) (by omega)) (part_b (n := k) (lat_b a2 b2 c2 e2) (lat_b a3 b3 c3 e3)) (hTab.kept g (by simp)),
        fun σ W g h hb => toV (LKnown12_any W (hTab.kept g (by simp))) rfl,
        fun σ W g h hb => RLeast_any W _ _ (lat x0 y0 d0) (lat x1 y1 d1) (lat x2 y2 d2) (lat x3 y3 d3) 1 (sh1 (h 7 rfl)) (sh1 (h 8 rfl)) (by omega) (lat_b a0 b0 c0 e0) (lat_b a1 b1 c1 e1) (lat_b a2 b2 c2 e2) (lat_b a3 b3 c3 e3) (hTab.kept g (by simp)),
        fun σ W g h hb => toZ (FCmp_any W _ _ _ _ 1000 (h 19 rfl) (h 11 rfl) (by omega) bL.1 bL.2 bS1.1 bS1.2) rfl,
        fun σ W g h hb => fun ρ o ho _ hv => ⟨_, le_told true ho ((two_vals hv).1.trans (h 20 rfl)) (two_vals hv).2 (decide_eq_true (rcmp_le.2 f1)), rfl⟩,
        fun σ W g h hb => RMost_any W _ _ (lat x0 y0 d0) (lat x1 y1 d1) (lat x2 y2 d2) (lat x3 y3 d3) 1 (sh1 (h 7 rfl)) (sh1 (h 8 rfl)) (by omega) (lat_b a0 b0 c0 e0) (lat_b a1 b1 c1 e1) (lat_b a2 b2 c2 e2) (lat_b a3 b3 c3 e3) (hTab.kept g (by simp)),
        fun σ W g h hb => toZ (FCmp_any W _ _ _ _ 1000 (h 11 rfl) (h 22 rfl) (by omega) bS1.1 bS1.2 bM.1 bM.2) rfl,
        fun σ W g h hb => fun ρ o ho _ hv => ⟨_, le_told true ho ((two_vals hv).1.trans (h 23 rfl)) (two_vals hv).2 (decide_eq_true (rcmp_le.2 f2)), rfl⟩,
        fun σ W g h hb => toZ (FCmp_any W _ _ _ _ 1000 (h 17 rfl) (h 11 rfl) (by omega) bT.1 bT.2 bS1.1 bS1.2) rfl,
        fun σ W g h hb => fun ρ o ho _ hv => ⟨_, le_told true ho ((two_vals hv).1.trans (h 25 rfl)) (two_vals hv).2 (decide_eq_true (rcmp_le.2 f3)), rfl⟩,
        fun σ W g h hb => RLeast_any W _ _ (lat x0 y0 d0) (lat x1 y1 d1) (lat x2 y2 d2) (lat x3 y3 d3) 1 (sh1 (h 7 rfl)) (sh1 (h 8 rfl)) (by omega) (lat_b a0 b0 c0 e0) (lat_b a1 b1 c1 e1) (lat_b a2 b2 c2 e2) (lat_b a3 b3 c3 e3) (hTab.kept g (by simp)),
        fun σ W g h hb => toZ (FCmp_any W _ _ _ _ 1000 (h 27 rfl) (h 17 rfl) (by omega) bL.1 bL.2 bT.1 bT.2) rfl,
        fun σ W g h hb => fun ρ o ho _ hv => ⟨_, le_told true ho ((two_vals hv).1.trans (h 28 rfl)) (two_vals hv).2 (decide_eq_true (rcmp_le.2 f4)), rfl⟩,
        fun σ W g h hb => toZ (FSign_any W _ _ 200 (h 11 rfl) (by omega) bS.1) rfl,
        fun σ W g h hb => fun ρ o ho _ hv => ⟨_, ge_told true ho ((two_vals hv).1.trans (h 30 rfl)) (two_vals hv).2 (decide_eq_true (rsg_ge.2 (sq_nonneg' _ _))), rfl⟩,
        trivial⟩ fun τ W g h => ⟨rfl, g⟩
  · skip
    refine exec_calls mixed Tryz.func7 [sDt x0 y0 d0, sDt x1 y1 d1, sDt x2 y2 d2, sDt x3 y3 d3, sZ i, sZ k, sZ n] [sSH (lat x0 y0 d0) (lat x1 y1 d1) ⟨x0, y0, und d0⟩ ⟨x1, y1, und d1⟩, sSH (lat x2 y2 d2) (lat x3 y3 d3) ⟨x2, y2, und d2⟩ ⟨x3, y3, und d3⟩, sPt (pat (lat x0 y0 d0) (lat x1 y1 d1) (hun i)), sPt (pat (lat x2 y2 d2) (lat x3 y3 d3) (hun k)), sQ (sq (pat (lat x0 y0 d0) (lat x1 y1 d1) (hun i)) (pat (lat x2 y2 d2) (lat x3 y3 d3) (hun k))), sI n, sQ (n : Rat), sV (.bool true), sZ (pcmp (pat (lat x0 y0 d0) (lat x1 y1 d1) (hun i)) (pat (lat x2 y2 d2) (lat x3 y3 d3) (hun k))), sV (.bool true), sQ ((n : Rat) * n), sZ (rcmp (sq (pat (lat x0 y0 d0) (lat x1 y1 d1) (hun i)) (pat (lat x2 y2 d2) (lat x3 y3 d3) (hun k))) ((n : Rat) * n)), sV (.bool false), sQ (toP (lat x0 y0 d0) (lat x1 y1 d1) (pat (lat x2 y2 d2) (lat x3 y3 d3) (hun k))), sV (.bool true), sQ (leastP (lat x0 y0 d0) (lat x1 y1 d1) (lat x2 y2 d2) (lat x3 y3 d3)), sZ (rcmp (leastP (lat x0 y0 d0) (lat x1 y1 d1) (lat x2 y2 d2) (lat x3 y3 d3)) (sq (pat (lat x0 y0 d0) (lat x1 y1 d1) (hun i)) (pat (lat x2 y2 d2) (lat x3 y3 d3) (hun k)))), sV (.bool true), sQ (mostP (lat x0 y0 d0) (lat x1 y1 d1) (lat x2 y2 d2) (lat x3 y3 d3)), sZ (rcmp (sq (pat (lat x0 y0 d0) (lat x1 y1 d1) (hun i)) (pat (lat x2 y2 d2) (lat x3 y3 d3) (hun k))) (mostP (lat x0 y0 d0) (lat x1 y1 d1) (lat x2 y2 d2) (lat x3 y3 d3))), sV (.bool true), sZ (rcmp (toP (lat x0 y0 d0) (lat x1 y1 d1) (pat (lat x2 y2 d2) (lat x3 y3 d3) (hun k))) (sq (pat (lat x0 y0 d0) (lat x1 y1 d1) (hun i)) (pat (lat x2 y2 d2) (lat x3 y3 d3) (hun k)))), sV (.bool true), sQ (leastP (lat x0 y0 d0) (lat x1 y1 d1) (lat x2 y2 d2) (lat x3 y3 d3)), sZ (rcmp (leastP (lat x0 y0 d0) (lat x1 y1 d1) (lat x2 y2 d2) (lat x3 y3 d3)) (toP (lat x0 y0 d0) (lat x1 y1 d1) (pat (lat x2 y2 d2) (lat x3 y3 d3) (hun k)))), sV (.bool true), sZ (rsg (sq (pat (lat x0 y0 d0) (lat x1 y1 d1) (hun i)) (pat (lat x2 y2 d2) (lat x3 y3 d3) (hun k)))), sV (.bool true)] (.cons rfl (.cons rfl (.cons rfl (.cons rfl (.cons rfl (.cons rfl (.cons rfl .nil))))))) (rs := [cl 7 16 [ag 3 0, ag 3 1], cl 8 16 [ag 3 2, ag 3 3], cl 9 29 [ag 16 7, on 4], cl 10 29 [ag 16 8, on 5], cl 11 19 [ag 8 9, ag 8 10], cl 12 31 [on 6], cl 13 30 [ag 2 12], co 14 (.binOp .gtr 3 (.tmp 49) (.const (.int .i64 0)) 3) 4 [on 6, .v false [.lit (.int .i64 0)]] [0, 1, 2, 3, 4, 5, 6, 7, 8, 9, 10, 11, 12, 13] [], cl 15 32 [ag 8 9, ag 8 10], co 16 (.binOp .neq 3 (.tmp 54) (.const (.int .i64 0)) 3) 4 [on 15, .v false [.lit (.int .i64 0)]] [0, 1, 2, 3, 4, 5, 6, 7, 8, 9, 10, 11, 12, 13, 14, 15] [], cl 17 34 [ag 4 13, ag 4 13], cl 18 33 [ag 4 11, ag 4 17], co 19 (.binOp .lss 3 (.tmp 62) (.const (.int .i64 0)) 3) 4 [on 18, .v false [.lit (.int .i64 0)]] [0, 1, 2, 3, 4, 5, 6, 7, 8, 9, 10, 11, 12, 13, 14, 15, 16, 17, 18] [], cl 20 21 [ag 16 7, ag 8 10], cl 21 17 [], cl 22 23 [ag 16 7, ag 16 8], cl 23 33 [ag 4 22, ag 4 11], co 24 (.binOp .leq 3 (.tmp 74) (.const (.int .i64 0)) 3) 4 [on 23, .v false [.lit (.int .i64 0)]] [0, 1, 2, 3, 4, 5, 6, 7, 8, 9, 10, 11, 12, 13, 14, 15, 16, 17, 18, 19, 20, 21, 22, 23] [], cl 25 25 [ag 16 7, ag 16 8], cl 26 33 [ag 4 11, ag 4 25], co 27 (.binOp .leq 3 (.tmp 82) (.const (.int .i64 0)) 3) 4 [on 26, .v false [.lit (.int .i64 0)]] [0, 1, 2, 3, 4, 5, 6, 7, 8, 9, 10, 11, 12, 13, 14, 15, 16, 17, 18, 19, 20, 21, 22, 23, 24, 25, 26] [], cl 28 33 [ag 4 20, ag 4 11], co 29 (.binOp .leq 3 (.tmp 88) (.const (.int .i64 0)) 3) 4 [on 28, .v false [.lit (.int .i64 0)]] [0, 1, 2, 3, 4, 5, 6, 7, 8, 9, 10, 11, 12, 13, 14, 15, 16, 17, 18, 19, 20, 21, 22, 23, 24, 25, 26, 27, 28] [], cl 30 23 [ag 16 7, ag 16 8], cl 31 33 [ag 4 30, ag 4 20], co 32 (.binOp .leq 3 (.tmp 96) (.const (.int .i64 0)) 3) 4 [on 31, .v false [.lit (.int .i64 0)]] [0, 1, 2, 3, 4, 5, 6, 7, 8, 9, 10, 11, 12, 13, 14, 15, 16, 17, 18, 19, 20, 21, 22, 23, 24, 25, 26, 27, 28, 29, 30, 31] [], cl 33 35 [ag 4 11], co 34 (.binOp .geq 3 (.tmp 111) (.const (.int .i64 0)) 3) 4 [on 33, .v false [.lit (.int .i64 0)]] [0, 1, 2, 3, 4, 5, 6, 7, 8, 9, 10, 11, 12, 13, 14, 15, 16, 17, 18, 19, 20, 21, 22, 23, 24, 25, 26, 27, 28, 29, 30, 31, 32, 33] []]) (out := .v false [.lit (.bool true)]) (nc := 35) (by kernel_rfl)
        ⟨fun σ W g h hb => toSH (argl (congr3 (h 0 rfl) (h 1 rfl)) (LSeg12_any W x0 y0 d0 x1 y1 d1 a0 b0 c0 e0 a1 b1 c1 e1 (hTab.kept g (by simp)))),
        fun σ W g h hb => toSH (argl (congr3 (h 2 rfl) (h 3 rfl)) (LSeg12_any W x2 y2 d2 x3 y3 d3 a2 b2 c2 e2 a3 b3 c3 e3 (hTab.kept g (by simp)))),
        fun σ W g h hb => arg1b2 (h 4 rfl) (LPart12_any W _ (lat x0 y0 d0) (lat x1 y1 d1) i (sh1 (h 7 rfl)) (lat_b a0 b0 c0 e0) (lat_b a1 b1 c1 e1) (hTab.kept g (by simp))),
        fun σ W g h hb => arg1b2 (h 5 rfl) (LPart12_any W _ (lat x2 y2 d2) (lat x3 y3 d3) k (sh1 (h 8 rfl)) (lat_b a2 b2 c2 e2) (lat_b a3 b3 c3 e3) (hTab.kept g (by simp))),
        fun σ W g h hb => RSquare_any W _ _ _ _ 13 (h 9 rfl) (h 10 rfl) (by omega) (part_b (n := i) (lat_b a0 b0 c0 e0) (lat_b a1 b1 c1 e1)) (part_b (n := k) (lat_b a2 b2 c2 e2) (lat_b a3 b3 c3 e3)) (hTab.kept g (by simp)),
        fun σ W g h hb => arg1 (h 6 rfl) (ZOf_any W n n1 n2),
        fun σ W g h hb => FWholeOf_any W _ n 1 (h 12 rfl) (by omega) (b1int n1 n2),
        fun σ W g h hb => fun ρ o ho _ hv => ⟨_, gt_told true ho ((two_vals hv).1.trans (h 6 rfl)) (two_vals hv).2 (decide_eq_true (z0)), rfl⟩,
        fun σ W g h hb => toZ (PCmp_any W _ _ _ _ 13 (h 9 rfl) (h 10 rfl) (by omega) (part_b (n := i) (lat_b a0 b0 c0 e0) (lat_b a1 b1 c1 e1)) (part_b (n := k) (lat_b a2 b2 c2 e2) (lat_b a3 b3 c3 e3))) rfl,
        fun σ W g h hb => fun ρ o ho _ hv => ⟨_, ne_told true ho ((two_vals hv).1.trans (h 15 rfl)) (two_vals hv).2 (decide_eq_false (fun y => z1 (pcmp_zero.1 y))), rfl⟩,
        fun σ W g h hb => FMul_any W _ _ _ _ 1 (h 13 rfl) (h 13 rfl) (by omega) bn.1 bn.2 bn.1 bn.2 (hTab.kept g (by simp)),
        fun σ W g h hb => toZ (FCmp_any W _ _ _ _ 200 (h 11 rfl) (h 17 rfl) (by omega) bS.1 bS.2 bnn.1 bnn.2) rfl,
        fun σ W g h hb => fun ρ o ho _ hv => ⟨_, lt_told false ho ((two_vals hv).1.trans (h 18 rfl)) (two_vals hv).2 (decide_eq_false (fun y => z2 (rcmp_neg.1 y))), rfl⟩,
        fun σ W g h hb => RTo_any W _ _ (lat x0 y0 d0) (lat x1 y1 d1) _ 13 (sh1 (h 7 rfl)) (h 10 rfl) (by omega) (Bp.mono (lat_b a0 b0 c0 e0) (by omega)) (Bp.mono (lat_b a1 b1 c1 e1) (by omega)) (part_b (n := k) (lat_b a2 b2 c2 e2) (lat_b a3 b3 c3 e3)) (hTab.kept g (by simp)),
        fun σ W g h hb => toV (LKnown12_any W (hTab.kept g (by simp))) rfl,
        fun σ W g h hb => RLeast_any W _ _ (lat x0 y0 d0) (lat x1 y1 d1) (lat x2 y2 d2) (lat x3 y3 d3) 1 (sh1 (h 7 rfl)) (sh1 (h 8 rfl)) (by omega) (lat_b a0 b0 c0 e0) (lat_b a1 b1 c1 e1) (lat_b a2 b2 c2 e2) (lat_b a3 b3 c3 e3) (hTab.kept g (by simp)),
        fun σ W g h hb => toZ (FCmp_any W _ _ _ _ 1000 (h 22 rfl) (h 11 rfl) (by omega) bL.1 bL.2 bS1.1 bS1.2) rfl,
        fun σ W g h hb => fun ρ o ho _ hv => ⟨_, le_told true ho ((two_vals hv).1.trans (h 23 rfl)) (two_vals hv).2 (decide_eq_true (rcmp_le.2 f1)), rfl⟩,
        fun σ W g h hb => RMost_any W _ _ (lat x0 y0 d0) (lat x1 y1 d1) (lat x2 y2 d2) (lat x3 y3 d3) 1 (sh1 (h 7 rfl)) (sh1 (h 8 rfl)) (by omega) (lat_b a0 b0 c0 e0) (lat_b a1 b1 c1 e1) (lat_b a2 b2 c2 e2) (lat_b a3 b3 c3 e3) (hTab.kept g (by simp)),
        fun σ W g h hb => toZ (FCmp_any W _ _ _ _ 1000 (h 11 rfl) (h 25 rfl) (by omega) bS1.1 bS1.2 bM.1 bM.2) rfl,
        fun σ W g h hb => fun ρ o ho _ hv => ⟨_, le_told true ho ((two_vals hv).1.trans (h 26 rfl)) (two_vals hv).2 (decide_eq_true (rcmp_le.2 f2)), rfl⟩,
        fun σ W g h hb => toZ (FCmp_any W _ _ _ _ 1000 (h 20 rfl) (h 11 rfl) (by omega) bT.1 bT.2 bS1.1 bS1.2) rfl,
        fun σ W g h hb => fun ρ o ho _ hv => ⟨_, le_told true ho ((two_vals hv).1.trans (h 28 rfl)) (two_vals hv).2 (decide_eq_true (rcmp_le.2 f3)), rfl⟩,
        fun σ W g h hb => RLeast_any W _ _ (lat x0 y0 d0) (lat x1 y1 d1) (lat x2 y2 d2) (lat x3 y3 d3) 1 (sh1 (h 7 rfl)) (sh1 (h 8 rfl)) (by omega) (lat_b a0 b0 c0 e0) (lat_b a1 b1 c1 e1) (lat_b a2 b2 c2 e2) (lat_b a3 b3 c3 e3) (hTab.kept g (by simp)),
        fun σ W g h hb => toZ (FCmp_any W _ _ _ _ 1000 (h 30 rfl) (h 20 rfl) (by omega) bL.1 bL.2 bT.1 bT.2) rfl,
        fun σ W g h hb => fun ρ o ho _ hv => ⟨_, le_told true ho ((two_vals hv).1.trans (h 31 rfl)) (two_vals hv).2 (decide_eq_true (rcmp_le.2 f4)), rfl⟩,
        fun σ W g h hb => toZ (FSign_any W _ _ 200 (h 11 rfl) (by omega) bS.1) rfl,
        fun σ W g h hb => fun ρ o ho _ hv => ⟨_, ge_told true ho ((two_vals hv).1.trans (h 33 rfl)) (two_vals hv).2 (decide_eq_true (rsg_ge.2 (sq_nonneg' _ _))), rfl⟩,
        trivial⟩ fun τ W g h => ⟨rfl, g⟩
  · skip
    refine exec_calls mixed Tryz.func7 [sDt x0 y0 d0, sDt x1 y1 d1, sDt x2 y2 d2, sDt x3 y3 d3, sZ i, sZ k, sZ n] [sSH (lat x0 y0 d0) (lat x1 y1 d1) ⟨x0, y0, und d0⟩ ⟨x1, y1, und d1⟩, sSH (lat x2 y2 d2) (lat x3 y3 d3) ⟨x2, y2, und d2⟩ ⟨x3, y3, und d3⟩, sPt (pat (lat x0 y0 d0) (lat x1 y1 d1) (hun i)), sPt (pat (lat x2 y2 d2) (lat x3 y3 d3) (hun k)), sQ (sq (pat (lat x0 y0 d0) (lat x1 y1 d1) (hun i)) (pat (lat x2 y2 d2) (lat x3 y3 d3) (hun k))), sI n, sQ (n : Rat), sV (.bool true), sZ (pcmp (pat (lat x0 y0 d0) (lat x1 y1 d1) (hun i)) (pat (lat x2 y2 d2) (lat x3 y3 d3) (hun k))), sV (.bool true), sQ ((n : Rat) * n), sZ (rcmp (sq (pat (lat x0 y0 d0) (lat x1 y1 d1) (hun i)) (pat (lat x2 y2 d2) (lat x3 y3 d3) (hun k))) ((n : Rat) * n)), sV (.bool true), sQ (toP (lat x0 y0 d0) (lat x1 y1 d1) (pat (lat x2 y2 d2) (lat x3 y3 d3) (hun k))), sV (.bool true), sQ (leastP (lat x0 y0 d0) (lat x1 y1 d1) (lat x2 y2 d2) (lat x3 y3 d3)), sZ (rcmp (leastP (lat x0 y0 d0) (lat x1 y1 d1) (lat x2 y2 d2) (lat x3 y3 d3)) (sq (pat (lat x0 y0 d0) (lat x1 y1 d1) (hun i)) (pat (lat x2 y2 d2) (lat x3 y3 d3) (hun k)))), sV (.bool true), sQ (mostP (lat x0 y0 d0) (lat x1 y1 d1) (lat x2 y2 d2) (lat x3 y3 d3)), sZ (rcmp (sq (pat (lat x0 y0 d0) (lat x1 y1 d1) (hun i)) (pat (lat x2 y2 d2) (lat x3 y3 d3) (hun k))) (mostP (lat x0 y0 d0) (lat x1 y1 d1) (lat x2 y2 d2) (lat x3 y3 d3))), sV (.bool true), sZ (rcmp (toP (lat x0 y0 d0) (lat x1 y1 d1) (pat (lat x2 y2 d2) (lat x3 y3 d3) (hun k))) (sq (pat (lat x0 y0 d0) (lat x1 y1 d1) (hun i)) (pat (lat x2 y2 d2) (lat x3 y3 d3) (hun k)))), sV (.bool true), sQ (leastP (lat x0 y0 d0) (lat x1 y1 d1) (lat x2 y2 d2) (lat x3 y3 d3)), sZ (rcmp (leastP (lat x0 y0 d0) (lat x1 y1 d1) (lat x2 y2 d2) (lat x3 y3 d3)) (toP (lat x0 y0 d0) (lat x1 y1 d1) (pat (lat x2 y2 d2) (lat x3 y3 d3) (hun k)))), sV (.bool true), sV (.bool true), sZ (rsg (sq (pat (lat x0 y0 d0) (lat x1 y1 d1) (hun i)) (pat (lat x2 y2 d2) (lat x3 y3 d3) (hun k)))), sV (.bool true)] (.cons rfl (.cons rfl (.cons rfl (.cons rfl (.cons rfl (.cons rfl (.cons rfl .nil))))))) (rs := [cl 7 16 [ag 3 0, ag 3 1], cl 8 16 [ag 3 2, ag 3 3], cl 9 29 [ag 16 7, on 4], cl 10 29 [ag 16 8, on 5], cl 11 19 [ag 8 9, ag 8 10], cl 12 31 [on 6], cl 13 30 [ag 2 12], co 14 (.binOp .gtr 3 (.tmp 49) (.const (.int .i64 0)) 3) 4 [on 6, .v false [.lit (.int .i64 0)]] [0, 1, 2, 3, 4, 5, 6, 7, 8, 9, 10, 11, 12, 13] [], cl 15 32 [ag 8 9, ag 8 10], co 16 (.binOp .neq 3 (.tmp 54) (.const (.int .i64 0)) 3) 4 [on 15, .v false [.lit (.int .i64 0)]] [0, 1, 2, 3, 4, 5, 6, 7, 8, 9, 10, 11, 12, 13, 14, 15] [], cl 17 34 [ag 4 13, ag 4 13], cl 18 33 [ag 4 11, ag 4 17], co 19 (.binOp .lss 3 (.tmp 62) (.const (.int .i64 0)) 3) 4 [on 18, .v false [.lit (.int .i64 0)]] [0, 1, 2, 3, 4, 5, 6, 7, 8, 9, 10, 11, 12, 13, 14, 15, 16, 17, 18] [], cl 20 21 [ag 16 7, ag 8 10], cl 21 17 [], cl 22 23 [ag 16 7, ag 16 8], cl 23 33 [ag 4 22, ag 4 11], co 24 (.binOp .leq 3 (.tmp 74) (.const (.int .i64 0)) 3) 4 [on 23, .v false [.lit (.int .i64 0)]] [0, 1, 2, 3, 4, 5, 6, 7, 8, 9, 10, 11, 12, 13, 14, 15, 16, 17, 18, 19, 20, 21, 22, 23] [], cl 25 25 [ag 16 7, ag 16 8], cl 26 33 [ag 4 11, ag 4 25], co 27 (.binOp .leq 3 (.tmp 82) (.const (.int .i64 0)) 3) 4 [on 26, .v false [.lit (.int .i64 0)]] [0, 1, 2, 3, 4, 5, 6, 7, 8, 9, 10, 11, 12, 13, 14, 15, 16, 17, 18, 19, 20, 21, 22, 23, 24, 25, 26] [], cl 28 33 [ag 4 20, ag 4 11], co 29 (.binOp .leq 3 (.tmp 88) (.const (.int .i64 0)) 3) 4 [on 28, .v false [.lit (.int .i64 0)]] [0, 1, 2, 3, 4, 5, 6, 7, 8, 9, 10, 11, 12, 13, 14, 15, 16, 17, 18, 19, 20, 21, 22, 23, 24, 25, 26, 27, 28] [], cl 30 23 [ag 16 7, ag 16 8], cl 31 33 [ag 4 30, ag 4 20], co 32 (.binOp .leq 3 (.tmp 96) (.const (.int .i64 0)) 3) 4 [on 31, .v false [.lit (.int .i64 0)]] [0, 1, 2, 3, 4, 5, 6, 7, 8, 9, 10, 11, 12, 13, 14, 15, 16, 17, 18, 19, 20, 21, 22, 23, 24, 25, 26, 27, 28, 29, 30, 31] [], cl 33 27 [ag 16 7, ag 16 8, on 6], cl 34 35 [ag 4 11], co 35 (.binOp .geq 3 (.tmp 111) (.const (.int .i64 0)) 3) 4 [on 34, .v false [.lit (.int .i64 0)]] [0, 1, 2, 3, 4, 5, 6, 7, 8, 9, 10, 11, 12, 13, 14, 15, 16, 17, 18, 19, 20, 21, 22, 23, 24, 25, 26, 27, 28, 29, 30, 31, 32, 33, 34] []]) (out := .v false [.lit (.bool true)]) (nc := 36) (by kernel_rfl)
        ⟨fun σ W g h hb => toSH (argl (congr3 (h 0 rfl) (h 1 rfl)) (LSeg12_any W x0 y0 d0 x1 y1 d1 a0 b0 c0 e0 a1 b1 c1 e1 (hTab.kept g (by simp)))),
        fun σ W g h hb => toSH (argl (congr3 (h 2 rfl) (h 3 rfl)) (LSeg12_any W x2 y2 d2 x3 y3 d3 a2 b2 c2 e2 a3 b3 c3 e3 (hTab.kept g (by simp)))),
        fun σ W g h hb => arg1b2 (h 4 rfl) (LPart12_any W _ (lat x0 y0 d0) (lat x1 y1 d1) i (sh1 (h 7 rfl)) (lat_b a0 b0 c0 e0) (lat_b a1 b1 c1 e1) (hTab.kept g (by simp))),
        fun σ W g h hb => arg1b2 (h 5 rfl) (LPart12_any W _ (lat x2 y2 d2) (lat x3 y3 d3) k (sh1 (h 8 rfl)) (lat_b a2 b2 c2 e2) (lat_b a3 b3 c3 e3) (hTab.kept g (by simp))),
        fun σ W g h hb => RSquare_any W _ _ _ _ 13 (h 9 rfl) (h 10 rfl) (by omega) (part_b (n := i) (lat_b a0 b0 c0 e0) (lat_b a1 b1 c1 e1)) (part_b (n := k) (lat_b a2 b2 c2 e2) (lat_b a3 b3 c3 e3)) (hTab.kept g (by simp)),
        fun σ W g h hb => arg1 (h 6 rfl) (ZOf_any W n n1 n2),
        fun σ W g h hb => FWholeOf_any W _ n 1 (h 12 rfl) (by omega) (b1int n1 n2),
        fun σ W g h hb => fun ρ o ho _ hv => ⟨_, gt_told true ho ((two_vals hv).1.trans (h 6 rfl)) (two_vals hv).2 (decide_eq_true (z0)), rfl⟩,
        fun σ W g h hb => toZ (PCmp_any W _ _ _ _ 13 (h 9 rfl) (h 10 rfl) (by omega) (part_b (n := i) (lat_b a0 b0 c0 e0) (lat_b a1 b1 c1 e1)) (part_b (n := k) (lat_b a2 b2 c2 e2) (lat_b a3 b3 c3 e3))) rfl,
        fun σ W g h hb => fun ρ o ho _ hv => ⟨_, ne_told true ho ((two_vals hv).1.trans (h 15 rfl)) (two_vals hv).2 (decide_eq_false (fun y => z1 (pcmp_zero.1 y))), rfl⟩,
        fun σ W g h hb => FMul_any W _ _ _ _ 1 (h 13 rfl) (h 13 rfl) (by omega) bn.1 bn.2 bn.1 bn.2 (hTab.kept g (by simp)),
        fun σ W g h hb => toZ (FCmp_any W _ _ _ _ 200 (h 11 rfl) (h 17 rfl) (by omega) bS.1 bS.2 bnn.1 bnn.2) rfl,
        fun σ W g h hb => fun ρ o ho _ hv => ⟨_, lt_told true ho ((two_vals hv).1.trans (h 18 rfl)) (two_vals hv).2 (decide_eq_true (rcmp_neg.2 z2)), rfl⟩,
        fun σ W g h hb => RTo_any W _ _ (lat x0 y0 d0) (lat x1 y1 d1) _ 13 (sh1 (h 7 rfl)) (h 10 rfl) (by omega) (Bp.mono (lat_b a0 b0 c0 e0) (by omega)) (Bp.mono (lat_b a1 b1 c1 e1) (by omega)) (part_b (n := k) (lat_b a2 b2 c2 e2) (lat_b a3 b3 c3 e3)) (hTab.kept g (by simp)),
        fun σ W g h hb => toV (LKnown12_any W (hTab.kept g (by simp))) rfl,
        fun σ W g h hb => RLeast_any W _ _ (lat x0 y0 d0) (lat x1 y1 d1) (lat x2 y2 d2) (lat x3 y3 d3) 1 (sh1 (h 7 rfl)) (sh1 (h 8 rfl)) (by omega) (lat_b a0 b0 c0 e0) (lat_b a1 b1 c1 e1) (lat_b a2 b2 c2 e2) (lat_b a3 b3 c3 e3) (hTab.kept g (by simp)),
        fun σ W g h hb => toZ (FCmp_any W _ _ _ _ 1000 (h 22 rfl) (h 11 rfl) (by omega) bL.1 bL.2 bS1.1 bS1.2) rfl,
        fun σ W g h hb => fun ρ o ho _ hv => ⟨_, le_told true ho ((two_vals hv).1.trans (h 23 rfl)) (two_vals hv).2 (decide_eq_true (rcmp_le.2 f1)), rfl⟩,
        fun σ W g h hb => RMost_any W _ _ (lat x0 y0 d0) (lat x1 y1 d1) (lat x2 y2 d2) (lat x3 y3 d3) 1 (sh1 (h 7 rfl)) (sh1 (h 8 rfl)) (by omega) (lat_b a0 b0 c0 e0) (lat_b a1 b1 c1 e1) (lat_b a2 b2 c2 e2) (lat_b a3 b3 c3 e3) (hTab.kept g (by simp)),
        fun σ W g h hb => toZ (FCmp_any W _ _ _ _ 1000 (h 11 rfl) (h 25 rfl) (by omega) bS1.1 bS1.2 bM.1 bM.2) rfl,
        fun σ W g h hb => fun ρ o ho _ hv => ⟨_, le_told true ho ((two_vals hv).1.trans (h 26 rfl)) (two_vals hv).2 (decide_eq_true (rcmp_le.2 f2)), rfl⟩,
        fun σ W g h hb => toZ (FCmp_any W _ _ _ _ 1000 (h 20 rfl) (h 11 rfl) (by omega) bT.1 bT.2 bS1.1 bS1.2) rfl,
        fun σ W g h hb => fun ρ o ho _ hv => ⟨_, le_told true ho ((two_vals hv).1.trans (h 28 rfl)) (two_vals hv).2 (decide_eq_true (rcmp_le.2 f3)), rfl⟩,
        fun σ W g h hb => RLeast_any W _ _ (lat x0 y0 d0) (lat x1 y1 d1) (lat x2 y2 d2) (lat x3 y3 d3) 1 (sh1 (h 7 rfl)) (sh1 (h 8 rfl)) (by omega) (lat_b a0 b0 c0 e0) (lat_b a1 b1 c1 e1) (lat_b a2 b2 c2 e2) (lat_b a3 b3 c3 e3) (hTab.kept g (by simp)),
        fun σ W g h hb => toZ (FCmp_any W _ _ _ _ 1000 (h 30 rfl) (h 20 rfl) (by omega) bL.1 bL.2 bT.1 bT.2) rfl,
        fun σ W g h hb => fun ρ o ho _ hv => ⟨_, le_told true ho ((two_vals hv).1.trans (h 31 rfl)) (two_vals hv).2 (decide_eq_true (rcmp_le.2 f4)), rfl⟩,
        fun σ W g h hb => toV (argl (congrArg (fun v => [_, _, v]) (h 6 rfl)) (RCloser_any W _ _ (lat x0 y0 d0) (lat x1 y1 d1) (lat x2 y2 d2) (lat x3 y3 d3) 1 (sh1 (h 7 rfl)) (sh1 (h 8 rfl)) (by omega) (lat_b a0 b0 c0 e0) (lat_b a1 b1 c1 e1) (lat_b a2 b2 c2 e2) (lat_b a3 b3 c3 e3) n n1 n2 (hTab.kept g (by simp)))) (congrArg Value.bool (dec_t ⟨z0, _, _, hp, hq, z1, z2⟩)),
        fun σ W g h hb => toZ (FSign_any W _ _ 200 (h 11 rfl) (by omega) bS.1) rfl,
        fun σ W g h hb => fun ρ o ho _ hv => ⟨_, ge_told true ho ((two_vals hv).1.trans (h 34 rfl)) (two_vals hv).2 (decide_eq_true (rsg_ge.2 (sq_nonneg' _ _))), rfl⟩,
        trivial⟩ fun τ W g h => ⟨rfl, g⟩
end Go.Proofs.YtoaepibannfbdaaGreatDoor
namespace Go.Proofs.YtoaepibannfbdaaGreatDoor.ReachBetween
open Go.ChangeShapes Go.WideShapes Go.ChangeAt Go.RowKit Go.ChangeMaps
set_option linter.unusedVariables false
set_option linter.unusedSimpArgs false
set_option maxRecDepth 100000
theorem contract (H : Type) (enc : TypeId × Value → H) (W : World) (base : Nat) (args : Array Value) (ds gs : List (DataW H)) (before : List MemPlace)
    (hval : ∀ (j : Nat) t v, Tryz.f7.params[j]? = some t → args[j]? = some v → Value.okWide Tryz.prog W .any base t v)
    (hW : DataW.Whole enc Tryz.prog Tryz.f7.params.toList Rows.reachBetweenSpec.vars false W args.toList ds gs before) (hL : laidMetH Tryz.prog Rows.reachBetweenRow.laid W) :
    Calls Tryz.prog 7 args W fun e W' => ∃ v, e = .returned v ∧ Rows.reachBetweenSpec.post enc Tryz.prog Tryz.f7 false true false false W args v W' := by
  have hW' := hW
  obtain ⟨p, q, hA0, hV, rfl, hfz, hnd⟩ := hW
  have hA : DataW.TrodAll enc Tryz.prog W 0 (fun _ => true) true Tryz.f7.params.toList args.toList ds p := hA0
  rw [Tryz.params7] at hA hval
  obtain ⟨v0, vs0, d0, ds0, p0, q0, hargs0, rfl, rfl, h0, r0⟩ := trodAll_cons hA
  obtain ⟨v1, vs1, d1, ds1, p1, q1, hargs1, rfl, rfl, h1, r1⟩ := trodAll_cons r0
  obtain ⟨v2, vs2, d2, ds2, p2, q2, hargs2, rfl, rfl, h2, r2⟩ := trodAll_cons r1
  obtain ⟨v3, vs3, d3, ds3, p3, q3, hargs3, rfl, rfl, h3, r3⟩ := trodAll_cons r2
  obtain ⟨v4, vs4, d4, ds4, p4, q4, hargs4, rfl, rfl, h4, r4⟩ := trodAll_cons r3
  obtain ⟨v5, vs5, d5, ds5, p5, q5, hargs5, rfl, rfl, h5, r5⟩ := trodAll_cons r4
  obtain ⟨v6, vs6, d6, ds6, p6, q6, hargs6, rfl, rfl, h6, r6⟩ := trodAll_cons r5
  obtain ⟨rfl, rfl, rfl⟩ := trodAll_nil r6
  obtain rfl : args = #[v0, v1, v2, v3, v4, v5, v6] := by cases args; simp_all
  obtain ⟨rfl, rfl⟩ := trodVars_none hV
  simp only [List.append_nil] at hW' hfz
  have hlt : ∀ p ∈ p0 ++ (p1 ++ (p2 ++ (p3 ++ (p4 ++ (p5 ++ p6))))), p.block < W.heap.size := fun p hp => by
    have := DataW.TrodAll.lt hA p (by simpa using hp)
    exact this
  have hv0 := hval 0 36 v0 rfl rfl
  obtain ⟨x0, y0, z0, rfl, a0, b0, c0⟩ := open_dot hv0 h0
  have hv1 := hval 1 36 v1 rfl rfl
  obtain ⟨x1, y1, z1, rfl, a1, b1, c1⟩ := open_dot hv1 h1
  have hv2 := hval 2 36 v2 rfl rfl
  obtain ⟨x2, y2, z2, rfl, a2, b2, c2⟩ := open_dot hv2 h2
  have hv3 := hval 3 36 v3 rfl rfl
  obtain ⟨x3, y3, z3, rfl, a3, b3, c3⟩ := open_dot hv3 h3
  have hv4 := hval 4 3 v4 rfl rfl
  obtain ⟨x4, rfl, _, _, w4⟩ := open_int Tryz.underlying3 hv4 h4
  have hv5 := hval 5 3 v5 rfl rfl
  obtain ⟨x5, rfl, _, _, w5⟩ := open_int Tryz.underlying3 hv5 h5
  have hv6 := hval 6 3 v6 rfl rfl
  obtain ⟨x6, rfl, _, _, w6⟩ := open_int Tryz.underlying3 hv6 h6
  clear hA0
  refine (reachBetween_walk W x0 y0 z0 x1 y1 z1 x2 y2 z2 x3 y3 z3 x4 x5 x6 a0.1 a0.2 b0.1 b0.2 a1.1 a1.2 b1.1 b1.2 a2.1 a2.2 b2.1 b2.2 a3.1 a3.2 b3.1 b3.2 (i64_wf w4).1 (i64_wf w4).2 (i64_wf w5).1 (i64_wf w5).2 (i64_wf w6).1 (i64_wf w6).2 (tab_of hL)).mono fun e W' ⟨he, hg⟩ => ?_
  subst he
  have hs0 : ∀ sp : Nat → Bool, (∀ p ∈ p0, sp p.block = true) → DataW.Trod enc Tryz.prog W' 0 sp true 36 (.agg #[.int .i64 x0, .int .i64 y0, .int .i64 z0]) d0 p0 := fun sp hsp =>
    Go.WideElems.Trod_stays (by kernel_rfl) (by kernel_rfl) (of_decide_eq_true (by kernel_rfl)) h0 (fun p hp => grown_same hg (hlt p (by simp [hp]))) hsp
  have hs1 : ∀ sp : Nat → Bool, (∀ p ∈ p1, sp p.block = true) → DataW.Trod enc Tryz.prog W' 0 sp true 36 (.agg #[.int .i64 x1, .int .i64 y1, .int .i64 z1]) d1 p1 := fun sp hsp =>
    Go.WideElems.Trod_stays (by kernel_rfl) (by kernel_rfl) (of_decide_eq_true (by kernel_rfl)) h1 (fun p hp => grown_same hg (hlt p (by simp [hp]))) hsp
  have hs2 : ∀ sp : Nat → Bool, (∀ p ∈ p2, sp p.block = true) → DataW.Trod enc Tryz.prog W' 0 sp true 36 (.agg #[.int .i64 x2, .int .i64 y2, .int .i64 z2]) d2 p2 := fun sp hsp =>
    Go.WideElems.Trod_stays (by kernel_rfl) (by kernel_rfl) (of_decide_eq_true (by kernel_rfl)) h2 (fun p hp => grown_same hg (hlt p (by simp [hp]))) hsp
  have hs3 : ∀ sp : Nat → Bool, (∀ p ∈ p3, sp p.block = true) → DataW.Trod enc Tryz.prog W' 0 sp true 36 (.agg #[.int .i64 x3, .int .i64 y3, .int .i64 z3]) d3 p3 := fun sp hsp =>
    Go.WideElems.Trod_stays (by kernel_rfl) (by kernel_rfl) (of_decide_eq_true (by kernel_rfl)) h3 (fun p hp => grown_same hg (hlt p (by simp [hp]))) hsp
  have hs4 : ∀ sp : Nat → Bool, (∀ p ∈ p4, sp p.block = true) → DataW.Trod enc Tryz.prog W' 0 sp true 3 (.int .i64 x4) d4 p4 := fun sp hsp =>
    Go.WideElems.Trod_stays (by kernel_rfl) (by kernel_rfl) (of_decide_eq_true (by kernel_rfl)) h4 (fun p hp => grown_same hg (hlt p (by simp [hp]))) hsp
  have hs5 : ∀ sp : Nat → Bool, (∀ p ∈ p5, sp p.block = true) → DataW.Trod enc Tryz.prog W' 0 sp true 3 (.int .i64 x5) d5 p5 := fun sp hsp =>
    Go.WideElems.Trod_stays (by kernel_rfl) (by kernel_rfl) (of_decide_eq_true (by kernel_rfl)) h5 (fun p hp => grown_same hg (hlt p (by simp [hp]))) hsp
  have hs6 : ∀ sp : Nat → Bool, (∀ p ∈ p6, sp p.block = true) → DataW.Trod enc Tryz.prog W' 0 sp true 3 (.int .i64 x6) d6 p6 := fun sp hsp =>
    Go.WideElems.Trod_stays (by kernel_rfl) (by kernel_rfl) (of_decide_eq_true (by kernel_rfl)) h6 (fun p hp => grown_same hg (hlt p (by simp [hp]))) hsp
  exact ⟨_, rfl, post_places hW' hlt (fun _ _ _ => trodAll_cons_mk (shut_bool Tryz.underlying4 _) trodAll_mk0) (fun sp hsp => by
    have := trodAll_cons_mk (hs0 sp (fun p hp => hsp p (by simp [hp]))) (trodAll_cons_mk (hs1 sp (fun p hp => hsp p (by simp [hp]))) (trodAll_cons_mk (hs2 sp (fun p hp => hsp p (by simp [hp]))) (trodAll_cons_mk (hs3 sp (fun p hp => hsp p (by simp [hp]))) (trodAll_cons_mk (hs4 sp (fun p hp => hsp p (by simp [hp]))) (trodAll_cons_mk (hs5 sp (fun p hp => hsp p (by simp [hp]))) (trodAll_cons_mk (hs6 sp (fun p hp => hsp p (by simp [hp]))) (trodAll_mk0)))))))
    rw [List.append_nil] at this
    exact this) (fun _ => rfl) hg (ok_one (by kernel_rfl) rfl (okWide_bool_mk Tryz.underlying4 _))⟩
theorem laid_met (os : Os) : laidMet Tryz.prog Rows.reachBetweenRow.laid ((laidWorld os).forCall (fun _ _ => 0) ⟨#[], #[.agg #[.int .i64 0, .int .i64 0, .int .i64 0], .agg #[.int .i64 0, .int .i64 0, .int .i64 0], .agg #[.int .i64 0, .int .i64 0, .int .i64 0], .agg #[.int .i64 0, .int .i64 0, .int .i64 0], .int .i64 0, .int .i64 0, .int .i64 0], []⟩).memory :=
  laidMet_of_run' 80 (by kernel_rfl) (by kernel_rfl)
theorem reads (os : Os) {H : Type} (enc : TypeId × Value → H) : ∃ places, DataW.whole enc Tryz.prog ((laidWorld os).forCall (fun _ _ => 0) ⟨#[], #[.agg #[.int .i64 0, .int .i64 0, .int .i64 0], .agg #[.int .i64 0, .int .i64 0, .int .i64 0], .agg #[.int .i64 0, .int .i64 0, .int .i64 0], .agg #[.int .i64 0, .int .i64 0, .int .i64 0], .int .i64 0, .int .i64 0, .int .i64 0], []⟩).memory Tryz.f7.params.toList Rows.reachBetweenSpec.vars false #[Value.agg #[.int .i64 0, .int .i64 0, .int .i64 0], Value.agg #[.int .i64 0, .int .i64 0, .int .i64 0], Value.agg #[.int .i64 0, .int .i64 0, .int .i64 0], Value.agg #[.int .i64 0, .int .i64 0, .int .i64 0], Value.int .i64 0, Value.int .i64 0, Value.int .i64 0].toList 8 = some ([.agg [.lit (.int .i64 0), .lit (.int .i64 0), .lit (.int .i64 0)], .agg [.lit (.int .i64 0), .lit (.int .i64 0), .lit (.int .i64 0)], .agg [.lit (.int .i64 0), .lit (.int .i64 0), .lit (.int .i64 0)], .agg [.lit (.int .i64 0), .lit (.int .i64 0), .lit (.int .i64 0)], .lit (.int .i64 0), .lit (.int .i64 0), .lit (.int .i64 0)], [], places) :=
  ⟨[], by kernel_rfl⟩
theorem lifted (os : Os) (started : os.Started) (H : Type) (enc : TypeId × Value → H) (F : Stop.Interp) :
    ReturnsInHanded {} Tryz.checked os 7 .any ((OpenSpec.ofChange Rows.reachBetweenSpec).preRow enc Tryz.prog Tryz.f7 Rows.reachBetweenRow.domain false Rows.reachBetweenRow.laid) (((OpenSpec.ofChange Rows.reachBetweenSpec).at F).post enc Tryz.prog Tryz.f7 false true false false) := by
  obtain ⟨places, hx⟩ := reads os enc
  refine returnsInHanded_of_row (C := Tryz.checked) (s := OpenSpec.ofChange Rows.reachBetweenSpec) law_own started (by kernel_rfl) Tryz.func7
    (witness_row_at (enc := enc) (C := Tryz.checked) false (laidWorld os) #[.agg #[.int .i64 0, .int .i64 0, .int .i64 0], .agg #[.int .i64 0, .int .i64 0, .int .i64 0], .agg #[.int .i64 0, .int .i64 0, .int .i64 0], .agg #[.int .i64 0, .int .i64 0, .int .i64 0], .int .i64 0, .int .i64 0, .int .i64 0] rfl (by kernel_rfl) (by kernel_rfl) (by kernel_rfl)
      (OpenSpec.preRow_of_cond 8 hx (by kernel_rfl) (fun k hk => by cases hk) (by kernel_rfl) (laid_met os))) ?_
  intro W base args ds gs before hval hW _ _ _ hL _ _
  exact contract H enc W base args ds gs before hval hW hL
theorem said : Rows.ReachBetweenSaid :=
  OpenClaim.holds_of_cond 7 Tryz.f7 rfl rfl rfl rfl rfl rfl rfl ⟨rfl, rfl, rfl, rfl, rfl⟩ rfl rfl rfl rfl rfl (by kernel_rfl) Tryz.func7 (by kernel_rfl)
    (of_decide_eq_true (by kernel_rfl)) (by unfold Func.isWrapper; first | (rw [if_pos (by decide +kernel)]; kernel_rfl) | (rw [if_neg (by decide +kernel)]; exact ⟨rfl, rfl⟩))
    (fun os started H enc _ F => by rw [OpenClaim.pre_eq_preRow]; exact lifted os started H enc F)
theorem plain (f : FuncId) (fn : Func) (hf : Tryz.pinned.checked.prog.funcNamed "pellicle/pelliclelaw12.ReachBetween" = some f) (hfn : Tryz.pinned.checked.prog.funcs[f]? = some fn) :
    false = Tryz.pinned.checked.prog.looks [] ∧ ∀ (j : Nat) t, fn.params[j]? = some t → Tryz.pinned.checked.prog.wantsStandIn t = false := by
  obtain rfl : f = 7 := Option.some.inj ((show Tryz.prog.funcNamed "pellicle/pelliclelaw12.ReachBetween" = some 7 by kernel_rfl).symm.trans hf) |>.symm
  obtain rfl : fn = Tryz.f7 := (Option.some.inj (Tryz.func7.symm.trans hfn)).symm
  refine ⟨by kernel_rfl, fun j t ht => ?_⟩
  rw [Tryz.params7] at ht
  have ht2 := Array.mem_of_getElem? ht
  simp at ht2
  first | (rcases ht2 with rfl | rfl | rfl) | (rcases ht2 with rfl | rfl) | subst ht2
  all_goals exact (show Tryz.prog.wantsStandIn _ = false by kernel_rfl)
theorem card : Rows.ReachBetweenCardSaid :=
  Claim7.holds_tied_plain_at .later [] _ _ _ _ said (fun _ h => by cases h) (by kernel_rfl) (fun _ h => by cases h) reachBetween_row_tie rfl ⟨rfl, rfl⟩ (by kernel_rfl) rfl plain (by kernel_rfl)
end Go.Proofs.YtoaepibannfbdaaGreatDoor.ReachBetween
