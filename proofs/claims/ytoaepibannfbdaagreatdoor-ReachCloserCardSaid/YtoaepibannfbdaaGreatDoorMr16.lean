/- What the laws lean on, part 16. -/
import Derived.Below
import Derived.BigCall
import Derived.BigQuiet
import Derived.BigRegion
import Derived.Deep.AppendLies
import Derived.Deep.CutBlock
import Derived.Deep.CutRange
import Derived.Deep.DeepCutAuto
import Derived.Deep.DeepHandedRow
import Derived.Deep.LoopGhost
import Derived.Deep.MidRow
import Derived.Deep.QuietTactic
import Derived.Deep.RegionHeld3
import Derived.Deep.RegionLaw
import Derived.Deep.WholeRow
import Derived.Laws.AppendOwn
import Derived.Laws.Concat
import Derived.Laws.CopyOwn
import Derived.Laws.Externs
import Derived.Laws.IdiomStrings
import Derived.Lib.BitFns
import Derived.Lib.Bytealg
import Derived.Lib.Hide
import Derived.Lib.Slices
import Derived.Lib.Small
import Derived.Lib.Strings
import Derived.Lib.Walk
import Derived.LoopN
import Derived.Maps.AppendAt
import Derived.OpenShut
import Derived.OrdersHeld
import Derived.Outline
import Derived.OwnWalk
import Derived.ProofKit
import Derived.Shelf.Bits.Mul64
import Derived.Shelf.Spec.TrailingZeros
import Derived.StillTailTactics
import Derived.WalkKit
import Derived.WalkLawsBesides
import Derived.WalkSpells
import Derived.Test.YtoaepibannfbdaaGreatDoorProg
import Derived.Test.YtoaepibannfbdaaGreatDoorRows
import Derived.Test.YtoaepibannfbdaaGreatDoorMr15
namespace Go.Proofs.YtoaepibannfbdaaGreatDoor
open Go.RowKit Mat Ex PM
set_option linter.unusedVariables false
set_option linter.unusedSimpArgs false
set_option maxRecDepth 100000
theorem PMeet_any (w : World) (va vb : Value) (a b c d : Pq) (K : Nat) (Ha : SgV w va a b) (Hb : SgV w vb c d) (hK : 1 ≤ K ∧ K ≤ 50) (ba : Bp K a) (bb : Bp K b) (bc : Bp K c) (bd : Bp K d) (hTab : Tab w) :
    Calls Tryz.prog 44 #[va, vb] w (RetPts w (meetP a b c d)) := by
  rcases (show ¬ ple (pmax (lo a b) (lo c d)) (pmin (hi a b) (hi c d)) ∨ (ple (pmax (lo a b) (lo c d)) (pmin (hi a b) (hi c d)) ∧ OneS (pcross a b c) (pcross a b d)) ∨ (ple (pmax (lo a b) (lo c d)) (pmin (hi a b) (hi c d)) ∧ ¬ OneS (pcross a b c) (pcross a b d) ∧ OneS (pcross c d a) (pcross c d b)) ∨ (ple (pmax (lo a b) (lo c d)) (pmin (hi a b) (hi c d)) ∧ ¬ OneS (pcross a b c) (pcross a b d) ∧ ¬ OneS (pcross c d a) (pcross c d b) ∧ pcross c d a = 0 ∧ pcross c d b = 0) ∨ (ple (pmax (lo a b) (lo c d)) (pmin (hi a b) (hi c d)) ∧ ¬ OneS (pcross a b c) (pcross a b d) ∧ ¬ OneS (pcross c d a) (pcross c d b) ∧ pcross c d a = 0 ∧ pcross c d b ≠ 0) ∨ (ple (pmax (lo a b) (lo c d)) (pmin (hi a b) (hi c d)) ∧ ¬ OneS (pcross a b c) (pcross a b d) ∧ ¬ OneS (pcross c d a) (pcross c d b) ∧ pcross c d a ≠ 0) by grind) with h1 | ⟨h1, h2⟩ | ⟨h1, h2, h3⟩ | ⟨h1, h2, h3, h4, h5⟩ | ⟨h1, h2, h3, h4, h5⟩ | ⟨h1, h2, h3, h4⟩
  · skip
    unfold meetP
    rw [if_neg h1]
    refine exec_calls mixed Tryz.func44 [sSg a b, sSg c d] [sPP (pmax (lo a b) (lo c d)) (pmin (hi a b) (hi c d)), sZ (pcmp (pmax (lo a b) (lo c d)) (pmin (hi a b) (hi c d))), sV (.bool true)] (.cons Ha (.cons Hb .nil)) (rs := [cl 2 91 [ag 16 0, ag 16 1], cl 3 32 [ag 8 2, .v true [.an 2 8, .an 2 9, .an 2 10, .an 2 11, .an 2 12, .an 2 13, .an 2 14, .an 2 15]], co 4 (.binOp .gtr 3 (.tmp 18) (.const (.int .i64 0)) 3) 4 [on 3, .v false [.lit (.int .i64 0)]] [0, 1, 2, 3] []]) (out := .v false [.lit (.slice none 0 0)]) (nc := 5) (by kernel_rfl)
        ⟨fun σ W g h hb => toPP (POverlap_any W _ _ a b c d K (h 0 rfl) (h 1 rfl) (by omega) ba bb bc bd),
        fun σ W g h hb => toZ (PCmp_any W _ _ (pmax (lo a b) (lo c d)) (pmin (hi a b) (hi c d)) K (pp1 (h 2 rfl)) (pp2 (h 2 rfl)) (by omega) ((ba.lo bb).max (bc.lo bd)) ((ba.hi bb).min (bc.hi bd))) rfl,
        fun σ W g h hb => fun ρ o ho _ hv => ⟨_, gt_told true ho ((two_vals hv).1.trans (h 3 rfl)) (two_vals hv).2 (decide_eq_true (pgt.1 h1)), rfl⟩,
        trivial⟩ fun τ W g h => ⟨_, rfl, pts_nil W, g, fp_nil⟩
  · skip
    unfold meetP
    rw [if_pos h1, if_pos h2]
    refine exec_calls mixed Tryz.func44 [sSg a b, sSg c d] [sPP (pmax (lo a b) (lo c d)) (pmin (hi a b) (hi c d)), sZ (pcmp (pmax (lo a b) (lo c d)) (pmin (hi a b) (hi c d))), sV (.bool false), sQQ (pcross a b c) (pcross a b d), sV (.bool true)] (.cons Ha (.cons Hb .nil)) (rs := [cl 2 91 [ag 16 0, ag 16 1], cl 3 32 [ag 8 2, .v true [.an 2 8, .an 2 9, .an 2 10, .an 2 11, .an 2 12, .an 2 13, .an 2 14, .an 2 15]], co 4 (.binOp .gtr 3 (.tmp 18) (.const (.int .i64 0)) 3) 4 [on 3, .v false [.lit (.int .i64 0)]] [0, 1, 2, 3] [], cl 5 93 [ag 16 0, ag 16 1], cl 6 92 [ag 4 5, .v true [.an 5 4, .an 5 5, .an 5 6, .an 5 7]]]) (out := .v false [.lit (.slice none 0 0)]) (nc := 7) (by kernel_rfl)
        ⟨fun σ W g h hb => toPP (POverlap_any W _ _ a b c d K (h 0 rfl) (h 1 rfl) (by omega) ba bb bc bd),
        fun σ W g h hb => toZ (PCmp_any W _ _ (pmax (lo a b) (lo c d)) (pmin (hi a b) (hi c d)) K (pp1 (h 2 rfl)) (pp2 (h 2 rfl)) (by omega) ((ba.lo bb).max (bc.lo bd)) ((ba.hi bb).min (bc.hi bd))) rfl,
        fun σ W g h hb => fun ρ o ho _ hv => ⟨_, gt_told false ho ((two_vals hv).1.trans (h 3 rfl)) (two_vals hv).2 (decide_eq_false (by have := pcmp_le.2 h1; omega)), rfl⟩,
        fun σ W g h hb => toQQ (PAside_any W _ _ a b c d K (h 0 rfl) (h 1 rfl) (by omega) ba bb bc bd (hTab.kept g (by simp))),
        fun σ W g h hb => toV (POneSide_any W _ _ (pcross a b c) (pcross a b d) (8 * K + 5) (qq1 (h 5 rfl)) (qq2 (h 5 rfl)) (by omega) (ba.cross bb bc) (ba.cross bb bd)) (by rw [dec_t h2]),
        trivial⟩ fun τ W g h => ⟨_, rfl, pts_nil W, g, fp_nil⟩
  · skip
    unfold meetP
    rw [if_pos h1, if_neg h2, if_pos h3]
    refine exec_calls mixed Tryz.func44 [sSg a b, sSg c d] [sPP (pmax (lo a b) (lo c d)) (pmin (hi a b) (hi c d)), sZ (pcmp (pmax (lo a b) (lo c d)) (pmin (hi a b) (hi c d))), sV (.bool false), sQQ (pcross a b c) (pcross a b d), sV (.bool false), sQQ (pcross c d a) (pcross c d b), sV (.bool true)] (.cons Ha (.cons Hb .nil)) (rs := [cl 2 91 [ag 16 0, ag 16 1], cl 3 32 [ag 8 2, .v true [.an 2 8, .an 2 9, .an 2 10, .an 2 11, .an 2 12, .an 2 13, .an 2 14, .an 2 15]], co 4 (.binOp .gtr 3 (.tmp 18) (.const (.int .i64 0)) 3) 4 [on 3, .v false [.lit (.int .i64 0)]] [0, 1, 2, 3] [], cl 5 93 [ag 16 0, ag 16 1], cl 6 92 [ag 4 5, .v true [.an 5 4, .an 5 5, .an 5 6, .an 5 7]], cl 7 93 [ag 16 1, ag 16 0], cl 8 92 [ag 4 7, .v true [.an 7 4, .an 7 5, .an 7 6, .an 7 7]]]) (out := .v false [.lit (.slice none 0 0)]) (nc := 9) (by kernel_rfl)
        ⟨fun σ W g h hb => toPP (POverlap_any W _ _ a b c d K (h 0 rfl) (h 1 rfl) (by omega) ba bb bc bd),
        fun σ W g h hb => toZ (PCmp_any W _ _ (pmax (lo a b) (lo c d)) (pmin (hi a b) (hi c d)) K (pp1 (h 2 rfl)) (pp2 (h 2 rfl)) (by omega) ((ba.lo bb).max (bc.lo bd)) ((ba.hi bb).min (bc.hi bd))) rfl,
        fun σ W g h hb => fun ρ o ho _ hv => ⟨_, gt_told false ho ((two_vals hv).1.trans (h 3 rfl)) (two_vals hv).2 (decide_eq_false (by have := pcmp_le.2 h1; omega)), rfl⟩,
        fun σ W g h hb => toQQ (PAside_any W _ _ a b c d K (h 0 rfl) (h 1 rfl) (by omega) ba bb bc bd (hTab.kept g (by simp))),
        fun σ W g h hb => toV (POneSide_any W _ _ (pcross a b c) (pcross a b d) (8 * K + 5) (qq1 (h 5 rfl)) (qq2 (h 5 rfl)) (by omega) (ba.cross bb bc) (ba.cross bb bd)) (by rw [dec_f h2]),
        fun σ W g h hb => toQQ (PAside_any W _ _ c d a b K (h 1 rfl) (h 0 rfl) (by omega) bc bd ba bb (hTab.kept g (by simp))),
        fun σ W g h hb => toV (POneSide_any W _ _ (pcross c d a) (pcross c d b) (8 * K + 5) (qq1 (h 7 rfl)) (qq2 (h 7 rfl)) (by omega) (bc.cross bd ba) (bc.cross bd bb)) (by rw [dec_t h3]),
        trivial⟩ fun τ W g h => ⟨_, rfl, pts_nil W, g, fp_nil⟩
  · skip
    unfold meetP
    rw [if_pos h1, if_neg h2, if_neg h3, if_pos ⟨h4, h5⟩]
    refine exec_calls mixed Tryz.func44 [sSg a b, sSg c d] [sPP (pmax (lo a b) (lo c d)) (pmin (hi a b) (hi c d)), sZ (pcmp (pmax (lo a b) (lo c d)) (pmin (hi a b) (hi c d))), sV (.bool false), sQQ (pcross a b c) (pcross a b d), sV (.bool false), sQQ (pcross c d a) (pcross c d b), sV (.bool false), sZ (rsg (pcross c d a)), sV (.bool true), sZ (rsg (pcross c d b)), sV (.bool true), sPts w.heap.size (btw (pmax (lo a b) (lo c d)) (pmin (hi a b) (hi c d)))] (.cons Ha (.cons Hb .nil)) (rs := [cl 2 91 [ag 16 0, ag 16 1], cl 3 32 [ag 8 2, .v true [.an 2 8, .an 2 9, .an 2 10, .an 2 11, .an 2 12, .an 2 13, .an 2 14, .an 2 15]], co 4 (.binOp .gtr 3 (.tmp 18) (.const (.int .i64 0)) 3) 4 [on 3, .v false [.lit (.int .i64 0)]] [0, 1, 2, 3] [], cl 5 93 [ag 16 0, ag 16 1], cl 6 92 [ag 4 5, .v true [.an 5 4, .an 5 5, .an 5 6, .an 5 7]], cl 7 93 [ag 16 1, ag 16 0], cl 8 92 [ag 4 7, .v true [.an 7 4, .an 7 5, .an 7 6, .an 7 7]], cl 9 35 [ag 4 7], co 10 (.binOp .eql 3 (.tmp 40) (.const (.int .i64 0)) 3) 4 [on 9, .v false [.lit (.int .i64 0)]] [0, 1, 2, 3, 4, 5, 6, 7, 8, 9] [], cl 11 35 [.v true [.an 7 4, .an 7 5, .an 7 6, .an 7 7]], co 12 (.binOp .eql 3 (.tmp 44) (.const (.int .i64 0)) 3) 4 [on 11, .v false [.lit (.int .i64 0)]] [0, 1, 2, 3, 4, 5, 6, 7, 8, 9, 10, 11] [], cl 13 94 [ag 8 2, .v true [.an 2 8, .an 2 9, .an 2 10, .an 2 11, .an 2 12, .an 2 13, .an 2 14, .an 2 15]]]) (out := on 13) (nc := 14) (by kernel_rfl)
        ⟨fun σ W g h hb => toPP (POverlap_any W _ _ a b c d K (h 0 rfl) (h 1 rfl) (by omega) ba bb bc bd),
        fun σ W g h hb => toZ (PCmp_any W _ _ (pmax (lo a b) (lo c d)) (pmin (hi a b) (hi c d)) K (pp1 (h 2 rfl)) (pp2 (h 2 rfl)) (by omega) ((ba.lo bb).max (bc.lo bd)) ((ba.hi bb).min (bc.hi bd))) rfl,
        fun σ W g h hb => fun ρ o ho _ hv => ⟨_, gt_told false ho ((two_vals hv).1.trans (h 3 rfl)) (two_vals hv).2 (decide_eq_false (by have := pcmp_le.2 h1; omega)), rfl⟩,
        fun σ W g h hb => toQQ (PAside_any W _ _ a b c d K (h 0 rfl) (h 1 rfl) (by omega) ba bb bc bd (hTab.kept g (by simp))),
        fun σ W g h hb => toV (POneSide_any W _ _ (pcross a b c) (pcross a b d) (8 * K + 5) (qq1 (h 5 rfl)) (qq2 (h 5 rfl)) (by omega) (ba.cross bb bc) (ba.cross bb bd)) (by rw [dec_f h2]),
        fun σ W g h hb => toQQ (PAside_any W _ _ c d a b K (h 1 rfl) (h 0 rfl) (by omega) bc bd ba bb (hTab.kept g (by simp))),
        fun σ W g h hb => toV (POneSide_any W _ _ (pcross c d a) (pcross c d b) (8 * K + 5) (qq1 (h 7 rfl)) (qq2 (h 7 rfl)) (by omega) (bc.cross bd ba) (bc.cross bd bb)) (by rw [dec_f h3]),
        fun σ W g h hb => toZ (FSign_any W _ _ (8 * K + 5) (qq1 (h 7 rfl)) (by omega) (bc.cross bd ba).1) rfl,
        fun σ W g h hb => fun ρ o ho _ hv => ⟨_, eq_told true ho ((two_vals hv).1.trans (h 9 rfl)) (two_vals hv).2 (decide_eq_true (rsg_zero.2 h4)), rfl⟩,
        fun σ W g h hb => toZ (FSign_any W _ _ (8 * K + 5) (qq2 (h 7 rfl)) (by omega) (bc.cross bd bb).1) rfl,
        fun σ W g h hb => fun ρ o ho _ hv => ⟨_, eq_told true ho ((two_vals hv).1.trans (h 11 rfl)) (two_vals hv).2 (decide_eq_true (rsg_zero.2 h5)), rfl⟩,
        fun σ W g h hb => toPts g.size (PBetween_any W _ _ _ _ K (pp1 (h 2 rfl)) (pp2 (h 2 rfl)) (by omega) ((ba.lo bb).max (bc.lo bd)) ((ba.hi bb).min (bc.hi bd)) (hTab.kept g (by simp))),
        trivial⟩ fun τ W g h => ⟨_, rfl, (h 13 rfl).1, g, (h 13 rfl).2⟩
  · skip
    unfold meetP
    rw [if_pos h1, if_neg h2, if_neg h3, if_neg (fun q => h5 q.2)]
    have hne : pcross c d a ≠ pcross c d b := by rw [h4]; exact Ne.symm h5
    refine exec_calls mixed Tryz.func44 [sSg a b, sSg c d] [sPP (pmax (lo a b) (lo c d)) (pmin (hi a b) (hi c d)), sZ (pcmp (pmax (lo a b) (lo c d)) (pmin (hi a b) (hi c d))), sV (.bool false), sQQ (pcross a b c) (pcross a b d), sV (.bool false), sQQ (pcross c d a) (pcross c d b), sV (.bool false), sZ (rsg (pcross c d a)), sV (.bool true), sZ (rsg (pcross c d b)), sV (.bool false), sPt (pat a b (pcross c d a / (pcross c d a - pcross c d b))), sPts w.heap.size (btw (pat a b (pcross c d a / (pcross c d a - pcross c d b))) (pat a b (pcross c d a / (pcross c d a - pcross c d b))))] (.cons Ha (.cons Hb .nil)) (rs := [cl 2 91 [ag 16 0, ag 16 1], cl 3 32 [ag 8 2, .v true [.an 2 8, .an 2 9, .an 2 10, .an 2 11, .an 2 12, .an 2 13, .an 2 14, .an 2 15]], co 4 (.binOp .gtr 3 (.tmp 18) (.const (.int .i64 0)) 3) 4 [on 3, .v false [.lit (.int .i64 0)]] [0, 1, 2, 3] [], cl 5 93 [ag 16 0, ag 16 1], cl 6 92 [ag 4 5, .v true [.an 5 4, .an 5 5, .an 5 6, .an 5 7]], cl 7 93 [ag 16 1, ag 16 0], cl 8 92 [ag 4 7, .v true [.an 7 4, .an 7 5, .an 7 6, .an 7 7]], cl 9 35 [ag 4 7], co 10 (.binOp .eql 3 (.tmp 40) (.const (.int .i64 0)) 3) 4 [on 9, .v false [.lit (.int .i64 0)]] [0, 1, 2, 3, 4, 5, 6, 7, 8, 9] [], cl 11 35 [.v true [.an 7 4, .an 7 5, .an 7 6, .an 7 7]], co 12 (.binOp .eql 3 (.tmp 44) (.const (.int .i64 0)) 3) 4 [on 11, .v false [.lit (.int .i64 0)]] [0, 1, 2, 3, 4, 5, 6, 7, 8, 9, 10, 11] [], cl 13 95 [ag 16 0, ag 4 7, .v true [.an 7 4, .an 7 5, .an 7 6, .an 7 7]], cl 14 94 [ag 8 13, ag 8 13]]) (out := on 14) (nc := 15) (by kernel_rfl)
        ⟨fun σ W g h hb => toPP (POverlap_any W _ _ a b c d K (h 0 rfl) (h 1 rfl) (by omega) ba bb bc bd),
        fun σ W g h hb => toZ (PCmp_any W _ _ (pmax (lo a b) (lo c d)) (pmin (hi a b) (hi c d)) K (pp1 (h 2 rfl)) (pp2 (h 2 rfl)) (by omega) ((ba.lo bb).max (bc.lo bd)) ((ba.hi bb).min (bc.hi bd))) rfl,
        fun σ W g h hb => fun ρ o ho _ hv => ⟨_, gt_told false ho ((two_vals hv).1.trans (h 3 rfl)) (two_vals hv).2 (decide_eq_false (by have := pcmp_le.2 h1; omega)), rfl⟩,
        fun σ W g h hb => toQQ (PAside_any W _ _ a b c d K (h 0 rfl) (h 1 rfl) (by omega) ba bb bc bd (hTab.kept g (by simp))),
        fun σ W g h hb => toV (POneSide_any W _ _ (pcross a b c) (pcross a b d) (8 * K + 5) (qq1 (h 5 rfl)) (qq2 (h 5 rfl)) (by omega) (ba.cross bb bc) (ba.cross bb bd)) (by rw [dec_f h2]),
        fun σ W g h hb => toQQ (PAside_any W _ _ c d a b K (h 1 rfl) (h 0 rfl) (by omega) bc bd ba bb (hTab.kept g (by simp))),
        fun σ W g h hb => toV (POneSide_any W _ _ (pcross c d a) (pcross c d b) (8 * K + 5) (qq1 (h 7 rfl)) (qq2 (h 7 rfl)) (by omega) (bc.cross bd ba) (bc.cross bd bb)) (by rw [dec_f h3]),
        fun σ W g h hb => toZ (FSign_any W _ _ (8 * K + 5) (qq1 (h 7 rfl)) (by omega) (bc.cross bd ba).1) rfl,
        fun σ W g h hb => fun ρ o ho _ hv => ⟨_, eq_told true ho ((two_vals hv).1.trans (h 9 rfl)) (two_vals hv).2 (decide_eq_true (rsg_zero.2 h4)), rfl⟩,
        fun σ W g h hb => toZ (FSign_any W _ _ (8 * K + 5) (qq2 (h 7 rfl)) (by omega) (bc.cross bd bb).1) rfl,
        fun σ W g h hb => fun ρ o ho _ hv => ⟨_, eq_told false ho ((two_vals hv).1.trans (h 11 rfl)) (two_vals hv).2 (decide_eq_false (fun q => h5 (rsg_zero.1 q))), rfl⟩,
        fun σ W g h hb => PCut_any W _ _ _ a b _ _ K (8 * K + 5) (h 0 rfl) (qq1 (h 7 rfl)) (qq2 (h 7 rfl)) (by omega) ba bb (bc.cross bd ba) (bc.cross bd bb) hne (hTab.kept g (by simp)),
        fun σ W g h hb => toPts g.size (PBetween_any W _ _ _ _ (128 * K + 100) (h 13 rfl) (h 13 rfl) (by omega) (ba.cut bb bc bd) (ba.cut bb bc bd) (hTab.kept g (by simp))),
        trivial⟩ fun τ W g h => ⟨_, rfl, (h 14 rfl).1, g, (h 14 rfl).2⟩
  · skip
    unfold meetP
    rw [if_pos h1, if_neg h2, if_neg h3, if_neg (fun q => h4 q.1)]
    have hne : pcross c d a ≠ pcross c d b := fun e => h3 (by unfold OneS; rw [← e]; grind)
    refine exec_calls mixed Tryz.func44 [sSg a b, sSg c d] [sPP (pmax (lo a b) (lo c d)) (pmin (hi a b) (hi c d)), sZ (pcmp (pmax (lo a b) (lo c d)) (pmin (hi a b) (hi c d))), sV (.bool false), sQQ (pcross a b c) (pcross a b d), sV (.bool false), sQQ (pcross c d a) (pcross c d b), sV (.bool false), sZ (rsg (pcross c d a)), sV (.bool false), sPt (pat a b (pcross c d a / (pcross c d a - pcross c d b))), sPts w.heap.size (btw (pat a b (pcross c d a / (pcross c d a - pcross c d b))) (pat a b (pcross c d a / (pcross c d a - pcross c d b))))] (.cons Ha (.cons Hb .nil)) (rs := [cl 2 91 [ag 16 0, ag 16 1], cl 3 32 [ag 8 2, .v true [.an 2 8, .an 2 9, .an 2 10, .an 2 11, .an 2 12, .an 2 13, .an 2 14, .an 2 15]], co 4 (.binOp .gtr 3 (.tmp 18) (.const (.int .i64 0)) 3) 4 [on 3, .v false [.lit (.int .i64 0)]] [0, 1, 2, 3] [], cl 5 93 [ag 16 0, ag 16 1], cl 6 92 [ag 4 5, .v true [.an 5 4, .an 5 5, .an 5 6, .an 5 7]], cl 7 93 [ag 16 1, ag 16 0], cl 8 92 [ag 4 7, .v true [.an 7 4, .an 7 5, .an 7 6, .an 7 7]], cl 9 35 [ag 4 7], co 10 (.binOp .eql 3 (.tmp 40) (.const (.int .i64 0)) 3) 4 [on 9, .v false [.lit (.int .i64 0)]] [0, 1, 2, 3, 4, 5, 6, 7, 8, 9] [], cl 11 95 [ag 16 0, ag 4 7, .v true [.an 7 4, .an 7 5, .an 7 6, .an 7 7]], cl 12 94 [ag 8 11, ag 8 11]]) (out := on 12) (nc := 13) (by kernel_rfl)
        ⟨fun σ W g h hb => toPP (POverlap_any W _ _ a b c d K (h 0 rfl) (h 1 rfl) (by omega) ba bb bc bd),
        fun σ W g h hb => toZ (PCmp_any W _ _ (pmax (lo a b) (lo c d)) (pmin (hi a b) (hi c d)) K (pp1 (h 2 rfl)) (pp2 (h 2 rfl)) (by omega) ((ba.lo bb).max (bc.lo bd)) ((ba.hi bb).min (bc.hi bd))) rfl,
        fun σ W g h hb => fun ρ o ho _ hv => ⟨_, gt_told false ho ((two_vals hv).1.trans (h 3 rfl)) (two_vals hv).2 (decide_eq_false (by have := pcmp_le.2 h1; omega)), rfl⟩,
        fun σ W g h hb => toQQ (PAside_any W _ _ a b c d K (h 0 rfl) (h 1 rfl) (by omega) ba bb bc bd (hTab.kept g (by simp))),
        fun σ W g h hb => toV (POneSide_any W _ _ (pcross a b c) (pcross a b d) (8 * K + 5) (qq1 (h 5 rfl)) (qq2 (h 5 rfl)) (by omega) (ba.cross bb bc) (ba.cross bb bd)) (by rw [dec_f h2]),
        fun σ W g h hb => toQQ (PAside_any W _ _ c d a b K (h 1 rfl) (h 0 rfl) (by omega) bc bd ba bb (hTab.kept g (by simp))),
        fun σ W g h hb => toV (POneSide_any W _ _ (pcross c d a) (pcross c d b) (8 * K + 5) (qq1 (h 7 rfl)) (qq2 (h 7 rfl)) (by omega) (bc.cross bd ba) (bc.cross bd bb)) (by rw [dec_f h3]),
        fun σ W g h hb => toZ (FSign_any W _ _ (8 * K + 5) (qq1 (h 7 rfl)) (by omega) (bc.cross bd ba).1) rfl,
        fun σ W g h hb => fun ρ o ho _ hv => ⟨_, eq_told false ho ((two_vals hv).1.trans (h 9 rfl)) (two_vals hv).2 (decide_eq_false (fun q => h4 (rsg_zero.1 q))), rfl⟩,
        fun σ W g h hb => PCut_any W _ _ _ a b _ _ K (8 * K + 5) (h 0 rfl) (qq1 (h 7 rfl)) (qq2 (h 7 rfl)) (by omega) ba bb (bc.cross bd ba) (bc.cross bd bb) hne (hTab.kept g (by simp)),
        fun σ W g h hb => toPts g.size (PBetween_any W _ _ _ _ (128 * K + 100) (h 11 rfl) (h 11 rfl) (by omega) (ba.cut bb bc bd) (ba.cut bb bc bd) (hTab.kept g (by simp))),
        trivial⟩ fun τ W g h => ⟨_, rfl, (h 12 rfl).1, g, (h 12 rfl).2⟩
end Go.Proofs.YtoaepibannfbdaaGreatDoor
namespace Go.Proofs.YtoaepibannfbdaaGreatDoor
open Go.RowKit Mat
set_option maxRecDepth 100000
set_option linter.unusedVariables false
set_option linter.unusedSimpArgs false
def Far (g : Nat) (w : World) (s : Option Addr) (xs : List Nat) : Prop := xs = [] ∨ ∃ (b off : Nat) (cs : Array Value), s = some ⟨b, off, none⟩ ∧ b ≠ g ∧ RBlk w b cs ∧ RAt cs off xs
theorem Far.rd {g : Nat} {w : World} {s : Option Addr} {xs : List Nat} (h : Far g w s xs) : RRdo w s xs := by
  rcases h with h | ⟨b, off, cs, e, _, h1, h2⟩
  · exact Or.inl h
  · exact Or.inr ⟨b, off, cs, e, h1, h2⟩
theorem Far.kept {g : Nat} {w w' : World} {s : Option Addr} {xs : List Nat} (h : Far g w s xs) (hg : w.grownBy w' none) : Far g w' s xs := by
  rcases h with h | ⟨b, off, cs, e, hn, h1, h2⟩
  · exact Or.inl h
  · exact Or.inr ⟨b, off, cs, e, hn, h1.kept hg (by simp), h2⟩
theorem Far.setCell {g : Nat} {w : World} {s : Option Addr} {xs : List Nat} (h : Far g w s xs) (o : Nat) (v : Value) : Far g (w.setCell ⟨g, o, none⟩ v) s xs := by
  rcases h with h | ⟨b, off, cs, e, hn, h1, h2⟩
  · exact Or.inl h
  · refine Or.inr ⟨b, off, cs, e, hn, (Below.heap_setCell _ _ _ _ ?_).trans h1, h2⟩
    simpa using hn
theorem Ints.kept {w w' : World} {g : Nat} {zs : List Nat} (h : Ints w g zs) (hg : w.grownBy w' none) : Ints w' g zs := RBlk.kept h hg (by simp)
def Boxed (w : World) (b n : Nat) : Prop := ∃ s k c, w.heap[b]? = some (.cells #[.slice s k c] 39 (0, 0)) ∧ RefV w (.agg #[.slice s k c]) n
theorem Far.take {g : Nat} {w : World} {s : Option Addr} {xs : List Nat} (h : Far g w s xs) (k : Nat) : Far g w s (xs.take k) := by
  rcases h with h | ⟨b, off, cs, e, hn, h1, h2⟩
  · exact Or.inl (by rw [h]; simp)
  · exact Or.inr ⟨b, off, cs, e, hn, h1, h2.take k⟩
theorem Far.set_other {w : World} {s : Option Addr} {xs : List Nat} {g b7 : Nat} {c : Array Value} {t : TypeId} (h : Far g w s xs) (hbox : w.heap[b7]? = some (.cells c t (0, 0))) (ht : t ≠ 3) (o : Nat) (u : Value) : Far g (w.setCell ⟨b7, o, none⟩ u) s xs := by
  rcases h with h | ⟨b, off, cs, e, hn, h1, h2⟩
  · exact Or.inl h
  · refine Or.inr ⟨b, off, cs, e, hn, (Below.heap_setCell _ _ _ _ ?_).trans h1, h2⟩
    intro e2
    simp only at e2
    unfold RBlk at h1
    subst e2
    rw [hbox] at h1
    simp at h1
    exact ht h1.2
theorem Boxed.cell {w : World} {b n : Nat} (h : Boxed w b n) : ∃ s k c, w.heap[b]? = some (.cells #[.slice s k c] 39 (0, 0)) ∧ RefV w (.agg #[.slice s k c]) n := h
theorem Boxed.kept {w w' : World} {b n : Nat} (h : Boxed w b n) (hg : w.grownBy w' none) : Boxed w' b n := by
  obtain ⟨s, k, c, h1, h2⟩ := h
  exact ⟨s, k, c, heap_kept hg h1, h2.kept hg⟩
theorem Boxed.set {w : World} {b n : Nat} {u : Value} {s : Option Addr} {k c : Nat} (h : w.heap[b]? = some (.cells #[u] 39 (0, 0))) (hv : RefV w (.agg #[.slice s k c]) n) : Boxed (w.setCell ⟨b, 0, none⟩ (.slice s k c)) b n :=
  ⟨s, k, c, heap_set h _, hv.set_other h (by decide) 0 _⟩
end Go.Proofs.YtoaepibannfbdaaGreatDoor
namespace Go.Proofs.YtoaepibannfbdaaGreatDoor
open Go.RowKit Mat Ex
set_option linter.unusedVariables false
set_option linter.unusedSimpArgs false
set_option maxRecDepth 100000
def RQ (w : World) (v : Value) (r : Rat) (E : Nat) : Prop := ∃ (g : Int) (s : Option Addr) (l c : Nat) (g' : Int) (s' : Option Addr) (l' c' : Nat) (n d : Int), v = .agg #[.int .i64 g, .slice s l c, .int .i64 g', .slice s' l' c'] ∧ RIntV w (.agg #[.int .i64 g, .slice s l c]) n ∧ RIntV w (.agg #[.int .i64 g', .slice s' l' c']) d ∧ Hid (0 < d ∧ Rat.divInt n d = r ∧ n.natAbs < D ^ E ∧ d.natAbs < D ^ E)
theorem RQ.kept {w w' : World} {v : Value} {r : Rat} {E : Nat} (h : RQ w v r E) (hg : w.grownBy w' none) : RQ w' v r E := by
  obtain ⟨g, s, l, c, g', s', l', c', n, d, e, h1, h2, h3⟩ := h
  exact ⟨g, s, l, c, g', s', l', c', n, d, e, h1.kept hg, h2.kept hg, h3⟩
theorem dpw {a E M : Nat} (h : a < D ^ E) (hE : E ≤ M) : a < D ^ M := Nat.lt_of_lt_of_le h (Nat.pow_le_pow_right D_pos hE)
theorem RQ.mono {w : World} {v : Value} {r : Rat} {E M : Nat} (h : RQ w v r E) (hE : E ≤ M) : RQ w v r M := by
  obtain ⟨g, s, l, c, g', s', l', c', n, d, e, h1, h2, h3, h4, h5, h6⟩ := h
  exact ⟨g, s, l, c, g', s', l', c', n, d, e, h1, h2, h3, h4, dpw h5 hE, dpw h6 hE⟩
theorem RQ.of {w : World} {g g' : Int} {s s' : Option Addr} {l c l' c' : Nat} {n d : Int} {r : Rat} {E : Nat} (h1 : RIntV w (.agg #[.int .i64 g, .slice s l c]) n) (h2 : RIntV w (.agg #[.int .i64 g', .slice s' l' c']) d) (h3 : 0 < d) (h4 : Rat.divInt n d = r) (h5 : n.natAbs < D ^ E) (h6 : d.natAbs < D ^ E) : RQ w (.agg #[.int .i64 g, .slice s l c, .int .i64 g', .slice s' l' c']) r E :=
  ⟨g, s, l, c, g', s', l', c', n, d, rfl, h1, h2, h3, h4, h5, h6⟩
theorem dmul_bd {x y : Int} {E F : Nat} (hx : x.natAbs < D ^ E) (hy : y.natAbs < D ^ F) : (x * y).natAbs < D ^ (E + F) := by
  rw [Int.natAbs_mul, Nat.pow_add]; exact Nat.mul_lt_mul'' hx hy
theorem dadd_bd {x y : Int} {E : Nat} (hx : x.natAbs < D ^ E) (hy : y.natAbs < D ^ E) : (x + y).natAbs < D ^ (E + 1) := by
  have h1 := Int.natAbs_add_le x y
  rw [Nat.pow_succ]
  have h2 : D ^ E * 2 ≤ D ^ E * D := Nat.mul_le_mul_left _ (by unfold D; omega)
  omega
theorem dneg_bd {x : Int} {E : Nat} (hx : x.natAbs < D ^ E) : (-x).natAbs < D ^ E := by rw [Int.natAbs_neg]; exact hx
theorem RRdo.keeps {W W' : World} {sa : Option Addr} {xs : List Nat} (h : RRdo W sa xs) (k : Keeps limbT W W') : RRdo W' sa xs := by
  rcases h with h | ⟨b, off, cs, e, h1, h2⟩
  · exact Or.inl h
  · exact Or.inr ⟨b, off, cs, e, k b cs _ _ rfl h1, h2⟩
theorem RefV.keeps {W W' : World} {v : Value} {n : Nat} (h : RefV W v n) (k : Keeps limbT W W') : RefV W' v n := by
  obtain ⟨s, l, cap, xs, e, h1, h2, h3, h4⟩ := h
  exact ⟨s, l, cap, xs, e, h1, h2, h3.keeps k, h4⟩
theorem RIntV.keeps {W W' : World} {v : Value} {z : Int} (h : RIntV W v z) (k : Keeps limbT W W') : RIntV W' v z := by
  obtain ⟨g, s, l, c, e, h1, h2⟩ := h
  exact ⟨g, s, l, c, e, h1, h2.keeps k⟩
theorem RQ.keeps {W W' : World} {v : Value} {r : Rat} {E : Nat} (h : RQ W v r E) (k : Keeps limbT W W') : RQ W' v r E := by
  obtain ⟨g, s, l, c, g', s', l', c', n, d, e, h1, h2, h3⟩ := h
  exact ⟨g, s, l, c, g', s', l', c', n, d, e, h1.keeps k, h2.keeps k, h3⟩
def RF (w : World) (v : Value) (n d : Int) : Prop := ∃ (g : Int) (s : Option Addr) (l c : Nat) (g' : Int) (s' : Option Addr) (l' c' : Nat), v = .agg #[.int .i64 g, .slice s l c, .int .i64 g', .slice s' l' c'] ∧ RIntV w (.agg #[.int .i64 g, .slice s l c]) n ∧ RIntV w (.agg #[.int .i64 g', .slice s' l' c']) d
theorem RF.keeps {W W' : World} {v : Value} {n d : Int} (h : RF W v n d) (k : Keeps limbT W W') : RF W' v n d := by
  obtain ⟨g, s, l, c, g', s', l', c', e, h1, h2⟩ := h
  exact ⟨g, s, l, c, g', s', l', c', e, h1.keeps k, h2.keeps k⟩
def sR (z : Int) : Sp := .of (.agg 2) (fun v W => RIntV W v z) (fun v W h => by
  obtain ⟨g, s, l, c, rfl, _⟩ := h
  exact ⟨cellf [.int .i64 g, .slice s l c], cellf_one (by simp [Value.oneCell']), rfl⟩) (fun v W W' k h => h.keeps k)
theorem rn {W : World} {a b c d : Value} {n m : Int} : RF W (.agg #[a, b, c, d]) n m → RIntV W (.agg #[a, b]) n := by
  rintro ⟨g, s, l, k, g', s', l', k', e, h, h'⟩; cases e; exact h
theorem rd {W : World} {a b c d : Value} {n m : Int} : RF W (.agg #[a, b, c, d]) n m → RIntV W (.agg #[c, d]) m := by
  rintro ⟨g, s, l, k, g', s', l', k', e, h, h'⟩; cases e; exact h'
section
variable {P : Program} {f : FuncId} {args : Array Value} {W : World}
end
end Go.Proofs.YtoaepibannfbdaaGreatDoor
namespace Go.Proofs.YtoaepibannfbdaaGreatDoor
open Go.RowKit Mat Ex PM
set_option linter.unusedVariables false
set_option linter.unusedSimpArgs false
structure H3 where
  x : Int
  y : Int
  z : Int
def rp (a : H3) : Pq := (Rat.divInt a.x a.z, Rat.divInt a.y a.z)
def HB (E : Nat) (a : H3) : Prop := a.x.natAbs < D ^ E ∧ a.y.natAbs < D ^ E ∧ a.z.natAbs < D ^ E
theorem HB.mono {E M : Nat} {a : H3} (h : HB E a) (hE : E ≤ M) : HB M a := ⟨dpw h.1 hE, dpw h.2.1 hE, dpw h.2.2 hE⟩
def HV (w : World) (v : Value) (p : H3) : Prop := ∃ a b c d e f : Value, v = .agg #[a, b, c, d, e, f] ∧ RIntV w (.agg #[a, b]) p.x ∧ RIntV w (.agg #[c, d]) p.y ∧ RIntV w (.agg #[e, f]) p.z
theorem HV.keeps {W W' : World} {v : Value} {p : H3} (h : HV W v p) (k : Keeps limbT W W') : HV W' v p := by
  obtain ⟨a, b, c, d, e, f, q, h1, h2, h3⟩ := h
  exact ⟨a, b, c, d, e, f, q, h1.keeps k, h2.keeps k, h3.keeps k⟩
theorem HV.kept {w w' : World} {v : Value} {p : H3} (h : HV w v p) (g : w.grownBy w' none) : HV w' v p := by
  obtain ⟨a, b, c, d, e, f, q, h1, h2, h3⟩ := h
  exact ⟨a, b, c, d, e, f, q, h1.kept g, h2.kept g, h3.kept g⟩
theorem RIntV.one {w : World} {a b : Value} {z : Int} (h : RIntV w (.agg #[a, b]) z) : a.oneCell' = true ∧ b.oneCell' = true := by
  obtain ⟨g, s, l, c, e, _⟩ := h; cases e; exact ⟨rfl, rfl⟩
theorem HV.one {w : World} {a b c d e f : Value} {p : H3} (h : HV w (.agg #[a, b, c, d, e, f]) p) : ∀ x ∈ [a, b, c, d, e, f], x.oneCell' = true := by
  obtain ⟨_, _, _, _, _, _, q, h1, h2, h3⟩ := h
  cases q
  simp [h1.one, h2.one, h3.one]
def sH (p : H3) : Sp := .of (.agg 6) (fun v W => HV W v p) (fun v W h => by
  have h0 := h
  obtain ⟨a, b, c, d, e, f, rfl, _⟩ := h
  exact ⟨cellf [a, b, c, d, e, f], cellf_one h0.one, rfl⟩) (fun v W W' k h => h.keeps k)
theorem mkh {W : World} {a b c d e f : Value} {p : H3} (h1 : RIntV W (.agg #[a, b]) p.x) (h2 : RIntV W (.agg #[c, d]) p.y) (h3 : RIntV W (.agg #[e, f]) p.z) : HV W (.agg #[a, b, c, d, e, f]) p := ⟨_, _, _, _, _, _, rfl, h1, h2, h3⟩
def RetH (w : World) (p : H3) (e : Ending) (w' : World) : Prop := ∃ v, e = .returned v ∧ HV w' v p ∧ w.grownBy w' none
def HsV (w : World) (v : Value) (p q : H3) : Prop := ∃ a b c d e f a' b' c' d' e' f' : Value, v = .agg #[a, b, c, d, e, f, a', b', c', d', e', f'] ∧ HV w (.agg #[a, b, c, d, e, f]) p ∧ HV w (.agg #[a', b', c', d', e', f']) q
theorem HsV.keeps {W W' : World} {v : Value} {p q : H3} (h : HsV W v p q) (k : Keeps limbT W W') : HsV W' v p q := by
  obtain ⟨a, b, c, d, e, f, a', b', c', d', e', f', e1, h1, h2⟩ := h
  exact ⟨a, b, c, d, e, f, a', b', c', d', e', f', e1, h1.keeps k, h2.keeps k⟩
theorem hs1 {W : World} {a b c d e f a' b' c' d' e' f' : Value} {p q : H3} : HsV W (.agg #[a, b, c, d, e, f, a', b', c', d', e', f']) p q → HV W (.agg #[a, b, c, d, e, f]) p := by
  rintro ⟨_, _, _, _, _, _, _, _, _, _, _, _, e, h1, h2⟩; cases e; exact h1
theorem hs2 {W : World} {a b c d e f a' b' c' d' e' f' : Value} {p q : H3} : HsV W (.agg #[a, b, c, d, e, f, a', b', c', d', e', f']) p q → HV W (.agg #[a', b', c', d', e', f']) q := by
  rintro ⟨_, _, _, _, _, _, _, _, _, _, _, _, e, h1, h2⟩; cases e; exact h2
theorem mkhs {W : World} {a b c d e f a' b' c' d' e' f' : Value} {p q : H3} (h1 : HV W (.agg #[a, b, c, d, e, f]) p) (h2 : HV W (.agg #[a', b', c', d', e', f']) q) : HsV W (.agg #[a, b, c, d, e, f, a', b', c', d', e', f']) p q := ⟨_, _, _, _, _, _, _, _, _, _, _, _, rfl, h1, h2⟩
def HAt (w : World) (cs : Array Value) (o : Nat) (p : H3) : Prop := ∃ a b c d e f : Value, cs[o]? = some a ∧ cs[o + 1]? = some b ∧ cs[o + 2]? = some c ∧ cs[o + 3]? = some d ∧ cs[o + 4]? = some e ∧ cs[o + 5]? = some f ∧ HV w (.agg #[a, b, c, d, e, f]) p
theorem HAt.keeps {W W' : World} {cs : Array Value} {o : Nat} {p : H3} (h : HAt W cs o p) (k : Keeps limbT W W') : HAt W' cs o p := by
  obtain ⟨a, b, c, d, e, f, h1, h2, h3, h4, h5, h6, h7⟩ := h
  exact ⟨a, b, c, d, e, f, h1, h2, h3, h4, h5, h6, h7.keeps k⟩
def HrV (w : World) (v : Value) (l : List H3) : Prop := ∃ s n c, v = .slice s n c ∧ l.length = n ∧ n ≤ c ∧ (l = [] ∨ ∃ b off cs, s = some ⟨b, off, none⟩ ∧ w.heap[b]? = some (.cells cs 43 (0, 0)) ∧ ∀ i (h : i < l.length), HAt w cs (off + 6 * i) l[i])
theorem HrV.keeps {W W' : World} {v : Value} {l : List H3} (h : HrV W v l) (k : Keeps limbT W W') (hq : ∀ q, fpS v q → W'.heap[q]? = W.heap[q]?) : HrV W' v l := by
  obtain ⟨s, n, c, rfl, hl, hn, h⟩ := h
  refine ⟨s, n, c, rfl, hl, hn, ?_⟩
  by_cases h0 : l = []
  · exact .inl h0
  · obtain ⟨b, off, cs, rfl, hb, hc⟩ := h.resolve_left h0
    obtain ⟨m, rfl⟩ : ∃ m, n = m + 1 := ⟨n - 1, by have := List.length_pos_iff.2 h0; omega⟩
    exact .inr ⟨b, off, cs, rfl, by rw [hq b ⟨off, m, c, rfl⟩]; exact hb, fun i hi => (hc i hi).keeps k⟩
theorem HrV.inb {W : World} {v : Value} {l : List H3} (h : HrV W v l) (q : Nat) (hq : fpS v q) : q < W.heap.size := by
  obtain ⟨s, n, c, rfl, hl, hn, h⟩ := h
  obtain ⟨off, m, c', e⟩ := hq
  cases e
  rcases h with h | ⟨b, off', cs, e, hb, _⟩
  · rw [h] at hl; simp at hl
  · cases e; exact (Array.getElem?_eq_some_iff.1 hb).1
section
variable {P : Program} {ρ : Operand → Value} {o : Oper} {W : World}
end
def hlx (a b : H3) : Int := b.x * a.z - a.x * b.z
def hly (a b : H3) : Int := b.y * a.z - a.y * b.z
def hcr (a b c : H3) : Int := hlx a b * hly a c - hly a b * hlx a c
def hdt (a b c : H3) : Int := hlx a b * hlx a c + hly a b * hly a c
def hdn (a b c : H3) : Int := a.z * a.z * (b.z * c.z)
theorem HB.less {E : Nat} {a b : H3} (ha : HB E a) (hb : HB E b) : (hlx a b).natAbs < D ^ (E + E + 1) ∧ (hly a b).natAbs < D ^ (E + E + 1) := by
  unfold hlx hly
  constructor <;> rw [Int.sub_eq_add_neg]
  · exact dadd_bd (dmul_bd hb.1 ha.2.2) (dneg_bd (dmul_bd ha.1 hb.2.2))
  · exact dadd_bd (dmul_bd hb.2.1 ha.2.2) (dneg_bd (dmul_bd ha.2.1 hb.2.2))
theorem HB.cr {E : Nat} {a b c : H3} (ha : HB E a) (hb : HB E b) (hc : HB E c) : (hcr a b c).natAbs < D ^ (4 * E + 3) ∧ (hdt a b c).natAbs < D ^ (4 * E + 3) ∧ (hdn a b c).natAbs < D ^ (4 * E + 3) := by
  have h1 := ha.less hb
  have h2 := ha.less hc
  refine ⟨?_, ?_, ?_⟩
  · unfold hcr; rw [Int.sub_eq_add_neg]
    exact dpw (dadd_bd (dmul_bd h1.1 h2.2) (dneg_bd (dmul_bd h1.2 h2.1))) (by omega)
  · unfold hdt
    exact dpw (dadd_bd (dmul_bd h1.1 h2.1) (dmul_bd h1.2 h2.2)) (by omega)
  · unfold hdn
    exact dpw (dmul_bd (dmul_bd ha.2.2 ha.2.2) (dmul_bd hb.2.2 hc.2.2)) (by omega)
theorem q_of {n d : Int} : Rat.divInt n d = (n : Rat) / (d : Rat) := Rat.divInt_eq_div n d
theorem hz {z : Int} (h : 0 < z) : (z : Rat) ≠ 0 := by
  intro e
  have : z = 0 := by exact_mod_cast e
  omega
end Go.Proofs.YtoaepibannfbdaaGreatDoor
namespace Go.Proofs.YtoaepibannfbdaaGreatDoor
open Go.RowKit Mat Ex PM
set_option linter.unusedVariables false
set_option linter.unusedSimpArgs false
set_option maxRecDepth 100000
def sDt (x y d : Int) : Sp := .of (.agg 3) (fun v _ => v = .agg #[.int .i64 x, .int .i64 y, .int .i64 d]) (fun v W h => ⟨cellf [.int .i64 x, .int .i64 y, .int .i64 d], cellf_one (by simp [Value.oneCell']), h⟩) (fun _ _ _ _ h => h)
theorem dt1 {x y d : Int} {a b c : Value} {W : World} : (sDt x y d).F (.agg #[a, b, c]) W → a = .int .i64 x := fun h => by cases h; rfl
theorem dt2 {x y d : Int} {a b c : Value} {W : World} : (sDt x y d).F (.agg #[a, b, c]) W → b = .int .i64 y := fun h => by cases h; rfl
theorem dt3 {x y d : Int} {a b c : Value} {W : World} : (sDt x y d).F (.agg #[a, b, c]) W → c = .int .i64 d := fun h => by cases h; rfl
def und (d : Int) : Int := 1 + (IntKind.u64.wrap d) % 60
theorem und_pos (d : Int) : 0 < und d ∧ und d ≤ 60 := by unfold und; omega
theorem wrap_at (d : Int) : 0 ≤ IntKind.u64.wrap d ∧ IntKind.u64.wrap d < 18446744073709551616 := by
  simp [IntKind.wrap, IntKind.signed, IntKind.bits]; omega
theorem one_val {ρ : Operand → Value} {x : Operand} {u : Value} (h : [x].map ρ = [u]) : ρ x = u := by simpa using h
theorem conv_int {P : Program} {ρ : Operand → Value} {o : Oper} {t t' : TypeId} {x : Operand} {k k0 k1 : IntKind} {d : Int} {W : World} (ho : o.op = .convert t t' x) (hx : ρ x = .int k0 d) (h0 : P.underlying t = some (.int k1)) (h1 : P.underlying t' = some (.int k)) : (execOp ρ o).run P W = .ok (.value (.int k (k.wrap d))) W := by
  simp only [execOp, ho, hx, convert, Sem.run_bind, run_underlying h0 W, run_underlying h1 W, Result.andThen_ok, Conv.intToInt, Sem.run_pure]
theorem conv_ui {ρ : Operand → Value} {o : Oper} {x : Operand} {d : Int} {W : World} (ho : o.op = .convert 3 114 x) (hx : ρ x = .int .i64 d) : (execOp ρ o).run Tryz.prog W = .ok (.value (.int .u64 (IntKind.u64.wrap d))) W :=
  conv_int (k1 := .i64) ho hx (by kernel_rfl) (by kernel_rfl)
theorem conv_iu {ρ : Operand → Value} {o : Oper} {x : Operand} {d : Int} {W : World} (ho : o.op = .convert 114 3 x) (hx : ρ x = .int .u64 d) (h0 : 0 ≤ d) (h1 : d ≤ 1000) : (execOp ρ o).run Tryz.prog W = .ok (.value (.int .i64 d)) W := by
  rw [conv_int (k1 := .u64) (k := .i64) ho hx (by kernel_rfl) (by kernel_rfl), show IntKind.i64.wrap d = d by simp [IntKind.wrap, IntKind.signed, IntKind.bits]; omega]
theorem rem_told {P : Program} {ρ : Operand → Value} {o : Oper} {t t' : TypeId} {x y : Operand} {d k : Int} {W : World} (ho : o.op = .binOp .rem t x y t') (hx : ρ x = .int .u64 (IntKind.u64.wrap d)) (hy : ρ y = .int .u64 k) (hk : 0 < k := by omega) : (execOp ρ o).run P W = .ok (.value (.int .u64 (IntKind.u64.wrap d % k))) W := by
  have h0 := wrap_at d
  have hm : (IntKind.u64.wrap d).tmod k = IntKind.u64.wrap d % k := Int.tmod_eq_emod_of_nonneg h0.1
  have hg : eqGuard .rem t x y (.int .u64 (IntKind.u64.wrap d)) (.int .u64 k) = pure () := by unfold eqGuard; rfl
  have hb : binOp .rem t (.int .u64 (IntKind.u64.wrap d)) (.int .u64 k) = pure (.int .u64 (IntKind.u64.wrap d % k)) := by
    rw [← hm]
    show Op.intDiv .rem .u64 _ k = _
    unfold Op.intDiv
    rw [if_neg (by omega)]
  simp only [execOp, ho, hx, hy, hg, hb, Sem.run_bind, Sem.run_pure, Result.andThen_ok]
theorem add_100 {t : TypeId} {x y : Int} (h0 : 0 ≤ x + y) (h1 : x + y ≤ 1000) : binOp .add t (.int .i64 x) (.int .i64 y) = .pure (.int .i64 (x + y)) := by
  show Sem.pure (Value.int .i64 (IntKind.i64.wrap (x + y))) = _
  rw [show IntKind.i64.wrap (x + y) = x + y by simp [IntKind.wrap, IntKind.signed, IntKind.bits]; omega]
theorem rHUnder_any (w : World) (x y d : Int) :
    Calls Tryz.prog 40 #[.agg #[.int .i64 x, .int .i64 y, .int .i64 d]] w (fun e w' => e = .returned (.int .i64 (und d)) ∧ w.grownBy w' none) := by
  refine exec_calls mixed Tryz.func40 [sDt x y d] [sC (.int .u64 (IntKind.u64.wrap d)) rfl, sC (.int .u64 (IntKind.u64.wrap d % 60)) rfl, sZ (IntKind.u64.wrap d % 60), sZ (und d)] (.cons rfl .nil) (rs := [co 1 (.convert 3 114 (.tmp 4)) 114 [.v false [.an 0 2]] [0] [], co 2 (.binOp .rem 114 (.tmp 5) (.const (.int .u64 60)) 114) 114 [on 1, .v false [.lit (.int .u64 60)]] [0, 1] [], co 3 (.convert 114 3 (.tmp 6)) 3 [on 2] [0, 1, 2] [], co 4 (.binOp .add 3 (.const (.int .i64 1)) (.tmp 7) 3) 3 [.v false [.lit (.int .i64 1)], on 3] [0, 1, 2, 3] []]) (out := on 4) (nc := 5) (by kernel_rfl)
      ⟨fun σ W g h hb => fun ρ o ho _ hv => ⟨_, conv_ui ho ((one_val hv).trans (dt3 (h 0 rfl))), rfl⟩,
      fun σ W g h hb => fun ρ o ho _ hv => ⟨_, rem_told ho ((two_vals hv).1.trans (h 1 rfl)) (two_vals hv).2, rfl⟩,
      fun σ W g h hb => fun ρ o ho _ hv => ⟨_, conv_iu ho ((one_val hv).trans (h 2 rfl)) (by omega) (by omega), rfl⟩,
      fun σ W g h hb => fun ρ o ho _ hv => ⟨_, bin_told ho (two_vals hv).1 ((two_vals hv).2.trans (h 3 rfl)) (add_100 (by omega) (by omega)), rfl⟩,
      trivial⟩ fun τ W g h => ⟨congrArg Ending.returned (h 4 rfl), g⟩
theorem und_b (d : Int) : -9223372036854775808 ≤ und d ∧ und d ≤ 9223372036854775807 := by have := und_pos d; omega
theorem rHAt_any (w : World) (x y d : Int) (h1 : -9223372036854775808 ≤ x) (h2 : x ≤ 9223372036854775807) (h3 : -9223372036854775808 ≤ y) (h4 : y ≤ 9223372036854775807) :
    Calls Tryz.prog 10 #[.agg #[.int .i64 x, .int .i64 y, .int .i64 d]] w (RetH w ⟨x, y, und d⟩) := by
  refine exec_calls mixed Tryz.func10 [sDt x y d] [sR x, sR y, sZ (und d), sR (und d)] (.cons rfl .nil) (rs := [cl 1 41 [on 0], cl 2 41 [.v false [.an 0 1]], cl 3 40 [ag 3 0], cl 4 41 [on 3]]) (out := .v true [.an 1 0, .an 1 1, .an 2 0, .an 2 1, .an 4 0, .an 4 1]) (nc := 5) (by kernel_rfl)
      ⟨fun σ W g h hb => arg1 (dt1 (h 0 rfl)) (rZOf_any W x h1 h2),
      fun σ W g h hb => arg1 (dt2 (h 0 rfl)) (rZOf_any W y h3 h4),
      fun σ W g h hb => argl (congrArg (fun v => [v]) (h 0 rfl)) (rHUnder_any W x y d) |>.mono fun _ _ ⟨a, g⟩ => ⟨_, a, rfl, g⟩,
      fun σ W g h hb => arg1 (h 3 rfl) (rZOf_any W _ (und_b d).1 (und_b d).2),
      trivial⟩ fun τ W g h => ⟨_, rfl, mkh (h 1 rfl) (h 2 rfl) (h 4 rfl), g⟩
theorem rsg_le {r : Rat} : rsg r ≤ 0 ↔ r ≤ 0 := by
  have h1 := @rsg_pos r
  rcases rsg_or r with e | e | e
  · have := rsg_nz.1 e; constructor <;> intro _ <;> first | omega | grind
  · have := rsg_zero.1 e; constructor <;> intro _ <;> first | omega | grind
  · have := h1.1 e; constructor <;> intro _ <;> first | omega | grind
end Go.Proofs.YtoaepibannfbdaaGreatDoor
namespace Go.Proofs.YtoaepibannfbdaaGreatDoor
open Go.RowKit Mat Ex PM
set_option linter.unusedVariables false
set_option linter.unusedSimpArgs false
set_option maxRecDepth 100000
def hg (l : List H3) (k : Nat) : H3 := l.getD k ⟨0, 0, 1⟩
theorem lt_of {v : Value} {n m : Nat} {b : Bool} (h : v = .bool (decide (n < m))) (h2 : v = .bool b) : decide (n < m) = b := by rw [h] at h2; exact Value.bool.inj h2
end Go.Proofs.YtoaepibannfbdaaGreatDoor
namespace Go.Proofs.YtoaepibannfbdaaGreatDoor
open Go.RowKit Mat Ex PM
set_option linter.unusedVariables false
set_option linter.unusedSimpArgs false
set_option maxRecDepth 100000
theorem ge_told {P : Program} {ρ : Operand → Value} {o : Oper} {t t' : TypeId} {x y : Operand} {a : Int} {W : World} (b : Bool) (ho : o.op = .binOp .geq t x y t') (hx : ρ x = .int .i64 a) (hy : ρ y = .int .i64 0) (h : decide (0 ≤ a) = b) : (execOp ρ o).run P W = .ok (.value (.bool b)) W :=
  bin_told ho hx hy (by rw [← h]; rfl)
theorem rsg_gt {r : Rat} : 0 < rsg r ↔ 0 < r := by
  rw [← rsg_pos]; rcases rsg_or r with e | e | e <;> omega
end Go.Proofs.YtoaepibannfbdaaGreatDoor
namespace Go.Proofs.YtoaepibannfbdaaGreatDoor
open Go.RowKit Mat Ex PM
set_option linter.unusedVariables false
set_option linter.unusedSimpArgs false
set_option maxRecDepth 100000
theorem RQ.eq {w : World} {v : Value} {r t : Rat} {E : Nat} (e : r = t) (h : RQ w v t E) : RQ w v r E := e ▸ h
section
variable (w : World) (va vb : Value) (r t : Rat) (E : Nat) (Ha : RQ w va r E) (Hb : RQ w vb t E) (hE : E ≤ 200000)
include Ha
include Hb hE
end
end Go.Proofs.YtoaepibannfbdaaGreatDoor
namespace Go.Proofs.YtoaepibannfbdaaGreatDoor
open Go.RowKit Mat Ex
set_option linter.unusedVariables false
set_option linter.unusedSimpArgs false
section
variable {P : Program} (w : World)
theorem run_append_old (base : Nat) (t ty e : TypeId) (i : TypeInfo) (z : Value) (size bytes : Nat) (ht : P.underlying t = some (.slice e)) (hi : P.info? e = some i) (hz : i.zero = some z)
    (hsize : i.size = size) (hby : i.bytes = bytes) (hzs : z.cells.size = size) (hsz : 0 < size)
    (v : Value) (n : Nat) (xs : List Value) (hown : w.ownsRow base e size v n xs)
    (a : Addr) (m c : Nat) (news : List Value) (hl : news.length = m * size) (hnews : ∀ j u, news[j]? = some u → w.cell? (a.add j) = some u) (h1 : ∀ u ∈ news, u.oneCell' = true)
    (h63 : n + m ≤ maxLen) (hbytes : (n + m) * bytes ≤ 140737488355328) (hbase : base ≤ w.heap.size) (hm : 0 < m) :
    ∃ v' w', (Builtin.append_ #[t, t] ty #[v, .slice (some a) m c]).run P w = .ok v' w' ∧ w'.ownsRow base e size v' (n + m) (xs ++ news) ∧ w'.ownsRow base e size v n xs ∧ w.grownBy w' v.ownBlock ∧
      (v'.ownBlock = v.ownBlock ∨ v'.ownBlock = some w.heap.size) := by
  subst hsize
  subst hby
  have hsmall : n + m ≤ 9223372036854775807 := by simp only [maxLen] at h63; omega
  have hlen : (xs ++ news).length = (n + m) * i.size := by rw [List.length_append, hown.1, hl, Nat.add_mul]
  have grown : ∀ (old : Nat), old < n + m → ∀ (row : Option Nat),
      (w.drew.alloc (.cells (xs.toArray ++ news.toArray ++ Builtin.zeroCells z.cells (grownCap w (n + m) old e - (n + m))) e)).ownsRow base e i.size
        (.slice (some ⟨w.heap.size, 0, none⟩) (n + m) (grownCap w (n + m) old e)) (n + m) (xs ++ news) ∧
      w.grownBy (w.drew.alloc (.cells (xs.toArray ++ news.toArray ++ Builtin.zeroCells z.cells (grownCap w (n + m) old e - (n + m))) e)) row := by
    intro old ho row
    have hge := grownCap_ge w (n + m) old e
    have hcm : grownCap w (n + m) old e ≤ maxLen := grownCap_le_maxLen w (n + m) old e h63
    refine ⟨⟨hlen, .inr ⟨w.heap.size, _, _, rfl, hbase, heap_alloc_new w.drew _, hge, hcm, ?_, ?_⟩⟩, ⟨rfl, rfl, rfl, by simp, fun k hk _ => _root_.Go.heap_alloc_old w.drew _ hk⟩⟩
    · simp only [Array.size_append, List.size_toArray, size_zeroCells, hzs, hown.1, hl, ← Nat.add_mul]
      congr 1
      omega
    · simp only [Array.toList_append, List.append_assoc]
      rw [← List.append_assoc, ← hlen]
      exact List.take_left
  have hown0 := hown
  rcases hown.2 with ⟨rfl, rfl⟩ | ⟨g, cap, cur, rfl, hbg, hg, hnc, hcm, hcs, htake⟩
  · have hx : xs = [] := List.eq_nil_of_length_eq_zero (by simpa using hown.1)
    subst hx
    have hr := run_append_nil (P := P) w t ty e i z ht hi hz a m c news hl hnews (by omega) (by omega) (by have hb := hbytes; simp only [Nat.zero_add] at hb; omega)
    have hgr := grown 0 (by omega) (Value.ownBlock (.slice none 0 0))
    simp only [Nat.zero_add, List.nil_append, Array.empty_append] at hgr ⊢
    exact ⟨_, _, hr, hgr.1, World.ownsRow_nil _ base e i.size, hgr.2, Or.inr rfl⟩
  · by_cases hroom : n + m ≤ cap
    · have hfit : n * i.size + news.length ≤ cur.size := by rw [hl, hcs, ← Nat.add_mul]; exact Nat.mul_le_mul_right _ hroom
      have hr := run_append_room (P := P) w t ty e i ht hi g n cap cur hg a m c news hl hnews h1 hroom hfit
      have hlx : (cur.toList.take (n * i.size)).length = n * i.size := by rw [htake]; exact hown.1
      refine ⟨_, _, hr, ⟨hlen, .inr ⟨g, cap, _, rfl, hbg, setRow_heap w g cur _ e _ hg, hroom, hcm, ?_, ?_⟩⟩, ⟨hown.1, .inr ⟨g, cap, _, rfl, hbg, setRow_heap w g cur _ e _ hg, hnc, hcm, ?_, ?_⟩⟩, ⟨rfl, rfl, rfl, by simp, fun k _ hk => setRow_other w g k _ (fun e => hk (by simp [Value.ownBlock, e]))⟩, Or.inl rfl⟩
      · simp only [List.size_toArray, List.length_append, List.length_take, List.length_drop, Array.length_toList]
        omega
      · rw [htake, ← hlen]
        exact List.take_left
      · simp only [List.size_toArray, List.length_append, List.length_take, List.length_drop, Array.length_toList]
        omega
      · rw [htake, List.append_assoc, ← hown.1]
        exact List.take_left
    · have holds : ∀ j u, xs[j]? = some u → w.cell? ((⟨g, 0, none⟩ : Addr).add j) = some u := hown.cells (g := g) rfl
      have hr := run_append_grow (P := P) w t ty e i z ht hi hz ⟨g, 0, none⟩ n cap xs hown.1 holds a m c news hl hnews (by omega) (by omega) (growslice_fits (by omega) hbytes)
      have hgr := grown cap (by omega) (Value.ownBlock (.slice (some ⟨g, 0, none⟩) n cap))
      refine ⟨_, _, hr, hgr.1, ⟨hown.1, .inr ⟨g, cap, cur, rfl, hbg, ?_, hnc, hcm, hcs, htake⟩⟩, hgr.2, Or.inr rfl⟩
      rw [_root_.Go.heap_alloc_old w.drew _ (Array.getElem?_eq_some_iff.1 hg).1]; exact hg
end
structure Kind (α : Type) where
  T : TypeId
  z : Nat
  A : World → List Value → α → Prop
  keeps : ∀ {W W' : World} {cs : List Value} {x : α}, A W cs x → Keeps limbT W W' → A W' cs x
  notLimb : limbT T = false
def OwV {α : Type} (k : Kind α) (base : Nat) (w : World) (v : Value) (l : List α) : Prop := ∃ xs, w.ownsRow base k.T k.z v l.length xs ∧ ∀ i (h : i < l.length), k.A w ((xs.drop (k.z * i)).take k.z) l[i]
theorem ownsRow_block {w w' : World} {base : Nat} {e : TypeId} {size : Nat} {v : Value} {n : Nat} {xs : List Value} (h : w.ownsRow base e size v n xs) (hb : ∀ q, v.ownBlock = some q → w'.heap[q]? = w.heap[q]?) : w'.ownsRow base e size v n xs := by
  refine ⟨h.1, ?_⟩
  rcases h.2 with h2 | ⟨g, cap, cur, rfl, hbg, hg, h3⟩
  · exact .inl h2
  · exact .inr ⟨g, cap, cur, rfl, hbg, (hb g rfl).trans hg, h3⟩
theorem OwV.keeps {α : Type} {k : Kind α} {base : Nat} {W W' : World} {v : Value} {l : List α} (h : OwV k base W v l) (hk : Keeps limbT W W') (hb : ∀ q, v.ownBlock = some q → W'.heap[q]? = W.heap[q]?) : OwV k base W' v l := by
  obtain ⟨xs, h1, h2⟩ := h
  exact ⟨xs, ownsRow_block h1 hb, fun i hi => k.keeps (h2 i hi) hk⟩
theorem OwV.nil {α : Type} (k : Kind α) (base : Nat) (w : World) : OwV k base w (.slice none 0 0) ([] : List α) := ⟨[], World.ownsRow_nil w base k.T k.z, fun i h => absurd h (by simp)⟩
theorem OwV.inb {α : Type} {k : Kind α} {base : Nat} {W : World} {v : Value} {l : List α} (h : OwV k base W v l) {q : Nat} (hq : v.ownBlock = some q) : q < W.heap.size ∧ base ≤ q ∧ ∃ cur, W.heap[q]? = some (.cells cur k.T (0, 0)) := by
  obtain ⟨xs, h1, _⟩ := h
  rcases h1.2 with ⟨rfl, _⟩ | ⟨g, cap, cur, rfl, hbg, hg, _⟩
  · cases hq
  · cases hq; exact ⟨(Array.getElem?_eq_some_iff.1 hg).1, hbg, cur, hg⟩
def sOw {α : Type} (k : Kind α) (base : Nat) (l : List α) : Sp where
  sh := .one
  F v W := OwV k base W v l
  fits v W h := by
    obtain ⟨xs, h1, _⟩ := h
    rcases h1.2 with ⟨rfl, _⟩ | ⟨g, cap, cur, rfl, _⟩
    · exact ⟨fun _ => .slice none 0 0, fun _ => rfl, rfl⟩
    · exact ⟨fun _ => .slice (some ⟨g, 0, none⟩) l.length cap, fun _ => rfl, rfl⟩
  row := true
  fp v _ q := v.ownBlock = some q
  lasts v W W' k hq h := ⟨h.keeps k hq, fun _ h => h⟩
  inb v W h q hq := (h.inb hq).1
  flat h := by cases h
def AppW (base : Nat) (v v' : Value) (W W' : World) : Prop := W.grownBy W' v.ownBlock ∧ (v'.ownBlock = v.ownBlock ∨ v'.ownBlock = some W.heap.size)
def Older {α : Type} (k : Kind α) (base : Nat) (W W' : World) (v : Value) (l : List α) : Prop := ∀ u l', OwV k base W u l' → l'.length ≤ l.length → u.ownBlock = v.ownBlock → OwV k base W' u l'
theorem older_of {α : Type} {k : Kind α} {base : Nat} {W W' : World} {v : Value} {l : List α} {xs : List Value} (hown : W.ownsRow base k.T k.z v l.length xs) (h3 : W'.ownsRow base k.T k.z v l.length xs) (hkp : Keeps limbT W W') : Older k base W W' v l := by
  rintro u l' ⟨ys, hu, hB⟩ hle hb
  refine ⟨ys, ⟨hu.1, ?_⟩, fun j hj => k.keeps (hB j hj) hkp⟩
  rcases hu.2 with h0 | ⟨g, cap, cur, rfl, hbg, hg, hnc, hcm, hcs, htk⟩
  · exact .inl h0
  · rcases hown.2 with ⟨rfl, _⟩ | ⟨g2, cap2, cur2, rfl, _, hg2, _, _, hcs2, htk2⟩
    · cases hb
    · cases hb
      rcases h3.2 with ⟨e3, _⟩ | ⟨g3, cap3, cur3, e3, _, hg3, _, _, hcs3, htk3⟩
      · cases e3
      · cases e3
        rw [hg] at hg2; cases hg2
        refine .inr ⟨g, cap, cur3, rfl, hbg, hg3, hnc, hcm, by rw [hcs3, ← hcs2, hcs], ?_⟩
        have hmul : l'.length * k.z ≤ l.length * k.z := Nat.mul_le_mul_right _ hle
        rw [← htk, ← Nat.min_eq_left hmul, ← List.take_take, ← List.take_take, htk3, htk2]
theorem run_append_ow {α : Type} {P : Program} (k : Kind α) {t : TypeId} {i : TypeInfo} {z : Value} {bytes : Nat} (ht : P.underlying t = some (.slice k.T)) (hi : P.info? k.T = some i) (hz : i.zero = some z) (hsize : i.size = k.z) (hby : i.bytes = bytes)
    (hzs : z.cells.size = k.z) (hsz : 0 < k.z) {W : World} {base : Nat} {v : Value} {l : List α} (h : OwV k base W v l) {x : α} {q c : Nat} {cs : List Value} (hc : cs.length = k.z) (hq : W.heap[q]? = some (.cells cs.toArray k.T (0, 0))) (hx : k.A W cs x)
    (h1 : ∀ u ∈ cs, u.oneCell' = true) (hn : l.length + 1 ≤ 1000000) (hb : bytes ≤ 1000000) (hbase : base ≤ W.heap.size) {ρ : Operand → Value} {o : Oper} {a b : Operand} (ho : o.op = .call ⟨.builtin .append, #[a, b], #[t, t]⟩) (ha : ρ a = v) (hbv : ρ b = .slice (some ⟨q, 0, none⟩) 1 c) :
    ∃ v' W', (execOp ρ o).run P W = .ok (.value v') W' ∧ OwV k base W' v' (l ++ [x]) ∧ OwV k base W' v l ∧ AppW base v v' W W' ∧ Keeps limbT W W' ∧ Older k base W W' v l := by
  obtain ⟨xs, hown, hA⟩ := h
  have hlen : xs.length = l.length * k.z := hown.1
  obtain ⟨v', W', hr, h2, h3, h4, h5⟩ := run_append_old (P := P) W base t o.type k.T i z k.z bytes ht hi hz hsize hby hzs hsz v l.length xs hown ⟨q, 0, none⟩ 1 c cs (by rw [hc, Nat.one_mul])
    (fun j u hj => by rw [Addr.add_lit]; simp [World.cell?, hq, hj]) h1 (by simp only [maxLen]; omega) (by have := Nat.mul_le_mul hn hb; omega) hbase (by omega)
  have hkp : Keeps limbT W W' := fun g arr ty fr hp hg => by
    rw [h4.block g (Array.getElem?_eq_some_iff.1 hg).1 fun e => ?_]; · exact hg
    obtain ⟨_, _, cur, h6⟩ := OwV.inb (k := k) ⟨xs, hown, hA⟩ e.symm
    rw [hg] at h6; cases h6
    rw [k.notLimb] at hp; cases hp
  refine ⟨v', W', ?_, ⟨xs ++ cs, by simpa using h2, fun j hj => ?_⟩, ⟨xs, h3, fun j hj => k.keeps (hA j hj) hkp⟩, ⟨h4, h5⟩, hkp, older_of hown h3 hkp⟩
  · unfold execOp
    simp only [ho, resolve, invoke, builtin, Sem.run_bind, Sem.run_pure, Result.andThen_ok, List.map_toArray, List.map_cons, List.map_nil, ha, hbv, hr]
  · have hj : j < l.length + 1 := by simpa using hj
    rcases Nat.lt_or_ge j l.length with hlt | hge
    · have := k.keeps (hA j hlt) hkp
      rw [List.getElem_append_left hlt]
      have hle : k.z * j + k.z ≤ xs.length := by
        rw [hlen, ← Nat.mul_succ, Nat.mul_comm]; exact Nat.mul_le_mul_right _ hlt
      rw [List.drop_append_of_le_length (by omega), List.take_append_of_le_length (by simp; omega)]
      exact this
    · obtain rfl : j = l.length := by omega
      rw [show k.z * l.length = xs.length by rw [hlen, Nat.mul_comm], List.drop_left, List.take_of_length_le (by omega)]
      simpa using k.keeps hx hkp
end Go.Proofs.YtoaepibannfbdaaGreatDoor
