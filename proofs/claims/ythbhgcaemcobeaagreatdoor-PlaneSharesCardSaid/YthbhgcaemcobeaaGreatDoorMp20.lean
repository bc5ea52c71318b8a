/- What the laws lean on, part 20. -/
import Derived.Deep.RegionHeld3
import Derived.Deep.AppendLies
import Derived.Test.YthbhgcaemcobeaaGreatDoorMp19
import Derived.Test.YthbhgcaemcobeaaGreatDoorMp16
namespace Go.Proofs.YthbhgcaemcobeaaGreatDoor
open Go.RowKit Mat Ex PM
set_option linter.unusedVariables false
set_option linter.unusedSimpArgs false
theorem sTab {w W : World} (h : Tab w) (g : w.grownBy W none) : Tab W := h.kept g (by simp)
theorem POn_any (w : World) (va vb : Value) (a b p : Pq) (K : Nat) (Ha : SgV w va a b) (Hb : PtV w vb p) (hK : 1 ≤ K ∧ K ≤ 10000) (ba : Bp K a) (bb : Bp K b) (bp : Bp K p) (hTab : Tab w) :
    Calls Tryz.prog 30 #[va, vb] w (RetB w (dec (InS a b p))) := by
  rcases (show ¬ ple (lo a b) p ∨ (ple (lo a b) p ∧ ¬ ple p (hi a b)) ∨ (ple (lo a b) p ∧ ple p (hi a b) ∧ pcross a b p ≠ 0) ∨ (ple (lo a b) p ∧ ple p (hi a b) ∧ pcross a b p = 0) by grind) with h1 | ⟨h1, h2⟩ | ⟨h1, h2, h3⟩ | ⟨h1, h2, h3⟩
  · skip
    rw [dec_f (fun q => h1 (ins_prog.1 q).1)]
    refine exec_calls mixed Tryz.func30 [sSg a b, sPt p] [sPP (lo a b) (hi a b), sZ (pcmp (lo a b) p), sV (.bool false)] (.cons Ha (.cons Hb .nil)) (rs := [cl 2 66 [ag 16 0], cl 3 16 [ag 8 2, ag 8 1], co 4 (.binOp .leq 3 (.tmp 14) (.const (.int .i64 0)) 3) 4 [on 3, .v false [.lit (.int .i64 0)]] [0, 1, 2, 3] []]) (out := .v false [.lit (.bool false)]) (nc := 5) (by kernel_rfl)
        ⟨fun σ W g h hb => toPP (PEnds_any W _ a b K (h 0 rfl) hK ba bb),
        fun σ W g h hb => toZ (PCmp_any W _ _ (lo a b) p K (pp1 (h 2 rfl)) (h 1 rfl) (by omega) (ba.lo bb) bp) rfl,
        fun σ W g h hb => fun ρ o ho _ hv => ⟨_, le_told false ho ((two_vals hv).1.trans (h 3 rfl)) (two_vals hv).2 (decide_eq_false (fun q => h1 (pcmp_le.1 q))), rfl⟩,
        trivial⟩ fun τ W g h => ⟨rfl, g⟩
  · skip
    rw [dec_f (fun q => h2 (ins_prog.1 q).2.1)]
    refine exec_calls mixed Tryz.func30 [sSg a b, sPt p] [sPP (lo a b) (hi a b), sZ (pcmp (lo a b) p), sV (.bool true), sZ (pcmp p (hi a b)), sV (.bool false)] (.cons Ha (.cons Hb .nil)) (rs := [cl 2 66 [ag 16 0], cl 3 16 [ag 8 2, ag 8 1], co 4 (.binOp .leq 3 (.tmp 14) (.const (.int .i64 0)) 3) 4 [on 3, .v false [.lit (.int .i64 0)]] [0, 1, 2, 3] [], cl 5 16 [ag 8 1, .v true [.an 2 8, .an 2 9, .an 2 10, .an 2 11, .an 2 12, .an 2 13, .an 2 14, .an 2 15]], co 6 (.binOp .leq 3 (.tmp 19) (.const (.int .i64 0)) 3) 4 [on 5, .v false [.lit (.int .i64 0)]] [0, 1, 2, 3, 4, 5] []]) (out := .v false [.lit (.bool false)]) (nc := 7) (by kernel_rfl)
        ⟨fun σ W g h hb => toPP (PEnds_any W _ a b K (h 0 rfl) hK ba bb),
        fun σ W g h hb => toZ (PCmp_any W _ _ (lo a b) p K (pp1 (h 2 rfl)) (h 1 rfl) (by omega) (ba.lo bb) bp) rfl,
        fun σ W g h hb => fun ρ o ho _ hv => ⟨_, le_told true ho ((two_vals hv).1.trans (h 3 rfl)) (two_vals hv).2 (decide_eq_true (pcmp_le.2 h1)), rfl⟩,
        fun σ W g h hb => toZ (PCmp_any W _ _ p (hi a b) K (h 1 rfl) (pp2 (h 2 rfl)) (by omega) bp (ba.hi bb)) rfl,
        fun σ W g h hb => fun ρ o ho _ hv => ⟨_, le_told false ho ((two_vals hv).1.trans (h 5 rfl)) (two_vals hv).2 (decide_eq_false (fun q => h2 (pcmp_le.1 q))), rfl⟩,
        trivial⟩ fun τ W g h => ⟨rfl, g⟩
  · skip
    rw [dec_f (fun q => h3 (ins_prog.1 q).2.2)]
    refine exec_calls mixed Tryz.func30 [sSg a b, sPt p] [sPP (lo a b) (hi a b), sZ (pcmp (lo a b) p), sV (.bool true), sZ (pcmp p (hi a b)), sV (.bool true), sZ (rsg (pcross a b p)), sV (.bool false)] (.cons Ha (.cons Hb .nil)) (rs := [cl 2 66 [ag 16 0], cl 3 16 [ag 8 2, ag 8 1], co 4 (.binOp .leq 3 (.tmp 14) (.const (.int .i64 0)) 3) 4 [on 3, .v false [.lit (.int .i64 0)]] [0, 1, 2, 3] [], cl 5 16 [ag 8 1, .v true [.an 2 8, .an 2 9, .an 2 10, .an 2 11, .an 2 12, .an 2 13, .an 2 14, .an 2 15]], co 6 (.binOp .leq 3 (.tmp 19) (.const (.int .i64 0)) 3) 4 [on 5, .v false [.lit (.int .i64 0)]] [0, 1, 2, 3, 4, 5] [], cl 7 24 [ag 8 0, .v true [.an 0 8, .an 0 9, .an 0 10, .an 0 11, .an 0 12, .an 0 13, .an 0 14, .an 0 15], ag 8 1], co 8 (.binOp .eql 3 (.tmp 28) (.const (.int .i64 0)) 3) 4 [on 7, .v false [.lit (.int .i64 0)]] [0, 1, 2, 3, 4, 5, 6, 7] []]) (out := .v false [.lit (.bool false)]) (nc := 9) (by kernel_rfl)
        ⟨fun σ W g h hb => toPP (PEnds_any W _ a b K (h 0 rfl) hK ba bb),
        fun σ W g h hb => toZ (PCmp_any W _ _ (lo a b) p K (pp1 (h 2 rfl)) (h 1 rfl) (by omega) (ba.lo bb) bp) rfl,
        fun σ W g h hb => fun ρ o ho _ hv => ⟨_, le_told true ho ((two_vals hv).1.trans (h 3 rfl)) (two_vals hv).2 (decide_eq_true (pcmp_le.2 h1)), rfl⟩,
        fun σ W g h hb => toZ (PCmp_any W _ _ p (hi a b) K (h 1 rfl) (pp2 (h 2 rfl)) (by omega) bp (ba.hi bb)) rfl,
        fun σ W g h hb => fun ρ o ho _ hv => ⟨_, le_told true ho ((two_vals hv).1.trans (h 5 rfl)) (two_vals hv).2 (decide_eq_true (pcmp_le.2 h2)), rfl⟩,
        fun σ W g h hb => toZ (PSide_any W _ _ _ a b p K (sg1 (h 0 rfl)) (sg2 (h 0 rfl)) (h 1 rfl) hK.2 ba bb bp (hTab.kept g (by simp))) rfl,
        fun σ W g h hb => fun ρ o ho _ hv => ⟨_, eq_told false ho ((two_vals hv).1.trans (h 7 rfl)) (two_vals hv).2 (decide_eq_false (fun q => h3 (rsg_zero.1 q))), rfl⟩,
        trivial⟩ fun τ W g h => ⟨rfl, g⟩
  · skip
    rw [dec_t (ins_prog.2 ⟨h1, h2, h3⟩)]
    refine exec_calls mixed Tryz.func30 [sSg a b, sPt p] [sPP (lo a b) (hi a b), sZ (pcmp (lo a b) p), sV (.bool true), sZ (pcmp p (hi a b)), sV (.bool true), sZ (rsg (pcross a b p)), sV (.bool true)] (.cons Ha (.cons Hb .nil)) (rs := [cl 2 66 [ag 16 0], cl 3 16 [ag 8 2, ag 8 1], co 4 (.binOp .leq 3 (.tmp 14) (.const (.int .i64 0)) 3) 4 [on 3, .v false [.lit (.int .i64 0)]] [0, 1, 2, 3] [], cl 5 16 [ag 8 1, .v true [.an 2 8, .an 2 9, .an 2 10, .an 2 11, .an 2 12, .an 2 13, .an 2 14, .an 2 15]], co 6 (.binOp .leq 3 (.tmp 19) (.const (.int .i64 0)) 3) 4 [on 5, .v false [.lit (.int .i64 0)]] [0, 1, 2, 3, 4, 5] [], cl 7 24 [ag 8 0, .v true [.an 0 8, .an 0 9, .an 0 10, .an 0 11, .an 0 12, .an 0 13, .an 0 14, .an 0 15], ag 8 1], co 8 (.binOp .eql 3 (.tmp 28) (.const (.int .i64 0)) 3) 4 [on 7, .v false [.lit (.int .i64 0)]] [0, 1, 2, 3, 4, 5, 6, 7] []]) (out := .v false [.lit (.bool true)]) (nc := 9) (by kernel_rfl)
        ⟨fun σ W g h hb => toPP (PEnds_any W _ a b K (h 0 rfl) hK ba bb),
        fun σ W g h hb => toZ (PCmp_any W _ _ (lo a b) p K (pp1 (h 2 rfl)) (h 1 rfl) (by omega) (ba.lo bb) bp) rfl,
        fun σ W g h hb => fun ρ o ho _ hv => ⟨_, le_told true ho ((two_vals hv).1.trans (h 3 rfl)) (two_vals hv).2 (decide_eq_true (pcmp_le.2 h1)), rfl⟩,
        fun σ W g h hb => toZ (PCmp_any W _ _ p (hi a b) K (h 1 rfl) (pp2 (h 2 rfl)) (by omega) bp (ba.hi bb)) rfl,
        fun σ W g h hb => fun ρ o ho _ hv => ⟨_, le_told true ho ((two_vals hv).1.trans (h 5 rfl)) (two_vals hv).2 (decide_eq_true (pcmp_le.2 h2)), rfl⟩,
        fun σ W g h hb => toZ (PSide_any W _ _ _ a b p K (sg1 (h 0 rfl)) (sg2 (h 0 rfl)) (h 1 rfl) hK.2 ba bb bp (hTab.kept g (by simp))) rfl,
        fun σ W g h hb => fun ρ o ho _ hv => ⟨_, eq_told true ho ((two_vals hv).1.trans (h 7 rfl)) (two_vals hv).2 (decide_eq_true (rsg_zero.2 h3)), rfl⟩,
        trivial⟩ fun τ W g h => ⟨rfl, g⟩
theorem PMeet_any (w : World) (va vb : Value) (a b c d : Pq) (K : Nat) (Ha : SgV w va a b) (Hb : SgV w vb c d) (hK : 1 ≤ K ∧ K ≤ 50) (ba : Bp K a) (bb : Bp K b) (bc : Bp K c) (bd : Bp K d) (hTab : Tab w) :
    Calls Tryz.prog 28 #[va, vb] w (RetPts w (meetP a b c d)) := by
  rcases (show ¬ ple (pmax (lo a b) (lo c d)) (pmin (hi a b) (hi c d)) ∨ (ple (pmax (lo a b) (lo c d)) (pmin (hi a b) (hi c d)) ∧ OneS (pcross a b c) (pcross a b d)) ∨ (ple (pmax (lo a b) (lo c d)) (pmin (hi a b) (hi c d)) ∧ ¬ OneS (pcross a b c) (pcross a b d) ∧ OneS (pcross c d a) (pcross c d b)) ∨ (ple (pmax (lo a b) (lo c d)) (pmin (hi a b) (hi c d)) ∧ ¬ OneS (pcross a b c) (pcross a b d) ∧ ¬ OneS (pcross c d a) (pcross c d b) ∧ pcross c d a = 0 ∧ pcross c d b = 0) ∨ (ple (pmax (lo a b) (lo c d)) (pmin (hi a b) (hi c d)) ∧ ¬ OneS (pcross a b c) (pcross a b d) ∧ ¬ OneS (pcross c d a) (pcross c d b) ∧ pcross c d a = 0 ∧ pcross c d b ≠ 0) ∨ (ple (pmax (lo a b) (lo c d)) (pmin (hi a b) (hi c d)) ∧ ¬ OneS (pcross a b c) (pcross a b d) ∧ ¬ OneS (pcross c d a) (pcross c d b) ∧ pcross c d a ≠ 0) by grind) with h1 | ⟨h1, h2⟩ | ⟨h1, h2, h3⟩ | ⟨h1, h2, h3, h4, h5⟩ | ⟨h1, h2, h3, h4, h5⟩ | ⟨h1, h2, h3, h4⟩
  · skip
    unfold meetP
    rw [if_neg h1]
    refine exec_calls mixed Tryz.func28 [sSg a b, sSg c d] [sPP (pmax (lo a b) (lo c d)) (pmin (hi a b) (hi c d)), sZ (pcmp (pmax (lo a b) (lo c d)) (pmin (hi a b) (hi c d))), sV (.bool true)] (.cons Ha (.cons Hb .nil)) (rs := [cl 2 59 [ag 16 0, ag 16 1], cl 3 16 [ag 8 2, .v true [.an 2 8, .an 2 9, .an 2 10, .an 2 11, .an 2 12, .an 2 13, .an 2 14, .an 2 15]], co 4 (.binOp .gtr 3 (.tmp 18) (.const (.int .i64 0)) 3) 4 [on 3, .v false [.lit (.int .i64 0)]] [0, 1, 2, 3] []]) (out := .v false [.lit (.slice none 0 0)]) (nc := 5) (by kernel_rfl)
        ⟨fun σ W g h hb => toPP (POverlap_any W _ _ a b c d K (h 0 rfl) (h 1 rfl) (by omega) ba bb bc bd),
        fun σ W g h hb => toZ (PCmp_any W _ _ (pmax (lo a b) (lo c d)) (pmin (hi a b) (hi c d)) K (pp1 (h 2 rfl)) (pp2 (h 2 rfl)) (by omega) ((ba.lo bb).max (bc.lo bd)) ((ba.hi bb).min (bc.hi bd))) rfl,
        fun σ W g h hb => fun ρ o ho _ hv => ⟨_, gt_told true ho ((two_vals hv).1.trans (h 3 rfl)) (two_vals hv).2 (decide_eq_true (pgt.1 h1)), rfl⟩,
        trivial⟩ fun τ W g h => ⟨_, rfl, pts_nil W, g, fp_nil⟩
  · skip
    unfold meetP
    rw [if_pos h1, if_pos h2]
    refine exec_calls mixed Tryz.func28 [sSg a b, sSg c d] [sPP (pmax (lo a b) (lo c d)) (pmin (hi a b) (hi c d)), sZ (pcmp (pmax (lo a b) (lo c d)) (pmin (hi a b) (hi c d))), sV (.bool false), sQQ (pcross a b c) (pcross a b d), sV (.bool true)] (.cons Ha (.cons Hb .nil)) (rs := [cl 2 59 [ag 16 0, ag 16 1], cl 3 16 [ag 8 2, .v true [.an 2 8, .an 2 9, .an 2 10, .an 2 11, .an 2 12, .an 2 13, .an 2 14, .an 2 15]], co 4 (.binOp .gtr 3 (.tmp 18) (.const (.int .i64 0)) 3) 4 [on 3, .v false [.lit (.int .i64 0)]] [0, 1, 2, 3] [], cl 5 61 [ag 16 0, ag 16 1], cl 6 60 [ag 4 5, .v true [.an 5 4, .an 5 5, .an 5 6, .an 5 7]]]) (out := .v false [.lit (.slice none 0 0)]) (nc := 7) (by kernel_rfl)
        ⟨fun σ W g h hb => toPP (POverlap_any W _ _ a b c d K (h 0 rfl) (h 1 rfl) (by omega) ba bb bc bd),
        fun σ W g h hb => toZ (PCmp_any W _ _ (pmax (lo a b) (lo c d)) (pmin (hi a b) (hi c d)) K (pp1 (h 2 rfl)) (pp2 (h 2 rfl)) (by omega) ((ba.lo bb).max (bc.lo bd)) ((ba.hi bb).min (bc.hi bd))) rfl,
        fun σ W g h hb => fun ρ o ho _ hv => ⟨_, gt_told false ho ((two_vals hv).1.trans (h 3 rfl)) (two_vals hv).2 (decide_eq_false (by have := pcmp_le.2 h1; omega)), rfl⟩,
        fun σ W g h hb => toQQ (PAside_any W _ _ a b c d K (h 0 rfl) (h 1 rfl) (by omega) ba bb bc bd (hTab.kept g (by simp))),
        fun σ W g h hb => toV (POneSide_any W _ _ (pcross a b c) (pcross a b d) (8 * K + 5) (qq1 (h 5 rfl)) (qq2 (h 5 rfl)) (by omega) (ba.cross bb bc) (ba.cross bb bd)) (by rw [dec_t h2]),
        trivial⟩ fun τ W g h => ⟨_, rfl, pts_nil W, g, fp_nil⟩
  · skip
    unfold meetP
    rw [if_pos h1, if_neg h2, if_pos h3]
    refine exec_calls mixed Tryz.func28 [sSg a b, sSg c d] [sPP (pmax (lo a b) (lo c d)) (pmin (hi a b) (hi c d)), sZ (pcmp (pmax (lo a b) (lo c d)) (pmin (hi a b) (hi c d))), sV (.bool false), sQQ (pcross a b c) (pcross a b d), sV (.bool false), sQQ (pcross c d a) (pcross c d b), sV (.bool true)] (.cons Ha (.cons Hb .nil)) (rs := [cl 2 59 [ag 16 0, ag 16 1], cl 3 16 [ag 8 2, .v true [.an 2 8, .an 2 9, .an 2 10, .an 2 11, .an 2 12, .an 2 13, .an 2 14, .an 2 15]], co 4 (.binOp .gtr 3 (.tmp 18) (.const (.int .i64 0)) 3) 4 [on 3, .v false [.lit (.int .i64 0)]] [0, 1, 2, 3] [], cl 5 61 [ag 16 0, ag 16 1], cl 6 60 [ag 4 5, .v true [.an 5 4, .an 5 5, .an 5 6, .an 5 7]], cl 7 61 [ag 16 1, ag 16 0], cl 8 60 [ag 4 7, .v true [.an 7 4, .an 7 5, .an 7 6, .an 7 7]]]) (out := .v false [.lit (.slice none 0 0)]) (nc := 9) (by kernel_rfl)
        ⟨fun σ W g h hb => toPP (POverlap_any W _ _ a b c d K (h 0 rfl) (h 1 rfl) (by omega) ba bb bc bd),
        fun σ W g h hb => toZ (PCmp_any W _ _ (pmax (lo a b) (lo c d)) (pmin (hi a b) (hi c d)) K (pp1 (h 2 rfl)) (pp2 (h 2 rfl)) (by omega) ((ba.lo bb).max (bc.lo bd)) ((ba.hi bb).min (bc.hi bd))) rfl,
        fun σ W g h hb => fun ρ o ho _ hv => ⟨_, gt_told false ho ((two_vals hv).1.trans (h 3 rfl)) (two_vals hv).2 (decide_eq_false (by have := pcmp_le.2 h1; omega)), rfl⟩,
        fun σ W g h hb => toQQ (PAside_any W _ _ a b c d K (h 0 rfl) (h 1 rfl) (by omega) ba bb bc bd (hTab.kept g (by simp))),
        fun σ W g h hb => toV (POneSide_any W _ _ (pcross a b c) (pcross a b d) (8 * K + 5) (qq1 (h 5 rfl)) (qq2 (h 5 rfl)) (by omega) (ba.cross bb bc) (ba.cross bb bd)) (by rw [dec_f h2]),
        fun σ W g h hb => toQQ (PAside_any W _ _ c d a b K (h 1 rfl) (h 0 rfl) (by omega) bc bd ba bb (hTab.kept g (by simp))),
        fun σ W g h hb => toV (POneSide_any W _ _ (pcross c d a) (pcross c d b) (8 * K + 5) (qq1 (h 7 rfl)) (qq2 (h 7 rfl)) (by omega) (bc.cross bd ba) (bc.cross bd bb)) (by rw [dec_t h3]),
        trivial⟩ fun τ W g h => ⟨_, rfl, pts_nil W, g, fp_nil⟩
  · skip
    unfold meetP
    rw [if_pos h1, if_neg h2, if_neg h3, if_pos ⟨h4, h5⟩]
    refine exec_calls mixed Tryz.func28 [sSg a b, sSg c d] [sPP (pmax (lo a b) (lo c d)) (pmin (hi a b) (hi c d)), sZ (pcmp (pmax (lo a b) (lo c d)) (pmin (hi a b) (hi c d))), sV (.bool false), sQQ (pcross a b c) (pcross a b d), sV (.bool false), sQQ (pcross c d a) (pcross c d b), sV (.bool false), sZ (rsg (pcross c d a)), sV (.bool true), sZ (rsg (pcross c d b)), sV (.bool true), sPts w.heap.size (btw (pmax (lo a b) (lo c d)) (pmin (hi a b) (hi c d)))] (.cons Ha (.cons Hb .nil)) (rs := [cl 2 59 [ag 16 0, ag 16 1], cl 3 16 [ag 8 2, .v true [.an 2 8, .an 2 9, .an 2 10, .an 2 11, .an 2 12, .an 2 13, .an 2 14, .an 2 15]], co 4 (.binOp .gtr 3 (.tmp 18) (.const (.int .i64 0)) 3) 4 [on 3, .v false [.lit (.int .i64 0)]] [0, 1, 2, 3] [], cl 5 61 [ag 16 0, ag 16 1], cl 6 60 [ag 4 5, .v true [.an 5 4, .an 5 5, .an 5 6, .an 5 7]], cl 7 61 [ag 16 1, ag 16 0], cl 8 60 [ag 4 7, .v true [.an 7 4, .an 7 5, .an 7 6, .an 7 7]], cl 9 58 [ag 4 7], co 10 (.binOp .eql 3 (.tmp 40) (.const (.int .i64 0)) 3) 4 [on 9, .v false [.lit (.int .i64 0)]] [0, 1, 2, 3, 4, 5, 6, 7, 8, 9] [], cl 11 58 [.v true [.an 7 4, .an 7 5, .an 7 6, .an 7 7]], co 12 (.binOp .eql 3 (.tmp 44) (.const (.int .i64 0)) 3) 4 [on 11, .v false [.lit (.int .i64 0)]] [0, 1, 2, 3, 4, 5, 6, 7, 8, 9, 10, 11] [], cl 13 62 [ag 8 2, .v true [.an 2 8, .an 2 9, .an 2 10, .an 2 11, .an 2 12, .an 2 13, .an 2 14, .an 2 15]]]) (out := on 13) (nc := 14) (by kernel_rfl)
        ⟨fun σ W g h hb => toPP (POverlap_any W _ _ a b c d K (h 0 rfl) (h 1 rfl) (by omega) ba bb bc bd),
        fun σ W g h hb => toZ (PCmp_any W _ _ (pmax (lo a b) (lo c d)) (pmin (hi a b) (hi c d)) K (pp1 (h 2 rfl)) (pp2 (h 2 rfl)) (by omega) ((ba.lo bb).max (bc.lo bd)) ((ba.hi bb).min (bc.hi bd))) rfl,
        fun σ W g h hb => fun ρ o ho _ hv => ⟨_, gt_told false ho ((two_vals hv).1.trans (h 3 rfl)) (two_vals hv).2 (decide_eq_false (by have := pcmp_le.2 h1; omega)), rfl⟩,
        fun σ W g h hb => toQQ (PAside_any W _ _ a b c d K (h 0 rfl) (h 1 rfl) (by omega) ba bb bc bd (hTab.kept g (by simp))),
        fun σ W g h hb => toV (POneSide_any W _ _ (pcross a b c) (pcross a b d) (8 * K + 5) (qq1 (h 5 rfl)) (qq2 (h 5 rfl)) (by omega) (ba.cross bb bc) (ba.cross bb bd)) (by rw [dec_f h2]),
        fun σ W g h hb => toQQ (PAside_any W _ _ c d a b K (h 1 rfl) (h 0 rfl) (by omega) bc bd ba bb (hTab.kept g (by simp))),
        fun σ W g h hb => toV (POneSide_any W _ _ (pcross c d a) (pcross c d b) (8 * K + 5) (qq1 (h 7 rfl)) (qq2 (h 7 rfl)) (by omega) (bc.cross bd ba) (bc.cross bd bb)) (by rw [dec_f h3]),
        fun σ W g h hb => toZ (FSign_any W _ _ (8 * K + 5) (qq1 (h 7 rfl)) (by omega) (bc.cross bd ba).1) rfl,
        fun σ W g h hb => fun ρ o ho _ hv => ⟨_, eq_told true ho ((two_vals hv).1.trans (h 9 rfl)) (two_vals hv).2 (decide_eq_true (rsg_zero.2 h4)), rfl⟩,
        fun σ W g h hb => toZ (FSign_any W _ _ (8 * K + 5) (qq2 (h 7 rfl)) (by omega) (bc.cross bd bb).1) rfl,
        fun σ W g h hb => fun ρ o ho _ hv => ⟨_, eq_told true ho ((two_vals hv).1.trans (h 11 rfl)) (two_vals hv).2 (decide_eq_true (rsg_zero.2 h5)), rfl⟩,
        fun σ W g h hb => toPts g.size (PBetween_any W _ _ _ _ K (pp1 (h 2 rfl)) (pp2 (h 2 rfl)) (by omega) ((ba.lo bb).max (bc.lo bd)) ((ba.hi bb).min (bc.hi bd)) (hTab.kept g (by simp))),
        trivial⟩ fun τ W g h => ⟨_, rfl, (h 13 rfl).1, g, (h 13 rfl).2⟩
  · skip
    unfold meetP
    rw [if_pos h1, if_neg h2, if_neg h3, if_neg (fun q => h5 q.2)]
    have hne : pcross c d a ≠ pcross c d b := by rw [h4]; exact Ne.symm h5
    refine exec_calls mixed Tryz.func28 [sSg a b, sSg c d] [sPP (pmax (lo a b) (lo c d)) (pmin (hi a b) (hi c d)), sZ (pcmp (pmax (lo a b) (lo c d)) (pmin (hi a b) (hi c d))), sV (.bool false), sQQ (pcross a b c) (pcross a b d), sV (.bool false), sQQ (pcross c d a) (pcross c d b), sV (.bool false), sZ (rsg (pcross c d a)), sV (.bool true), sZ (rsg (pcross c d b)), sV (.bool false), sPt (pat a b (pcross c d a / (pcross c d a - pcross c d b))), sPts w.heap.size (btw (pat a b (pcross c d a / (pcross c d a - pcross c d b))) (pat a b (pcross c d a / (pcross c d a - pcross c d b))))] (.cons Ha (.cons Hb .nil)) (rs := [cl 2 59 [ag 16 0, ag 16 1], cl 3 16 [ag 8 2, .v true [.an 2 8, .an 2 9, .an 2 10, .an 2 11, .an 2 12, .an 2 13, .an 2 14, .an 2 15]], co 4 (.binOp .gtr 3 (.tmp 18) (.const (.int .i64 0)) 3) 4 [on 3, .v false [.lit (.int .i64 0)]] [0, 1, 2, 3] [], cl 5 61 [ag 16 0, ag 16 1], cl 6 60 [ag 4 5, .v true [.an 5 4, .an 5 5, .an 5 6, .an 5 7]], cl 7 61 [ag 16 1, ag 16 0], cl 8 60 [ag 4 7, .v true [.an 7 4, .an 7 5, .an 7 6, .an 7 7]], cl 9 58 [ag 4 7], co 10 (.binOp .eql 3 (.tmp 40) (.const (.int .i64 0)) 3) 4 [on 9, .v false [.lit (.int .i64 0)]] [0, 1, 2, 3, 4, 5, 6, 7, 8, 9] [], cl 11 58 [.v true [.an 7 4, .an 7 5, .an 7 6, .an 7 7]], co 12 (.binOp .eql 3 (.tmp 44) (.const (.int .i64 0)) 3) 4 [on 11, .v false [.lit (.int .i64 0)]] [0, 1, 2, 3, 4, 5, 6, 7, 8, 9, 10, 11] [], cl 13 63 [ag 16 0, ag 4 7, .v true [.an 7 4, .an 7 5, .an 7 6, .an 7 7]], cl 14 62 [ag 8 13, ag 8 13]]) (out := on 14) (nc := 15) (by kernel_rfl)
        ⟨fun σ W g h hb => toPP (POverlap_any W _ _ a b c d K (h 0 rfl) (h 1 rfl) (by omega) ba bb bc bd),
        fun σ W g h hb => toZ (PCmp_any W _ _ (pmax (lo a b) (lo c d)) (pmin (hi a b) (hi c d)) K (pp1 (h 2 rfl)) (pp2 (h 2 rfl)) (by omega) ((ba.lo bb).max (bc.lo bd)) ((ba.hi bb).min (bc.hi bd))) rfl,
        fun σ W g h hb => fun ρ o ho _ hv => ⟨_, gt_told false ho ((two_vals hv).1.trans (h 3 rfl)) (two_vals hv).2 (decide_eq_false (by have := pcmp_le.2 h1; omega)), rfl⟩,
        fun σ W g h hb => toQQ (PAside_any W _ _ a b c d K (h 0 rfl) (h 1 rfl) (by omega) ba bb bc bd (hTab.kept g (by simp))),
        fun σ W g h hb => toV (POneSide_any W _ _ (pcross a b c) (pcross a b d) (8 * K + 5) (qq1 (h 5 rfl)) (qq2 (h 5 rfl)) (by omega) (ba.cross bb bc) (ba.cross bb bd)) (by rw [dec_f h2]),
        fun σ W g h hb => toQQ (PAside_any W _ _ c d a b K (h 1 rfl) (h 0 rfl) (by omega) bc bd ba bb (hTab.kept g (by simp))),
        fun σ W g h hb => toV (POneSide_any W _ _ (pcross c d a) (pcross c d b) (8 * K + 5) (qq1 (h 7 rfl)) (qq2 (h 7 rfl)) (by omega) (bc.cross bd ba) (bc.cross bd bb)) (by rw [dec_f h3]),
        fun σ W g h hb => toZ (FSign_any W _ _ (8 * K + 5) (qq1 (h 7 rfl)) (by omega) (bc.cross bd ba).1) rfl,
        fun σ W g h hb => fun ρ o ho _ hv => ⟨_, eq_told true ho ((two_vals hv).1.trans (h 9 rfl)) (two_vals hv).2 (decide_eq_true (rsg_zero.2 h4)), rfl⟩,
        fun σ W g h hb => toZ (FSign_any W _ _ (8 * K + 5) (qq2 (h 7 rfl)) (by omega) (bc.cross bd bb).1) rfl,
        fun σ W g h hb => fun ρ o ho _ hv => ⟨_, eq_told false ho ((two_vals hv).1.trans (h 11 rfl)) (two_vals hv).2 (decide_eq_false (fun q => h5 (rsg_zero.1 q))), rfl⟩,
        fun σ W g h hb => PCut_any W _ _ _ a b _ _ K (8 * K + 5) (h 0 rfl) (qq1 (h 7 rfl)) (qq2 (h 7 rfl)) (by omega) ba bb (bc.cross bd ba) (bc.cross bd bb) hne (hTab.kept g (by simp)),
        fun σ W g h hb => toPts g.size (PBetween_any W _ _ _ _ (128 * K + 100) (h 13 rfl) (h 13 rfl) (by omega) (ba.cut bb bc bd) (ba.cut bb bc bd) (hTab.kept g (by simp))),
        trivial⟩ fun τ W g h => ⟨_, rfl, (h 14 rfl).1, g, (h 14 rfl).2⟩
  · skip
    unfold meetP
    rw [if_pos h1, if_neg h2, if_neg h3, if_neg (fun q => h4 q.1)]
    have hne : pcross c d a ≠ pcross c d b := fun e => h3 (by unfold OneS; rw [← e]; grind)
    refine exec_calls mixed Tryz.func28 [sSg a b, sSg c d] [sPP (pmax (lo a b) (lo c d)) (pmin (hi a b) (hi c d)), sZ (pcmp (pmax (lo a b) (lo c d)) (pmin (hi a b) (hi c d))), sV (.bool false), sQQ (pcross a b c) (pcross a b d), sV (.bool false), sQQ (pcross c d a) (pcross c d b), sV (.bool false), sZ (rsg (pcross c d a)), sV (.bool false), sPt (pat a b (pcross c d a / (pcross c d a - pcross c d b))), sPts w.heap.size (btw (pat a b (pcross c d a / (pcross c d a - pcross c d b))) (pat a b (pcross c d a / (pcross c d a - pcross c d b))))] (.cons Ha (.cons Hb .nil)) (rs := [cl 2 59 [ag 16 0, ag 16 1], cl 3 16 [ag 8 2, .v true [.an 2 8, .an 2 9, .an 2 10, .an 2 11, .an 2 12, .an 2 13, .an 2 14, .an 2 15]], co 4 (.binOp .gtr 3 (.tmp 18) (.const (.int .i64 0)) 3) 4 [on 3, .v false [.lit (.int .i64 0)]] [0, 1, 2, 3] [], cl 5 61 [ag 16 0, ag 16 1], cl 6 60 [ag 4 5, .v true [.an 5 4, .an 5 5, .an 5 6, .an 5 7]], cl 7 61 [ag 16 1, ag 16 0], cl 8 60 [ag 4 7, .v true [.an 7 4, .an 7 5, .an 7 6, .an 7 7]], cl 9 58 [ag 4 7], co 10 (.binOp .eql 3 (.tmp 40) (.const (.int .i64 0)) 3) 4 [on 9, .v false [.lit (.int .i64 0)]] [0, 1, 2, 3, 4, 5, 6, 7, 8, 9] [], cl 11 63 [ag 16 0, ag 4 7, .v true [.an 7 4, .an 7 5, .an 7 6, .an 7 7]], cl 12 62 [ag 8 11, ag 8 11]]) (out := on 12) (nc := 13) (by kernel_rfl)
        ⟨fun σ W g h hb => toPP (POverlap_any W _ _ a b c d K (h 0 rfl) (h 1 rfl) (by omega) ba bb bc bd),
        fun σ W g h hb => toZ (PCmp_any W _ _ (pmax (lo a b) (lo c d)) (pmin (hi a b) (hi c d)) K (pp1 (h 2 rfl)) (pp2 (h 2 rfl)) (by omega) ((ba.lo bb).max (bc.lo bd)) ((ba.hi bb).min (bc.hi bd))) rfl,
        fun σ W g h hb => fun ρ o ho _ hv => ⟨_, gt_told false ho ((two_vals hv).1.trans (h 3 rfl)) (two_vals hv).2 (decide_eq_false (by have := pcmp_le.2 h1; omega)), rfl⟩,
        fun σ W g h hb => toQQ (PAside_any W _ _ a b c d K (h 0 rfl) (h 1 rfl) (by omega) ba bb bc bd (hTab.kept g (by simp))),
        fun σ W g h hb => toV (POneSide_any W _ _ (pcross a b c) (pcross a b d) (8 * K + 5) (qq1 (h 5 rfl)) (qq2 (h 5 rfl)) (by omega) (ba.cross bb bc) (ba.cross bb bd)) (by rw [dec_f h2]),
        fun σ W g h hb => toQQ (PAside_any W _ _ c d a b K (h 1 rfl) (h 0 rfl) (by omega) bc bd ba bb (hTab.kept g (by simp))),
        fun σ W g h hb => toV (POneSide_any W _ _ (pcross c d a) (pcross c d b) (8 * K + 5) (qq1 (h 7 rfl)) (qq2 (h 7 rfl)) (by omega) (bc.cross bd ba) (bc.cross bd bb)) (by rw [dec_f h3]),
        fun σ W g h hb => toZ (FSign_any W _ _ (8 * K + 5) (qq1 (h 7 rfl)) (by omega) (bc.cross bd ba).1) rfl,
        fun σ W g h hb => fun ρ o ho _ hv => ⟨_, eq_told false ho ((two_vals hv).1.trans (h 9 rfl)) (two_vals hv).2 (decide_eq_false (fun q => h4 (rsg_zero.1 q))), rfl⟩,
        fun σ W g h hb => PCut_any W _ _ _ a b _ _ K (8 * K + 5) (h 0 rfl) (qq1 (h 7 rfl)) (qq2 (h 7 rfl)) (by omega) ba bb (bc.cross bd ba) (bc.cross bd bb) hne (hTab.kept g (by simp)),
        fun σ W g h hb => toPts g.size (PBetween_any W _ _ _ _ (128 * K + 100) (h 11 rfl) (h 11 rfl) (by omega) (ba.cut bb bc bd) (ba.cut bb bc bd) (hTab.kept g (by simp))),
        trivial⟩ fun τ W g h => ⟨_, rfl, (h 12 rfl).1, g, (h 12 rfl).2⟩
theorem rsg_lt {r : Rat} : rsg r < 0 ↔ r < 0 := by
  rw [← rsg_nz]; rcases rsg_or r with e | e | e <;> omega
theorem PClip_any (w : World) (va vb : Value) (a b c d : Pq) (K : Nat) (Ha : SgV w va a b) (Hb : SgV w vb c d) (hK : 1 ≤ K ∧ K ≤ 50) (ba : Bp K a) (bb : Bp K b) (bc : Bp K c) (bd : Bp K d) (hTab : Tab w) :
    Calls Tryz.prog 32 #[va, vb] w (RetPts w (clipP a b c d)) := by
  rcases (show (pcross c d a < 0 ∧ pcross c d b < 0) ∨ (pcross c d a < 0 ∧ ¬ pcross c d b < 0) ∨ (¬ pcross c d a < 0 ∧ pcross c d b < 0) ∨ (¬ pcross c d a < 0 ∧ ¬ pcross c d b < 0) by grind) with ⟨h1, h2⟩ | ⟨h1, h2⟩ | ⟨h1, h2⟩ | ⟨h1, h2⟩
  · skip
    unfold clipP
    rw [if_pos ⟨h1, h2⟩]
    refine exec_calls mixed Tryz.func32 [sSg a b, sSg c d] [sQQ (pcross c d a) (pcross c d b), sZ (rsg (pcross c d a)), sV (.bool true), sZ (rsg (pcross c d b)), sV (.bool true)] (.cons Ha (.cons Hb .nil)) (rs := [cl 2 61 [ag 16 1, ag 16 0], cl 3 58 [ag 4 2], co 4 (.binOp .lss 3 (.tmp 21) (.const (.int .i64 0)) 3) 4 [on 3, .v false [.lit (.int .i64 0)]] [0, 1, 2, 3] [], cl 5 58 [.v true [.an 2 4, .an 2 5, .an 2 6, .an 2 7]], co 6 (.binOp .lss 3 (.tmp 25) (.const (.int .i64 0)) 3) 4 [on 5, .v false [.lit (.int .i64 0)]] [0, 1, 2, 3, 4, 5] []]) (out := .v false [.lit (.slice none 0 0)]) (nc := 7) (by kernel_rfl)
        ⟨fun σ W g h hb => toQQ (PAside_any W _ _ c d a b K (h 1 rfl) (h 0 rfl) (by omega) bc bd ba bb (hTab.kept g (by simp))),
        fun σ W g h hb => toZ (FSign_any W _ _ (8 * K + 5) (qq1 (h 2 rfl)) (by omega) (bc.cross bd ba).1) rfl,
        fun σ W g h hb => fun ρ o ho _ hv => ⟨_, lt_told true ho ((two_vals hv).1.trans (h 3 rfl)) (two_vals hv).2 (decide_eq_true (rsg_lt.2 h1)), rfl⟩,
        fun σ W g h hb => toZ (FSign_any W _ _ (8 * K + 5) (qq2 (h 2 rfl)) (by omega) (bc.cross bd bb).1) rfl,
        fun σ W g h hb => fun ρ o ho _ hv => ⟨_, lt_told true ho ((two_vals hv).1.trans (h 5 rfl)) (two_vals hv).2 (decide_eq_true (rsg_lt.2 h2)), rfl⟩,
        trivial⟩ fun τ W g h => ⟨_, rfl, pts_nil W, g, fp_nil⟩
  · skip
    unfold clipP
    rw [if_neg (fun q => h2 q.2), if_pos h1]
    have hne : pcross c d a ≠ pcross c d b := fun e => by grind
    refine exec_calls mixed Tryz.func32 [sSg a b, sSg c d] [sQQ (pcross c d a) (pcross c d b), sZ (rsg (pcross c d a)), sV (.bool true), sZ (rsg (pcross c d b)), sV (.bool false), sZ (rsg (pcross c d a)), sV (.bool true), sPt (pat a b (pcross c d a / (pcross c d a - pcross c d b))), sPts w.heap.size (btw (pat a b (pcross c d a / (pcross c d a - pcross c d b))) b)] (.cons Ha (.cons Hb .nil)) (rs := [cl 2 61 [ag 16 1, ag 16 0], cl 3 58 [ag 4 2], co 4 (.binOp .lss 3 (.tmp 21) (.const (.int .i64 0)) 3) 4 [on 3, .v false [.lit (.int .i64 0)]] [0, 1, 2, 3] [], cl 5 58 [.v true [.an 2 4, .an 2 5, .an 2 6, .an 2 7]], co 6 (.binOp .lss 3 (.tmp 25) (.const (.int .i64 0)) 3) 4 [on 5, .v false [.lit (.int .i64 0)]] [0, 1, 2, 3, 4, 5] [], cl 7 58 [ag 4 2], co 8 (.binOp .lss 3 (.tmp 30) (.const (.int .i64 0)) 3) 4 [on 7, .v false [.lit (.int .i64 0)]] [0, 1, 2, 3, 4, 5, 6, 7] [], cl 9 63 [ag 16 0, ag 4 2, .v true [.an 2 4, .an 2 5, .an 2 6, .an 2 7]], cl 10 62 [ag 8 9, .v true [.an 0 8, .an 0 9, .an 0 10, .an 0 11, .an 0 12, .an 0 13, .an 0 14, .an 0 15]]]) (out := on 10) (nc := 11) (by kernel_rfl)
        ⟨fun σ W g h hb => toQQ (PAside_any W _ _ c d a b K (h 1 rfl) (h 0 rfl) (by omega) bc bd ba bb (hTab.kept g (by simp))),
        fun σ W g h hb => toZ (FSign_any W _ _ (8 * K + 5) (qq1 (h 2 rfl)) (by omega) (bc.cross bd ba).1) rfl,
        fun σ W g h hb => fun ρ o ho _ hv => ⟨_, lt_told true ho ((two_vals hv).1.trans (h 3 rfl)) (two_vals hv).2 (decide_eq_true (rsg_lt.2 h1)), rfl⟩,
        fun σ W g h hb => toZ (FSign_any W _ _ (8 * K + 5) (qq2 (h 2 rfl)) (by omega) (bc.cross bd bb).1) rfl,
        fun σ W g h hb => fun ρ o ho _ hv => ⟨_, lt_told false ho ((two_vals hv).1.trans (h 5 rfl)) (two_vals hv).2 (decide_eq_false (fun q => h2 (rsg_lt.1 q))), rfl⟩,
        fun σ W g h hb => toZ (FSign_any W _ _ (8 * K + 5) (qq1 (h 2 rfl)) (by omega) (bc.cross bd ba).1) rfl,
        fun σ W g h hb => fun ρ o ho _ hv => ⟨_, lt_told true ho ((two_vals hv).1.trans (h 7 rfl)) (two_vals hv).2 (decide_eq_true (rsg_lt.2 h1)), rfl⟩,
        fun σ W g h hb => PCut_any W _ _ _ a b _ _ K (8 * K + 5) (h 0 rfl) (qq1 (h 2 rfl)) (qq2 (h 2 rfl)) (by omega) ba bb (bc.cross bd ba) (bc.cross bd bb) hne (hTab.kept g (by simp)),
        fun σ W g h hb => toPts g.size (PBetween_any W _ _ _ _ (128 * K + 100) (h 9 rfl) (sg2 (h 0 rfl)) (by omega) ((ba.cut bb bc bd)) (bb.mono (by omega)) (hTab.kept g (by simp))),
        trivial⟩ fun τ W g h => ⟨_, rfl, (h 10 rfl).1, g, (h 10 rfl).2⟩
  · skip
    unfold clipP
    rw [if_neg (fun q => h1 q.1), if_neg h1, if_pos h2]
    have hne : pcross c d a ≠ pcross c d b := fun e => by grind
    refine exec_calls mixed Tryz.func32 [sSg a b, sSg c d] [sQQ (pcross c d a) (pcross c d b), sZ (rsg (pcross c d a)), sV (.bool false), sZ (rsg (pcross c d a)), sV (.bool false), sZ (rsg (pcross c d b)), sV (.bool true), sPt (pat a b (pcross c d a / (pcross c d a - pcross c d b))), sPts w.heap.size (btw a (pat a b (pcross c d a / (pcross c d a - pcross c d b))))] (.cons Ha (.cons Hb .nil)) (rs := [cl 2 61 [ag 16 1, ag 16 0], cl 3 58 [ag 4 2], co 4 (.binOp .lss 3 (.tmp 21) (.const (.int .i64 0)) 3) 4 [on 3, .v false [.lit (.int .i64 0)]] [0, 1, 2, 3] [], cl 5 58 [ag 4 2], co 6 (.binOp .lss 3 (.tmp 30) (.const (.int .i64 0)) 3) 4 [on 5, .v false [.lit (.int .i64 0)]] [0, 1, 2, 3, 4, 5] [], cl 7 58 [.v true [.an 2 4, .an 2 5, .an 2 6, .an 2 7]], co 8 (.binOp .lss 3 (.tmp 38) (.const (.int .i64 0)) 3) 4 [on 7, .v false [.lit (.int .i64 0)]] [0, 1, 2, 3, 4, 5, 6, 7] [], cl 9 63 [ag 16 0, ag 4 2, .v true [.an 2 4, .an 2 5, .an 2 6, .an 2 7]], cl 10 62 [ag 8 0, ag 8 9]]) (out := on 10) (nc := 11) (by kernel_rfl)
        ⟨fun σ W g h hb => toQQ (PAside_any W _ _ c d a b K (h 1 rfl) (h 0 rfl) (by omega) bc bd ba bb (hTab.kept g (by simp))),
        fun σ W g h hb => toZ (FSign_any W _ _ (8 * K + 5) (qq1 (h 2 rfl)) (by omega) (bc.cross bd ba).1) rfl,
        fun σ W g h hb => fun ρ o ho _ hv => ⟨_, lt_told false ho ((two_vals hv).1.trans (h 3 rfl)) (two_vals hv).2 (decide_eq_false (fun q => h1 (rsg_lt.1 q))), rfl⟩,
        fun σ W g h hb => toZ (FSign_any W _ _ (8 * K + 5) (qq1 (h 2 rfl)) (by omega) (bc.cross bd ba).1) rfl,
        fun σ W g h hb => fun ρ o ho _ hv => ⟨_, lt_told false ho ((two_vals hv).1.trans (h 5 rfl)) (two_vals hv).2 (decide_eq_false (fun q => h1 (rsg_lt.1 q))), rfl⟩,
        fun σ W g h hb => toZ (FSign_any W _ _ (8 * K + 5) (qq2 (h 2 rfl)) (by omega) (bc.cross bd bb).1) rfl,
        fun σ W g h hb => fun ρ o ho _ hv => ⟨_, lt_told true ho ((two_vals hv).1.trans (h 7 rfl)) (two_vals hv).2 (decide_eq_true (rsg_lt.2 h2)), rfl⟩,
        fun σ W g h hb => PCut_any W _ _ _ a b _ _ K (8 * K + 5) (h 0 rfl) (qq1 (h 2 rfl)) (qq2 (h 2 rfl)) (by omega) ba bb (bc.cross bd ba) (bc.cross bd bb) hne (hTab.kept g (by simp)),
        fun σ W g h hb => toPts g.size (PBetween_any W _ _ _ _ (128 * K + 100) (sg1 (h 0 rfl)) (h 9 rfl) (by omega) (ba.mono (by omega)) ((ba.cut bb bc bd)) (hTab.kept g (by simp))),
        trivial⟩ fun τ W g h => ⟨_, rfl, (h 10 rfl).1, g, (h 10 rfl).2⟩
  · skip
    unfold clipP
    rw [if_neg (fun q => h1 q.1), if_neg h1, if_neg h2]
    refine exec_calls mixed Tryz.func32 [sSg a b, sSg c d] [sQQ (pcross c d a) (pcross c d b), sZ (rsg (pcross c d a)), sV (.bool false), sZ (rsg (pcross c d a)), sV (.bool false), sZ (rsg (pcross c d b)), sV (.bool false), sPts w.heap.size (btw a b)] (.cons Ha (.cons Hb .nil)) (rs := [cl 2 61 [ag 16 1, ag 16 0], cl 3 58 [ag 4 2], co 4 (.binOp .lss 3 (.tmp 21) (.const (.int .i64 0)) 3) 4 [on 3, .v false [.lit (.int .i64 0)]] [0, 1, 2, 3] [], cl 5 58 [ag 4 2], co 6 (.binOp .lss 3 (.tmp 30) (.const (.int .i64 0)) 3) 4 [on 5, .v false [.lit (.int .i64 0)]] [0, 1, 2, 3, 4, 5] [], cl 7 58 [.v true [.an 2 4, .an 2 5, .an 2 6, .an 2 7]], co 8 (.binOp .lss 3 (.tmp 38) (.const (.int .i64 0)) 3) 4 [on 7, .v false [.lit (.int .i64 0)]] [0, 1, 2, 3, 4, 5, 6, 7] [], cl 9 62 [ag 8 0, .v true [.an 0 8, .an 0 9, .an 0 10, .an 0 11, .an 0 12, .an 0 13, .an 0 14, .an 0 15]]]) (out := on 9) (nc := 10) (by kernel_rfl)
        ⟨fun σ W g h hb => toQQ (PAside_any W _ _ c d a b K (h 1 rfl) (h 0 rfl) (by omega) bc bd ba bb (hTab.kept g (by simp))),
        fun σ W g h hb => toZ (FSign_any W _ _ (8 * K + 5) (qq1 (h 2 rfl)) (by omega) (bc.cross bd ba).1) rfl,
        fun σ W g h hb => fun ρ o ho _ hv => ⟨_, lt_told false ho ((two_vals hv).1.trans (h 3 rfl)) (two_vals hv).2 (decide_eq_false (fun q => h1 (rsg_lt.1 q))), rfl⟩,
        fun σ W g h hb => toZ (FSign_any W _ _ (8 * K + 5) (qq1 (h 2 rfl)) (by omega) (bc.cross bd ba).1) rfl,
        fun σ W g h hb => fun ρ o ho _ hv => ⟨_, lt_told false ho ((two_vals hv).1.trans (h 5 rfl)) (two_vals hv).2 (decide_eq_false (fun q => h1 (rsg_lt.1 q))), rfl⟩,
        fun σ W g h hb => toZ (FSign_any W _ _ (8 * K + 5) (qq2 (h 2 rfl)) (by omega) (bc.cross bd bb).1) rfl,
        fun σ W g h hb => fun ρ o ho _ hv => ⟨_, lt_told false ho ((two_vals hv).1.trans (h 7 rfl)) (two_vals hv).2 (decide_eq_false (fun q => h2 (rsg_lt.1 q))), rfl⟩,
        fun σ W g h hb => toPts g.size (PBetween_any W _ _ _ _ (128 * K + 100) (sg1 (h 0 rfl)) (sg2 (h 0 rfl)) (by omega) (ba.mono (by omega)) (bb.mono (by omega)) (hTab.kept g (by simp))),
        trivial⟩ fun τ W g h => ⟨_, rfl, (h 9 rfl).1, g, (h 9 rfl).2⟩
end Go.Proofs.YthbhgcaemcobeaaGreatDoor
namespace Go.Proofs.YthbhgcaemcobeaaGreatDoor
open Go.RowKit Mat
set_option maxRecDepth 100000
set_option linter.unusedVariables false
set_option linter.unusedSimpArgs false
theorem set_rep {k d : Nat} {hs : List Nat} : (List.replicate (k + 1) 0 ++ hs).set k d = List.replicate k 0 ++ d :: hs := by
  rw [List.replicate_succ', List.append_assoc, List.set_append]
  simp
theorem val_drop (xs : List Nat) (k : Nat) (hk : k < xs.length) : val D (xs.drop k) = xs.getD k 0 + D * val D (xs.drop (k + 1)) := by
  rw [List.drop_eq_getElem_cons hk, List.getD_eq_getElem?_getD, List.getElem?_eq_getElem hk]; rfl
set_option maxHeartbeats 2000000 in
theorem rcut_at (w : World) (s : Option Addr) (n cap : Nat) (xs : List Nat) (hn : xs.length = n) (hx : RRdo w s xs) (hnc : n ≤ cap) (bn : n ≤ 1099511627776) :
    Calls Tryz.prog 118 #[.slice s n cap] w (fun e w' => ∃ k, e = .returned (.agg #[.slice s k cap]) ∧ k ≤ n ∧ Top (xs.take k) ∧ val D (xs.take k) = val D xs ∧ w.grownBy w' none) := by
  have Hn := Lib.hid hn
  have hgw0 := World.grownBy_alloc w (.cells #[.slice none 0 0] 38) none
  have hbox0 := heap_new w (.cells #[.slice none 0 0] 38) w.heap.size rfl
  obtain ⟨cb, fb⟩ := box_cell hbox0
  have hx0 := hx.kept hgw0
  clear hn
  go_enter Tryz.func118, Tryz.ntmps118
  go_wp2_with fail
  generalize (w.alloc (.cells #[.slice none 0 0] 38)) = w0 at *
  go_loopw [3] (fun i wr => ∃ (k : Nat), k ≤ n ∧ i = .int .i64 k ∧ w0 = wr ∧ Hid (val D (xs.take k) = val D xs)) (fun i _ => (intOf i).toNat)
  case atStart => exact ⟨n, Nat.le_refl _, rfl, rfl, by show _ = _; rw [← Hn.out, List.take_length]⟩
  case round =>
    obtain ⟨k, hk, rfl, rfl, hv⟩ := hrel
    have hF : Hid (Top (xs.take k) → ∃ k', Ending.returned (.agg #[.slice s k cap]) = Ending.returned (.agg #[.slice s k' cap]) ∧ k' ≤ n ∧ Top (xs.take k') ∧ val D (xs.take k') = val D xs ∧ w.grownBy (w0.setCell ⟨w.heap.size, 0, none⟩ (.slice s k cap)) none) := by
      intro ht
      exact ⟨k, rfl, hk, ht, hv.out, grown_new hgw0 (grown_set (grown_refl _ _) _ _) (Nat.le_refl _)⟩
    by_cases h0 : k = 0
    · subst h0
      have hF2 := Lib.hid (hF.out (by intro x hx; simp at hx))
      clear hF
      go_wp2_with fail
      exact bodyPost_ret (v := .agg #[.slice s 0 cap]) (by simp [results, Tryz.results118, go_sem, cb]) rfl hF2.out
    · obtain ⟨j, rfl⟩ : ∃ j, k = j + 1 := ⟨k - 1, by omega⟩
      clear h0
      obtain ⟨b1, o1, cs1, rfl, hb1, hat1⟩ := hx0.get j (by rw [Hn.out]; omega)
      obtain ⟨x, ex⟩ : ∃ x, xs[j]'(by rw [Hn.out]; omega) = x := ⟨_, rfl⟩
      have c1 : w0.cell? ⟨b1, o1 + j, none⟩ = some (.int .i64 (x : Int)) := by
        rw [hb1.cell, hat1 j (by rw [Hn.out]; omega), ex]; rfl
      have EX := Lib.hid ex
      clear ex
      by_cases hz : x = 0
      · subst hz
        clear hF
        go_wp2_with fail
        go_roundw
        case rel => exact ⟨j, by omega, by go_num, by trivial, by show _ = _; rw [← hv.out, val_take_succ D xs j (by rw [Hn.out]; omega), EX.out]; omega⟩
        case measure => simp [intOf]
      · have t : ((x : Int) == 0) = false := beq_eq_false_iff_ne.2 (by omega)
        have hF2 := Lib.hid (hF.out (top_take xs j (by rw [Hn.out]; omega) (by rw [EX.out]; exact hz)))
        clear hF
        go_wp2_with fail
        exact bodyPost_ret (v := .agg #[.slice (some ⟨b1, o1, none⟩) (j + 1) cap]) (by simp [results, Tryz.results118, go_sem, cb]) rfl hF2.out
set_option maxHeartbeats 4000000 in
theorem rSmall_any (w : World) (va : Value) (a n : Nat) (ha : RefV w va a) (ba : a < D ^ 1000000) (hn : n ≤ 10000) :
    Calls Tryz.prog 119 #[va, .int .i64 (n : Int)] w (RetRef w (a * n)) := by
  obtain ⟨sa, la, ca, xs, rfl, h2⟩ := ha
  have na : RefV w (.agg #[.slice sa la ca]) a := ⟨sa, la, ca, xs, rfl, h2⟩
  have hgw0 : w.grownBy ((w.alloc (.cells #[.slice sa la ca] 38)).alloc (.cells #[.slice none 0 0] 38)) none := grown_alloc (World.grownBy_alloc _ _ _) _
  have hboxr := heap_new (w.alloc (.cells #[.slice sa la ca] 38)) (.cells #[.slice none 0 0] 38) (w.heap.size + 1) (by simp)
  have hboxa := (Below.heap_alloc _ (.cells #[.slice none 0 0] 38) w.heap.size (by simp)).trans (heap_new w (.cells #[.slice sa la ca] 38) w.heap.size rfl)
  replace na := na.kept hgw0
  have Hba := Lib.hid ba
  have hnB : n < B := Nat.lt_of_le_of_lt hn (by decide)
  have hw : IntKind.u64.wrap (n : Int) = (n : Int) := by rw [IntKind.wrap_u64]; omega
  have hnD : n < D ^ 1000000 := by
    obtain ⟨E, hE⟩ : ∃ E, E = 1000000 := ⟨_, rfl⟩
    rw [← hE]
    have h1 : D ^ 2 ≤ D ^ E := Nat.pow_le_pow_right D_pos (by omega)
    have h2 : D ^ 2 = 100000000 := by decide
    omega
  have HnD := Lib.hid hnD
  clear h2 ba hnD
  go_enter Tryz.func119, Tryz.ntmps119
  go_wp2_with fail
  generalize ((w.alloc (.cells #[.slice sa la ca] 38)).alloc (.cells #[.slice none 0 0] 38)) = w0 at *
  obtain ⟨c1, f1⟩ := box_cell hboxa
  go_region_held3 (fun w' => w'.cell? ⟨w.heap.size, 0, none⟩ = some (.slice sa la ca))
    (first | assumption | exact c1 | go_keep)
    (first
      | (go_at_call 84; (with_reducible refine (rOf_any w0.drew n hnB).mono ?_); rintro e w1 ⟨v1, rfl, n1, g1⟩; have hG1 := grown_pre w0 g1 rfl rfl rfl rfl; have hS1 := hG1.cell c1 (by simp))
      | (go_at_call 112; (with_reducible refine (rMul_any w1 _ _ a n (na.kept hG1) n1 Hba.out HnD.out).mono ?_); rintro e w2 ⟨v2, rfl, ⟨s2, k2, c2, zs2, rfl, n2⟩, g2⟩; have hG2 := grown_trans hG1 g2; have hS2 := hG2.cell c1 (by simp); have hr2 := heap_kept hG2 hboxr; obtain ⟨c3, f3⟩ := box_cell hr2))
  have hF := Lib.hid (rret (n := a * n) (grown_trans hgw0 hG2) hr2 (by decide) (by omega) ⟨s2, k2, c2, zs2, rfl, n2⟩ (.slice s2 k2 c2))
  clear g2 hG2 hG1 n2
  go_wp2_with fail
  exact bodyPost_ret (v := .agg #[.slice s2 k2 c2]) (by simp [results, Tryz.results119, go_sem, c3]) rfl hF.out
theorem run_append_none {P : Program} (w : World) (t ty e : TypeId) (i : TypeInfo) (ht : P.underlying t = some (.slice e)) (hi : P.info? e = some i) (a : Addr) (n cap c : Nat) (h : n ≤ cap) :
    (Builtin.append_ #[t, t] ty #[.slice (some a) n cap, .slice none 0 c]).run P w = .ok (.slice (some a) n cap) w := by
  simp [Builtin.append_, run_underlying ht, sizeOf, typeInfo, hi, Builtin.lenOf, h, Builtin.firstCells, storeCells]
theorem own_one {W : World} {H base x : Nat} (hH : W.heap.size = H) (hb : base ≤ H) : (W.alloc (.cells #[iv x] 3)).ownsRow base 3 1 (.slice (some ⟨H, 0, none⟩) 1 1) 1 [iv x] :=
  ⟨rfl, Or.inr ⟨H, 1, #[iv x], rfl, hb, heap_new W _ H hH.symm, Nat.le_refl _, by unfold maxLen; omega, rfl, rfl⟩⟩
theorem run_append_ints {w : World} {ty : TypeId} {base G n0 c0 : Nat} {olds : List Nat} (hown : w.ownsRow base 3 1 (.slice (some ⟨G, 0, none⟩) n0 c0) n0 (olds.map iv)) (h0 : 0 < n0) {s : Option Addr} {k c : Nat} {ys : List Nat} (hk : ys.length = k) (hr : RRdo w s ys) (hb : n0 + k ≤ 10000000) (hbase : base ≤ w.heap.size) :
    ∃ g cap w', (Builtin.append_ #[36, 36] ty #[.slice (some ⟨G, 0, none⟩) n0 c0, .slice s k c]).run Tryz.prog w = .ok (.slice (some ⟨g, 0, none⟩) (n0 + k) cap) w' ∧
      w'.ownsRow base 3 1 (.slice (some ⟨g, 0, none⟩) (n0 + k) cap) (n0 + k) ((olds ++ ys).map iv) ∧ w.grownBy w' (some G) := by
  obtain ⟨i1, hi, hz0, hz1, hz2⟩ := info_partsI
  have key : ∀ (ad : Addr) (news : List Value), news = ys.map iv → (∀ j u, news[j]? = some u → w.cell? (ad.add j) = some u) → ∃ g cap w', (Builtin.append_ #[36, 36] ty #[.slice (some ⟨G, 0, none⟩) n0 c0, .slice (some ad) k c]).run Tryz.prog w = .ok (.slice (some ⟨g, 0, none⟩) (n0 + k) cap) w' ∧
      w'.ownsRow base 3 1 (.slice (some ⟨g, 0, none⟩) (n0 + k) cap) (n0 + k) ((olds ++ ys).map iv) ∧ w.grownBy w' (some G) := by
    intro ad news hne hn
    obtain ⟨v', w', hrun, h2, h3, _, h5⟩ := run_append_own_at (P := Tryz.prog) w base 36 ty 3 i1 (.int .i64 0) 1 8 Tryz.underlying36 hi hz0 hz1 hz2 rfl (by omega) (.slice (some ⟨G, 0, none⟩) n0 c0) n0 (olds.map iv) hown ad k c news (by rw [hne, List.length_map, hk]; omega) hn (by rw [hne]; intro u hu; obtain ⟨x, -, rfl⟩ := List.mem_map.1 hu; rfl) (by unfold maxLen; omega) (by omega) hbase
    obtain ⟨g, cap, rfl, _, hlt⟩ := h2.form (by omega)
    exact ⟨g, cap, w', hrun, by rw [List.map_append, ← hne]; exact h2, h3⟩
  rcases hr with h | ⟨b, off, cs, e, h1, h2⟩
  · subst h
    simp only [List.length_nil] at hk
    subst hk
    cases s with
    | none =>
      refine ⟨G, c0, w, run_append_none w _ ty _ i1 Tryz.underlying36 hi _ _ _ _ (own_rdoI hown).2.1, ?_, grown_refl _ _⟩
      rw [List.append_nil]; exact hown
    | some ad => exact key ad [] rfl (fun j u h => by simp at h)
  · subst e
    refine key ⟨b, off, none⟩ (ys.map iv) rfl (fun j u hj => ?_)
    have hadd : (⟨b, off, none⟩ : Addr).add j = ⟨b, off + j, none⟩ := by unfold Addr.add; split <;> simp_all
    rw [hadd, h1.cell]
    rw [List.getElem?_map] at hj
    obtain ⟨x, hx, rfl⟩ := Option.map_eq_some_iff.1 hj
    obtain ⟨hj2, rfl⟩ := List.getElem?_eq_some_iff.1 hx
    exact h2 j hj2
theorem step_append_ints {w : World} {ops : Array Oper} {o : Oper} {a : Act} {K : Act → World → Prop} {Q : Exit → Act → World → Prop} {E : Prop} (hgd : o.guard = none) (s x : Operand)
    (ho : o.op = .call { callee := .builtin .append, args := #[s, x], argTypes := #[36, 36] })
    (base G n0 c0 : Nat) (olds : List Nat) (hs : a.eval s = .slice (some ⟨G, 0, none⟩) n0 c0) (hown : w.ownsRow base 3 1 (.slice (some ⟨G, 0, none⟩) n0 c0) n0 (olds.map iv)) (h0 : 0 < n0)
    (sx : Option Addr) (k c : Nat) (ys : List Nat) (hx : a.eval x = .slice sx k c) (hk : ys.length = k) (hr : RRdo w sx ys) (hb : n0 + k ≤ 10000000) (hbase : base ≤ w.heap.size)
    (h : ∀ g cap w', w'.ownsRow base 3 1 (.slice (some ⟨g, 0, none⟩) (n0 + k) cap) (n0 + k) ((olds ++ ys).map iv) → w.grownBy w' (some G) → K (a.put o.dst (.slice (some ⟨g, 0, none⟩) (n0 + k) cap)) w') :
    if Region.wanted o (yielded ops a.tmps) = true then Oper.wp Tryz.prog o a w K Q else E := by
  have hw : Region.wanted o (yielded ops a.tmps) = true := by simp [Region.wanted, hgd]
  rw [if_pos hw]
  obtain ⟨g, cap, w', hrun, h2, h3⟩ := run_append_ints (ty := o.type) hown h0 (c := c) hk hr hb hbase
  unfold Oper.wp execOp
  simp only [ho, resolve, invoke, builtin, Sem.run_bind, Sem.run_pure, Result.andThen_ok, List.map_toArray, List.map_cons, List.map_nil, hs, hx, hrun]
  exact h g cap w' h2 h3
end Go.Proofs.YthbhgcaemcobeaaGreatDoor
