/- What the laws lean on, part 19. -/
import Derived.Test.YthbhgcaemcobeaaGreatDoorMp18
namespace Go.Proofs.YthbhgcaemcobeaaGreatDoor
open Go.RowKit Mat Ex PM
set_option linter.unusedVariables false
set_option linter.unusedSimpArgs false
def PTextOf (s : ByteArray) (p : Pq) : Prop := ∃ a b : ByteArray, RTextOf a p.1 ∧ RTextOf b p.2 ∧ s = a ++ { data := #[32] } ++ b
theorem rtext_size {s : ByteArray} {r : Rat} {K : Nat} (h : RTextOf s r) (hb : Bn K r) : s.size ≤ 40 * K + 10 := by
  rcases h with ⟨_, h⟩ | ⟨_, a, b, ha, hb', rfl⟩
  · have := ztext_len h hb.1; omega
  · have h1 := ztext_len ha hb.1
    have h2 := ztext_len hb' (ldi hb.2)
    simp only [ByteArray.size_append]
    have : ({ data := #[47] } : ByteArray).size = 1 := rfl
    omega
def RetPText (w : World) (p : Pq) (e : Ending) (w' : World) : Prop := ∃ s, e = .returned (.string s) ∧ PTextOf s p ∧ w.grownBy w' none
theorem PText_any (w : World) (va : Value) (p : Pq) (K : Nat) (Ha : PtV w va p) (hK : 1 ≤ K ∧ K ≤ 100000) (ba : Bp K p) :
    Calls Tryz.prog 12 #[va] w (RetPText w p) := by
  refine exec_calls mixed Tryz.func12 [sPt p] [sT (fun s => RTextOf s p.1), sT (fun s => ∃ a, RTextOf a p.1 ∧ s = a ++ { data := #[32] }), sT (fun s => RTextOf s p.2), sT (fun s => PTextOf s p)] (.cons Ha .nil) (rs := [cl 1 19 [ag 4 0], co 2 (.binOp .add 9 (.tmp 5) (.const (.string ({ data := #[32] }))) 9) 9 [on 1, .v false [.lit (.string ({ data := #[32] }))]] [0, 1] [], cla 3 19 [.v true [.an 0 4, .an 0 5, .an 0 6, .an 0 7]] [0, 1], co 4 (.binOp .add 9 (.tmp 6) (.tmp 9) 9) 9 [on 2, on 3] [0, 1, 2, 3] []]) (out := on 4) (nc := 5) (by kernel_rfl)
      ⟨fun σ W g h hb => toT (FText_any W _ p.1 K (pt1 (h 0 rfl)) (by omega) ba.1.1 ba.1.2),
      fun σ W g h hb => fun ρ o ho _ hv => by
        obtain ⟨s, e, hs⟩ := h 1 rfl
        exact ⟨_, add_told ho ((two_vals hv).1.trans e) (two_vals hv).2 (by have := rtext_size hs ba.1; show s.size + 1 ≤ _; omega), _, rfl, s, hs, rfl⟩,
      fun σ W g h hb => toT (FText_any W _ p.2 K (pt2 (h 0 rfl)) (by omega) ba.2.1 ba.2.2),
      fun σ W g h hb => fun ρ o ho _ hv => by
        obtain ⟨s, e, a, ha, rfl⟩ := h 2 rfl
        obtain ⟨t, e2, ht⟩ := h 3 rfl
        exact ⟨_, add_told ho ((two_vals hv).1.trans e) ((two_vals hv).2.trans e2) (by have h1 := rtext_size ha ba.1; have h2 := rtext_size ht ba.2; simp only [ByteArray.size_append]; have : ({ data := #[32] } : ByteArray).size = 1 := rfl; omega), _, rfl, a, t, ha, ht, rfl⟩,
      trivial⟩ fun τ W g h => by
        obtain ⟨s, e, hs⟩ := h 4 rfl
        exact ⟨s, congrArg Ending.returned e, hs, g⟩
theorem ends_le {a b : Pq} (h : ple a b) : lo a b = a ∧ hi a b = b := by unfold lo hi; simp [h]
theorem ends_gt {a b : Pq} (h : ¬ ple a b) : lo a b = b ∧ hi a b = a := by unfold lo hi; simp [h]
theorem pgt {a b : Pq} : ¬ ple a b ↔ 0 < pcmp a b := by rw [← pcmp_le]; omega
theorem pmax_t {a b : Pq} (h : ple b a) : pmax a b = a := by unfold pmax; rw [if_pos h]
theorem pmax_f {a b : Pq} (h : ¬ ple b a) : pmax a b = b := by unfold pmax; rw [if_neg h]
theorem pmin_t {a b : Pq} (h : ple a b) : pmin a b = a := by unfold pmin; rw [if_pos h]
theorem pmin_f {a b : Pq} (h : ¬ ple a b) : pmin a b = b := by unfold pmin; rw [if_neg h]
theorem pback {a b : Pq} : pcmp b a < 0 ↔ ¬ ple a b := by rw [pgt, pcmp_swap a b]; omega
theorem Bp.lo {K : Nat} {a b : Pq} (h : Bp K a) (h' : Bp K b) : Bp K (lo a b) := by rcases lo_or a b with e | e <;> rw [e] <;> assumption
theorem Bp.hi {K : Nat} {a b : Pq} (h : Bp K a) (h' : Bp K b) : Bp K (hi a b) := by rcases hi_or a b with e | e <;> rw [e] <;> assumption
theorem Bp.max {K : Nat} {a b : Pq} (h : Bp K a) (h' : Bp K b) : Bp K (pmax a b) := by rcases pmax_or a b with e | e <;> rw [e] <;> assumption
theorem Bp.min {K : Nat} {a b : Pq} (h : Bp K a) (h' : Bp K b) : Bp K (pmin a b) := by rcases pmin_or a b with e | e <;> rw [e] <;> assumption
theorem PEnds_any (w : World) (va : Value) (a b : Pq) (K : Nat) (Ha : SgV w va a b) (hK : 1 ≤ K ∧ K ≤ 10000) (ba : Bp K a) (bb : Bp K b) :
    Calls Tryz.prog 66 #[va] w (RetPP w (lo a b) (hi a b)) := by
  by_cases h1 : ple a b
  · skip
    rw [(ends_le h1).1, (ends_le h1).2]
    refine exec_calls mixed Tryz.func66 [sSg a b] [sZ (pcmp a b), sV (.bool false)] (.cons Ha .nil) (rs := [cl 1 16 [ag 8 0, .v true [.an 0 8, .an 0 9, .an 0 10, .an 0 11, .an 0 12, .an 0 13, .an 0 14, .an 0 15]], co 2 (.binOp .gtr 3 (.tmp 8) (.const (.int .i64 0)) 3) 4 [on 1, .v false [.lit (.int .i64 0)]] [0, 1] []]) (out := .tup [(true, [.an 0 0, .an 0 1, .an 0 2, .an 0 3, .an 0 4, .an 0 5, .an 0 6, .an 0 7]), (true, [.an 0 8, .an 0 9, .an 0 10, .an 0 11, .an 0 12, .an 0 13, .an 0 14, .an 0 15])]) (nc := 3) (by kernel_rfl)
        ⟨fun σ W g h hb => toZ (PCmp_any W _ _ a b K (sg1 (h 0 rfl)) (sg2 (h 0 rfl)) (by omega) ba bb) rfl,
        fun σ W g h hb => fun ρ o ho _ hv => ⟨_, gt_told false ho ((two_vals hv).1.trans (h 1 rfl)) (two_vals hv).2 (decide_eq_false (by have := pcmp_le.2 h1; omega)), rfl⟩,
        trivial⟩ fun τ W g h => ⟨_, _, rfl, sg1 (h 0 rfl), sg2 (h 0 rfl), g⟩
  · skip
    rw [(ends_gt h1).1, (ends_gt h1).2]
    refine exec_calls mixed Tryz.func66 [sSg a b] [sZ (pcmp a b), sV (.bool true)] (.cons Ha .nil) (rs := [cl 1 16 [ag 8 0, .v true [.an 0 8, .an 0 9, .an 0 10, .an 0 11, .an 0 12, .an 0 13, .an 0 14, .an 0 15]], co 2 (.binOp .gtr 3 (.tmp 8) (.const (.int .i64 0)) 3) 4 [on 1, .v false [.lit (.int .i64 0)]] [0, 1] []]) (out := .tup [(true, [.an 0 8, .an 0 9, .an 0 10, .an 0 11, .an 0 12, .an 0 13, .an 0 14, .an 0 15]), (true, [.an 0 0, .an 0 1, .an 0 2, .an 0 3, .an 0 4, .an 0 5, .an 0 6, .an 0 7])]) (nc := 3) (by kernel_rfl)
        ⟨fun σ W g h hb => toZ (PCmp_any W _ _ a b K (sg1 (h 0 rfl)) (sg2 (h 0 rfl)) (by omega) ba bb) rfl,
        fun σ W g h hb => fun ρ o ho _ hv => ⟨_, gt_told true ho ((two_vals hv).1.trans (h 1 rfl)) (two_vals hv).2 (decide_eq_true (pgt.1 h1)), rfl⟩,
        trivial⟩ fun τ W g h => ⟨_, _, rfl, sg2 (h 0 rfl), sg1 (h 0 rfl), g⟩
theorem POverlap_any (w : World) (va vb : Value) (a b c d : Pq) (K : Nat) (Ha : SgV w va a b) (Hb : SgV w vb c d) (hK : 1 ≤ K ∧ K ≤ 10000) (ba : Bp K a) (bb : Bp K b) (bc : Bp K c) (bd : Bp K d) :
    Calls Tryz.prog 59 #[va, vb] w (RetPP w (pmax (lo a b) (lo c d)) (pmin (hi a b) (hi c d))) := by
  rcases Classical.em (ple (lo c d) (lo a b)) with h1 | h1 <;> rcases Classical.em (ple (hi a b) (hi c d)) with h2 | h2
  · skip
    rw [pmax_t h1, pmin_t h2]
    refine exec_calls mixed Tryz.func59 [sSg a b, sSg c d] [sPP (lo a b) (hi a b), sPP (lo c d) (hi c d), sZ (pcmp (lo c d) (lo a b)), sV (.bool false), sZ (pcmp (hi c d) (hi a b)), sV (.bool false)] (.cons Ha (.cons Hb .nil)) (rs := [cl 2 66 [ag 16 0], cl 3 66 [ag 16 1], cl 4 16 [ag 8 3, ag 8 2], co 5 (.binOp .gtr 3 (.tmp 20) (.const (.int .i64 0)) 3) 4 [on 4, .v false [.lit (.int .i64 0)]] [0, 1, 2, 3, 4] [], cl 6 16 [.v true [.an 3 8, .an 3 9, .an 3 10, .an 3 11, .an 3 12, .an 3 13, .an 3 14, .an 3 15], .v true [.an 2 8, .an 2 9, .an 2 10, .an 2 11, .an 2 12, .an 2 13, .an 2 14, .an 2 15]], co 7 (.binOp .lss 3 (.tmp 25) (.const (.int .i64 0)) 3) 4 [on 6, .v false [.lit (.int .i64 0)]] [0, 1, 2, 3, 4, 5, 6] []]) (out := .tup [(true, [.an 2 0, .an 2 1, .an 2 2, .an 2 3, .an 2 4, .an 2 5, .an 2 6, .an 2 7]), (true, [.an 2 8, .an 2 9, .an 2 10, .an 2 11, .an 2 12, .an 2 13, .an 2 14, .an 2 15])]) (nc := 8) (by kernel_rfl)
        ⟨fun σ W g h hb => toPP (PEnds_any W _ a b K (h 0 rfl) hK ba bb),
        fun σ W g h hb => toPP (PEnds_any W _ c d K (h 1 rfl) hK bc bd),
        fun σ W g h hb => toZ (PCmp_any W _ _ (lo c d) (lo a b) K (pp1 (h 3 rfl)) (pp1 (h 2 rfl)) (by omega) (bc.lo bd) (ba.lo bb)) rfl,
        fun σ W g h hb => fun ρ o ho _ hv => ⟨_, gt_told false ho ((two_vals hv).1.trans (h 4 rfl)) (two_vals hv).2 (decide_eq_false (by have := pcmp_le.2 h1; omega)), rfl⟩,
        fun σ W g h hb => toZ (PCmp_any W _ _ (hi c d) (hi a b) K (pp2 (h 3 rfl)) (pp2 (h 2 rfl)) (by omega) (bc.hi bd) (ba.hi bb)) rfl,
        fun σ W g h hb => fun ρ o ho _ hv => ⟨_, lt_told false ho ((two_vals hv).1.trans (h 6 rfl)) (two_vals hv).2 (decide_eq_false (by exact fun q => pback.1 q h2)), rfl⟩,
        trivial⟩ fun τ W g h => ⟨_, _, rfl, pp1 (h 2 rfl), pp2 (h 2 rfl), g⟩
  · skip
    rw [pmax_t h1, pmin_f h2]
    refine exec_calls mixed Tryz.func59 [sSg a b, sSg c d] [sPP (lo a b) (hi a b), sPP (lo c d) (hi c d), sZ (pcmp (lo c d) (lo a b)), sV (.bool false), sZ (pcmp (hi c d) (hi a b)), sV (.bool true)] (.cons Ha (.cons Hb .nil)) (rs := [cl 2 66 [ag 16 0], cl 3 66 [ag 16 1], cl 4 16 [ag 8 3, ag 8 2], co 5 (.binOp .gtr 3 (.tmp 20) (.const (.int .i64 0)) 3) 4 [on 4, .v false [.lit (.int .i64 0)]] [0, 1, 2, 3, 4] [], cl 6 16 [.v true [.an 3 8, .an 3 9, .an 3 10, .an 3 11, .an 3 12, .an 3 13, .an 3 14, .an 3 15], .v true [.an 2 8, .an 2 9, .an 2 10, .an 2 11, .an 2 12, .an 2 13, .an 2 14, .an 2 15]], co 7 (.binOp .lss 3 (.tmp 25) (.const (.int .i64 0)) 3) 4 [on 6, .v false [.lit (.int .i64 0)]] [0, 1, 2, 3, 4, 5, 6] []]) (out := .tup [(true, [.an 2 0, .an 2 1, .an 2 2, .an 2 3, .an 2 4, .an 2 5, .an 2 6, .an 2 7]), (true, [.an 3 8, .an 3 9, .an 3 10, .an 3 11, .an 3 12, .an 3 13, .an 3 14, .an 3 15])]) (nc := 8) (by kernel_rfl)
        ⟨fun σ W g h hb => toPP (PEnds_any W _ a b K (h 0 rfl) hK ba bb),
        fun σ W g h hb => toPP (PEnds_any W _ c d K (h 1 rfl) hK bc bd),
        fun σ W g h hb => toZ (PCmp_any W _ _ (lo c d) (lo a b) K (pp1 (h 3 rfl)) (pp1 (h 2 rfl)) (by omega) (bc.lo bd) (ba.lo bb)) rfl,
        fun σ W g h hb => fun ρ o ho _ hv => ⟨_, gt_told false ho ((two_vals hv).1.trans (h 4 rfl)) (two_vals hv).2 (decide_eq_false (by have := pcmp_le.2 h1; omega)), rfl⟩,
        fun σ W g h hb => toZ (PCmp_any W _ _ (hi c d) (hi a b) K (pp2 (h 3 rfl)) (pp2 (h 2 rfl)) (by omega) (bc.hi bd) (ba.hi bb)) rfl,
        fun σ W g h hb => fun ρ o ho _ hv => ⟨_, lt_told true ho ((two_vals hv).1.trans (h 6 rfl)) (two_vals hv).2 (decide_eq_true (by exact pback.2 h2)), rfl⟩,
        trivial⟩ fun τ W g h => ⟨_, _, rfl, pp1 (h 2 rfl), pp2 (h 3 rfl), g⟩
  · skip
    rw [pmax_f h1, pmin_t h2]
    refine exec_calls mixed Tryz.func59 [sSg a b, sSg c d] [sPP (lo a b) (hi a b), sPP (lo c d) (hi c d), sZ (pcmp (lo c d) (lo a b)), sV (.bool true), sZ (pcmp (hi c d) (hi a b)), sV (.bool false)] (.cons Ha (.cons Hb .nil)) (rs := [cl 2 66 [ag 16 0], cl 3 66 [ag 16 1], cl 4 16 [ag 8 3, ag 8 2], co 5 (.binOp .gtr 3 (.tmp 20) (.const (.int .i64 0)) 3) 4 [on 4, .v false [.lit (.int .i64 0)]] [0, 1, 2, 3, 4] [], cl 6 16 [.v true [.an 3 8, .an 3 9, .an 3 10, .an 3 11, .an 3 12, .an 3 13, .an 3 14, .an 3 15], .v true [.an 2 8, .an 2 9, .an 2 10, .an 2 11, .an 2 12, .an 2 13, .an 2 14, .an 2 15]], co 7 (.binOp .lss 3 (.tmp 25) (.const (.int .i64 0)) 3) 4 [on 6, .v false [.lit (.int .i64 0)]] [0, 1, 2, 3, 4, 5, 6] []]) (out := .tup [(true, [.an 3 0, .an 3 1, .an 3 2, .an 3 3, .an 3 4, .an 3 5, .an 3 6, .an 3 7]), (true, [.an 2 8, .an 2 9, .an 2 10, .an 2 11, .an 2 12, .an 2 13, .an 2 14, .an 2 15])]) (nc := 8) (by kernel_rfl)
        ⟨fun σ W g h hb => toPP (PEnds_any W _ a b K (h 0 rfl) hK ba bb),
        fun σ W g h hb => toPP (PEnds_any W _ c d K (h 1 rfl) hK bc bd),
        fun σ W g h hb => toZ (PCmp_any W _ _ (lo c d) (lo a b) K (pp1 (h 3 rfl)) (pp1 (h 2 rfl)) (by omega) (bc.lo bd) (ba.lo bb)) rfl,
        fun σ W g h hb => fun ρ o ho _ hv => ⟨_, gt_told true ho ((two_vals hv).1.trans (h 4 rfl)) (two_vals hv).2 (decide_eq_true (by exact pgt.1 h1)), rfl⟩,
        fun σ W g h hb => toZ (PCmp_any W _ _ (hi c d) (hi a b) K (pp2 (h 3 rfl)) (pp2 (h 2 rfl)) (by omega) (bc.hi bd) (ba.hi bb)) rfl,
        fun σ W g h hb => fun ρ o ho _ hv => ⟨_, lt_told false ho ((two_vals hv).1.trans (h 6 rfl)) (two_vals hv).2 (decide_eq_false (by exact fun q => pback.1 q h2)), rfl⟩,
        trivial⟩ fun τ W g h => ⟨_, _, rfl, pp1 (h 3 rfl), pp2 (h 2 rfl), g⟩
  · skip
    rw [pmax_f h1, pmin_f h2]
    refine exec_calls mixed Tryz.func59 [sSg a b, sSg c d] [sPP (lo a b) (hi a b), sPP (lo c d) (hi c d), sZ (pcmp (lo c d) (lo a b)), sV (.bool true), sZ (pcmp (hi c d) (hi a b)), sV (.bool true)] (.cons Ha (.cons Hb .nil)) (rs := [cl 2 66 [ag 16 0], cl 3 66 [ag 16 1], cl 4 16 [ag 8 3, ag 8 2], co 5 (.binOp .gtr 3 (.tmp 20) (.const (.int .i64 0)) 3) 4 [on 4, .v false [.lit (.int .i64 0)]] [0, 1, 2, 3, 4] [], cl 6 16 [.v true [.an 3 8, .an 3 9, .an 3 10, .an 3 11, .an 3 12, .an 3 13, .an 3 14, .an 3 15], .v true [.an 2 8, .an 2 9, .an 2 10, .an 2 11, .an 2 12, .an 2 13, .an 2 14, .an 2 15]], co 7 (.binOp .lss 3 (.tmp 25) (.const (.int .i64 0)) 3) 4 [on 6, .v false [.lit (.int .i64 0)]] [0, 1, 2, 3, 4, 5, 6] []]) (out := .tup [(true, [.an 3 0, .an 3 1, .an 3 2, .an 3 3, .an 3 4, .an 3 5, .an 3 6, .an 3 7]), (true, [.an 3 8, .an 3 9, .an 3 10, .an 3 11, .an 3 12, .an 3 13, .an 3 14, .an 3 15])]) (nc := 8) (by kernel_rfl)
        ⟨fun σ W g h hb => toPP (PEnds_any W _ a b K (h 0 rfl) hK ba bb),
        fun σ W g h hb => toPP (PEnds_any W _ c d K (h 1 rfl) hK bc bd),
        fun σ W g h hb => toZ (PCmp_any W _ _ (lo c d) (lo a b) K (pp1 (h 3 rfl)) (pp1 (h 2 rfl)) (by omega) (bc.lo bd) (ba.lo bb)) rfl,
        fun σ W g h hb => fun ρ o ho _ hv => ⟨_, gt_told true ho ((two_vals hv).1.trans (h 4 rfl)) (two_vals hv).2 (decide_eq_true (by exact pgt.1 h1)), rfl⟩,
        fun σ W g h hb => toZ (PCmp_any W _ _ (hi c d) (hi a b) K (pp2 (h 3 rfl)) (pp2 (h 2 rfl)) (by omega) (bc.hi bd) (ba.hi bb)) rfl,
        fun σ W g h hb => fun ρ o ho _ hv => ⟨_, lt_told true ho ((two_vals hv).1.trans (h 6 rfl)) (two_vals hv).2 (decide_eq_true (by exact pback.2 h2)), rfl⟩,
        trivial⟩ fun τ W g h => ⟨_, _, rfl, pp1 (h 3 rfl), pp2 (h 3 rfl), g⟩
theorem PAside_any (w : World) (va vb : Value) (a b c d : Pq) (K : Nat) (Ha : SgV w va a b) (Hb : SgV w vb c d) (hK : 1 ≤ K ∧ K ≤ 10000) (ba : Bp K a) (bb : Bp K b) (bc : Bp K c) (bd : Bp K d) (hTab : Tab w) :
    Calls Tryz.prog 61 #[va, vb] w (RetQQ w (pcross a b c) (pcross a b d)) := by
  refine exec_calls mixed Tryz.func61 [sSg a b, sSg c d] [sQ (pcross a b c), sQ (pcross a b d)] (.cons Ha (.cons Hb .nil)) (rs := [cl 2 18 [ag 8 0, .v true [.an 0 8, .an 0 9, .an 0 10, .an 0 11, .an 0 12, .an 0 13, .an 0 14, .an 0 15], ag 8 1], cl 3 18 [ag 8 0, .v true [.an 0 8, .an 0 9, .an 0 10, .an 0 11, .an 0 12, .an 0 13, .an 0 14, .an 0 15], .v true [.an 1 8, .an 1 9, .an 1 10, .an 1 11, .an 1 12, .an 1 13, .an 1 14, .an 1 15]]]) (out := .tup [(true, [.an 2 0, .an 2 1, .an 2 2, .an 2 3]), (true, [.an 3 0, .an 3 1, .an 3 2, .an 3 3])]) (nc := 4) (by kernel_rfl)
      ⟨fun σ W g h hb => PCross_any W _ _ _ a b c K (sg1 (h 0 rfl)) (sg2 (h 0 rfl)) (sg1 (h 1 rfl)) hK.2 ba bb bc (hTab.kept g (by simp)),
      fun σ W g h hb => PCross_any W _ _ _ a b d K (sg1 (h 0 rfl)) (sg2 (h 0 rfl)) (sg2 (h 1 rfl)) hK.2 ba bb bd (hTab.kept g (by simp)),
      trivial⟩ fun τ W g h => ⟨_, _, rfl, h 2 rfl, h 3 rfl, g⟩
theorem rets {w w' : World} {b : Bool} {c : Bool} (h : b = c) (g : w.grownBy w' none) : RetB w c (.returned (.bool b)) w' := ⟨by rw [h], g⟩
noncomputable def dec (p : Prop) : Bool := open Classical in decide p
theorem dec_t {p : Prop} (h : p) : dec p = true := by unfold dec; simp [h]
theorem dec_f {p : Prop} (h : ¬ p) : dec p = false := by unfold dec; simp [h]
theorem POneSide_any (w : World) (va vb : Value) (u v : Rat) (K : Nat) (Ha : RatV w va u) (Hb : RatV w vb v) (hK : K ≤ 200000) (bu : Bn K u) (bv : Bn K v) :
    Calls Tryz.prog 60 #[va, vb] w (RetB w (dec (OneS u v))) := by
  by_cases h1 : OneS u v
  · skip
    rw [dec_t h1]
    refine exec_calls mixed Tryz.func60 [sQ u, sQ v] [sZ (rsg u), sZ (rsg v), sZ (rsg u * rsg v), sV (.bool true)] (.cons Ha (.cons Hb .nil)) (rs := [cl 2 58 [ag 4 0], cl 3 58 [ag 4 1], co 4 (.binOp .mul 3 (.tmp 6) (.tmp 8) 3) 3 [on 2, on 3] [0, 1, 2, 3] [], co 5 (.binOp .gtr 3 (.tmp 9) (.const (.int .i64 0)) 3) 4 [on 4, .v false [.lit (.int .i64 0)]] [0, 1, 2, 3, 4] []]) (out := .v false [.lit (.bool true)]) (nc := 6) (by kernel_rfl)
        ⟨fun σ W g h hb => toZ (FSign_any W _ _ K (h 0 rfl) (by omega) bu.1) rfl,
        fun σ W g h hb => toZ (FSign_any W _ _ K (h 1 rfl) (by omega) bv.1) rfl,
        fun σ W g h hb => fun ρ o ho _ hv => ⟨_, bin_told ho ((two_vals hv).1.trans (h 2 rfl)) ((two_vals hv).2.trans (h 3 rfl)) (mul3_told (rsg_or u) (rsg_or v)), rfl⟩,
        fun σ W g h hb => fun ρ o ho _ hv => ⟨_, gt_told true ho ((two_vals hv).1.trans (h 4 rfl)) (two_vals hv).2 (decide_eq_true (aside_iff.2 h1)), rfl⟩,
        trivial⟩ fun τ W g h => ⟨rfl, g⟩
  · skip
    rw [dec_f h1]
    refine exec_calls mixed Tryz.func60 [sQ u, sQ v] [sZ (rsg u), sZ (rsg v), sZ (rsg u * rsg v), sV (.bool false)] (.cons Ha (.cons Hb .nil)) (rs := [cl 2 58 [ag 4 0], cl 3 58 [ag 4 1], co 4 (.binOp .mul 3 (.tmp 6) (.tmp 8) 3) 3 [on 2, on 3] [0, 1, 2, 3] [], co 5 (.binOp .gtr 3 (.tmp 9) (.const (.int .i64 0)) 3) 4 [on 4, .v false [.lit (.int .i64 0)]] [0, 1, 2, 3, 4] []]) (out := .v false [.lit (.bool false)]) (nc := 6) (by kernel_rfl)
        ⟨fun σ W g h hb => toZ (FSign_any W _ _ K (h 0 rfl) (by omega) bu.1) rfl,
        fun σ W g h hb => toZ (FSign_any W _ _ K (h 1 rfl) (by omega) bv.1) rfl,
        fun σ W g h hb => fun ρ o ho _ hv => ⟨_, bin_told ho ((two_vals hv).1.trans (h 2 rfl)) ((two_vals hv).2.trans (h 3 rfl)) (mul3_told (rsg_or u) (rsg_or v)), rfl⟩,
        fun σ W g h hb => fun ρ o ho _ hv => ⟨_, gt_told false ho ((two_vals hv).1.trans (h 4 rfl)) (two_vals hv).2 (decide_eq_false (fun q => h1 (aside_iff.1 q))), rfl⟩,
        trivial⟩ fun τ W g h => ⟨rfl, g⟩
theorem Bp.one {K : Nat} {a : Pq} (h : Bp K a) : Bn K a.1 ∧ Bn K a.2 := h
theorem PCut_any (w : World) (va vb vc : Value) (a b : Pq) (u v : Rat) (K M : Nat) (Ha : SgV w va a b) (Hb : RatV w vb u) (Hc : RatV w vc v) (hK : 1 ≤ K ∧ K ≤ 1000 ∧ 2 * K + 1 ≤ M ∧ M ≤ 10000) (ba : Bp K a) (bb : Bp K b) (bu : Bn M u) (bv : Bn M v) (hne : u ≠ v) (hTab : Tab w) :
    Calls Tryz.prog 63 #[va, vb, vc] w (RetPt w (pat a b (u / (u - v)))) := by
  have h0 : u - v ≠ 0 := fun e => hne (by grind)
  have b1 : Bn (2 * M + 1) (u - v) := (bu.sub bv).mono (by omega)
  have b2 : Bn (4 * M + 2) (u / (u - v)) := ((bu.mono (by omega)).div b1 (by omega)).mono (by omega)
  have b3 : Bp (4 * M + 2) (b.1 - a.1, b.2 - a.2) := (bb.sub ba).mono (by omega)
  have b4 : Bp (8 * M + 4) ((b.1 - a.1) * (u / (u - v)), (b.2 - a.2) * (u / (u - v))) := ⟨(b3.1.mul b2).mono (by omega), (b3.2.mul b2).mono (by omega)⟩
  refine exec_calls mixed Tryz.func63 [sSg a b, sQ u, sQ v] [sQ (u - v), sQE (u / (u - v)) 0, sPt (b.1 - a.1, b.2 - a.2), sPt ((b.1 - a.1) * (u / (u - v)), (b.2 - a.2) * (u / (u - v))), sPt (pat a b (u / (u - v)))] (.cons Ha (.cons Hb (.cons Hc .nil))) (rs := [cl 3 38 [ag 4 1, ag 4 2], cl 4 68 [ag 4 1, ag 4 3], cl 5 50 [.v true [.an 0 8, .an 0 9, .an 0 10, .an 0 11, .an 0 12, .an 0 13, .an 0 14, .an 0 15], ag 8 0], cl 6 98 [ag 8 5, ag 4 4], cl 7 97 [ag 8 0, ag 8 6]]) (out := ag 8 7) (nc := 8) (by kernel_rfl)
      ⟨fun σ W g h hb => FSub_any W _ _ u v M (h 1 rfl) (h 2 rfl) (by omega) bu.1 bu.2 bv.1 bv.2 (hTab.kept g (by simp)),
      fun σ W g h hb => toQE (FDiv_any W _ _ u (u - v) (2 * M + 1) (h 1 rfl) (h 3 rfl) (by omega) (bu.mono (by omega)).1 (bu.mono (by omega)).2 b1.1 b1.2 (hTab.kept g (by simp))) (by rw [if_neg h0]),
      fun σ W g h hb => PMinus_any W _ _ b a K (sg2 (h 0 rfl)) (sg1 (h 0 rfl)) (by omega) bb ba (hTab.kept g (by simp)),
      fun σ W g h hb => PTimes_any W _ _ _ _ (4 * M + 2) (h 5 rfl) (qE (h 4 rfl)) (by omega) b3 b2 (hTab.kept g (by simp)),
      fun σ W g h hb => PPlus_any W _ _ a _ (8 * M + 4) (sg1 (h 0 rfl)) (h 6 rfl) (by omega) (ba.mono (by omega)) b4 (hTab.kept g (by simp)),
      trivial⟩ fun τ W g h => ⟨_, rfl, h 7 rfl, g⟩
theorem pts_one {w : World} {b : Nat} {a0 a1 a2 a3 a4 a5 a6 a7 : Value} {p : Pq} (hb : w.heap[b]? = some (.cells #[a0, a1, a2, a3, a4, a5, a6, a7] 34 (0, 0))) (hp : PtV w (.agg #[a0, a1, a2, a3, a4, a5, a6, a7]) p) : PtsV w (.slice (some ⟨b, 0, none⟩) 1 1) [p] := by
  refine ⟨_, _, _, rfl, rfl, Nat.le_refl _, .inr ⟨b, 0, _, rfl, hb, fun i hi => ?_⟩⟩
  obtain rfl : i = 0 := by simpa using hi
  exact ⟨_, _, _, _, _, _, _, _, rfl, rfl, rfl, rfl, rfl, rfl, rfl, rfl, hp⟩
theorem pts_two {w : World} {b : Nat} {a0 a1 a2 a3 a4 a5 a6 a7 c0 c1 c2 c3 c4 c5 c6 c7 : Value} {p q : Pq} (hb : w.heap[b]? = some (.cells #[a0, a1, a2, a3, a4, a5, a6, a7, c0, c1, c2, c3, c4, c5, c6, c7] 34 (0, 0))) (hp : PtV w (.agg #[a0, a1, a2, a3, a4, a5, a6, a7]) p) (hq : PtV w (.agg #[c0, c1, c2, c3, c4, c5, c6, c7]) q) : PtsV w (.slice (some ⟨b, 0, none⟩) 2 2) [p, q] := by
  refine ⟨_, _, _, rfl, rfl, Nat.le_refl _, .inr ⟨b, 0, _, rfl, hb, fun i hi => ?_⟩⟩
  match i, hi with
  | 0, _ => exact ⟨_, _, _, _, _, _, _, _, rfl, rfl, rfl, rfl, rfl, rfl, rfl, rfl, hp⟩
  | 1, _ => exact ⟨_, _, _, _, _, _, _, _, rfl, rfl, rfl, rfl, rfl, rfl, rfl, rfl, hq⟩
  | n + 2, hi => exact absurd hi (by simp)
theorem pts_nil (w : World) : PtsV w (.slice none 0 0) [] := ⟨none, 0, 0, rfl, rfl, Nat.le_refl _, .inl rfl⟩
theorem fp_new {w : World} {b n c : Nat} (hb : w.heap.size ≤ b) (q : Nat) (hq : fpS (.slice (some ⟨b, 0, none⟩) n c) q) : w.heap.size ≤ q := by obtain ⟨o, m, c, e⟩ := hq; cases e; exact hb
theorem fp_nil {w : World} (q : Nat) (hq : fpS (.slice none 0 0) q) : w.heap.size ≤ q := by obtain ⟨o, m, c, e⟩ := hq; cases e
theorem btw_f {p q : Pq} (h : p ≠ q) : btw p q = [p, q] := by unfold btw; rw [if_neg h]
theorem PBetween_any (w : World) (va vb : Value) (p q : Pq) (K : Nat) (Ha : PtV w va p) (Hb : PtV w vb q) (hK : 1 ≤ K ∧ K ≤ 100000) (ba : Bp K p) (bb : Bp K q) (hTab : Tab w) :
    Calls Tryz.prog 62 #[va, vb] w (RetPts w (btw p q)) := by
  by_cases h1 : p = q
  · skip
    rw [← h1, btw_self]
    refine exec_callso mixed Tryz.func62 [sPt p, sPt q] [sZ (pcmp p q), sV (.bool true), sPt p] (.cons Ha (.cons Hb .nil)) (rs := [cl 2 16 [ag 8 0, ag 8 1], co 3 (.binOp .eql 3 (.tmp 7) (.const (.int .i64 0)) 3) 4 [on 2, .v false [.lit (.int .i64 0)]] [0, 1, 2] [], cl 4 96 [ag 8 0]]) (out := .v false [.row 2 0 1 1]) (nc := 5) (nd := [(2, 34, [.an 4 0, .an 4 1, .an 4 2, .an 4 3, .an 4 4, .an 4 5, .an 4 6, .an 4 7])]) (own := [2]) (by kernel_rfl)
        ⟨fun σ W g h hb => toZ (PCmp_any W _ _ p q K (h 0 rfl) (h 1 rfl) (by omega) ba bb) rfl,
        fun σ W g h hb => fun ρ o ho _ hv => ⟨_, eq_told true ho ((two_vals hv).1.trans (h 2 rfl)) (two_vals hv).2 (decide_eq_true (pcmp_zero.2 h1)), rfl⟩,
        fun σ W g h hb => PFresh_any W _ p K (h 0 rfl) hK ba (hTab.kept g (by simp)),
        trivial⟩ fun τ W g h hb ho => ⟨_, rfl, pts_one (hb.1 _ (.head _)) (h 4 rfl), g, fp_new (ho _ rfl)⟩
  · skip
    rw [btw_f h1]
    refine exec_callso mixed Tryz.func62 [sPt p, sPt q] [sZ (pcmp p q), sV (.bool false), sPt p, sPt q] (.cons Ha (.cons Hb .nil)) (rs := [cl 2 16 [ag 8 0, ag 8 1], co 3 (.binOp .eql 3 (.tmp 7) (.const (.int .i64 0)) 3) 4 [on 2, .v false [.lit (.int .i64 0)]] [0, 1, 2] [], cl 4 96 [ag 8 0], cl 5 96 [ag 8 1]]) (out := .v false [.row 2 0 2 2]) (nc := 6) (nd := [(2, 34, [.an 4 0, .an 4 1, .an 4 2, .an 4 3, .an 4 4, .an 4 5, .an 4 6, .an 4 7, .an 5 0, .an 5 1, .an 5 2, .an 5 3, .an 5 4, .an 5 5, .an 5 6, .an 5 7])]) (own := [2]) (by kernel_rfl)
        ⟨fun σ W g h hb => toZ (PCmp_any W _ _ p q K (h 0 rfl) (h 1 rfl) (by omega) ba bb) rfl,
        fun σ W g h hb => fun ρ o ho _ hv => ⟨_, eq_told false ho ((two_vals hv).1.trans (h 2 rfl)) (two_vals hv).2 (decide_eq_false (fun e => h1 (pcmp_zero.1 e))), rfl⟩,
        fun σ W g h hb => PFresh_any W _ p K (h 0 rfl) hK ba (hTab.kept g (by simp)),
        fun σ W g h hb => PFresh_any W _ q K (h 1 rfl) hK bb (hTab.kept g (by simp)),
        trivial⟩ fun τ W g h hb ho => ⟨_, rfl, pts_two (hb.1 _ (.head _)) (h 4 rfl) (h 5 rfl), g, fp_new (ho _ rfl)⟩
end Go.Proofs.YthbhgcaemcobeaaGreatDoor
