/- What the laws lean on, part 25. -/
import Derived.ChangeOld
import Derived.Deep.Strs
import Derived.WideKeyArgs
import Derived.Test.YthbhgcaemcobeaaGreatDoorCards
import Derived.Test.YthbhgcaemcobeaaGreatDoorTie
import Derived.Lib.LaidTab
import Derived.Test.YthbhgcaemcobeaaGreatDoorMp24
import Derived.Test.YthbhgcaemcobeaaGreatDoorMp18
import Derived.Test.YthbhgcaemcobeaaGreatDoorMp12
namespace Go.Proofs.YthbhgcaemcobeaaGreatDoor
open Go.RowKit Mat Ex PM
set_option linter.unusedVariables false
set_option linter.unusedSimpArgs false
/-! ### The chapter's examples -/
theorem zt_0 : ZTextOf { data := #[48] } 0 := ⟨[48], dec_of (by decide +kernel), by decide +kernel, by decide +kernel⟩
theorem zt_2 : ZTextOf { data := #[50] } 2 := ⟨[50], dec_of (by decide +kernel), by decide +kernel, by decide +kernel⟩
theorem zt_4 : ZTextOf { data := #[52] } 4 := ⟨[52], dec_of (by decide +kernel), by decide +kernel, by decide +kernel⟩
theorem pt_text {a b : Int} {s t : ByteArray} (h : ZTextOf s a) (h' : ZTextOf t b) : PTextOf (s ++ { data := #[32] } ++ t) (gridP a b) :=
  ⟨s, t, .inl ⟨Rat.den_intCast a, by show ZTextOf s ((a : Rat)).num; rw [Rat.num_intCast]; exact h⟩, .inl ⟨Rat.den_intCast b, by show ZTextOf t ((b : Rat)).num; rw [Rat.num_intCast]; exact h'⟩, rfl⟩
theorem k_meet1 : meetP (gridP 0 0) (gridP 4 4) (gridP 0 4) (gridP 4 0) = [gridP 2 2] := by
  refine told_uniq (meetP_told _ _ _ _) (.one _ fun q => ?_)
  have hne : pcross (gridP 0 4) (gridP 4 0) (gridP 0 0) ≠ pcross (gridP 0 4) (gridP 4 0) (gridP 4 4) := by decide +kernel
  have hp : pat (gridP 0 0) (gridP 4 4) (pcross (gridP 0 4) (gridP 4 0) (gridP 0 0) / (pcross (gridP 0 4) (gridP 4 0) (gridP 0 0) - pcross (gridP 0 4) (gridP 4 0) (gridP 4 4))) = gridP 2 2 := by decide +kernel
  rw [← hp]
  have e1 : pcross (gridP 0 4) (gridP 4 0) (gridP 0 0) = -16 := by decide +kernel
  have e2 : pcross (gridP 0 4) (gridP 4 0) (gridP 4 4) = 16 := by decide +kernel
  have e3 : pcross (gridP 0 0) (gridP 4 4) (gridP 0 4) = 16 := by decide +kernel
  have e4 : pcross (gridP 0 0) (gridP 4 4) (gridP 4 0) = -16 := by decide +kernel
  exact cross_ins hne (by rw [e1, e2]; unfold OneS; grind) (by rw [e3, e4]; unfold OneS; grind) q
theorem ple_dec {p q : Pq} (h : pcmp p q ≤ 0) : ple p q := pcmp_le.1 h
theorem k_meet2 : meetP (gridP 0 0) (gridP 4 0) (gridP 1 0) (gridP 9 0) = [gridP 1 0, gridP 4 0] := by
  have h1 : ple (gridP 0 0) (gridP 4 0) := ple_dec (by decide +kernel)
  have h2 : ple (gridP 1 0) (gridP 9 0) := ple_dec (by decide +kernel)
  have h3 : ¬ ple (gridP 1 0) (gridP 0 0) := fun h => absurd (pcmp_le.2 h) (by decide +kernel)
  have h4 : ple (gridP 4 0) (gridP 9 0) := ple_dec (by decide +kernel)
  have h5 : ple (gridP 1 0) (gridP 4 0) := ple_dec (by decide +kernel)
  have e1 : pcross (gridP 0 0) (gridP 4 0) (gridP 1 0) = 0 := by decide +kernel
  have e2 : pcross (gridP 0 0) (gridP 4 0) (gridP 9 0) = 0 := by decide +kernel
  have e3 : pcross (gridP 1 0) (gridP 9 0) (gridP 0 0) = 0 := by decide +kernel
  have e4 : pcross (gridP 1 0) (gridP 9 0) (gridP 4 0) = 0 := by decide +kernel
  unfold meetP
  rw [(ends_le h1).1, (ends_le h1).2, (ends_le h2).1, (ends_le h2).2, pmax_f h3, pmin_t h4, if_pos h5, e1, e2, e3, e4, if_neg (by unfold OneS; grind), if_neg (by unfold OneS; grind), if_pos ⟨rfl, rfl⟩, btw_f (by decide +kernel)]
theorem k_clip : clipP (gridP 0 (-2)) (gridP 0 4) (gridP 0 0) (gridP 1 0) = [gridP 0 0, gridP 0 4] := by
  have e1 : pcross (gridP 0 0) (gridP 1 0) (gridP 0 (-2)) = -2 := by decide +kernel
  have e2 : pcross (gridP 0 0) (gridP 1 0) (gridP 0 4) = 4 := by decide +kernel
  have hp : pat (gridP 0 (-2)) (gridP 0 4) ((-2 : Rat) / (-2 - 4)) = gridP 0 0 := by decide +kernel
  unfold clipP
  rw [e1, e2, if_neg (by grind), if_pos (by grind), hp, btw_f (by decide +kernel)]
theorem grid_b {x y : Int} (h1 : -9223372036854775808 ≤ x) (h2 : x ≤ 9223372036854775807) (h3 : -9223372036854775808 ≤ y) (h4 : y ≤ 9223372036854775807) : Bp 1 (gridP x y) := by
  have h1' : (1 : Nat) < B ^ 1 := by unfold B; decide
  exact ⟨⟨by show ((x : Rat)).num.natAbs < _; rw [Rat.num_intCast]; exact b1int h1 h2, by show ((x : Rat)).den < _; rw [Rat.den_intCast]; exact h1'⟩, ⟨by show ((y : Rat)).num.natAbs < _; rw [Rat.num_intCast]; exact b1int h3 h4, by show ((y : Rat)).den < _; rw [Rat.den_intCast]; exact h1'⟩⟩
theorem congr2 {a b c d : Value} (h : a = c) (h2 : b = d) : [Value.agg #[a, b]] = [Value.agg #[c, d]] := by rw [h, h2]
theorem LKnown1_any (w : World) (p q r s : Int) (hp1 : -9223372036854775808 ≤ p) (hp2 : p ≤ 9223372036854775807) (hq1 : -9223372036854775808 ≤ q) (hq2 : q ≤ 9223372036854775807) (hr1 : -9223372036854775808 ≤ r) (hr2 : r ≤ 9223372036854775807) (hs1 : -9223372036854775808 ≤ s) (hs2 : s ≤ 9223372036854775807) :
    Calls Tryz.prog 43 #[.int .i64 p, .int .i64 q, .int .i64 r, .int .i64 s] w (fun e w' => ∃ v, e = .returned v ∧ SgV w' v (gridP p q) (gridP r s) ∧ w.grownBy w' none) := by
  refine exec_calls mixed Tryz.func43 [sZ p, sZ q, sZ r, sZ s] [sPt (gridP p q), sPt (gridP r s)] (.cons rfl (.cons rfl (.cons rfl (.cons rfl .nil)))) (rs := [cl 4 14 [.v true [.an 0 0, .an 1 0]], cl 5 14 [.v true [.an 2 0, .an 3 0]]]) (out := .v true [.an 4 0, .an 4 1, .an 4 2, .an 4 3, .an 4 4, .an 4 5, .an 4 6, .an 4 7, .an 5 0, .an 5 1, .an 5 2, .an 5 3, .an 5 4, .an 5 5, .an 5 6, .an 5 7]) (nc := 6) (by kernel_rfl)
      ⟨fun σ W g h hb => argl (congr2 (h 0 rfl) (h 1 rfl)) (PGrid_any W p q hp1 hp2 hq1 hq2),
      fun σ W g h hb => argl (congr2 (h 2 rfl) (h 3 rfl)) (PGrid_any W r s hr1 hr2 hs1 hs2),
      trivial⟩ fun τ W g h => ⟨_, rfl, mksg (h 4 rfl) (h 5 rfl), g⟩
theorem LKnown_any (w : World) (hTab : Tab w) :
    Calls Tryz.prog 11 #[] w (fun e w' => e = .returned (.bool true) ∧ w.grownBy w' none) := by
  refine exec_calls mixed Tryz.func11 [] [sSg (gridP 0 0) (gridP 4 4), sSg (gridP 0 4) (gridP 4 0), sPts 0 [gridP 2 2], sSg (gridP 0 0) (gridP 4 0), sSg (gridP 1 0) (gridP 9 0), sPts 0 [gridP 1 0, gridP 4 0], sSg (gridP 0 (-2)) (gridP 0 4), sSg (gridP 0 0) (gridP 1 0), sPts 0 [gridP 0 0, gridP 0 4], sV (.int .i64 1), sAt (gridP 2 2), sPt (gridP 2 2), sT (fun s => PTextOf s (gridP 2 2)), sV (.bool true), sV (.int .i64 2), sAt (gridP 4 0), sPt (gridP 4 0), sT (fun s => PTextOf s (gridP 4 0)), sV (.bool true), sV (.int .i64 2), sAt (gridP 0 0), sPt (gridP 0 0), sT (fun s => PTextOf s (gridP 0 0)), sV (.bool true), sAt (gridP 0 4), sPt (gridP 0 4), sT (fun s => PTextOf s (gridP 0 4)), sV (.bool true)] .nil (rs := [cl 0 43 [.v false [.lit (.int .i64 0)], .v false [.lit (.int .i64 0)], .v false [.lit (.int .i64 4)], .v false [.lit (.int .i64 4)]], cl 1 43 [.v false [.lit (.int .i64 0)], .v false [.lit (.int .i64 4)], .v false [.lit (.int .i64 4)], .v false [.lit (.int .i64 0)]], cl 2 28 [ag 16 0, ag 16 1], cl 3 43 [.v false [.lit (.int .i64 0)], .v false [.lit (.int .i64 0)], .v false [.lit (.int .i64 4)], .v false [.lit (.int .i64 0)]], cl 4 43 [.v false [.lit (.int .i64 1)], .v false [.lit (.int .i64 0)], .v false [.lit (.int .i64 9)], .v false [.lit (.int .i64 0)]], cl 5 28 [ag 16 3, ag 16 4], cl 6 43 [.v false [.lit (.int .i64 0)], .v false [.lit (.int .i64 (-2))], .v false [.lit (.int .i64 0)], .v false [.lit (.int .i64 4)]], cl 7 43 [.v false [.lit (.int .i64 0)], .v false [.lit (.int .i64 0)], .v false [.lit (.int .i64 1)], .v false [.lit (.int .i64 0)]], cl 8 32 [ag 16 6, ag 16 7], co 9 (.call ⟨.builtin .len, #[(.tmp 20)], #[66]⟩) 3 [on 2] [0, 1, 2, 3, 4, 5, 6, 7, 8] [], co 10 (.indexAddr 66 (.tmp 24) (.const (.int .i64 0))) 0 [on 2, .v false [.lit (.int .i64 0)]] [0, 1, 2, 3, 4, 5, 6, 7, 8, 9] [], co 11 (.load 34 (.tmp 25)) 34 [on 10] [0, 1, 2, 3, 4, 5, 6, 7, 8, 9, 10] [], cl 12 12 [ag 8 11], co 13 (.binOp .eql 9 (.tmp 27) (.const (.string ({ data := #[50, 32, 50] }))) 9) 4 [on 12, .v false [.lit (.string ({ data := #[50, 32, 50] }))]] [0, 1, 2, 3, 4, 5, 6, 7, 8, 9, 10, 11, 12] [], co 14 (.call ⟨.builtin .len, #[(.tmp 31)], #[66]⟩) 3 [on 5] [0, 1, 2, 3, 4, 5, 6, 7, 8, 9, 10, 11, 12, 13] [], co 15 (.indexAddr 66 (.tmp 36) (.const (.int .i64 1))) 0 [on 5, .v false [.lit (.int .i64 1)]] [0, 1, 2, 3, 4, 5, 6, 7, 8, 9, 10, 11, 12, 13, 14] [], co 16 (.load 34 (.tmp 37)) 34 [on 15] [0, 1, 2, 3, 4, 5, 6, 7, 8, 9, 10, 11, 12, 13, 14, 15] [], cl 17 12 [ag 8 16], co 18 (.binOp .eql 9 (.tmp 39) (.const (.string ({ data := #[52, 32, 48] }))) 9) 4 [on 17, .v false [.lit (.string ({ data := #[52, 32, 48] }))]] [0, 1, 2, 3, 4, 5, 6, 7, 8, 9, 10, 11, 12, 13, 14, 15, 16, 17] [], co 19 (.call ⟨.builtin .len, #[(.tmp 43)], #[66]⟩) 3 [on 8] [0, 1, 2, 3, 4, 5, 6, 7, 8, 9, 10, 11, 12, 13, 14, 15, 16, 17, 18] [], co 20 (.indexAddr 66 (.tmp 48) (.const (.int .i64 0))) 0 [on 8, .v false [.lit (.int .i64 0)]] [0, 1, 2, 3, 4, 5, 6, 7, 8, 9, 10, 11, 12, 13, 14, 15, 16, 17, 18, 19] [], co 21 (.load 34 (.tmp 49)) 34 [on 20] [0, 1, 2, 3, 4, 5, 6, 7, 8, 9, 10, 11, 12, 13, 14, 15, 16, 17, 18, 19, 20] [], cl 22 12 [ag 8 21], co 23 (.binOp .eql 9 (.tmp 51) (.const (.string ({ data := #[48, 32, 48] }))) 9) 4 [on 22, .v false [.lit (.string ({ data := #[48, 32, 48] }))]] [0, 1, 2, 3, 4, 5, 6, 7, 8, 9, 10, 11, 12, 13, 14, 15, 16, 17, 18, 19, 20, 21, 22] [], co 24 (.indexAddr 66 (.tmp 55) (.const (.int .i64 1))) 0 [on 8, .v false [.lit (.int .i64 1)]] [0, 1, 2, 3, 4, 5, 6, 7, 8, 9, 10, 11, 12, 13, 14, 15, 16, 17, 18, 19, 20, 21, 22, 23] [], co 25 (.load 34 (.tmp 56)) 34 [on 24] [0, 1, 2, 3, 4, 5, 6, 7, 8, 9, 10, 11, 12, 13, 14, 15, 16, 17, 18, 19, 20, 21, 22, 23, 24] [], cl 26 12 [ag 8 25], co 27 (.binOp .eql 9 (.tmp 58) (.const (.string ({ data := #[48, 32, 52] }))) 9) 4 [on 26, .v false [.lit (.string ({ data := #[48, 32, 52] }))]] [0, 1, 2, 3, 4, 5, 6, 7, 8, 9, 10, 11, 12, 13, 14, 15, 16, 17, 18, 19, 20, 21, 22, 23, 24, 25, 26] []]) (out := .v false [.lit (.bool true)]) (nc := 28) (by kernel_rfl)
      ⟨fun σ W g h hb => LKnown1_any W 0 0 4 4 (by decide) (by decide) (by decide) (by decide) (by decide) (by decide) (by decide) (by decide),
      fun σ W g h hb => LKnown1_any W 0 4 4 0 (by decide) (by decide) (by decide) (by decide) (by decide) (by decide) (by decide) (by decide),
      fun σ W g h hb => toPts (Nat.zero_le _) (k_meet1 ▸ PMeet_any W _ _ (gridP 0 0) (gridP 4 4) (gridP 0 4) (gridP 4 0) 1 (h 0 rfl) (h 1 rfl) (by omega) (grid_b (x := 0) (y := 0) (by decide) (by decide) (by decide) (by decide)) (grid_b (x := 4) (y := 4) (by decide) (by decide) (by decide) (by decide)) (grid_b (x := 0) (y := 4) (by decide) (by decide) (by decide) (by decide)) (grid_b (x := 4) (y := 0) (by decide) (by decide) (by decide) (by decide)) (hTab.kept g (by simp))),
      fun σ W g h hb => LKnown1_any W 0 0 4 0 (by decide) (by decide) (by decide) (by decide) (by decide) (by decide) (by decide) (by decide),
      fun σ W g h hb => LKnown1_any W 1 0 9 0 (by decide) (by decide) (by decide) (by decide) (by decide) (by decide) (by decide) (by decide),
      fun σ W g h hb => toPts (Nat.zero_le _) (k_meet2 ▸ PMeet_any W _ _ (gridP 0 0) (gridP 4 0) (gridP 1 0) (gridP 9 0) 1 (h 3 rfl) (h 4 rfl) (by omega) (grid_b (x := 0) (y := 0) (by decide) (by decide) (by decide) (by decide)) (grid_b (x := 4) (y := 0) (by decide) (by decide) (by decide) (by decide)) (grid_b (x := 1) (y := 0) (by decide) (by decide) (by decide) (by decide)) (grid_b (x := 9) (y := 0) (by decide) (by decide) (by decide) (by decide)) (hTab.kept g (by simp))),
      fun σ W g h hb => LKnown1_any W 0 (-2) 0 4 (by decide) (by decide) (by decide) (by decide) (by decide) (by decide) (by decide) (by decide),
      fun σ W g h hb => LKnown1_any W 0 0 1 0 (by decide) (by decide) (by decide) (by decide) (by decide) (by decide) (by decide) (by decide),
      fun σ W g h hb => toPts (Nat.zero_le _) (k_clip ▸ PClip_any W _ _ (gridP 0 (-2)) (gridP 0 4) (gridP 0 0) (gridP 1 0) 1 (h 6 rfl) (h 7 rfl) (by omega) (grid_b (x := 0) (y := (-2)) (by decide) (by decide) (by decide) (by decide)) (grid_b (x := 0) (y := 4) (by decide) (by decide) (by decide) (by decide)) (grid_b (x := 0) (y := 0) (by decide) (by decide) (by decide) (by decide)) (grid_b (x := 1) (y := 0) (by decide) (by decide) (by decide) (by decide)) (hTab.kept g (by simp))),
      fun σ W g h hb => fun ρ o ho _ hv => ⟨_, pts_len (h 2 rfl).1 ho (one_val hv) ⟨34, by kernel_rfl⟩, rfl⟩,
      fun σ W g h hb => fun ρ o ho _ hv => by
        obtain ⟨u, h1, h2, h3⟩ := pts_at (h 2 rfl).1 ho (two_vals hv).1 0 (by simp) (two_vals hv).2
        exact ⟨u, h1, h2, fun q hq => ⟨2, rfl, h3 q hq⟩⟩,
      fun σ W g h hb => fun ρ o ho _ hv => pts_load (h 10 rfl) ho (one_val hv),
      fun σ W g h hb => toT (PText_any W _ (gridP 2 2) 1 (h 11 rfl) (by omega) (grid_b (by decide) (by decide) (by decide) (by decide))),
      fun σ W g h hb => fun ρ o ho _ hv => by
        obtain ⟨s, e, hs⟩ := h 12 rfl
        exact ⟨_, seq_told ho ((two_vals hv).1.trans e) (two_vals hv).2 (ptext_uniq hs (pt_text zt_2 zt_2)), rfl⟩,
      fun σ W g h hb => fun ρ o ho _ hv => ⟨_, pts_len (h 5 rfl).1 ho (one_val hv) ⟨34, by kernel_rfl⟩, rfl⟩,
      fun σ W g h hb => fun ρ o ho _ hv => by
        obtain ⟨u, h1, h2, h3⟩ := pts_at (h 5 rfl).1 ho (two_vals hv).1 1 (by simp) (two_vals hv).2
        exact ⟨u, h1, h2, fun q hq => ⟨5, rfl, h3 q hq⟩⟩,
      fun σ W g h hb => fun ρ o ho _ hv => pts_load (h 15 rfl) ho (one_val hv),
      fun σ W g h hb => toT (PText_any W _ (gridP 4 0) 1 (h 16 rfl) (by omega) (grid_b (by decide) (by decide) (by decide) (by decide))),
      fun σ W g h hb => fun ρ o ho _ hv => by
        obtain ⟨s, e, hs⟩ := h 17 rfl
        exact ⟨_, seq_told ho ((two_vals hv).1.trans e) (two_vals hv).2 (ptext_uniq hs (pt_text zt_4 zt_0)), rfl⟩,
      fun σ W g h hb => fun ρ o ho _ hv => ⟨_, pts_len (h 8 rfl).1 ho (one_val hv) ⟨34, by kernel_rfl⟩, rfl⟩,
      fun σ W g h hb => fun ρ o ho _ hv => by
        obtain ⟨u, h1, h2, h3⟩ := pts_at (h 8 rfl).1 ho (two_vals hv).1 0 (by simp) (two_vals hv).2
        exact ⟨u, h1, h2, fun q hq => ⟨8, rfl, h3 q hq⟩⟩,
      fun σ W g h hb => fun ρ o ho _ hv => pts_load (h 20 rfl) ho (one_val hv),
      fun σ W g h hb => toT (PText_any W _ (gridP 0 0) 1 (h 21 rfl) (by omega) (grid_b (by decide) (by decide) (by decide) (by decide))),
      fun σ W g h hb => fun ρ o ho _ hv => by
        obtain ⟨s, e, hs⟩ := h 22 rfl
        exact ⟨_, seq_told ho ((two_vals hv).1.trans e) (two_vals hv).2 (ptext_uniq hs (pt_text zt_0 zt_0)), rfl⟩,
      fun σ W g h hb => fun ρ o ho _ hv => by
        obtain ⟨u, h1, h2, h3⟩ := pts_at (h 8 rfl).1 ho (two_vals hv).1 1 (by simp) (two_vals hv).2
        exact ⟨u, h1, h2, fun q hq => ⟨8, rfl, h3 q hq⟩⟩,
      fun σ W g h hb => fun ρ o ho _ hv => pts_load (h 24 rfl) ho (one_val hv),
      fun σ W g h hb => toT (PText_any W _ (gridP 0 4) 1 (h 25 rfl) (by omega) (grid_b (by decide) (by decide) (by decide) (by decide))),
      fun σ W g h hb => fun ρ o ho _ hv => by
        obtain ⟨s, e, hs⟩ := h 26 rfl
        exact ⟨_, seq_told ho ((two_vals hv).1.trans e) (two_vals hv).2 (ptext_uniq hs (pt_text zt_0 zt_4)), rfl⟩,
      trivial⟩ fun τ W g h => ⟨rfl, g⟩
end Go.Proofs.YthbhgcaemcobeaaGreatDoor
namespace Go.Proofs.YthbhgcaemcobeaaGreatDoor
open Go.RowKit Mat Ex PM
set_option linter.unusedVariables false
set_option linter.unusedSimpArgs false
set_option maxRecDepth 100000
def HlV (w : World) (v : Value) (E : Nat) (L : List Pq) : Prop := ∃ l : List H3, HrV w v l ∧ l.map rp = L ∧ ∀ p ∈ l, HB E p ∧ 0 < p.z
def sHl (E : Nat) (L : List Pq) : Sp where
  sh := .one
  F v W := HlV W v E L
  fits v W h := by obtain ⟨l, ⟨s, n, c, rfl, _⟩, _⟩ := h; exact ⟨fun _ => .slice s n c, fun _ => rfl, rfl⟩
  row := true
  fp v _ q := fpS v q
  lasts v W W' k hq h := by
    obtain ⟨l, h1, h2⟩ := h
    exact ⟨⟨l, h1.keeps k hq, h2⟩, fun _ h => h⟩
  inb v W h q hq := by obtain ⟨l, h1, _⟩ := h; exact h1.inb q hq
  flat h := by cases h
theorem toHl {P : Program} {f : FuncId} {args : Array Value} {W : World} {E : Nat} {L : List Pq} {old : Nat → Prop} (h : Calls P f args W (RetHl W E L)) : Calls P f args W (RetS W (sHl E L) old) :=
  h.mono fun _ _ ⟨l, ⟨v, a, h, g, hq⟩, h2⟩ => ⟨v, a, ⟨l, h, h2⟩, g, fun q hf => .inl (hq q hf)⟩
theorem clip_two (a b c d : Pq) : (clipP a b c d).length ≤ 2 := by
  have h : ∀ p q : Pq, (btw p q).length ≤ 2 := fun p q => by unfold btw; split <;> simp
  unfold clipP
  split
  · simp
  · split
    · exact h _ _
    · split <;> exact h _ _
theorem btw_bd {K : Nat} {p q : Pq} (h : Bp K p) (h' : Bp K q) : ∀ x ∈ btw p q, Bp K x := by
  intro x hx; unfold btw at hx
  split at hx
  · obtain rfl : x = p := by simpa using hx
    exact h
  · rcases List.mem_cons.1 hx with rfl | hx
    · exact h
    · obtain rfl : x = q := by simpa using hx
      exact h'
theorem clip_bd {K : Nat} {a b c d : Pq} (ha : Bp K a) (hb : Bp K b) (hc : Bp K c) (hd : Bp K d) : ∀ x ∈ clipP a b c d, Bp (128 * K + 100) x := by
  have hx := ha.cut hb hc hd
  have ha' : Bp (128 * K + 100) a := ha.mono (by omega)
  have hb' : Bp (128 * K + 100) b := hb.mono (by omega)
  unfold clipP
  split
  · intro x hx; cases hx
  · split
    · exact btw_bd hx hb'
    · split
      · exact btw_bd ha' hx
      · exact btw_bd ha' hb'
theorem alike_any (w : World) (va vb : Value) (L : List Pq) (K E : Nat) (hK : 1 ≤ K ∧ K ≤ 100000) (hE : 1 ≤ E ∧ E ≤ 200000) (Ha : PtsV w va L) (Hb : HlV w vb E L) (h2 : L.length ≤ 2) (ba : ∀ p ∈ L, Bp K p) :
    Calls Tryz.prog 27 #[va, vb] w (fun e w' => e = .returned (.bool true) ∧ w.grownBy w' none) := by
  obtain ⟨M, h3, h4, h5⟩ := Hb
  exact LAlike_any w va vb L M K E hK hE Ha h3 h4 h2 ba h5
theorem congr3 {a b c d : Value} (h : a = c) (h2 : b = d) : [a, b] = [c, d] := by rw [h, h2]
theorem planeClips_walk (w : World) (x0 y0 d0 x1 y1 d1 x2 y2 d2 x3 y3 d3 : Int) (a0 : -9223372036854775808 ≤ x0) (b0 : x0 ≤ 9223372036854775807) (c0 : -9223372036854775808 ≤ y0) (e0 : y0 ≤ 9223372036854775807) (a1 : -9223372036854775808 ≤ x1) (b1 : x1 ≤ 9223372036854775807) (c1 : -9223372036854775808 ≤ y1) (e1 : y1 ≤ 9223372036854775807) (a2 : -9223372036854775808 ≤ x2) (b2 : x2 ≤ 9223372036854775807) (c2 : -9223372036854775808 ≤ y2) (e2 : y2 ≤ 9223372036854775807) (a3 : -9223372036854775808 ≤ x3) (b3 : x3 ≤ 9223372036854775807) (c3 : -9223372036854775808 ≤ y3) (e3 : y3 ≤ 9223372036854775807) (hTab : Tab w) :
    Calls Tryz.prog 5 #[.agg #[.int .i64 x0, .int .i64 y0, .int .i64 d0], .agg #[.int .i64 x1, .int .i64 y1, .int .i64 d1], .agg #[.int .i64 x2, .int .i64 y2, .int .i64 d2], .agg #[.int .i64 x3, .int .i64 y3, .int .i64 d3]] w (fun e w' => e = .returned (.bool true) ∧ w.grownBy w' none) := by
  refine exec_calls mixed Tryz.func5 [sDt x0 y0 d0, sDt x1 y1 d1, sDt x2 y2 d2, sDt x3 y3 d3] [sSH (lat x0 y0 d0) (lat x1 y1 d1) ⟨x0, y0, und d0⟩ ⟨x1, y1, und d1⟩, sSH (lat x2 y2 d2) (lat x3 y3 d3) ⟨x2, y2, und d2⟩ ⟨x3, y3, und d3⟩, sV (.bool true), sPts 0 (clipP (lat x0 y0 d0) (lat x1 y1 d1) (lat x2 y2 d2) (lat x3 y3 d3)), sHl 23 (clipP (lat x0 y0 d0) (lat x1 y1 d1) (lat x2 y2 d2) (lat x3 y3 d3)), sV (.bool true)] (.cons rfl (.cons rfl (.cons rfl (.cons rfl .nil)))) (rs := [cl 4 26 [ag 3 0, ag 3 1], cl 5 26 [ag 3 2, ag 3 3], cl 6 11 [], cl 7 32 [ag 16 4, ag 16 5], cl 8 33 [.v true [.an 4 16, .an 4 17, .an 4 18, .an 4 19, .an 4 20, .an 4 21, .an 4 22, .an 4 23, .an 4 24, .an 4 25, .an 4 26, .an 4 27], .v true [.an 5 16, .an 5 17, .an 5 18, .an 5 19, .an 5 20, .an 5 21, .an 5 22, .an 5 23, .an 5 24, .an 5 25, .an 5 26, .an 5 27]], cl 9 27 [on 7, on 8]]) (out := .v false [.lit (.bool true)]) (nc := 10) (by kernel_rfl)
      ⟨fun σ W g h hb => toSH (argl (congr3 (h 0 rfl) (h 1 rfl)) (LSeg_any W x0 y0 d0 x1 y1 d1 a0 b0 c0 e0 a1 b1 c1 e1 (hTab.kept g (by simp)))),
      fun σ W g h hb => toSH (argl (congr3 (h 2 rfl) (h 3 rfl)) (LSeg_any W x2 y2 d2 x3 y3 d3 a2 b2 c2 e2 a3 b3 c3 e3 (hTab.kept g (by simp)))),
      fun σ W g h hb => toV (LKnown_any W (hTab.kept g (by simp))) rfl,
      fun σ W g h hb => toPts (Nat.zero_le _) (PClip_any W _ _ (lat x0 y0 d0) (lat x1 y1 d1) (lat x2 y2 d2) (lat x3 y3 d3) 1 (sh1 (h 4 rfl)) (sh1 (h 5 rfl)) (by omega) (lat_b a0 b0 c0 e0) (lat_b a1 b1 c1 e1) (lat_b a2 b2 c2 e2) (lat_b a3 b3 c3 e3) (hTab.kept g (by simp))),
      fun σ W g h hb => toHl (by
        rw [clip_same]
        exact rHClip_any W _ _ ⟨x0, y0, und d0⟩ ⟨x1, y1, und d1⟩ ⟨x2, y2, und d2⟩ ⟨x3, y3, und d3⟩ 5 (sh2 (h 4 rfl)) (sh2 (h 5 rfl)) (by omega) (lat_h a0 b0 c0 e0) (lat_h a1 b1 c1 e1) (lat_h a2 b2 c2 e2) (lat_h a3 b3 c3 e3) (und_pos d0).1 (und_pos d1).1 (und_pos d2).1 (und_pos d3).1),
      fun σ W g h hb => toV (alike_any W _ _ (clipP (lat x0 y0 d0) (lat x1 y1 d1) (lat x2 y2 d2) (lat x3 y3 d3)) 228 23 (by omega) (by omega) (h 7 rfl).1 (h 8 rfl) (clip_two _ _ _ _) (clip_bd (K := 1) (lat_b a0 b0 c0 e0) (lat_b a1 b1 c1 e1) (lat_b a2 b2 c2 e2) (lat_b a3 b3 c3 e3))) rfl,
      trivial⟩ fun τ W g h => ⟨rfl, g⟩
end Go.Proofs.YthbhgcaemcobeaaGreatDoor
namespace Go.Proofs.YthbhgcaemcobeaaGreatDoor
open Go.ChangeShapes Go.WideShapes Go.ChangeAt Go.RowKit Go.ChangeMaps
set_option linter.unusedVariables false
theorem grown_same {W W' : World} (h : W.grownBy W' none) {p : MemPlace} (hp : p.block < W.heap.size) : W.sameAt W' p := by
  cases p with
  | cell b o => exact World.cell?_of_block (w := W) (h.block b hp (by simp))
  | map b => exact h.block b hp (by simp)
theorem grown_frozen {W W' : World} (h : W.grownBy W' none) {b off : Nat} (hp : b < W.heap.size) : W'.frozen? ⟨b, off, none⟩ = W.frozen? ⟨b, off, none⟩ := by
  unfold World.frozen?
  rw [h.block b hp (by simp)]
theorem post_places {H : Type} {enc : TypeId × Value → H} {P : Program} {f : Func} {s : ChangeSpec} {apart fresh handsOn again : Bool} {W W' : World} {args : Array Value} {v : Value} {ds gs : List (DataW H)} {before : List MemPlace}
    (hW : DataW.Whole enc P f.params.toList s.vars apart W args.toList ds gs before)
    (hlt : ∀ p ∈ before, p.block < W.heap.size)
    (hres : ∀ (b : Nat) (sp : Nat → Bool) (hd : Bool), DataW.TrodAll enc P W' b sp hd f.resultTypes.toList (v.resultList f.resultTypes.size) (s.fn H (ds ++ gs)).results [])
    (hargs : ∀ sp : Nat → Bool, (∀ p ∈ before, sp p.block = true) → DataW.TrodAll enc P W' 0 sp true f.params.toList args.toList (s.fn H (ds ++ gs)).args before)
    (hvars : ∀ sp : Nat → Bool, DataW.TrodVars enc P W' sp s.vars (s.fn H (ds ++ gs)).vars [])
    (hg : W.grownBy W' none)
    (hok : ∀ (j : Nat) (t : TypeId) (r : Value), f.resultTypes[j]? = some t → (v.resultList f.resultTypes.size)[j]? = some r → Value.okWide P W' .any 0 t r) :
    s.post enc P f apart fresh handsOn again W args v W' := by
  have hW2 := hW
  obtain ⟨_, _, _, _, _, hfz, hnd⟩ := hW2
  have hA := hargs (fun b => decide (b < W.heap.size)) (fun p hp => decide_eq_true (hlt p hp))
  refine ⟨ds, gs, before, [], before, [], hW, hres _ _ _, hA, hvars _, World.keptBut_mono (fun p hp => hp.elim) (kept_of_grown hg), fun _ => ?_⟩
  refine ⟨hok, _, _, before, ⟨before, [], trodAll_append (hargs (fun _ => true) (fun _ _ => rfl)) (hres _ _ _), hvars _, (List.append_nil _).symm, ?_, hnd⟩, fun p hp _ => hp⟩
  intro b off hp
  rw [grown_frozen hg (show b < W.heap.size from hlt _ hp)]
  exact hfz b off hp
end Go.Proofs.YthbhgcaemcobeaaGreatDoor
namespace Go.Proofs.YthbhgcaemcobeaaGreatDoor
open Go.ChangeShapes Go.WideShapes Go.ChangeAt Go.RowKit Go.ChangeMaps Mat
set_option maxRecDepth 100000
set_option linter.unusedVariables false
set_option linter.unusedSimpArgs false
theorem tab_named : Tryz.prog.globalNamed "math/bits.deBruijn64tab" = some 2 := by kernel_rfl
theorem tab_typed : (Tryz.prog.globals[2]?).map (·.type) = some 181 := by kernel_rfl
theorem tab_cells : Tryz.prog.cellsOf 181 = 64 := by kernel_rfl
theorem u8_cells : Tryz.prog.cellsOf 5 = 1 := by kernel_rfl
theorem tab_of {W : World} (h : laidMetH Tryz.prog [("math/bits.deBruijn64tab", Rows.laid_math_bits_deBruijn64tab)] W) : Tab W := by
  have h1 : Lib.TabIs Tryz.prog W "math/bits.deBruijn64tab" .u8 (Lib.deBruijn64tab.map fun n : Nat => (n : Int)) := Lib.tabIs_of_head (rest := []) tab_named tab_typed Tryz.underlying181 Tryz.underlying5 u8_cells tab_cells h
  intro j hj
  rw [h1.cell tab_named j (by simpa using hj)]
  simp [List.getD_eq_getElem?_getD, List.getElem?_map, List.getElem?_eq_getElem hj]
noncomputable def laidWorld (os : Os) : World :=
  { World.holding Tryz.prog os ⟨#[], #[], []⟩ with heap := (World.holding Tryz.prog os ⟨#[], #[], []⟩).heap.modify 2 fun
      | .cells _ t frozen => .cells (Lib.deBruijn64tab.map fun z : Nat => Value.int .u8 (z : Int)).toArray t frozen
      | o => o }
end Go.Proofs.YthbhgcaemcobeaaGreatDoor
namespace Go.Proofs.YthbhgcaemcobeaaGreatDoor
open Go.ChangeShapes Go.WideShapes Go.ChangeAt Go.RowKit Go.ChangeMaps
set_option linter.unusedVariables false
set_option linter.unusedSimpArgs false
set_option maxRecDepth 100000
section
variable {H : Type} {enc : TypeId × Value → H} {W : World} {sp : Nat → Bool}
theorem i64_wf {n : Int} (h : (Lit.int .i64 n).wf = true) : -9223372036854775808 ≤ n ∧ n ≤ 9223372036854775807 := by
  simp [Lit.wf, IntKind.min, IntKind.max, IntKind.signed, IntKind.bits] at h
  omega
theorem int_cells : Tryz.prog.cellsOf 3 = 1 := by kernel_rfl
theorem dot_cells : Tryz.prog.cellsOf 23 = 3 := by kernel_rfl
theorem dot_fields : ∃ f0 f1 f2 : Field, Tryz.prog.underlying 23 = some (.struct #[f0, f1, f2]) ∧ f0.offset = 0 ∧ f1.offset = 1 ∧ f2.offset = 2 ∧ f0.type = 3 ∧ f1.type = 3 ∧ f2.type = 3 := ⟨_, _, _, Tryz.underlying23, rfl, rfl, rfl, rfl, rfl, rfl⟩
theorem open_dot {b0 : Nat} {r : Reach} {v : Value} {d : DataW H} {p : List MemPlace} (hval : Value.okWide Tryz.prog W r b0 23 v) (h : DataW.Trod enc Tryz.prog W 0 sp true 23 v d p) :
    ∃ x y z : Int, v = .agg #[.int .i64 x, .int .i64 y, .int .i64 z] ∧ (-9223372036854775808 ≤ x ∧ x ≤ 9223372036854775807) ∧ (-9223372036854775808 ≤ y ∧ y ≤ 9223372036854775807) ∧ (-9223372036854775808 ≤ z ∧ z ≤ 9223372036854775807) := by
  obtain ⟨cs, rfl, hcs⟩ := okWide_struct Tryz.underlying23 hval
  rw [dot_cells] at hcs
  obtain ⟨n, hn⟩ := h
  obtain ⟨f0, f1, f2, he, o0, o1, o2, t0, t1, t2⟩ := dot_fields
  obtain ⟨xs, k', _, _, _, hxl, hf⟩ := DataW.trod_struct he hn
  obtain ⟨l0, rfl⟩ : ∃ l0 : List Value, cs = l0.toArray := ⟨cs.toList, by simp⟩
  have hl0 : l0.length = 3 := by simpa using hcs
  match xs, hxl, l0, hl0 with
  | [y0, y1, y2], _, [v0, v1, v2], _ =>
    have g0 := hf 0 f0 rfl
    have g1 := hf 1 f1 rfl
    have g2 := hf 2 f2 rfl
    simp [o0, o1, o2, t0, t1, t2, int_cells, Value.cells] at g0 g1 g2
    obtain ⟨x0, hx0, _, w0⟩ := DataW.trod_int Tryz.underlying3 g0
    obtain ⟨x1, hx1, _, w1⟩ := DataW.trod_int Tryz.underlying3 g1
    obtain ⟨x2, hx2, _, w2⟩ := DataW.trod_int Tryz.underlying3 g2
    simp at hx0 hx1 hx2
    subst hx0; subst hx1; subst hx2
    exact ⟨x0, x1, x2, rfl, i64_wf w0, i64_wf w1, i64_wf w2⟩
theorem pt_cells : Tryz.prog.cellsOf 25 = 2 := by kernel_rfl
theorem pt_fields : ∃ f0 f1 : Field, Tryz.prog.underlying 25 = some (.struct #[f0, f1]) ∧ f0.offset = 0 ∧ f1.offset = 1 ∧ f0.type = 3 ∧ f1.type = 3 := ⟨_, _, Tryz.underlying25, rfl, rfl, rfl, rfl⟩
theorem open_pt {b0 : Nat} {r : Reach} {v : Value} {d : DataW H} {p : List MemPlace} (hval : Value.okWide Tryz.prog W r b0 25 v) (h : DataW.Trod enc Tryz.prog W 0 sp true 25 v d p) :
    ∃ x y : Int, v = .agg #[.int .i64 x, .int .i64 y] ∧ (-9223372036854775808 ≤ x ∧ x ≤ 9223372036854775807) ∧ (-9223372036854775808 ≤ y ∧ y ≤ 9223372036854775807) := by
  obtain ⟨cs, rfl, hcs⟩ := okWide_struct Tryz.underlying25 hval
  rw [pt_cells] at hcs
  obtain ⟨n, hn⟩ := h
  obtain ⟨f0, f1, he, o0, o1, t0, t1⟩ := pt_fields
  obtain ⟨xs, k', _, _, _, hxl, hf⟩ := DataW.trod_struct he hn
  obtain ⟨l0, rfl⟩ : ∃ l0 : List Value, cs = l0.toArray := ⟨cs.toList, by simp⟩
  have hl0 : l0.length = 2 := by simpa using hcs
  match xs, hxl, l0, hl0 with
  | [y0, y1], _, [v0, v1], _ =>
    have g0 := hf 0 f0 rfl
    have g1 := hf 1 f1 rfl
    simp [o0, o1, t0, t1, int_cells, Value.cells] at g0 g1
    obtain ⟨x0, hx0, _, w0⟩ := DataW.trod_int Tryz.underlying3 g0
    obtain ⟨x1, hx1, _, w1⟩ := DataW.trod_int Tryz.underlying3 g1
    simp at hx0 hx1
    subst hx0; subst hx1
    exact ⟨x0, x1, rfl, i64_wf w0, i64_wf w1⟩
end
end Go.Proofs.YthbhgcaemcobeaaGreatDoor
