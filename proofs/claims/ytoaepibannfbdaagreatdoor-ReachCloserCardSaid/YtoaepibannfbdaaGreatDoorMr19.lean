/- What the laws lean on, part 19. -/
import Derived.Below
import Derived.BigCall
import Derived.BigQuiet
import Derived.BigRegion
import Derived.ChangeOld
import Derived.Deep.AppendLies
import Derived.Deep.CutBlock
import Derived.Deep.CutRange
import Derived.Deep.DeepCutAuto
import Derived.Deep.DeepHandedRow
import Derived.Deep.LoopGhost
import Derived.Deep.MidRow
import Derived.Deep.QuietTactic
import Derived.Deep.RegionHeld3
import Derived.Deep.RegionLaw
import Derived.Deep.Strs
import Derived.Deep.WholeRow
import Derived.Laws.AppendOwn
import Derived.Laws.Concat
import Derived.Laws.CopyOwn
import Derived.Laws.Externs
import Derived.Laws.IdiomStrings
import Derived.Lib.BitFns
import Derived.Lib.Bytealg
import Derived.Lib.Hide
import Derived.Lib.LaidTab
import Derived.Lib.Slices
import Derived.Lib.Small
import Derived.Lib.Strings
import Derived.Lib.Walk
import Derived.LoopN
import Derived.Maps.AppendAt
import Derived.OpenShut
import Derived.OrdersHeld
import Derived.Outline
import Derived.OwnWalk
import Derived.ProofKit
import Derived.Shelf.Bits.Mul64
import Derived.Shelf.Spec.TrailingZeros
import Derived.StillTailTactics
import Derived.WalkKit
import Derived.WalkLawsBesides
import Derived.WalkSpells
import Derived.WideKeyArgs
import Derived.Test.YtoaepibannfbdaaGreatDoorCards
import Derived.Test.YtoaepibannfbdaaGreatDoorProg
import Derived.Test.YtoaepibannfbdaaGreatDoorRows
import Derived.Test.YtoaepibannfbdaaGreatDoorTie
import Derived.Test.YtoaepibannfbdaaGreatDoorMr18
namespace Go.Proofs.YtoaepibannfbdaaGreatDoor
open Go.RowKit Mat Ex PM
set_option linter.unusedVariables false
set_option linter.unusedSimpArgs false
set_option maxRecDepth 100000
theorem zt_162 : ZTextOf { data := #[49, 54, 50] } 162 := ⟨[49, 54, 50], dec_of (by decide +kernel), by decide +kernel, by decide +kernel⟩
theorem k_least : leastP (gridP 0 0) (gridP 4 0) (gridP 1 2) (gridP 9 9) = 4 := by
  have hm : meetP (gridP 0 0) (gridP 4 0) (gridP 1 2) (gridP 9 9) = [] := (told_nil (meetP_told _ _ _ _)).2 (by
    rintro x ⟨⟨t, t0, t1, e1⟩, s, s0, s1, e2⟩
    have h1 := congrArg Prod.snd e1
    have h2 := congrArg Prod.snd e2
    have a1 : (gridP 0 0).2 = 0 := rfl
    have a2 : (gridP 4 0).2 = 0 := rfl
    have a3 : (gridP 1 2).2 = 2 := rfl
    have a4 : (gridP 9 9).2 = 9 := rfl
    simp only [pat, a1, a2, a3, a4] at h1 h2
    grind)
  unfold leastP
  rw [if_pos hm]
  decide +kernel
theorem k_most : mostP (gridP 0 0) (gridP 4 0) (gridP 1 2) (gridP 9 9) = 162 := by decide +kernel
theorem k_close : CloserP (gridP 0 0) (gridP 4 0) (gridP 4 0) (gridP 4 9) 1 :=
  (closer_iff (least_meet (ins_right (gridP 0 0) (gridP 4 0)) (ins_left (gridP 4 0) (gridP 4 9)))).2 ⟨by decide, fun z => absurd z.1 (by decide +kernel), by decide +kernel⟩
theorem k_far : ¬ CloserP (gridP 0 0) (gridP 0 0) (gridP 0 0) (gridP 0 0) 1 := fun h =>
  ((closer_iff (least_meet (ins_left (gridP 0 0) (gridP 0 0)) (ins_left (gridP 0 0) (gridP 0 0)))).1 h).2.1 ⟨rfl, rfl, rfl⟩
theorem LK12_any (w : World) (p q r s : Int) (hp1 : -9223372036854775808 ≤ p) (hp2 : p ≤ 9223372036854775807) (hq1 : -9223372036854775808 ≤ q) (hq2 : q ≤ 9223372036854775807) (hr1 : -9223372036854775808 ≤ r) (hr2 : r ≤ 9223372036854775807) (hs1 : -9223372036854775808 ≤ s) (hs2 : s ≤ 9223372036854775807) :
    Calls Tryz.prog 61 #[.int .i64 p, .int .i64 q, .int .i64 r, .int .i64 s] w (fun e w' => ∃ v, e = .returned v ∧ SgV w' v (gridP p q) (gridP r s) ∧ w.grownBy w' none) := by
  refine exec_calls mixed Tryz.func61 [sZ p, sZ q, sZ r, sZ s] [sPt (gridP p q), sPt (gridP r s)] (.cons rfl (.cons rfl (.cons rfl (.cons rfl .nil)))) (rs := [cl 4 43 [.v true [.an 0 0, .an 1 0]], cl 5 43 [.v true [.an 2 0, .an 3 0]]]) (out := .v true [.an 4 0, .an 4 1, .an 4 2, .an 4 3, .an 4 4, .an 4 5, .an 4 6, .an 4 7, .an 5 0, .an 5 1, .an 5 2, .an 5 3, .an 5 4, .an 5 5, .an 5 6, .an 5 7]) (nc := 6) (by kernel_rfl)
      ⟨fun σ W g h hb => argl (congr2 (h 0 rfl) (h 1 rfl)) (PGrid_any W p q hp1 hp2 hq1 hq2),
      fun σ W g h hb => argl (congr2 (h 2 rfl) (h 3 rfl)) (PGrid_any W r s hr1 hr2 hs1 hs2),
      trivial⟩ fun τ W g h => ⟨_, rfl, mksg (h 4 rfl) (h 5 rfl), g⟩
theorem LKnown12_any (w : World) (hTab : Tab w) :
    Calls Tryz.prog 17 #[] w (fun e w' => e = .returned (.bool true) ∧ w.grownBy w' none) := by
  refine exec_calls mixed Tryz.func17 [] [sSg (gridP 0 0) (gridP 4 0), sSg (gridP 1 2) (gridP 9 9), sQ 4, sT (fun s => RTextOf s 4), sV (.bool true), sSg (gridP 0 0) (gridP 4 0), sSg (gridP 1 2) (gridP 9 9), sQ 162, sT (fun s => RTextOf s 162), sV (.bool true), sSg (gridP 0 0) (gridP 4 0), sSg (gridP 4 0) (gridP 4 9), sV (.bool true), sSg (gridP 0 0) (gridP 0 0), sSg (gridP 0 0) (gridP 0 0), sV (.bool false)] .nil (rs := [cl 0 61 [.v false [.lit (.int .i64 0)], .v false [.lit (.int .i64 0)], .v false [.lit (.int .i64 4)], .v false [.lit (.int .i64 0)]], cl 1 61 [.v false [.lit (.int .i64 1)], .v false [.lit (.int .i64 2)], .v false [.lit (.int .i64 9)], .v false [.lit (.int .i64 9)]], cl 2 23 [ag 16 0, ag 16 1], cl 3 13 [ag 4 2], co 4 (.binOp .eql 9 (.tmp 7) (.const (.string ({ data := #[52] }))) 9) 4 [on 3, .v false [.lit (.string ({ data := #[52] }))]] [0, 1, 2, 3] [], cl 5 61 [.v false [.lit (.int .i64 0)], .v false [.lit (.int .i64 0)], .v false [.lit (.int .i64 4)], .v false [.lit (.int .i64 0)]], cl 6 61 [.v false [.lit (.int .i64 1)], .v false [.lit (.int .i64 2)], .v false [.lit (.int .i64 9)], .v false [.lit (.int .i64 9)]], cl 7 25 [ag 16 5, ag 16 6], cl 8 13 [ag 4 7], co 9 (.binOp .eql 9 (.tmp 15) (.const (.string ({ data := #[49, 54, 50] }))) 9) 4 [on 8, .v false [.lit (.string ({ data := #[49, 54, 50] }))]] [0, 1, 2, 3, 4, 5, 6, 7, 8] [], cl 10 61 [.v false [.lit (.int .i64 0)], .v false [.lit (.int .i64 0)], .v false [.lit (.int .i64 4)], .v false [.lit (.int .i64 0)]], cl 11 61 [.v false [.lit (.int .i64 4)], .v false [.lit (.int .i64 0)], .v false [.lit (.int .i64 4)], .v false [.lit (.int .i64 9)]], cl 12 27 [ag 16 10, ag 16 11, .v false [.lit (.int .i64 1)]], cl 13 61 [.v false [.lit (.int .i64 0)], .v false [.lit (.int .i64 0)], .v false [.lit (.int .i64 0)], .v false [.lit (.int .i64 0)]], cl 14 61 [.v false [.lit (.int .i64 0)], .v false [.lit (.int .i64 0)], .v false [.lit (.int .i64 0)], .v false [.lit (.int .i64 0)]], cl 15 27 [ag 16 13, ag 16 14, .v false [.lit (.int .i64 1)]]]) (out := .v false [.lit (.bool true)]) (nc := 16) (by kernel_rfl)
      ⟨fun σ W g h hb => LK12_any W 0 0 4 0 (by decide) (by decide) (by decide) (by decide) (by decide) (by decide) (by decide) (by decide),
      fun σ W g h hb => LK12_any W 1 2 9 9 (by decide) (by decide) (by decide) (by decide) (by decide) (by decide) (by decide) (by decide),
      fun σ W g h hb => k_least ▸ RLeast_any W _ _ (gridP 0 0) (gridP 4 0) (gridP 1 2) (gridP 9 9) 1 (h 0 rfl) (h 1 rfl) (by omega) (grid_b (x := 0) (y := 0) (by decide) (by decide) (by decide) (by decide)) (grid_b (x := 4) (y := 0) (by decide) (by decide) (by decide) (by decide)) (grid_b (x := 1) (y := 2) (by decide) (by decide) (by decide) (by decide)) (grid_b (x := 9) (y := 9) (by decide) (by decide) (by decide) (by decide)) (hTab.kept g (by simp)),
      fun σ W g h hb => toT (FText_any W _ 4 1 (h 2 rfl) (by omega) (by decide +kernel) (by decide +kernel)),
      fun σ W g h hb => fun ρ o ho _ hv => by
        obtain ⟨s, e, hs⟩ := h 3 rfl
        exact ⟨_, seq_told ho ((two_vals hv).1.trans e) (two_vals hv).2 (rtext_uniq hs (.inl ⟨rfl, zt_4⟩)), rfl⟩,
      fun σ W g h hb => LK12_any W 0 0 4 0 (by decide) (by decide) (by decide) (by decide) (by decide) (by decide) (by decide) (by decide),
      fun σ W g h hb => LK12_any W 1 2 9 9 (by decide) (by decide) (by decide) (by decide) (by decide) (by decide) (by decide) (by decide),
      fun σ W g h hb => k_most ▸ RMost_any W _ _ (gridP 0 0) (gridP 4 0) (gridP 1 2) (gridP 9 9) 1 (h 5 rfl) (h 6 rfl) (by omega) (grid_b (x := 0) (y := 0) (by decide) (by decide) (by decide) (by decide)) (grid_b (x := 4) (y := 0) (by decide) (by decide) (by decide) (by decide)) (grid_b (x := 1) (y := 2) (by decide) (by decide) (by decide) (by decide)) (grid_b (x := 9) (y := 9) (by decide) (by decide) (by decide) (by decide)) (hTab.kept g (by simp)),
      fun σ W g h hb => toT (FText_any W _ 162 1 (h 7 rfl) (by omega) (by decide +kernel) (by decide +kernel)),
      fun σ W g h hb => fun ρ o ho _ hv => by
        obtain ⟨s, e, hs⟩ := h 8 rfl
        exact ⟨_, seq_told ho ((two_vals hv).1.trans e) (two_vals hv).2 (rtext_uniq hs (.inl ⟨rfl, zt_162⟩)), rfl⟩,
      fun σ W g h hb => LK12_any W 0 0 4 0 (by decide) (by decide) (by decide) (by decide) (by decide) (by decide) (by decide) (by decide),
      fun σ W g h hb => LK12_any W 4 0 4 9 (by decide) (by decide) (by decide) (by decide) (by decide) (by decide) (by decide) (by decide),
      fun σ W g h hb => toV (RCloser_any W _ _ (gridP 0 0) (gridP 4 0) (gridP 4 0) (gridP 4 9) 1 (h 10 rfl) (h 11 rfl) (by omega) (grid_b (x := 0) (y := 0) (by decide) (by decide) (by decide) (by decide)) (grid_b (x := 4) (y := 0) (by decide) (by decide) (by decide) (by decide)) (grid_b (x := 4) (y := 0) (by decide) (by decide) (by decide) (by decide)) (grid_b (x := 4) (y := 9) (by decide) (by decide) (by decide) (by decide)) 1 (by decide) (by decide) (hTab.kept g (by simp))) (congrArg Value.bool (dec_t k_close)),
      fun σ W g h hb => LK12_any W 0 0 0 0 (by decide) (by decide) (by decide) (by decide) (by decide) (by decide) (by decide) (by decide),
      fun σ W g h hb => LK12_any W 0 0 0 0 (by decide) (by decide) (by decide) (by decide) (by decide) (by decide) (by decide) (by decide),
      fun σ W g h hb => toV (RCloser_any W _ _ (gridP 0 0) (gridP 0 0) (gridP 0 0) (gridP 0 0) 1 (h 13 rfl) (h 14 rfl) (by omega) (grid_b (x := 0) (y := 0) (by decide) (by decide) (by decide) (by decide)) (grid_b (x := 0) (y := 0) (by decide) (by decide) (by decide) (by decide)) (grid_b (x := 0) (y := 0) (by decide) (by decide) (by decide) (by decide)) (grid_b (x := 0) (y := 0) (by decide) (by decide) (by decide) (by decide)) 1 (by decide) (by decide) (hTab.kept g (by simp))) (congrArg Value.bool (dec_f k_far)),
      trivial⟩ fun τ W g h => ⟨rfl, g⟩
theorem LSeg12_any (w : World) (x y d x' y' d' : Int) (h1 : -9223372036854775808 ≤ x) (h2 : x ≤ 9223372036854775807) (h3 : -9223372036854775808 ≤ y) (h4 : y ≤ 9223372036854775807) (k1 : -9223372036854775808 ≤ x') (k2 : x' ≤ 9223372036854775807) (k3 : -9223372036854775808 ≤ y') (k4 : y' ≤ 9223372036854775807) (hTab : Tab w) :
    Calls Tryz.prog 16 #[.agg #[.int .i64 x, .int .i64 y, .int .i64 d], .agg #[.int .i64 x', .int .i64 y', .int .i64 d']] w (RetSH w (lat x y d) (lat x' y' d') ⟨x, y, und d⟩ ⟨x', y', und d'⟩) := by
  refine exec_calls mixed Tryz.func16 [sDt x y d, sDt x' y' d'] [sPt (lat x y d), sPt (lat x' y' d'), sH ⟨x, y, und d⟩, sH ⟨x', y', und d'⟩] (.cons rfl (.cons rfl .nil)) (rs := [cl 2 9 [ag 3 0], cl 3 9 [ag 3 1], cl 4 10 [ag 3 0], cl 5 10 [ag 3 1]]) (out := .tup [(true, [.an 2 0, .an 2 1, .an 2 2, .an 2 3, .an 2 4, .an 2 5, .an 2 6, .an 2 7, .an 3 0, .an 3 1, .an 3 2, .an 3 3, .an 3 4, .an 3 5, .an 3 6, .an 3 7]), (true, [.an 4 0, .an 4 1, .an 4 2, .an 4 3, .an 4 4, .an 4 5, .an 5 0, .an 5 1, .an 5 2, .an 5 3, .an 5 4, .an 5 5])]) (nc := 6) (by kernel_rfl)
      ⟨fun σ W g h hb => argl (congrArg (fun v => [v]) (h 0 rfl)) (LAt_any W x y d h1 h2 h3 h4 (hTab.kept g (by simp))),
      fun σ W g h hb => argl (congrArg (fun v => [v]) (h 1 rfl)) (LAt_any W x' y' d' k1 k2 k3 k4 (hTab.kept g (by simp))),
      fun σ W g h hb => argl (congrArg (fun v => [v]) (h 0 rfl)) (rHAt_any W x y d h1 h2 h3 h4),
      fun σ W g h hb => argl (congrArg (fun v => [v]) (h 1 rfl)) (rHAt_any W x' y' d' k1 k2 k3 k4),
      trivial⟩ fun τ W g h => ⟨_, _, rfl, mksg (h 2 rfl) (h 3 rfl), mkhs (h 4 rfl) (h 5 rfl), g⟩
theorem LPart12_any (w : World) (va : Value) (a b : Pq) (n : Int) (Ha : SgV w va a b) (ba : Bp 1 a) (bb : Bp 1 b) (hTab : Tab w) :
    Calls Tryz.prog 29 #[va, .int .i64 n] w (RetPt w (pat a b (hun n))) := by
  refine exec_calls mixed Tryz.func29 [sSg a b, sZ n] [sC (.int .u64 (IntKind.u64.wrap n)) rfl, sC (.int .u64 (IntKind.u64.wrap n % 101)) rfl, sZ (IntKind.u64.wrap n % 101), sQE (hun n) 0, sQ (b.1 - a.1), sQ ((b.1 - a.1) * hun n), sQ (a.1 + (b.1 - a.1) * hun n), sQ (b.2 - a.2), sQ ((b.2 - a.2) * hun n), sQ (a.2 + (b.2 - a.2) * hun n)] (.cons Ha (.cons rfl .nil)) (rs := [co 2 (.convert 3 114 (.tmp 8)) 114 [on 1] [0, 1] [], co 3 (.binOp .rem 114 (.tmp 9) (.const (.int .u64 101)) 114) 114 [on 2, .v false [.lit (.int .u64 101)]] [0, 1, 2] [], co 4 (.convert 114 3 (.tmp 10)) 3 [on 3] [0, 1, 2, 3] [], cl 5 39 [on 4, .v false [.lit (.int .i64 100)]], cl 6 75 [.v true [.an 0 8, .an 0 9, .an 0 10, .an 0 11], ag 4 0], cl 7 34 [ag 4 6, ag 4 5], cl 8 37 [ag 4 0, ag 4 7], cl 9 75 [.v true [.an 0 12, .an 0 13, .an 0 14, .an 0 15], .v true [.an 0 4, .an 0 5, .an 0 6, .an 0 7]], cl 10 34 [ag 4 9, ag 4 5], cl 11 37 [.v true [.an 0 4, .an 0 5, .an 0 6, .an 0 7], ag 4 10]]) (out := .v true [.an 8 0, .an 8 1, .an 8 2, .an 8 3, .an 11 0, .an 11 1, .an 11 2, .an 11 3]) (nc := 12) (by kernel_rfl)
      ⟨fun σ W g h hb => fun ρ o ho _ hv => ⟨_, conv_ui ho ((one_val hv).trans (h 1 rfl)), rfl⟩,
      fun σ W g h hb => fun ρ o ho _ hv => ⟨_, rem_told ho ((two_vals hv).1.trans (h 2 rfl)) (two_vals hv).2, rfl⟩,
      fun σ W g h hb => fun ρ o ho _ hv => ⟨_, conv_iu ho ((one_val hv).trans (h 3 rfl)) (by have := hun_k n; omega) (by have := hun_k n; omega), rfl⟩,
      fun σ W g h hb => arg1b (h 4 rfl) (toQE (FOf_any W (IntKind.u64.wrap n % 101) 100 (by have := hun_k n; omega) (by have := hun_k n; omega) (by decide) (by decide) (hTab.kept g (by simp))) (by rw [if_neg (by decide)])),
      fun σ W g h hb => FSub_any W _ _ (b.1) (a.1) 1 (pt1 (sg2 (h 0 rfl))) (pt1 (sg1 (h 0 rfl))) (by omega) bb.1.1 bb.1.2 ba.1.1 ba.1.2 (hTab.kept g (by simp)),
      fun σ W g h hb => FMul_any W _ _ (b.1 - a.1) (hun n) 3 (h 6 rfl) (qE (h 5 rfl)) (by omega) (Bn.sub bb.1 ba.1).1 (Bn.sub bb.1 ba.1).2 (hun_b n).1 (hun_b n).2 (hTab.kept g (by simp)),
      fun σ W g h hb => FAdd_any W _ _ (a.1) ((b.1 - a.1) * hun n) 6 (pt1 (sg1 (h 0 rfl))) (h 7 rfl) (by omega) (Bn.mono ba.1 (by omega)).1 (Bn.mono ba.1 (by omega)).2 ((Bn.sub bb.1 ba.1).mul (hun_b n)).1 ((Bn.sub bb.1 ba.1).mul (hun_b n)).2 (hTab.kept g (by simp)),
      fun σ W g h hb => FSub_any W _ _ (b.2) (a.2) 1 (pt2 (sg2 (h 0 rfl))) (pt2 (sg1 (h 0 rfl))) (by omega) bb.2.1 bb.2.2 ba.2.1 ba.2.2 (hTab.kept g (by simp)),
      fun σ W g h hb => FMul_any W _ _ (b.2 - a.2) (hun n) 3 (h 9 rfl) (qE (h 5 rfl)) (by omega) (Bn.sub bb.2 ba.2).1 (Bn.sub bb.2 ba.2).2 (hun_b n).1 (hun_b n).2 (hTab.kept g (by simp)),
      fun σ W g h hb => FAdd_any W _ _ (a.2) ((b.2 - a.2) * hun n) 6 (pt2 (sg1 (h 0 rfl))) (h 10 rfl) (by omega) (Bn.mono ba.2 (by omega)).1 (Bn.mono ba.2 (by omega)).2 ((Bn.sub bb.2 ba.2).mul (hun_b n)).1 ((Bn.sub bb.2 ba.2).mul (hun_b n)).2 (hTab.kept g (by simp)),
      trivial⟩ fun τ W g h => ⟨_, rfl, mkpt (h 8 rfl) (h 11 rfl), g⟩
end Go.Proofs.YtoaepibannfbdaaGreatDoor
namespace Go.Proofs.YtoaepibannfbdaaGreatDoor
open Go.ChangeShapes Go.WideShapes Go.ChangeAt Go.RowKit Go.ChangeMaps
set_option linter.unusedVariables false
theorem grown_same {W W' : World} (h : W.grownBy W' none) {p : MemPlace} (hp : p.block < W.heap.size) : W.sameAt W' p := by
  cases p with
  | cell b o => exact World.cell?_of_block (w := W) (h.block b hp (by simp))
  | map b => exact h.block b hp (by simp)
theorem grown_frozen {W W' : World} (h : W.grownBy W' none) {b off : Nat} (hp : b < W.heap.size) : W'.frozen? ⟨b, off, none⟩ = W.frozen? ⟨b, off, none⟩ := by
  unfold World.frozen?
  rw [h.block b hp (by simp)]
theorem post_places {H : Type} {enc : TypeId × Value → H} {P : Program} {f : Func} {s : ChangeSpec} {apart fresh handsOn again : Bool} {W W' : World} {args : Array Value} {v : Value} {ds gs : List (DataW H)} {before : List MemPlace}
    (hW : DataW.Whole enc P f.params.toList s.vars apart W args.toList ds gs before)
    (hlt : ∀ p ∈ before, p.block < W.heap.size)
    (hres : ∀ (b : Nat) (sp : Nat → Bool) (hd : Bool), DataW.TrodAll enc P W' b sp hd f.resultTypes.toList (v.resultList f.resultTypes.size) (s.fn H (ds ++ gs)).results [])
    (hargs : ∀ sp : Nat → Bool, (∀ p ∈ before, sp p.block = true) → DataW.TrodAll enc P W' 0 sp true f.params.toList args.toList (s.fn H (ds ++ gs)).args before)
    (hvars : ∀ sp : Nat → Bool, DataW.TrodVars enc P W' sp s.vars (s.fn H (ds ++ gs)).vars [])
    (hg : W.grownBy W' none)
    (hok : ∀ (j : Nat) (t : TypeId) (r : Value), f.resultTypes[j]? = some t → (v.resultList f.resultTypes.size)[j]? = some r → Value.okWide P W' .any 0 t r) :
    s.post enc P f apart fresh handsOn again W args v W' := by
  have hW2 := hW
  obtain ⟨_, _, _, _, _, hfz, hnd⟩ := hW2
  have hA := hargs (fun b => decide (b < W.heap.size)) (fun p hp => decide_eq_true (hlt p hp))
  refine ⟨ds, gs, before, [], before, [], hW, hres _ _ _, hA, hvars _, World.keptBut_mono (fun p hp => hp.elim) (kept_of_grown hg), fun _ => ?_⟩
  refine ⟨hok, _, _, before, ⟨before, [], trodAll_append (hargs (fun _ => true) (fun _ _ => rfl)) (hres _ _ _), hvars _, (List.append_nil _).symm, ?_, hnd⟩, fun p hp _ => hp⟩
  intro b off hp
  rw [grown_frozen hg (show b < W.heap.size from hlt _ hp)]
  exact hfz b off hp
end Go.Proofs.YtoaepibannfbdaaGreatDoor
namespace Go.Proofs.YtoaepibannfbdaaGreatDoor
open Go.ChangeShapes Go.WideShapes Go.ChangeAt Go.RowKit Go.ChangeMaps Mat
set_option maxRecDepth 100000
set_option linter.unusedVariables false
set_option linter.unusedSimpArgs false
theorem tab_named : Tryz.prog.globalNamed "math/bits.deBruijn64tab" = some 2 := by kernel_rfl
theorem tab_typed : (Tryz.prog.globals[2]?).map (·.type) = some 196 := by kernel_rfl
theorem tab_cells : Tryz.prog.cellsOf 196 = 64 := by kernel_rfl
theorem u8_cells : Tryz.prog.cellsOf 5 = 1 := by kernel_rfl
theorem tab_of {W : World} (h : laidMetH Tryz.prog [("math/bits.deBruijn64tab", Rows.laid_math_bits_deBruijn64tab)] W) : Tab W := by
  have h1 : Lib.TabIs Tryz.prog W "math/bits.deBruijn64tab" .u8 (Lib.deBruijn64tab.map fun n : Nat => (n : Int)) := Lib.tabIs_of_head (rest := []) tab_named tab_typed Tryz.underlying196 Tryz.underlying5 u8_cells tab_cells h
  intro j hj
  rw [h1.cell tab_named j (by simpa using hj)]
  simp [List.getD_eq_getElem?_getD, List.getElem?_map, List.getElem?_eq_getElem hj]
noncomputable def laidWorld (os : Os) : World :=
  { World.holding Tryz.prog os ⟨#[], #[], []⟩ with heap := (World.holding Tryz.prog os ⟨#[], #[], []⟩).heap.modify 2 fun
      | .cells _ t frozen => .cells (Lib.deBruijn64tab.map fun z : Nat => Value.int .u8 (z : Int)).toArray t frozen
      | o => o }
end Go.Proofs.YtoaepibannfbdaaGreatDoor
namespace Go.Proofs.YtoaepibannfbdaaGreatDoor
open Go.ChangeShapes Go.WideShapes Go.ChangeAt Go.RowKit Go.ChangeMaps
set_option linter.unusedVariables false
set_option linter.unusedSimpArgs false
set_option maxRecDepth 100000
section
variable {H : Type} {enc : TypeId × Value → H} {W : World} {sp : Nat → Bool}
theorem i64_wf {n : Int} (h : (Lit.int .i64 n).wf = true) : -9223372036854775808 ≤ n ∧ n ≤ 9223372036854775807 := by
  simp [Lit.wf, IntKind.min, IntKind.max, IntKind.signed, IntKind.bits] at h
  omega
theorem int_cells : Tryz.prog.cellsOf 3 = 1 := by kernel_rfl
theorem dot_cells : Tryz.prog.cellsOf 36 = 3 := by kernel_rfl
theorem dot_fields : ∃ f0 f1 f2 : Field, Tryz.prog.underlying 36 = some (.struct #[f0, f1, f2]) ∧ f0.offset = 0 ∧ f1.offset = 1 ∧ f2.offset = 2 ∧ f0.type = 3 ∧ f1.type = 3 ∧ f2.type = 3 := ⟨_, _, _, Tryz.underlying36, rfl, rfl, rfl, rfl, rfl, rfl⟩
theorem open_dot {b0 : Nat} {r : Reach} {v : Value} {d : DataW H} {p : List MemPlace} (hval : Value.okWide Tryz.prog W r b0 36 v) (h : DataW.Trod enc Tryz.prog W 0 sp true 36 v d p) :
    ∃ x y z : Int, v = .agg #[.int .i64 x, .int .i64 y, .int .i64 z] ∧ (-9223372036854775808 ≤ x ∧ x ≤ 9223372036854775807) ∧ (-9223372036854775808 ≤ y ∧ y ≤ 9223372036854775807) ∧ (-9223372036854775808 ≤ z ∧ z ≤ 9223372036854775807) := by
  obtain ⟨cs, rfl, hcs⟩ := okWide_struct Tryz.underlying36 hval
  rw [dot_cells] at hcs
  obtain ⟨n, hn⟩ := h
  obtain ⟨f0, f1, f2, he, o0, o1, o2, t0, t1, t2⟩ := dot_fields
  obtain ⟨xs, k', _, _, _, hxl, hf⟩ := DataW.trod_struct he hn
  obtain ⟨l0, rfl⟩ : ∃ l0 : List Value, cs = l0.toArray := ⟨cs.toList, by simp⟩
  have hl0 : l0.length = 3 := by simpa using hcs
  match xs, hxl, l0, hl0 with
  | [y0, y1, y2], _, [v0, v1, v2], _ =>
    have g0 := hf 0 f0 rfl
    have g1 := hf 1 f1 rfl
    have g2 := hf 2 f2 rfl
    simp [o0, o1, o2, t0, t1, t2, int_cells, Value.cells] at g0 g1 g2
    obtain ⟨x0, hx0, _, w0⟩ := DataW.trod_int Tryz.underlying3 g0
    obtain ⟨x1, hx1, _, w1⟩ := DataW.trod_int Tryz.underlying3 g1
    obtain ⟨x2, hx2, _, w2⟩ := DataW.trod_int Tryz.underlying3 g2
    simp at hx0 hx1 hx2
    subst hx0; subst hx1; subst hx2
    exact ⟨x0, x1, x2, rfl, i64_wf w0, i64_wf w1, i64_wf w2⟩
end
end Go.Proofs.YtoaepibannfbdaaGreatDoor
