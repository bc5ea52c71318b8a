/- What the laws lean on, part 28. -/
import Derived.Below
import Derived.BigCall
import Derived.BigQuiet
import Derived.BigRegion
import Derived.Deep.AppendLies
import Derived.Deep.CutBlock
import Derived.Deep.CutRange
import Derived.Deep.DeepCutAuto
import Derived.Deep.DeepHandedRow
import Derived.Deep.LoopGhost
import Derived.Deep.MidRow
import Derived.Deep.QuietTactic
import Derived.Deep.RegionHeld3
import Derived.Deep.RegionLaw
import Derived.Deep.WholeRow
import Derived.Laws.AppendOwn
import Derived.Laws.Concat
import Derived.Laws.CopyOwn
import Derived.Laws.Externs
import Derived.Laws.IdiomStrings
import Derived.Lib.BitFns
import Derived.Lib.Bytealg
import Derived.Lib.Hide
import Derived.Lib.Slices
import Derived.Lib.Small
import Derived.Lib.Strings
import Derived.Lib.Walk
import Derived.LoopN
import Derived.Maps.AppendAt
import Derived.OpenShut
import Derived.OrdersHeld
import Derived.Outline
import Derived.OwnWalk
import Derived.ProofKit
import Derived.Shelf.Bits.Mul64
import Derived.Shelf.Spec.TrailingZeros
import Derived.StillTailTactics
import Derived.WalkKit
import Derived.WalkLawsBesides
import Derived.WalkSpells
import Derived.Test.YtoaepibannfbdaaGreatDoorProg
import Derived.Test.YtoaepibannfbdaaGreatDoorRows
import Derived.Test.YtoaepibannfbdaaGreatDoorMr25
namespace Go.Proofs.YtoaepibannfbdaaGreatDoor
open Go.RowKit Mat Ex PM
set_option linter.unusedVariables false
set_option linter.unusedSimpArgs false
set_option maxRecDepth 100000
theorem beqb_told {P : Program} {ρ : Operand → Value} {o : Oper} {t t' : TypeId} {x y : Operand} {a b : Bool} {W : World} (ho : o.op = .binOp .eql t x y t') (hx : ρ x = .bool a) (hy : ρ y = .bool b) (hu : P.underlying t = some .bool) (h : a = b) : (execOp ρ o).run P W = .ok (.value (.bool true)) W := by
  have hg : eqGuard .eql t x y (.bool a) (.bool b) = pure () := by unfold eqGuard; rfl
  have hb : binOp .eql t (.bool a) (.bool b) = (do pure (.bool (← Op.equal t (.bool a) (.bool b)))) := by simp [binOp]
  have he : (Op.equal t (.bool a) (.bool b)).run P W = .ok true W := by
    subst h
    unfold Op.equal
    show Sem.run P (Op.equalIn (_ + 1) t (.bool a) (.bool a)) W = _
    rw [Op.equalIn, Sem.run_bind, run_underlying hu W]
    show Sem.run P (pure (a == a)) W = _
    rw [beq_self_eq_true]; rfl
  simp only [execOp, ho, hx, hy, hg, hb, Sem.run_bind, Sem.run_pure, Result.andThen_ok, he]
end Go.Proofs.YtoaepibannfbdaaGreatDoor
namespace Go.Proofs.YtoaepibannfbdaaGreatDoor
open Go.RowKit Mat Ex PM
set_option linter.unusedVariables false
set_option linter.unusedSimpArgs false
set_option maxRecDepth 100000
theorem dCloser_any (w : World) (va vb : Value) (a b c d : H3) (E : Nat) (Ha : HsV w va a b) (Hb : HsV w vb c d) (hE : 1 ≤ E ∧ E ≤ 100) (ba : HB E a) (bb : HB E b) (bc : HB E c) (bd : HB E d) (za : 0 < a.z) (zb : 0 < b.z) (zc : 0 < c.z) (zd : 0 < d.z) (n : Int) (n1 : -9223372036854775808 ≤ n) (n2 : n ≤ 9223372036854775807) :
    Calls Tryz.prog 28 #[va, vb, .int .i64 n] w (RetB w (dec (CloserP (rp a) (rp b) (rp c) (rp d) n))) := by
  rcases (show n ≤ 0 ∨ (0 < n ∧ (rp a) ≠ (rp b)) ∨ (0 < n ∧ (rp a) = (rp b) ∧ (rp c) ≠ (rp d)) ∨ (0 < n ∧ (rp a) = (rp b) ∧ (rp c) = (rp d) ∧ (leastP (rp a) (rp b) (rp c) (rp d)) = 0) ∨ (0 < n ∧ (rp a) = (rp b) ∧ (rp c) = (rp d) ∧ (leastP (rp a) (rp b) (rp c) (rp d)) ≠ 0) from by
    by_cases x0 : 0 < n
    · by_cases x1 : (rp a) = (rp b)
      · by_cases x2 : (rp c) = (rp d)
        · by_cases x3 : (leastP (rp a) (rp b) (rp c) (rp d)) = 0
          · exact .inr (.inr (.inr (.inl ⟨x0, x1, x2, x3⟩)))
          · exact .inr (.inr (.inr (.inr ⟨x0, x1, x2, x3⟩)))
        · exact .inr (.inr (.inl ⟨x0, x1, x2⟩))
      · exact .inr (.inl ⟨x0, x1⟩)
    · exact .inl (by omega)) with h0 | ⟨h0, h1⟩ | ⟨h0, h1, h2⟩ | ⟨h0, h1, h2, h3⟩ | ⟨h0, h1, h2, h3⟩
  · skip
    rw [dec_f (fun z => absurd ((closer_iff (leastP_is _ _ _ _)).1 z).1 (by omega))]
    refine exec_calls mixed Tryz.func28 [sHs a b, sHs c d, sZ n] [sV (.bool true)] (.cons Ha (.cons Hb (.cons rfl .nil))) (rs := [co 3 (.binOp .leq 3 (.tmp 10) (.const (.int .i64 0)) 3) 4 [on 2, .v false [.lit (.int .i64 0)]] [0, 1, 2] []]) (out := .v false [.lit (.bool false)]) (nc := 4) (by kernel_rfl)
        ⟨fun σ W g h hb => fun ρ o ho _ hv => ⟨_, le_told true ho ((two_vals hv).1.trans (h 2 rfl)) (two_vals hv).2 (decide_eq_true (by omega)), rfl⟩,
        trivial⟩ fun τ W g h => ⟨rfl, g⟩
  · skip
    have hq : decide (rcmp (leastP (rp a) (rp b) (rp c) (rp d)) ((n : Rat) * n) < 0) = dec (CloserP (rp a) (rp b) (rp c) (rp d) n) := by rw [dec_of']; exact dec_congr (rcmp_neg.trans (by rw [closer_iff (leastP_is _ _ _ _)]; exact ⟨fun z => ⟨h0, fun y => h1 y.1, z⟩, fun z => z.2.2⟩))
    refine exec_calls mixed Tryz.func28 [sHs a b, sHs c d, sZ n] [sV (.bool false), sZ (pcmp (rp a) (rp b)), sV (.bool false), sRQ (leastP (rp a) (rp b) (rp c) (rp d)) (T12 E), sRQ (n : Rat) 5, sRQ ((n : Rat) * n) 10, sZ (rcmp (leastP (rp a) (rp b) (rp c) (rp d)) ((n : Rat) * n)), sBd (dec (CloserP (rp a) (rp b) (rp c) (rp d) n))] (.cons Ha (.cons Hb (.cons rfl .nil))) (rs := [co 3 (.binOp .leq 3 (.tmp 10) (.const (.int .i64 0)) 3) 4 [on 2, .v false [.lit (.int .i64 0)]] [0, 1, 2] [], cl 4 74 [ag 6 0, .v true [.an 0 6, .an 0 7, .an 0 8, .an 0 9, .an 0 10, .an 0 11]], co 5 (.binOp .eql 3 (.tmp 16) (.const (.int .i64 0)) 3) 4 [on 4, .v false [.lit (.int .i64 0)]] [0, 1, 2, 3, 4] [], cl 6 24 [ag 12 0, ag 12 1], cl 7 56 [on 2], cl 8 59 [ag 4 7, ag 4 7], cl 9 66 [ag 4 6, ag 4 8], co 10 (.binOp .lss 3 (.tmp 42) (.const (.int .i64 0)) 3) 4 [on 9, .v false [.lit (.int .i64 0)]] [0, 1, 2, 3, 4, 5, 6, 7, 8, 9] []]) (out := on 10) (nc := 11) (by kernel_rfl)
        ⟨fun σ W g h hb => fun ρ o ho _ hv => ⟨_, le_told false ho ((two_vals hv).1.trans (h 2 rfl)) (two_vals hv).2 (decide_eq_false (by omega)), rfl⟩,
        fun σ W g h hb => toZ (rHCmp_any W _ _ a b E (hs1 (h 0 rfl)) (hs2 (h 0 rfl)) (by omega) ba bb za zb) rfl,
        fun σ W g h hb => fun ρ o ho _ hv => ⟨_, eq_told false ho ((two_vals hv).1.trans (h 4 rfl)) (two_vals hv).2 (decide_eq_false (fun z => h1 (pcmp_zero.1 z))), rfl⟩,
        fun σ W g h hb => dLeast_any W _ _ a b c d E (h 0 rfl) (h 1 rfl) hE ba bb bc bd za zb zc zd,
        fun σ W g h hb => arg1 (h 2 rfl) (rQOf_any W n n1 n2),
        fun σ W g h hb => rQMulQ_any W _ _ _ _ 5 (h 7 rfl) (h 7 rfl) (by omega),
        fun σ W g h hb => toZ (rQCmp_any W _ _ _ _ (T12 E) (h 6 rfl) ((h 8 rfl).mono (by unfold T12; omega)) (by unfold T12; omega)) rfl,
        fun σ W g h hb => fun ρ o ho _ hv => ⟨_, lt_told _ ho ((two_vals hv).1.trans (h 9 rfl)) (two_vals hv).2 hq, rfl⟩,
        trivial⟩ fun τ W g h => ⟨congrArg Ending.returned (h 10 rfl), g⟩
  · skip
    have hq : decide (rcmp (leastP (rp a) (rp b) (rp c) (rp d)) ((n : Rat) * n) < 0) = dec (CloserP (rp a) (rp b) (rp c) (rp d) n) := by rw [dec_of']; exact dec_congr (rcmp_neg.trans (by rw [closer_iff (leastP_is _ _ _ _)]; exact ⟨fun z => ⟨h0, fun y => h2 y.2.1, z⟩, fun z => z.2.2⟩))
    refine exec_calls mixed Tryz.func28 [sHs a b, sHs c d, sZ n] [sV (.bool false), sZ (pcmp (rp a) (rp b)), sV (.bool true), sZ (pcmp (rp c) (rp d)), sV (.bool false), sRQ (leastP (rp a) (rp b) (rp c) (rp d)) (T12 E), sRQ (n : Rat) 5, sRQ ((n : Rat) * n) 10, sZ (rcmp (leastP (rp a) (rp b) (rp c) (rp d)) ((n : Rat) * n)), sBd (dec (CloserP (rp a) (rp b) (rp c) (rp d) n))] (.cons Ha (.cons Hb (.cons rfl .nil))) (rs := [co 3 (.binOp .leq 3 (.tmp 10) (.const (.int .i64 0)) 3) 4 [on 2, .v false [.lit (.int .i64 0)]] [0, 1, 2] [], cl 4 74 [ag 6 0, .v true [.an 0 6, .an 0 7, .an 0 8, .an 0 9, .an 0 10, .an 0 11]], co 5 (.binOp .eql 3 (.tmp 16) (.const (.int .i64 0)) 3) 4 [on 4, .v false [.lit (.int .i64 0)]] [0, 1, 2, 3, 4] [], cl 6 74 [ag 6 1, .v true [.an 1 6, .an 1 7, .an 1 8, .an 1 9, .an 1 10, .an 1 11]], co 7 (.binOp .eql 3 (.tmp 23) (.const (.int .i64 0)) 3) 4 [on 6, .v false [.lit (.int .i64 0)]] [0, 1, 2, 3, 4, 5, 6] [], cl 8 24 [ag 12 0, ag 12 1], cl 9 56 [on 2], cl 10 59 [ag 4 9, ag 4 9], cl 11 66 [ag 4 8, ag 4 10], co 12 (.binOp .lss 3 (.tmp 42) (.const (.int .i64 0)) 3) 4 [on 11, .v false [.lit (.int .i64 0)]] [0, 1, 2, 3, 4, 5, 6, 7, 8, 9, 10, 11] []]) (out := on 12) (nc := 13) (by kernel_rfl)
        ⟨fun σ W g h hb => fun ρ o ho _ hv => ⟨_, le_told false ho ((two_vals hv).1.trans (h 2 rfl)) (two_vals hv).2 (decide_eq_false (by omega)), rfl⟩,
        fun σ W g h hb => toZ (rHCmp_any W _ _ a b E (hs1 (h 0 rfl)) (hs2 (h 0 rfl)) (by omega) ba bb za zb) rfl,
        fun σ W g h hb => fun ρ o ho _ hv => ⟨_, eq_told true ho ((two_vals hv).1.trans (h 4 rfl)) (two_vals hv).2 (decide_eq_true (pcmp_zero.2 h1)), rfl⟩,
        fun σ W g h hb => toZ (rHCmp_any W _ _ c d E (hs1 (h 1 rfl)) (hs2 (h 1 rfl)) (by omega) bc bd zc zd) rfl,
        fun σ W g h hb => fun ρ o ho _ hv => ⟨_, eq_told false ho ((two_vals hv).1.trans (h 6 rfl)) (two_vals hv).2 (decide_eq_false (fun z => h2 (pcmp_zero.1 z))), rfl⟩,
        fun σ W g h hb => dLeast_any W _ _ a b c d E (h 0 rfl) (h 1 rfl) hE ba bb bc bd za zb zc zd,
        fun σ W g h hb => arg1 (h 2 rfl) (rQOf_any W n n1 n2),
        fun σ W g h hb => rQMulQ_any W _ _ _ _ 5 (h 9 rfl) (h 9 rfl) (by omega),
        fun σ W g h hb => toZ (rQCmp_any W _ _ _ _ (T12 E) (h 8 rfl) ((h 10 rfl).mono (by unfold T12; omega)) (by unfold T12; omega)) rfl,
        fun σ W g h hb => fun ρ o ho _ hv => ⟨_, lt_told _ ho ((two_vals hv).1.trans (h 11 rfl)) (two_vals hv).2 hq, rfl⟩,
        trivial⟩ fun τ W g h => ⟨congrArg Ending.returned (h 12 rfl), g⟩
  · skip
    rw [dec_f (fun z => ((closer_iff (leastP_is _ _ _ _)).1 z).2.1 ⟨h1, h2, h3⟩)]
    refine exec_calls mixed Tryz.func28 [sHs a b, sHs c d, sZ n] [sV (.bool false), sZ (pcmp (rp a) (rp b)), sV (.bool true), sZ (pcmp (rp c) (rp d)), sV (.bool true), sRQ (leastP (rp a) (rp b) (rp c) (rp d)) (T12 E), sV (.bool true)] (.cons Ha (.cons Hb (.cons rfl .nil))) (rs := [co 3 (.binOp .leq 3 (.tmp 10) (.const (.int .i64 0)) 3) 4 [on 2, .v false [.lit (.int .i64 0)]] [0, 1, 2] [], cl 4 74 [ag 6 0, .v true [.an 0 6, .an 0 7, .an 0 8, .an 0 9, .an 0 10, .an 0 11]], co 5 (.binOp .eql 3 (.tmp 16) (.const (.int .i64 0)) 3) 4 [on 4, .v false [.lit (.int .i64 0)]] [0, 1, 2, 3, 4] [], cl 6 74 [ag 6 1, .v true [.an 1 6, .an 1 7, .an 1 8, .an 1 9, .an 1 10, .an 1 11]], co 7 (.binOp .eql 3 (.tmp 23) (.const (.int .i64 0)) 3) 4 [on 6, .v false [.lit (.int .i64 0)]] [0, 1, 2, 3, 4, 5, 6] [], cl 8 24 [ag 12 0, ag 12 1], co 9 (.binOp .eql 3 (.tmp 33) (.const (.int .i64 0)) 3) 4 [on 8, .v false [.lit (.int .i64 0)]] [0, 1, 2, 3, 4, 5, 6, 7, 8] []]) (out := .v false [.lit (.bool false)]) (nc := 10) (by kernel_rfl)
        ⟨fun σ W g h hb => fun ρ o ho _ hv => ⟨_, le_told false ho ((two_vals hv).1.trans (h 2 rfl)) (two_vals hv).2 (decide_eq_false (by omega)), rfl⟩,
        fun σ W g h hb => toZ (rHCmp_any W _ _ a b E (hs1 (h 0 rfl)) (hs2 (h 0 rfl)) (by omega) ba bb za zb) rfl,
        fun σ W g h hb => fun ρ o ho _ hv => ⟨_, eq_told true ho ((two_vals hv).1.trans (h 4 rfl)) (two_vals hv).2 (decide_eq_true (pcmp_zero.2 h1)), rfl⟩,
        fun σ W g h hb => toZ (rHCmp_any W _ _ c d E (hs1 (h 1 rfl)) (hs2 (h 1 rfl)) (by omega) bc bd zc zd) rfl,
        fun σ W g h hb => fun ρ o ho _ hv => ⟨_, eq_told true ho ((two_vals hv).1.trans (h 6 rfl)) (two_vals hv).2 (decide_eq_true (pcmp_zero.2 h2)), rfl⟩,
        fun σ W g h hb => dLeast_any W _ _ a b c d E (h 0 rfl) (h 1 rfl) hE ba bb bc bd za zb zc zd,
        fun σ W g h hb => fun ρ o ho _ hv => ⟨_, eq_told true ho ((two_vals hv).1.trans (rqs (h 8 rfl))) (two_vals hv).2 (decide_eq_true (rsg_zero.2 h3)), rfl⟩,
        trivial⟩ fun τ W g h => ⟨rfl, g⟩
  · skip
    have hq : decide (rcmp (leastP (rp a) (rp b) (rp c) (rp d)) ((n : Rat) * n) < 0) = dec (CloserP (rp a) (rp b) (rp c) (rp d) n) := by rw [dec_of']; exact dec_congr (rcmp_neg.trans (by rw [closer_iff (leastP_is _ _ _ _)]; exact ⟨fun z => ⟨h0, fun y => h3 y.2.2, z⟩, fun z => z.2.2⟩))
    refine exec_calls mixed Tryz.func28 [sHs a b, sHs c d, sZ n] [sV (.bool false), sZ (pcmp (rp a) (rp b)), sV (.bool true), sZ (pcmp (rp c) (rp d)), sV (.bool true), sRQ (leastP (rp a) (rp b) (rp c) (rp d)) (T12 E), sV (.bool false), sRQ (n : Rat) 5, sRQ ((n : Rat) * n) 10, sZ (rcmp (leastP (rp a) (rp b) (rp c) (rp d)) ((n : Rat) * n)), sBd (dec (CloserP (rp a) (rp b) (rp c) (rp d) n))] (.cons Ha (.cons Hb (.cons rfl .nil))) (rs := [co 3 (.binOp .leq 3 (.tmp 10) (.const (.int .i64 0)) 3) 4 [on 2, .v false [.lit (.int .i64 0)]] [0, 1, 2] [], cl 4 74 [ag 6 0, .v true [.an 0 6, .an 0 7, .an 0 8, .an 0 9, .an 0 10, .an 0 11]], co 5 (.binOp .eql 3 (.tmp 16) (.const (.int .i64 0)) 3) 4 [on 4, .v false [.lit (.int .i64 0)]] [0, 1, 2, 3, 4] [], cl 6 74 [ag 6 1, .v true [.an 1 6, .an 1 7, .an 1 8, .an 1 9, .an 1 10, .an 1 11]], co 7 (.binOp .eql 3 (.tmp 23) (.const (.int .i64 0)) 3) 4 [on 6, .v false [.lit (.int .i64 0)]] [0, 1, 2, 3, 4, 5, 6] [], cl 8 24 [ag 12 0, ag 12 1], co 9 (.binOp .eql 3 (.tmp 33) (.const (.int .i64 0)) 3) 4 [on 8, .v false [.lit (.int .i64 0)]] [0, 1, 2, 3, 4, 5, 6, 7, 8] [], cl 10 56 [on 2], cl 11 59 [ag 4 10, ag 4 10], cl 12 66 [ag 4 8, ag 4 11], co 13 (.binOp .lss 3 (.tmp 42) (.const (.int .i64 0)) 3) 4 [on 12, .v false [.lit (.int .i64 0)]] [0, 1, 2, 3, 4, 5, 6, 7, 8, 9, 10, 11, 12] []]) (out := on 13) (nc := 14) (by kernel_rfl)
        ⟨fun σ W g h hb => fun ρ o ho _ hv => ⟨_, le_told false ho ((two_vals hv).1.trans (h 2 rfl)) (two_vals hv).2 (decide_eq_false (by omega)), rfl⟩,
        fun σ W g h hb => toZ (rHCmp_any W _ _ a b E (hs1 (h 0 rfl)) (hs2 (h 0 rfl)) (by omega) ba bb za zb) rfl,
        fun σ W g h hb => fun ρ o ho _ hv => ⟨_, eq_told true ho ((two_vals hv).1.trans (h 4 rfl)) (two_vals hv).2 (decide_eq_true (pcmp_zero.2 h1)), rfl⟩,
        fun σ W g h hb => toZ (rHCmp_any W _ _ c d E (hs1 (h 1 rfl)) (hs2 (h 1 rfl)) (by omega) bc bd zc zd) rfl,
        fun σ W g h hb => fun ρ o ho _ hv => ⟨_, eq_told true ho ((two_vals hv).1.trans (h 6 rfl)) (two_vals hv).2 (decide_eq_true (pcmp_zero.2 h2)), rfl⟩,
        fun σ W g h hb => dLeast_any W _ _ a b c d E (h 0 rfl) (h 1 rfl) hE ba bb bc bd za zb zc zd,
        fun σ W g h hb => fun ρ o ho _ hv => ⟨_, eq_told false ho ((two_vals hv).1.trans (rqs (h 8 rfl))) (two_vals hv).2 (decide_eq_false (fun z => h3 (rsg_zero.1 z))), rfl⟩,
        fun σ W g h hb => arg1 (h 2 rfl) (rQOf_any W n n1 n2),
        fun σ W g h hb => rQMulQ_any W _ _ _ _ 5 (h 10 rfl) (h 10 rfl) (by omega),
        fun σ W g h hb => toZ (rQCmp_any W _ _ _ _ (T12 E) (h 8 rfl) ((h 11 rfl).mono (by unfold T12; omega)) (by unfold T12; omega)) rfl,
        fun σ W g h hb => fun ρ o ho _ hv => ⟨_, lt_told _ ho ((two_vals hv).1.trans (h 12 rfl)) (two_vals hv).2 hq, rfl⟩,
        trivial⟩ fun τ W g h => ⟨congrArg Ending.returned (h 13 rfl), g⟩
end Go.Proofs.YtoaepibannfbdaaGreatDoor
