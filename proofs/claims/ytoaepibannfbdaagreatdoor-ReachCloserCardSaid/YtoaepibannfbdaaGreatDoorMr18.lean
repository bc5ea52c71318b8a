/- What the laws lean on, part 18. -/
import Derived.Below
import Derived.BigCall
import Derived.BigQuiet
import Derived.BigRegion
import Derived.Deep.AppendLies
import Derived.Deep.CutBlock
import Derived.Deep.CutRange
import Derived.Deep.DeepCutAuto
import Derived.Deep.DeepHandedRow
import Derived.Deep.LoopGhost
import Derived.Deep.MidRow
import Derived.Deep.QuietTactic
import Derived.Deep.RegionHeld3
import Derived.Deep.RegionLaw
import Derived.Deep.WholeRow
import Derived.Laws.AppendOwn
import Derived.Laws.Concat
import Derived.Laws.CopyOwn
import Derived.Laws.Externs
import Derived.Laws.IdiomStrings
import Derived.Lib.BitFns
import Derived.Lib.Bytealg
import Derived.Lib.Hide
import Derived.Lib.Slices
import Derived.Lib.Small
import Derived.Lib.Strings
import Derived.Lib.Walk
import Derived.LoopN
import Derived.Maps.AppendAt
import Derived.OpenShut
import Derived.OrdersHeld
import Derived.Outline
import Derived.OwnWalk
import Derived.ProofKit
import Derived.Shelf.Bits.Mul64
import Derived.Shelf.Spec.TrailingZeros
import Derived.StillTailTactics
import Derived.WalkKit
import Derived.WalkLawsBesides
import Derived.WalkSpells
import Derived.Test.YtoaepibannfbdaaGreatDoorProg
import Derived.Test.YtoaepibannfbdaaGreatDoorRows
import Derived.Test.YtoaepibannfbdaaGreatDoorMr17
namespace Go.Proofs.YtoaepibannfbdaaGreatDoor
open Go.RowKit Mat Ex PM
set_option linter.unusedVariables false
set_option linter.unusedSimpArgs false
set_option maxRecDepth 100000
def sBq (b : Bool) : Sp := sC (.bool b) rfl
theorem bq {b c : Bool} {v : Value} {W : World} (h : (sBq b).F v W) (h2 : v = .bool c) : b = c := by
  have h : v = .bool b := h
  rw [h] at h2; exact Value.bool.inj h2
theorem eqq_told {P : Program} {ρ : Operand → Value} {o : Oper} {t t' : TypeId} {x y : Operand} {a c : Int} {W : World} (ho : o.op = .binOp .eql t x y t') (hx : ρ x = .int .i64 a) (hy : ρ y = .int .i64 c) : (execOp ρ o).run P W = .ok (.value (.bool (decide (a = c)))) W := eq_told _ ho hx hy rfl
theorem RatV.eq {w : World} {v : Value} {r t : Rat} (e : r = t) (h : RatV w v t) : RatV w v r := e ▸ h
theorem min_t {x y : Rat} (h : decide (rcmp y x = -1) = true) : min x y = y := by have := of_decide_eq_true h; have := rcmp_lt.1 this; grind
theorem min_f {x y : Rat} (h : decide (rcmp y x = -1) = false) : min x y = x := by have := of_decide_eq_false h; have : ¬ y < x := fun z => this (rcmp_lt.2 z); grind
theorem max_t {x y : Rat} (h : decide (rcmp y x = 1) = true) : max x y = y := by have := of_decide_eq_true h; have := rcmp_gt.1 this; grind
theorem max_f {x y : Rat} (h : decide (rcmp y x = 1) = false) : max x y = x := by have := of_decide_eq_false h; have : ¬ x < y := fun z => this (rcmp_gt.2 z); grind
theorem FOutLow (w : World) (va : Value) (a b c d : Rat) (K : Nat) (Ha : RsV w va [a, b, c, d]) (hK : 1 ≤ K ∧ K ≤ 100000) (b_a : Bn K a) (b_b : Bn K b) (b_c : Bn K c) (b_d : Bn K d) :
    Calls Tryz.prog 111 #[va, .int .i64 (-1)] w (RetRat w (min (min (min a b) c) d)) := by
  have bm1 := b_a.min b_b
  have bm2 := bm1.min b_c
  have bm3 := bm2.min b_d
  refine execm_calls mixed Tryz.func111 [sRs [a, b, c, d], sV (.int .i64 (-1))] [sV (.int .i64 4), sRa a, sQ a, sRs [b, c, d], sV (.int .i64 3), sRa b, sQ b, sZ (rcmp b a), sBq (decide (rcmp b a = -1)), sQ (min a b), sRa c, sQ c, sZ (rcmp c (min a b)), sBq (decide (rcmp c (min a b) = -1)), sQ (min (min a b) c), sRa d, sQ d, sZ (rcmp d (min (min a b) c)), sBq (decide (rcmp d (min (min a b) c) = -1)), sQ (min (min (min a b) c) d), sI (min (min (min a b) c) d).num, sI (dn (min (min (min a b) c) d))] [] [some [[.c 1 0, .c 1 1, .c 1 2, .c 1 3]], some [[.c 1 0, .c 1 1, .c 1 2, .c 1 3]], some [[.c 1 0, .c 1 1, .c 1 2, .c 1 3]]] (.cons Ha (.cons rfl .nil)) (rs := [(co 2 (.call ⟨.builtin .len, #[(.tmp 8)], #[107]⟩) 3 [on 0] [0, 1] [], []), (co 3 (.indexAddr 107 (.tmp 12) (.const (.int .i64 0))) 0 [on 0, .v false [.lit (.int .i64 0)]] [0, 1, 2] [], []), (co 4 (.load 31 (.tmp 13)) 31 [on 3] [0, 1, 2, 3] [], []), (co 5 (.slice 107 (.tmp 15) (some (.const (.int .i64 1))) none none) 107 [on 0, .v false [.lit (.int .i64 1)]] [0, 1, 2, 3, 4] [], []), (co 6 (.call ⟨.builtin .len, #[(.tmp 16)], #[107]⟩) 3 [on 5] [0, 1, 2, 3, 4, 5] [], []), (co 7 (.indexAddr 107 (.tmp 16) (.tmp 18)) 0 [on 5, .v false [.lit (.int .i64 0)]] [0, 1, 2, 3, 4, 5, 6] [], []), (co 8 (.load 31 (.tmp 20)) 31 [on 7] [0, 1, 2, 3, 4, 5, 6, 7] [], []), (cl 9 33 [ag 4 8, ag 4 4], []), (co 10 (.binOp .eql 3 (.tmp 24) (.tmp 25) 3) 4 [on 9, .v false [.lit (.int .i64 (-1))]] [0, 1, 2, 3, 4, 5, 6, 7, 8, 9] [], []), (co 12 (.indexAddr 107 (.tmp 16) (.tmp 18)) 0 [on 5, .v false [.lit (.int .i64 1)]] [0, 1, 2, 3, 4, 5, 6, 7, 8, 9, 10, 11] [], []), (co 13 (.load 31 (.tmp 20)) 31 [on 12] [0, 1, 2, 3, 4, 5, 6, 7, 8, 9, 10, 11, 12] [], []), (cl 14 33 [ag 4 13, ag 4 11], []), (co 15 (.binOp .eql 3 (.tmp 24) (.tmp 25) 3) 4 [on 14, .v false [.lit (.int .i64 (-1))]] [0, 1, 2, 3, 4, 5, 6, 7, 8, 9, 10, 11, 12, 13, 14] [], []), (co 17 (.indexAddr 107 (.tmp 16) (.tmp 18)) 0 [on 5, .v false [.lit (.int .i64 2)]] [0, 1, 2, 3, 4, 5, 6, 7, 8, 9, 10, 11, 12, 13, 14, 15, 16] [], []), (co 18 (.load 31 (.tmp 20)) 31 [on 17] [0, 1, 2, 3, 4, 5, 6, 7, 8, 9, 10, 11, 12, 13, 14, 15, 16, 17] [], []), (cl 19 33 [ag 4 18, ag 4 16], []), (co 20 (.binOp .eql 3 (.tmp 24) (.tmp 25) 3) 4 [on 19, .v false [.lit (.int .i64 (-1))]] [0, 1, 2, 3, 4, 5, 6, 7, 8, 9, 10, 11, 12, 13, 14, 15, 16, 17, 18, 19] [], []), (cl 22 76 [ag 2 21], []), (cl 23 76 [.v true [.an 21 2, .an 21 3]], [])]) (js := [.test 10 0 (List.range 11) [], .meet [(11, ag 4 8)] (List.range 11) [(10, 0, true)], .meet [(11, ag 4 4)] (List.range 11) [(10, 0, false)], .test 15 0 (List.range 16) [], .meet [(16, ag 4 13)] (List.range 16) [(15, 0, true)], .meet [(16, ag 4 11)] (List.range 16) [(15, 0, false)], .test 20 0 (List.range 21) [], .meet [(21, ag 4 18)] (List.range 21) [(20, 0, true)], .meet [(21, ag 4 16)] (List.range 21) [(20, 0, false)]]) (outs := [⟨.v true [.an 22 0, .an 22 1, .an 23 0, .an 23 1], (List.range 24), [], [], []⟩]) (nc := 24) (by kernel_rfl)
      ⟨fun σ W g h hp hb => fun ρ o ho _ hv => ⟨_, rs_len (h 0 rfl) ho (one_val hv) ⟨31, by kernel_rfl⟩, rfl⟩,
      fun σ W g h hp hb => fun ρ o ho _ hv => by
        obtain ⟨u, h1, h2, h3⟩ := rs_at (h 0 rfl) ho (two_vals hv).1 0 (by simp) (two_vals hv).2
        exact ⟨u, h1, h2, fun q hq => ⟨0, rfl, h3 q hq⟩⟩,
      fun σ W g h hp hb => fun ρ o ho _ hv => rs_load (h 3 rfl) ho (one_val hv),
      fun σ W g h hp hb => fun ρ o ho _ hv => by
        obtain ⟨u, h1, h2, h3⟩ := rs_tail (h 0 rfl) ho (two_vals hv).1 (two_vals hv).2 (by simp)
        exact ⟨u, h1, h2, fun q hq => ⟨0, rfl, h3 q hq⟩⟩,
      fun σ W g h hp hb => fun ρ o ho _ hv => ⟨_, rs_len (h 5 rfl) ho (one_val hv) ⟨31, by kernel_rfl⟩, rfl⟩,
      fun σ W g h hp hb => fun ρ o ho _ hv => by
        obtain ⟨u, h1, h2, h3⟩ := rs_at (h 5 rfl) ho (two_vals hv).1 0 (by simp) (two_vals hv).2
        exact ⟨u, h1, h2, fun q hq => ⟨5, rfl, h3 q hq⟩⟩,
      fun σ W g h hp hb => fun ρ o ho _ hv => rs_load (h 7 rfl) ho (one_val hv),
      fun σ W g h hp hb => toZ (FCmp_any W _ _ b a K (h 8 rfl) (h 4 rfl) (by omega) b_b.1 b_b.2 b_a.1 b_a.2) rfl,
      fun σ W g h hp hb => fun ρ o ho _ hv => ⟨_, eqq_told ho ((two_vals hv).1.trans (h 9 rfl)) (two_vals hv).2, rfl⟩,
      fun σ W g h hp hb => fun ρ o ho _ hv => by
        obtain ⟨u, h1, h2, h3⟩ := rs_at (h 5 rfl) ho (two_vals hv).1 1 (by simp) (two_vals hv).2
        exact ⟨u, h1, h2, fun q hq => ⟨5, rfl, h3 q hq⟩⟩,
      fun σ W g h hp hb => fun ρ o ho _ hv => rs_load (h 12 rfl) ho (one_val hv),
      fun σ W g h hp hb => toZ (FCmp_any W _ _ c (min a b) K (h 13 rfl) (h 11 rfl) (by omega) b_c.1 b_c.2 bm1.1 bm1.2) rfl,
      fun σ W g h hp hb => fun ρ o ho _ hv => ⟨_, eqq_told ho ((two_vals hv).1.trans (h 14 rfl)) (two_vals hv).2, rfl⟩,
      fun σ W g h hp hb => fun ρ o ho _ hv => by
        obtain ⟨u, h1, h2, h3⟩ := rs_at (h 5 rfl) ho (two_vals hv).1 2 (by simp) (two_vals hv).2
        exact ⟨u, h1, h2, fun q hq => ⟨5, rfl, h3 q hq⟩⟩,
      fun σ W g h hp hb => fun ρ o ho _ hv => rs_load (h 17 rfl) ho (one_val hv),
      fun σ W g h hp hb => toZ (FCmp_any W _ _ d (min (min a b) c) K (h 18 rfl) (h 16 rfl) (by omega) b_d.1 b_d.2 bm2.1 bm2.2) rfl,
      fun σ W g h hp hb => fun ρ o ho _ hv => ⟨_, eqq_told ho ((two_vals hv).1.trans (h 19 rfl)) (two_vals hv).2, rfl⟩,
      fun σ W g h hp hb => FFresh_any W _ _ K (qn (h 21 rfl)) (by omega) bm3.1,
      fun σ W g h hp hb => FFresh_any W _ _ K (qd (h 21 rfl)) (by omega) (dn_bd bm3.2),
      trivial⟩
      ⟨fun σ W g h hp => ⟨_, h 10 rfl⟩,
      fun σ W g h hp => ⟨RatV.eq (min_t (bq (h 10 rfl) (hp 10 0 true rfl))) (h 8 rfl), trivial⟩,
      fun σ W g h hp => ⟨RatV.eq (min_f (bq (h 10 rfl) (hp 10 0 false rfl))) (h 4 rfl), trivial⟩,
      fun σ W g h hp => ⟨_, h 15 rfl⟩,
      fun σ W g h hp => ⟨RatV.eq (min_t (bq (h 15 rfl) (hp 15 0 true rfl))) (h 13 rfl), trivial⟩,
      fun σ W g h hp => ⟨RatV.eq (min_f (bq (h 15 rfl) (hp 15 0 false rfl))) (h 11 rfl), trivial⟩,
      fun σ W g h hp => ⟨_, h 20 rfl⟩,
      fun σ W g h hp => ⟨RatV.eq (min_t (bq (h 20 rfl) (hp 20 0 true rfl))) (h 18 rfl), trivial⟩,
      fun σ W g h hp => ⟨RatV.eq (min_f (bq (h 20 rfl) (hp 20 0 false rfl))) (h 16 rfl), trivial⟩,
      trivial⟩
      ⟨fun τ W g h hp hb => ⟨_, rfl, mkq (h 22 rfl) (h 23 rfl), g⟩,
      trivial⟩
theorem FOutHigh (w : World) (va : Value) (a b c d : Rat) (K : Nat) (Ha : RsV w va [a, b, c, d]) (hK : 1 ≤ K ∧ K ≤ 100000) (b_a : Bn K a) (b_b : Bn K b) (b_c : Bn K c) (b_d : Bn K d) :
    Calls Tryz.prog 111 #[va, .int .i64 (1)] w (RetRat w (max (max (max a b) c) d)) := by
  have bm1 := b_a.max b_b
  have bm2 := bm1.max b_c
  have bm3 := bm2.max b_d
  refine execm_calls mixed Tryz.func111 [sRs [a, b, c, d], sV (.int .i64 (1))] [sV (.int .i64 4), sRa a, sQ a, sRs [b, c, d], sV (.int .i64 3), sRa b, sQ b, sZ (rcmp b a), sBq (decide (rcmp b a = 1)), sQ (max a b), sRa c, sQ c, sZ (rcmp c (max a b)), sBq (decide (rcmp c (max a b) = 1)), sQ (max (max a b) c), sRa d, sQ d, sZ (rcmp d (max (max a b) c)), sBq (decide (rcmp d (max (max a b) c) = 1)), sQ (max (max (max a b) c) d), sI (max (max (max a b) c) d).num, sI (dn (max (max (max a b) c) d))] [] [some [[.c 1 0, .c 1 1, .c 1 2, .c 1 3]], some [[.c 1 0, .c 1 1, .c 1 2, .c 1 3]], some [[.c 1 0, .c 1 1, .c 1 2, .c 1 3]]] (.cons Ha (.cons rfl .nil)) (rs := [(co 2 (.call ⟨.builtin .len, #[(.tmp 8)], #[107]⟩) 3 [on 0] [0, 1] [], []), (co 3 (.indexAddr 107 (.tmp 12) (.const (.int .i64 0))) 0 [on 0, .v false [.lit (.int .i64 0)]] [0, 1, 2] [], []), (co 4 (.load 31 (.tmp 13)) 31 [on 3] [0, 1, 2, 3] [], []), (co 5 (.slice 107 (.tmp 15) (some (.const (.int .i64 1))) none none) 107 [on 0, .v false [.lit (.int .i64 1)]] [0, 1, 2, 3, 4] [], []), (co 6 (.call ⟨.builtin .len, #[(.tmp 16)], #[107]⟩) 3 [on 5] [0, 1, 2, 3, 4, 5] [], []), (co 7 (.indexAddr 107 (.tmp 16) (.tmp 18)) 0 [on 5, .v false [.lit (.int .i64 0)]] [0, 1, 2, 3, 4, 5, 6] [], []), (co 8 (.load 31 (.tmp 20)) 31 [on 7] [0, 1, 2, 3, 4, 5, 6, 7] [], []), (cl 9 33 [ag 4 8, ag 4 4], []), (co 10 (.binOp .eql 3 (.tmp 24) (.tmp 25) 3) 4 [on 9, .v false [.lit (.int .i64 1)]] [0, 1, 2, 3, 4, 5, 6, 7, 8, 9] [], []), (co 12 (.indexAddr 107 (.tmp 16) (.tmp 18)) 0 [on 5, .v false [.lit (.int .i64 1)]] [0, 1, 2, 3, 4, 5, 6, 7, 8, 9, 10, 11] [], []), (co 13 (.load 31 (.tmp 20)) 31 [on 12] [0, 1, 2, 3, 4, 5, 6, 7, 8, 9, 10, 11, 12] [], []), (cl 14 33 [ag 4 13, ag 4 11], []), (co 15 (.binOp .eql 3 (.tmp 24) (.tmp 25) 3) 4 [on 14, .v false [.lit (.int .i64 1)]] [0, 1, 2, 3, 4, 5, 6, 7, 8, 9, 10, 11, 12, 13, 14] [], []), (co 17 (.indexAddr 107 (.tmp 16) (.tmp 18)) 0 [on 5, .v false [.lit (.int .i64 2)]] [0, 1, 2, 3, 4, 5, 6, 7, 8, 9, 10, 11, 12, 13, 14, 15, 16] [], []), (co 18 (.load 31 (.tmp 20)) 31 [on 17] [0, 1, 2, 3, 4, 5, 6, 7, 8, 9, 10, 11, 12, 13, 14, 15, 16, 17] [], []), (cl 19 33 [ag 4 18, ag 4 16], []), (co 20 (.binOp .eql 3 (.tmp 24) (.tmp 25) 3) 4 [on 19, .v false [.lit (.int .i64 1)]] [0, 1, 2, 3, 4, 5, 6, 7, 8, 9, 10, 11, 12, 13, 14, 15, 16, 17, 18, 19] [], []), (cl 22 76 [ag 2 21], []), (cl 23 76 [.v true [.an 21 2, .an 21 3]], [])]) (js := [.test 10 0 (List.range 11) [], .meet [(11, ag 4 8)] (List.range 11) [(10, 0, true)], .meet [(11, ag 4 4)] (List.range 11) [(10, 0, false)], .test 15 0 (List.range 16) [], .meet [(16, ag 4 13)] (List.range 16) [(15, 0, true)], .meet [(16, ag 4 11)] (List.range 16) [(15, 0, false)], .test 20 0 (List.range 21) [], .meet [(21, ag 4 18)] (List.range 21) [(20, 0, true)], .meet [(21, ag 4 16)] (List.range 21) [(20, 0, false)]]) (outs := [⟨.v true [.an 22 0, .an 22 1, .an 23 0, .an 23 1], (List.range 24), [], [], []⟩]) (nc := 24) (by kernel_rfl)
      ⟨fun σ W g h hp hb => fun ρ o ho _ hv => ⟨_, rs_len (h 0 rfl) ho (one_val hv) ⟨31, by kernel_rfl⟩, rfl⟩,
      fun σ W g h hp hb => fun ρ o ho _ hv => by
        obtain ⟨u, h1, h2, h3⟩ := rs_at (h 0 rfl) ho (two_vals hv).1 0 (by simp) (two_vals hv).2
        exact ⟨u, h1, h2, fun q hq => ⟨0, rfl, h3 q hq⟩⟩,
      fun σ W g h hp hb => fun ρ o ho _ hv => rs_load (h 3 rfl) ho (one_val hv),
      fun σ W g h hp hb => fun ρ o ho _ hv => by
        obtain ⟨u, h1, h2, h3⟩ := rs_tail (h 0 rfl) ho (two_vals hv).1 (two_vals hv).2 (by simp)
        exact ⟨u, h1, h2, fun q hq => ⟨0, rfl, h3 q hq⟩⟩,
      fun σ W g h hp hb => fun ρ o ho _ hv => ⟨_, rs_len (h 5 rfl) ho (one_val hv) ⟨31, by kernel_rfl⟩, rfl⟩,
      fun σ W g h hp hb => fun ρ o ho _ hv => by
        obtain ⟨u, h1, h2, h3⟩ := rs_at (h 5 rfl) ho (two_vals hv).1 0 (by simp) (two_vals hv).2
        exact ⟨u, h1, h2, fun q hq => ⟨5, rfl, h3 q hq⟩⟩,
      fun σ W g h hp hb => fun ρ o ho _ hv => rs_load (h 7 rfl) ho (one_val hv),
      fun σ W g h hp hb => toZ (FCmp_any W _ _ b a K (h 8 rfl) (h 4 rfl) (by omega) b_b.1 b_b.2 b_a.1 b_a.2) rfl,
      fun σ W g h hp hb => fun ρ o ho _ hv => ⟨_, eqq_told ho ((two_vals hv).1.trans (h 9 rfl)) (two_vals hv).2, rfl⟩,
      fun σ W g h hp hb => fun ρ o ho _ hv => by
        obtain ⟨u, h1, h2, h3⟩ := rs_at (h 5 rfl) ho (two_vals hv).1 1 (by simp) (two_vals hv).2
        exact ⟨u, h1, h2, fun q hq => ⟨5, rfl, h3 q hq⟩⟩,
      fun σ W g h hp hb => fun ρ o ho _ hv => rs_load (h 12 rfl) ho (one_val hv),
      fun σ W g h hp hb => toZ (FCmp_any W _ _ c (max a b) K (h 13 rfl) (h 11 rfl) (by omega) b_c.1 b_c.2 bm1.1 bm1.2) rfl,
      fun σ W g h hp hb => fun ρ o ho _ hv => ⟨_, eqq_told ho ((two_vals hv).1.trans (h 14 rfl)) (two_vals hv).2, rfl⟩,
      fun σ W g h hp hb => fun ρ o ho _ hv => by
        obtain ⟨u, h1, h2, h3⟩ := rs_at (h 5 rfl) ho (two_vals hv).1 2 (by simp) (two_vals hv).2
        exact ⟨u, h1, h2, fun q hq => ⟨5, rfl, h3 q hq⟩⟩,
      fun σ W g h hp hb => fun ρ o ho _ hv => rs_load (h 17 rfl) ho (one_val hv),
      fun σ W g h hp hb => toZ (FCmp_any W _ _ d (max (max a b) c) K (h 18 rfl) (h 16 rfl) (by omega) b_d.1 b_d.2 bm2.1 bm2.2) rfl,
      fun σ W g h hp hb => fun ρ o ho _ hv => ⟨_, eqq_told ho ((two_vals hv).1.trans (h 19 rfl)) (two_vals hv).2, rfl⟩,
      fun σ W g h hp hb => FFresh_any W _ _ K (qn (h 21 rfl)) (by omega) bm3.1,
      fun σ W g h hp hb => FFresh_any W _ _ K (qd (h 21 rfl)) (by omega) (dn_bd bm3.2),
      trivial⟩
      ⟨fun σ W g h hp => ⟨_, h 10 rfl⟩,
      fun σ W g h hp => ⟨RatV.eq (max_t (bq (h 10 rfl) (hp 10 0 true rfl))) (h 8 rfl), trivial⟩,
      fun σ W g h hp => ⟨RatV.eq (max_f (bq (h 10 rfl) (hp 10 0 false rfl))) (h 4 rfl), trivial⟩,
      fun σ W g h hp => ⟨_, h 15 rfl⟩,
      fun σ W g h hp => ⟨RatV.eq (max_t (bq (h 15 rfl) (hp 15 0 true rfl))) (h 13 rfl), trivial⟩,
      fun σ W g h hp => ⟨RatV.eq (max_f (bq (h 15 rfl) (hp 15 0 false rfl))) (h 11 rfl), trivial⟩,
      fun σ W g h hp => ⟨_, h 20 rfl⟩,
      fun σ W g h hp => ⟨RatV.eq (max_t (bq (h 20 rfl) (hp 20 0 true rfl))) (h 18 rfl), trivial⟩,
      fun σ W g h hp => ⟨RatV.eq (max_f (bq (h 20 rfl) (hp 20 0 false rfl))) (h 16 rfl), trivial⟩,
      trivial⟩
      ⟨fun τ W g h hp hb => ⟨_, rfl, mkq (h 22 rfl) (h 23 rfl), g⟩,
      trivial⟩
theorem FLeast4_any (w : World) (va : Value) (a b c d : Rat) (K : Nat) (Ha : RsV w va [a, b, c, d]) (hK : 1 ≤ K ∧ K ≤ 100000) (b_a : Bn K a) (b_b : Bn K b) (b_c : Bn K c) (b_d : Bn K d) :
    Calls Tryz.prog 69 #[va] w (RetRat w (min (min (min a b) c) d)) := by
  refine exec_calls mixed Tryz.func69 [sRs [a, b, c, d]] [sQ (min (min (min a b) c) d)] (.cons Ha .nil) (rs := [cl 1 111 [on 0, .v false [.lit (.int .i64 (-1))]]]) (out := ag 4 1) (nc := 2) (by kernel_rfl)
      ⟨fun σ W g h hb => FOutLow W _ a b c d K (h 0 rfl) hK b_a b_b b_c b_d,
      trivial⟩ fun τ W g h => ⟨_, rfl, h 1 rfl, g⟩
theorem FMost4_any (w : World) (va : Value) (a b c d : Rat) (K : Nat) (Ha : RsV w va [a, b, c, d]) (hK : 1 ≤ K ∧ K ≤ 100000) (b_a : Bn K a) (b_b : Bn K b) (b_c : Bn K c) (b_d : Bn K d) :
    Calls Tryz.prog 72 #[va] w (RetRat w (max (max (max a b) c) d)) := by
  refine exec_calls mixed Tryz.func72 [sRs [a, b, c, d]] [sQ (max (max (max a b) c) d)] (.cons Ha .nil) (rs := [cl 1 111 [on 0, .v false [.lit (.int .i64 1)]]]) (out := ag 4 1) (nc := 2) (by kernel_rfl)
      ⟨fun σ W g h hb => FOutHigh W _ a b c d K (h 0 rfl) hK b_a b_b b_c b_d,
      trivial⟩ fun τ W g h => ⟨_, rfl, h 1 rfl, g⟩
end Go.Proofs.YtoaepibannfbdaaGreatDoor
namespace Go.Proofs.YtoaepibannfbdaaGreatDoor
open Go.RowKit Mat Ex
set_option linter.unusedVariables false
set_option linter.unusedSimpArgs false
set_option maxRecDepth 100000
theorem info_k (t : TypeId) (n : Nat) (h : (Tryz.prog.info? t).any (fun i => decide (i.size = n) && decide (i.bytes ≤ 1000000) && match i.zero with | some z => decide (z.cells.size = n) | none => false) = true) :
    ∃ i z, Tryz.prog.info? t = some i ∧ i.zero = some z ∧ i.size = n ∧ i.bytes ≤ 1000000 ∧ z.cells.size = n := by
  cases hi : Tryz.prog.info? t with
  | none => rw [hi] at h; cases h
  | some i =>
    rw [hi] at h
    simp only [Option.any_some, Bool.and_eq_true, decide_eq_true_eq] at h
    cases hz : i.zero with
    | none => rw [hz] at h; exact absurd h.2 (by simp)
    | some z => rw [hz] at h; exact ⟨i, z, rfl, hz, h.1.1, h.1.2, by simpa using h.2⟩
theorem app_step {α : Type} (kd : Kind α) {t : TypeId} (ht : Tryz.prog.underlying t = some (.slice kd.T)) (hi : ∃ i z, Tryz.prog.info? kd.T = some i ∧ i.zero = some z ∧ i.size = kd.z ∧ i.bytes ≤ 1000000 ∧ z.cells.size = kd.z) (hsz : 0 < kd.z)
    {W : World} {base : Nat} {v : Value} {l : List α} (h : OwV kd base W v l) {x : α} {q c : Nat} {cs : List Value} (hc : cs.length = kd.z) (hq : W.heap[q]? = some (.cells cs.toArray kd.T (0, 0))) (hx : kd.A W cs x)
    (h1 : ∀ u ∈ cs, u.oneCell' = true) (hn : l.length + 1 ≤ 1000000) (hbase : base ≤ W.heap.size) {ρ : Operand → Value} {o : Oper} {a b : Operand} (ho : o.op = .call ⟨.builtin .append, #[a, b], #[t, t]⟩) (ha : ρ a = v) (hbv : ρ b = .slice (some ⟨q, 0, none⟩) 1 c) :
    ∃ v' W', (execOp ρ o).run Tryz.prog W = .ok (.value v') W' ∧ OwV kd base W' v' (l ++ [x]) ∧ OwV kd base W' v l ∧ AppW base v v' W W' ∧ Keeps limbT W W' ∧ Older kd base W W' v l := by
  obtain ⟨i, z, i1, i2, i3, i4, i5⟩ := hi
  exact run_append_ow kd ht i1 i2 i3 rfl i5 hsz h hc hq hx h1 hn i4 hbase ho ha hbv
theorem appS {α : Type} (kd : Kind α) {specs : List Sp} {w W : World} {av : List Nat} {σ : Env} {n m0 : Nat} {v : Value} {l : List α} {x : α} {run : Value → World → Prop} (g : w.grownBy W none) (hm0 : av.elem m0 = true) (hs0 : sp specs m0 = sOw kd w.heap.size l)
    (hv0 : σ.an m0 0 = v) (hsn : sp specs n = sOw kd w.heap.size (l ++ [x])) (h : OwV kd w.heap.size W v l)
    (hr : ∃ v' W', run v' W' ∧ OwV kd w.heap.size W' v' (l ++ [x]) ∧ OwV kd w.heap.size W' v l ∧ AppW w.heap.size v v' W W' ∧ Keeps limbT W W' ∧ Older kd w.heap.size W W' v l)
    (hrows : ∀ m, av.elem m = true → m ≠ m0 → (sp specs m).row = true → ((sp specs m).F (((sp specs m).sh.sv m).den σ) W ∧ ∀ q, (sp specs m).fp (((sp specs m).sh.sv m).den σ) W q → v.ownBlock ≠ some q) ∨ (∃ l', sp specs m = sOw kd w.heap.size l' ∧ l'.length ≤ l.length ∧ OwV kd w.heap.size W (σ.an m 0) l')) :
    AppS specs w av σ W n run := by
  obtain ⟨v', W', hrun, o1, o2, ⟨hg, hv'⟩, hkp, hod⟩ := hr
  have hden : ((sp specs m0).sh.sv m0).den σ = v := by rw [hs0]; exact hv0
  have hold : ∀ q, v.ownBlock = some q → OldL specs av σ W q := fun q hq => ⟨m0, hm0, by rw [hs0]; show (σ.an m0 0).ownBlock = some q; rw [hv0]; exact hq⟩
  refine ⟨v', W', hrun, ⟨⟨hg.os.trans g.os, hg.tape.trans g.tape, hg.output.trans g.output, Nat.le_trans g.size hg.size, fun i hi hne => ?_⟩, hg.size, fun q hq ho => hg.block q hq fun e => ho (hold q e.symm)⟩, hkp, by rw [hsn]; exact o1, fun q hq => ?_, fun m hm hr => ?_⟩
  · rw [hg.block i (Nat.lt_of_lt_of_le hi g.size) fun e => ?_, g.block i hi hne]
    have := (h.inb e.symm).2.1; omega
  · rw [hsn] at hq
    have hq : v'.ownBlock = some q := hq
    rcases hv' with e | e
    · exact .inr (hold q (e ▸ hq))
    · rw [e] at hq; cases hq; exact .inl (Nat.le_refl _)
  · by_cases hm0' : m = m0
    · subst hm0'
      refine ⟨by rw [hden, hs0]; exact o2, fun q hq => ?_⟩
      rw [hden, hs0] at hq ⊢; exact hq
    · rcases hrows m hm hm0' hr with ⟨hF, hne⟩ | ⟨l', hs', hl', ho'⟩
      rotate_left
      · by_cases hb : (σ.an m 0).ownBlock = v.ownBlock
        · refine ⟨by rw [hs']; exact hod _ _ ho' hl' hb, fun q hq => ?_⟩
          rw [hs'] at hq ⊢; exact hq
        · rw [hs']
          refine (sOw kd w.heap.size l').lasts _ W W' hkp (fun q hq => hg.block q (ho'.inb hq).1 fun e => hb ?_) ho'
          have hq : (σ.an m 0).ownBlock = some q := hq
          rw [hq]; exact e.symm ▸ rfl
      refine (sp specs m).lasts _ W W' hkp (fun q hq => hg.block q ((sp specs m).inb _ _ hF q hq) fun e => hne q hq e.symm) hF
theorem appS0 {α : Type} (kd : Kind α) {specs : List Sp} {w W : World} {av : List Nat} {σ : Env} {n : Nat} {x : α} {run : Value → World → Prop} (g : w.grownBy W none) (hsn : sp specs n = sOw kd w.heap.size [x])
    (hr : ∃ v' W', run v' W' ∧ OwV kd w.heap.size W' v' ([] ++ [x]) ∧ OwV kd w.heap.size W' (.slice none 0 0) ([] : List α) ∧ AppW w.heap.size (.slice none 0 0) v' W W' ∧ Keeps limbT W W' ∧ Older kd w.heap.size W W' (.slice none 0 0) ([] : List α))
    (hrows : ∀ m, av.elem m = true → (sp specs m).row = true → (sp specs m).F (((sp specs m).sh.sv m).den σ) W) :
    AppS specs w av σ W n run := by
  obtain ⟨v', W', hrun, o1, o2, ⟨hg, hv'⟩, hkp, hod⟩ := hr
  have hg : W.grownBy W' none := hg
  refine ⟨v', W', hrun, ⟨⟨hg.os.trans g.os, hg.tape.trans g.tape, hg.output.trans g.output, Nat.le_trans g.size hg.size, fun i hi hne => ?_⟩, hg.size, fun q hq ho => hg.block q hq fun e => by cases e⟩, hkp, by rw [hsn]; exact o1, fun q hq => ?_, fun m hm hr => ?_⟩
  · rw [hg.block i (Nat.lt_of_lt_of_le hi g.size) (fun e => by cases e), g.block i hi hne]
  · rw [hsn] at hq
    have hq : v'.ownBlock = some q := hq
    rcases hv' with e | e
    · rw [hq] at e; cases e
    · rw [e] at hq; cases hq; exact .inl (Nat.le_refl _)
  · exact (sp specs m).lasts _ W W' hkp (fun q hq => hg.block q ((sp specs m).inb _ _ (hrows m hm hr) q hq) fun e => by cases e) (hrows m hm hr)
end Go.Proofs.YtoaepibannfbdaaGreatDoor
namespace Go.Proofs.YtoaepibannfbdaaGreatDoor
open Go.RowKit Mat Ex PM
set_option linter.unusedVariables false
set_option linter.unusedSimpArgs false
set_option maxRecDepth 100000
def lat (x y d : Int) : Pq := rp ⟨x, y, und d⟩
theorem lat_b {x y d : Int} (h1 : -9223372036854775808 ≤ x) (h2 : x ≤ 9223372036854775807) (h3 : -9223372036854775808 ≤ y) (h4 : y ≤ 9223372036854775807) : Bp 1 (lat x y d) := by
  have h := und_pos d
  have hu : (und d).natAbs < B ^ 1 := b1int (und_b d).1 (und_b d).2
  exact ⟨⟨rdiv_nb (b1int h1 h2), rdiv_db hu (Int.ne_of_gt h.1)⟩, ⟨rdiv_nb (b1int h3 h4), rdiv_db hu (Int.ne_of_gt h.1)⟩⟩
theorem arg2 {P : Program} {f : FuncId} {a b c d : Value} {w : World} {R : Ending → World → Prop} (h : a = b) (h2 : c = d) (k : Calls P f #[b, d] w R) : Calls P f #[a, c] w R := by subst h; subst h2; exact k
theorem seq_told {P : Program} {ρ : Operand → Value} {o : Oper} {t t' : TypeId} {x y : Operand} {s u : ByteArray} {W : World} (ho : o.op = .binOp .eql t x y t') (hx : ρ x = .string s) (hy : ρ y = .string u) (h : s = u) : (execOp ρ o).run P W = .ok (.value (.bool true)) W := by
  have hg : eqGuard .eql t x y (.string s) (.string u) = pure () := by unfold eqGuard; rfl
  have hb : binOp .eql t (.string s) (.string u) = pure (.bool true) := by
    subst h
    have : binOp .eql t (.string s) (.string s) = Op.stringOp .eql s s := by simp [binOp]
    rw [this]; simp [Op.stringOp]
  simp only [execOp, ho, hx, hy, hg, hb, Sem.run_bind, Sem.run_pure, Result.andThen_ok]
def sSH (p q : Pq) (a b : H3) : Sp := .of (.tup [(none, 17), (none, 13)]) (fun v W => ∃ u t, v = .tuple #[u, t] ∧ SgV W u p q ∧ HsV W t a b) (fun v W h => by
  obtain ⟨u, t, rfl, ⟨_, _, _, _, _, _, _, _, _, _, _, _, _, _, _, _, rfl, h1, h2⟩, _, _, _, _, _, _, _, _, _, _, _, _, rfl, h3, h4⟩ := h
  have i1 := h1.one; have i2 := h2.one; have i3 := h3.one; have i4 := h4.one
  refine fits2 (u := .bool true) (cs := [_, _, _, _, _, _, _, _, _, _, _, _, _, _, _, _, _, _, _, _, _, _, _, _, _, _, _, _]) (fun x hx => ?_) rfl
  rcases List.mem_append.1 (show x ∈ ([_, _, _, _, _, _, _, _] ++ [_, _, _, _, _, _, _, _]) ++ ([_, _, _, _, _, _] ++ [_, _, _, _, _, _]) from hx) with hx | hx
  · rcases List.mem_append.1 hx with hx | hx
    · exact i1 x hx
    · exact i2 x hx
  · rcases List.mem_append.1 hx with hx | hx
    · exact i3 x hx
    · exact i4 x hx) (fun v W W' k h => by obtain ⟨u, t, e, h1, h2⟩ := h; exact ⟨u, t, e, h1.keeps k, h2.keeps k⟩)
theorem sh1 {p q : Pq} {a b : H3} {u v : Value} {W : World} : (sSH p q a b).F (.tuple #[u, v]) W → SgV W u p q := by rintro ⟨_, _, e, h, _⟩; cases e; exact h
def RetSH (w : World) (p q : Pq) (a b : H3) (e : Ending) (w' : World) : Prop := ∃ u v, e = .returned (.tuple #[u, v]) ∧ SgV w' u p q ∧ HsV w' v a b ∧ w.grownBy w' none
theorem toSH {P : Program} {f : FuncId} {args : Array Value} {W : World} {p q : Pq} {a b : H3} (h : Calls P f args W (RetSH W p q a b)) : Calls P f args W (Ret W (sSH p q a b).F) :=
  h.mono fun _ _ ⟨v, u, a, h1, h2, g⟩ => ⟨_, a, ⟨v, u, rfl, h1, h2⟩, g⟩
theorem LAt_any (w : World) (x y d : Int) (h1 : -9223372036854775808 ≤ x) (h2 : x ≤ 9223372036854775807) (h3 : -9223372036854775808 ≤ y) (h4 : y ≤ 9223372036854775807) (hTab : Tab w) :
    Calls Tryz.prog 9 #[.agg #[.int .i64 x, .int .i64 y, .int .i64 d]] w (RetPt w (lat x y d)) := by
  refine exec_calls mixed Tryz.func9 [sDt x y d] [sZ (und d), sQE (Rat.divInt x (und d)) 0, sZ (und d), sQE (Rat.divInt y (und d)) 0] (.cons rfl .nil) (rs := [cl 1 40 [ag 3 0], cl 2 39 [on 0, on 1], cl 3 40 [ag 3 0], cl 4 39 [.v false [.an 0 1], on 3]]) (out := .v true [.an 2 0, .an 2 1, .an 2 2, .an 2 3, .an 4 0, .an 4 1, .an 4 2, .an 4 3]) (nc := 5) (by kernel_rfl)
      ⟨fun σ W g h hb => argl (congrArg (fun v => [v]) (h 0 rfl)) (rHUnder_any W x y d) |>.mono fun _ _ ⟨a, g⟩ => ⟨_, a, rfl, g⟩,
      fun σ W g h hb => arg2 (dt1 (h 0 rfl)) (h 1 rfl) (toQE (FOf_any W x (und d) h1 h2 (und_b d).1 (und_b d).2 (hTab.kept g (by simp))) (by rw [if_neg (by have := und_pos d; omega)])),
      fun σ W g h hb => argl (congrArg (fun v => [v]) (h 0 rfl)) (rHUnder_any W x y d) |>.mono fun _ _ ⟨a, g⟩ => ⟨_, a, rfl, g⟩,
      fun σ W g h hb => arg2 (dt2 (h 0 rfl)) (h 3 rfl) (toQE (FOf_any W y (und d) h3 h4 (und_b d).1 (und_b d).2 (hTab.kept g (by simp))) (by rw [if_neg (by have := und_pos d; omega)])),
      trivial⟩ fun τ W g h => ⟨_, rfl, mkpt (qE (h 2 rfl)) (qE (h 4 rfl)), g⟩
end Go.Proofs.YtoaepibannfbdaaGreatDoor
namespace Go.Proofs.YtoaepibannfbdaaGreatDoor
open Go.RowKit Mat Ex PM
set_option linter.unusedVariables false
set_option linter.unusedSimpArgs false
set_option maxRecDepth 100000
theorem zt_4 : ZTextOf { data := #[52] } 4 := ⟨[52], dec_of (by decide +kernel), by decide +kernel, by decide +kernel⟩
theorem grid_b {x y : Int} (h1 : -9223372036854775808 ≤ x) (h2 : x ≤ 9223372036854775807) (h3 : -9223372036854775808 ≤ y) (h4 : y ≤ 9223372036854775807) : Bp 1 (gridP x y) := by
  have h1' : (1 : Nat) < B ^ 1 := by unfold B; decide
  exact ⟨⟨by show ((x : Rat)).num.natAbs < _; rw [Rat.num_intCast]; exact b1int h1 h2, by show ((x : Rat)).den < _; rw [Rat.den_intCast]; exact h1'⟩, ⟨by show ((y : Rat)).num.natAbs < _; rw [Rat.num_intCast]; exact b1int h3 h4, by show ((y : Rat)).den < _; rw [Rat.den_intCast]; exact h1'⟩⟩
theorem congr2 {a b c d : Value} (h : a = c) (h2 : b = d) : [Value.agg #[a, b]] = [Value.agg #[c, d]] := by rw [h, h2]
end Go.Proofs.YtoaepibannfbdaaGreatDoor
namespace Go.Proofs.YtoaepibannfbdaaGreatDoor
open Go.RowKit Mat Ex PM
set_option linter.unusedVariables false
set_option linter.unusedSimpArgs false
set_option maxRecDepth 100000
theorem congr3 {a b c d : Value} (h : a = c) (h2 : b = d) : [a, b] = [c, d] := by rw [h, h2]
end Go.Proofs.YtoaepibannfbdaaGreatDoor
namespace Go.Proofs.YtoaepibannfbdaaGreatDoor
open Go.RowKit Mat Ex PM
set_option linter.unusedVariables false
set_option linter.unusedSimpArgs false
set_option maxRecDepth 100000
def hun (n : Int) : Rat := Rat.divInt (IntKind.u64.wrap n % 101) 100
theorem hun_k (n : Int) : 0 ≤ IntKind.u64.wrap n % 101 ∧ IntKind.u64.wrap n % 101 ≤ 100 := by have := wrap_at n; omega
theorem hun_unit (n : Int) : 0 ≤ hun n ∧ hun n ≤ 1 := by
  have h := hun_k n
  unfold hun
  rw [q_of]
  generalize IntKind.u64.wrap n % 101 = k at *
  have h0 : (0 : Rat) ≤ (k : Rat) := by exact_mod_cast h.1
  have h1 : (k : Rat) ≤ ((100 : Int) : Rat) := by exact_mod_cast h.2
  have h2 : ((100 : Int) : Rat) = 100 := rfl
  rw [h2] at h1 ⊢
  have e : (k : Rat) / 100 * 100 = k := Rat.div_mul_cancel (by decide)
  generalize (k : Rat) / 100 = t at *
  constructor <;> grind
theorem hun_b (n : Int) : Bn 3 (hun n) := by
  have h := hun_k n
  unfold hun
  have h1 : (IntKind.u64.wrap n % 101).natAbs < B ^ 1 := b1int (by omega) (by omega)
  have h2 : (100 : Int).natAbs < B ^ 1 := b1int (by omega) (by omega)
  exact (show Bn 1 _ from ⟨rdiv_nb h1, rdiv_db h2 (by decide)⟩).mono (by omega)
theorem part_b {n : Int} {a b : Pq} (ha : Bp 1 a) (hb : Bp 1 b) : Bp 13 (pat a b (hun n)) := (Bp.onl ha hb (hun_b n) (by omega)).mono (by omega)
theorem arg1b {P : Program} {f : FuncId} {a b c : Value} {w : World} {R : Ending → World → Prop} (e : a = b) (h : Calls P f #[b, c] w R) : Calls P f #[a, c] w R := e ▸ h
end Go.Proofs.YtoaepibannfbdaaGreatDoor
namespace Go.Proofs.YtoaepibannfbdaaGreatDoor
open Go.RowKit Mat Ex PM
set_option linter.unusedVariables false
set_option linter.unusedSimpArgs false
set_option maxRecDepth 100000
def RetSg (w : World) (p q : Pq) (e : Ending) (w' : World) : Prop := ∃ v, e = .returned v ∧ SgV w' v p q ∧ w.grownBy w' none
theorem REnds_any (w : World) (va : Value) (a b : Pq) (Ha : SgV w va a b) :
    Calls Tryz.prog 68 #[va] w (RetSg w a b) := by
  refine exec_calls mixed Tryz.func68 [sSg a b] [] (.cons Ha .nil) (rs := []) (out := ag 16 0) (nc := 1) (by kernel_rfl)
      trivial fun τ W g h => ⟨_, rfl, h 0 rfl, g⟩
theorem pts_nofp {W : World} {v : Value} (h : PtsV W v []) (q : Nat) : ¬ fpS v q := by
  rintro ⟨o, n, c, rfl⟩
  obtain ⟨s, m, c', e, hl, _⟩ := h
  cases e; simp at hl
theorem rat_one4 {w : World} {a b c d : Value} {r : Rat} (h : RatV w (.agg #[a, b, c, d]) r) : ∀ u ∈ [a, b, c, d], u.oneCell' = true := by
  obtain ⟨i1, i2, i3, i4⟩ := h.one
  simp [i1, i2, i3, i4]
theorem RLeast_any (w : World) (va vb : Value) (a b c d : Pq) (K : Nat) (Ha : SgV w va a b) (Hb : SgV w vb c d) (hK : 1 ≤ K ∧ K ≤ 50) (ba : Bp K a) (bb : Bp K b) (bc : Bp K c) (bd : Bp K d) (hTab : Tab w) :
    Calls Tryz.prog 23 #[va, vb] w (RetRat w (leastP a b c d)) := by
  by_cases h1 : meetP a b c d = []
  · skip
    have hm := h1
    have e : min (min (min (toP c d a) (toP c d b)) (toP a b c)) (toP a b d) = leastP a b c d := by unfold leastP; rw [if_pos h1]; exact min_row _ _ _ _
    refine exec_calls mixed Tryz.func23 [sSg a b, sSg c d] [sPts 0 [], sV (.int .i64 0), sSg a b, sQ (toP c d a), sOw kRat w.heap.size [toP c d a], sQ (toP c d b), sOw kRat w.heap.size [toP c d a, toP c d b], sSg c d, sQ (toP a b c), sOw kRat w.heap.size [toP c d a, toP c d b, toP a b c], sQ (toP a b d), sOw kRat w.heap.size [toP c d a, toP c d b, toP a b c, toP a b d], sQ (leastP a b c d)] (.cons Ha (.cons Hb .nil)) (rs := [cl 2 44 [ag 16 0, ag 16 1], co 3 (.call ⟨.builtin .len, #[(.tmp 12)], #[23]⟩) 3 [on 2] [0, 1, 2] [], cl 4 68 [ag 16 0], cl 5 21 [ag 16 1, ag 8 4], cow 6 (.call ⟨.builtin .append, #[(.tmp 21), (.tmp 25)], #[107, 107]⟩) 107 [.v false [.lit (.slice none 0 0)], .v false [.row 4 0 1 1]] [0, 1, 2, 3, 4, 5] [(4, 31, [.an 5 0, .an 5 1, .an 5 2, .an 5 3])], cl 7 21 [ag 16 1, .v true [.an 4 8, .an 4 9, .an 4 10, .an 4 11, .an 4 12, .an 4 13, .an 4 14, .an 4 15]], cow 8 (.call ⟨.builtin .append, #[(.tmp 21), (.tmp 25)], #[107, 107]⟩) 107 [on 6, .v false [.row 6 0 1 1]] [0, 1, 2, 3, 4, 5, 6, 7] [(6, 31, [.an 7 0, .an 7 1, .an 7 2, .an 7 3])], cl 9 68 [ag 16 1], cl 10 21 [ag 16 0, ag 8 9], cow 11 (.call ⟨.builtin .append, #[(.tmp 33), (.tmp 37)], #[107, 107]⟩) 107 [on 8, .v false [.row 8 0 1 1]] [0, 1, 2, 3, 4, 5, 6, 7, 8, 9, 10] [(8, 31, [.an 10 0, .an 10 1, .an 10 2, .an 10 3])], cl 12 21 [ag 16 0, .v true [.an 9 8, .an 9 9, .an 9 10, .an 9 11, .an 9 12, .an 9 13, .an 9 14, .an 9 15]], cow 13 (.call ⟨.builtin .append, #[(.tmp 33), (.tmp 37)], #[107, 107]⟩) 107 [on 11, .v false [.row 10 0 1 1]] [0, 1, 2, 3, 4, 5, 6, 7, 8, 9, 10, 11, 12] [(10, 31, [.an 12 0, .an 12 1, .an 12 2, .an 12 3])], cl 14 69 [on 13]]) (out := ag 4 14) (nc := 15) (by kernel_rfl)
        ⟨fun σ W g h hb => toPts (Nat.zero_le _) (hm ▸ PMeet_any W _ _ a b c d K (h 0 rfl) (h 1 rfl) hK ba bb bc bd (hTab.kept g (by simp))),
        fun σ W g h hb => fun ρ o ho _ hv => ⟨_, pts_len (h 2 rfl).1 ho (one_val hv) ⟨33, by kernel_rfl⟩, rfl⟩,
        fun σ W g h hb => REnds_any W _ a b (h 0 rfl),
        fun σ W g h hb => RTo_any W _ _ c d a K (h 1 rfl) (sg1 (h 4 rfl)) (by omega) bc bd ba (hTab.kept g (by simp)),
        fun σ W g h hb => fun ρ o ho _ hv => appS0 kRat g rfl
            (app_step kRat (by kernel_rfl) (info_k _ _ (by kernel_rfl)) (by decide) (OwV.nil kRat _ _) (cs := [σ.an 5 0, σ.an 5 1, σ.an 5 2, σ.an 5 3]) rfl (hb.1 _ (.head _)) (h 5 rfl) (rat_one4 (h 5 rfl)) (by simp) g.size ho (two_vals hv).1 (two_vals hv).2)
            (fun m hm hr => by
            match m, hm, hr with
            | 0, _, hr => exact absurd hr Bool.false_ne_true
            | 1, _, hr => exact absurd hr Bool.false_ne_true
            | 2, _, _ => exact h 2 rfl
            | 3, _, hr => exact absurd hr Bool.false_ne_true
            | 4, _, hr => exact absurd hr Bool.false_ne_true
            | 5, _, hr => exact absurd hr Bool.false_ne_true
            | j + 6, hm, _ => exact absurd hm (by simp)),
        fun σ W g h hb => RTo_any W _ _ c d b K (h 1 rfl) (sg2 (h 4 rfl)) (by omega) bc bd bb (hTab.kept g (by simp)),
        fun σ W g h hb => fun ρ o ho _ hv => appS kRat g rfl (m0 := 6) rfl rfl rfl (h 6 rfl)
            (app_step kRat (by kernel_rfl) (info_k _ _ (by kernel_rfl)) (by decide) (h 6 rfl) (cs := [σ.an 7 0, σ.an 7 1, σ.an 7 2, σ.an 7 3]) rfl (hb.1 _ (.head _)) (h 7 rfl) (rat_one4 (h 7 rfl)) (by simp) g.size ho (two_vals hv).1 (two_vals hv).2)
            (fun m hm hne hr => by
            match m, hm, hne, hr with
            | 0, _, _, hr => exact absurd hr Bool.false_ne_true
            | 1, _, _, hr => exact absurd hr Bool.false_ne_true
            | 2, _, _, _ => exact .inl ⟨h 2 rfl, fun q hq => absurd hq (pts_nofp (h 2 rfl).1 q)⟩
            | 3, _, _, hr => exact absurd hr Bool.false_ne_true
            | 4, _, _, hr => exact absurd hr Bool.false_ne_true
            | 5, _, _, hr => exact absurd hr Bool.false_ne_true
            | 6, _, hne, _ => exact absurd rfl hne
            | 7, _, _, hr => exact absurd hr Bool.false_ne_true
            | j + 8, hm, _, _ => exact absurd hm (by simp)),
        fun σ W g h hb => REnds_any W _ c d (h 1 rfl),
        fun σ W g h hb => RTo_any W _ _ a b c K (h 0 rfl) (sg1 (h 9 rfl)) (by omega) ba bb bc (hTab.kept g (by simp)),
        fun σ W g h hb => fun ρ o ho _ hv => appS kRat g rfl (m0 := 8) rfl rfl rfl (h 8 rfl)
            (app_step kRat (by kernel_rfl) (info_k _ _ (by kernel_rfl)) (by decide) (h 8 rfl) (cs := [σ.an 10 0, σ.an 10 1, σ.an 10 2, σ.an 10 3]) rfl (hb.1 _ (.head _)) (h 10 rfl) (rat_one4 (h 10 rfl)) (by simp) g.size ho (two_vals hv).1 (two_vals hv).2)
            (fun m hm hne hr => by
            match m, hm, hne, hr with
            | 0, _, _, hr => exact absurd hr Bool.false_ne_true
            | 1, _, _, hr => exact absurd hr Bool.false_ne_true
            | 2, _, _, _ => exact .inl ⟨h 2 rfl, fun q hq => absurd hq (pts_nofp (h 2 rfl).1 q)⟩
            | 3, _, _, hr => exact absurd hr Bool.false_ne_true
            | 4, _, _, hr => exact absurd hr Bool.false_ne_true
            | 5, _, _, hr => exact absurd hr Bool.false_ne_true
            | 6, _, _, _ => exact .inr ⟨[toP c d a], rfl, by simp, h 6 rfl⟩
            | 7, _, _, hr => exact absurd hr Bool.false_ne_true
            | 8, _, hne, _ => exact absurd rfl hne
            | 9, _, _, hr => exact absurd hr Bool.false_ne_true
            | 10, _, _, hr => exact absurd hr Bool.false_ne_true
            | j + 11, hm, _, _ => exact absurd hm (by simp)),
        fun σ W g h hb => RTo_any W _ _ a b d K (h 0 rfl) (sg2 (h 9 rfl)) (by omega) ba bb bd (hTab.kept g (by simp)),
        fun σ W g h hb => fun ρ o ho _ hv => appS kRat g rfl (m0 := 11) rfl rfl rfl (h 11 rfl)
            (app_step kRat (by kernel_rfl) (info_k _ _ (by kernel_rfl)) (by decide) (h 11 rfl) (cs := [σ.an 12 0, σ.an 12 1, σ.an 12 2, σ.an 12 3]) rfl (hb.1 _ (.head _)) (h 12 rfl) (rat_one4 (h 12 rfl)) (by simp) g.size ho (two_vals hv).1 (two_vals hv).2)
            (fun m hm hne hr => by
            match m, hm, hne, hr with
            | 0, _, _, hr => exact absurd hr Bool.false_ne_true
            | 1, _, _, hr => exact absurd hr Bool.false_ne_true
            | 2, _, _, _ => exact .inl ⟨h 2 rfl, fun q hq => absurd hq (pts_nofp (h 2 rfl).1 q)⟩
            | 3, _, _, hr => exact absurd hr Bool.false_ne_true
            | 4, _, _, hr => exact absurd hr Bool.false_ne_true
            | 5, _, _, hr => exact absurd hr Bool.false_ne_true
            | 6, _, _, _ => exact .inr ⟨[toP c d a], rfl, by simp, h 6 rfl⟩
            | 7, _, _, hr => exact absurd hr Bool.false_ne_true
            | 8, _, _, _ => exact .inr ⟨[toP c d a, toP c d b], rfl, by simp, h 8 rfl⟩
            | 9, _, _, hr => exact absurd hr Bool.false_ne_true
            | 10, _, _, hr => exact absurd hr Bool.false_ne_true
            | 11, _, hne, _ => exact absurd rfl hne
            | 12, _, _, hr => exact absurd hr Bool.false_ne_true
            | j + 13, hm, _, _ => exact absurd hm (by simp)),
        fun σ W g h hb => e ▸ FLeast4_any W _ _ _ _ _ (32 * K + 20) (OwV.rs (h 13 rfl)) (by omega) (bc.to bd ba) (bc.to bd bb) (ba.to bb bc) (ba.to bb bd),
        trivial⟩ fun τ W g h => ⟨_, rfl, h 14 rfl, g⟩
  · skip
    have e : leastP a b c d = 0 := by unfold leastP; rw [if_neg h1]
    rw [e]
    refine exec_calls mixed Tryz.func23 [sSg a b, sSg c d] [sPts 0 (meetP a b c d), sZ ((meetP a b c d).length : Nat), sV (.bool true)] (.cons Ha (.cons Hb .nil)) (rs := [cl 2 44 [ag 16 0, ag 16 1], co 3 (.call ⟨.builtin .len, #[(.tmp 12)], #[23]⟩) 3 [on 2] [0, 1, 2] [], co 4 (.binOp .gtr 3 (.tmp 13) (.const (.int .i64 0)) 3) 4 [on 3, .v false [.lit (.int .i64 0)]] [0, 1, 2, 3] []]) (out := .v true [.lit (.slice none 0 0), .lit (.bool false), .lit (.slice none 0 0), .lit (.bool false)]) (nc := 5) (by kernel_rfl)
        ⟨fun σ W g h hb => toPts (Nat.zero_le _) (PMeet_any W _ _ a b c d K (h 0 rfl) (h 1 rfl) hK ba bb bc bd (hTab.kept g (by simp))),
        fun σ W g h hb => fun ρ o ho _ hv => ⟨_, pts_len (h 2 rfl).1 ho (one_val hv) ⟨33, by kernel_rfl⟩, rfl⟩,
        fun σ W g h hb => fun ρ o ho _ hv => ⟨_, gt_told true ho ((two_vals hv).1.trans (h 3 rfl)) (two_vals hv).2 (decide_eq_true (by have := List.length_pos_iff.2 h1; omega)), rfl⟩,
        trivial⟩ fun τ W g h => ⟨_, rfl, RatV.zero W, g⟩
theorem RMost_any (w : World) (va vb : Value) (a b c d : Pq) (K : Nat) (Ha : SgV w va a b) (Hb : SgV w vb c d) (hK : 1 ≤ K ∧ K ≤ 50) (ba : Bp K a) (bb : Bp K b) (bc : Bp K c) (bd : Bp K d) (hTab : Tab w) :
    Calls Tryz.prog 25 #[va, vb] w (RetRat w (mostP a b c d)) := by
  have e : max (max (max (sq a c) (sq a d)) (sq b c)) (sq b d) = mostP a b c d := max_row _ _ _ _
  refine exec_calls mixed Tryz.func25 [sSg a b, sSg c d] [sSg a b, sSg c d, sQ (sq a c), sOw kRat w.heap.size [sq a c], sQ (sq a d), sOw kRat w.heap.size [sq a c, sq a d], sSg c d, sQ (sq b c), sOw kRat w.heap.size [sq a c, sq a d, sq b c], sQ (sq b d), sOw kRat w.heap.size [sq a c, sq a d, sq b c, sq b d], sQ (mostP a b c d)] (.cons Ha (.cons Hb .nil)) (rs := [cl 2 68 [ag 16 0], cl 3 68 [ag 16 1], cl 4 19 [ag 8 2, ag 8 3], cow 5 (.call ⟨.builtin .append, #[(.tmp 20), (.tmp 24)], #[107, 107]⟩) 107 [.v false [.lit (.slice none 0 0)], .v false [.row 5 0 1 1]] [0, 1, 2, 3, 4] [(5, 31, [.an 4 0, .an 4 1, .an 4 2, .an 4 3])], cl 6 19 [ag 8 2, .v true [.an 3 8, .an 3 9, .an 3 10, .an 3 11, .an 3 12, .an 3 13, .an 3 14, .an 3 15]], cow 7 (.call ⟨.builtin .append, #[(.tmp 20), (.tmp 24)], #[107, 107]⟩) 107 [on 5, .v false [.row 7 0 1 1]] [0, 1, 2, 3, 4, 5, 6] [(7, 31, [.an 6 0, .an 6 1, .an 6 2, .an 6 3])], cl 8 68 [ag 16 1], cl 9 19 [.v true [.an 2 8, .an 2 9, .an 2 10, .an 2 11, .an 2 12, .an 2 13, .an 2 14, .an 2 15], ag 8 8], cow 10 (.call ⟨.builtin .append, #[(.tmp 20), (.tmp 24)], #[107, 107]⟩) 107 [on 7, .v false [.row 10 0 1 1]] [0, 1, 2, 3, 4, 5, 6, 7, 8, 9] [(10, 31, [.an 9 0, .an 9 1, .an 9 2, .an 9 3])], cl 11 19 [.v true [.an 2 8, .an 2 9, .an 2 10, .an 2 11, .an 2 12, .an 2 13, .an 2 14, .an 2 15], .v true [.an 8 8, .an 8 9, .an 8 10, .an 8 11, .an 8 12, .an 8 13, .an 8 14, .an 8 15]], cow 12 (.call ⟨.builtin .append, #[(.tmp 20), (.tmp 24)], #[107, 107]⟩) 107 [on 10, .v false [.row 12 0 1 1]] [0, 1, 2, 3, 4, 5, 6, 7, 8, 9, 10, 11] [(12, 31, [.an 11 0, .an 11 1, .an 11 2, .an 11 3])], cl 13 72 [on 12]]) (out := ag 4 13) (nc := 14) (by kernel_rfl)
      ⟨fun σ W g h hb => REnds_any W _ a b (h 0 rfl),
      fun σ W g h hb => REnds_any W _ c d (h 1 rfl),
      fun σ W g h hb => RSquare_any W _ _ a c K (sg1 (h 2 rfl)) (sg1 (h 3 rfl)) (by omega) ba bc (hTab.kept g (by simp)),
      fun σ W g h hb => fun ρ o ho _ hv => appS0 kRat g rfl
          (app_step kRat (by kernel_rfl) (info_k _ _ (by kernel_rfl)) (by decide) (OwV.nil kRat _ _) (cs := [σ.an 4 0, σ.an 4 1, σ.an 4 2, σ.an 4 3]) rfl (hb.1 _ (.head _)) (h 4 rfl) (rat_one4 (h 4 rfl)) (by simp) g.size ho (two_vals hv).1 (two_vals hv).2)
          (fun m hm hr => by
          match m, hm, hr with
          | 0, _, hr => exact absurd hr Bool.false_ne_true
          | 1, _, hr => exact absurd hr Bool.false_ne_true
          | 2, _, hr => exact absurd hr Bool.false_ne_true
          | 3, _, hr => exact absurd hr Bool.false_ne_true
          | 4, _, hr => exact absurd hr Bool.false_ne_true
          | j + 5, hm, _ => exact absurd hm (by simp)),
      fun σ W g h hb => RSquare_any W _ _ a d K (sg1 (h 2 rfl)) (sg2 (h 3 rfl)) (by omega) ba bd (hTab.kept g (by simp)),
      fun σ W g h hb => fun ρ o ho _ hv => appS kRat g rfl (m0 := 5) rfl rfl rfl (h 5 rfl)
          (app_step kRat (by kernel_rfl) (info_k _ _ (by kernel_rfl)) (by decide) (h 5 rfl) (cs := [σ.an 6 0, σ.an 6 1, σ.an 6 2, σ.an 6 3]) rfl (hb.1 _ (.head _)) (h 6 rfl) (rat_one4 (h 6 rfl)) (by simp) g.size ho (two_vals hv).1 (two_vals hv).2)
          (fun m hm hne hr => by
          match m, hm, hne, hr with
          | 0, _, _, hr => exact absurd hr Bool.false_ne_true
          | 1, _, _, hr => exact absurd hr Bool.false_ne_true
          | 2, _, _, hr => exact absurd hr Bool.false_ne_true
          | 3, _, _, hr => exact absurd hr Bool.false_ne_true
          | 4, _, _, hr => exact absurd hr Bool.false_ne_true
          | 5, _, hne, _ => exact absurd rfl hne
          | 6, _, _, hr => exact absurd hr Bool.false_ne_true
          | j + 7, hm, _, _ => exact absurd hm (by simp)),
      fun σ W g h hb => REnds_any W _ c d (h 1 rfl),
      fun σ W g h hb => RSquare_any W _ _ b c K (sg2 (h 2 rfl)) (sg1 (h 8 rfl)) (by omega) bb bc (hTab.kept g (by simp)),
      fun σ W g h hb => fun ρ o ho _ hv => appS kRat g rfl (m0 := 7) rfl rfl rfl (h 7 rfl)
          (app_step kRat (by kernel_rfl) (info_k _ _ (by kernel_rfl)) (by decide) (h 7 rfl) (cs := [σ.an 9 0, σ.an 9 1, σ.an 9 2, σ.an 9 3]) rfl (hb.1 _ (.head _)) (h 9 rfl) (rat_one4 (h 9 rfl)) (by simp) g.size ho (two_vals hv).1 (two_vals hv).2)
          (fun m hm hne hr => by
          match m, hm, hne, hr with
          | 0, _, _, hr => exact absurd hr Bool.false_ne_true
          | 1, _, _, hr => exact absurd hr Bool.false_ne_true
          | 2, _, _, hr => exact absurd hr Bool.false_ne_true
          | 3, _, _, hr => exact absurd hr Bool.false_ne_true
          | 4, _, _, hr => exact absurd hr Bool.false_ne_true
          | 5, _, _, _ => exact .inr ⟨[sq a c], rfl, by simp, h 5 rfl⟩
          | 6, _, _, hr => exact absurd hr Bool.false_ne_true
          | 7, _, hne, _ => exact absurd rfl hne
          | 8, _, _, hr => exact absurd hr Bool.false_ne_true
          | 9, _, _, hr => exact absurd hr Bool.false_ne_true
          | j + 10, hm, _, _ => exact absurd hm (by simp)),
      fun σ W g h hb => RSquare_any W _ _ b d K (sg2 (h 2 rfl)) (sg2 (h 8 rfl)) (by omega) bb bd (hTab.kept g (by simp)),
      fun σ W g h hb => fun ρ o ho _ hv => appS kRat g rfl (m0 := 10) rfl rfl rfl (h 10 rfl)
          (app_step kRat (by kernel_rfl) (info_k _ _ (by kernel_rfl)) (by decide) (h 10 rfl) (cs := [σ.an 11 0, σ.an 11 1, σ.an 11 2, σ.an 11 3]) rfl (hb.1 _ (.head _)) (h 11 rfl) (rat_one4 (h 11 rfl)) (by simp) g.size ho (two_vals hv).1 (two_vals hv).2)
          (fun m hm hne hr => by
          match m, hm, hne, hr with
          | 0, _, _, hr => exact absurd hr Bool.false_ne_true
          | 1, _, _, hr => exact absurd hr Bool.false_ne_true
          | 2, _, _, hr => exact absurd hr Bool.false_ne_true
          | 3, _, _, hr => exact absurd hr Bool.false_ne_true
          | 4, _, _, hr => exact absurd hr Bool.false_ne_true
          | 5, _, _, _ => exact .inr ⟨[sq a c], rfl, by simp, h 5 rfl⟩
          | 6, _, _, hr => exact absurd hr Bool.false_ne_true
          | 7, _, _, _ => exact .inr ⟨[sq a c, sq a d], rfl, by simp, h 7 rfl⟩
          | 8, _, _, hr => exact absurd hr Bool.false_ne_true
          | 9, _, _, hr => exact absurd hr Bool.false_ne_true
          | 10, _, hne, _ => exact absurd rfl hne
          | 11, _, _, hr => exact absurd hr Bool.false_ne_true
          | j + 12, hm, _, _ => exact absurd hm (by simp)),
      fun σ W g h hb => e ▸ FMost4_any W _ _ _ _ _ (8 * K + 5) (OwV.rs (h 12 rfl)) (by omega) (ba.sq bc) (ba.sq bd) (bb.sq bc) (bb.sq bd),
      trivial⟩ fun τ W g h => ⟨_, rfl, h 13 rfl, g⟩
theorem rcmp_ge {x y : Rat} : 0 ≤ rcmp x y ↔ ¬ x < y := by
  have := @rcmp_lt x y
  rcases rcmp_or x y with h | h | h <;> rw [h] at this ⊢ <;> simp at this ⊢ <;> assumption
theorem small_b {n : Int} (h1 : -9223372036854775808 ≤ n) (h2 : n ≤ 9223372036854775807) : Bn 1 (n : Rat) :=
  ⟨by rw [Rat.num_intCast]; exact b1int h1 h2, by rw [Rat.den_intCast]; exact Nat.one_lt_pow (by omega) (by unfold B; omega)⟩
theorem RCloser_any (w : World) (va vb : Value) (a b c d : Pq) (K : Nat) (Ha : SgV w va a b) (Hb : SgV w vb c d) (hK : 1 ≤ K ∧ K ≤ 50) (ba : Bp K a) (bb : Bp K b) (bc : Bp K c) (bd : Bp K d) (n : Int) (n1 : -9223372036854775808 ≤ n) (n2 : n ≤ 9223372036854775807) (hTab : Tab w) :
    Calls Tryz.prog 27 #[va, vb, .int .i64 n] w (RetB w (dec (CloserP a b c d n))) := by
  have bn := small_b n1 n2
  have bl := ba.least bb bc bd
  have bm := ba.most bb bc bd
  have bnn : Bn (32 * K + 20) ((n : Rat) * n) := (bn.mul bn).mono (by omega)
  rcases (show n ≤ 0 ∨ (0 < n ∧ ¬ leastP a b c d < (n : Rat) * n) ∨ (0 < n ∧ leastP a b c d < (n : Rat) * n) from if hx : 0 < n then (if hy : leastP a b c d < (n : Rat) * n then .inr (.inr ⟨hx, hy⟩) else .inr (.inl ⟨hx, hy⟩)) else .inl (by omega)) with h1 | ⟨h1, h2⟩ | ⟨h1, h2⟩
  · skip
    rw [dec_f (fun z => absurd (closer_prog.1 z).1 (by omega))]
    refine exec_calls mixed Tryz.func27 [sSg a b, sSg c d, sZ n] [sV (.bool true)] (.cons Ha (.cons Hb (.cons rfl .nil))) (rs := [co 3 (.binOp .leq 3 (.tmp 8) (.const (.int .i64 0)) 3) 4 [on 2, .v false [.lit (.int .i64 0)]] [0, 1, 2] []]) (out := .v false [.lit (.bool false)]) (nc := 4) (by kernel_rfl)
        ⟨fun σ W g h hb => fun ρ o ho _ hv => ⟨_, le_told true ho ((two_vals hv).1.trans (h 2 rfl)) (two_vals hv).2 (decide_eq_true (by omega)), rfl⟩,
        trivial⟩ fun τ W g h => ⟨rfl, g⟩
  · skip
    rw [dec_f (fun z => h2 (closer_prog.1 z).2.1)]
    refine exec_calls mixed Tryz.func27 [sSg a b, sSg c d, sZ n] [sV (.bool false), sI n, sQ (n : Rat), sQ (leastP a b c d), sQ ((n : Rat) * n), sZ (rcmp (leastP a b c d) ((n : Rat) * n)), sV (.bool true)] (.cons Ha (.cons Hb (.cons rfl .nil))) (rs := [co 3 (.binOp .leq 3 (.tmp 8) (.const (.int .i64 0)) 3) 4 [on 2, .v false [.lit (.int .i64 0)]] [0, 1, 2] [], cl 4 31 [on 2], cl 5 30 [ag 2 4], cl 6 23 [ag 16 0, ag 16 1], cl 7 34 [ag 4 5, ag 4 5], cl 8 33 [ag 4 6, ag 4 7], co 9 (.binOp .geq 3 (.tmp 19) (.const (.int .i64 0)) 3) 4 [on 8, .v false [.lit (.int .i64 0)]] [0, 1, 2, 3, 4, 5, 6, 7, 8] []]) (out := .v false [.lit (.bool false)]) (nc := 10) (by kernel_rfl)
        ⟨fun σ W g h hb => fun ρ o ho _ hv => ⟨_, le_told false ho ((two_vals hv).1.trans (h 2 rfl)) (two_vals hv).2 (decide_eq_false (by omega)), rfl⟩,
        fun σ W g h hb => arg1 (h 2 rfl) (ZOf_any W n n1 n2),
        fun σ W g h hb => FWholeOf_any W _ n 1 (h 4 rfl) (by omega) (b1int n1 n2),
        fun σ W g h hb => RLeast_any W _ _ a b c d K (h 0 rfl) (h 1 rfl) hK ba bb bc bd (hTab.kept g (by simp)),
        fun σ W g h hb => FMul_any W _ _ _ _ 1 (h 5 rfl) (h 5 rfl) (by omega) bn.1 bn.2 bn.1 bn.2 (hTab.kept g (by simp)),
        fun σ W g h hb => toZ (FCmp_any W _ _ _ _ (32 * K + 20) (h 6 rfl) (h 7 rfl) (by omega) bl.1 bl.2 bnn.1 bnn.2) rfl,
        fun σ W g h hb => fun ρ o ho _ hv => ⟨_, ge_told true ho ((two_vals hv).1.trans (h 8 rfl)) (two_vals hv).2 (decide_eq_true (rcmp_ge.2 h2)), rfl⟩,
        trivial⟩ fun τ W g h => ⟨rfl, g⟩
  · skip
    have hq : decide (0 < rsg (mostP a b c d)) = dec (CloserP a b c d n) := by rw [dec_of']; exact dec_congr (rsg_gt.trans (by rw [closer_prog]; exact ⟨fun z => ⟨h1, h2, z⟩, fun z => z.2.2⟩))
    refine exec_calls mixed Tryz.func27 [sSg a b, sSg c d, sZ n] [sV (.bool false), sI n, sQ (n : Rat), sQ (leastP a b c d), sQ ((n : Rat) * n), sZ (rcmp (leastP a b c d) ((n : Rat) * n)), sV (.bool false), sQ (mostP a b c d), sZ (rsg (mostP a b c d)), sBd (dec (CloserP a b c d n))] (.cons Ha (.cons Hb (.cons rfl .nil))) (rs := [co 3 (.binOp .leq 3 (.tmp 8) (.const (.int .i64 0)) 3) 4 [on 2, .v false [.lit (.int .i64 0)]] [0, 1, 2] [], cl 4 31 [on 2], cl 5 30 [ag 2 4], cl 6 23 [ag 16 0, ag 16 1], cl 7 34 [ag 4 5, ag 4 5], cl 8 33 [ag 4 6, ag 4 7], co 9 (.binOp .geq 3 (.tmp 19) (.const (.int .i64 0)) 3) 4 [on 8, .v false [.lit (.int .i64 0)]] [0, 1, 2, 3, 4, 5, 6, 7, 8] [], cl 10 25 [ag 16 0, ag 16 1], cl 11 35 [ag 4 10], co 12 (.binOp .gtr 3 (.tmp 24) (.const (.int .i64 0)) 3) 4 [on 11, .v false [.lit (.int .i64 0)]] [0, 1, 2, 3, 4, 5, 6, 7, 8, 9, 10, 11] []]) (out := on 12) (nc := 13) (by kernel_rfl)
        ⟨fun σ W g h hb => fun ρ o ho _ hv => ⟨_, le_told false ho ((two_vals hv).1.trans (h 2 rfl)) (two_vals hv).2 (decide_eq_false (by omega)), rfl⟩,
        fun σ W g h hb => arg1 (h 2 rfl) (ZOf_any W n n1 n2),
        fun σ W g h hb => FWholeOf_any W _ n 1 (h 4 rfl) (by omega) (b1int n1 n2),
        fun σ W g h hb => RLeast_any W _ _ a b c d K (h 0 rfl) (h 1 rfl) hK ba bb bc bd (hTab.kept g (by simp)),
        fun σ W g h hb => FMul_any W _ _ _ _ 1 (h 5 rfl) (h 5 rfl) (by omega) bn.1 bn.2 bn.1 bn.2 (hTab.kept g (by simp)),
        fun σ W g h hb => toZ (FCmp_any W _ _ _ _ (32 * K + 20) (h 6 rfl) (h 7 rfl) (by omega) bl.1 bl.2 bnn.1 bnn.2) rfl,
        fun σ W g h hb => fun ρ o ho _ hv => ⟨_, ge_told false ho ((two_vals hv).1.trans (h 8 rfl)) (two_vals hv).2 (decide_eq_false (fun z => rcmp_ge.1 z h2)), rfl⟩,
        fun σ W g h hb => RMost_any W _ _ a b c d K (h 0 rfl) (h 1 rfl) hK ba bb bc bd (hTab.kept g (by simp)),
        fun σ W g h hb => toZ (FSign_any W _ _ (8 * K + 5) (h 10 rfl) (by omega) bm.1) rfl,
        fun σ W g h hb => fun ρ o ho _ hv => ⟨_, gt_told _ ho ((two_vals hv).1.trans (h 11 rfl)) (two_vals hv).2 hq, rfl⟩,
        trivial⟩ fun τ W g h => ⟨congrArg Ending.returned (h 12 rfl), g⟩
end Go.Proofs.YtoaepibannfbdaaGreatDoor
namespace Go.Proofs.YtoaepibannfbdaaGreatDoor
open Go.RowKit Mat Ex PM
set_option linter.unusedVariables false
set_option linter.unusedSimpArgs false
set_option maxRecDepth 100000
theorem rcmp_neg {x y : Rat} : rcmp x y < 0 ↔ x < y := by
  have := @rcmp_lt x y
  rcases rcmp_or x y with h | h | h <;> rw [h] at this ⊢ <;> simp at this ⊢ <;> assumption
end Go.Proofs.YtoaepibannfbdaaGreatDoor
