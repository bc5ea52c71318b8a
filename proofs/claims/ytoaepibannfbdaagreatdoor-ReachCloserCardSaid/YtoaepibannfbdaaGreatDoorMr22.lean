/- What the laws lean on, part 22. -/
import Derived.Below
import Derived.BigCall
import Derived.BigQuiet
import Derived.BigRegion
import Derived.Deep.AppendLies
import Derived.Deep.CutBlock
import Derived.Deep.CutRange
import Derived.Deep.DeepCutAuto
import Derived.Deep.DeepHandedRow
import Derived.Deep.LoopGhost
import Derived.Deep.MidRow
import Derived.Deep.QuietTactic
import Derived.Deep.RegionHeld3
import Derived.Deep.RegionLaw
import Derived.Deep.WholeRow
import Derived.Laws.AppendOwn
import Derived.Laws.Concat
import Derived.Laws.CopyOwn
import Derived.Laws.Externs
import Derived.Laws.IdiomStrings
import Derived.Lib.BitFns
import Derived.Lib.Bytealg
import Derived.Lib.Hide
import Derived.Lib.Slices
import Derived.Lib.Small
import Derived.Lib.Strings
import Derived.Lib.Walk
import Derived.LoopN
import Derived.Maps.AppendAt
import Derived.OpenShut
import Derived.OrdersHeld
import Derived.Outline
import Derived.OwnWalk
import Derived.ProofKit
import Derived.Shelf.Bits.Mul64
import Derived.Shelf.Spec.TrailingZeros
import Derived.StillTailTactics
import Derived.WalkKit
import Derived.WalkLawsBesides
import Derived.WalkSpells
import Derived.Test.YtoaepibannfbdaaGreatDoorProg
import Derived.Test.YtoaepibannfbdaaGreatDoorRows
import Derived.Test.YtoaepibannfbdaaGreatDoorMr18
import Derived.Test.YtoaepibannfbdaaGreatDoorMr21
namespace Go.Proofs.YtoaepibannfbdaaGreatDoor
open Go.RowKit Mat Ex PM
set_option linter.unusedVariables false
set_option linter.unusedSimpArgs false
set_option maxRecDepth 100000
theorem rFNeg_any (w : World) (va : Value) (n d : Int) (Ha : RF w va n d) :
    Calls Tryz.prog 73 #[va] w (RetRF w (-n) d) := by
  refine exec_calls mixed Tryz.func73 [sRF n d] [sR (-n)] (.cons Ha .nil) (rs := [cl 1 115 [ag 2 0]]) (out := .v true [.an 1 0, .an 1 1, .an 0 2, .an 0 3]) (nc := 2) (by kernel_rfl)
      ⟨fun σ W g h hb => rNeg_any W _ n (rn (h 0 rfl)),
      trivial⟩ fun τ W g h => ⟨_, rfl, mkrf (h 1 rfl) (rd (h 0 rfl)), g⟩
theorem rFCmp_any (w : World) (va vb : Value) (n d m e : Int) (Ha : RF w va n d) (Hb : RF w vb m e) (E : Nat) (hE : E ≤ 400000) (l1 : n.natAbs < D ^ E) (l2 : d.natAbs < D ^ E) (l3 : m.natAbs < D ^ E) (l4 : e.natAbs < D ^ E) :
    Calls Tryz.prog 66 #[va, vb] w (fun x w' => x = .returned (.int .i64 (zcmp (n * e) (m * d))) ∧ w.grownBy w' none) := by
  refine exec_calls mixed Tryz.func66 [sRF n d, sRF m e] [sR (n * e), sR (m * d), sZ (zcmp (n * e) (m * d))] (.cons Ha (.cons Hb .nil)) (rs := [cl 2 103 [ag 2 0, .v true [.an 1 2, .an 1 3]], cl 3 103 [ag 2 1, .v true [.an 0 2, .an 0 3]], cl 4 55 [ag 2 2, ag 2 3]]) (out := on 4) (nc := 5) (by kernel_rfl)
      ⟨fun σ W g h hb => rZMul_any W _ _ _ _ (rn (h 0 rfl)) (rd (h 1 rfl)) (dp6 l1 (by omega)) (dp6 l4 (by omega)),
      fun σ W g h hb => rZMul_any W _ _ _ _ (rn (h 1 rfl)) (rd (h 0 rfl)) (dp6 l3 (by omega)) (dp6 l2 (by omega)),
      fun σ W g h hb => toZ (rZCmp_any W _ _ _ _ (h 2 rfl) (h 3 rfl) (dp6 (dmul_bd l1 l4) (by omega)) (dp6 (dmul_bd l3 l2) (by omega))) rfl,
      trivial⟩ fun τ W g h => ⟨congrArg Ending.returned (h 4 rfl), g⟩
theorem rFMake_any (w : World) (va vb : Value) (n d : Int) (Ha : RIntV w va n) (Hb : RIntV w vb d) :
    Calls Tryz.prog 110 #[va, vb] w (RetRF w (if d < 0 then -n else n) (if d < 0 then -d else d)) := by
  by_cases h1 : d < 0
  · skip
    rw [if_pos h1, if_pos h1]
    refine exec_calls mixed Tryz.func110 [sR n, sR d] [sV (.bool true), sR (-n), sR (-d)] (.cons Ha (.cons Hb .nil)) (rs := [co 2 (.binOp .lss 3 (.tmp 6) (.const (.int .i64 0)) 3) 4 [on 1, .v false [.lit (.int .i64 0)]] [0, 1] [], cl 3 115 [ag 2 0], cl 4 115 [ag 2 1]]) (out := .v true [.an 3 0, .an 3 1, .an 4 0, .an 4 1]) (nc := 5) (by kernel_rfl)
        ⟨fun σ W g h hb => fun ρ o ho _ hv => ⟨_, lt_told true ho ((two_vals hv).1.trans (rs1 (h 1 rfl))) (two_vals hv).2 (decide_eq_true (sgn_lt.2 h1)), rfl⟩,
        fun σ W g h hb => rNeg_any W _ n (h 0 rfl),
        fun σ W g h hb => rNeg_any W _ d (h 1 rfl),
        trivial⟩ fun τ W g h => ⟨_, rfl, mkrf (h 3 rfl) (h 4 rfl), g⟩
  · skip
    rw [if_neg h1, if_neg h1]
    refine exec_calls mixed Tryz.func110 [sR n, sR d] [sV (.bool false)] (.cons Ha (.cons Hb .nil)) (rs := [co 2 (.binOp .lss 3 (.tmp 6) (.const (.int .i64 0)) 3) 4 [on 1, .v false [.lit (.int .i64 0)]] [0, 1] []]) (out := .v true [.an 0 0, .an 0 1, .an 1 0, .an 1 1]) (nc := 3) (by kernel_rfl)
        ⟨fun σ W g h hb => fun ρ o ho _ hv => ⟨_, lt_told false ho ((two_vals hv).1.trans (rs1 (h 1 rfl))) (two_vals hv).2 (decide_eq_false (fun z => h1 (sgn_lt.1 z))), rfl⟩,
        trivial⟩ fun τ W g h => ⟨_, rfl, mkrf (h 0 rfl) (h 1 rfl), g⟩
def RetRFd (w : World) (n d : Int) (e : Ending) (w' : World) : Prop := RetRF w (if d < 0 then -n else n) (if d < 0 then -d else d) e w'
theorem rFDiv_any (w : World) (va vb : Value) (n d m e : Int) (Ha : RF w va n d) (Hb : RF w vb m e) (E : Nat) (hE : E ≤ 400000) (l1 : n.natAbs < D ^ E) (l2 : d.natAbs < D ^ E) (l3 : m.natAbs < D ^ E) (l4 : e.natAbs < D ^ E) :
    Calls Tryz.prog 65 #[va, vb] w (RetRFd w (n * e) (d * m)) := by
  refine exec_calls mixed Tryz.func65 [sRF n d, sRF m e] [sR (n * e), sR (d * m), sRF (if d * m < 0 then -(n * e) else n * e) (if d * m < 0 then -(d * m) else d * m)] (.cons Ha (.cons Hb .nil)) (rs := [cl 2 103 [ag 2 0, .v true [.an 1 2, .an 1 3]], cl 3 103 [.v true [.an 0 2, .an 0 3], ag 2 1], cl 4 110 [ag 2 2, ag 2 3]]) (out := ag 4 4) (nc := 5) (by kernel_rfl)
      ⟨fun σ W g h hb => rZMul_any W _ _ _ _ (rn (h 0 rfl)) (rd (h 1 rfl)) (dp6 l1 (by omega)) (dp6 l4 (by omega)),
      fun σ W g h hb => rZMul_any W _ _ _ _ (rd (h 0 rfl)) (rn (h 1 rfl)) (dp6 l2 (by omega)) (dp6 l3 (by omega)),
      fun σ W g h hb => rFMake_any W _ _ _ _ (h 2 rfl) (h 3 rfl),
      trivial⟩ fun τ W g h => ⟨_, rfl, h 4 rfl, g⟩
theorem rFSub_any (w : World) (va vb : Value) (n d m e : Int) (Ha : RF w va n d) (Hb : RF w vb m e) (E : Nat) (hE : E ≤ 400000) (l1 : n.natAbs < D ^ E) (l2 : d.natAbs < D ^ E) (l3 : m.natAbs < D ^ E) (l4 : e.natAbs < D ^ E) :
    Calls Tryz.prog 67 #[va, vb] w (fun x w' => ∃ v, x = .returned v ∧ RF w' v (if d = e then n + -m else n * e + -m * d) (if d = e then d else d * e) ∧ w.grownBy w' none) := by
  refine exec_calls mixed Tryz.func67 [sRF n d, sRF m e] [sRF (-m) e, sRF (if d = e then n + -m else n * e + -m * d) (if d = e then d else d * e)] (.cons Ha (.cons Hb .nil)) (rs := [cl 2 73 [ag 4 1], cl 3 57 [ag 4 0, ag 4 2]]) (out := ag 4 3) (nc := 4) (by kernel_rfl)
      ⟨fun σ W g h hb => rFNeg_any W _ m e (h 1 rfl),
      fun σ W g h hb => rFAdd_any W _ _ n d (-m) e (h 0 rfl) (h 2 rfl) E hE l1 l2 (dneg_bd l3) l4,
      trivial⟩ fun τ W g h => ⟨_, rfl, h 3 rfl, g⟩
theorem rQOf_any (w : World) (n : Int) (h1 : -9223372036854775808 ≤ n) (h2 : n ≤ 9223372036854775807) : Calls Tryz.prog 56 #[.int .i64 n] w (RetRQ w (n : Rat) 5) :=
  (rFOf_any w n h1 h2).mono fun _ _ ⟨v, e, h, g⟩ => ⟨v, e, h.rq (by omega) (by rw [q_of, show ((1 : Int) : Rat) = 1 from rfl, Rat.div_def]; grind) (dint h1 h2) d51, g⟩
theorem rqs {w : World} {a b c d : Value} {r : Rat} {E : Nat} (h : RQ w (.agg #[a, b, c, d]) r E) : a = .int .i64 (rsg r) := by
  obtain ⟨g, s, l, k, g', s', l', k', n, m, e, h1, h2, h3⟩ := h
  cases e
  rw [rs1 h1, rq_sign h3.out.1 h3.out.2.1]; rfl
section
variable (w : World) (va vb : Value) (r t : Rat) (E : Nat) (Ha : RQ w va r E) (Hb : RQ w vb t E) (hE : E ≤ 200000)
include Ha
include Hb hE
theorem rQCmp_any : Calls Tryz.prog 66 #[va, vb] w (fun x w' => x = .returned (.int .i64 (rcmp r t)) ∧ w.grownBy w' none) := by
  obtain ⟨n, d, H, h0, hr, l1, l2⟩ := Ha.rf
  obtain ⟨m, e, H', h0', hr', l1', l2'⟩ := Hb.rf
  exact (rFCmp_any w va vb n d m e H H' E (by omega) l1 l2 l1' l2').mono fun x w' ⟨e, g⟩ => ⟨by rw [e, ← hr, ← hr', rcmp_divInt h0 h0'], g⟩
theorem rQMulQ_any : Calls Tryz.prog 59 #[va, vb] w (RetRQ w (r * t) (E + E)) := by
  obtain ⟨m, e, H', h0', hr', l1', l2'⟩ := Hb.rf
  exact rQMul_any w va vb r t m e E E Ha H' h0' hr' (by omega) l1' l2'
theorem rQSub_any : Calls Tryz.prog 67 #[va, vb] w (RetRQ w (r - t) (E + E + 1)) := by
  obtain ⟨n, d, H, h0, hr, l1, l2⟩ := Ha.rf
  obtain ⟨m, e, H', h0', hr', l1', l2'⟩ := Hb.rf
  refine (rFSub_any w va vb n d m e H H' E (by omega) l1 l2 l1' l2').mono fun x w' ⟨v, e1, h, g⟩ => ⟨v, e1, ?_, g⟩
  rw [Rat.sub_eq_add_neg]
  by_cases h1 : d = e
  · rw [if_pos h1, if_pos h1] at h
    exact h.rq h0 (rq_add1 h0 hr (by rw [h1]; exact rq_neg hr')) (dpw (dadd_bd l1 (dneg_bd l1')) (by omega)) (dpw l2 (by omega))
  · rw [if_neg h1, if_neg h1] at h
    exact h.rq (Int.mul_pos h0 h0') (rq_add h0 h0' hr (rq_neg hr')) (dadd_bd (dmul_bd l1 l2') (dmul_bd (dneg_bd l1') l2)) (dpw (dmul_bd l2 l2') (by omega))
theorem rQDiv_any (h9 : t ≠ 0) : Calls Tryz.prog 65 #[va, vb] w (RetRQ w (r / t) (E + E)) := by
  obtain ⟨n, d, H, h0, hr, l1, l2⟩ := Ha.rf
  obtain ⟨m, e, H', h0', hr', l1', l2'⟩ := Hb.rf
  have hm := rq_num_ne hr' h9
  refine (rFDiv_any w va vb n d m e H H' E (by omega) l1 l2 l1' l2').mono fun x w' ⟨v, e1, h, g⟩ => ⟨v, e1, ?_, g⟩
  have hv : Rat.divInt (n * e) (d * m) = r / t := rq_div hr hr'
  have hne : d * m ≠ 0 := Int.mul_ne_zero (by omega) hm
  by_cases h1 : d * m < 0
  · rw [if_pos h1, if_pos h1] at h
    exact h.rq (by omega) (by rw [Rat.neg_divInt_neg]; exact hv) (dneg_bd (dmul_bd l1 l2')) (dneg_bd (dmul_bd l2 l1'))
  · rw [if_neg h1, if_neg h1] at h
    exact h.rq (by omega) hv (dmul_bd l1 l2') (dmul_bd l2 l1')
end
end Go.Proofs.YtoaepibannfbdaaGreatDoor
namespace Go.Proofs.YtoaepibannfbdaaGreatDoor
open Go.RowKit Mat Ex PM
set_option linter.unusedVariables false
set_option linter.unusedSimpArgs false
set_option maxRecDepth 100000
theorem lat_h {x y d : Int} (h1 : -9223372036854775808 ≤ x) (h2 : x ≤ 9223372036854775807) (h3 : -9223372036854775808 ≤ y) (h4 : y ≤ 9223372036854775807) : HB 5 ⟨x, y, und d⟩ :=
  ⟨dint h1 h2, dint h3 h4, dint (und_b d).1 (und_b d).2⟩
theorem sh2 {p q : Pq} {a b : H3} {u v : Value} {W : World} : (sSH p q a b).F (.tuple #[u, v]) W → HsV W v a b := by rintro ⟨_, _, e, _, h⟩; cases e; exact h
end Go.Proofs.YtoaepibannfbdaaGreatDoor
namespace Go.Proofs.YtoaepibannfbdaaGreatDoor
open Go.RowKit Mat Ex PM
set_option linter.unusedVariables false
set_option linter.unusedSimpArgs false
set_option maxRecDepth 100000
theorem rHTimesQ_any (w : World) (va vb vc : Value) (a b c : H3) (E : Nat) (Ha : HV w va a) (Hb : HV w vb b) (Hc : HV w vc c) (hE : E ≤ 10000) (ba : HB E a) (bb : HB E b) (bc : HB E c) (za : 0 < a.z) (zb : 0 < b.z) (zc : 0 < c.z) :
    Calls Tryz.prog 63 #[va, vb, vc] w (RetRQ w (pdot (rp a) (rp b) (rp c)) (4 * E + 3)) :=
  (rHTimes_any w va vb vc a b c E Ha Hb Hc hE ba bb bc).mono fun _ _ ⟨v, e, h, g⟩ => ⟨v, e, h.rq (hdn_pos za zb zc) (rp_dot za zb zc) (ba.cr bb bc).2.1 (ba.cr bb bc).2.2, g⟩
def T12 (E : Nat) : Nat := 64 * E + 49
theorem dSquare_any (w : World) (va vb : Value) (p q : H3) (E : Nat) (Ha : HV w va p) (Hb : HV w vb q) (hE : 1 ≤ E ∧ E ≤ 100) (bp : HB E p) (bq : HB E q) (zp : 0 < p.z) (zq : 0 < q.z) :
    Calls Tryz.prog 20 #[va, vb] w (RetRQ w (sq (rp p) (rp q)) (4 * E + 3)) := by
  refine exec_calls mixed Tryz.func20 [sH p, sH q] [sRQ (sq (rp p) (rp q)) (4 * E + 3)] (.cons Ha (.cons Hb .nil)) (rs := [cl 2 63 [ag 6 0, ag 6 1, ag 6 1]]) (out := ag 4 2) (nc := 3) (by kernel_rfl)
      ⟨fun σ W g h hb => rHTimesQ_any W _ _ _ p q q E (h 0 rfl) (h 1 rfl) (h 1 rfl) (by omega) bp bq bq zp zq zq,
      trivial⟩ fun τ W g h => ⟨_, rfl, h 2 rfl, g⟩
theorem dTo_any (w : World) (va vb : Value) (a b p : H3) (E : Nat) (Ha : HsV w va a b) (Hb : HV w vb p) (hE : 1 ≤ E ∧ E ≤ 100) (ba : HB E a) (bb : HB E b) (bp : HB E p) (za : 0 < a.z) (zb : 0 < b.z) (zp : 0 < p.z) :
    Calls Tryz.prog 22 #[va, vb] w (RetRQ w (toP (rp a) (rp b) (rp p)) (T12 E)) := by
  by_cases h0 : (sq (rp a) (rp b)) = 0
  rotate_left
  rcases (show ((pdot (rp a) (rp b) (rp p)) / (sq (rp a) (rp b))) ≤ 0 ∨ (¬ ((pdot (rp a) (rp b) (rp p)) / (sq (rp a) (rp b))) ≤ 0 ∧ 1 ≤ ((pdot (rp a) (rp b) (rp p)) / (sq (rp a) (rp b)))) ∨ (¬ ((pdot (rp a) (rp b) (rp p)) / (sq (rp a) (rp b))) ≤ 0 ∧ ¬ 1 ≤ ((pdot (rp a) (rp b) (rp p)) / (sq (rp a) (rp b)))) from if hx : ((pdot (rp a) (rp b) (rp p)) / (sq (rp a) (rp b))) ≤ 0 then .inl hx else if hy : 1 ≤ ((pdot (rp a) (rp b) (rp p)) / (sq (rp a) (rp b))) then .inr (.inl ⟨hx, hy⟩) else .inr (.inr ⟨hx, hy⟩)) with h1 | ⟨h1, h2⟩ | ⟨h1, h2⟩
  · skip
    rw [show toP (rp a) (rp b) (rp p) = sq (rp a) (rp p) by unfold toP; rw [if_neg h0, if_pos h1]]
    refine exec_calls mixed Tryz.func22 [sHs a b, sH p] [sRQ (sq (rp a) (rp b)) (4 * E + 3), sV (.bool false), sRQ (pdot (rp a) (rp b) (rp p)) (4 * E + 3), sRQ ((pdot (rp a) (rp b) (rp p)) / (sq (rp a) (rp b))) ((4 * E + 3) + (4 * E + 3)), sV (.bool true), sRQ (sq (rp a) (rp p)) (4 * E + 3)] (.cons Ha (.cons Hb .nil)) (rs := [cl 2 20 [ag 6 0, .v true [.an 0 6, .an 0 7, .an 0 8, .an 0 9, .an 0 10, .an 0 11]], co 3 (.binOp .eql 3 (.tmp 14) (.const (.int .i64 0)) 3) 4 [on 2, .v false [.lit (.int .i64 0)]] [0, 1, 2] [], cl 4 63 [ag 6 0, .v true [.an 0 6, .an 0 7, .an 0 8, .an 0 9, .an 0 10, .an 0 11], ag 6 1], cl 5 65 [ag 4 4, ag 4 2], co 6 (.binOp .leq 3 (.tmp 30) (.const (.int .i64 0)) 3) 4 [on 5, .v false [.lit (.int .i64 0)]] [0, 1, 2, 3, 4, 5] [], cl 7 20 [ag 6 0, ag 6 1]]) (out := ag 4 7) (nc := 8) (by kernel_rfl)
        ⟨fun σ W g h hb => dSquare_any W _ _ a b E (hs1 (h 0 rfl)) (hs2 (h 0 rfl)) hE ba bb za zb,
        fun σ W g h hb => fun ρ o ho _ hv => ⟨_, eq_told false ho ((two_vals hv).1.trans (rqs (h 2 rfl))) (two_vals hv).2 (decide_eq_false (fun z => h0 (rsg_zero.1 z))), rfl⟩,
        fun σ W g h hb => rHTimesQ_any W _ _ _ a b p E (hs1 (h 0 rfl)) (hs2 (h 0 rfl)) (h 1 rfl) (by omega) ba bb bp za zb zp,
        fun σ W g h hb => rQDiv_any W _ _ _ _ (4 * E + 3) (h 4 rfl) (h 2 rfl) (by omega) h0,
        fun σ W g h hb => fun ρ o ho _ hv => ⟨_, le_told true ho ((two_vals hv).1.trans (rqs (h 5 rfl))) (two_vals hv).2 (decide_eq_true (rsg_le.2 h1)), rfl⟩,
        fun σ W g h hb => dSquare_any W _ _ a p E (hs1 (h 0 rfl)) (h 1 rfl) hE ba bp za zp,
        trivial⟩ fun τ W g h => ⟨_, rfl, (h 7 rfl).mono (by unfold T12; omega), g⟩
  · skip
    rw [show toP (rp a) (rp b) (rp p) = sq (rp b) (rp p) by unfold toP; rw [if_neg h0, if_neg h1, if_pos h2]]
    refine exec_calls mixed Tryz.func22 [sHs a b, sH p] [sRQ (sq (rp a) (rp b)) (4 * E + 3), sV (.bool false), sRQ (pdot (rp a) (rp b) (rp p)) (4 * E + 3), sRQ ((pdot (rp a) (rp b) (rp p)) / (sq (rp a) (rp b))) ((4 * E + 3) + (4 * E + 3)), sV (.bool false), sRQ 1 5, sZ (rcmp ((pdot (rp a) (rp b) (rp p)) / (sq (rp a) (rp b))) 1), sV (.bool true), sRQ (sq (rp b) (rp p)) (4 * E + 3)] (.cons Ha (.cons Hb .nil)) (rs := [cl 2 20 [ag 6 0, .v true [.an 0 6, .an 0 7, .an 0 8, .an 0 9, .an 0 10, .an 0 11]], co 3 (.binOp .eql 3 (.tmp 14) (.const (.int .i64 0)) 3) 4 [on 2, .v false [.lit (.int .i64 0)]] [0, 1, 2] [], cl 4 63 [ag 6 0, .v true [.an 0 6, .an 0 7, .an 0 8, .an 0 9, .an 0 10, .an 0 11], ag 6 1], cl 5 65 [ag 4 4, ag 4 2], co 6 (.binOp .leq 3 (.tmp 30) (.const (.int .i64 0)) 3) 4 [on 5, .v false [.lit (.int .i64 0)]] [0, 1, 2, 3, 4, 5] [], cl 7 56 [.v false [.lit (.int .i64 1)]], cl 8 66 [ag 4 5, ag 4 7], co 9 (.binOp .geq 3 (.tmp 38) (.const (.int .i64 0)) 3) 4 [on 8, .v false [.lit (.int .i64 0)]] [0, 1, 2, 3, 4, 5, 6, 7, 8] [], cl 10 20 [.v true [.an 0 6, .an 0 7, .an 0 8, .an 0 9, .an 0 10, .an 0 11], ag 6 1]]) (out := ag 4 10) (nc := 11) (by kernel_rfl)
        ⟨fun σ W g h hb => dSquare_any W _ _ a b E (hs1 (h 0 rfl)) (hs2 (h 0 rfl)) hE ba bb za zb,
        fun σ W g h hb => fun ρ o ho _ hv => ⟨_, eq_told false ho ((two_vals hv).1.trans (rqs (h 2 rfl))) (two_vals hv).2 (decide_eq_false (fun z => h0 (rsg_zero.1 z))), rfl⟩,
        fun σ W g h hb => rHTimesQ_any W _ _ _ a b p E (hs1 (h 0 rfl)) (hs2 (h 0 rfl)) (h 1 rfl) (by omega) ba bb bp za zb zp,
        fun σ W g h hb => rQDiv_any W _ _ _ _ (4 * E + 3) (h 4 rfl) (h 2 rfl) (by omega) h0,
        fun σ W g h hb => fun ρ o ho _ hv => ⟨_, le_told false ho ((two_vals hv).1.trans (rqs (h 5 rfl))) (two_vals hv).2 (decide_eq_false (fun z => h1 (rsg_le.1 z))), rfl⟩,
        fun σ W g h hb => rQOf_any W 1 (by omega) (by omega),
        fun σ W g h hb => toZ (rQCmp_any W _ _ _ _ ((4 * E + 3) + (4 * E + 3)) (h 5 rfl) ((h 7 rfl).mono (by omega)) (by omega)) rfl,
        fun σ W g h hb => fun ρ o ho _ hv => ⟨_, ge_told true ho ((two_vals hv).1.trans (h 8 rfl)) (two_vals hv).2 (decide_eq_true (rcmp_ge.2 (by grind))), rfl⟩,
        fun σ W g h hb => dSquare_any W _ _ b p E (hs2 (h 0 rfl)) (h 1 rfl) hE bb bp zb zp,
        trivial⟩ fun τ W g h => ⟨_, rfl, (h 10 rfl).mono (by unfold T12; omega), g⟩
  · skip
    rw [show toP (rp a) (rp b) (rp p) = sq (rp a) (rp p) - ((pdot (rp a) (rp b) (rp p)) / (sq (rp a) (rp b))) * ((pdot (rp a) (rp b) (rp p)) / (sq (rp a) (rp b))) * (sq (rp a) (rp b)) by unfold toP; rw [if_neg h0, if_neg h1, if_neg h2]]
    refine exec_calls mixed Tryz.func22 [sHs a b, sH p] [sRQ (sq (rp a) (rp b)) (4 * E + 3), sV (.bool false), sRQ (pdot (rp a) (rp b) (rp p)) (4 * E + 3), sRQ ((pdot (rp a) (rp b) (rp p)) / (sq (rp a) (rp b))) ((4 * E + 3) + (4 * E + 3)), sV (.bool false), sRQ 1 5, sZ (rcmp ((pdot (rp a) (rp b) (rp p)) / (sq (rp a) (rp b))) 1), sV (.bool false), sRQ (sq (rp a) (rp p)) (4 * E + 3), sRQ (((pdot (rp a) (rp b) (rp p)) / (sq (rp a) (rp b))) * ((pdot (rp a) (rp b) (rp p)) / (sq (rp a) (rp b)))) (((4 * E + 3) + (4 * E + 3)) + ((4 * E + 3) + (4 * E + 3))), sRQ (((pdot (rp a) (rp b) (rp p)) / (sq (rp a) (rp b))) * ((pdot (rp a) (rp b) (rp p)) / (sq (rp a) (rp b))) * (sq (rp a) (rp b))) ((((4 * E + 3) + (4 * E + 3)) + ((4 * E + 3) + (4 * E + 3))) + (((4 * E + 3) + (4 * E + 3)) + ((4 * E + 3) + (4 * E + 3)))), sRQ (sq (rp a) (rp p) - ((pdot (rp a) (rp b) (rp p)) / (sq (rp a) (rp b))) * ((pdot (rp a) (rp b) (rp p)) / (sq (rp a) (rp b))) * (sq (rp a) (rp b))) ((((4 * E + 3) + (4 * E + 3)) + ((4 * E + 3) + (4 * E + 3))) + (((4 * E + 3) + (4 * E + 3)) + ((4 * E + 3) + (4 * E + 3))) + ((((4 * E + 3) + (4 * E + 3)) + ((4 * E + 3) + (4 * E + 3))) + (((4 * E + 3) + (4 * E + 3)) + ((4 * E + 3) + (4 * E + 3)))) + 1)] (.cons Ha (.cons Hb .nil)) (rs := [cl 2 20 [ag 6 0, .v true [.an 0 6, .an 0 7, .an 0 8, .an 0 9, .an 0 10, .an 0 11]], co 3 (.binOp .eql 3 (.tmp 14) (.const (.int .i64 0)) 3) 4 [on 2, .v false [.lit (.int .i64 0)]] [0, 1, 2] [], cl 4 63 [ag 6 0, .v true [.an 0 6, .an 0 7, .an 0 8, .an 0 9, .an 0 10, .an 0 11], ag 6 1], cl 5 65 [ag 4 4, ag 4 2], co 6 (.binOp .leq 3 (.tmp 30) (.const (.int .i64 0)) 3) 4 [on 5, .v false [.lit (.int .i64 0)]] [0, 1, 2, 3, 4, 5] [], cl 7 56 [.v false [.lit (.int .i64 1)]], cl 8 66 [ag 4 5, ag 4 7], co 9 (.binOp .geq 3 (.tmp 38) (.const (.int .i64 0)) 3) 4 [on 8, .v false [.lit (.int .i64 0)]] [0, 1, 2, 3, 4, 5, 6, 7, 8] [], cl 10 20 [ag 6 0, ag 6 1], cl 11 59 [ag 4 5, ag 4 5], cl 12 59 [ag 4 11, ag 4 2], cl 13 67 [ag 4 10, ag 4 12]]) (out := ag 4 13) (nc := 14) (by kernel_rfl)
        ⟨fun σ W g h hb => dSquare_any W _ _ a b E (hs1 (h 0 rfl)) (hs2 (h 0 rfl)) hE ba bb za zb,
        fun σ W g h hb => fun ρ o ho _ hv => ⟨_, eq_told false ho ((two_vals hv).1.trans (rqs (h 2 rfl))) (two_vals hv).2 (decide_eq_false (fun z => h0 (rsg_zero.1 z))), rfl⟩,
        fun σ W g h hb => rHTimesQ_any W _ _ _ a b p E (hs1 (h 0 rfl)) (hs2 (h 0 rfl)) (h 1 rfl) (by omega) ba bb bp za zb zp,
        fun σ W g h hb => rQDiv_any W _ _ _ _ (4 * E + 3) (h 4 rfl) (h 2 rfl) (by omega) h0,
        fun σ W g h hb => fun ρ o ho _ hv => ⟨_, le_told false ho ((two_vals hv).1.trans (rqs (h 5 rfl))) (two_vals hv).2 (decide_eq_false (fun z => h1 (rsg_le.1 z))), rfl⟩,
        fun σ W g h hb => rQOf_any W 1 (by omega) (by omega),
        fun σ W g h hb => toZ (rQCmp_any W _ _ _ _ ((4 * E + 3) + (4 * E + 3)) (h 5 rfl) ((h 7 rfl).mono (by omega)) (by omega)) rfl,
        fun σ W g h hb => fun ρ o ho _ hv => ⟨_, ge_told false ho ((two_vals hv).1.trans (h 8 rfl)) (two_vals hv).2 (decide_eq_false (fun z => rcmp_ge.1 z (by grind))), rfl⟩,
        fun σ W g h hb => dSquare_any W _ _ a p E (hs1 (h 0 rfl)) (h 1 rfl) hE ba bp za zp,
        fun σ W g h hb => rQMulQ_any W _ _ _ _ ((4 * E + 3) + (4 * E + 3)) (h 5 rfl) (h 5 rfl) (by omega),
        fun σ W g h hb => rQMulQ_any W _ _ _ _ (((4 * E + 3) + (4 * E + 3)) + ((4 * E + 3) + (4 * E + 3))) (h 11 rfl) ((h 2 rfl).mono (by omega)) (by omega),
        fun σ W g h hb => rQSub_any W _ _ _ _ ((((4 * E + 3) + (4 * E + 3)) + ((4 * E + 3) + (4 * E + 3))) + (((4 * E + 3) + (4 * E + 3)) + ((4 * E + 3) + (4 * E + 3)))) ((h 10 rfl).mono (by omega)) (h 12 rfl) (by omega),
        trivial⟩ fun τ W g h => ⟨_, rfl, (h 13 rfl).mono (by unfold T12; omega), g⟩
  · skip
    rw [show toP (rp a) (rp b) (rp p) = sq (rp a) (rp p) by unfold toP; rw [if_pos h0]]
    refine exec_calls mixed Tryz.func22 [sHs a b, sH p] [sRQ (sq (rp a) (rp b)) (4 * E + 3), sV (.bool true), sRQ (sq (rp a) (rp p)) (4 * E + 3)] (.cons Ha (.cons Hb .nil)) (rs := [cl 2 20 [ag 6 0, .v true [.an 0 6, .an 0 7, .an 0 8, .an 0 9, .an 0 10, .an 0 11]], co 3 (.binOp .eql 3 (.tmp 14) (.const (.int .i64 0)) 3) 4 [on 2, .v false [.lit (.int .i64 0)]] [0, 1, 2] [], cl 4 20 [ag 6 0, ag 6 1]]) (out := ag 4 4) (nc := 5) (by kernel_rfl)
        ⟨fun σ W g h hb => dSquare_any W _ _ a b E (hs1 (h 0 rfl)) (hs2 (h 0 rfl)) hE ba bb za zb,
        fun σ W g h hb => fun ρ o ho _ hv => ⟨_, eq_told true ho ((two_vals hv).1.trans (rqs (h 2 rfl))) (two_vals hv).2 (decide_eq_true (rsg_zero.2 h0)), rfl⟩,
        fun σ W g h hb => dSquare_any W _ _ a p E (hs1 (h 0 rfl)) (h 1 rfl) hE ba bp za zp,
        trivial⟩ fun τ W g h => ⟨_, rfl, (h 4 rfl).mono (by unfold T12; omega), g⟩
theorem dLesser_any (w : World) (va vb : Value) (r t : Rat) (E : Nat) (Ha : RQ w va r E) (Hb : RQ w vb t E) (hE : E ≤ 200000) :
    Calls Tryz.prog 71 #[va, vb] w (RetRQ w (min r t) E) := by
  by_cases h1 : t < r
  · skip
    rw [show min r t = t by grind]
    refine exec_calls mixed Tryz.func71 [sRQ r E, sRQ t E] [sZ (rcmp t r), sV (.bool true)] (.cons Ha (.cons Hb .nil)) (rs := [cl 2 66 [ag 4 1, ag 4 0], co 3 (.binOp .lss 3 (.tmp 7) (.const (.int .i64 0)) 3) 4 [on 2, .v false [.lit (.int .i64 0)]] [0, 1, 2] []]) (out := ag 4 1) (nc := 4) (by kernel_rfl)
        ⟨fun σ W g h hb => toZ (rQCmp_any W _ _ _ _ E (h 1 rfl) (h 0 rfl) hE) rfl,
        fun σ W g h hb => fun ρ o ho _ hv => ⟨_, lt_told true ho ((two_vals hv).1.trans (h 2 rfl)) (two_vals hv).2 (decide_eq_true (rcmp_neg.2 h1)), rfl⟩,
        trivial⟩ fun τ W g h => ⟨_, rfl, h 1 rfl, g⟩
  · skip
    rw [show min r t = r by grind]
    refine exec_calls mixed Tryz.func71 [sRQ r E, sRQ t E] [sZ (rcmp t r), sV (.bool false)] (.cons Ha (.cons Hb .nil)) (rs := [cl 2 66 [ag 4 1, ag 4 0], co 3 (.binOp .lss 3 (.tmp 7) (.const (.int .i64 0)) 3) 4 [on 2, .v false [.lit (.int .i64 0)]] [0, 1, 2] []]) (out := ag 4 0) (nc := 4) (by kernel_rfl)
        ⟨fun σ W g h hb => toZ (rQCmp_any W _ _ _ _ E (h 1 rfl) (h 0 rfl) hE) rfl,
        fun σ W g h hb => fun ρ o ho _ hv => ⟨_, lt_told false ho ((two_vals hv).1.trans (h 2 rfl)) (two_vals hv).2 (decide_eq_false (fun z => h1 (rcmp_neg.1 z))), rfl⟩,
        trivial⟩ fun τ W g h => ⟨_, rfl, h 0 rfl, g⟩
end Go.Proofs.YtoaepibannfbdaaGreatDoor
