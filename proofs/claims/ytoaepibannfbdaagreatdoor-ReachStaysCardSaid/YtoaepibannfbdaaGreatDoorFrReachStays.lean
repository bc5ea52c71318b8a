/- ReachStays: whatever five points and number, squares hang on no order, and stay when all is moved, turned by a quarter, mirrored, or n times as great: the law returns true and leaves its arguments. No condition. -/
import Derived.Below
import Derived.BigCall
import Derived.BigQuiet
import Derived.BigRegion
import Derived.ChangeOld
import Derived.Deep.AppendLies
import Derived.Deep.CutBlock
import Derived.Deep.CutRange
import Derived.Deep.DeepCutAuto
import Derived.Deep.DeepHandedRow
import Derived.Deep.LoopGhost
import Derived.Deep.MidRow
import Derived.Deep.QuietTactic
import Derived.Deep.RegionHeld3
import Derived.Deep.RegionLaw
import Derived.Deep.Strs
import Derived.Deep.WholeRow
import Derived.Laws.AppendOwn
import Derived.Laws.Concat
import Derived.Laws.CopyOwn
import Derived.Laws.Externs
import Derived.Laws.IdiomStrings
import Derived.Lib.BitFns
import Derived.Lib.Bytealg
import Derived.Lib.Hide
import Derived.Lib.LaidTab
import Derived.Lib.Slices
import Derived.Lib.Small
import Derived.Lib.Strings
import Derived.Lib.Walk
import Derived.LoopN
import Derived.Maps.AppendAt
import Derived.OpenShut
import Derived.OrdersHeld
import Derived.Outline
import Derived.OwnWalk
import Derived.ProofKit
import Derived.Shelf.Bits.Mul64
import Derived.Shelf.Spec.TrailingZeros
import Derived.StillTailTactics
import Derived.WalkKit
import Derived.WalkLawsBesides
import Derived.WalkSpells
import Derived.WideKeyArgs
import Derived.Test.YtoaepibannfbdaaGreatDoorCards
import Derived.Test.YtoaepibannfbdaaGreatDoorProg
import Derived.Test.YtoaepibannfbdaaGreatDoorRows
import Derived.Test.YtoaepibannfbdaaGreatDoorTie
import Derived.Test.YtoaepibannfbdaaGreatDoorMr29
namespace Go.Proofs.YtoaepibannfbdaaGreatDoor
open Go.RowKit Mat Ex PM
set_option linter.unusedVariables false
set_option linter.unusedSimpArgs false
set_option maxRecDepth 100000
theorem Bp.move {p v : Pq} (h : Bp 1 p) (h' : Bp 1 v) : Bp 3 (p.1 + v.1, p.2 + v.2) := ⟨(h.1.add h'.1).mono (by omega), (h.2.add h'.2).mono (by omega)⟩
theorem Bp.turn {p : Pq} (h : Bp 1 p) : Bp 3 (-p.2, p.1) := ⟨h.2.neg.mono (by omega), h.1.mono (by omega)⟩
theorem Bp.mirr {p : Pq} (h : Bp 1 p) : Bp 3 (-p.1, p.2) := ⟨h.1.neg.mono (by omega), h.2.mono (by omega)⟩
theorem Bp.timesn {p : Pq} {m : Rat} (h : Bp 1 p) (h' : Bn 1 m) : Bp 3 (p.1 * m, p.2 * m) := ⟨(h.1.mul h').mono (by omega), (h.2.mul h').mono (by omega)⟩
theorem stays_least {f : Pq → Pq} {k : Rat} (h : Like f k) (a b c d : Pq) : leastP (f b) (f a) (f c) (f d) = leastP a b c d * k :=
  isLeast_uniq (leastP_is _ _ _ _) (least_back (h.least (leastP_is a b c d)))
theorem stays_most {f : Pq → Pq} {k : Rat} (h : Like f k) (a b c d : Pq) : mostP (f b) (f a) (f c) (f d) = mostP a b c d * k :=
  isMost_uniq (mostP_is _ _ _ _) (most_back (h.most (mostP_is a b c d)))
theorem swap_least (a b c d : Pq) : leastP c d a b = leastP a b c d := isLeast_uniq (leastP_is _ _ _ _) (least_swap (leastP_is a b c d))
theorem swap_most (a b c d : Pq) : mostP c d a b = mostP a b c d := isMost_uniq (mostP_is _ _ _ _) (most_swap (mostP_is a b c d))
theorem LF12_0 (w : World) (va : Value) (r1 r2 r3 : Nat) (u0 u1 u2 u3 u4 u5 u6 u7 v0 v1 v2 v3 : Value) (p q : Pq) (m : Rat) (Ha : PtV w va p) (Bw : w.heap[r1]? = some (.cells #[.int .i64 0] 3 (0, 0))) (Bq : w.heap[r2]? = some (.cells #[u0, u1, u2, u3, u4, u5, u6, u7] 33 (0, 0))) (Hq : PtV w (.agg #[u0, u1, u2, u3, u4, u5, u6, u7]) q) (Bm : w.heap[r3]? = some (.cells #[v0, v1, v2, v3] 31 (0, 0))) (Hm : RatV w (.agg #[v0, v1, v2, v3]) m) (ne01 : r1 ≠ r2) (ne02 : r1 ≠ r3) (ne12 : r2 ≠ r3) (bp : Bp 1 p) (bq : Bp 1 q) (bm : Bn 1 m) (hTab : Tab w) :
    Calls Tryz.prog 36 #[va, .pointer (some ⟨r1, 0, none⟩), .pointer (some ⟨r2, 0, none⟩), .pointer (some ⟨r3, 0, none⟩)] w (RetPt w (p.1 + q.1, p.2 + q.2)) := by
  obtain ⟨p0, p1, p2, p3, p4, p5, p6, p7, rfl, hpa, hpb⟩ := Ha
  have Ha : PtV w (.agg #[p0, p1, p2, p3, p4, p5, p6, p7]) p := mkpt hpa hpb
  exact exec_calls_box mixed Tryz.func36 [sPt p, sPt q, sQ m, sQ (p.1 + q.1), sQ (p.2 + q.2)] 3 [ag 8 0, .v false [.ptr 0 0], .v false [.ptr 1 0], .v false [.ptr 2 0]] [(3, [.lit (.int .i64 0)]), (33, [.an 1 0, .an 1 1, .an 1 2, .an 1 3, .an 1 4, .an 1 5, .an 1 6, .an 1 7]), (31, [.an 2 0, .an 2 1, .an 2 2, .an 2 3])] (rs := [cl 3 37 [ag 4 0, ag 4 1], cl 4 37 [.v true [.an 0 4, .an 0 5, .an 0 6, .an 0 7], .v true [.an 1 4, .an 1 5, .an 1 6, .an 1 7]]]) (out := .v true [.an 3 0, .an 3 1, .an 3 2, .an 3 3, .an 4 0, .an 4 1, .an 4 2, .an 4 3]) (nc := 5) (by kernel_rfl) w
    ⟨fun n => match n with | 0 => cellf [p0, p1, p2, p3, p4, p5, p6, p7] | 1 => cellf [u0, u1, u2, u3, u4, u5, u6, u7] | 2 => cellf [v0, v1, v2, v3] | _ => fun _ => .bool false, fun b => match b with | 0 => r1 | 1 => r2 | 2 => r3 | _ => 0, fun _ => undef⟩
    (fun n c => match n with
      | 0 => cellf_one (Ha.one) c
      | 1 => cellf_one (Hq.one) c
      | 2 => cellf_one (rat_one4 Hm) c
      | _ + 3 => rfl)
    (fun b q hq => match b, q, hq with
      | 0, _, rfl => Bw
      | 1, _, rfl => Bq
      | 2, _, rfl => Bm
      | _ + 3, _, hq => nomatch hq)
    (fun b c hb hc hq => match b, c, hb, hc with
      | 0, 0, _, _ => rfl
      | 0, 1, _, _ => absurd hq ne01
      | 0, 2, _, _ => absurd hq ne02
      | 1, 0, _, _ => absurd hq (Ne.symm ne01)
      | 1, 1, _, _ => rfl
      | 1, 2, _, _ => absurd hq ne12
      | 2, 0, _, _ => absurd hq (Ne.symm ne02)
      | 2, 1, _, _ => absurd hq (Ne.symm ne12)
      | 2, 2, _, _ => rfl
      | _ + 3, _, hb, _ => absurd hb (by simp)
      | _, _ + 3, _, hc => absurd hc (by simp))
    (fun jn hn => match jn, hn with
      | 0, _ => Ha
      | 1, _ => Hq
      | 2, _ => Hm
      | _ + 3, hn => absurd hn (by omega))
    ⟨fun σ W g h hb => FAdd_any W _ _ p.1 q.1 1 (pt1 (h 0 rfl)) (pt1 (h 1 rfl)) (by omega) bp.1.1 bp.1.2 bq.1.1 bq.1.2 (hTab.kept g (by simp)),
    fun σ W g h hb => FAdd_any W _ _ p.2 q.2 1 (pt2 (h 0 rfl)) (pt2 (h 1 rfl)) (by omega) bp.2.1 bp.2.2 bq.2.1 bq.2.2 (hTab.kept g (by simp)),
    trivial⟩ _ fun τ W g h => ⟨_, rfl, mkpt (h 3 rfl) (h 4 rfl), g⟩
theorem LF12_1 (w : World) (va : Value) (r1 r2 r3 : Nat) (u0 u1 u2 u3 u4 u5 u6 u7 v0 v1 v2 v3 : Value) (p q : Pq) (m : Rat) (Ha : PtV w va p) (Bw : w.heap[r1]? = some (.cells #[.int .i64 1] 3 (0, 0))) (Bq : w.heap[r2]? = some (.cells #[u0, u1, u2, u3, u4, u5, u6, u7] 33 (0, 0))) (Hq : PtV w (.agg #[u0, u1, u2, u3, u4, u5, u6, u7]) q) (Bm : w.heap[r3]? = some (.cells #[v0, v1, v2, v3] 31 (0, 0))) (Hm : RatV w (.agg #[v0, v1, v2, v3]) m) (ne01 : r1 ≠ r2) (ne02 : r1 ≠ r3) (ne12 : r2 ≠ r3) (bp : Bp 1 p) (bq : Bp 1 q) (bm : Bn 1 m) (hTab : Tab w) :
    Calls Tryz.prog 36 #[va, .pointer (some ⟨r1, 0, none⟩), .pointer (some ⟨r2, 0, none⟩), .pointer (some ⟨r3, 0, none⟩)] w (RetPt w (-p.2, p.1)) := by
  obtain ⟨p0, p1, p2, p3, p4, p5, p6, p7, rfl, hpa, hpb⟩ := Ha
  have Ha : PtV w (.agg #[p0, p1, p2, p3, p4, p5, p6, p7]) p := mkpt hpa hpb
  exact exec_calls_box mixed Tryz.func36 [sPt p, sPt q, sQ m, sQ (-p.2)] 3 [ag 8 0, .v false [.ptr 0 0], .v false [.ptr 1 0], .v false [.ptr 2 0]] [(3, [.lit (.int .i64 1)]), (33, [.an 1 0, .an 1 1, .an 1 2, .an 1 3, .an 1 4, .an 1 5, .an 1 6, .an 1 7]), (31, [.an 2 0, .an 2 1, .an 2 2, .an 2 3])] (rs := [cl 3 38 [.v true [.an 0 4, .an 0 5, .an 0 6, .an 0 7]]]) (out := .v true [.an 3 0, .an 3 1, .an 3 2, .an 3 3, .an 0 0, .an 0 1, .an 0 2, .an 0 3]) (nc := 4) (by kernel_rfl) w
    ⟨fun n => match n with | 0 => cellf [p0, p1, p2, p3, p4, p5, p6, p7] | 1 => cellf [u0, u1, u2, u3, u4, u5, u6, u7] | 2 => cellf [v0, v1, v2, v3] | _ => fun _ => .bool false, fun b => match b with | 0 => r1 | 1 => r2 | 2 => r3 | _ => 0, fun _ => undef⟩
    (fun n c => match n with
      | 0 => cellf_one (Ha.one) c
      | 1 => cellf_one (Hq.one) c
      | 2 => cellf_one (rat_one4 Hm) c
      | _ + 3 => rfl)
    (fun b q hq => match b, q, hq with
      | 0, _, rfl => Bw
      | 1, _, rfl => Bq
      | 2, _, rfl => Bm
      | _ + 3, _, hq => nomatch hq)
    (fun b c hb hc hq => match b, c, hb, hc with
      | 0, 0, _, _ => rfl
      | 0, 1, _, _ => absurd hq ne01
      | 0, 2, _, _ => absurd hq ne02
      | 1, 0, _, _ => absurd hq (Ne.symm ne01)
      | 1, 1, _, _ => rfl
      | 1, 2, _, _ => absurd hq ne12
      | 2, 0, _, _ => absurd hq (Ne.symm ne02)
      | 2, 1, _, _ => absurd hq (Ne.symm ne12)
      | 2, 2, _, _ => rfl
      | _ + 3, _, hb, _ => absurd hb (by simp)
      | _, _ + 3, _, hc => absurd hc (by simp))
    (fun jn hn => match jn, hn with
      | 0, _ => Ha
      | 1, _ => Hq
      | 2, _ => Hm
      | _ + 3, hn => absurd hn (by omega))
    ⟨fun σ W g h hb => FNeg_any W _ p.2 1 (pt2 (h 0 rfl)) (by omega) bp.2.1 bp.2.2,
    trivial⟩ _ fun τ W g h => ⟨_, rfl, mkpt (h 3 rfl) (pt1 (h 0 rfl)), g⟩
theorem LF12_2 (w : World) (va : Value) (r1 r2 r3 : Nat) (u0 u1 u2 u3 u4 u5 u6 u7 v0 v1 v2 v3 : Value) (p q : Pq) (m : Rat) (Ha : PtV w va p) (Bw : w.heap[r1]? = some (.cells #[.int .i64 2] 3 (0, 0))) (Bq : w.heap[r2]? = some (.cells #[u0, u1, u2, u3, u4, u5, u6, u7] 33 (0, 0))) (Hq : PtV w (.agg #[u0, u1, u2, u3, u4, u5, u6, u7]) q) (Bm : w.heap[r3]? = some (.cells #[v0, v1, v2, v3] 31 (0, 0))) (Hm : RatV w (.agg #[v0, v1, v2, v3]) m) (ne01 : r1 ≠ r2) (ne02 : r1 ≠ r3) (ne12 : r2 ≠ r3) (bp : Bp 1 p) (bq : Bp 1 q) (bm : Bn 1 m) (hTab : Tab w) :
    Calls Tryz.prog 36 #[va, .pointer (some ⟨r1, 0, none⟩), .pointer (some ⟨r2, 0, none⟩), .pointer (some ⟨r3, 0, none⟩)] w (RetPt w (-p.1, p.2)) := by
  obtain ⟨p0, p1, p2, p3, p4, p5, p6, p7, rfl, hpa, hpb⟩ := Ha
  have Ha : PtV w (.agg #[p0, p1, p2, p3, p4, p5, p6, p7]) p := mkpt hpa hpb
  exact exec_calls_box mixed Tryz.func36 [sPt p, sPt q, sQ m, sQ (-p.1)] 3 [ag 8 0, .v false [.ptr 0 0], .v false [.ptr 1 0], .v false [.ptr 2 0]] [(3, [.lit (.int .i64 2)]), (33, [.an 1 0, .an 1 1, .an 1 2, .an 1 3, .an 1 4, .an 1 5, .an 1 6, .an 1 7]), (31, [.an 2 0, .an 2 1, .an 2 2, .an 2 3])] (rs := [cl 3 38 [ag 4 0]]) (out := .v true [.an 3 0, .an 3 1, .an 3 2, .an 3 3, .an 0 4, .an 0 5, .an 0 6, .an 0 7]) (nc := 4) (by kernel_rfl) w
    ⟨fun n => match n with | 0 => cellf [p0, p1, p2, p3, p4, p5, p6, p7] | 1 => cellf [u0, u1, u2, u3, u4, u5, u6, u7] | 2 => cellf [v0, v1, v2, v3] | _ => fun _ => .bool false, fun b => match b with | 0 => r1 | 1 => r2 | 2 => r3 | _ => 0, fun _ => undef⟩
    (fun n c => match n with
      | 0 => cellf_one (Ha.one) c
      | 1 => cellf_one (Hq.one) c
      | 2 => cellf_one (rat_one4 Hm) c
      | _ + 3 => rfl)
    (fun b q hq => match b, q, hq with
      | 0, _, rfl => Bw
      | 1, _, rfl => Bq
      | 2, _, rfl => Bm
      | _ + 3, _, hq => nomatch hq)
    (fun b c hb hc hq => match b, c, hb, hc with
      | 0, 0, _, _ => rfl
      | 0, 1, _, _ => absurd hq ne01
      | 0, 2, _, _ => absurd hq ne02
      | 1, 0, _, _ => absurd hq (Ne.symm ne01)
      | 1, 1, _, _ => rfl
      | 1, 2, _, _ => absurd hq ne12
      | 2, 0, _, _ => absurd hq (Ne.symm ne02)
      | 2, 1, _, _ => absurd hq (Ne.symm ne12)
      | 2, 2, _, _ => rfl
      | _ + 3, _, hb, _ => absurd hb (by simp)
      | _, _ + 3, _, hc => absurd hc (by simp))
    (fun jn hn => match jn, hn with
      | 0, _ => Ha
      | 1, _ => Hq
      | 2, _ => Hm
      | _ + 3, hn => absurd hn (by omega))
    ⟨fun σ W g h hb => FNeg_any W _ p.1 1 (pt1 (h 0 rfl)) (by omega) bp.1.1 bp.1.2,
    trivial⟩ _ fun τ W g h => ⟨_, rfl, mkpt (h 3 rfl) (pt2 (p := p) (h 0 rfl)), g⟩
theorem LF12_3 (w : World) (va : Value) (r1 r2 r3 : Nat) (u0 u1 u2 u3 u4 u5 u6 u7 v0 v1 v2 v3 : Value) (p q : Pq) (m : Rat) (Ha : PtV w va p) (Bw : w.heap[r1]? = some (.cells #[.int .i64 3] 3 (0, 0))) (Bq : w.heap[r2]? = some (.cells #[u0, u1, u2, u3, u4, u5, u6, u7] 33 (0, 0))) (Hq : PtV w (.agg #[u0, u1, u2, u3, u4, u5, u6, u7]) q) (Bm : w.heap[r3]? = some (.cells #[v0, v1, v2, v3] 31 (0, 0))) (Hm : RatV w (.agg #[v0, v1, v2, v3]) m) (ne01 : r1 ≠ r2) (ne02 : r1 ≠ r3) (ne12 : r2 ≠ r3) (bp : Bp 1 p) (bq : Bp 1 q) (bm : Bn 1 m) (hTab : Tab w) :
    Calls Tryz.prog 36 #[va, .pointer (some ⟨r1, 0, none⟩), .pointer (some ⟨r2, 0, none⟩), .pointer (some ⟨r3, 0, none⟩)] w (RetPt w (p.1 * m, p.2 * m)) := by
  obtain ⟨p0, p1, p2, p3, p4, p5, p6, p7, rfl, hpa, hpb⟩ := Ha
  have Ha : PtV w (.agg #[p0, p1, p2, p3, p4, p5, p6, p7]) p := mkpt hpa hpb
  exact exec_calls_box mixed Tryz.func36 [sPt p, sPt q, sQ m, sQ (p.1 * m), sQ (p.2 * m)] 3 [ag 8 0, .v false [.ptr 0 0], .v false [.ptr 1 0], .v false [.ptr 2 0]] [(3, [.lit (.int .i64 3)]), (33, [.an 1 0, .an 1 1, .an 1 2, .an 1 3, .an 1 4, .an 1 5, .an 1 6, .an 1 7]), (31, [.an 2 0, .an 2 1, .an 2 2, .an 2 3])] (rs := [cl 3 34 [ag 4 0, ag 4 2], cl 4 34 [.v true [.an 0 4, .an 0 5, .an 0 6, .an 0 7], ag 4 2]]) (out := .v true [.an 3 0, .an 3 1, .an 3 2, .an 3 3, .an 4 0, .an 4 1, .an 4 2, .an 4 3]) (nc := 5) (by kernel_rfl) w
    ⟨fun n => match n with | 0 => cellf [p0, p1, p2, p3, p4, p5, p6, p7] | 1 => cellf [u0, u1, u2, u3, u4, u5, u6, u7] | 2 => cellf [v0, v1, v2, v3] | _ => fun _ => .bool false, fun b => match b with | 0 => r1 | 1 => r2 | 2 => r3 | _ => 0, fun _ => undef⟩
    (fun n c => match n with
      | 0 => cellf_one (Ha.one) c
      | 1 => cellf_one (Hq.one) c
      | 2 => cellf_one (rat_one4 Hm) c
      | _ + 3 => rfl)
    (fun b q hq => match b, q, hq with
      | 0, _, rfl => Bw
      | 1, _, rfl => Bq
      | 2, _, rfl => Bm
      | _ + 3, _, hq => nomatch hq)
    (fun b c hb hc hq => match b, c, hb, hc with
      | 0, 0, _, _ => rfl
      | 0, 1, _, _ => absurd hq ne01
      | 0, 2, _, _ => absurd hq ne02
      | 1, 0, _, _ => absurd hq (Ne.symm ne01)
      | 1, 1, _, _ => rfl
      | 1, 2, _, _ => absurd hq ne12
      | 2, 0, _, _ => absurd hq (Ne.symm ne02)
      | 2, 1, _, _ => absurd hq (Ne.symm ne12)
      | 2, 2, _, _ => rfl
      | _ + 3, _, hb, _ => absurd hb (by simp)
      | _, _ + 3, _, hc => absurd hc (by simp))
    (fun jn hn => match jn, hn with
      | 0, _ => Ha
      | 1, _ => Hq
      | 2, _ => Hm
      | _ + 3, hn => absurd hn (by omega))
    ⟨fun σ W g h hb => FMul_any W _ _ p.1 m 1 (pt1 (h 0 rfl)) (h 2 rfl) (by omega) bp.1.1 bp.1.2 bm.1 bm.2 (hTab.kept g (by simp)),
    fun σ W g h hb => FMul_any W _ _ p.2 m 1 (pt2 (h 0 rfl)) (h 2 rfl) (by omega) bp.2.1 bp.2.2 bm.1 bm.2 (hTab.kept g (by simp)),
    trivial⟩ _ fun τ W g h => ⟨_, rfl, mkpt (h 3 rfl) (h 4 rfl), g⟩
theorem reachStays_walk (w : World) (x0 y0 d0 x1 y1 d1 x2 y2 d2 x3 y3 d3 x4 y4 d4 n : Int) (a0 : -9223372036854775808 ≤ x0) (b0 : x0 ≤ 9223372036854775807) (c0 : -9223372036854775808 ≤ y0) (e0 : y0 ≤ 9223372036854775807) (a1 : -9223372036854775808 ≤ x1) (b1 : x1 ≤ 9223372036854775807) (c1 : -9223372036854775808 ≤ y1) (e1 : y1 ≤ 9223372036854775807) (a2 : -9223372036854775808 ≤ x2) (b2 : x2 ≤ 9223372036854775807) (c2 : -9223372036854775808 ≤ y2) (e2 : y2 ≤ 9223372036854775807) (a3 : -9223372036854775808 ≤ x3) (b3 : x3 ≤ 9223372036854775807) (c3 : -9223372036854775808 ≤ y3) (e3 : y3 ≤ 9223372036854775807) (a4 : -9223372036854775808 ≤ x4) (b4 : x4 ≤ 9223372036854775807) (c4 : -9223372036854775808 ≤ y4) (e4 : y4 ≤ 9223372036854775807) (n1 : -9223372036854775808 ≤ n) (n2 : n ≤ 9223372036854775807) (hTab : Tab w) :
    Calls Tryz.prog 8 #[.agg #[.int .i64 x0, .int .i64 y0, .int .i64 d0], .agg #[.int .i64 x1, .int .i64 y1, .int .i64 d1], .agg #[.int .i64 x2, .int .i64 y2, .int .i64 d2], .agg #[.int .i64 x3, .int .i64 y3, .int .i64 d3], .agg #[.int .i64 x4, .int .i64 y4, .int .i64 d4], .int .i64 n] w (fun e w' => e = .returned (.bool true) ∧ w.grownBy w' none) := by
  have bn := small_b n1 n2
  have bL0 : Bn 60 (leastP (lat x0 y0 d0) (lat x1 y1 d1) (lat x2 y2 d2) (lat x3 y3 d3)) := (Bp.least (K := 1) (lat_b a0 b0 c0 e0) (lat_b a1 b1 c1 e1) (lat_b a2 b2 c2 e2) (lat_b a3 b3 c3 e3)).mono (by omega)
  have bM0 : Bn 60 (mostP (lat x0 y0 d0) (lat x1 y1 d1) (lat x2 y2 d2) (lat x3 y3 d3)) := (Bp.most (K := 1) (lat_b a0 b0 c0 e0) (lat_b a1 b1 c1 e1) (lat_b a2 b2 c2 e2) (lat_b a3 b3 c3 e3)).mono (by omega)
  have bL : Bn 1000 (leastP (lat x0 y0 d0) (lat x1 y1 d1) (lat x2 y2 d2) (lat x3 y3 d3)) := bL0.mono (by omega)
  have bM : Bn 1000 (mostP (lat x0 y0 d0) (lat x1 y1 d1) (lat x2 y2 d2) (lat x3 y3 d3)) := bM0.mono (by omega)
  have bLT : Bn 1000 (leastP (lat x2 y2 d2) (lat x3 y3 d3) (lat x0 y0 d0) (lat x1 y1 d1)) := (Bp.least (K := 1) (lat_b a2 b2 c2 e2) (lat_b a3 b3 c3 e3) (lat_b a0 b0 c0 e0) (lat_b a1 b1 c1 e1)).mono (by omega)
  have bMT : Bn 1000 (mostP (lat x2 y2 d2) (lat x3 y3 d3) (lat x0 y0 d0) (lat x1 y1 d1)) := (Bp.most (K := 1) (lat_b a2 b2 c2 e2) (lat_b a3 b3 c3 e3) (lat_b a0 b0 c0 e0) (lat_b a1 b1 c1 e1)).mono (by omega)
  have bk1 : Bn 60 (1 : Rat) := ⟨by show (1 : Nat) < _; exact Nat.one_lt_pow (by omega) (by unfold B; omega), by show (1 : Nat) < _; exact Nat.one_lt_pow (by omega) (by unfold B; omega)⟩
  have bnn : Bn 60 ((n : Rat) * n) := (bn.mul bn).mono (by omega)
  have bl0 : Bn 1000 (leastP ((lat x1 y1 d1).1 + (lat x4 y4 d4).1, (lat x1 y1 d1).2 + (lat x4 y4 d4).2) ((lat x0 y0 d0).1 + (lat x4 y4 d4).1, (lat x0 y0 d0).2 + (lat x4 y4 d4).2) ((lat x2 y2 d2).1 + (lat x4 y4 d4).1, (lat x2 y2 d2).2 + (lat x4 y4 d4).2) ((lat x3 y3 d3).1 + (lat x4 y4 d4).1, (lat x3 y3 d3).2 + (lat x4 y4 d4).2)) := (Bp.least (K := 3) (Bp.move (lat_b a1 b1 c1 e1) (lat_b a4 b4 c4 e4)) (Bp.move (lat_b a0 b0 c0 e0) (lat_b a4 b4 c4 e4)) (Bp.move (lat_b a2 b2 c2 e2) (lat_b a4 b4 c4 e4)) (Bp.move (lat_b a3 b3 c3 e3) (lat_b a4 b4 c4 e4))).mono (by omega)
  have cl0 : Bn 1000 ((leastP (lat x0 y0 d0) (lat x1 y1 d1) (lat x2 y2 d2) (lat x3 y3 d3)) * 1) := (bL0.mul bk1).mono (by omega)
  have bm0 : Bn 1000 (mostP ((lat x1 y1 d1).1 + (lat x4 y4 d4).1, (lat x1 y1 d1).2 + (lat x4 y4 d4).2) ((lat x0 y0 d0).1 + (lat x4 y4 d4).1, (lat x0 y0 d0).2 + (lat x4 y4 d4).2) ((lat x2 y2 d2).1 + (lat x4 y4 d4).1, (lat x2 y2 d2).2 + (lat x4 y4 d4).2) ((lat x3 y3 d3).1 + (lat x4 y4 d4).1, (lat x3 y3 d3).2 + (lat x4 y4 d4).2)) := (Bp.most (K := 3) (Bp.move (lat_b a1 b1 c1 e1) (lat_b a4 b4 c4 e4)) (Bp.move (lat_b a0 b0 c0 e0) (lat_b a4 b4 c4 e4)) (Bp.move (lat_b a2 b2 c2 e2) (lat_b a4 b4 c4 e4)) (Bp.move (lat_b a3 b3 c3 e3) (lat_b a4 b4 c4 e4))).mono (by omega)
  have cm0 : Bn 1000 ((mostP (lat x0 y0 d0) (lat x1 y1 d1) (lat x2 y2 d2) (lat x3 y3 d3)) * 1) := (bM0.mul bk1).mono (by omega)
  have bl1 : Bn 1000 (leastP (-(lat x1 y1 d1).2, (lat x1 y1 d1).1) (-(lat x0 y0 d0).2, (lat x0 y0 d0).1) (-(lat x2 y2 d2).2, (lat x2 y2 d2).1) (-(lat x3 y3 d3).2, (lat x3 y3 d3).1)) := (Bp.least (K := 3) (Bp.turn (lat_b a1 b1 c1 e1)) (Bp.turn (lat_b a0 b0 c0 e0)) (Bp.turn (lat_b a2 b2 c2 e2)) (Bp.turn (lat_b a3 b3 c3 e3))).mono (by omega)
  have cl1 : Bn 1000 ((leastP (lat x0 y0 d0) (lat x1 y1 d1) (lat x2 y2 d2) (lat x3 y3 d3)) * 1) := (bL0.mul bk1).mono (by omega)
  have bm1 : Bn 1000 (mostP (-(lat x1 y1 d1).2, (lat x1 y1 d1).1) (-(lat x0 y0 d0).2, (lat x0 y0 d0).1) (-(lat x2 y2 d2).2, (lat x2 y2 d2).1) (-(lat x3 y3 d3).2, (lat x3 y3 d3).1)) := (Bp.most (K := 3) (Bp.turn (lat_b a1 b1 c1 e1)) (Bp.turn (lat_b a0 b0 c0 e0)) (Bp.turn (lat_b a2 b2 c2 e2)) (Bp.turn (lat_b a3 b3 c3 e3))).mono (by omega)
  have cm1 : Bn 1000 ((mostP (lat x0 y0 d0) (lat x1 y1 d1) (lat x2 y2 d2) (lat x3 y3 d3)) * 1) := (bM0.mul bk1).mono (by omega)
  have bl2 : Bn 1000 (leastP (-(lat x1 y1 d1).1, (lat x1 y1 d1).2) (-(lat x0 y0 d0).1, (lat x0 y0 d0).2) (-(lat x2 y2 d2).1, (lat x2 y2 d2).2) (-(lat x3 y3 d3).1, (lat x3 y3 d3).2)) := (Bp.least (K := 3) (Bp.mirr (lat_b a1 b1 c1 e1)) (Bp.mirr (lat_b a0 b0 c0 e0)) (Bp.mirr (lat_b a2 b2 c2 e2)) (Bp.mirr (lat_b a3 b3 c3 e3))).mono (by omega)
  have cl2 : Bn 1000 ((leastP (lat x0 y0 d0) (lat x1 y1 d1) (lat x2 y2 d2) (lat x3 y3 d3)) * 1) := (bL0.mul bk1).mono (by omega)
  have bm2 : Bn 1000 (mostP (-(lat x1 y1 d1).1, (lat x1 y1 d1).2) (-(lat x0 y0 d0).1, (lat x0 y0 d0).2) (-(lat x2 y2 d2).1, (lat x2 y2 d2).2) (-(lat x3 y3 d3).1, (lat x3 y3 d3).2)) := (Bp.most (K := 3) (Bp.mirr (lat_b a1 b1 c1 e1)) (Bp.mirr (lat_b a0 b0 c0 e0)) (Bp.mirr (lat_b a2 b2 c2 e2)) (Bp.mirr (lat_b a3 b3 c3 e3))).mono (by omega)
  have cm2 : Bn 1000 ((mostP (lat x0 y0 d0) (lat x1 y1 d1) (lat x2 y2 d2) (lat x3 y3 d3)) * 1) := (bM0.mul bk1).mono (by omega)
  have bl3 : Bn 1000 (leastP ((lat x1 y1 d1).1 * (n : Rat), (lat x1 y1 d1).2 * (n : Rat)) ((lat x0 y0 d0).1 * (n : Rat), (lat x0 y0 d0).2 * (n : Rat)) ((lat x2 y2 d2).1 * (n : Rat), (lat x2 y2 d2).2 * (n : Rat)) ((lat x3 y3 d3).1 * (n : Rat), (lat x3 y3 d3).2 * (n : Rat))) := (Bp.least (K := 3) (Bp.timesn (lat_b a1 b1 c1 e1) bn) (Bp.timesn (lat_b a0 b0 c0 e0) bn) (Bp.timesn (lat_b a2 b2 c2 e2) bn) (Bp.timesn (lat_b a3 b3 c3 e3) bn)).mono (by omega)
  have cl3 : Bn 1000 ((leastP (lat x0 y0 d0) (lat x1 y1 d1) (lat x2 y2 d2) (lat x3 y3 d3)) * ((n : Rat) * n)) := (bL0.mul bnn).mono (by omega)
  have bm3 : Bn 1000 (mostP ((lat x1 y1 d1).1 * (n : Rat), (lat x1 y1 d1).2 * (n : Rat)) ((lat x0 y0 d0).1 * (n : Rat), (lat x0 y0 d0).2 * (n : Rat)) ((lat x2 y2 d2).1 * (n : Rat), (lat x2 y2 d2).2 * (n : Rat)) ((lat x3 y3 d3).1 * (n : Rat), (lat x3 y3 d3).2 * (n : Rat))) := (Bp.most (K := 3) (Bp.timesn (lat_b a1 b1 c1 e1) bn) (Bp.timesn (lat_b a0 b0 c0 e0) bn) (Bp.timesn (lat_b a2 b2 c2 e2) bn) (Bp.timesn (lat_b a3 b3 c3 e3) bn)).mono (by omega)
  have cm3 : Bn 1000 ((mostP (lat x0 y0 d0) (lat x1 y1 d1) (lat x2 y2 d2) (lat x3 y3 d3)) * ((n : Rat) * n)) := (bM0.mul bnn).mono (by omega)
  refine exec_calls mixed Tryz.func8 [uDt x0 y0 d0, uDt x1 y1 d1, uDt x2 y2 d2, uDt x3 y3 d3, uDt x4 y4 d4, uZ n] [uSH (lat x0 y0 d0) (lat x1 y1 d1), uSH (lat x2 y2 d2) (lat x3 y3 d3), uPt (lat x4 y4 d4), uI n, uQ (n : Rat), uQ (leastP (lat x0 y0 d0) (lat x1 y1 d1) (lat x2 y2 d2) (lat x3 y3 d3)), uQ (mostP (lat x0 y0 d0) (lat x1 y1 d1) (lat x2 y2 d2) (lat x3 y3 d3)), uV (.bool true), uQ (leastP (lat x2 y2 d2) (lat x3 y3 d3) (lat x0 y0 d0) (lat x1 y1 d1)), uV (.int .i64 0), uQ (mostP (lat x2 y2 d2) (lat x3 y3 d3) (lat x0 y0 d0) (lat x1 y1 d1)), uV (.int .i64 0), uPt ((lat x1 y1 d1).1 + (lat x4 y4 d4).1, (lat x1 y1 d1).2 + (lat x4 y4 d4).2), uPt ((lat x0 y0 d0).1 + (lat x4 y4 d4).1, (lat x0 y0 d0).2 + (lat x4 y4 d4).2), uPt ((lat x2 y2 d2).1 + (lat x4 y4 d4).1, (lat x2 y2 d2).2 + (lat x4 y4 d4).2), uPt ((lat x3 y3 d3).1 + (lat x4 y4 d4).1, (lat x3 y3 d3).2 + (lat x4 y4 d4).2), uI 1, uQ 1, uQ (leastP ((lat x1 y1 d1).1 + (lat x4 y4 d4).1, (lat x1 y1 d1).2 + (lat x4 y4 d4).2) ((lat x0 y0 d0).1 + (lat x4 y4 d4).1, (lat x0 y0 d0).2 + (lat x4 y4 d4).2) ((lat x2 y2 d2).1 + (lat x4 y4 d4).1, (lat x2 y2 d2).2 + (lat x4 y4 d4).2) ((lat x3 y3 d3).1 + (lat x4 y4 d4).1, (lat x3 y3 d3).2 + (lat x4 y4 d4).2)), uQ ((leastP (lat x0 y0 d0) (lat x1 y1 d1) (lat x2 y2 d2) (lat x3 y3 d3)) * 1), uV (.int .i64 0), uQ (mostP ((lat x1 y1 d1).1 + (lat x4 y4 d4).1, (lat x1 y1 d1).2 + (lat x4 y4 d4).2) ((lat x0 y0 d0).1 + (lat x4 y4 d4).1, (lat x0 y0 d0).2 + (lat x4 y4 d4).2) ((lat x2 y2 d2).1 + (lat x4 y4 d4).1, (lat x2 y2 d2).2 + (lat x4 y4 d4).2) ((lat x3 y3 d3).1 + (lat x4 y4 d4).1, (lat x3 y3 d3).2 + (lat x4 y4 d4).2)), uQ ((mostP (lat x0 y0 d0) (lat x1 y1 d1) (lat x2 y2 d2) (lat x3 y3 d3)) * 1), uV (.int .i64 0), uPt (-(lat x1 y1 d1).2, (lat x1 y1 d1).1), uPt (-(lat x0 y0 d0).2, (lat x0 y0 d0).1), uPt (-(lat x2 y2 d2).2, (lat x2 y2 d2).1), uPt (-(lat x3 y3 d3).2, (lat x3 y3 d3).1), uI 1, uQ 1, uQ (leastP (-(lat x1 y1 d1).2, (lat x1 y1 d1).1) (-(lat x0 y0 d0).2, (lat x0 y0 d0).1) (-(lat x2 y2 d2).2, (lat x2 y2 d2).1) (-(lat x3 y3 d3).2, (lat x3 y3 d3).1)), uQ ((leastP (lat x0 y0 d0) (lat x1 y1 d1) (lat x2 y2 d2) (lat x3 y3 d3)) * 1), uV (.int .i64 0), uQ (mostP (-(lat x1 y1 d1).2, (lat x1 y1 d1).1) (-(lat x0 y0 d0).2, (lat x0 y0 d0).1) (-(lat x2 y2 d2).2, (lat x2 y2 d2).1) (-(lat x3 y3 d3).2, (lat x3 y3 d3).1)), uQ ((mostP (lat x0 y0 d0) (lat x1 y1 d1) (lat x2 y2 d2) (lat x3 y3 d3)) * 1), uV (.int .i64 0), uPt (-(lat x1 y1 d1).1, (lat x1 y1 d1).2), uPt (-(lat x0 y0 d0).1, (lat x0 y0 d0).2), uPt (-(lat x2 y2 d2).1, (lat x2 y2 d2).2), uPt (-(lat x3 y3 d3).1, (lat x3 y3 d3).2), uI 1, uQ 1, uQ (leastP (-(lat x1 y1 d1).1, (lat x1 y1 d1).2) (-(lat x0 y0 d0).1, (lat x0 y0 d0).2) (-(lat x2 y2 d2).1, (lat x2 y2 d2).2) (-(lat x3 y3 d3).1, (lat x3 y3 d3).2)), uQ ((leastP (lat x0 y0 d0) (lat x1 y1 d1) (lat x2 y2 d2) (lat x3 y3 d3)) * 1), uV (.int .i64 0), uQ (mostP (-(lat x1 y1 d1).1, (lat x1 y1 d1).2) (-(lat x0 y0 d0).1, (lat x0 y0 d0).2) (-(lat x2 y2 d2).1, (lat x2 y2 d2).2) (-(lat x3 y3 d3).1, (lat x3 y3 d3).2)), uQ ((mostP (lat x0 y0 d0) (lat x1 y1 d1) (lat x2 y2 d2) (lat x3 y3 d3)) * 1), uV (.int .i64 0), uPt ((lat x1 y1 d1).1 * (n : Rat), (lat x1 y1 d1).2 * (n : Rat)), uPt ((lat x0 y0 d0).1 * (n : Rat), (lat x0 y0 d0).2 * (n : Rat)), uPt ((lat x2 y2 d2).1 * (n : Rat), (lat x2 y2 d2).2 * (n : Rat)), uPt ((lat x3 y3 d3).1 * (n : Rat), (lat x3 y3 d3).2 * (n : Rat)), uI 1, uQ 1, uQ ((n : Rat) * n), uQ (leastP ((lat x1 y1 d1).1 * (n : Rat), (lat x1 y1 d1).2 * (n : Rat)) ((lat x0 y0 d0).1 * (n : Rat), (lat x0 y0 d0).2 * (n : Rat)) ((lat x2 y2 d2).1 * (n : Rat), (lat x2 y2 d2).2 * (n : Rat)) ((lat x3 y3 d3).1 * (n : Rat), (lat x3 y3 d3).2 * (n : Rat))), uQ ((leastP (lat x0 y0 d0) (lat x1 y1 d1) (lat x2 y2 d2) (lat x3 y3 d3)) * ((n : Rat) * n)), uV (.int .i64 0), uQ (mostP ((lat x1 y1 d1).1 * (n : Rat), (lat x1 y1 d1).2 * (n : Rat)) ((lat x0 y0 d0).1 * (n : Rat), (lat x0 y0 d0).2 * (n : Rat)) ((lat x2 y2 d2).1 * (n : Rat), (lat x2 y2 d2).2 * (n : Rat)) ((lat x3 y3 d3).1 * (n : Rat), (lat x3 y3 d3).2 * (n : Rat))), uQ ((mostP (lat x0 y0 d0) (lat x1 y1 d1) (lat x2 y2 d2) (lat x3 y3 d3)) * ((n : Rat) * n)), uV (.int .i64 0)] (.cons rfl (.cons rfl (.cons rfl (.cons rfl (.cons rfl (.cons rfl .nil)))))) (rs := [cl 6 16 [ag 3 0, ag 3 1], cl 7 16 [ag 3 2, ag 3 3], cl 8 9 [ag 3 4], cl 9 31 [on 5], cl 10 30 [ag 2 9], cl 11 23 [ag 16 6, ag 16 7], cl 12 25 [ag 16 6, ag 16 7], cl 13 17 [], cl 14 23 [ag 16 7, ag 16 6], cl 15 33 [ag 4 14, ag 4 11], cl 16 25 [ag 16 7, ag 16 6], cl 17 33 [ag 4 16, ag 4 12], clb 18 36 [.v true [.an 6 8, .an 6 9, .an 6 10, .an 6 11, .an 6 12, .an 6 13, .an 6 14, .an 6 15], .v false [.ptr 13 0], .v false [.ptr 9 0], .v false [.ptr 10 0]] [0, 1, 2, 3, 4, 5, 6, 7, 8, 9, 10, 11, 12, 13, 14, 15, 16, 17] [(13, 3, [.lit (.int .i64 0)]), (9, 33, [.an 8 0, .an 8 1, .an 8 2, .an 8 3, .an 8 4, .an 8 5, .an 8 6, .an 8 7]), (10, 31, [.an 10 0, .an 10 1, .an 10 2, .an 10 3])], clb 19 36 [ag 8 6, .v false [.ptr 13 0], .v false [.ptr 9 0], .v false [.ptr 10 0]] [0, 1, 2, 3, 4, 5, 6, 7, 8, 9, 10, 11, 12, 13, 14, 15, 16, 17, 18] [(13, 3, [.lit (.int .i64 0)]), (9, 33, [.an 8 0, .an 8 1, .an 8 2, .an 8 3, .an 8 4, .an 8 5, .an 8 6, .an 8 7]), (10, 31, [.an 10 0, .an 10 1, .an 10 2, .an 10 3])], clb 20 36 [ag 8 7, .v false [.ptr 13 0], .v false [.ptr 9 0], .v false [.ptr 10 0]] [0, 1, 2, 3, 4, 5, 6, 7, 8, 9, 10, 11, 12, 13, 14, 15, 16, 17, 18, 19] [(13, 3, [.lit (.int .i64 0)]), (9, 33, [.an 8 0, .an 8 1, .an 8 2, .an 8 3, .an 8 4, .an 8 5, .an 8 6, .an 8 7]), (10, 31, [.an 10 0, .an 10 1, .an 10 2, .an 10 3])], clb 21 36 [.v true [.an 7 8, .an 7 9, .an 7 10, .an 7 11, .an 7 12, .an 7 13, .an 7 14, .an 7 15], .v false [.ptr 13 0], .v false [.ptr 9 0], .v false [.ptr 10 0]] [0, 1, 2, 3, 4, 5, 6, 7, 8, 9, 10, 11, 12, 13, 14, 15, 16, 17, 18, 19, 20] [(13, 3, [.lit (.int .i64 0)]), (9, 33, [.an 8 0, .an 8 1, .an 8 2, .an 8 3, .an 8 4, .an 8 5, .an 8 6, .an 8 7]), (10, 31, [.an 10 0, .an 10 1, .an 10 2, .an 10 3])], cl 22 31 [.v false [.lit (.int .i64 1)]], cl 23 30 [ag 2 22], cl 24 23 [.v true [.an 18 0, .an 18 1, .an 18 2, .an 18 3, .an 18 4, .an 18 5, .an 18 6, .an 18 7, .an 19 0, .an 19 1, .an 19 2, .an 19 3, .an 19 4, .an 19 5, .an 19 6, .an 19 7], .v true [.an 20 0, .an 20 1, .an 20 2, .an 20 3, .an 20 4, .an 20 5, .an 20 6, .an 20 7, .an 21 0, .an 21 1, .an 21 2, .an 21 3, .an 21 4, .an 21 5, .an 21 6, .an 21 7]], cl 25 34 [ag 4 11, ag 4 23], cl 26 33 [ag 4 24, ag 4 25], cl 27 25 [.v true [.an 18 0, .an 18 1, .an 18 2, .an 18 3, .an 18 4, .an 18 5, .an 18 6, .an 18 7, .an 19 0, .an 19 1, .an 19 2, .an 19 3, .an 19 4, .an 19 5, .an 19 6, .an 19 7], .v true [.an 20 0, .an 20 1, .an 20 2, .an 20 3, .an 20 4, .an 20 5, .an 20 6, .an 20 7, .an 21 0, .an 21 1, .an 21 2, .an 21 3, .an 21 4, .an 21 5, .an 21 6, .an 21 7]], cl 28 34 [ag 4 12, ag 4 23], cl 29 33 [ag 4 27, ag 4 28], clb 30 36 [.v true [.an 6 8, .an 6 9, .an 6 10, .an 6 11, .an 6 12, .an 6 13, .an 6 14, .an 6 15], .v false [.ptr 17 0], .v false [.ptr 9 0], .v false [.ptr 10 0]] [0, 1, 2, 3, 4, 5, 6, 7, 8, 9, 10, 11, 12, 13, 14, 15, 16, 17, 18, 19, 20, 21, 22, 23, 24, 25, 26, 27, 28, 29] [(17, 3, [.lit (.int .i64 1)]), (9, 33, [.an 8 0, .an 8 1, .an 8 2, .an 8 3, .an 8 4, .an 8 5, .an 8 6, .an 8 7]), (10, 31, [.an 10 0, .an 10 1, .an 10 2, .an 10 3])], clb 31 36 [ag 8 6, .v false [.ptr 17 0], .v false [.ptr 9 0], .v false [.ptr 10 0]] [0, 1, 2, 3, 4, 5, 6, 7, 8, 9, 10, 11, 12, 13, 14, 15, 16, 17, 18, 19, 20, 21, 22, 23, 24, 25, 26, 27, 28, 29, 30] [(17, 3, [.lit (.int .i64 1)]), (9, 33, [.an 8 0, .an 8 1, .an 8 2, .an 8 3, .an 8 4, .an 8 5, .an 8 6, .an 8 7]), (10, 31, [.an 10 0, .an 10 1, .an 10 2, .an 10 3])], clb 32 36 [ag 8 7, .v false [.ptr 17 0], .v false [.ptr 9 0], .v false [.ptr 10 0]] [0, 1, 2, 3, 4, 5, 6, 7, 8, 9, 10, 11, 12, 13, 14, 15, 16, 17, 18, 19, 20, 21, 22, 23, 24, 25, 26, 27, 28, 29, 30, 31] [(17, 3, [.lit (.int .i64 1)]), (9, 33, [.an 8 0, .an 8 1, .an 8 2, .an 8 3, .an 8 4, .an 8 5, .an 8 6, .an 8 7]), (10, 31, [.an 10 0, .an 10 1, .an 10 2, .an 10 3])], clb 33 36 [.v true [.an 7 8, .an 7 9, .an 7 10, .an 7 11, .an 7 12, .an 7 13, .an 7 14, .an 7 15], .v false [.ptr 17 0], .v false [.ptr 9 0], .v false [.ptr 10 0]] [0, 1, 2, 3, 4, 5, 6, 7, 8, 9, 10, 11, 12, 13, 14, 15, 16, 17, 18, 19, 20, 21, 22, 23, 24, 25, 26, 27, 28, 29, 30, 31, 32] [(17, 3, [.lit (.int .i64 1)]), (9, 33, [.an 8 0, .an 8 1, .an 8 2, .an 8 3, .an 8 4, .an 8 5, .an 8 6, .an 8 7]), (10, 31, [.an 10 0, .an 10 1, .an 10 2, .an 10 3])], cl 34 31 [.v false [.lit (.int .i64 1)]], cl 35 30 [ag 2 34], cl 36 23 [.v true [.an 30 0, .an 30 1, .an 30 2, .an 30 3, .an 30 4, .an 30 5, .an 30 6, .an 30 7, .an 31 0, .an 31 1, .an 31 2, .an 31 3, .an 31 4, .an 31 5, .an 31 6, .an 31 7], .v true [.an 32 0, .an 32 1, .an 32 2, .an 32 3, .an 32 4, .an 32 5, .an 32 6, .an 32 7, .an 33 0, .an 33 1, .an 33 2, .an 33 3, .an 33 4, .an 33 5, .an 33 6, .an 33 7]], cl 37 34 [ag 4 11, ag 4 35], cl 38 33 [ag 4 36, ag 4 37], cl 39 25 [.v true [.an 30 0, .an 30 1, .an 30 2, .an 30 3, .an 30 4, .an 30 5, .an 30 6, .an 30 7, .an 31 0, .an 31 1, .an 31 2, .an 31 3, .an 31 4, .an 31 5, .an 31 6, .an 31 7], .v true [.an 32 0, .an 32 1, .an 32 2, .an 32 3, .an 32 4, .an 32 5, .an 32 6, .an 32 7, .an 33 0, .an 33 1, .an 33 2, .an 33 3, .an 33 4, .an 33 5, .an 33 6, .an 33 7]], cl 40 34 [ag 4 12, ag 4 35], cl 41 33 [ag 4 39, ag 4 40], clb 42 36 [.v true [.an 6 8, .an 6 9, .an 6 10, .an 6 11, .an 6 12, .an 6 13, .an 6 14, .an 6 15], .v false [.ptr 21 0], .v false [.ptr 9 0], .v false [.ptr 10 0]] [0, 1, 2, 3, 4, 5, 6, 7, 8, 9, 10, 11, 12, 13, 14, 15, 16, 17, 18, 19, 20, 21, 22, 23, 24, 25, 26, 27, 28, 29, 30, 31, 32, 33, 34, 35, 36, 37, 38, 39, 40, 41] [(21, 3, [.lit (.int .i64 2)]), (9, 33, [.an 8 0, .an 8 1, .an 8 2, .an 8 3, .an 8 4, .an 8 5, .an 8 6, .an 8 7]), (10, 31, [.an 10 0, .an 10 1, .an 10 2, .an 10 3])], clb 43 36 [ag 8 6, .v false [.ptr 21 0], .v false [.ptr 9 0], .v false [.ptr 10 0]] [0, 1, 2, 3, 4, 5, 6, 7, 8, 9, 10, 11, 12, 13, 14, 15, 16, 17, 18, 19, 20, 21, 22, 23, 24, 25, 26, 27, 28, 29, 30, 31, 32, 33, 34, 35, 36, 37, 38, 39, 40, 41, 42] [(21, 3, [.lit (.int .i64 2)]), (9, 33, [.an 8 0, .an 8 1, .an 8 2, .an 8 3, .an 8 4, .an 8 5, .an 8 6, .an 8 7]), (10, 31, [.an 10 0, .an 10 1, .an 10 2, .an 10 3])], clb 44 36 [ag 8 7, .v false [.ptr 21 0], .v false [.ptr 9 0], .v false [.ptr 10 0]] [0, 1, 2, 3, 4, 5, 6, 7, 8, 9, 10, 11, 12, 13, 14, 15, 16, 17, 18, 19, 20, 21, 22, 23, 24, 25, 26, 27, 28, 29, 30, 31, 32, 33, 34, 35, 36, 37, 38, 39, 40, 41, 42, 43] [(21, 3, [.lit (.int .i64 2)]), (9, 33, [.an 8 0, .an 8 1, .an 8 2, .an 8 3, .an 8 4, .an 8 5, .an 8 6, .an 8 7]), (10, 31, [.an 10 0, .an 10 1, .an 10 2, .an 10 3])], clb 45 36 [.v true [.an 7 8, .an 7 9, .an 7 10, .an 7 11, .an 7 12, .an 7 13, .an 7 14, .an 7 15], .v false [.ptr 21 0], .v false [.ptr 9 0], .v false [.ptr 10 0]] [0, 1, 2, 3, 4, 5, 6, 7, 8, 9, 10, 11, 12, 13, 14, 15, 16, 17, 18, 19, 20, 21, 22, 23, 24, 25, 26, 27, 28, 29, 30, 31, 32, 33, 34, 35, 36, 37, 38, 39, 40, 41, 42, 43, 44] [(21, 3, [.lit (.int .i64 2)]), (9, 33, [.an 8 0, .an 8 1, .an 8 2, .an 8 3, .an 8 4, .an 8 5, .an 8 6, .an 8 7]), (10, 31, [.an 10 0, .an 10 1, .an 10 2, .an 10 3])], cl 46 31 [.v false [.lit (.int .i64 1)]], cl 47 30 [ag 2 46], cl 48 23 [.v true [.an 42 0, .an 42 1, .an 42 2, .an 42 3, .an 42 4, .an 42 5, .an 42 6, .an 42 7, .an 43 0, .an 43 1, .an 43 2, .an 43 3, .an 43 4, .an 43 5, .an 43 6, .an 43 7], .v true [.an 44 0, .an 44 1, .an 44 2, .an 44 3, .an 44 4, .an 44 5, .an 44 6, .an 44 7, .an 45 0, .an 45 1, .an 45 2, .an 45 3, .an 45 4, .an 45 5, .an 45 6, .an 45 7]], cl 49 34 [ag 4 11, ag 4 47], cl 50 33 [ag 4 48, ag 4 49], cl 51 25 [.v true [.an 42 0, .an 42 1, .an 42 2, .an 42 3, .an 42 4, .an 42 5, .an 42 6, .an 42 7, .an 43 0, .an 43 1, .an 43 2, .an 43 3, .an 43 4, .an 43 5, .an 43 6, .an 43 7], .v true [.an 44 0, .an 44 1, .an 44 2, .an 44 3, .an 44 4, .an 44 5, .an 44 6, .an 44 7, .an 45 0, .an 45 1, .an 45 2, .an 45 3, .an 45 4, .an 45 5, .an 45 6, .an 45 7]], cl 52 34 [ag 4 12, ag 4 47], cl 53 33 [ag 4 51, ag 4 52], clb 54 36 [.v true [.an 6 8, .an 6 9, .an 6 10, .an 6 11, .an 6 12, .an 6 13, .an 6 14, .an 6 15], .v false [.ptr 25 0], .v false [.ptr 9 0], .v false [.ptr 10 0]] [0, 1, 2, 3, 4, 5, 6, 7, 8, 9, 10, 11, 12, 13, 14, 15, 16, 17, 18, 19, 20, 21, 22, 23, 24, 25, 26, 27, 28, 29, 30, 31, 32, 33, 34, 35, 36, 37, 38, 39, 40, 41, 42, 43, 44, 45, 46, 47, 48, 49, 50, 51, 52, 53] [(25, 3, [.lit (.int .i64 3)]), (9, 33, [.an 8 0, .an 8 1, .an 8 2, .an 8 3, .an 8 4, .an 8 5, .an 8 6, .an 8 7]), (10, 31, [.an 10 0, .an 10 1, .an 10 2, .an 10 3])], clb 55 36 [ag 8 6, .v false [.ptr 25 0], .v false [.ptr 9 0], .v false [.ptr 10 0]] [0, 1, 2, 3, 4, 5, 6, 7, 8, 9, 10, 11, 12, 13, 14, 15, 16, 17, 18, 19, 20, 21, 22, 23, 24, 25, 26, 27, 28, 29, 30, 31, 32, 33, 34, 35, 36, 37, 38, 39, 40, 41, 42, 43, 44, 45, 46, 47, 48, 49, 50, 51, 52, 53, 54] [(25, 3, [.lit (.int .i64 3)]), (9, 33, [.an 8 0, .an 8 1, .an 8 2, .an 8 3, .an 8 4, .an 8 5, .an 8 6, .an 8 7]), (10, 31, [.an 10 0, .an 10 1, .an 10 2, .an 10 3])], clb 56 36 [ag 8 7, .v false [.ptr 25 0], .v false [.ptr 9 0], .v false [.ptr 10 0]] [0, 1, 2, 3, 4, 5, 6, 7, 8, 9, 10, 11, 12, 13, 14, 15, 16, 17, 18, 19, 20, 21, 22, 23, 24, 25, 26, 27, 28, 29, 30, 31, 32, 33, 34, 35, 36, 37, 38, 39, 40, 41, 42, 43, 44, 45, 46, 47, 48, 49, 50, 51, 52, 53, 54, 55] [(25, 3, [.lit (.int .i64 3)]), (9, 33, [.an 8 0, .an 8 1, .an 8 2, .an 8 3, .an 8 4, .an 8 5, .an 8 6, .an 8 7]), (10, 31, [.an 10 0, .an 10 1, .an 10 2, .an 10 3])], clb 57 36 [.v true [.an 7 8, .an 7 9, .an 7 10, .an 7 11, .an 7 12, .an 7 13, .an 7 14, .an 7 15], .v false [.ptr 25 0], .v false [.ptr 9 0], .v false [.ptr 10 0]] [0, 1, 2, 3, 4, 5, 6, 7, 8, 9, 10, 11, 12, 13, 14, 15, 16, 17, 18, 19, 20, 21, 22, 23, 24, 25, 26, 27, 28, 29, 30, 31, 32, 33, 34, 35, 36, 37, 38, 39, 40, 41, 42, 43, 44, 45, 46, 47, 48, 49, 50, 51, 52, 53, 54, 55, 56] [(25, 3, [.lit (.int .i64 3)]), (9, 33, [.an 8 0, .an 8 1, .an 8 2, .an 8 3, .an 8 4, .an 8 5, .an 8 6, .an 8 7]), (10, 31, [.an 10 0, .an 10 1, .an 10 2, .an 10 3])], cl 58 31 [.v false [.lit (.int .i64 1)]], cl 59 30 [ag 2 58], cl 60 34 [ag 4 10, ag 4 10], cl 61 23 [.v true [.an 54 0, .an 54 1, .an 54 2, .an 54 3, .an 54 4, .an 54 5, .an 54 6, .an 54 7, .an 55 0, .an 55 1, .an 55 2, .an 55 3, .an 55 4, .an 55 5, .an 55 6, .an 55 7], .v true [.an 56 0, .an 56 1, .an 56 2, .an 56 3, .an 56 4, .an 56 5, .an 56 6, .an 56 7, .an 57 0, .an 57 1, .an 57 2, .an 57 3, .an 57 4, .an 57 5, .an 57 6, .an 57 7]], cl 62 34 [ag 4 11, ag 4 60], cl 63 33 [ag 4 61, ag 4 62], cl 64 25 [.v true [.an 54 0, .an 54 1, .an 54 2, .an 54 3, .an 54 4, .an 54 5, .an 54 6, .an 54 7, .an 55 0, .an 55 1, .an 55 2, .an 55 3, .an 55 4, .an 55 5, .an 55 6, .an 55 7], .v true [.an 56 0, .an 56 1, .an 56 2, .an 56 3, .an 56 4, .an 56 5, .an 56 6, .an 56 7, .an 57 0, .an 57 1, .an 57 2, .an 57 3, .an 57 4, .an 57 5, .an 57 6, .an 57 7]], cl 65 34 [ag 4 12, ag 4 60], cl 66 33 [ag 4 64, ag 4 65]]) (out := .v false [.lit (.bool true)]) (nc := 67) (by kernel_rfl)
      ⟨fun σ W g h hb => toUH (argl (congr3 (h 0 rfl) (h 1 rfl)) (LSeg12_any W x0 y0 d0 x1 y1 d1 a0 b0 c0 e0 a1 b1 c1 e1 (hTab.kept g (by simp)))),
      fun σ W g h hb => toUH (argl (congr3 (h 2 rfl) (h 3 rfl)) (LSeg12_any W x2 y2 d2 x3 y3 d3 a2 b2 c2 e2 a3 b3 c3 e3 (hTab.kept g (by simp)))),
      fun σ W g h hb => arg1 (h 4 rfl) (LAt_any W x4 y4 d4 a4 b4 c4 e4 (hTab.kept g (by simp))),
      fun σ W g h hb => arg1 (h 5 rfl) (ZOf_any W n n1 n2),
      fun σ W g h hb => FWholeOf_any W _ n 1 (h 9 rfl) (by omega) (b1int n1 n2),
      fun σ W g h hb => RLeast_any W _ _ (lat x0 y0 d0) (lat x1 y1 d1) (lat x2 y2 d2) (lat x3 y3 d3) 1 (uh1 (h 6 rfl)) (uh1 (h 7 rfl)) (by omega) (lat_b a0 b0 c0 e0) (lat_b a1 b1 c1 e1) (lat_b a2 b2 c2 e2) (lat_b a3 b3 c3 e3) (hTab.kept g (by simp)),
      fun σ W g h hb => RMost_any W _ _ (lat x0 y0 d0) (lat x1 y1 d1) (lat x2 y2 d2) (lat x3 y3 d3) 1 (uh1 (h 6 rfl)) (uh1 (h 7 rfl)) (by omega) (lat_b a0 b0 c0 e0) (lat_b a1 b1 c1 e1) (lat_b a2 b2 c2 e2) (lat_b a3 b3 c3 e3) (hTab.kept g (by simp)),
      fun σ W g h hb => toV (LKnown12_any W (hTab.kept g (by simp))) rfl,
      fun σ W g h hb => RLeast_any W _ _ (lat x2 y2 d2) (lat x3 y3 d3) (lat x0 y0 d0) (lat x1 y1 d1) 1 (uh1 (h 7 rfl)) (uh1 (h 6 rfl)) (by omega) (lat_b a2 b2 c2 e2) (lat_b a3 b3 c3 e3) (lat_b a0 b0 c0 e0) (lat_b a1 b1 c1 e1) (hTab.kept g (by simp)),
      fun σ W g h hb => toV (FCmp_any W _ _ (leastP (lat x2 y2 d2) (lat x3 y3 d3) (lat x0 y0 d0) (lat x1 y1 d1)) (leastP (lat x0 y0 d0) (lat x1 y1 d1) (lat x2 y2 d2) (lat x3 y3 d3)) 1000 (h 14 rfl) (h 11 rfl) (by omega) bLT.1 bLT.2 bL.1 bL.2) (by rw [rcmp_eq (swap_least _ _ _ _)]),
      fun σ W g h hb => RMost_any W _ _ (lat x2 y2 d2) (lat x3 y3 d3) (lat x0 y0 d0) (lat x1 y1 d1) 1 (uh1 (h 7 rfl)) (uh1 (h 6 rfl)) (by omega) (lat_b a2 b2 c2 e2) (lat_b a3 b3 c3 e3) (lat_b a0 b0 c0 e0) (lat_b a1 b1 c1 e1) (hTab.kept g (by simp)),
      fun σ W g h hb => toV (FCmp_any W _ _ (mostP (lat x2 y2 d2) (lat x3 y3 d3) (lat x0 y0 d0) (lat x1 y1 d1)) (mostP (lat x0 y0 d0) (lat x1 y1 d1) (lat x2 y2 d2) (lat x3 y3 d3)) 1000 (h 16 rfl) (h 12 rfl) (by omega) bMT.1 bMT.2 bM.1 bM.2) (by rw [rcmp_eq (swap_most _ _ _ _)]),
      fun σ W g h hb => LF12_0 W _ _ _ _ _ _ _ _ _ _ _ _ _ _ _ _ (lat x1 y1 d1) (lat x4 y4 d4) (n : Rat) (sg2 (uh1 (h 6 rfl))) (hb.1 _ (.head _)) (hb.1 _ (.tail _ (.head _))) (h 8 rfl) (hb.1 _ (.tail _ (.tail _ (.head _)))) (h 10 rfl) (hb.2 _ (.head _) _ (.tail _ (.head _)) (by decide)) (hb.2 _ (.head _) _ (.tail _ (.tail _ (.head _))) (by decide)) (hb.2 _ (.tail _ (.head _)) _ (.tail _ (.tail _ (.head _))) (by decide)) (lat_b a1 b1 c1 e1) (lat_b a4 b4 c4 e4) bn (hTab.kept g (by simp)),
      fun σ W g h hb => LF12_0 W _ _ _ _ _ _ _ _ _ _ _ _ _ _ _ _ (lat x0 y0 d0) (lat x4 y4 d4) (n : Rat) (sg1 (uh1 (h 6 rfl))) (hb.1 _ (.head _)) (hb.1 _ (.tail _ (.head _))) (h 8 rfl) (hb.1 _ (.tail _ (.tail _ (.head _)))) (h 10 rfl) (hb.2 _ (.head _) _ (.tail _ (.head _)) (by decide)) (hb.2 _ (.head _) _ (.tail _ (.tail _ (.head _))) (by decide)) (hb.2 _ (.tail _ (.head _)) _ (.tail _ (.tail _ (.head _))) (by decide)) (lat_b a0 b0 c0 e0) (lat_b a4 b4 c4 e4) bn (hTab.kept g (by simp)),
      fun σ W g h hb => LF12_0 W _ _ _ _ _ _ _ _ _ _ _ _ _ _ _ _ (lat x2 y2 d2) (lat x4 y4 d4) (n : Rat) (sg1 (uh1 (h 7 rfl))) (hb.1 _ (.head _)) (hb.1 _ (.tail _ (.head _))) (h 8 rfl) (hb.1 _ (.tail _ (.tail _ (.head _)))) (h 10 rfl) (hb.2 _ (.head _) _ (.tail _ (.head _)) (by decide)) (hb.2 _ (.head _) _ (.tail _ (.tail _ (.head _))) (by decide)) (hb.2 _ (.tail _ (.head _)) _ (.tail _ (.tail _ (.head _))) (by decide)) (lat_b a2 b2 c2 e2) (lat_b a4 b4 c4 e4) bn (hTab.kept g (by simp)),
      fun σ W g h hb => LF12_0 W _ _ _ _ _ _ _ _ _ _ _ _ _ _ _ _ (lat x3 y3 d3) (lat x4 y4 d4) (n : Rat) (sg2 (uh1 (h 7 rfl))) (hb.1 _ (.head _)) (hb.1 _ (.tail _ (.head _))) (h 8 rfl) (hb.1 _ (.tail _ (.tail _ (.head _)))) (h 10 rfl) (hb.2 _ (.head _) _ (.tail _ (.head _)) (by decide)) (hb.2 _ (.head _) _ (.tail _ (.tail _ (.head _))) (by decide)) (hb.2 _ (.tail _ (.head _)) _ (.tail _ (.tail _ (.head _))) (by decide)) (lat_b a3 b3 c3 e3) (lat_b a4 b4 c4 e4) bn (hTab.kept g (by simp)),
      fun σ W g h hb => ZOf_any W 1 (by omega) (by omega),
      fun σ W g h hb => (show ((1 : Int) : Rat) = 1 from rfl) ▸ FWholeOf_any W _ 1 1 (h 22 rfl) (by omega) (by decide),
      fun σ W g h hb => RLeast_any W _ _ ((lat x1 y1 d1).1 + (lat x4 y4 d4).1, (lat x1 y1 d1).2 + (lat x4 y4 d4).2) ((lat x0 y0 d0).1 + (lat x4 y4 d4).1, (lat x0 y0 d0).2 + (lat x4 y4 d4).2) ((lat x2 y2 d2).1 + (lat x4 y4 d4).1, (lat x2 y2 d2).2 + (lat x4 y4 d4).2) ((lat x3 y3 d3).1 + (lat x4 y4 d4).1, (lat x3 y3 d3).2 + (lat x4 y4 d4).2) 3 (mksg (h 18 rfl) (h 19 rfl)) (mksg (h 20 rfl) (h 21 rfl)) (by omega) (Bp.move (lat_b a1 b1 c1 e1) (lat_b a4 b4 c4 e4)) (Bp.move (lat_b a0 b0 c0 e0) (lat_b a4 b4 c4 e4)) (Bp.move (lat_b a2 b2 c2 e2) (lat_b a4 b4 c4 e4)) (Bp.move (lat_b a3 b3 c3 e3) (lat_b a4 b4 c4 e4)) (hTab.kept g (by simp)),
      fun σ W g h hb => FMul_any W _ _ _ _ 60 (h 11 rfl) (h 23 rfl) (by omega) bL0.1 bL0.2 bk1.1 bk1.2 (hTab.kept g (by simp)),
      fun σ W g h hb => toV (FCmp_any W _ _ (leastP ((lat x1 y1 d1).1 + (lat x4 y4 d4).1, (lat x1 y1 d1).2 + (lat x4 y4 d4).2) ((lat x0 y0 d0).1 + (lat x4 y4 d4).1, (lat x0 y0 d0).2 + (lat x4 y4 d4).2) ((lat x2 y2 d2).1 + (lat x4 y4 d4).1, (lat x2 y2 d2).2 + (lat x4 y4 d4).2) ((lat x3 y3 d3).1 + (lat x4 y4 d4).1, (lat x3 y3 d3).2 + (lat x4 y4 d4).2)) ((leastP (lat x0 y0 d0) (lat x1 y1 d1) (lat x2 y2 d2) (lat x3 y3 d3)) * 1) 1000 (h 24 rfl) (h 25 rfl) (by omega) bl0.1 bl0.2 cl0.1 cl0.2) (by rw [rcmp_eq (stays_least (like_move (lat x4 y4 d4)) _ _ _ _)]),
      fun σ W g h hb => RMost_any W _ _ ((lat x1 y1 d1).1 + (lat x4 y4 d4).1, (lat x1 y1 d1).2 + (lat x4 y4 d4).2) ((lat x0 y0 d0).1 + (lat x4 y4 d4).1, (lat x0 y0 d0).2 + (lat x4 y4 d4).2) ((lat x2 y2 d2).1 + (lat x4 y4 d4).1, (lat x2 y2 d2).2 + (lat x4 y4 d4).2) ((lat x3 y3 d3).1 + (lat x4 y4 d4).1, (lat x3 y3 d3).2 + (lat x4 y4 d4).2) 3 (mksg (h 18 rfl) (h 19 rfl)) (mksg (h 20 rfl) (h 21 rfl)) (by omega) (Bp.move (lat_b a1 b1 c1 e1) (lat_b a4 b4 c4 e4)) (Bp.move (lat_b a0 b0 c0 e0) (lat_b a4 b4 c4 e4)) (Bp.move (lat_b a2 b2 c2 e2) (lat_b a4 b4 c4 e4)) (Bp.move (lat_b a3 b3 c3 e3) (lat_b a4 b4 c4 e4)) (hTab.kept g (by simp)),
      fun σ W g h hb => FMul_any W _ _ _ _ 60 (h 12 rfl) (h 23 rfl) (by omega) bM0.1 bM0.2 bk1.1 bk1.2 (hTab.kept g (by simp)),
      fun σ W g h hb => toV (FCmp_any W _ _ (mostP ((lat x1 y1 d1).1 + (lat x4 y4 d4).1, (lat x1 y1 d1).2 + (lat x4 y4 d4).2) ((lat x0 y0 d0).1 + (lat x4 y4 d4).1, (lat x0 y0 d0).2 + (lat x4 y4 d4).2) ((lat x2 y2 d2).1 + (lat x4 y4 d4).1, (lat x2 y2 d2).2 + (lat x4 y4 d4).2) ((lat x3 y3 d3).1 + (lat x4 y4 d4).1, (lat x3 y3 d3).2 + (lat x4 y4 d4).2)) ((mostP (lat x0 y0 d0) (lat x1 y1 d1) (lat x2 y2 d2) (lat x3 y3 d3)) * 1) 1000 (h 27 rfl) (h 28 rfl) (by omega) bm0.1 bm0.2 cm0.1 cm0.2) (by rw [rcmp_eq (stays_most (like_move (lat x4 y4 d4)) _ _ _ _)]),
      fun σ W g h hb => LF12_1 W _ _ _ _ _ _ _ _ _ _ _ _ _ _ _ _ (lat x1 y1 d1) (lat x4 y4 d4) (n : Rat) (sg2 (uh1 (h 6 rfl))) (hb.1 _ (.head _)) (hb.1 _ (.tail _ (.head _))) (h 8 rfl) (hb.1 _ (.tail _ (.tail _ (.head _)))) (h 10 rfl) (hb.2 _ (.head _) _ (.tail _ (.head _)) (by decide)) (hb.2 _ (.head _) _ (.tail _ (.tail _ (.head _))) (by decide)) (hb.2 _ (.tail _ (.head _)) _ (.tail _ (.tail _ (.head _))) (by decide)) (lat_b a1 b1 c1 e1) (lat_b a4 b4 c4 e4) bn (hTab.kept g (by simp)),
      fun σ W g h hb => LF12_1 W _ _ _ _ _ _ _ _ _ _ _ _ _ _ _ _ (lat x0 y0 d0) (lat x4 y4 d4) (n : Rat) (sg1 (uh1 (h 6 rfl))) (hb.1 _ (.head _)) (hb.1 _ (.tail _ (.head _))) (h 8 rfl) (hb.1 _ (.tail _ (.tail _ (.head _)))) (h 10 rfl) (hb.2 _ (.head _) _ (.tail _ (.head _)) (by decide)) (hb.2 _ (.head _) _ (.tail _ (.tail _ (.head _))) (by decide)) (hb.2 _ (.tail _ (.head _)) _ (.tail _ (.tail _ (.head _))) (by decide)) (lat_b a0 b0 c0 e0) (lat_b a4 b4 c4 e4) bn (hTab.kept g (by simp)),
      fun σ W g h hb => LF12_1 W _ _ _ _ _ _ _ _ _ _ _ _ _ _ _ _ (lat x2 y2 d2) (lat x4 y4 d4) (n : Rat) (sg1 (uh1 (h 7 rfl))) (hb.1 _ (.head _)) (hb.1 _ (.tail _ (.head _))) (h 8 rfl) (hb.1 _ (.tail _ (.tail _ (.head _)))) (h 10 rfl) (hb.2 _ (.head _) _ (.tail _ (.head _)) (by decide)) (hb.2 _ (.head _) _ (.tail _ (.tail _ (.head _))) (by decide)) (hb.2 _ (.tail _ (.head _)) _ (.tail _ (.tail _ (.head _))) (by decide)) (lat_b a2 b2 c2 e2) (lat_b a4 b4 c4 e4) bn (hTab.kept g (by simp)),
      fun σ W g h hb => LF12_1 W _ _ _ _ _ _ _ _ _ _ _ _ _ _ _ _ (lat x3 y3 d3) (lat x4 y4 d4) (n : Rat) (sg2 (uh1 (h 7 rfl))) (hb.1 _ (.head _)) (hb.1 _ (.tail _ (.head _))) (h 8 rfl) (hb.1 _ (.tail _ (.tail _ (.head _)))) (h 10 rfl) (hb.2 _ (.head _) _ (.tail _ (.head _)) (by decide)) (hb.2 _ (.head _) _ (.tail _ (.tail _ (.head _))) (by decide)) (hb.2 _ (.tail _ (.head _)) _ (.tail _ (.tail _ (.head _))) (by decide)) (lat_b a3 b3 c3 e3) (lat_b a4 b4 c4 e4) bn (hTab.kept g (by simp)),
      fun σ W g h hb => ZOf_any W 1 (by omega) (by omega),
      fun σ W g h hb => (show ((1 : Int) : Rat) = 1 from rfl) ▸ FWholeOf_any W _ 1 1 (h 34 rfl) (by omega) (by decide),
      fun σ W g h hb => RLeast_any W _ _ (-(lat x1 y1 d1).2, (lat x1 y1 d1).1) (-(lat x0 y0 d0).2, (lat x0 y0 d0).1) (-(lat x2 y2 d2).2, (lat x2 y2 d2).1) (-(lat x3 y3 d3).2, (lat x3 y3 d3).1) 3 (mksg (h 30 rfl) (h 31 rfl)) (mksg (h 32 rfl) (h 33 rfl)) (by omega) (Bp.turn (lat_b a1 b1 c1 e1)) (Bp.turn (lat_b a0 b0 c0 e0)) (Bp.turn (lat_b a2 b2 c2 e2)) (Bp.turn (lat_b a3 b3 c3 e3)) (hTab.kept g (by simp)),
      fun σ W g h hb => FMul_any W _ _ _ _ 60 (h 11 rfl) (h 35 rfl) (by omega) bL0.1 bL0.2 bk1.1 bk1.2 (hTab.kept g (by simp)),
      fun σ W g h hb => toV (FCmp_any W _ _ (leastP (-(lat x1 y1 d1).2, (lat x1 y1 d1).1) (-(lat x0 y0 d0).2, (lat x0 y0 d0).1) (-(lat x2 y2 d2).2, (lat x2 y2 d2).1) (-(lat x3 y3 d3).2, (lat x3 y3 d3).1)) ((leastP (lat x0 y0 d0) (lat x1 y1 d1) (lat x2 y2 d2) (lat x3 y3 d3)) * 1) 1000 (h 36 rfl) (h 37 rfl) (by omega) bl1.1 bl1.2 cl1.1 cl1.2) (by rw [rcmp_eq (stays_least like_turn _ _ _ _)]),
      fun σ W g h hb => RMost_any W _ _ (-(lat x1 y1 d1).2, (lat x1 y1 d1).1) (-(lat x0 y0 d0).2, (lat x0 y0 d0).1) (-(lat x2 y2 d2).2, (lat x2 y2 d2).1) (-(lat x3 y3 d3).2, (lat x3 y3 d3).1) 3 (mksg (h 30 rfl) (h 31 rfl)) (mksg (h 32 rfl) (h 33 rfl)) (by omega) (Bp.turn (lat_b a1 b1 c1 e1)) (Bp.turn (lat_b a0 b0 c0 e0)) (Bp.turn (lat_b a2 b2 c2 e2)) (Bp.turn (lat_b a3 b3 c3 e3)) (hTab.kept g (by simp)),
      fun σ W g h hb => FMul_any W _ _ _ _ 60 (h 12 rfl) (h 35 rfl) (by omega) bM0.1 bM0.2 bk1.1 bk1.2 (hTab.kept g (by simp)),
      fun σ W g h hb => toV (FCmp_any W _ _ (mostP (-(lat x1 y1 d1).2, (lat x1 y1 d1).1) (-(lat x0 y0 d0).2, (lat x0 y0 d0).1) (-(lat x2 y2 d2).2, (lat x2 y2 d2).1) (-(lat x3 y3 d3).2, (lat x3 y3 d3).1)) ((mostP (lat x0 y0 d0) (lat x1 y1 d1) (lat x2 y2 d2) (lat x3 y3 d3)) * 1) 1000 (h 39 rfl) (h 40 rfl) (by omega) bm1.1 bm1.2 cm1.1 cm1.2) (by rw [rcmp_eq (stays_most like_turn _ _ _ _)]),
      fun σ W g h hb => LF12_2 W _ _ _ _ _ _ _ _ _ _ _ _ _ _ _ _ (lat x1 y1 d1) (lat x4 y4 d4) (n : Rat) (sg2 (uh1 (h 6 rfl))) (hb.1 _ (.head _)) (hb.1 _ (.tail _ (.head _))) (h 8 rfl) (hb.1 _ (.tail _ (.tail _ (.head _)))) (h 10 rfl) (hb.2 _ (.head _) _ (.tail _ (.head _)) (by decide)) (hb.2 _ (.head _) _ (.tail _ (.tail _ (.head _))) (by decide)) (hb.2 _ (.tail _ (.head _)) _ (.tail _ (.tail _ (.head _))) (by decide)) (lat_b a1 b1 c1 e1) (lat_b a4 b4 c4 e4) bn (hTab.kept g (by simp)),
      fun σ W g h hb => LF12_2 W _ _ _ _ _ _ _ _ _ _ _ _ _ _ _ _ (lat x0 y0 d0) (lat x4 y4 d4) (n : Rat) (sg1 (uh1 (h 6 rfl))) (hb.1 _ (.head _)) (hb.1 _ (.tail _ (.head _))) (h 8 rfl) (hb.1 _ (.tail _ (.tail _ (.head _)))) (h 10 rfl) (hb.2 _ (.head _) _ (.tail _ (.head _)) (by decide)) (hb.2 _ (.head _) _ (.tail _ (.tail _ (.head _))) (by decide)) (hb.2 _ (.tail _ (.head _)) _ (.tail _ (.tail _ (.head _))) (by decide)) (lat_b a0 b0 c0 e0) (lat_b a4 b4 c4 e4) bn (hTab.kept g (by simp)),
      fun σ W g h hb => LF12_2 W _ _ _ _ _ _ _ _ _ _ _ _ _ _ _ _ (lat x2 y2 d2) (lat x4 y4 d4) (n : Rat) (sg1 (uh1 (h 7 rfl))) (hb.1 _ (.head _)) (hb.1 _ (.tail _ (.head _))) (h 8 rfl) (hb.1 _ (.tail _ (.tail _ (.head _)))) (h 10 rfl) (hb.2 _ (.head _) _ (.tail _ (.head _)) (by decide)) (hb.2 _ (.head _) _ (.tail _ (.tail _ (.head _))) (by decide)) (hb.2 _ (.tail _ (.head _)) _ (.tail _ (.tail _ (.head _))) (by decide)) (lat_b a2 b2 c2 e2) (lat_b a4 b4 c4 e4) bn (hTab.kept g (by simp)),
      fun σ W g h hb => LF12_2 W _ _ _ _ _ _ _ _ _ _ _ _ _ _ _ _ (lat x3 y3 d3) (lat x4 y4 d4) (n : Rat) (sg2 (uh1 (h 7 rfl))) (hb.1 _ (.head _)) (hb.1 _ (.tail _ (.head _))) (h 8 rfl) (hb.1 _ (.tail _ (.tail _ (.head _)))) (h 10 rfl) (hb.2 _ (.head _) _ (.tail _ (.head _)) (by decide)) (hb.2 _ (.head _) _ (.tail _ (.tail _ (.head _))) (by decide)) (hb.2 _ (.tail _ (.head _)) _ (.tail _ (.tail _ (.head _))) (by decide)) (lat_b a3 b3 c3 e3) (lat_b a4 b4 c4 e4) bn (hTab.kept g (by simp)),
      fun σ W g h hb => ZOf_any W 1 (by omega) (by omega),
      fun σ W g h hb => (show ((1 : Int) : Rat) = 1 from rfl) ▸ FWholeOf_any W _ 1 1 (h 46 rfl) (by omega) (by decide),
      fun σ W g h hb => RLeast_any W _ _ (-(lat x1 y1 d1).1, (lat x1 y1 d1).2) (-(lat x0 y0 d0).1, (lat x0 y0 d0).2) (-(lat x2 y2 d2).1, (lat x2 y2 d2).2) (-(lat x3 y3 d3).1, (lat x3 y3 d3).2) 3 (mksg (h 42 rfl) (h 43 rfl)) (mksg (h 44 rfl) (h 45 rfl)) (by omega) (Bp.mirr (lat_b a1 b1 c1 e1)) (Bp.mirr (lat_b a0 b0 c0 e0)) (Bp.mirr (lat_b a2 b2 c2 e2)) (Bp.mirr (lat_b a3 b3 c3 e3)) (hTab.kept g (by simp)),
      fun σ W g h hb => FMul_any W _ _ _ _ 60 (h 11 rfl) (h 47 rfl) (by omega) bL0.1 bL0.2 bk1.1 bk1.2 (hTab.kept g (by simp)),
      fun σ W g h hb => toV (FCmp_any W _ _ (leastP (-(lat x1 y1 d1).1, (lat x1 y1 d1).2) (-(lat x0 y0 d0).1, (lat x0 y0 d0).2) (-(lat x2 y2 d2).1, (lat x2 y2 d2).2) (-(lat x3 y3 d3).1, (lat x3 y3 d3).2)) ((leastP (lat x0 y0 d0) (lat x1 y1 d1) (lat x2 y2 d2) (lat x3 y3 d3)) * 1) 1000 (h 48 rfl) (h 49 rfl) (by omega) bl2.1 bl2.2 cl2.1 cl2.2) (by rw [rcmp_eq (stays_least like_mirror _ _ _ _)]),
      fun σ W g h hb => RMost_any W _ _ (-(lat x1 y1 d1).1, (lat x1 y1 d1).2) (-(lat x0 y0 d0).1, (lat x0 y0 d0).2) (-(lat x2 y2 d2).1, (lat x2 y2 d2).2) (-(lat x3 y3 d3).1, (lat x3 y3 d3).2) 3 (mksg (h 42 rfl) (h 43 rfl)) (mksg (h 44 rfl) (h 45 rfl)) (by omega) (Bp.mirr (lat_b a1 b1 c1 e1)) (Bp.mirr (lat_b a0 b0 c0 e0)) (Bp.mirr (lat_b a2 b2 c2 e2)) (Bp.mirr (lat_b a3 b3 c3 e3)) (hTab.kept g (by simp)),
      fun σ W g h hb => FMul_any W _ _ _ _ 60 (h 12 rfl) (h 47 rfl) (by omega) bM0.1 bM0.2 bk1.1 bk1.2 (hTab.kept g (by simp)),
      fun σ W g h hb => toV (FCmp_any W _ _ (mostP (-(lat x1 y1 d1).1, (lat x1 y1 d1).2) (-(lat x0 y0 d0).1, (lat x0 y0 d0).2) (-(lat x2 y2 d2).1, (lat x2 y2 d2).2) (-(lat x3 y3 d3).1, (lat x3 y3 d3).2)) ((mostP (lat x0 y0 d0) (lat x1 y1 d1) (lat x2 y2 d2) (lat x3 y3 d3)) * 1) 1000 (h 51 rfl) (h 52 rfl) (by omega) bm2.1 bm2.2 cm2.1 cm2.2) (by rw [rcmp_eq (stays_most like_mirror _ _ _ _)]),
      fun σ W g h hb => LF12_3 W _ _ _ _ _ _ _ _ _ _ _ _ _ _ _ _ (lat x1 y1 d1) (lat x4 y4 d4) (n : Rat) (sg2 (uh1 (h 6 rfl))) (hb.1 _ (.head _)) (hb.1 _ (.tail _ (.head _))) (h 8 rfl) (hb.1 _ (.tail _ (.tail _ (.head _)))) (h 10 rfl) (hb.2 _ (.head _) _ (.tail _ (.head _)) (by decide)) (hb.2 _ (.head _) _ (.tail _ (.tail _ (.head _))) (by decide)) (hb.2 _ (.tail _ (.head _)) _ (.tail _ (.tail _ (.head _))) (by decide)) (lat_b a1 b1 c1 e1) (lat_b a4 b4 c4 e4) bn (hTab.kept g (by simp)),
      fun σ W g h hb => LF12_3 W _ _ _ _ _ _ _ _ _ _ _ _ _ _ _ _ (lat x0 y0 d0) (lat x4 y4 d4) (n : Rat) (sg1 (uh1 (h 6 rfl))) (hb.1 _ (.head _)) (hb.1 _ (.tail _ (.head _))) (h 8 rfl) (hb.1 _ (.tail _ (.tail _ (.head _)))) (h 10 rfl) (hb.2 _ (.head _) _ (.tail _ (.head _)) (by decide)) (hb.2 _ (.head _) _ (.tail _ (.tail _ (.head _))) (by decide)) (hb.2 _ (.tail _ (.head _)) _ (.tail _ (.tail _ (.head _))) (by decide)) (lat_b a0 b0 c0 e0) (lat_b a4 b4 c4 e4) bn (hTab.kept g (by simp)),
      fun σ W g h hb => LF12_3 W _ _ _ _ _ _ _ _ _ _ _ _ _ _ _ _ (lat x2 y2 d2) (lat x4 y4 d4) (n : Rat) (sg1 (uh1 (h 7 rfl))) (hb.1 _ (.head _)) (hb.1 _ (.tail _ (.head _))) (h 8 rfl) (hb.1 _ (.tail _ (.tail _ (.head _)))) (h 10 rfl) (hb.2 _ (.head _) _ (.tail _ (.head _)) (by decide)) (hb.2 _ (.head _) _ (.tail _ (.tail _ (.head _))) (by decide)) (hb.2 _ (.tail _ (.head _)) _ (.tail _ (.tail _ (.head _))) (by decide)) (lat_b a2 b2 c2 e2) (lat_b a4 b4 c4 e4) bn (hTab.kept g (by simp)),
      fun σ W g h hb => LF12_3 W _ _ _ _ _ _ _ _ _ _ _ _ _ _ _ _ (lat x3 y3 d3) (lat x4 y4 d4) (n : Rat) (sg2 (uh1 (h 7 rfl))) (hb.1 _ (.head _)) (hb.1 _ (.tail _ (.head _))) (h 8 rfl) (hb.1 _ (.tail _ (.tail _ (.head _)))) (h 10 rfl) (hb.2 _ (.head _) _ (.tail _ (.head _)) (by decide)) (hb.2 _ (.head _) _ (.tail _ (.tail _ (.head _))) (by decide)) (hb.2 _ (.tail _ (.head _)) _ (.tail _ (.tail _ (.head _))) (by decide)) (lat_b a3 b3 c3 e3) (lat_b a4 b4 c4 e4) bn (hTab.kept g (by simp)),
      fun σ W g h hb => ZOf_any W 1 (by omega) (by omega),
      fun σ W g h hb => (show ((1 : Int) : Rat) = 1 from rfl) ▸ FWholeOf_any W _ 1 1 (h 58 rfl) (by omega) (by decide),
      fun σ W g h hb => FMul_any W _ _ _ _ 1 (h 10 rfl) (h 10 rfl) (by omega) bn.1 bn.2 bn.1 bn.2 (hTab.kept g (by simp)),
      fun σ W g h hb => RLeast_any W _ _ ((lat x1 y1 d1).1 * (n : Rat), (lat x1 y1 d1).2 * (n : Rat)) ((lat x0 y0 d0).1 * (n : Rat), (lat x0 y0 d0).2 * (n : Rat)) ((lat x2 y2 d2).1 * (n : Rat), (lat x2 y2 d2).2 * (n : Rat)) ((lat x3 y3 d3).1 * (n : Rat), (lat x3 y3 d3).2 * (n : Rat)) 3 (mksg (h 54 rfl) (h 55 rfl)) (mksg (h 56 rfl) (h 57 rfl)) (by omega) (Bp.timesn (lat_b a1 b1 c1 e1) bn) (Bp.timesn (lat_b a0 b0 c0 e0) bn) (Bp.timesn (lat_b a2 b2 c2 e2) bn) (Bp.timesn (lat_b a3 b3 c3 e3) bn) (hTab.kept g (by simp)),
      fun σ W g h hb => FMul_any W _ _ _ _ 60 (h 11 rfl) (h 60 rfl) (by omega) bL0.1 bL0.2 bnn.1 bnn.2 (hTab.kept g (by simp)),
      fun σ W g h hb => toV (FCmp_any W _ _ (leastP ((lat x1 y1 d1).1 * (n : Rat), (lat x1 y1 d1).2 * (n : Rat)) ((lat x0 y0 d0).1 * (n : Rat), (lat x0 y0 d0).2 * (n : Rat)) ((lat x2 y2 d2).1 * (n : Rat), (lat x2 y2 d2).2 * (n : Rat)) ((lat x3 y3 d3).1 * (n : Rat), (lat x3 y3 d3).2 * (n : Rat))) ((leastP (lat x0 y0 d0) (lat x1 y1 d1) (lat x2 y2 d2) (lat x3 y3 d3)) * ((n : Rat) * n)) 1000 (h 61 rfl) (h 62 rfl) (by omega) bl3.1 bl3.2 cl3.1 cl3.2) (by rw [rcmp_eq (stays_least (like_times (n : Rat)) _ _ _ _)]),
      fun σ W g h hb => RMost_any W _ _ ((lat x1 y1 d1).1 * (n : Rat), (lat x1 y1 d1).2 * (n : Rat)) ((lat x0 y0 d0).1 * (n : Rat), (lat x0 y0 d0).2 * (n : Rat)) ((lat x2 y2 d2).1 * (n : Rat), (lat x2 y2 d2).2 * (n : Rat)) ((lat x3 y3 d3).1 * (n : Rat), (lat x3 y3 d3).2 * (n : Rat)) 3 (mksg (h 54 rfl) (h 55 rfl)) (mksg (h 56 rfl) (h 57 rfl)) (by omega) (Bp.timesn (lat_b a1 b1 c1 e1) bn) (Bp.timesn (lat_b a0 b0 c0 e0) bn) (Bp.timesn (lat_b a2 b2 c2 e2) bn) (Bp.timesn (lat_b a3 b3 c3 e3) bn) (hTab.kept g (by simp)),
      fun σ W g h hb => FMul_any W _ _ _ _ 60 (h 12 rfl) (h 60 rfl) (by omega) bM0.1 bM0.2 bnn.1 bnn.2 (hTab.kept g (by simp)),
      fun σ W g h hb => toV (FCmp_any W _ _ (mostP ((lat x1 y1 d1).1 * (n : Rat), (lat x1 y1 d1).2 * (n : Rat)) ((lat x0 y0 d0).1 * (n : Rat), (lat x0 y0 d0).2 * (n : Rat)) ((lat x2 y2 d2).1 * (n : Rat), (lat x2 y2 d2).2 * (n : Rat)) ((lat x3 y3 d3).1 * (n : Rat), (lat x3 y3 d3).2 * (n : Rat))) ((mostP (lat x0 y0 d0) (lat x1 y1 d1) (lat x2 y2 d2) (lat x3 y3 d3)) * ((n : Rat) * n)) 1000 (h 64 rfl) (h 65 rfl) (by omega) bm3.1 bm3.2 cm3.1 cm3.2) (by rw [rcmp_eq (stays_most (like_times (n : Rat)) _ _ _ _)]),
      trivial⟩ fun τ W g h => ⟨rfl, g⟩
end Go.Proofs.YtoaepibannfbdaaGreatDoor
namespace Go.Proofs.YtoaepibannfbdaaGreatDoor.ReachStays
open Go.ChangeShapes Go.WideShapes Go.ChangeAt Go.RowKit Go.ChangeMaps
set_option linter.unusedVariables false
set_option linter.unusedSimpArgs false
set_option maxRecDepth 100000
theorem contract (H : Type) (enc : TypeId × Value → H) (W : World) (base : Nat) (args : Array Value) (ds gs : List (DataW H)) (before : List MemPlace)
    (hval : ∀ (j : Nat) t v, Tryz.f8.params[j]? = some t → args[j]? = some v → Value.okWide Tryz.prog W .any base t v)
    (hW : DataW.Whole enc Tryz.prog Tryz.f8.params.toList Rows.reachStaysSpec.vars false W args.toList ds gs before) (hL : laidMetH Tryz.prog Rows.reachStaysRow.laid W) :
    Calls Tryz.prog 8 args W fun e W' => ∃ v, e = .returned v ∧ Rows.reachStaysSpec.post enc Tryz.prog Tryz.f8 false true false false W args v W' := by
  have hW' := hW
  obtain ⟨p, q, hA0, hV, rfl, hfz, hnd⟩ := hW
  have hA : DataW.TrodAll enc Tryz.prog W 0 (fun _ => true) true Tryz.f8.params.toList args.toList ds p := hA0
  rw [Tryz.params8] at hA hval
  obtain ⟨v0, vs0, d0, ds0, p0, q0, hargs0, rfl, rfl, h0, r0⟩ := trodAll_cons hA
  obtain ⟨v1, vs1, d1, ds1, p1, q1, hargs1, rfl, rfl, h1, r1⟩ := trodAll_cons r0
  obtain ⟨v2, vs2, d2, ds2, p2, q2, hargs2, rfl, rfl, h2, r2⟩ := trodAll_cons r1
  obtain ⟨v3, vs3, d3, ds3, p3, q3, hargs3, rfl, rfl, h3, r3⟩ := trodAll_cons r2
  obtain ⟨v4, vs4, d4, ds4, p4, q4, hargs4, rfl, rfl, h4, r4⟩ := trodAll_cons r3
  obtain ⟨v5, vs5, d5, ds5, p5, q5, hargs5, rfl, rfl, h5, r5⟩ := trodAll_cons r4
  obtain ⟨rfl, rfl, rfl⟩ := trodAll_nil r5
  obtain rfl : args = #[v0, v1, v2, v3, v4, v5] := by cases args; simp_all
  obtain ⟨rfl, rfl⟩ := trodVars_none hV
  simp only [List.append_nil] at hW' hfz
  have hlt : ∀ p ∈ p0 ++ (p1 ++ (p2 ++ (p3 ++ (p4 ++ p5)))), p.block < W.heap.size := fun p hp => by
    have := DataW.TrodAll.lt hA p (by simpa using hp)
    exact this
  have hv0 := hval 0 36 v0 rfl rfl
  obtain ⟨x0, y0, z0, rfl, a0, b0, c0⟩ := open_dot hv0 h0
  have hv1 := hval 1 36 v1 rfl rfl
  obtain ⟨x1, y1, z1, rfl, a1, b1, c1⟩ := open_dot hv1 h1
  have hv2 := hval 2 36 v2 rfl rfl
  obtain ⟨x2, y2, z2, rfl, a2, b2, c2⟩ := open_dot hv2 h2
  have hv3 := hval 3 36 v3 rfl rfl
  obtain ⟨x3, y3, z3, rfl, a3, b3, c3⟩ := open_dot hv3 h3
  have hv4 := hval 4 36 v4 rfl rfl
  obtain ⟨x4, y4, z4, rfl, a4, b4, c4⟩ := open_dot hv4 h4
  have hv5 := hval 5 3 v5 rfl rfl
  obtain ⟨x5, rfl, _, _, w5⟩ := open_int Tryz.underlying3 hv5 h5
  clear hA0
  refine (reachStays_walk W x0 y0 z0 x1 y1 z1 x2 y2 z2 x3 y3 z3 x4 y4 z4 x5 a0.1 a0.2 b0.1 b0.2 a1.1 a1.2 b1.1 b1.2 a2.1 a2.2 b2.1 b2.2 a3.1 a3.2 b3.1 b3.2 a4.1 a4.2 b4.1 b4.2 (i64_wf w5).1 (i64_wf w5).2 (tab_of hL)).mono fun e W' ⟨he, hg⟩ => ?_
  subst he
  have hs0 : ∀ sp : Nat → Bool, (∀ p ∈ p0, sp p.block = true) → DataW.Trod enc Tryz.prog W' 0 sp true 36 (.agg #[.int .i64 x0, .int .i64 y0, .int .i64 z0]) d0 p0 := fun sp hsp =>
    Go.WideElems.Trod_stays (by kernel_rfl) (by kernel_rfl) (of_decide_eq_true (by kernel_rfl)) h0 (fun p hp => grown_same hg (hlt p (by simp [hp]))) hsp
  have hs1 : ∀ sp : Nat → Bool, (∀ p ∈ p1, sp p.block = true) → DataW.Trod enc Tryz.prog W' 0 sp true 36 (.agg #[.int .i64 x1, .int .i64 y1, .int .i64 z1]) d1 p1 := fun sp hsp =>
    Go.WideElems.Trod_stays (by kernel_rfl) (by kernel_rfl) (of_decide_eq_true (by kernel_rfl)) h1 (fun p hp => grown_same hg (hlt p (by simp [hp]))) hsp
  have hs2 : ∀ sp : Nat → Bool, (∀ p ∈ p2, sp p.block = true) → DataW.Trod enc Tryz.prog W' 0 sp true 36 (.agg #[.int .i64 x2, .int .i64 y2, .int .i64 z2]) d2 p2 := fun sp hsp =>
    Go.WideElems.Trod_stays (by kernel_rfl) (by kernel_rfl) (of_decide_eq_true (by kernel_rfl)) h2 (fun p hp => grown_same hg (hlt p (by simp [hp]))) hsp
  have hs3 : ∀ sp : Nat → Bool, (∀ p ∈ p3, sp p.block = true) → DataW.Trod enc Tryz.prog W' 0 sp true 36 (.agg #[.int .i64 x3, .int .i64 y3, .int .i64 z3]) d3 p3 := fun sp hsp =>
    Go.WideElems.Trod_stays (by kernel_rfl) (by kernel_rfl) (of_decide_eq_true (by kernel_rfl)) h3 (fun p hp => grown_same hg (hlt p (by simp [hp]))) hsp
  have hs4 : ∀ sp : Nat → Bool, (∀ p ∈ p4, sp p.block = true) → DataW.Trod enc Tryz.prog W' 0 sp true 36 (.agg #[.int .i64 x4, .int .i64 y4, .int .i64 z4]) d4 p4 := fun sp hsp =>
    Go.WideElems.Trod_stays (by kernel_rfl) (by kernel_rfl) (of_decide_eq_true (by kernel_rfl)) h4 (fun p hp => grown_same hg (hlt p (by simp [hp]))) hsp
  have hs5 : ∀ sp : Nat → Bool, (∀ p ∈ p5, sp p.block = true) → DataW.Trod enc Tryz.prog W' 0 sp true 3 (.int .i64 x5) d5 p5 := fun sp hsp =>
    Go.WideElems.Trod_stays (by kernel_rfl) (by kernel_rfl) (of_decide_eq_true (by kernel_rfl)) h5 (fun p hp => grown_same hg (hlt p (by simp [hp]))) hsp
  exact ⟨_, rfl, post_places hW' hlt (fun _ _ _ => trodAll_cons_mk (shut_bool Tryz.underlying4 _) trodAll_mk0) (fun sp hsp => by
    have := trodAll_cons_mk (hs0 sp (fun p hp => hsp p (by simp [hp]))) (trodAll_cons_mk (hs1 sp (fun p hp => hsp p (by simp [hp]))) (trodAll_cons_mk (hs2 sp (fun p hp => hsp p (by simp [hp]))) (trodAll_cons_mk (hs3 sp (fun p hp => hsp p (by simp [hp]))) (trodAll_cons_mk (hs4 sp (fun p hp => hsp p (by simp [hp]))) (trodAll_cons_mk (hs5 sp (fun p hp => hsp p (by simp [hp]))) (trodAll_mk0))))))
    rw [List.append_nil] at this
    exact this) (fun _ => rfl) hg (ok_one (by kernel_rfl) rfl (okWide_bool_mk Tryz.underlying4 _))⟩
theorem laid_met (os : Os) : laidMet Tryz.prog Rows.reachStaysRow.laid ((laidWorld os).forCall (fun _ _ => 0) ⟨#[], #[.agg #[.int .i64 0, .int .i64 0, .int .i64 0], .agg #[.int .i64 0, .int .i64 0, .int .i64 0], .agg #[.int .i64 0, .int .i64 0, .int .i64 0], .agg #[.int .i64 0, .int .i64 0, .int .i64 0], .agg #[.int .i64 0, .int .i64 0, .int .i64 0], .int .i64 0], []⟩).memory :=
  laidMet_of_run' 80 (by kernel_rfl) (by kernel_rfl)
theorem reads (os : Os) {H : Type} (enc : TypeId × Value → H) : ∃ places, DataW.whole enc Tryz.prog ((laidWorld os).forCall (fun _ _ => 0) ⟨#[], #[.agg #[.int .i64 0, .int .i64 0, .int .i64 0], .agg #[.int .i64 0, .int .i64 0, .int .i64 0], .agg #[.int .i64 0, .int .i64 0, .int .i64 0], .agg #[.int .i64 0, .int .i64 0, .int .i64 0], .agg #[.int .i64 0, .int .i64 0, .int .i64 0], .int .i64 0], []⟩).memory Tryz.f8.params.toList Rows.reachStaysSpec.vars false #[Value.agg #[.int .i64 0, .int .i64 0, .int .i64 0], Value.agg #[.int .i64 0, .int .i64 0, .int .i64 0], Value.agg #[.int .i64 0, .int .i64 0, .int .i64 0], Value.agg #[.int .i64 0, .int .i64 0, .int .i64 0], Value.agg #[.int .i64 0, .int .i64 0, .int .i64 0], Value.int .i64 0].toList 8 = some ([.agg [.lit (.int .i64 0), .lit (.int .i64 0), .lit (.int .i64 0)], .agg [.lit (.int .i64 0), .lit (.int .i64 0), .lit (.int .i64 0)], .agg [.lit (.int .i64 0), .lit (.int .i64 0), .lit (.int .i64 0)], .agg [.lit (.int .i64 0), .lit (.int .i64 0), .lit (.int .i64 0)], .agg [.lit (.int .i64 0), .lit (.int .i64 0), .lit (.int .i64 0)], .lit (.int .i64 0)], [], places) :=
  ⟨[], by kernel_rfl⟩
theorem lifted (os : Os) (started : os.Started) (H : Type) (enc : TypeId × Value → H) (F : Stop.Interp) :
    ReturnsInHanded {} Tryz.checked os 8 .any ((OpenSpec.ofChange Rows.reachStaysSpec).preRow enc Tryz.prog Tryz.f8 Rows.reachStaysRow.domain false Rows.reachStaysRow.laid) (((OpenSpec.ofChange Rows.reachStaysSpec).at F).post enc Tryz.prog Tryz.f8 false true false false) := by
  obtain ⟨places, hx⟩ := reads os enc
  refine returnsInHanded_of_row (C := Tryz.checked) (s := OpenSpec.ofChange Rows.reachStaysSpec) law_own started (by kernel_rfl) Tryz.func8
    (witness_row_at (enc := enc) (C := Tryz.checked) false (laidWorld os) #[.agg #[.int .i64 0, .int .i64 0, .int .i64 0], .agg #[.int .i64 0, .int .i64 0, .int .i64 0], .agg #[.int .i64 0, .int .i64 0, .int .i64 0], .agg #[.int .i64 0, .int .i64 0, .int .i64 0], .agg #[.int .i64 0, .int .i64 0, .int .i64 0], .int .i64 0] rfl (by kernel_rfl) (by kernel_rfl) (by kernel_rfl)
      (OpenSpec.preRow_of_cond 8 hx (by kernel_rfl) (fun k hk => by cases hk) (by kernel_rfl) (laid_met os))) ?_
  intro W base args ds gs before hval hW _ _ _ hL _ _
  exact contract H enc W base args ds gs before hval hW hL
theorem said : Rows.ReachStaysSaid :=
  OpenClaim.holds_of_cond 8 Tryz.f8 rfl rfl rfl rfl rfl rfl rfl ⟨rfl, rfl, rfl, rfl, rfl⟩ rfl rfl rfl rfl rfl (by kernel_rfl) Tryz.func8 (by kernel_rfl)
    (of_decide_eq_true (by kernel_rfl)) (by unfold Func.isWrapper; first | (rw [if_pos (by decide +kernel)]; kernel_rfl) | (rw [if_neg (by decide +kernel)]; exact ⟨rfl, rfl⟩))
    (fun os started H enc _ F => by rw [OpenClaim.pre_eq_preRow]; exact lifted os started H enc F)
theorem plain (f : FuncId) (fn : Func) (hf : Tryz.pinned.checked.prog.funcNamed "pellicle/pelliclelaw12.ReachStays" = some f) (hfn : Tryz.pinned.checked.prog.funcs[f]? = some fn) :
    false = Tryz.pinned.checked.prog.looks [] ∧ ∀ (j : Nat) t, fn.params[j]? = some t → Tryz.pinned.checked.prog.wantsStandIn t = false := by
  obtain rfl : f = 8 := Option.some.inj ((show Tryz.prog.funcNamed "pellicle/pelliclelaw12.ReachStays" = some 8 by kernel_rfl).symm.trans hf) |>.symm
  obtain rfl : fn = Tryz.f8 := (Option.some.inj (Tryz.func8.symm.trans hfn)).symm
  refine ⟨by kernel_rfl, fun j t ht => ?_⟩
  rw [Tryz.params8] at ht
  have ht2 := Array.mem_of_getElem? ht
  simp at ht2
  first | (rcases ht2 with rfl | rfl | rfl) | (rcases ht2 with rfl | rfl) | subst ht2
  all_goals exact (show Tryz.prog.wantsStandIn _ = false by kernel_rfl)
theorem card : Rows.ReachStaysCardSaid :=
  Claim7.holds_tied_plain_at .later [] _ _ _ _ said (fun _ h => by cases h) (by kernel_rfl) (fun _ h => by cases h) reachStays_row_tie rfl ⟨rfl, rfl⟩ (by kernel_rfl) rfl plain (by kernel_rfl)
end Go.Proofs.YtoaepibannfbdaaGreatDoor.ReachStays
