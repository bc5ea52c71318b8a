/- ReachCloser: whatever four points and number, whether two unlike points of the two segments are closer than so much is what the document says: the law returns true and leaves its arguments. No condition. -/
import Derived.Below
import Derived.BigCall
import Derived.BigQuiet
import Derived.BigRegion
import Derived.ChangeOld
import Derived.Deep.AppendLies
import Derived.Deep.CutBlock
import Derived.Deep.CutRange
import Derived.Deep.DeepCutAuto
import Derived.Deep.DeepHandedRow
import Derived.Deep.LoopGhost
import Derived.Deep.MidRow
import Derived.Deep.QuietTactic
import Derived.Deep.RegionHeld3
import Derived.Deep.RegionLaw
import Derived.Deep.Strs
import Derived.Deep.WholeRow
import Derived.Laws.AppendOwn
import Derived.Laws.Concat
import Derived.Laws.CopyOwn
import Derived.Laws.Externs
import Derived.Laws.IdiomStrings
import Derived.Lib.BitFns
import Derived.Lib.Bytealg
import Derived.Lib.Hide
import Derived.Lib.LaidTab
import Derived.Lib.Slices
import Derived.Lib.Small
import Derived.Lib.Strings
import Derived.Lib.Walk
import Derived.LoopN
import Derived.Maps.AppendAt
import Derived.OpenShut
import Derived.OrdersHeld
import Derived.Outline
import Derived.OwnWalk
import Derived.ProofKit
import Derived.Shelf.Bits.Mul64
import Derived.Shelf.Spec.TrailingZeros
import Derived.StillTailTactics
import Derived.WalkKit
import Derived.WalkLawsBesides
import Derived.WalkSpells
import Derived.WideKeyArgs
import Derived.Test.YtoaepibannfbdaaGreatDoorCards
import Derived.Test.YtoaepibannfbdaaGreatDoorProg
import Derived.Test.YtoaepibannfbdaaGreatDoorRows
import Derived.Test.YtoaepibannfbdaaGreatDoorTie
import Derived.Test.YtoaepibannfbdaaGreatDoorMr19
import Derived.Test.YtoaepibannfbdaaGreatDoorMr28
namespace Go.Proofs.YtoaepibannfbdaaGreatDoor
open Go.RowKit Mat Ex PM
set_option linter.unusedVariables false
set_option linter.unusedSimpArgs false
set_option maxRecDepth 100000
theorem reachCloser_walk (w : World) (x0 y0 d0 x1 y1 d1 x2 y2 d2 x3 y3 d3 n : Int) (a0 : -9223372036854775808 ≤ x0) (b0 : x0 ≤ 9223372036854775807) (c0 : -9223372036854775808 ≤ y0) (e0 : y0 ≤ 9223372036854775807) (a1 : -9223372036854775808 ≤ x1) (b1 : x1 ≤ 9223372036854775807) (c1 : -9223372036854775808 ≤ y1) (e1 : y1 ≤ 9223372036854775807) (a2 : -9223372036854775808 ≤ x2) (b2 : x2 ≤ 9223372036854775807) (c2 : -9223372036854775808 ≤ y2) (e2 : y2 ≤ 9223372036854775807) (a3 : -9223372036854775808 ≤ x3) (b3 : x3 ≤ 9223372036854775807) (c3 : -9223372036854775808 ≤ y3) (e3 : y3 ≤ 9223372036854775807) (n1 : -9223372036854775808 ≤ n) (n2 : n ≤ 9223372036854775807) (hTab : Tab w) :
    Calls Tryz.prog 6 #[.agg #[.int .i64 x0, .int .i64 y0, .int .i64 d0], .agg #[.int .i64 x1, .int .i64 y1, .int .i64 d1], .agg #[.int .i64 x2, .int .i64 y2, .int .i64 d2], .agg #[.int .i64 x3, .int .i64 y3, .int .i64 d3], .int .i64 n] w (fun e w' => e = .returned (.bool true) ∧ w.grownBy w' none) := by
  refine exec_calls mixed Tryz.func6 [sDt x0 y0 d0, sDt x1 y1 d1, sDt x2 y2 d2, sDt x3 y3 d3, sZ n] [sSH (lat x0 y0 d0) (lat x1 y1 d1) ⟨x0, y0, und d0⟩ ⟨x1, y1, und d1⟩, sSH (lat x2 y2 d2) (lat x3 y3 d3) ⟨x2, y2, und d2⟩ ⟨x3, y3, und d3⟩, sV (.bool true), sBd (dec (CloserP (lat x0 y0 d0) (lat x1 y1 d1) (lat x2 y2 d2) (lat x3 y3 d3) n)), sBd (dec (CloserP (lat x0 y0 d0) (lat x1 y1 d1) (lat x2 y2 d2) (lat x3 y3 d3) n)), sV (.bool true)] (.cons rfl (.cons rfl (.cons rfl (.cons rfl (.cons rfl .nil))))) (rs := [cl 5 16 [ag 3 0, ag 3 1], cl 6 16 [ag 3 2, ag 3 3], cl 7 17 [], cl 8 27 [ag 16 5, ag 16 6, on 4], cl 9 28 [.v true [.an 5 16, .an 5 17, .an 5 18, .an 5 19, .an 5 20, .an 5 21, .an 5 22, .an 5 23, .an 5 24, .an 5 25, .an 5 26, .an 5 27], .v true [.an 6 16, .an 6 17, .an 6 18, .an 6 19, .an 6 20, .an 6 21, .an 6 22, .an 6 23, .an 6 24, .an 6 25, .an 6 26, .an 6 27], on 4], co 10 (.binOp .eql 4 (.tmp 32) (.tmp 36) 4) 4 [on 8, on 9] [0, 1, 2, 3, 4, 5, 6, 7, 8, 9] []]) (out := .v false [.lit (.bool true)]) (nc := 11) (by kernel_rfl)
      ⟨fun σ W g h hb => toSH (argl (congr3 (h 0 rfl) (h 1 rfl)) (LSeg12_any W x0 y0 d0 x1 y1 d1 a0 b0 c0 e0 a1 b1 c1 e1 (hTab.kept g (by simp)))),
      fun σ W g h hb => toSH (argl (congr3 (h 2 rfl) (h 3 rfl)) (LSeg12_any W x2 y2 d2 x3 y3 d3 a2 b2 c2 e2 a3 b3 c3 e3 (hTab.kept g (by simp)))),
      fun σ W g h hb => toV (LKnown12_any W (hTab.kept g (by simp))) rfl,
      fun σ W g h hb => toBd (argl (congrArg (fun v => [_, _, v]) (h 4 rfl)) (RCloser_any W _ _ (lat x0 y0 d0) (lat x1 y1 d1) (lat x2 y2 d2) (lat x3 y3 d3) 1 (sh1 (h 5 rfl)) (sh1 (h 6 rfl)) (by omega) (lat_b a0 b0 c0 e0) (lat_b a1 b1 c1 e1) (lat_b a2 b2 c2 e2) (lat_b a3 b3 c3 e3) n n1 n2 (hTab.kept g (by simp)))),
      fun σ W g h hb => toBd (argl (congrArg (fun v => [_, _, v]) (h 4 rfl)) (dCloser_any W _ _ ⟨x0, y0, und d0⟩ ⟨x1, y1, und d1⟩ ⟨x2, y2, und d2⟩ ⟨x3, y3, und d3⟩ 5 (sh2 (h 5 rfl)) (sh2 (h 6 rfl)) (by omega) (lat_h a0 b0 c0 e0) (lat_h a1 b1 c1 e1) (lat_h a2 b2 c2 e2) (lat_h a3 b3 c3 e3) (und_pos d0).1 (und_pos d1).1 (und_pos d2).1 (und_pos d3).1 n n1 n2)),
      fun σ W g h hb => fun ρ o ho _ hv => ⟨_, beqb_told ho ((two_vals hv).1.trans (h 8 rfl)) ((two_vals hv).2.trans (h 9 rfl)) (by kernel_rfl) rfl, rfl⟩,
      trivial⟩ fun τ W g h => ⟨rfl, g⟩
end Go.Proofs.YtoaepibannfbdaaGreatDoor
namespace Go.Proofs.YtoaepibannfbdaaGreatDoor.ReachCloser
open Go.ChangeShapes Go.WideShapes Go.ChangeAt Go.RowKit Go.ChangeMaps
set_option linter.unusedVariables false
set_option linter.unusedSimpArgs false
set_option maxRecDepth 100000
theorem contract (H : Type) (enc : TypeId × Value → H) (W : World) (base : Nat) (args : Array Value) (ds gs : List (DataW H)) (before : List MemPlace)
    (hval : ∀ (j : Nat) t v, Tryz.f6.params[j]? = some t → args[j]? = some v → Value.okWide Tryz.prog W .any base t v)
    (hW : DataW.Whole enc Tryz.prog Tryz.f6.params.toList Rows.reachCloserSpec.vars false W args.toList ds gs before) (hL : laidMetH Tryz.prog Rows.reachCloserRow.laid W) :
    Calls Tryz.prog 6 args W fun e W' => ∃ v, e = .returned v ∧ Rows.reachCloserSpec.post enc Tryz.prog Tryz.f6 false true false false W args v W' := by
  have hW' := hW
  obtain ⟨p, q, hA0, hV, rfl, hfz, hnd⟩ := hW
  have hA : DataW.TrodAll enc Tryz.prog W 0 (fun _ => true) true Tryz.f6.params.toList args.toList ds p := hA0
  rw [Tryz.params6] at hA hval
  obtain ⟨v0, vs0, d0, ds0, p0, q0, hargs0, rfl, rfl, h0, r0⟩ := trodAll_cons hA
  obtain ⟨v1, vs1, d1, ds1, p1, q1, hargs1, rfl, rfl, h1, r1⟩ := trodAll_cons r0
  obtain ⟨v2, vs2, d2, ds2, p2, q2, hargs2, rfl, rfl, h2, r2⟩ := trodAll_cons r1
  obtain ⟨v3, vs3, d3, ds3, p3, q3, hargs3, rfl, rfl, h3, r3⟩ := trodAll_cons r2
  obtain ⟨v4, vs4, d4, ds4, p4, q4, hargs4, rfl, rfl, h4, r4⟩ := trodAll_cons r3
  obtain ⟨rfl, rfl, rfl⟩ := trodAll_nil r4
  obtain rfl : args = #[v0, v1, v2, v3, v4] := by cases args; simp_all
  obtain ⟨rfl, rfl⟩ := trodVars_none hV
  simp only [List.append_nil] at hW' hfz
  have hlt : ∀ p ∈ p0 ++ (p1 ++ (p2 ++ (p3 ++ p4))), p.block < W.heap.size := fun p hp => by
    have := DataW.TrodAll.lt hA p (by simpa using hp)
    exact this
  have hv0 := hval 0 36 v0 rfl rfl
  obtain ⟨x0, y0, z0, rfl, a0, b0, c0⟩ := open_dot hv0 h0
  have hv1 := hval 1 36 v1 rfl rfl
  obtain ⟨x1, y1, z1, rfl, a1, b1, c1⟩ := open_dot hv1 h1
  have hv2 := hval 2 36 v2 rfl rfl
  obtain ⟨x2, y2, z2, rfl, a2, b2, c2⟩ := open_dot hv2 h2
  have hv3 := hval 3 36 v3 rfl rfl
  obtain ⟨x3, y3, z3, rfl, a3, b3, c3⟩ := open_dot hv3 h3
  have hv4 := hval 4 3 v4 rfl rfl
  obtain ⟨x4, rfl, _, _, w4⟩ := open_int Tryz.underlying3 hv4 h4
  clear hA0
  refine (reachCloser_walk W x0 y0 z0 x1 y1 z1 x2 y2 z2 x3 y3 z3 x4 a0.1 a0.2 b0.1 b0.2 a1.1 a1.2 b1.1 b1.2 a2.1 a2.2 b2.1 b2.2 a3.1 a3.2 b3.1 b3.2 (i64_wf w4).1 (i64_wf w4).2 (tab_of hL)).mono fun e W' ⟨he, hg⟩ => ?_
  subst he
  have hs0 : ∀ sp : Nat → Bool, (∀ p ∈ p0, sp p.block = true) → DataW.Trod enc Tryz.prog W' 0 sp true 36 (.agg #[.int .i64 x0, .int .i64 y0, .int .i64 z0]) d0 p0 := fun sp hsp =>
    Go.WideElems.Trod_stays (by kernel_rfl) (by kernel_rfl) (of_decide_eq_true (by kernel_rfl)) h0 (fun p hp => grown_same hg (hlt p (by simp [hp]))) hsp
  have hs1 : ∀ sp : Nat → Bool, (∀ p ∈ p1, sp p.block = true) → DataW.Trod enc Tryz.prog W' 0 sp true 36 (.agg #[.int .i64 x1, .int .i64 y1, .int .i64 z1]) d1 p1 := fun sp hsp =>
    Go.WideElems.Trod_stays (by kernel_rfl) (by kernel_rfl) (of_decide_eq_true (by kernel_rfl)) h1 (fun p hp => grown_same hg (hlt p (by simp [hp]))) hsp
  have hs2 : ∀ sp : Nat → Bool, (∀ p ∈ p2, sp p.block = true) → DataW.Trod enc Tryz.prog W' 0 sp true 36 (.agg #[.int .i64 x2, .int .i64 y2, .int .i64 z2]) d2 p2 := fun sp hsp =>
    Go.WideElems.Trod_stays (by kernel_rfl) (by kernel_rfl) (of_decide_eq_true (by kernel_rfl)) h2 (fun p hp => grown_same hg (hlt p (by simp [hp]))) hsp
  have hs3 : ∀ sp : Nat → Bool, (∀ p ∈ p3, sp p.block = true) → DataW.Trod enc Tryz.prog W' 0 sp true 36 (.agg #[.int .i64 x3, .int .i64 y3, .int .i64 z3]) d3 p3 := fun sp hsp =>
    Go.WideElems.Trod_stays (by kernel_rfl) (by kernel_rfl) (of_decide_eq_true (by kernel_rfl)) h3 (fun p hp => grown_same hg (hlt p (by simp [hp]))) hsp
  have hs4 : ∀ sp : Nat → Bool, (∀ p ∈ p4, sp p.block = true) → DataW.Trod enc Tryz.prog W' 0 sp true 3 (.int .i64 x4) d4 p4 := fun sp hsp =>
    Go.WideElems.Trod_stays (by kernel_rfl) (by kernel_rfl) (of_decide_eq_true (by kernel_rfl)) h4 (fun p hp => grown_same hg (hlt p (by simp [hp]))) hsp
  exact ⟨_, rfl, post_places hW' hlt (fun _ _ _ => trodAll_cons_mk (shut_bool Tryz.underlying4 _) trodAll_mk0) (fun sp hsp => by
    have := trodAll_cons_mk (hs0 sp (fun p hp => hsp p (by simp [hp]))) (trodAll_cons_mk (hs1 sp (fun p hp => hsp p (by simp [hp]))) (trodAll_cons_mk (hs2 sp (fun p hp => hsp p (by simp [hp]))) (trodAll_cons_mk (hs3 sp (fun p hp => hsp p (by simp [hp]))) (trodAll_cons_mk (hs4 sp (fun p hp => hsp p (by simp [hp]))) (trodAll_mk0)))))
    rw [List.append_nil] at this
    exact this) (fun _ => rfl) hg (ok_one (by kernel_rfl) rfl (okWide_bool_mk Tryz.underlying4 _))⟩
theorem laid_met (os : Os) : laidMet Tryz.prog Rows.reachCloserRow.laid ((laidWorld os).forCall (fun _ _ => 0) ⟨#[], #[.agg #[.int .i64 0, .int .i64 0, .int .i64 0], .agg #[.int .i64 0, .int .i64 0, .int .i64 0], .agg #[.int .i64 0, .int .i64 0, .int .i64 0], .agg #[.int .i64 0, .int .i64 0, .int .i64 0], .int .i64 0], []⟩).memory :=
  laidMet_of_run' 80 (by kernel_rfl) (by kernel_rfl)
theorem reads (os : Os) {H : Type} (enc : TypeId × Value → H) : ∃ places, DataW.whole enc Tryz.prog ((laidWorld os).forCall (fun _ _ => 0) ⟨#[], #[.agg #[.int .i64 0, .int .i64 0, .int .i64 0], .agg #[.int .i64 0, .int .i64 0, .int .i64 0], .agg #[.int .i64 0, .int .i64 0, .int .i64 0], .agg #[.int .i64 0, .int .i64 0, .int .i64 0], .int .i64 0], []⟩).memory Tryz.f6.params.toList Rows.reachCloserSpec.vars false #[Value.agg #[.int .i64 0, .int .i64 0, .int .i64 0], Value.agg #[.int .i64 0, .int .i64 0, .int .i64 0], Value.agg #[.int .i64 0, .int .i64 0, .int .i64 0], Value.agg #[.int .i64 0, .int .i64 0, .int .i64 0], Value.int .i64 0].toList 8 = some ([.agg [.lit (.int .i64 0), .lit (.int .i64 0), .lit (.int .i64 0)], .agg [.lit (.int .i64 0), .lit (.int .i64 0), .lit (.int .i64 0)], .agg [.lit (.int .i64 0), .lit (.int .i64 0), .lit (.int .i64 0)], .agg [.lit (.int .i64 0), .lit (.int .i64 0), .lit (.int .i64 0)], .lit (.int .i64 0)], [], places) :=
  ⟨[], by kernel_rfl⟩
theorem lifted (os : Os) (started : os.Started) (H : Type) (enc : TypeId × Value → H) (F : Stop.Interp) :
    ReturnsInHanded {} Tryz.checked os 6 .any ((OpenSpec.ofChange Rows.reachCloserSpec).preRow enc Tryz.prog Tryz.f6 Rows.reachCloserRow.domain false Rows.reachCloserRow.laid) (((OpenSpec.ofChange Rows.reachCloserSpec).at F).post enc Tryz.prog Tryz.f6 false true false false) := by
  obtain ⟨places, hx⟩ := reads os enc
  refine returnsInHanded_of_row (C := Tryz.checked) (s := OpenSpec.ofChange Rows.reachCloserSpec) law_own started (by kernel_rfl) Tryz.func6
    (witness_row_at (enc := enc) (C := Tryz.checked) false (laidWorld os) #[.agg #[.int .i64 0, .int .i64 0, .int .i64 0], .agg #[.int .i64 0, .int .i64 0, .int .i64 0], .agg #[.int .i64 0, .int .i64 0, .int .i64 0], .agg #[.int .i64 0, .int .i64 0, .int .i64 0], .int .i64 0] rfl (by kernel_rfl) (by kernel_rfl) (by kernel_rfl)
      (OpenSpec.preRow_of_cond 8 hx (by kernel_rfl) (fun k hk => by cases hk) (by kernel_rfl) (laid_met os))) ?_
  intro W base args ds gs before hval hW _ _ _ hL _ _
  exact contract H enc W base args ds gs before hval hW hL
theorem said : Rows.ReachCloserSaid :=
  OpenClaim.holds_of_cond 6 Tryz.f6 rfl rfl rfl rfl rfl rfl rfl ⟨rfl, rfl, rfl, rfl, rfl⟩ rfl rfl rfl rfl rfl (by kernel_rfl) Tryz.func6 (by kernel_rfl)
    (of_decide_eq_true (by kernel_rfl)) (by unfold Func.isWrapper; first | (rw [if_pos (by decide +kernel)]; kernel_rfl) | (rw [if_neg (by decide +kernel)]; exact ⟨rfl, rfl⟩))
    (fun os started H enc _ F => by rw [OpenClaim.pre_eq_preRow]; exact lifted os started H enc F)
theorem plain (f : FuncId) (fn : Func) (hf : Tryz.pinned.checked.prog.funcNamed "pellicle/pelliclelaw12.ReachCloser" = some f) (hfn : Tryz.pinned.checked.prog.funcs[f]? = some fn) :
    false = Tryz.pinned.checked.prog.looks [] ∧ ∀ (j : Nat) t, fn.params[j]? = some t → Tryz.pinned.checked.prog.wantsStandIn t = false := by
  obtain rfl : f = 6 := Option.some.inj ((show Tryz.prog.funcNamed "pellicle/pelliclelaw12.ReachCloser" = some 6 by kernel_rfl).symm.trans hf) |>.symm
  obtain rfl : fn = Tryz.f6 := (Option.some.inj (Tryz.func6.symm.trans hfn)).symm
  refine ⟨by kernel_rfl, fun j t ht => ?_⟩
  rw [Tryz.params6] at ht
  have ht2 := Array.mem_of_getElem? ht
  simp at ht2
  first | (rcases ht2 with rfl | rfl | rfl) | (rcases ht2 with rfl | rfl) | subst ht2
  all_goals exact (show Tryz.prog.wantsStandIn _ = false by kernel_rfl)
theorem card : Rows.ReachCloserCardSaid :=
  Claim7.holds_tied_plain_at .later [] _ _ _ _ said (fun _ h => by cases h) (by kernel_rfl) (fun _ h => by cases h) reachCloser_row_tie rfl ⟨rfl, rfl⟩ (by kernel_rfl) rfl plain (by kernel_rfl)
end Go.Proofs.YtoaepibannfbdaaGreatDoor.ReachCloser
