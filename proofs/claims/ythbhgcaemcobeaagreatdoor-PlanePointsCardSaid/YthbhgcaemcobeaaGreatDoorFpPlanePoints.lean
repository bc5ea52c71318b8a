/- PlanePoints: whatever three points and a point of the grid, their texts and order, Cross, Dot and Side are the document's: the law returns true and leaves its arguments. No condition. -/
import Derived.Test.YthbhgcaemcobeaaGreatDoorMp25
namespace Go.Proofs.YthbhgcaemcobeaaGreatDoor
open Go.RowKit Mat Ex PM
set_option linter.unusedVariables false
set_option linter.unusedSimpArgs false
set_option maxRecDepth 100000
theorem grid_rp (x y : Int) : rp ⟨x, y, 1⟩ = gridP x y := by
  unfold rp gridP
  refine Prod.ext ?_ ?_ <;> simp only [q_of] <;> rw [show ((1 : Int) : Rat) = 1 from rfl, Rat.div_def, show (1 : Rat)⁻¹ = 1 by decide +kernel, Rat.mul_one]
theorem grid_h {x y : Int} (h1 : -9223372036854775808 ≤ x) (h2 : x ≤ 9223372036854775807) (h3 : -9223372036854775808 ≤ y) (h4 : y ≤ 9223372036854775807) : HB 5 ⟨x, y, 1⟩ := ⟨dint h1 h2, dint h3 h4, dint (n := 1) (by decide) (by decide)⟩
theorem planePoints_walk (w : World) (x0 y0 d0 x1 y1 d1 x2 y2 d2 px py : Int) (a0 : -9223372036854775808 ≤ x0) (b0 : x0 ≤ 9223372036854775807) (c0 : -9223372036854775808 ≤ y0) (e0 : y0 ≤ 9223372036854775807) (a1 : -9223372036854775808 ≤ x1) (b1 : x1 ≤ 9223372036854775807) (c1 : -9223372036854775808 ≤ y1) (e1 : y1 ≤ 9223372036854775807) (a2 : -9223372036854775808 ≤ x2) (b2 : x2 ≤ 9223372036854775807) (c2 : -9223372036854775808 ≤ y2) (e2 : y2 ≤ 9223372036854775807) (p1 : -9223372036854775808 ≤ px) (p2 : px ≤ 9223372036854775807) (p3 : -9223372036854775808 ≤ py) (p4 : py ≤ 9223372036854775807) (hTab : Tab w) :
    Calls Tryz.prog 3 #[.agg #[.int .i64 x0, .int .i64 y0, .int .i64 d0], .agg #[.int .i64 x1, .int .i64 y1, .int .i64 d1], .agg #[.int .i64 x2, .int .i64 y2, .int .i64 d2], .agg #[.int .i64 px, .int .i64 py]] w (fun e w' => e = .returned (.bool true) ∧ w.grownBy w' none) := by
  refine exec_calls mixed Tryz.func3 [sDt x0 y0 d0, sDt x1 y1 d1, sDt x2 y2 d2, sPI px py] [sPt (lat x0 y0 d0), sPt (lat x1 y1 d1), sPt (lat x2 y2 d2), sH ⟨x0, y0, und d0⟩, sH ⟨x1, y1, und d1⟩, sH ⟨x2, y2, und d2⟩, sV (.bool true), sT (fun s => PTextOf s (lat x0 y0 d0)), sT (fun s => PTextOf s (lat x0 y0 d0)), sV (.bool false), sPt (gridP px py), sT (fun s => PTextOf s (gridP px py)), sH ⟨px, py, 1⟩, sT (fun s => PTextOf s (gridP px py)), sV (.bool false), sZ (pcmp (lat x0 y0 d0) (lat x1 y1 d1)), sZ (pcmp (lat x0 y0 d0) (lat x1 y1 d1)), sV (.bool false), sQ (pcross (lat x0 y0 d0) (lat x1 y1 d1) (lat x2 y2 d2)), sT (fun s => RTextOf s (pcross (lat x0 y0 d0) (lat x1 y1 d1) (lat x2 y2 d2))), sRF (hcr ⟨x0, y0, und d0⟩ ⟨x1, y1, und d1⟩ ⟨x2, y2, und d2⟩) (hdn ⟨x0, y0, und d0⟩ ⟨x1, y1, und d1⟩ ⟨x2, y2, und d2⟩), sT (fun s => RTextOf s (pcross (lat x0 y0 d0) (lat x1 y1 d1) (lat x2 y2 d2))), sV (.bool true), sQ (pdot (lat x0 y0 d0) (lat x1 y1 d1) (lat x2 y2 d2)), sT (fun s => RTextOf s (pdot (lat x0 y0 d0) (lat x1 y1 d1) (lat x2 y2 d2))), sRF (hdt ⟨x0, y0, und d0⟩ ⟨x1, y1, und d1⟩ ⟨x2, y2, und d2⟩) (hdn ⟨x0, y0, und d0⟩ ⟨x1, y1, und d1⟩ ⟨x2, y2, und d2⟩), sT (fun s => RTextOf s (pdot (lat x0 y0 d0) (lat x1 y1 d1) (lat x2 y2 d2))), sV (.bool true), sZ (rsg (pcross (lat x0 y0 d0) (lat x1 y1 d1) (lat x2 y2 d2))), sZ (rsg (pcross (lat x0 y0 d0) (lat x1 y1 d1) (lat x2 y2 d2))), sV (.bool true)] (.cons rfl (.cons rfl (.cons rfl (.cons rfl .nil)))) (rs := [cl 4 9 [ag 3 0], cl 5 9 [ag 3 1], cl 6 9 [ag 3 2], cl 7 10 [ag 3 0], cl 8 10 [ag 3 1], cl 9 10 [ag 3 2], cl 10 11 [], cl 11 12 [ag 8 4], cl 12 13 [ag 6 7], co 13 (.binOp .neq 9 (.tmp 31) (.tmp 33) 9) 4 [on 11, on 12] [0, 1, 2, 3, 4, 5, 6, 7, 8, 9, 10, 11, 12] [], cl 14 14 [ag 2 3], cl 15 12 [ag 8 14], cl 16 15 [on 3, .v false [.an 3 1]], cl 17 13 [ag 6 16], co 18 (.binOp .neq 9 (.tmp 39) (.tmp 45) 9) 4 [on 15, on 17] [0, 1, 2, 3, 4, 5, 6, 7, 8, 9, 10, 11, 12, 13, 14, 15, 16, 17] [], cl 19 16 [ag 8 4, ag 8 5], cl 20 17 [ag 6 7, ag 6 8], co 21 (.binOp .neq 3 (.tmp 51) (.tmp 54) 3) 4 [on 19, on 20] [0, 1, 2, 3, 4, 5, 6, 7, 8, 9, 10, 11, 12, 13, 14, 15, 16, 17, 18, 19, 20] [], cl 22 18 [ag 8 4, ag 8 5, ag 8 6], cl 23 19 [ag 4 22], cl 24 21 [ag 6 7, ag 6 8, ag 6 9], cl 25 20 [ag 4 24], co 26 (.binOp .eql 9 (.tmp 61) (.tmp 66) 9) 4 [on 23, on 25] [0, 1, 2, 3, 4, 5, 6, 7, 8, 9, 10, 11, 12, 13, 14, 15, 16, 17, 18, 19, 20, 21, 22, 23, 24, 25] [], cl 27 22 [ag 8 4, ag 8 5, ag 8 6], cl 28 19 [ag 4 27], cl 29 23 [ag 6 7, ag 6 8, ag 6 9], cl 30 20 [ag 4 29], co 31 (.binOp .eql 9 (.tmp 73) (.tmp 78) 9) 4 [on 28, on 30] [0, 1, 2, 3, 4, 5, 6, 7, 8, 9, 10, 11, 12, 13, 14, 15, 16, 17, 18, 19, 20, 21, 22, 23, 24, 25, 26, 27, 28, 29, 30] [], cl 32 24 [ag 8 4, ag 8 5, ag 8 6], cl 33 25 [ag 6 7, ag 6 8, ag 6 9], co 34 (.binOp .eql 3 (.tmp 85) (.tmp 89) 3) 4 [on 32, on 33] [0, 1, 2, 3, 4, 5, 6, 7, 8, 9, 10, 11, 12, 13, 14, 15, 16, 17, 18, 19, 20, 21, 22, 23, 24, 25, 26, 27, 28, 29, 30, 31, 32, 33] []]) (out := .v false [.lit (.bool true)]) (nc := 35) (by kernel_rfl)
      ⟨fun σ W g h hb => arg1 (h 0 rfl) (LAt_any W x0 y0 d0 a0 b0 c0 e0 (hTab.kept g (by simp))),
      fun σ W g h hb => arg1 (h 1 rfl) (LAt_any W x1 y1 d1 a1 b1 c1 e1 (hTab.kept g (by simp))),
      fun σ W g h hb => arg1 (h 2 rfl) (LAt_any W x2 y2 d2 a2 b2 c2 e2 (hTab.kept g (by simp))),
      fun σ W g h hb => arg1 (h 0 rfl) (rHAt_any W x0 y0 d0 a0 b0 c0 e0),
      fun σ W g h hb => arg1 (h 1 rfl) (rHAt_any W x1 y1 d1 a1 b1 c1 e1),
      fun σ W g h hb => arg1 (h 2 rfl) (rHAt_any W x2 y2 d2 a2 b2 c2 e2),
      fun σ W g h hb => toV (LKnown_any W (hTab.kept g (by simp))) rfl,
      fun σ W g h hb => toT (PText_any W _ (lat x0 y0 d0) 1 (h 4 rfl) (by omega) (lat_b a0 b0 c0 e0)),
      fun σ W g h hb => toT (rHText_any W _ ⟨x0, y0, und d0⟩ 5 (h 7 rfl) (by omega) (lat_h a0 b0 c0 e0) (und_pos d0).1),
      fun σ W g h hb => fun ρ o ho _ hv => by
        obtain ⟨s, e, hs⟩ := h 11 rfl
        obtain ⟨t, e2, ht⟩ := h 12 rfl
        exact ⟨_, sne_told ho ((two_vals hv).1.trans e) ((two_vals hv).2.trans e2) (ptext_uniq hs ht), rfl⟩,
      fun σ W g h hb => arg1 (h 3 rfl) (PGrid_any W px py p1 p2 p3 p4),
      fun σ W g h hb => toT (PText_any W _ (gridP px py) 1 (h 14 rfl) (by omega) (grid_b p1 p2 p3 p4)),
      fun σ W g h hb => arg2 (pi1 (h 3 rfl)) (pi2 (h 3 rfl)) (rHOf_any W px py p1 p2 p3 p4),
      fun σ W g h hb => toT (grid_rp px py ▸ rHText_any W _ ⟨px, py, 1⟩ 5 (h 16 rfl) (by omega) (grid_h p1 p2 p3 p4) (by show (0 : Int) < 1; omega)),
      fun σ W g h hb => fun ρ o ho _ hv => by
        obtain ⟨s, e, hs⟩ := h 15 rfl
        obtain ⟨t, e2, ht⟩ := h 17 rfl
        exact ⟨_, sne_told ho ((two_vals hv).1.trans e) ((two_vals hv).2.trans e2) (ptext_uniq hs ht), rfl⟩,
      fun σ W g h hb => toZ (PCmp_any W _ _ (lat x0 y0 d0) (lat x1 y1 d1) 1 (h 4 rfl) (h 5 rfl) (by omega) (lat_b a0 b0 c0 e0) (lat_b a1 b1 c1 e1)) rfl,
      fun σ W g h hb => toZ (rHCmp_any W _ _ ⟨x0, y0, und d0⟩ ⟨x1, y1, und d1⟩ 5 (h 7 rfl) (h 8 rfl) (by omega) (lat_h a0 b0 c0 e0) (lat_h a1 b1 c1 e1) (und_pos d0).1 (und_pos d1).1) rfl,
      fun σ W g h hb => fun ρ o ho _ hv => ⟨_, ne_told false ho ((two_vals hv).1.trans (h 19 rfl)) ((two_vals hv).2.trans (h 20 rfl)) (decide_eq_true rfl), rfl⟩,
      fun σ W g h hb => PCross_any W _ _ _ (lat x0 y0 d0) (lat x1 y1 d1) (lat x2 y2 d2) 1 (h 4 rfl) (h 5 rfl) (h 6 rfl) (by omega) (lat_b a0 b0 c0 e0) (lat_b a1 b1 c1 e1) (lat_b a2 b2 c2 e2) (hTab.kept g (by simp)),
      fun σ W g h hb => toT (FText_any W _ (pcross (lat x0 y0 d0) (lat x1 y1 d1) (lat x2 y2 d2)) 13 (h 22 rfl) (by omega) (Bp.cross (K := 1) (lat_b a0 b0 c0 e0) (lat_b a1 b1 c1 e1) (lat_b a2 b2 c2 e2)).1 (Bp.cross (K := 1) (lat_b a0 b0 c0 e0) (lat_b a1 b1 c1 e1) (lat_b a2 b2 c2 e2)).2),
      fun σ W g h hb => rHCross_any W _ _ _ ⟨x0, y0, und d0⟩ ⟨x1, y1, und d1⟩ ⟨x2, y2, und d2⟩ 5 (h 7 rfl) (h 8 rfl) (h 9 rfl) (by omega) (lat_h a0 b0 c0 e0) (lat_h a1 b1 c1 e1) (lat_h a2 b2 c2 e2),
      fun σ W g h hb => toT (rFText_any W _ _ _ (pcross (lat x0 y0 d0) (lat x1 y1 d1) (lat x2 y2 d2)) (h 24 rfl) 23 (by omega) (hdn_pos (und_pos d0).1 (und_pos d1).1 (und_pos d2).1) (rp_cross (und_pos d0).1 (und_pos d1).1 (und_pos d2).1) (HB.cr (lat_h a0 b0 c0 e0) (lat_h a1 b1 c1 e1) (lat_h a2 b2 c2 e2)).1 (HB.cr (lat_h a0 b0 c0 e0) (lat_h a1 b1 c1 e1) (lat_h a2 b2 c2 e2)).2.2),
      fun σ W g h hb => fun ρ o ho _ hv => by
        obtain ⟨s, e, hs⟩ := h 23 rfl
        obtain ⟨t, e2, ht⟩ := h 25 rfl
        exact ⟨_, seq_told ho ((two_vals hv).1.trans e) ((two_vals hv).2.trans e2) (rtext_uniq hs ht), rfl⟩,
      fun σ W g h hb => PDot_any W _ _ _ (lat x0 y0 d0) (lat x1 y1 d1) (lat x2 y2 d2) 1 (h 4 rfl) (h 5 rfl) (h 6 rfl) (by omega) (lat_b a0 b0 c0 e0) (lat_b a1 b1 c1 e1) (lat_b a2 b2 c2 e2) (hTab.kept g (by simp)),
      fun σ W g h hb => toT (FText_any W _ (pdot (lat x0 y0 d0) (lat x1 y1 d1) (lat x2 y2 d2)) 13 (h 27 rfl) (by omega) (Bp.dot (K := 1) (lat_b a0 b0 c0 e0) (lat_b a1 b1 c1 e1) (lat_b a2 b2 c2 e2)).1 (Bp.dot (K := 1) (lat_b a0 b0 c0 e0) (lat_b a1 b1 c1 e1) (lat_b a2 b2 c2 e2)).2),
      fun σ W g h hb => rHTimes_any W _ _ _ ⟨x0, y0, und d0⟩ ⟨x1, y1, und d1⟩ ⟨x2, y2, und d2⟩ 5 (h 7 rfl) (h 8 rfl) (h 9 rfl) (by omega) (lat_h a0 b0 c0 e0) (lat_h a1 b1 c1 e1) (lat_h a2 b2 c2 e2),
      fun σ W g h hb => toT (rFText_any W _ _ _ (pdot (lat x0 y0 d0) (lat x1 y1 d1) (lat x2 y2 d2)) (h 29 rfl) 23 (by omega) (hdn_pos (und_pos d0).1 (und_pos d1).1 (und_pos d2).1) (rp_dot (und_pos d0).1 (und_pos d1).1 (und_pos d2).1) (HB.cr (lat_h a0 b0 c0 e0) (lat_h a1 b1 c1 e1) (lat_h a2 b2 c2 e2)).2.1 (HB.cr (lat_h a0 b0 c0 e0) (lat_h a1 b1 c1 e1) (lat_h a2 b2 c2 e2)).2.2),
      fun σ W g h hb => fun ρ o ho _ hv => by
        obtain ⟨s, e, hs⟩ := h 28 rfl
        obtain ⟨t, e2, ht⟩ := h 30 rfl
        exact ⟨_, seq_told ho ((two_vals hv).1.trans e) ((two_vals hv).2.trans e2) (rtext_uniq hs ht), rfl⟩,
      fun σ W g h hb => toZ (PSide_any W _ _ _ (lat x0 y0 d0) (lat x1 y1 d1) (lat x2 y2 d2) 1 (h 4 rfl) (h 5 rfl) (h 6 rfl) (by omega) (lat_b a0 b0 c0 e0) (lat_b a1 b1 c1 e1) (lat_b a2 b2 c2 e2) (hTab.kept g (by simp))) rfl,
      fun σ W g h hb => toZ (rHSide_any W _ _ _ ⟨x0, y0, und d0⟩ ⟨x1, y1, und d1⟩ ⟨x2, y2, und d2⟩ 5 (h 7 rfl) (h 8 rfl) (h 9 rfl) (by omega) (lat_h a0 b0 c0 e0) (lat_h a1 b1 c1 e1) (lat_h a2 b2 c2 e2) (und_pos d0).1 (und_pos d1).1 (und_pos d2).1) rfl,
      fun σ W g h hb => fun ρ o ho _ hv => ⟨_, eq_told true ho ((two_vals hv).1.trans (h 32 rfl)) ((two_vals hv).2.trans (h 33 rfl)) (decide_eq_true rfl), rfl⟩,
      trivial⟩ fun τ W g h => ⟨rfl, g⟩
end Go.Proofs.YthbhgcaemcobeaaGreatDoor
namespace Go.Proofs.YthbhgcaemcobeaaGreatDoor.PlanePoints
open Go.ChangeShapes Go.WideShapes Go.ChangeAt Go.RowKit Go.ChangeMaps
set_option linter.unusedVariables false
set_option linter.unusedSimpArgs false
set_option maxRecDepth 100000
theorem contract (H : Type) (enc : TypeId × Value → H) (W : World) (base : Nat) (args : Array Value) (ds gs : List (DataW H)) (before : List MemPlace)
    (hval : ∀ (j : Nat) t v, Tryz.f3.params[j]? = some t → args[j]? = some v → Value.okWide Tryz.prog W .any base t v)
    (hW : DataW.Whole enc Tryz.prog Tryz.f3.params.toList Rows.planePointsSpec.vars false W args.toList ds gs before) (hL : laidMetH Tryz.prog Rows.planePointsRow.laid W) :
    Calls Tryz.prog 3 args W fun e W' => ∃ v, e = .returned v ∧ Rows.planePointsSpec.post enc Tryz.prog Tryz.f3 false true false false W args v W' := by
  have hW' := hW
  obtain ⟨p, q, hA0, hV, rfl, hfz, hnd⟩ := hW
  have hA : DataW.TrodAll enc Tryz.prog W 0 (fun _ => true) true Tryz.f3.params.toList args.toList ds p := hA0
  rw [Tryz.params3] at hA hval
  obtain ⟨v0, vs0, d0, ds0, p0, q0, hargs0, rfl, rfl, h0, r0⟩ := trodAll_cons hA
  obtain ⟨v1, vs1, d1, ds1, p1, q1, hargs1, rfl, rfl, h1, r1⟩ := trodAll_cons r0
  obtain ⟨v2, vs2, d2, ds2, p2, q2, hargs2, rfl, rfl, h2, r2⟩ := trodAll_cons r1
  obtain ⟨v3, vs3, d3, ds3, p3, q3, hargs3, rfl, rfl, h3, r3⟩ := trodAll_cons r2
  obtain ⟨rfl, rfl, rfl⟩ := trodAll_nil r3
  obtain rfl : args = #[v0, v1, v2, v3] := by cases args; simp_all
  obtain ⟨rfl, rfl⟩ := trodVars_none hV
  simp only [List.append_nil] at hW' hfz
  have hlt : ∀ p ∈ p0 ++ (p1 ++ (p2 ++ p3)), p.block < W.heap.size := fun p hp => by
    have := DataW.TrodAll.lt hA p (by simpa using hp)
    exact this
  have hv0 := hval 0 23 v0 rfl rfl
  obtain ⟨x0, y0, z0, rfl, a0, b0, c0⟩ := open_dot hv0 h0
  have hv1 := hval 1 23 v1 rfl rfl
  obtain ⟨x1, y1, z1, rfl, a1, b1, c1⟩ := open_dot hv1 h1
  have hv2 := hval 2 23 v2 rfl rfl
  obtain ⟨x2, y2, z2, rfl, a2, b2, c2⟩ := open_dot hv2 h2
  have hv3 := hval 3 25 v3 rfl rfl
  obtain ⟨x3, y3, rfl, a3, b3⟩ := open_pt hv3 h3
  clear hA0
  refine (planePoints_walk W x0 y0 z0 x1 y1 z1 x2 y2 z2 x3 y3 a0.1 a0.2 b0.1 b0.2 a1.1 a1.2 b1.1 b1.2 a2.1 a2.2 b2.1 b2.2 a3.1 a3.2 b3.1 b3.2 (tab_of hL)).mono fun e W' ⟨he, hg⟩ => ?_
  subst he
  have hs0 : ∀ sp : Nat → Bool, (∀ p ∈ p0, sp p.block = true) → DataW.Trod enc Tryz.prog W' 0 sp true 23 (.agg #[.int .i64 x0, .int .i64 y0, .int .i64 z0]) d0 p0 := fun sp hsp =>
    Go.WideElems.Trod_stays (by kernel_rfl) (by kernel_rfl) (of_decide_eq_true (by kernel_rfl)) h0 (fun p hp => grown_same hg (hlt p (by simp [hp]))) hsp
  have hs1 : ∀ sp : Nat → Bool, (∀ p ∈ p1, sp p.block = true) → DataW.Trod enc Tryz.prog W' 0 sp true 23 (.agg #[.int .i64 x1, .int .i64 y1, .int .i64 z1]) d1 p1 := fun sp hsp =>
    Go.WideElems.Trod_stays (by kernel_rfl) (by kernel_rfl) (of_decide_eq_true (by kernel_rfl)) h1 (fun p hp => grown_same hg (hlt p (by simp [hp]))) hsp
  have hs2 : ∀ sp : Nat → Bool, (∀ p ∈ p2, sp p.block = true) → DataW.Trod enc Tryz.prog W' 0 sp true 23 (.agg #[.int .i64 x2, .int .i64 y2, .int .i64 z2]) d2 p2 := fun sp hsp =>
    Go.WideElems.Trod_stays (by kernel_rfl) (by kernel_rfl) (of_decide_eq_true (by kernel_rfl)) h2 (fun p hp => grown_same hg (hlt p (by simp [hp]))) hsp
  have hs3 : ∀ sp : Nat → Bool, (∀ p ∈ p3, sp p.block = true) → DataW.Trod enc Tryz.prog W' 0 sp true 25 (.agg #[.int .i64 x3, .int .i64 y3]) d3 p3 := fun sp hsp =>
    Go.WideElems.Trod_stays (by kernel_rfl) (by kernel_rfl) (of_decide_eq_true (by kernel_rfl)) h3 (fun p hp => grown_same hg (hlt p (by simp [hp]))) hsp
  exact ⟨_, rfl, post_places hW' hlt (fun _ _ _ => trodAll_cons_mk (shut_bool Tryz.underlying4 _) trodAll_mk0) (fun sp hsp => by
    have := trodAll_cons_mk (hs0 sp (fun p hp => hsp p (by simp [hp]))) (trodAll_cons_mk (hs1 sp (fun p hp => hsp p (by simp [hp]))) (trodAll_cons_mk (hs2 sp (fun p hp => hsp p (by simp [hp]))) (trodAll_cons_mk (hs3 sp (fun p hp => hsp p (by simp [hp]))) (trodAll_mk0))))
    rw [List.append_nil] at this
    exact this) (fun _ => rfl) hg (ok_one (by kernel_rfl) rfl (okWide_bool_mk Tryz.underlying4 _))⟩
theorem laid_met (os : Os) : laidMet Tryz.prog Rows.planePointsRow.laid ((laidWorld os).forCall (fun _ _ => 0) ⟨#[], #[.agg #[.int .i64 0, .int .i64 0, .int .i64 0], .agg #[.int .i64 0, .int .i64 0, .int .i64 0], .agg #[.int .i64 0, .int .i64 0, .int .i64 0], .agg #[.int .i64 0, .int .i64 0]], []⟩).memory :=
  laidMet_of_run' 80 (by kernel_rfl) (by kernel_rfl)
theorem reads (os : Os) {H : Type} (enc : TypeId × Value → H) : ∃ places, DataW.whole enc Tryz.prog ((laidWorld os).forCall (fun _ _ => 0) ⟨#[], #[.agg #[.int .i64 0, .int .i64 0, .int .i64 0], .agg #[.int .i64 0, .int .i64 0, .int .i64 0], .agg #[.int .i64 0, .int .i64 0, .int .i64 0], .agg #[.int .i64 0, .int .i64 0]], []⟩).memory Tryz.f3.params.toList Rows.planePointsSpec.vars false #[Value.agg #[.int .i64 0, .int .i64 0, .int .i64 0], Value.agg #[.int .i64 0, .int .i64 0, .int .i64 0], Value.agg #[.int .i64 0, .int .i64 0, .int .i64 0], Value.agg #[.int .i64 0, .int .i64 0]].toList 8 = some ([.agg [.lit (.int .i64 0), .lit (.int .i64 0), .lit (.int .i64 0)], .agg [.lit (.int .i64 0), .lit (.int .i64 0), .lit (.int .i64 0)], .agg [.lit (.int .i64 0), .lit (.int .i64 0), .lit (.int .i64 0)], .agg [.lit (.int .i64 0), .lit (.int .i64 0)]], [], places) :=
  ⟨[], by kernel_rfl⟩
theorem lifted (os : Os) (started : os.Started) (H : Type) (enc : TypeId × Value → H) (F : Stop.Interp) :
    ReturnsInHanded {} Tryz.checked os 3 .any ((OpenSpec.ofChange Rows.planePointsSpec).preRow enc Tryz.prog Tryz.f3 Rows.planePointsRow.domain false Rows.planePointsRow.laid) (((OpenSpec.ofChange Rows.planePointsSpec).at F).post enc Tryz.prog Tryz.f3 false true false false) := by
  obtain ⟨places, hx⟩ := reads os enc
  refine returnsInHanded_of_row (C := Tryz.checked) (s := OpenSpec.ofChange Rows.planePointsSpec) law_own started (by kernel_rfl) Tryz.func3
    (witness_row_at (enc := enc) (C := Tryz.checked) false (laidWorld os) #[.agg #[.int .i64 0, .int .i64 0, .int .i64 0], .agg #[.int .i64 0, .int .i64 0, .int .i64 0], .agg #[.int .i64 0, .int .i64 0, .int .i64 0], .agg #[.int .i64 0, .int .i64 0]] rfl (by kernel_rfl) (by kernel_rfl) (by kernel_rfl)
      (OpenSpec.preRow_of_cond 8 hx (by kernel_rfl) (fun k hk => by cases hk) (by kernel_rfl) (laid_met os))) ?_
  intro W base args ds gs before hval hW _ _ _ hL _ _
  exact contract H enc W base args ds gs before hval hW hL
theorem said : Rows.PlanePointsSaid :=
  OpenClaim.holds_of_cond 3 Tryz.f3 rfl rfl rfl rfl rfl rfl rfl ⟨rfl, rfl, rfl, rfl, rfl⟩ rfl rfl rfl rfl rfl (by kernel_rfl) Tryz.func3 (by kernel_rfl)
    (of_decide_eq_true (by kernel_rfl)) (by unfold Func.isWrapper; first | (rw [if_pos (by decide +kernel)]; kernel_rfl) | (rw [if_neg (by decide +kernel)]; exact ⟨rfl, rfl⟩))
    (fun os started H enc _ F => by rw [OpenClaim.pre_eq_preRow]; exact lifted os started H enc F)
theorem plain (f : FuncId) (fn : Func) (hf : Tryz.pinned.checked.prog.funcNamed "pellicle/pelliclelaw11.PlanePoints" = some f) (hfn : Tryz.pinned.checked.prog.funcs[f]? = some fn) :
    false = Tryz.pinned.checked.prog.looks [] ∧ ∀ (j : Nat) t, fn.params[j]? = some t → Tryz.pinned.checked.prog.wantsStandIn t = false := by
  obtain rfl : f = 3 := Option.some.inj ((show Tryz.prog.funcNamed "pellicle/pelliclelaw11.PlanePoints" = some 3 by kernel_rfl).symm.trans hf) |>.symm
  obtain rfl : fn = Tryz.f3 := (Option.some.inj (Tryz.func3.symm.trans hfn)).symm
  refine ⟨by kernel_rfl, fun j t ht => ?_⟩
  rw [Tryz.params3] at ht
  have ht2 := Array.mem_of_getElem? ht
  simp at ht2
  first | (rcases ht2 with rfl | rfl | rfl) | (rcases ht2 with rfl | rfl) | subst ht2
  all_goals exact (show Tryz.prog.wantsStandIn _ = false by kernel_rfl)
theorem card : Rows.PlanePointsCardSaid :=
  Claim7.holds_tied_plain_at .later [] _ _ _ _ said (fun _ h => by cases h) (by kernel_rfl) (fun _ h => by cases h) planePoints_row_tie rfl ⟨rfl, rfl⟩ (by kernel_rfl) rfl plain (by kernel_rfl)
end Go.Proofs.YthbhgcaemcobeaaGreatDoor.PlanePoints
