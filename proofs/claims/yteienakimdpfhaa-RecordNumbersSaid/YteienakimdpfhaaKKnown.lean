/- Records: the chapter's examples. -/
import Derived.Test.YteienakimdpfhaaKAm
import Derived.Test.YteienakimdpfhaaKRight
import Derived.Test.YteienakimdpfhaaKSplit
namespace Go.Proofs.Yteienakimdpfhaa
open Go.RowKit
set_option maxRecDepth 100000
set_option linter.unusedVariables false
set_option linter.unusedSimpArgs false

theorem ex1 : splitD [0, 6, 0, 2, 2, 88, 0, 4, 4, 0, 0, 0] = (0, [(0, 2, [2, 88]), (4, 0, [])], 10) := by decide +kernel
theorem ex2 : splitD [0, 6, 0, 2, 2, 88] = (7, [], 0) := by decide +kernel
theorem ex3 : splitD [0, 5, 0, 2, 2, 0] = (3, [], 0) := by decide +kernel
set_option maxHeartbeats 16000000 in
theorem Known_any (w : World) : Calls Try.prog 9 #[] w (RetYes w) := by
  have y1 := by_new w [0, 6, 0, 2, 2, 88, 0, 4, 4, 0, 0, 0] (by decide)
  have g1 := World.grownBy_alloc w (.cells (bvs [0, 6, 0, 2, 2, 88, 0, 4, 4, 0, 0, 0]).toArray 5) none
  go_enter Try.func9, Try.ntmps9
  go_wp2_with fail
  change BySl (w.alloc (.cells #[.int .u8 0, .int .u8 6, .int .u8 0, .int .u8 2, .int .u8 2, .int .u8 88, .int .u8 0, .int .u8 4, .int .u8 4, .int .u8 0, .int .u8 0, .int .u8 0] 5)) _ _ at y1
  change w.grownBy (w.alloc (.cells #[.int .u8 0, .int .u8 6, .int .u8 0, .int .u8 2, .int .u8 2, .int .u8 88, .int .u8 0, .int .u8 4, .int .u8 4, .int .u8 0, .int .u8 0, .int .u8 0] 5)) none at g1
  generalize (w.alloc (.cells #[.int .u8 0, .int .u8 6, .int .u8 0, .int .u8 2, .int .u8 2, .int .u8 88, .int .u8 0, .int .u8 4, .int .u8 4, .int .u8 0, .int .u8 0, .int .u8 0] 5)) = w1 at *
  refine (Split_any w1 _ 12 12 _ rfl y1 (by omega) (by omega) (by omega)).mono ?_
  rw [ex1]
  rintro e w2 ⟨v, rfl, I2, hg2⟩
  replace g1 := grown_trans g1 hg2
  have y2 := (y1.kept hg2).take 6
  obtain ⟨sv, cv, rfl⟩ := I2.shape
  clear y1 hg2
  go_wp2_with fail
  refine (Split_any w2 _ 6 12 _ rfl y2 (by omega) (by omega) (by omega)).mono ?_
  rw [show [0, 6, 0, 2, 2, 88, 0, 4, 4, 0, 0, 0].take 6 = [0, 6, 0, 2, 2, 88] from rfl, ex2]
  rintro e w3 ⟨v, rfl, I3, hg3⟩
  replace g1 := grown_trans g1 hg3
  replace I2 := I2.kept hg3
  obtain ⟨s3, c3, rfl⟩ := I3.shape
  have gA := World.grownBy_alloc w3 (.cells (bvs [0, 5, 0, 2, 2, 0]).toArray 5) none
  have y3 := by_new w3 [0, 5, 0, 2, 2, 0] (by decide)
  replace g1 := grown_trans g1 gA
  replace I2 := I2.kept gA
  change BySl (w3.alloc (.cells #[.int .u8 0, .int .u8 5, .int .u8 0, .int .u8 2, .int .u8 2, .int .u8 0] 5)) _ _ at y3
  clear y2 hg3 I3 gA
  go_wp2_with fail
  refine (Split_any _ _ 6 6 _ rfl y3 (by omega) (by omega) (by omega)).mono ?_
  rw [ex3]
  rintro e w4 ⟨v, rfl, I4, hg4⟩
  obtain ⟨s4, c4, rfl⟩ := I4.shape
  replace g1 := grown_trans g1 hg4
  replace I2 := I2.kept hg4
  clear hg4 I4 y3
  obtain ⟨a, q0, sb0, cb0, kd0, dt0, bd0, rfl, hq0, hr0, A0, A1, A2, A3, A4, A5, A6⟩ := I2.sl.at 0 (by decide)
  obtain ⟨a', q1, sb1, cb1, kd1, dt1, bd1, ha, hq1, hr1, B0, B1, B2, B3, B4, B5, B6⟩ := I2.sl.at 1 (by decide)
  cases ha; cases hr0; cases hr1
  go_wp2_with fail
  refine (Right_0 w4 sb0 cb0 [2, 88] rfl A3 A4 A5 A6).mono ?_
  rintro e w5 ⟨rfl, hg5⟩
  replace g1 := grown_trans g1 hg5
  replace B0 := hg5.cell B0 (by simp)
  replace B1 := hg5.cell B1 (by simp)
  replace B2 := hg5.cell B2 (by simp)
  replace B3 := B3.kept hg5
  clear A0 A1 A2 A3 A4 hg5 I2
  go_wp2_with fail
  refine (Right_4 w5 sb1 cb1 [] rfl B3 B4 B5 B6).mono ?_
  rintro e w6 ⟨rfl, hg6⟩
  replace g1 := grown_trans g1 hg6
  go_wp2_with fail
  go_ret
  exact ⟨rfl, g1⟩
end Go.Proofs.Yteienakimdpfhaa
