/- RecordRight: the law's walk. -/
import Derived.Test.YteienakimdpfhaaKKnown
import Derived.Test.YteienakimdpfhaaKRRight
namespace Go.Proofs.Yteienakimdpfhaa
open Go.RowKit
set_option maxRecDepth 100000
set_option linter.unusedVariables false
set_option linter.unusedSimpArgs false

set_option maxHeartbeats 32000000 in
theorem recordRight_walk (w : World) (k d : Nat) (s : Option Addr) (n cap : Nat) (l : List Nat) (hn : l.length = n) (hl : BySl w s l) (hz : s = none → n = 0 ∧ cap = 0) (hc : n ≤ cap) (hm : cap ≤ 9223372036854775807) :
    Calls Try.prog 3 #[.agg #[.int .u8 (k : Int), .int .u8 (d : Int), .slice s n cap]] w (RetYes w) := by
  have g1 := World.grownBy_alloc w (.cells #[.int .u8 (k : Int), .int .u8 (d : Int), .slice s n cap] 24) none
  have b1 := heap_new w (.cells #[.int .u8 (k : Int), .int .u8 (d : Int), .slice s n cap] 24) w.heap.size rfl
  obtain ⟨C0, C1, C2, _, _, _⟩ := box_cells3 b1
  by_cases hbig : 200000 < n
  · have q1 : decide ((200000 : Int) < (n : Int)) = true := decide_eq_true (by omega)
    clear hl hn hz hbig
    go_enter Try.func3, Try.ntmps3
    go_wp2_with fail
    refine (Known_any _).mono ?_
    rintro e w1 ⟨rfl, hg1⟩
    go_wp2_with fail
    go_ret
    exact ⟨rfl, grown_trans g1 hg1⟩
  · have q1 : decide ((200000 : Int) < (n : Int)) = false := decide_eq_false (by omega)
    have HL := Lib.hid hl
    have HN := Lib.hid hn
    have HZ := Lib.hid hz
    have HB := Lib.hid (show n ≤ 200000 by omega)
    clear hl hn hz hbig
    go_enter Try.func3, Try.ntmps3
    go_wp2_with fail
    refine (Copied_any _ s n cap l HN.out (HL.out.kept g1) HZ.out (by have := HB.out; omega)).mono ?_
    rintro e w1 ⟨gc, cc, rfl, hbc, hgc, hcc, hmc, hg1⟩
    rw [HN.out] at hcc ⊢
    have HC := Lib.hid hbc.sl
    replace b1 := heap_kept hg1 b1
    replace g1 := grown_trans g1 hg1
    clear hg1 hbc hgc C0 C1 C2
    obtain ⟨C0, C1, C2, _, _, _⟩ := box_cells3 b1
    go_wp2_with fail
    refine (Right_any w1 s k d n cap l HN.out (HL.out.kept g1) HZ.out hc hm).mono ?_
    rintro e w2 ⟨rfl, hg2⟩
    obtain ⟨B, hB⟩ : ∃ B, rightB k d l = B := ⟨_, rfl⟩
    rw [hB]
    have HBB := Lib.hid hB
    replace b1 := heap_kept hg2 b1
    replace g1 := grown_trans g1 hg2
    replace HC := Lib.hid (HC.out.kept hg2)
    clear hg2 hB C0 C1 C2
    obtain ⟨C0, C1, C2, _, _, _⟩ := box_cells3 b1
    go_wp2_with fail
    refine (Known_any w2).mono ?_
    rintro e w3 ⟨rfl, hg3⟩
    replace b1 := heap_kept hg3 b1
    replace g1 := grown_trans g1 hg3
    replace HC := Lib.hid (HC.out.kept hg3)
    clear hg3 C0 C1 C2
    obtain ⟨C0, C1, C2, _, _, _⟩ := box_cells3 b1
    go_wp2_with fail
    refine (RRight_any w3 s k d n cap l HN.out (HL.out.kept g1) (by have := HB.out; omega)).mono ?_
    rintro e w4 ⟨rfl, hg4⟩
    rw [HBB.out]
    replace b1 := heap_kept hg4 b1
    replace g1 := grown_trans g1 hg4
    replace HC := Lib.hid (HC.out.kept hg4)
    clear hg4 C0 C1 C2
    obtain ⟨C0, C1, C2, _, _, _⟩ := box_cells3 b1
    have k1 := conv_by w4 s n cap l HN.out (HL.out.kept g1)
    have k2 := conv_by w4 _ n cc l HN.out HC.out
    have e1 : (B == B) = true := by simp
    go_wp2_with (simp only [k1, k2])
    go_ret
    exact ⟨by simp, g1⟩
end Go.Proofs.Yteienakimdpfhaa
