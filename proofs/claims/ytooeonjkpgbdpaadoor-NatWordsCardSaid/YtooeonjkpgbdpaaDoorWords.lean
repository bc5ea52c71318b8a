/- NatWords: a word is the number that it is. -/
import Derived.Test.YtooeonjkpgbdpaaDoorKit
import Derived.Deep.RegionHeld3
namespace Go.Proofs.YtooeonjkpgbdpaaDoor
open Go.RowKit Mat
set_option maxRecDepth 100000
set_option linter.unusedVariables false
set_option linter.unusedSimpArgs false

set_option maxHeartbeats 8000000 in
theorem natWords_walk (w : World) (n m : Nat) (hT : Tab w) (hn0 : n < 18446744073709551616) (hm0 : m < 18446744073709551616) :
    Calls Tryd.prog 4 #[.int .u64 (n : Int), .int .u64 (m : Int)] w (fun e w' => e = .returned (.bool true) ∧ w.grownBy w' none) := by
  have hG : w.grownBy w none := grown_refl _ _
  have hn : n < B := hn0
  have hm : m < B := hm0
  have ln : n < B ^ 1 := by simpa using hn
  have lm : m < B ^ 1 := by simpa using hm
  go_enter Tryd.func4, Tryd.ntmps4
  go_wp2_with fail
  refine (Of_any w n hn).mono ?_
  rintro e w1 ⟨_, rfl, ⟨sa, xa, rfl, ha, va⟩, gw1⟩
  have na : NatV _ (.agg #[.slice sa xa.length xa.length]) n := ⟨_, _, rfl, ha, va⟩; clear ha va
  replace hT := hT.kept gw1 (by simp)
  replace hG := grown_trans hG gw1
  clear gw1
  go_wp2_with fail
  refine (Of_any w1 m hm).mono ?_
  rintro e uw2 ⟨_, rfl, ⟨sb, xb, rfl, hb, vb⟩, guw2⟩
  have nbx : NatV uw2 (.agg #[.slice sb xb.length xb.length]) m := ⟨_, _, rfl, hb, vb⟩
  replace na := na.kept guw2
  replace hT := hT.kept guw2 (by simp)
  replace hG := grown_trans hG guw2
  clear guw2 hb vb
  have ba := heap_kept (World.grownBy_alloc (uw2.alloc (.cells #[.slice sa xa.length xa.length] 24)) (.cells #[.slice sb xb.length xb.length] 24) none) (heap_new uw2 (.cells #[.slice sa xa.length xa.length] 24) (uw2.heap.size) rfl)
  have bb := (heap_new (uw2.alloc (.cells #[.slice sa xa.length xa.length] 24)) (.cells #[.slice sb xb.length xb.length] 24) (uw2.heap.size + 1) (by simp))
  have gbuw2 := (grown_alloc (World.grownBy_alloc uw2 (.cells #[.slice sa xa.length xa.length] 24) none) (.cells #[.slice sb xb.length xb.length] 24))
  replace na := na.kept gbuw2
  replace nbx := nbx.kept gbuw2
  replace hT := hT.kept gbuw2 (by simp)
  replace hG := grown_trans hG gbuw2
  clear gbuw2
  obtain ⟨cba, fba⟩ := box_cell ba
  obtain ⟨cbb, fbb⟩ := box_cell bb
  go_wp2_with fail
  generalize ((uw2.alloc (.cells #[.slice sa xa.length xa.length] 24)).alloc (.cells #[.slice sb xb.length xb.length] 24)) = w3 at *
  generalize uw2.heap.size = auw2 at *
  clear cba fba cbb fbb
  refine (Word_any w3 _ _ 1 na (by omega) ln).mono ?_
  rintro e w4 ⟨⟨y, rfl, hy, -⟩, gw4⟩
  obtain rfl : y = n := hy hn; rw [decide_eq_true hn]
  replace ba := heap_kept gw4 ba
  replace bb := heap_kept gw4 bb
  replace na := na.kept gw4
  replace nbx := nbx.kept gw4
  replace hT := hT.kept gw4 (by simp)
  replace hG := grown_trans hG gw4
  clear gw4
  obtain ⟨cba, fba⟩ := box_cell ba
  obtain ⟨cbb, fbb⟩ := box_cell bb
  rcases Nat.lt_trichotomy y m with h0 | h0 | h0
  · skip
    have f1 : decide ((y : Int) < (m : Int)) = true := decide_eq_true (by omega)
    have f2 : decide ((m : Int) < (y : Int)) = false := decide_eq_false (by omega)
    go_wp2_with fail
    go_region_held3 (fun w' => w'.cell? ⟨auw2, 0, none⟩ = some (.slice sa xa.length xa.length) ∧ w'.cell? ⟨auw2 + 1, 0, none⟩ = some (.slice sb xb.length xb.length))
      (first | assumption | exact ⟨cba, cbb⟩ | go_keep)
      (first
        | (go_at_call 16; (refine (known_any w4.drew (hT.kept (grown_drew (grown_refl _ none)) (by simp))).mono ?_); rintro e ltw5_1 ⟨rfl, gltw5_1⟩; have hGltw5_1 := grown_pre w4 gltw5_1 rfl rfl rfl rfl; have hSltw5_1 := (And.intro (hGltw5_1.cell cba (by simp)) (hGltw5_1.cell cbb (by simp))); clear gltw5_1)
        | (go_at_call 25; (with_reducible refine (rOf_any ltw5_1 y hn).mono ?_); rintro e ltw5_2 ⟨_, rfl, nx, gltw5_2⟩; have hGltw5_2 := grown_trans hGltw5_1 gltw5_2; have hSltw5_2 := (And.intro (hGltw5_2.cell cba (by simp)) (hGltw5_2.cell cbb (by simp))); clear gltw5_2; clear hGltw5_1 hSltw5_1)
        | (go_at_call 21; (with_reducible refine (same_any ltw5_2 _ _ _ 1 (na.kept hGltw5_2) nx (by omega) ln (toD ln (by omega))).mono ?_); rintro e ltw5_3 ⟨rfl, gltw5_3⟩; have hGltw5_3 := grown_trans hGltw5_2 gltw5_3; replace nx := nx.kept gltw5_3; have hSltw5_3 := (And.intro (hGltw5_3.cell cba (by simp)) (hGltw5_3.cell cbb (by simp))); clear gltw5_3; clear hGltw5_2 hSltw5_2)
        | (go_at_call 26; (with_reducible refine (Cmp_any ltw5_3 _ _ _ _ 1 (na.kept hGltw5_3) (nbx.kept hGltw5_3) (by omega) ln lm).mono ?_); rintro e ltw5_4 ⟨rfl, gltw5_4⟩; rw [cmpInt_lt h0]; have hGltw5_4 := grown_trans hGltw5_3 gltw5_4; have hSltw5_4 := (And.intro (hGltw5_4.cell cba (by simp)) (hGltw5_4.cell cbb (by simp))); clear gltw5_4; clear hGltw5_3 hSltw5_3)
        | (go_at_call 23; (with_reducible refine (Bits_any ltw5_4 _ _ 1 (na.kept hGltw5_4) (by omega) ln).mono ?_); rintro e ltw5_5 ⟨rfl, gltw5_5⟩; have hGltw5_5 := grown_trans hGltw5_4 gltw5_5; have hSltw5_5 := (And.intro (hGltw5_5.cell cba (by simp)) (hGltw5_5.cell cbb (by simp))); clear gltw5_5; clear hGltw5_4 hSltw5_4)
        | (go_at_call 25; (with_reducible refine (rOf_any ltw5_5 y hn).mono ?_); rintro e ltw5_6 ⟨_, rfl, nx2, gltw5_6⟩; have hGltw5_6 := grown_trans hGltw5_5 gltw5_6; have hSltw5_6 := (And.intro (hGltw5_6.cell cba (by simp)) (hGltw5_6.cell cbb (by simp))); clear gltw5_6; clear hGltw5_5 hSltw5_5)
        | (go_at_call 24; (with_reducible refine (rBits_any ltw5_6 _ _ nx2 (toD ln (by omega)) (nbB ln (by omega))).mono ?_); rintro e ltw5_7 ⟨rfl, gltw5_7⟩; have hGltw5_7 := grown_trans hGltw5_6 gltw5_7; replace nx2 := nx2.kept gltw5_7; have hSltw5_7 := (And.intro (hGltw5_7.cell cba (by simp)) (hGltw5_7.cell cbb (by simp))); clear gltw5_7; clear hGltw5_6 hSltw5_6))
    replace ba := heap_kept hGltw5_7 ba
    replace bb := heap_kept hGltw5_7 bb
    replace na := na.kept hGltw5_7
    replace nbx := nbx.kept hGltw5_7
    replace hT := hT.kept hGltw5_7 (by simp)
    replace hG := grown_trans hG hGltw5_7
    clear cba fba cbb fbb
    obtain ⟨cba, fba⟩ := box_cell ba
    obtain ⟨cbb, fbb⟩ := box_cell bb
    go_wp2_with fail
    go_ret
    exact ⟨rfl, hG⟩
  · skip
    subst h0
    have f1 : decide ((y : Int) < (y : Int)) = false := decide_eq_false (by omega)
    have f2 : decide ((y : Int) < (y : Int)) = false := decide_eq_false (by omega)
    go_wp2_with fail
    go_region_held3 (fun w' => w'.cell? ⟨auw2, 0, none⟩ = some (.slice sa xa.length xa.length) ∧ w'.cell? ⟨auw2 + 1, 0, none⟩ = some (.slice sb xb.length xb.length))
      (first | assumption | exact ⟨cba, cbb⟩ | go_keep)
      (first
        | (go_at_call 16; (refine (known_any w4.drew (hT.kept (grown_drew (grown_refl _ none)) (by simp))).mono ?_); rintro e eqw5_1 ⟨rfl, geqw5_1⟩; have hGeqw5_1 := grown_pre w4 geqw5_1 rfl rfl rfl rfl; have hSeqw5_1 := (And.intro (hGeqw5_1.cell cba (by simp)) (hGeqw5_1.cell cbb (by simp))); clear geqw5_1)
        | (go_at_call 25; (with_reducible refine (rOf_any eqw5_1 y hn).mono ?_); rintro e eqw5_2 ⟨_, rfl, nx, geqw5_2⟩; have hGeqw5_2 := grown_trans hGeqw5_1 geqw5_2; have hSeqw5_2 := (And.intro (hGeqw5_2.cell cba (by simp)) (hGeqw5_2.cell cbb (by simp))); clear geqw5_2; clear hGeqw5_1 hSeqw5_1)
        | (go_at_call 21; (with_reducible refine (same_any eqw5_2 _ _ _ 1 (na.kept hGeqw5_2) nx (by omega) ln (toD ln (by omega))).mono ?_); rintro e eqw5_3 ⟨rfl, geqw5_3⟩; have hGeqw5_3 := grown_trans hGeqw5_2 geqw5_3; replace nx := nx.kept geqw5_3; have hSeqw5_3 := (And.intro (hGeqw5_3.cell cba (by simp)) (hGeqw5_3.cell cbb (by simp))); clear geqw5_3; clear hGeqw5_2 hSeqw5_2)
        | (go_at_call 26; (with_reducible refine (Cmp_any eqw5_3 _ _ _ _ 1 (na.kept hGeqw5_3) (nbx.kept hGeqw5_3) (by omega) ln lm).mono ?_); rintro e eqw5_4 ⟨rfl, geqw5_4⟩; rw [cmpInt_eq rfl]; have hGeqw5_4 := grown_trans hGeqw5_3 geqw5_4; have hSeqw5_4 := (And.intro (hGeqw5_4.cell cba (by simp)) (hGeqw5_4.cell cbb (by simp))); clear geqw5_4; clear hGeqw5_3 hSeqw5_3)
        | (go_at_call 23; (with_reducible refine (Bits_any eqw5_4 _ _ 1 (na.kept hGeqw5_4) (by omega) ln).mono ?_); rintro e eqw5_5 ⟨rfl, geqw5_5⟩; have hGeqw5_5 := grown_trans hGeqw5_4 geqw5_5; have hSeqw5_5 := (And.intro (hGeqw5_5.cell cba (by simp)) (hGeqw5_5.cell cbb (by simp))); clear geqw5_5; clear hGeqw5_4 hSeqw5_4)
        | (go_at_call 25; (with_reducible refine (rOf_any eqw5_5 y hn).mono ?_); rintro e eqw5_6 ⟨_, rfl, nx2, geqw5_6⟩; have hGeqw5_6 := grown_trans hGeqw5_5 geqw5_6; have hSeqw5_6 := (And.intro (hGeqw5_6.cell cba (by simp)) (hGeqw5_6.cell cbb (by simp))); clear geqw5_6; clear hGeqw5_5 hSeqw5_5)
        | (go_at_call 24; (with_reducible refine (rBits_any eqw5_6 _ _ nx2 (toD ln (by omega)) (nbB ln (by omega))).mono ?_); rintro e eqw5_7 ⟨rfl, geqw5_7⟩; have hGeqw5_7 := grown_trans hGeqw5_6 geqw5_7; replace nx2 := nx2.kept geqw5_7; have hSeqw5_7 := (And.intro (hGeqw5_7.cell cba (by simp)) (hGeqw5_7.cell cbb (by simp))); clear geqw5_7; clear hGeqw5_6 hSeqw5_6))
    replace ba := heap_kept hGeqw5_7 ba
    replace bb := heap_kept hGeqw5_7 bb
    replace na := na.kept hGeqw5_7
    replace nbx := nbx.kept hGeqw5_7
    replace hT := hT.kept hGeqw5_7 (by simp)
    replace hG := grown_trans hG hGeqw5_7
    clear cba fba cbb fbb
    obtain ⟨cba, fba⟩ := box_cell ba
    obtain ⟨cbb, fbb⟩ := box_cell bb
    go_wp2_with fail
    go_ret
    exact ⟨rfl, hG⟩
  · skip
    have f1 : decide ((y : Int) < (m : Int)) = false := decide_eq_false (by omega)
    have f2 : decide ((m : Int) < (y : Int)) = true := decide_eq_true (by omega)
    go_wp2_with fail
    go_region_held3 (fun w' => w'.cell? ⟨auw2, 0, none⟩ = some (.slice sa xa.length xa.length) ∧ w'.cell? ⟨auw2 + 1, 0, none⟩ = some (.slice sb xb.length xb.length))
      (first | assumption | exact ⟨cba, cbb⟩ | go_keep)
      (first
        | (go_at_call 16; (refine (known_any w4.drew (hT.kept (grown_drew (grown_refl _ none)) (by simp))).mono ?_); rintro e gtw5_1 ⟨rfl, ggtw5_1⟩; have hGgtw5_1 := grown_pre w4 ggtw5_1 rfl rfl rfl rfl; have hSgtw5_1 := (And.intro (hGgtw5_1.cell cba (by simp)) (hGgtw5_1.cell cbb (by simp))); clear ggtw5_1)
        | (go_at_call 25; (with_reducible refine (rOf_any gtw5_1 y hn).mono ?_); rintro e gtw5_2 ⟨_, rfl, nx, ggtw5_2⟩; have hGgtw5_2 := grown_trans hGgtw5_1 ggtw5_2; have hSgtw5_2 := (And.intro (hGgtw5_2.cell cba (by simp)) (hGgtw5_2.cell cbb (by simp))); clear ggtw5_2; clear hGgtw5_1 hSgtw5_1)
        | (go_at_call 21; (with_reducible refine (same_any gtw5_2 _ _ _ 1 (na.kept hGgtw5_2) nx (by omega) ln (toD ln (by omega))).mono ?_); rintro e gtw5_3 ⟨rfl, ggtw5_3⟩; have hGgtw5_3 := grown_trans hGgtw5_2 ggtw5_3; replace nx := nx.kept ggtw5_3; have hSgtw5_3 := (And.intro (hGgtw5_3.cell cba (by simp)) (hGgtw5_3.cell cbb (by simp))); clear ggtw5_3; clear hGgtw5_2 hSgtw5_2)
        | (go_at_call 26; (with_reducible refine (Cmp_any gtw5_3 _ _ _ _ 1 (na.kept hGgtw5_3) (nbx.kept hGgtw5_3) (by omega) ln lm).mono ?_); rintro e gtw5_4 ⟨rfl, ggtw5_4⟩; rw [cmpInt_gt h0]; have hGgtw5_4 := grown_trans hGgtw5_3 ggtw5_4; have hSgtw5_4 := (And.intro (hGgtw5_4.cell cba (by simp)) (hGgtw5_4.cell cbb (by simp))); clear ggtw5_4; clear hGgtw5_3 hSgtw5_3)
        | (go_at_call 23; (with_reducible refine (Bits_any gtw5_4 _ _ 1 (na.kept hGgtw5_4) (by omega) ln).mono ?_); rintro e gtw5_5 ⟨rfl, ggtw5_5⟩; have hGgtw5_5 := grown_trans hGgtw5_4 ggtw5_5; have hSgtw5_5 := (And.intro (hGgtw5_5.cell cba (by simp)) (hGgtw5_5.cell cbb (by simp))); clear ggtw5_5; clear hGgtw5_4 hSgtw5_4)
        | (go_at_call 25; (with_reducible refine (rOf_any gtw5_5 y hn).mono ?_); rintro e gtw5_6 ⟨_, rfl, nx2, ggtw5_6⟩; have hGgtw5_6 := grown_trans hGgtw5_5 ggtw5_6; have hSgtw5_6 := (And.intro (hGgtw5_6.cell cba (by simp)) (hGgtw5_6.cell cbb (by simp))); clear ggtw5_6; clear hGgtw5_5 hSgtw5_5)
        | (go_at_call 24; (with_reducible refine (rBits_any gtw5_6 _ _ nx2 (toD ln (by omega)) (nbB ln (by omega))).mono ?_); rintro e gtw5_7 ⟨rfl, ggtw5_7⟩; have hGgtw5_7 := grown_trans hGgtw5_6 ggtw5_7; replace nx2 := nx2.kept ggtw5_7; have hSgtw5_7 := (And.intro (hGgtw5_7.cell cba (by simp)) (hGgtw5_7.cell cbb (by simp))); clear ggtw5_7; clear hGgtw5_6 hSgtw5_6))
    replace ba := heap_kept hGgtw5_7 ba
    replace bb := heap_kept hGgtw5_7 bb
    replace na := na.kept hGgtw5_7
    replace nbx := nbx.kept hGgtw5_7
    replace hT := hT.kept hGgtw5_7 (by simp)
    replace hG := grown_trans hG hGgtw5_7
    clear cba fba cbb fbb
    obtain ⟨cba, fba⟩ := box_cell ba
    obtain ⟨cbb, fbb⟩ := box_cell bb
    go_wp2_with fail
    go_ret
    exact ⟨rfl, hG⟩
end Go.Proofs.YtooeonjkpgbdpaaDoor
