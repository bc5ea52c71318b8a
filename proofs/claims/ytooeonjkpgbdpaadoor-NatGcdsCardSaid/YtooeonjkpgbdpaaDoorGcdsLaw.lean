/- NatGcds: what divides both is the document's. -/
import Derived.Test.YtooeonjkpgbdpaaDoorKit2
import Derived.Deep.RegionHeld3
namespace Go.Proofs.YtooeonjkpgbdpaaDoor
open Go.RowKit Mat
set_option maxRecDepth 100000
set_option linter.unusedVariables false
set_option linter.unusedSimpArgs false

set_option maxHeartbeats 8000000 in
theorem natGcds_walk (w : World) (s t : ByteArray) (hT : Tab w) :
    Calls Tryd.prog 10 #[.string s, .string t] w (fun e w' => e = .returned (.bool true) ∧ w.grownBy w' none) := by
  have hG : w.grownBy w none := grown_refl _ _
  have la := num_bd (fewB s 60)
  have lb := num_bd (fewB t 60)
  go_enter Tryd.func10, Tryd.ntmps10
  go_wp2_with fail
  refine (few_60 w s).mono ?_
  rintro e wfs ⟨rfl, rfl⟩
  go_wp2_with fail
  refine (few_60 w t).mono ?_
  rintro e wft ⟨rfl, rfl⟩
  go_wp2_with fail
  refine (two_any w (fewB s 60) (fewB t 60)).mono ?_
  rintro e t1 ⟨_, _, _, _, rfl, ⟨sa1, xa1, rfl, ha1, va1⟩, ⟨sb1, xb1, rfl, hb1, vb1⟩, ⟨sx1, lx1, cx1, xx1, rfl, hx1⟩, ⟨sy1, ly1, cy1, xy1, rfl, hy1⟩, g1⟩
  have na1 : NatV t1 (.agg #[.slice sa1 xa1.length xa1.length]) (num (fewB (fewB s 60) 200)) := ⟨_, _, rfl, ha1, va1⟩
  have nb1 : NatV t1 (.agg #[.slice sb1 xb1.length xb1.length]) (num (fewB (fewB t 60) 200)) := ⟨_, _, rfl, hb1, vb1⟩
  have nx1 : RefV t1 (.agg #[.slice sx1 lx1 cx1]) (num (fewB (fewB s 60) 200)) := ⟨_, _, _, _, rfl, hx1⟩
  have ny1 : RefV t1 (.agg #[.slice sy1 ly1 cy1]) (num (fewB (fewB t 60) 200)) := ⟨_, _, _, _, rfl, hy1⟩
  replace hT := hT.kept g1 (by simp)
  replace hG := grown_trans hG g1
  clear ha1 va1 hb1 vb1 hx1 hy1 g1
  have ba1 := heap_kept (grown_alloc (grown_alloc (World.grownBy_alloc (t1.alloc (.cells #[.slice sa1 xa1.length xa1.length] 24)) (.cells #[.slice sb1 xb1.length xb1.length] 24) none) (.cells #[.slice sx1 lx1 cx1] 30)) (.cells #[.slice sy1 ly1 cy1] 30)) (heap_new t1 (.cells #[.slice sa1 xa1.length xa1.length] 24) (t1.heap.size) rfl)
  have bb1 := heap_kept (grown_alloc (World.grownBy_alloc ((t1.alloc (.cells #[.slice sa1 xa1.length xa1.length] 24)).alloc (.cells #[.slice sb1 xb1.length xb1.length] 24)) (.cells #[.slice sx1 lx1 cx1] 30) none) (.cells #[.slice sy1 ly1 cy1] 30)) (heap_new (t1.alloc (.cells #[.slice sa1 xa1.length xa1.length] 24)) (.cells #[.slice sb1 xb1.length xb1.length] 24) (t1.heap.size + 1) (by simp))
  have bx1 := heap_kept (World.grownBy_alloc (((t1.alloc (.cells #[.slice sa1 xa1.length xa1.length] 24)).alloc (.cells #[.slice sb1 xb1.length xb1.length] 24)).alloc (.cells #[.slice sx1 lx1 cx1] 30)) (.cells #[.slice sy1 ly1 cy1] 30) none) (heap_new ((t1.alloc (.cells #[.slice sa1 xa1.length xa1.length] 24)).alloc (.cells #[.slice sb1 xb1.length xb1.length] 24)) (.cells #[.slice sx1 lx1 cx1] 30) (t1.heap.size + 1 + 1) (by simp))
  have by1 := (heap_new (((t1.alloc (.cells #[.slice sa1 xa1.length xa1.length] 24)).alloc (.cells #[.slice sb1 xb1.length xb1.length] 24)).alloc (.cells #[.slice sx1 lx1 cx1] 30)) (.cells #[.slice sy1 ly1 cy1] 30) (t1.heap.size + 1 + 1 + 1) (by simp))
  have gbt1 := (grown_alloc (grown_alloc (grown_alloc (World.grownBy_alloc t1 (.cells #[.slice sa1 xa1.length xa1.length] 24) none) (.cells #[.slice sb1 xb1.length xb1.length] 24)) (.cells #[.slice sx1 lx1 cx1] 30)) (.cells #[.slice sy1 ly1 cy1] 30))
  replace na1 := na1.kept gbt1
  replace nb1 := nb1.kept gbt1
  replace nx1 := nx1.kept gbt1
  replace ny1 := ny1.kept gbt1
  replace hT := hT.kept gbt1 (by simp)
  replace hG := grown_trans hG gbt1
  clear gbt1
  obtain ⟨cba1, fba1⟩ := box_cell ba1
  obtain ⟨cbb1, fbb1⟩ := box_cell bb1
  obtain ⟨cbx1, fbx1⟩ := box_cell bx1
  obtain ⟨cby1, fby1⟩ := box_cell by1
  go_wp2_with fail
  generalize ((((t1.alloc (.cells #[.slice sa1 xa1.length xa1.length] 24)).alloc (.cells #[.slice sb1 xb1.length xb1.length] 24)).alloc (.cells #[.slice sx1 lx1 cx1] 30)).alloc (.cells #[.slice sy1 ly1 cy1] 30)) = w1 at *
  generalize t1.heap.size = at1 at *
  generalize (fine (fewB (fewB s 60) 200) && fine (fewB (fewB t 60) 200)) = o1 at *
  generalize num (fewB (fewB s 60) 200) = A at *
  generalize num (fewB (fewB t 60) 200) = Bn at *
  cases o1
  · skip
    clear cba1 fba1 cbb1 fbb1 cbx1 fbx1 cby1 fby1
    refine (known_any w1 hT).mono ?_
    rintro e w2 ⟨rfl, gw2⟩
    replace hT := hT.kept gw2 (by simp)
    replace hG := grown_trans hG gw2
    clear gw2
    go_wp2_with fail
    refine (known_any w2 hT).mono ?_
    rintro e w3 ⟨rfl, gw3⟩
    replace hT := hT.kept gw3 (by simp)
    replace hG := grown_trans hG gw3
    clear gw3
    go_wp2_with fail
    refine (few_60 w3 s).mono ?_
    rintro e wgs ⟨rfl, rfl⟩
    go_wp2_with fail
    refine (few_60 w3 t).mono ?_
    rintro e wgt ⟨rfl, rfl⟩
    go_wp2_with fail
    refine (odd_any w3 (fewB s 60) (fewB t 60)).mono ?_
    rintro e w4 ⟨rfl, gw4⟩
    replace hT := hT.kept gw4 (by simp)
    replace hG := grown_trans hG gw4
    clear gw4
    go_wp2_with fail
    go_ret
    exact ⟨rfl, hG⟩
  clear cba1 fba1 cbb1 fbb1 cbx1 fbx1 cby1 fby1
  refine (known_any w1 hT).mono ?_
  rintro e w2 ⟨rfl, gw2⟩
  replace ba1 := heap_kept gw2 ba1
  replace bb1 := heap_kept gw2 bb1
  replace bx1 := heap_kept gw2 bx1
  replace by1 := heap_kept gw2 by1
  replace na1 := na1.kept gw2
  replace nb1 := nb1.kept gw2
  replace nx1 := nx1.kept gw2
  replace ny1 := ny1.kept gw2
  replace hT := hT.kept gw2 (by simp)
  replace hG := grown_trans hG gw2
  clear gw2
  obtain ⟨cba1, fba1⟩ := box_cell ba1
  obtain ⟨cbb1, fbb1⟩ := box_cell bb1
  obtain ⟨cbx1, fbx1⟩ := box_cell bx1
  obtain ⟨cby1, fby1⟩ := box_cell by1
  go_wp2_with fail
  go_region_held3 (fun w' => w'.cell? ⟨at1, 0, none⟩ = some (.slice sa1 xa1.length xa1.length) ∧ w'.cell? ⟨at1 + 1, 0, none⟩ = some (.slice sb1 xb1.length xb1.length) ∧ w'.cell? ⟨at1 + 1 + 1, 0, none⟩ = some (.slice sx1 lx1 cx1) ∧ w'.cell? ⟨at1 + 1 + 1 + 1, 0, none⟩ = some (.slice sy1 ly1 cy1))
    (first | assumption | exact ⟨cba1, cbb1, cbx1, cby1⟩ | go_keep)
    (first
      | (go_at_call 42; (with_reducible refine (Gcd_any w2.drew _ _ _ _ 11 (na1.kept (grown_drew (grown_refl _ _))) (nb1.kept (grown_drew (grown_refl _ _))) (by omega) la lb (hT.kept (grown_drew (grown_refl _ none)) (by simp))).mono ?_); rintro e w3_1 ⟨_, rfl, ng, gw3_1⟩; have hGw3_1 := grown_pre w2 gw3_1 rfl rfl rfl rfl; have hSw3_1 := (And.intro (hGw3_1.cell cba1 (by simp)) (And.intro (hGw3_1.cell cbb1 (by simp)) (And.intro (hGw3_1.cell cbx1 (by simp)) (hGw3_1.cell cby1 (by simp))))); clear gw3_1)
      | (go_at_call 43; (with_reducible refine (rGcd_any w3_1 _ _ _ _ (nx1.kept hGw3_1) (ny1.kept hGw3_1) (toD4 la (by omega)) (toD4 lb (by omega))).mono ?_); rintro e w3_2 ⟨_, rfl, nr, gw3_2⟩; have hGw3_2 := grown_trans hGw3_1 gw3_2; replace ng := ng.kept gw3_2; have hSw3_2 := (And.intro (hGw3_2.cell cba1 (by simp)) (And.intro (hGw3_2.cell cbb1 (by simp)) (And.intro (hGw3_2.cell cbx1 (by simp)) (hGw3_2.cell cby1 (by simp))))); clear gw3_2; clear hGw3_1 hSw3_1)
      | (go_at_call 21; (with_reducible refine (same_any w3_2 _ _ _ 11 ng nr (by omega) (gcd_bd la lb) (toD (gcd_bd la lb) (by omega))).mono ?_); rintro e w3_3 ⟨rfl, gw3_3⟩; have hGw3_3 := grown_trans hGw3_2 gw3_3; replace ng := ng.kept gw3_3; replace nr := nr.kept gw3_3; have hSw3_3 := (And.intro (hGw3_3.cell cba1 (by simp)) (And.intro (hGw3_3.cell cbb1 (by simp)) (And.intro (hGw3_3.cell cbx1 (by simp)) (hGw3_3.cell cby1 (by simp))))); clear gw3_3; clear hGw3_2 hSw3_2))
  replace ba1 := heap_kept hGw3_3 ba1
  replace bb1 := heap_kept hGw3_3 bb1
  replace bx1 := heap_kept hGw3_3 bx1
  replace by1 := heap_kept hGw3_3 by1
  replace na1 := na1.kept hGw3_3
  replace nb1 := nb1.kept hGw3_3
  replace nx1 := nx1.kept hGw3_3
  replace ny1 := ny1.kept hGw3_3
  replace hT := hT.kept hGw3_3 (by simp)
  replace hG := grown_trans hG hGw3_3
  clear cba1 fba1 cbb1 fbb1 cbx1 fbx1 cby1 fby1
  obtain ⟨cba1, fba1⟩ := box_cell ba1
  obtain ⟨cbb1, fbb1⟩ := box_cell bb1
  obtain ⟨cbx1, fbx1⟩ := box_cell bx1
  obtain ⟨cby1, fby1⟩ := box_cell by1
  go_wp2_with fail
  go_ret
  exact ⟨rfl, hG⟩
end Go.Proofs.YtooeonjkpgbdpaaDoor
