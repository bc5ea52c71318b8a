/- NatRoots: the root of a number, and what is left, is the document's. -/
import Derived.Test.YtooeonjkpgbdpaaDoorKit3
import Derived.Deep.RegionHeld3
namespace Go.Proofs.YtooeonjkpgbdpaaDoor
open Go.RowKit Mat
set_option maxRecDepth 100000
set_option linter.unusedVariables false
set_option linter.unusedSimpArgs false

set_option maxHeartbeats 8000000 in
theorem natRoots_walk (w : World) (s : ByteArray) (hT : Tab w) :
    Calls Tryd.prog 9 #[.string s] w (fun e w' => e = .returned (.bool true) ∧ w.grownBy w' none) := by
  have hG : w.grownBy w none := grown_refl _ _
  have la := num_bd s
  go_enter Tryd.func9, Tryd.ntmps9
  go_wp2_with fail
  refine (two_any w s { data := #[48] }).mono ?_
  rintro e t1 ⟨_, _, _, _, rfl, ⟨sa1, xa1, rfl, ha1, va1⟩, ⟨sb1, xb1, rfl, hb1, vb1⟩, ⟨sx1, lx1, cx1, xx1, rfl, hx1⟩, ⟨sy1, ly1, cy1, xy1, rfl, hy1⟩, g1⟩
  have na1 : NatV t1 (.agg #[.slice sa1 xa1.length xa1.length]) (num (fewB s 200)) := ⟨_, _, rfl, ha1, va1⟩
  have nb1 : NatV t1 (.agg #[.slice sb1 xb1.length xb1.length]) (num (fewB { data := #[48] } 200)) := ⟨_, _, rfl, hb1, vb1⟩
  have nx1 : RefV t1 (.agg #[.slice sx1 lx1 cx1]) (num (fewB s 200)) := ⟨_, _, _, _, rfl, hx1⟩
  have ny1 : RefV t1 (.agg #[.slice sy1 ly1 cy1]) (num (fewB { data := #[48] } 200)) := ⟨_, _, _, _, rfl, hy1⟩
  replace hT := hT.kept g1 (by simp)
  replace hG := grown_trans hG g1
  clear ha1 va1 hb1 vb1 hx1 hy1 g1
  have ba1 := heap_kept (grown_alloc (grown_alloc (World.grownBy_alloc (t1.alloc (.cells #[.slice sa1 xa1.length xa1.length] 24)) (.cells #[.slice sb1 xb1.length xb1.length] 24) none) (.cells #[.slice sx1 lx1 cx1] 30)) (.cells #[.slice sy1 ly1 cy1] 30)) (heap_new t1 (.cells #[.slice sa1 xa1.length xa1.length] 24) (t1.heap.size) rfl)
  have bb1 := heap_kept (grown_alloc (World.grownBy_alloc ((t1.alloc (.cells #[.slice sa1 xa1.length xa1.length] 24)).alloc (.cells #[.slice sb1 xb1.length xb1.length] 24)) (.cells #[.slice sx1 lx1 cx1] 30) none) (.cells #[.slice sy1 ly1 cy1] 30)) (heap_new (t1.alloc (.cells #[.slice sa1 xa1.length xa1.length] 24)) (.cells #[.slice sb1 xb1.length xb1.length] 24) (t1.heap.size + 1) (by simp))
  have bx1 := heap_kept (World.grownBy_alloc (((t1.alloc (.cells #[.slice sa1 xa1.length xa1.length] 24)).alloc (.cells #[.slice sb1 xb1.length xb1.length] 24)).alloc (.cells #[.slice sx1 lx1 cx1] 30)) (.cells #[.slice sy1 ly1 cy1] 30) none) (heap_new ((t1.alloc (.cells #[.slice sa1 xa1.length xa1.length] 24)).alloc (.cells #[.slice sb1 xb1.length xb1.length] 24)) (.cells #[.slice sx1 lx1 cx1] 30) (t1.heap.size + 1 + 1) (by simp))
  have by1 := (heap_new (((t1.alloc (.cells #[.slice sa1 xa1.length xa1.length] 24)).alloc (.cells #[.slice sb1 xb1.length xb1.length] 24)).alloc (.cells #[.slice sx1 lx1 cx1] 30)) (.cells #[.slice sy1 ly1 cy1] 30) (t1.heap.size + 1 + 1 + 1) (by simp))
  have gbt1 := (grown_alloc (grown_alloc (grown_alloc (World.grownBy_alloc t1 (.cells #[.slice sa1 xa1.length xa1.length] 24) none) (.cells #[.slice sb1 xb1.length xb1.length] 24)) (.cells #[.slice sx1 lx1 cx1] 30)) (.cells #[.slice sy1 ly1 cy1] 30))
  replace na1 := na1.kept gbt1
  replace nb1 := nb1.kept gbt1
  replace nx1 := nx1.kept gbt1
  replace ny1 := ny1.kept gbt1
  replace hT := hT.kept gbt1 (by simp)
  replace hG := grown_trans hG gbt1
  clear gbt1
  obtain ⟨cba1, fba1⟩ := box_cell ba1
  obtain ⟨cbb1, fbb1⟩ := box_cell bb1
  obtain ⟨cbx1, fbx1⟩ := box_cell bx1
  obtain ⟨cby1, fby1⟩ := box_cell by1
  go_wp2_with fail
  generalize ((((t1.alloc (.cells #[.slice sa1 xa1.length xa1.length] 24)).alloc (.cells #[.slice sb1 xb1.length xb1.length] 24)).alloc (.cells #[.slice sx1 lx1 cx1] 30)).alloc (.cells #[.slice sy1 ly1 cy1] 30)) = w1 at *
  generalize t1.heap.size = at1 at *
  generalize (fine (fewB s 200) && fine (fewB { data := #[48] } 200)) = o1 at *
  generalize num (fewB s 200) = A at *
  generalize num (fewB { data := #[48] } 200) = Bn at *
  cases o1
  · skip
    clear cba1 fba1 cbb1 fbb1 cbx1 fbx1 cby1 fby1
    refine (known_any w1 hT).mono ?_
    rintro e w2 ⟨rfl, gw2⟩
    replace hT := hT.kept gw2 (by simp)
    replace hG := grown_trans hG gw2
    clear gw2
    go_wp2_with fail
    refine (known_any w2 hT).mono ?_
    rintro e w3 ⟨rfl, gw3⟩
    replace hT := hT.kept gw3 (by simp)
    replace hG := grown_trans hG gw3
    clear gw3
    go_wp2_with fail
    refine (odd_any w3 s { data := #[48] }).mono ?_
    rintro e w4 ⟨rfl, gw4⟩
    replace hT := hT.kept gw4 (by simp)
    replace hG := grown_trans hG gw4
    clear gw4
    go_wp2_with fail
    go_ret
    exact ⟨rfl, hG⟩
  clear cba1 fba1 cbb1 fbb1 cbx1 fbx1 cby1 fby1
  refine (known_any w1 hT).mono ?_
  rintro e w2 ⟨rfl, gw2⟩
  replace ba1 := heap_kept gw2 ba1
  replace bb1 := heap_kept gw2 bb1
  replace bx1 := heap_kept gw2 bx1
  replace by1 := heap_kept gw2 by1
  replace na1 := na1.kept gw2
  replace nb1 := nb1.kept gw2
  replace nx1 := nx1.kept gw2
  replace ny1 := ny1.kept gw2
  replace hT := hT.kept gw2 (by simp)
  replace hG := grown_trans hG gw2
  clear gw2
  obtain ⟨cba1, fba1⟩ := box_cell ba1
  obtain ⟨cbb1, fbb1⟩ := box_cell bb1
  obtain ⟨cbx1, fbx1⟩ := box_cell bx1
  obtain ⟨cby1, fby1⟩ := box_cell by1
  go_wp2_with fail
  clear nb1 ny1
  clear cba1 fba1 cbb1 fbb1 cbx1 fbx1 cby1 fby1
  refine (Root_any w2 _ _ 11 na1 la (by omega) (by omega)).mono ?_
  rintro e uw3 ⟨r, hr, _, _, rfl, ⟨sr, xr, rfl, hr, vr⟩, ⟨sm, xm, rfl, hm, vm⟩, guw3⟩
  have nr : NatV uw3 (.agg #[.slice sr xr.length xr.length]) (r) := ⟨_, _, rfl, hr, vr⟩
  have nm : NatV uw3 (.agg #[.slice sm xm.length xm.length]) (A - r * r) := ⟨_, _, rfl, hm, vm⟩
  replace ba1 := heap_kept guw3 ba1
  replace bb1 := heap_kept guw3 bb1
  replace bx1 := heap_kept guw3 bx1
  replace by1 := heap_kept guw3 by1
  replace na1 := na1.kept guw3
  replace nx1 := nx1.kept guw3
  replace hT := hT.kept guw3 (by simp)
  replace hG := grown_trans hG guw3
  clear guw3 hr vr hm vm
  have br := heap_kept (World.grownBy_alloc (uw3.alloc (.cells #[.slice sr xr.length xr.length] 24)) (.cells #[.slice sm xm.length xm.length] 24) none) (heap_new uw3 (.cells #[.slice sr xr.length xr.length] 24) (uw3.heap.size) rfl)
  have bm := (heap_new (uw3.alloc (.cells #[.slice sr xr.length xr.length] 24)) (.cells #[.slice sm xm.length xm.length] 24) (uw3.heap.size + 1) (by simp))
  have gbuw3 := (grown_alloc (World.grownBy_alloc uw3 (.cells #[.slice sr xr.length xr.length] 24) none) (.cells #[.slice sm xm.length xm.length] 24))
  replace ba1 := heap_kept gbuw3 ba1
  replace bb1 := heap_kept gbuw3 bb1
  replace bx1 := heap_kept gbuw3 bx1
  replace by1 := heap_kept gbuw3 by1
  replace na1 := na1.kept gbuw3
  replace nx1 := nx1.kept gbuw3
  replace nr := nr.kept gbuw3
  replace nm := nm.kept gbuw3
  replace hT := hT.kept gbuw3 (by simp)
  replace hG := grown_trans hG gbuw3
  clear gbuw3
  obtain ⟨cba1, fba1⟩ := box_cell ba1
  obtain ⟨cbb1, fbb1⟩ := box_cell bb1
  obtain ⟨cbx1, fbx1⟩ := box_cell bx1
  obtain ⟨cby1, fby1⟩ := box_cell by1
  obtain ⟨cbr, fbr⟩ := box_cell br
  obtain ⟨cbm, fbm⟩ := box_cell bm
  go_wp2_with fail
  generalize ((uw3.alloc (.cells #[.slice sr xr.length xr.length] 24)).alloc (.cells #[.slice sm xm.length xm.length] 24)) = w4 at *
  generalize uw3.heap.size = auw3 at *
  clear cba1 fba1 cbb1 fbb1 cbx1 fbx1 cby1 fby1 cbr fbr cbm fbm
  refine (rRoot_any w4 _ _ nx1 (toD4 la (by omega))).mono ?_
  rintro e uw5 ⟨r2, hr2, _, _, rfl, ⟨su, lu, cu, xu, rfl, hu⟩, ⟨sv, lv, cv, xv, rfl, hv⟩, guw5⟩
  have nu : RefV uw5 (.agg #[.slice su lu cu]) (r2) := ⟨_, _, _, _, rfl, hu⟩
  have nv : RefV uw5 (.agg #[.slice sv lv cv]) (A - r2 * r2) := ⟨_, _, _, _, rfl, hv⟩
  replace ba1 := heap_kept guw5 ba1
  replace bb1 := heap_kept guw5 bb1
  replace bx1 := heap_kept guw5 bx1
  replace by1 := heap_kept guw5 by1
  replace br := heap_kept guw5 br
  replace bm := heap_kept guw5 bm
  replace na1 := na1.kept guw5
  replace nx1 := nx1.kept guw5
  replace nr := nr.kept guw5
  replace nm := nm.kept guw5
  replace hT := hT.kept guw5 (by simp)
  replace hG := grown_trans hG guw5
  clear guw5 hu hv
  obtain rfl : r2 = r := root_uniq hr2 hr
  have bu := heap_kept (World.grownBy_alloc (uw5.alloc (.cells #[.slice su lu cu] 30)) (.cells #[.slice sv lv cv] 30) none) (heap_new uw5 (.cells #[.slice su lu cu] 30) (uw5.heap.size) rfl)
  have bv := (heap_new (uw5.alloc (.cells #[.slice su lu cu] 30)) (.cells #[.slice sv lv cv] 30) (uw5.heap.size + 1) (by simp))
  have gbuw5 := (grown_alloc (World.grownBy_alloc uw5 (.cells #[.slice su lu cu] 30) none) (.cells #[.slice sv lv cv] 30))
  replace ba1 := heap_kept gbuw5 ba1
  replace bb1 := heap_kept gbuw5 bb1
  replace bx1 := heap_kept gbuw5 bx1
  replace by1 := heap_kept gbuw5 by1
  replace br := heap_kept gbuw5 br
  replace bm := heap_kept gbuw5 bm
  replace na1 := na1.kept gbuw5
  replace nx1 := nx1.kept gbuw5
  replace nr := nr.kept gbuw5
  replace nm := nm.kept gbuw5
  replace nu := nu.kept gbuw5
  replace nv := nv.kept gbuw5
  replace hT := hT.kept gbuw5 (by simp)
  replace hG := grown_trans hG gbuw5
  clear gbuw5
  obtain ⟨cba1, fba1⟩ := box_cell ba1
  obtain ⟨cbb1, fbb1⟩ := box_cell bb1
  obtain ⟨cbx1, fbx1⟩ := box_cell bx1
  obtain ⟨cby1, fby1⟩ := box_cell by1
  obtain ⟨cbr, fbr⟩ := box_cell br
  obtain ⟨cbm, fbm⟩ := box_cell bm
  obtain ⟨cbu, fbu⟩ := box_cell bu
  obtain ⟨cbv, fbv⟩ := box_cell bv
  go_wp2_with fail
  generalize ((uw5.alloc (.cells #[.slice su lu cu] 30)).alloc (.cells #[.slice sv lv cv] 30)) = w6 at *
  generalize uw5.heap.size = auw5 at *
  clear cba1 fba1 cbb1 fbb1 cbx1 fbx1 cby1 fby1 cbr fbr cbm fbm cbu fbu cbv fbv
  refine (same_any w6 _ _ _ 11 nr nu (by omega) (Nat.lt_of_le_of_lt (IsRoot.le hr2) la) (toD (Nat.lt_of_le_of_lt (IsRoot.le hr2) la) (by omega))).mono ?_
  rintro e w7 ⟨rfl, gw7⟩
  replace ba1 := heap_kept gw7 ba1
  replace bb1 := heap_kept gw7 bb1
  replace bx1 := heap_kept gw7 bx1
  replace by1 := heap_kept gw7 by1
  replace br := heap_kept gw7 br
  replace bm := heap_kept gw7 bm
  replace bu := heap_kept gw7 bu
  replace bv := heap_kept gw7 bv
  replace na1 := na1.kept gw7
  replace nx1 := nx1.kept gw7
  replace nr := nr.kept gw7
  replace nm := nm.kept gw7
  replace nu := nu.kept gw7
  replace nv := nv.kept gw7
  replace hT := hT.kept gw7 (by simp)
  replace hG := grown_trans hG gw7
  clear gw7
  obtain ⟨cba1, fba1⟩ := box_cell ba1
  obtain ⟨cbb1, fbb1⟩ := box_cell bb1
  obtain ⟨cbx1, fbx1⟩ := box_cell bx1
  obtain ⟨cby1, fby1⟩ := box_cell by1
  obtain ⟨cbr, fbr⟩ := box_cell br
  obtain ⟨cbm, fbm⟩ := box_cell bm
  obtain ⟨cbu, fbu⟩ := box_cell bu
  obtain ⟨cbv, fbv⟩ := box_cell bv
  go_wp2_with fail
  clear cba1 fba1 cbb1 fbb1 cbx1 fbx1 cby1 fby1 cbr fbr cbm fbm cbu fbu cbv fbv
  refine (same_any w7 _ _ _ 11 nm nv (by omega) (Nat.lt_of_le_of_lt (Nat.sub_le A (r2 * r2)) la) (toD (Nat.lt_of_le_of_lt (Nat.sub_le A (r2 * r2)) la) (by omega))).mono ?_
  rintro e w8 ⟨rfl, gw8⟩
  replace ba1 := heap_kept gw8 ba1
  replace bb1 := heap_kept gw8 bb1
  replace bx1 := heap_kept gw8 bx1
  replace by1 := heap_kept gw8 by1
  replace br := heap_kept gw8 br
  replace bm := heap_kept gw8 bm
  replace bu := heap_kept gw8 bu
  replace bv := heap_kept gw8 bv
  replace na1 := na1.kept gw8
  replace nx1 := nx1.kept gw8
  replace nr := nr.kept gw8
  replace nm := nm.kept gw8
  replace nu := nu.kept gw8
  replace nv := nv.kept gw8
  replace hT := hT.kept gw8 (by simp)
  replace hG := grown_trans hG gw8
  clear gw8
  obtain ⟨cba1, fba1⟩ := box_cell ba1
  obtain ⟨cbb1, fbb1⟩ := box_cell bb1
  obtain ⟨cbx1, fbx1⟩ := box_cell bx1
  obtain ⟨cby1, fby1⟩ := box_cell by1
  obtain ⟨cbr, fbr⟩ := box_cell br
  obtain ⟨cbm, fbm⟩ := box_cell bm
  obtain ⟨cbu, fbu⟩ := box_cell bu
  obtain ⟨cbv, fbv⟩ := box_cell bv
  go_wp2_with fail
  go_ret
  exact ⟨rfl, hG⟩
end Go.Proofs.YtooeonjkpgbdpaaDoor
