/- NatStays: no call changes a number that was answered. -/
import Derived.Test.YtooeonjkpgbdpaaDoorKit
import Derived.Deep.RegionHeld3
namespace Go.Proofs.YtooeonjkpgbdpaaDoor
open Go.RowKit Mat
set_option maxRecDepth 100000
set_option linter.unusedVariables false
set_option linter.unusedSimpArgs false

set_option maxHeartbeats 8000000 in
theorem natStays_walk (w : World) (s t : ByteArray) (k : Int) (hT : Tab w) :
    Calls Tryd.prog 13 #[.string s, .string t, .int .i64 k] w (fun e w' => e = .returned (.bool true) ∧ w.grownBy w' none) := by
  have hG : w.grownBy w none := grown_refl _ _
  have la := num_bd s
  have lb := num_bd t
  go_enter Tryd.func13, Tryd.ntmps13
  go_wp2_with fail
  refine (two_any w s t).mono ?_
  rintro e t1 ⟨_, _, _, _, rfl, ⟨sa1, xa1, rfl, ha1, va1⟩, ⟨sb1, xb1, rfl, hb1, vb1⟩, ⟨sx1, lx1, cx1, xx1, rfl, hx1⟩, ⟨sy1, ly1, cy1, xy1, rfl, hy1⟩, g1⟩
  have na1 : NatV t1 (.agg #[.slice sa1 xa1.length xa1.length]) (num (fewB s 200)) := ⟨_, _, rfl, ha1, va1⟩
  have nb1 : NatV t1 (.agg #[.slice sb1 xb1.length xb1.length]) (num (fewB t 200)) := ⟨_, _, rfl, hb1, vb1⟩
  have nx1 : RefV t1 (.agg #[.slice sx1 lx1 cx1]) (num (fewB s 200)) := ⟨_, _, _, _, rfl, hx1⟩
  have ny1 : RefV t1 (.agg #[.slice sy1 ly1 cy1]) (num (fewB t 200)) := ⟨_, _, _, _, rfl, hy1⟩
  replace hT := hT.kept g1 (by simp)
  replace hG := grown_trans hG g1
  clear ha1 va1 hb1 vb1 hx1 hy1 g1
  have ba1 := heap_kept (grown_alloc (grown_alloc (World.grownBy_alloc (t1.alloc (.cells #[.slice sa1 xa1.length xa1.length] 24)) (.cells #[.slice sb1 xb1.length xb1.length] 24) none) (.cells #[.slice sx1 lx1 cx1] 30)) (.cells #[.slice sy1 ly1 cy1] 30)) (heap_new t1 (.cells #[.slice sa1 xa1.length xa1.length] 24) (t1.heap.size) rfl)
  have bb1 := heap_kept (grown_alloc (World.grownBy_alloc ((t1.alloc (.cells #[.slice sa1 xa1.length xa1.length] 24)).alloc (.cells #[.slice sb1 xb1.length xb1.length] 24)) (.cells #[.slice sx1 lx1 cx1] 30) none) (.cells #[.slice sy1 ly1 cy1] 30)) (heap_new (t1.alloc (.cells #[.slice sa1 xa1.length xa1.length] 24)) (.cells #[.slice sb1 xb1.length xb1.length] 24) (t1.heap.size + 1) (by simp))
  have bx1 := heap_kept (World.grownBy_alloc (((t1.alloc (.cells #[.slice sa1 xa1.length xa1.length] 24)).alloc (.cells #[.slice sb1 xb1.length xb1.length] 24)).alloc (.cells #[.slice sx1 lx1 cx1] 30)) (.cells #[.slice sy1 ly1 cy1] 30) none) (heap_new ((t1.alloc (.cells #[.slice sa1 xa1.length xa1.length] 24)).alloc (.cells #[.slice sb1 xb1.length xb1.length] 24)) (.cells #[.slice sx1 lx1 cx1] 30) (t1.heap.size + 1 + 1) (by simp))
  have by1 := (heap_new (((t1.alloc (.cells #[.slice sa1 xa1.length xa1.length] 24)).alloc (.cells #[.slice sb1 xb1.length xb1.length] 24)).alloc (.cells #[.slice sx1 lx1 cx1] 30)) (.cells #[.slice sy1 ly1 cy1] 30) (t1.heap.size + 1 + 1 + 1) (by simp))
  have gbt1 := (grown_alloc (grown_alloc (grown_alloc (World.grownBy_alloc t1 (.cells #[.slice sa1 xa1.length xa1.length] 24) none) (.cells #[.slice sb1 xb1.length xb1.length] 24)) (.cells #[.slice sx1 lx1 cx1] 30)) (.cells #[.slice sy1 ly1 cy1] 30))
  replace na1 := na1.kept gbt1
  replace nb1 := nb1.kept gbt1
  replace nx1 := nx1.kept gbt1
  replace ny1 := ny1.kept gbt1
  replace hT := hT.kept gbt1 (by simp)
  replace hG := grown_trans hG gbt1
  clear gbt1
  obtain ⟨cba1, fba1⟩ := box_cell ba1
  obtain ⟨cbb1, fbb1⟩ := box_cell bb1
  obtain ⟨cbx1, fbx1⟩ := box_cell bx1
  obtain ⟨cby1, fby1⟩ := box_cell by1
  go_wp2_with fail
  generalize ((((t1.alloc (.cells #[.slice sa1 xa1.length xa1.length] 24)).alloc (.cells #[.slice sb1 xb1.length xb1.length] 24)).alloc (.cells #[.slice sx1 lx1 cx1] 30)).alloc (.cells #[.slice sy1 ly1 cy1] 30)) = w1 at *
  generalize t1.heap.size = at1 at *
  generalize (fine (fewB s 200) && fine (fewB t 200)) = o1 at *
  generalize num (fewB s 200) = A at *
  generalize num (fewB t 200) = Bn at *
  cases o1
  · skip
    clear cba1 fba1 cbb1 fbb1 cbx1 fbx1 cby1 fby1
    refine (known_any w1 hT).mono ?_
    rintro e w2 ⟨rfl, gw2⟩
    replace hT := hT.kept gw2 (by simp)
    replace hG := grown_trans hG gw2
    clear gw2
    go_wp2_with fail
    refine (known_any w2 hT).mono ?_
    rintro e w3 ⟨rfl, gw3⟩
    replace hT := hT.kept gw3 (by simp)
    replace hG := grown_trans hG gw3
    clear gw3
    go_wp2_with fail
    go_ret
    exact ⟨rfl, hG⟩
  clear cba1 fba1 cbb1 fbb1 cbx1 fbx1 cby1 fby1
  refine (known_any w1 hT).mono ?_
  rintro e w2 ⟨rfl, gw2⟩
  replace ba1 := heap_kept gw2 ba1
  replace bb1 := heap_kept gw2 bb1
  replace bx1 := heap_kept gw2 bx1
  replace by1 := heap_kept gw2 by1
  replace na1 := na1.kept gw2
  replace nb1 := nb1.kept gw2
  replace nx1 := nx1.kept gw2
  replace ny1 := ny1.kept gw2
  replace hT := hT.kept gw2 (by simp)
  replace hG := grown_trans hG gw2
  clear gw2
  obtain ⟨cba1, fba1⟩ := box_cell ba1
  obtain ⟨cbb1, fbb1⟩ := box_cell bb1
  obtain ⟨cbx1, fbx1⟩ := box_cell bx1
  obtain ⟨cby1, fby1⟩ := box_cell by1
  go_wp2_with fail
  clear cba1 fba1 cbb1 fbb1 cbx1 fbx1 cby1 fby1
  refine (Add_any w2 _ _ _ _ 11 na1 nb1 (by omega) (bw la (by omega)) (bw lb (by omega))).mono ?_
  rintro e w3 ⟨vz5_, rfl, z5_, gw3⟩
  replace ba1 := heap_kept gw3 ba1
  replace bb1 := heap_kept gw3 bb1
  replace bx1 := heap_kept gw3 bx1
  replace by1 := heap_kept gw3 by1
  replace na1 := na1.kept gw3
  replace nb1 := nb1.kept gw3
  replace nx1 := nx1.kept gw3
  replace ny1 := ny1.kept gw3
  replace hT := hT.kept gw3 (by simp)
  replace hG := grown_trans hG gw3
  clear gw3
  obtain ⟨cba1, fba1⟩ := box_cell ba1
  obtain ⟨cbb1, fbb1⟩ := box_cell bb1
  obtain ⟨cbx1, fbx1⟩ := box_cell bx1
  obtain ⟨cby1, fby1⟩ := box_cell by1
  go_wp2_with fail
  clear cba1 fba1 cbb1 fbb1 cbx1 fbx1 cby1 fby1
  refine (Sub_run w3 _ _ _ _ 11 na1 nb1 (by omega) la lb).mono ?_
  rintro e w4 ⟨⟨_, rfl⟩, gw4⟩
  replace ba1 := heap_kept gw4 ba1
  replace bb1 := heap_kept gw4 bb1
  replace bx1 := heap_kept gw4 bx1
  replace by1 := heap_kept gw4 by1
  replace na1 := na1.kept gw4
  replace nb1 := nb1.kept gw4
  replace nx1 := nx1.kept gw4
  replace ny1 := ny1.kept gw4
  replace hT := hT.kept gw4 (by simp)
  replace hG := grown_trans hG gw4
  clear gw4
  obtain ⟨cba1, fba1⟩ := box_cell ba1
  obtain ⟨cbb1, fbb1⟩ := box_cell bb1
  obtain ⟨cbx1, fbx1⟩ := box_cell bx1
  obtain ⟨cby1, fby1⟩ := box_cell by1
  go_wp2_with fail
  clear cba1 fba1 cbb1 fbb1 cbx1 fbx1 cby1 fby1
  refine (Sub_run w4 _ _ _ _ 11 nb1 na1 (by omega) lb la).mono ?_
  rintro e w5 ⟨⟨_, rfl⟩, gw5⟩
  replace ba1 := heap_kept gw5 ba1
  replace bb1 := heap_kept gw5 bb1
  replace bx1 := heap_kept gw5 bx1
  replace by1 := heap_kept gw5 by1
  replace na1 := na1.kept gw5
  replace nb1 := nb1.kept gw5
  replace nx1 := nx1.kept gw5
  replace ny1 := ny1.kept gw5
  replace hT := hT.kept gw5 (by simp)
  replace hG := grown_trans hG gw5
  clear gw5
  obtain ⟨cba1, fba1⟩ := box_cell ba1
  obtain ⟨cbb1, fbb1⟩ := box_cell bb1
  obtain ⟨cbx1, fbx1⟩ := box_cell bx1
  obtain ⟨cby1, fby1⟩ := box_cell by1
  go_wp2_with fail
  clear cba1 fba1 cbb1 fbb1 cbx1 fbx1 cby1 fby1
  refine (Mul_any w5 _ _ _ _ 11 na1 nb1 (by omega) (bw la (by omega)) (bw lb (by omega))).mono ?_
  rintro e w6 ⟨vz6_, rfl, z6_, gw6⟩
  replace ba1 := heap_kept gw6 ba1
  replace bb1 := heap_kept gw6 bb1
  replace bx1 := heap_kept gw6 bx1
  replace by1 := heap_kept gw6 by1
  replace na1 := na1.kept gw6
  replace nb1 := nb1.kept gw6
  replace nx1 := nx1.kept gw6
  replace ny1 := ny1.kept gw6
  replace hT := hT.kept gw6 (by simp)
  replace hG := grown_trans hG gw6
  clear gw6
  obtain ⟨cba1, fba1⟩ := box_cell ba1
  obtain ⟨cbb1, fbb1⟩ := box_cell bb1
  obtain ⟨cbx1, fbx1⟩ := box_cell bx1
  obtain ⟨cby1, fby1⟩ := box_cell by1
  go_wp2_with fail
  clear cba1 fba1 cbb1 fbb1 cbx1 fbx1 cby1 fby1
  refine (Div_run w6 _ _ _ _ 11 na1 nb1 (by omega) la lb).mono ?_
  rintro e uw7 ⟨q, n, code, lq, ln, _, _, rfl, ⟨sq, xq, rfl, hq, vq⟩, ⟨sn, xn, rfl, hn, vn⟩, guw7⟩
  have nq : NatV uw7 (.agg #[.slice sq xq.length xq.length]) (q) := ⟨_, _, rfl, hq, vq⟩
  have nn : NatV uw7 (.agg #[.slice sn xn.length xn.length]) (n) := ⟨_, _, rfl, hn, vn⟩
  replace ba1 := heap_kept guw7 ba1
  replace bb1 := heap_kept guw7 bb1
  replace bx1 := heap_kept guw7 bx1
  replace by1 := heap_kept guw7 by1
  replace na1 := na1.kept guw7
  replace nb1 := nb1.kept guw7
  replace nx1 := nx1.kept guw7
  replace ny1 := ny1.kept guw7
  replace hT := hT.kept guw7 (by simp)
  replace hG := grown_trans hG guw7
  clear guw7 hq vq hn vn
  have bq := heap_kept (World.grownBy_alloc (uw7.alloc (.cells #[.slice sq xq.length xq.length] 24)) (.cells #[.slice sn xn.length xn.length] 24) none) (heap_new uw7 (.cells #[.slice sq xq.length xq.length] 24) (uw7.heap.size) rfl)
  have bn := (heap_new (uw7.alloc (.cells #[.slice sq xq.length xq.length] 24)) (.cells #[.slice sn xn.length xn.length] 24) (uw7.heap.size + 1) (by simp))
  have gbuw7 := (grown_alloc (World.grownBy_alloc uw7 (.cells #[.slice sq xq.length xq.length] 24) none) (.cells #[.slice sn xn.length xn.length] 24))
  replace ba1 := heap_kept gbuw7 ba1
  replace bb1 := heap_kept gbuw7 bb1
  replace bx1 := heap_kept gbuw7 bx1
  replace by1 := heap_kept gbuw7 by1
  replace na1 := na1.kept gbuw7
  replace nb1 := nb1.kept gbuw7
  replace nx1 := nx1.kept gbuw7
  replace ny1 := ny1.kept gbuw7
  replace nq := nq.kept gbuw7
  replace nn := nn.kept gbuw7
  replace hT := hT.kept gbuw7 (by simp)
  replace hG := grown_trans hG gbuw7
  clear gbuw7
  obtain ⟨cba1, fba1⟩ := box_cell ba1
  obtain ⟨cbb1, fbb1⟩ := box_cell bb1
  obtain ⟨cbx1, fbx1⟩ := box_cell bx1
  obtain ⟨cby1, fby1⟩ := box_cell by1
  obtain ⟨cbq, fbq⟩ := box_cell bq
  obtain ⟨cbn, fbn⟩ := box_cell bn
  go_wp2_with fail
  generalize ((uw7.alloc (.cells #[.slice sq xq.length xq.length] 24)).alloc (.cells #[.slice sn xn.length xn.length] 24)) = w8 at *
  generalize uw7.heap.size = auw7 at *
  go_region_held3 (fun w' => w'.cell? ⟨auw7, 0, none⟩ = some (.slice sq xq.length xq.length) ∧ w'.cell? ⟨auw7 + 1, 0, none⟩ = some (.slice sn xn.length xn.length))
    (first | assumption | exact ⟨cbq, cbn⟩ | go_keep)
    (first
      | (go_at_call 17; (with_reducible refine (Text_any w8.drew _ _ 11 (nq.kept (grown_drew (grown_refl _ _))) (by omega) lq).mono ?_); rintro e w9_1 ⟨z1, rfl, dz1, vz1, gw9_1⟩; have hGw9_1 := grown_pre w8 gw9_1 rfl rfl rfl rfl; have hSw9_1 := (And.intro (hGw9_1.cell cbq (by simp)) (hGw9_1.cell cbn (by simp))); clear gw9_1)
      | (go_at_call 17; (with_reducible refine (Text_any w9_1 _ _ 11 (nn.kept hGw9_1) (by omega) ln).mono ?_); rintro e w9_2 ⟨z2, rfl, dz2, vz2, gw9_2⟩; have hGw9_2 := grown_trans hGw9_1 gw9_2; have hSw9_2 := (And.intro (hGw9_2.cell cbq (by simp)) (hGw9_2.cell cbn (by simp))); clear gw9_2; clear hGw9_1 hSw9_1))
  replace ba1 := heap_kept hGw9_2 ba1
  replace bb1 := heap_kept hGw9_2 bb1
  replace bx1 := heap_kept hGw9_2 bx1
  replace by1 := heap_kept hGw9_2 by1
  replace bq := heap_kept hGw9_2 bq
  replace bn := heap_kept hGw9_2 bn
  replace na1 := na1.kept hGw9_2
  replace nb1 := nb1.kept hGw9_2
  replace nx1 := nx1.kept hGw9_2
  replace ny1 := ny1.kept hGw9_2
  replace nq := nq.kept hGw9_2
  replace nn := nn.kept hGw9_2
  replace hT := hT.kept hGw9_2 (by simp)
  replace hG := grown_trans hG hGw9_2
  clear cba1 fba1 cbb1 fbb1 cbx1 fbx1 cby1 fby1 cbq fbq cbn fbn
  obtain ⟨cba1, fba1⟩ := box_cell ba1
  obtain ⟨cbb1, fbb1⟩ := box_cell bb1
  obtain ⟨cbx1, fbx1⟩ := box_cell bx1
  obtain ⟨cby1, fby1⟩ := box_cell by1
  obtain ⟨cbq, fbq⟩ := box_cell bq
  obtain ⟨cbn, fbn⟩ := box_cell bn
  go_wp2_with fail
  clear cba1 fba1 cbb1 fbb1 cbx1 fbx1 cby1 fby1 cbq fbq cbn fbn
  refine (Div_run w9_2 _ _ _ _ 11 nq nn (by omega) lq ln).mono ?_
  rintro e w10 ⟨q3, n3, code3, lq3, ln3, _, _, rfl, -, -, gw10⟩
  replace ba1 := heap_kept gw10 ba1
  replace bb1 := heap_kept gw10 bb1
  replace bx1 := heap_kept gw10 bx1
  replace by1 := heap_kept gw10 by1
  replace bq := heap_kept gw10 bq
  replace bn := heap_kept gw10 bn
  replace na1 := na1.kept gw10
  replace nb1 := nb1.kept gw10
  replace nx1 := nx1.kept gw10
  replace ny1 := ny1.kept gw10
  replace nq := nq.kept gw10
  replace nn := nn.kept gw10
  replace hT := hT.kept gw10 (by simp)
  replace hG := grown_trans hG gw10
  clear gw10
  obtain ⟨cba1, fba1⟩ := box_cell ba1
  obtain ⟨cbb1, fbb1⟩ := box_cell bb1
  obtain ⟨cbx1, fbx1⟩ := box_cell bx1
  obtain ⟨cby1, fby1⟩ := box_cell by1
  obtain ⟨cbq, fbq⟩ := box_cell bq
  obtain ⟨cbn, fbn⟩ := box_cell bn
  go_wp2_with fail
  clear cba1 fba1 cbb1 fbb1 cbx1 fbx1 cby1 fby1 cbq fbq cbn fbn
  refine (Up_run w10 _ _ 11 k na1 (by omega) la).mono ?_
  rintro e w11 ⟨⟨_, rfl⟩, gw11⟩
  replace ba1 := heap_kept gw11 ba1
  replace bb1 := heap_kept gw11 bb1
  replace bx1 := heap_kept gw11 bx1
  replace by1 := heap_kept gw11 by1
  replace bq := heap_kept gw11 bq
  replace bn := heap_kept gw11 bn
  replace na1 := na1.kept gw11
  replace nb1 := nb1.kept gw11
  replace nx1 := nx1.kept gw11
  replace ny1 := ny1.kept gw11
  replace nq := nq.kept gw11
  replace nn := nn.kept gw11
  replace hT := hT.kept gw11 (by simp)
  replace hG := grown_trans hG gw11
  clear gw11
  obtain ⟨cba1, fba1⟩ := box_cell ba1
  obtain ⟨cbb1, fbb1⟩ := box_cell bb1
  obtain ⟨cbx1, fbx1⟩ := box_cell bx1
  obtain ⟨cby1, fby1⟩ := box_cell by1
  obtain ⟨cbq, fbq⟩ := box_cell bq
  obtain ⟨cbn, fbn⟩ := box_cell bn
  go_wp2_with fail
  clear cba1 fba1 cbb1 fbb1 cbx1 fbx1 cby1 fby1 cbq fbq cbn fbn
  refine (Down_run w11 _ _ 11 k na1 (by omega) la).mono ?_
  rintro e w12 ⟨⟨_, rfl⟩, gw12⟩
  replace ba1 := heap_kept gw12 ba1
  replace bb1 := heap_kept gw12 bb1
  replace bx1 := heap_kept gw12 bx1
  replace by1 := heap_kept gw12 by1
  replace bq := heap_kept gw12 bq
  replace bn := heap_kept gw12 bn
  replace na1 := na1.kept gw12
  replace nb1 := nb1.kept gw12
  replace nx1 := nx1.kept gw12
  replace ny1 := ny1.kept gw12
  replace nq := nq.kept gw12
  replace nn := nn.kept gw12
  replace hT := hT.kept gw12 (by simp)
  replace hG := grown_trans hG gw12
  clear gw12
  obtain ⟨cba1, fba1⟩ := box_cell ba1
  obtain ⟨cbb1, fbb1⟩ := box_cell bb1
  obtain ⟨cbx1, fbx1⟩ := box_cell bx1
  obtain ⟨cby1, fby1⟩ := box_cell by1
  obtain ⟨cbq, fbq⟩ := box_cell bq
  obtain ⟨cbn, fbn⟩ := box_cell bn
  go_wp2_with fail
  clear cba1 fba1 cbb1 fbb1 cbx1 fbx1 cby1 fby1 cbq fbq cbn fbn
  refine (Root_any w12 _ _ 11 na1 la (by omega) (by omega)).mono ?_
  rintro e w13 ⟨r, -, _, _, rfl, -, -, gw13⟩
  replace ba1 := heap_kept gw13 ba1
  replace bb1 := heap_kept gw13 bb1
  replace bx1 := heap_kept gw13 bx1
  replace by1 := heap_kept gw13 by1
  replace bq := heap_kept gw13 bq
  replace bn := heap_kept gw13 bn
  replace na1 := na1.kept gw13
  replace nb1 := nb1.kept gw13
  replace nx1 := nx1.kept gw13
  replace ny1 := ny1.kept gw13
  replace nq := nq.kept gw13
  replace nn := nn.kept gw13
  replace hT := hT.kept gw13 (by simp)
  replace hG := grown_trans hG gw13
  clear gw13
  obtain ⟨cba1, fba1⟩ := box_cell ba1
  obtain ⟨cbb1, fbb1⟩ := box_cell bb1
  obtain ⟨cbx1, fbx1⟩ := box_cell bx1
  obtain ⟨cby1, fby1⟩ := box_cell by1
  obtain ⟨cbq, fbq⟩ := box_cell bq
  obtain ⟨cbn, fbn⟩ := box_cell bn
  go_wp2_with fail
  clear cba1 fba1 cbb1 fbb1 cbx1 fbx1 cby1 fby1 cbq fbq cbn fbn
  refine (Gcd_any w13 _ _ _ _ 11 na1 nb1 (by omega) la lb hT).mono ?_
  rintro e w14 ⟨_, rfl, -, gw14⟩
  replace ba1 := heap_kept gw14 ba1
  replace bb1 := heap_kept gw14 bb1
  replace bx1 := heap_kept gw14 bx1
  replace by1 := heap_kept gw14 by1
  replace bq := heap_kept gw14 bq
  replace bn := heap_kept gw14 bn
  replace na1 := na1.kept gw14
  replace nb1 := nb1.kept gw14
  replace nx1 := nx1.kept gw14
  replace ny1 := ny1.kept gw14
  replace nq := nq.kept gw14
  replace nn := nn.kept gw14
  replace hT := hT.kept gw14 (by simp)
  replace hG := grown_trans hG gw14
  clear gw14
  obtain ⟨cba1, fba1⟩ := box_cell ba1
  obtain ⟨cbb1, fbb1⟩ := box_cell bb1
  obtain ⟨cbx1, fbx1⟩ := box_cell bx1
  obtain ⟨cby1, fby1⟩ := box_cell by1
  obtain ⟨cbq, fbq⟩ := box_cell bq
  obtain ⟨cbn, fbn⟩ := box_cell bn
  go_wp2_with fail
  clear cba1 fba1 cbb1 fbb1 cbx1 fbx1 cby1 fby1 cbq fbq cbn fbn
  refine (Add_any w14 _ _ _ _ 11 nq nn (by omega) lq ln).mono ?_
  rintro e w15 ⟨_, rfl, -, gw15⟩
  replace ba1 := heap_kept gw15 ba1
  replace bb1 := heap_kept gw15 bb1
  replace bx1 := heap_kept gw15 bx1
  replace by1 := heap_kept gw15 by1
  replace bq := heap_kept gw15 bq
  replace bn := heap_kept gw15 bn
  replace na1 := na1.kept gw15
  replace nb1 := nb1.kept gw15
  replace nx1 := nx1.kept gw15
  replace ny1 := ny1.kept gw15
  replace nq := nq.kept gw15
  replace nn := nn.kept gw15
  replace hT := hT.kept gw15 (by simp)
  replace hG := grown_trans hG gw15
  clear gw15
  obtain ⟨cba1, fba1⟩ := box_cell ba1
  obtain ⟨cbb1, fbb1⟩ := box_cell bb1
  obtain ⟨cbx1, fbx1⟩ := box_cell bx1
  obtain ⟨cby1, fby1⟩ := box_cell by1
  obtain ⟨cbq, fbq⟩ := box_cell bq
  obtain ⟨cbn, fbn⟩ := box_cell bn
  go_wp2_with fail
  clear cba1 fba1 cbb1 fbb1 cbx1 fbx1 cby1 fby1 cbq fbq cbn fbn
  refine (Mul_any w15 _ _ _ _ 11 nn nq (by omega) ln lq).mono ?_
  rintro e w16 ⟨_, rfl, -, gw16⟩
  replace ba1 := heap_kept gw16 ba1
  replace bb1 := heap_kept gw16 bb1
  replace bx1 := heap_kept gw16 bx1
  replace by1 := heap_kept gw16 by1
  replace bq := heap_kept gw16 bq
  replace bn := heap_kept gw16 bn
  replace na1 := na1.kept gw16
  replace nb1 := nb1.kept gw16
  replace nx1 := nx1.kept gw16
  replace ny1 := ny1.kept gw16
  replace nq := nq.kept gw16
  replace nn := nn.kept gw16
  replace hT := hT.kept gw16 (by simp)
  replace hG := grown_trans hG gw16
  clear gw16
  obtain ⟨cba1, fba1⟩ := box_cell ba1
  obtain ⟨cbb1, fbb1⟩ := box_cell bb1
  obtain ⟨cbx1, fbx1⟩ := box_cell bx1
  obtain ⟨cby1, fby1⟩ := box_cell by1
  obtain ⟨cbq, fbq⟩ := box_cell bq
  obtain ⟨cbn, fbn⟩ := box_cell bn
  go_wp2_with fail
  clear cba1 fba1 cbb1 fbb1 cbx1 fbx1 cby1 fby1 cbq fbq cbn fbn
  refine (same_any w16 _ _ _ 11 na1 nx1 (by omega) la (toD la (by omega))).mono ?_
  rintro e w17 ⟨rfl, gw17⟩
  replace ba1 := heap_kept gw17 ba1
  replace bb1 := heap_kept gw17 bb1
  replace bx1 := heap_kept gw17 bx1
  replace by1 := heap_kept gw17 by1
  replace bq := heap_kept gw17 bq
  replace bn := heap_kept gw17 bn
  replace na1 := na1.kept gw17
  replace nb1 := nb1.kept gw17
  replace nx1 := nx1.kept gw17
  replace ny1 := ny1.kept gw17
  replace nq := nq.kept gw17
  replace nn := nn.kept gw17
  replace hT := hT.kept gw17 (by simp)
  replace hG := grown_trans hG gw17
  clear gw17
  obtain ⟨cba1, fba1⟩ := box_cell ba1
  obtain ⟨cbb1, fbb1⟩ := box_cell bb1
  obtain ⟨cbx1, fbx1⟩ := box_cell bx1
  obtain ⟨cby1, fby1⟩ := box_cell by1
  obtain ⟨cbq, fbq⟩ := box_cell bq
  obtain ⟨cbn, fbn⟩ := box_cell bn
  go_wp2_with fail
  clear cba1 fba1 cbb1 fbb1 cbx1 fbx1 cby1 fby1 cbq fbq cbn fbn
  refine (same_any w17 _ _ _ 11 nb1 ny1 (by omega) lb (toD lb (by omega))).mono ?_
  rintro e w18 ⟨rfl, gw18⟩
  replace ba1 := heap_kept gw18 ba1
  replace bb1 := heap_kept gw18 bb1
  replace bx1 := heap_kept gw18 bx1
  replace by1 := heap_kept gw18 by1
  replace bq := heap_kept gw18 bq
  replace bn := heap_kept gw18 bn
  replace na1 := na1.kept gw18
  replace nb1 := nb1.kept gw18
  replace nx1 := nx1.kept gw18
  replace ny1 := ny1.kept gw18
  replace nq := nq.kept gw18
  replace nn := nn.kept gw18
  replace hT := hT.kept gw18 (by simp)
  replace hG := grown_trans hG gw18
  clear gw18
  obtain ⟨cba1, fba1⟩ := box_cell ba1
  obtain ⟨cbb1, fbb1⟩ := box_cell bb1
  obtain ⟨cbx1, fbx1⟩ := box_cell bx1
  obtain ⟨cby1, fby1⟩ := box_cell by1
  obtain ⟨cbq, fbq⟩ := box_cell bq
  obtain ⟨cbn, fbn⟩ := box_cell bn
  go_wp2_with fail
  clear cba1 fba1 cbb1 fbb1 cbx1 fbx1 cby1 fby1 cbq fbq cbn fbn
  refine (Text_any w18 _ _ 11 nq (by omega) lq).mono ?_
  rintro e w19 ⟨z3, rfl, dz3, vz3, gw19⟩
  obtain rfl : z3 = z1 := dec_uniq dz3 dz1 (vz3.trans vz1.symm)
  replace ba1 := heap_kept gw19 ba1
  replace bb1 := heap_kept gw19 bb1
  replace bx1 := heap_kept gw19 bx1
  replace by1 := heap_kept gw19 by1
  replace bq := heap_kept gw19 bq
  replace bn := heap_kept gw19 bn
  replace na1 := na1.kept gw19
  replace nb1 := nb1.kept gw19
  replace nx1 := nx1.kept gw19
  replace ny1 := ny1.kept gw19
  replace nq := nq.kept gw19
  replace nn := nn.kept gw19
  replace hT := hT.kept gw19 (by simp)
  replace hG := grown_trans hG gw19
  clear gw19
  obtain ⟨cba1, fba1⟩ := box_cell ba1
  obtain ⟨cbb1, fbb1⟩ := box_cell bb1
  obtain ⟨cbx1, fbx1⟩ := box_cell bx1
  obtain ⟨cby1, fby1⟩ := box_cell by1
  obtain ⟨cbq, fbq⟩ := box_cell bq
  obtain ⟨cbn, fbn⟩ := box_cell bn
  go_wp2_with fail
  clear cba1 fba1 cbb1 fbb1 cbx1 fbx1 cby1 fby1 cbq fbq cbn fbn
  refine (Text_any w19 _ _ 11 nn (by omega) ln).mono ?_
  rintro e w20 ⟨z4, rfl, dz4, vz4, gw20⟩
  obtain rfl : z4 = z2 := dec_uniq dz4 dz2 (vz4.trans vz2.symm)
  replace ba1 := heap_kept gw20 ba1
  replace bb1 := heap_kept gw20 bb1
  replace bx1 := heap_kept gw20 bx1
  replace by1 := heap_kept gw20 by1
  replace bq := heap_kept gw20 bq
  replace bn := heap_kept gw20 bn
  replace na1 := na1.kept gw20
  replace nb1 := nb1.kept gw20
  replace nx1 := nx1.kept gw20
  replace ny1 := ny1.kept gw20
  replace nq := nq.kept gw20
  replace nn := nn.kept gw20
  replace hT := hT.kept gw20 (by simp)
  replace hG := grown_trans hG gw20
  clear gw20
  obtain ⟨cba1, fba1⟩ := box_cell ba1
  obtain ⟨cbb1, fbb1⟩ := box_cell bb1
  obtain ⟨cbx1, fbx1⟩ := box_cell bx1
  obtain ⟨cby1, fby1⟩ := box_cell by1
  obtain ⟨cbq, fbq⟩ := box_cell bq
  obtain ⟨cbn, fbn⟩ := box_cell bn
  go_wp2_with fail
  go_ret
  exact ⟨rfl, hG⟩
end Go.Proofs.YtooeonjkpgbdpaaDoor
