/- NatDivides: quotients and rests are the document's. -/
import Derived.Test.YtooeonjkpgbdpaaDoorKit2
import Derived.Deep.RegionHeld3
namespace Go.Proofs.YtooeonjkpgbdpaaDoor
open Go.RowKit Mat
set_option maxRecDepth 100000
set_option linter.unusedVariables false
set_option linter.unusedSimpArgs false

set_option maxHeartbeats 8000000 in
theorem natDivides_walk (w : World) (s t : ByteArray) (hT : Tab w) :
    Calls Tryd.prog 7 #[.string s, .string t] w (fun e w' => e = .returned (.bool true) ∧ w.grownBy w' none) := by
  have hG : w.grownBy w none := grown_refl _ _
  have la := num_bd s
  have lb := num_bd t
  go_enter Tryd.func7, Tryd.ntmps7
  go_wp2_with fail
  refine (two_any w s t).mono ?_
  rintro e t1 ⟨_, _, _, _, rfl, ⟨sa1, xa1, rfl, ha1, va1⟩, ⟨sb1, xb1, rfl, hb1, vb1⟩, ⟨sx1, lx1, cx1, xx1, rfl, hx1⟩, ⟨sy1, ly1, cy1, xy1, rfl, hy1⟩, g1⟩
  have na1 : NatV t1 (.agg #[.slice sa1 xa1.length xa1.length]) (num (fewB s 200)) := ⟨_, _, rfl, ha1, va1⟩
  have nb1 : NatV t1 (.agg #[.slice sb1 xb1.length xb1.length]) (num (fewB t 200)) := ⟨_, _, rfl, hb1, vb1⟩
  have nx1 : RefV t1 (.agg #[.slice sx1 lx1 cx1]) (num (fewB s 200)) := ⟨_, _, _, _, rfl, hx1⟩
  have ny1 : RefV t1 (.agg #[.slice sy1 ly1 cy1]) (num (fewB t 200)) := ⟨_, _, _, _, rfl, hy1⟩
  replace hT := hT.kept g1 (by simp)
  replace hG := grown_trans hG g1
  clear ha1 va1 hb1 vb1 hx1 hy1 g1
  have ba1 := heap_kept (grown_alloc (grown_alloc (World.grownBy_alloc (t1.alloc (.cells #[.slice sa1 xa1.length xa1.length] 24)) (.cells #[.slice sb1 xb1.length xb1.length] 24) none) (.cells #[.slice sx1 lx1 cx1] 30)) (.cells #[.slice sy1 ly1 cy1] 30)) (heap_new t1 (.cells #[.slice sa1 xa1.length xa1.length] 24) (t1.heap.size) rfl)
  have bb1 := heap_kept (grown_alloc (World.grownBy_alloc ((t1.alloc (.cells #[.slice sa1 xa1.length xa1.length] 24)).alloc (.cells #[.slice sb1 xb1.length xb1.length] 24)) (.cells #[.slice sx1 lx1 cx1] 30) none) (.cells #[.slice sy1 ly1 cy1] 30)) (heap_new (t1.alloc (.cells #[.slice sa1 xa1.length xa1.length] 24)) (.cells #[.slice sb1 xb1.length xb1.length] 24) (t1.heap.size + 1) (by simp))
  have bx1 := heap_kept (World.grownBy_alloc (((t1.alloc (.cells #[.slice sa1 xa1.length xa1.length] 24)).alloc (.cells #[.slice sb1 xb1.length xb1.length] 24)).alloc (.cells #[.slice sx1 lx1 cx1] 30)) (.cells #[.slice sy1 ly1 cy1] 30) none) (heap_new ((t1.alloc (.cells #[.slice sa1 xa1.length xa1.length] 24)).alloc (.cells #[.slice sb1 xb1.length xb1.length] 24)) (.cells #[.slice sx1 lx1 cx1] 30) (t1.heap.size + 1 + 1) (by simp))
  have by1 := (heap_new (((t1.alloc (.cells #[.slice sa1 xa1.length xa1.length] 24)).alloc (.cells #[.slice sb1 xb1.length xb1.length] 24)).alloc (.cells #[.slice sx1 lx1 cx1] 30)) (.cells #[.slice sy1 ly1 cy1] 30) (t1.heap.size + 1 + 1 + 1) (by simp))
  have gbt1 := (grown_alloc (grown_alloc (grown_alloc (World.grownBy_alloc t1 (.cells #[.slice sa1 xa1.length xa1.length] 24) none) (.cells #[.slice sb1 xb1.length xb1.length] 24)) (.cells #[.slice sx1 lx1 cx1] 30)) (.cells #[.slice sy1 ly1 cy1] 30))
  replace na1 := na1.kept gbt1
  replace nb1 := nb1.kept gbt1
  replace nx1 := nx1.kept gbt1
  replace ny1 := ny1.kept gbt1
  replace hT := hT.kept gbt1 (by simp)
  replace hG := grown_trans hG gbt1
  clear gbt1
  obtain ⟨cba1, fba1⟩ := box_cell ba1
  obtain ⟨cbb1, fbb1⟩ := box_cell bb1
  obtain ⟨cbx1, fbx1⟩ := box_cell bx1
  obtain ⟨cby1, fby1⟩ := box_cell by1
  go_wp2_with fail
  generalize ((((t1.alloc (.cells #[.slice sa1 xa1.length xa1.length] 24)).alloc (.cells #[.slice sb1 xb1.length xb1.length] 24)).alloc (.cells #[.slice sx1 lx1 cx1] 30)).alloc (.cells #[.slice sy1 ly1 cy1] 30)) = w1 at *
  generalize t1.heap.size = at1 at *
  generalize (fine (fewB s 200) && fine (fewB t 200)) = o1 at *
  generalize num (fewB s 200) = A at *
  generalize num (fewB t 200) = Bn at *
  cases o1
  · skip
    clear cba1 fba1 cbb1 fbb1 cbx1 fbx1 cby1 fby1
    refine (known_any w1 hT).mono ?_
    rintro e w2 ⟨rfl, gw2⟩
    replace hT := hT.kept gw2 (by simp)
    replace hG := grown_trans hG gw2
    clear gw2
    go_wp2_with fail
    refine (known_any w2 hT).mono ?_
    rintro e w3 ⟨rfl, gw3⟩
    replace hT := hT.kept gw3 (by simp)
    replace hG := grown_trans hG gw3
    clear gw3
    go_wp2_with fail
    refine (odd_any w3 s t).mono ?_
    rintro e w4 ⟨rfl, gw4⟩
    replace hT := hT.kept gw4 (by simp)
    replace hG := grown_trans hG gw4
    clear gw4
    go_wp2_with fail
    go_ret
    exact ⟨rfl, hG⟩
  clear cba1 fba1 cbb1 fbb1 cbx1 fbx1 cby1 fby1
  refine (known_any w1 hT).mono ?_
  rintro e w2 ⟨rfl, gw2⟩
  replace ba1 := heap_kept gw2 ba1
  replace bb1 := heap_kept gw2 bb1
  replace bx1 := heap_kept gw2 bx1
  replace by1 := heap_kept gw2 by1
  replace na1 := na1.kept gw2
  replace nb1 := nb1.kept gw2
  replace nx1 := nx1.kept gw2
  replace ny1 := ny1.kept gw2
  replace hT := hT.kept gw2 (by simp)
  replace hG := grown_trans hG gw2
  clear gw2
  obtain ⟨cba1, fba1⟩ := box_cell ba1
  obtain ⟨cbb1, fbb1⟩ := box_cell bb1
  obtain ⟨cbx1, fbx1⟩ := box_cell bx1
  obtain ⟨cby1, fby1⟩ := box_cell by1
  go_wp2_with fail
  rcases Nat.eq_zero_or_pos Bn with h0 | h0
  · skip
    obtain rfl : ly1 = 0 := (refv_len ny1).1 h0
    subst h0
    clear cba1 fba1 cbb1 fbb1 cbx1 fbx1 cby1 fby1
    refine (Div_zero w2 _ _ _ na1 nb1).mono ?_
    rintro e udw3 ⟨_, _, rfl, ⟨sq, xq, rfl, hq, vq⟩, ⟨sn, xn, rfl, hn, vn⟩, gudw3⟩
    have nq : NatV udw3 (.agg #[.slice sq xq.length xq.length]) (0) := ⟨_, _, rfl, hq, vq⟩
    have nn : NatV udw3 (.agg #[.slice sn xn.length xn.length]) (0) := ⟨_, _, rfl, hn, vn⟩
    replace ba1 := heap_kept gudw3 ba1
    replace bb1 := heap_kept gudw3 bb1
    replace bx1 := heap_kept gudw3 bx1
    replace by1 := heap_kept gudw3 by1
    replace na1 := na1.kept gudw3
    replace nb1 := nb1.kept gudw3
    replace nx1 := nx1.kept gudw3
    replace ny1 := ny1.kept gudw3
    replace hT := hT.kept gudw3 (by simp)
    replace hG := grown_trans hG gudw3
    clear gudw3 hq vq hn vn
    have bq := heap_kept (World.grownBy_alloc (udw3.alloc (.cells #[.slice sq xq.length xq.length] 24)) (.cells #[.slice sn xn.length xn.length] 24) none) (heap_new udw3 (.cells #[.slice sq xq.length xq.length] 24) (udw3.heap.size) rfl)
    have bn := (heap_new (udw3.alloc (.cells #[.slice sq xq.length xq.length] 24)) (.cells #[.slice sn xn.length xn.length] 24) (udw3.heap.size + 1) (by simp))
    have gbudw3 := (grown_alloc (World.grownBy_alloc udw3 (.cells #[.slice sq xq.length xq.length] 24) none) (.cells #[.slice sn xn.length xn.length] 24))
    replace ba1 := heap_kept gbudw3 ba1
    replace bb1 := heap_kept gbudw3 bb1
    replace bx1 := heap_kept gbudw3 bx1
    replace by1 := heap_kept gbudw3 by1
    replace na1 := na1.kept gbudw3
    replace nb1 := nb1.kept gbudw3
    replace nx1 := nx1.kept gbudw3
    replace ny1 := ny1.kept gbudw3
    replace nq := nq.kept gbudw3
    replace nn := nn.kept gbudw3
    replace hT := hT.kept gbudw3 (by simp)
    replace hG := grown_trans hG gbudw3
    clear gbudw3
    obtain ⟨cba1, fba1⟩ := box_cell ba1
    obtain ⟨cbb1, fbb1⟩ := box_cell bb1
    obtain ⟨cbx1, fbx1⟩ := box_cell bx1
    obtain ⟨cby1, fby1⟩ := box_cell by1
    obtain ⟨cbq, fbq⟩ := box_cell bq
    obtain ⟨cbn, fbn⟩ := box_cell bn
    go_wp2_with fail
    generalize ((udw3.alloc (.cells #[.slice sq xq.length xq.length] 24)).alloc (.cells #[.slice sn xn.length xn.length] 24)) = dw4 at *
    generalize udw3.heap.size = audw3 at *
    clear cba1 fba1 cbb1 fbb1 cbx1 fbx1 cby1 fby1 cbq fbq cbn fbn
    refine (Text_any dw4 _ _ 1 nq (by omega) (by decide)).mono ?_
    rintro e dw5 ⟨znq, rfl, dznq, vznq, gdw5⟩
    obtain rfl : znq = { data := #[48] } := dec_uniq dznq (dec_of (by decide +kernel)) (vznq.trans (by decide +kernel))
    replace ba1 := heap_kept gdw5 ba1
    replace bb1 := heap_kept gdw5 bb1
    replace bx1 := heap_kept gdw5 bx1
    replace by1 := heap_kept gdw5 by1
    replace bq := heap_kept gdw5 bq
    replace bn := heap_kept gdw5 bn
    replace na1 := na1.kept gdw5
    replace nb1 := nb1.kept gdw5
    replace nx1 := nx1.kept gdw5
    replace ny1 := ny1.kept gdw5
    replace nq := nq.kept gdw5
    replace nn := nn.kept gdw5
    replace hT := hT.kept gdw5 (by simp)
    replace hG := grown_trans hG gdw5
    clear gdw5
    obtain ⟨cba1, fba1⟩ := box_cell ba1
    obtain ⟨cbb1, fbb1⟩ := box_cell bb1
    obtain ⟨cbx1, fbx1⟩ := box_cell bx1
    obtain ⟨cby1, fby1⟩ := box_cell by1
    obtain ⟨cbq, fbq⟩ := box_cell bq
    obtain ⟨cbn, fbn⟩ := box_cell bn
    go_wp2_with fail
    clear cba1 fba1 cbb1 fbb1 cbx1 fbx1 cby1 fby1 cbq fbq cbn fbn
    refine (Text_any dw5 _ _ 1 nn (by omega) (by decide)).mono ?_
    rintro e dw6 ⟨znn, rfl, dznn, vznn, gdw6⟩
    obtain rfl : znn = { data := #[48] } := dec_uniq dznn (dec_of (by decide +kernel)) (vznn.trans (by decide +kernel))
    replace ba1 := heap_kept gdw6 ba1
    replace bb1 := heap_kept gdw6 bb1
    replace bx1 := heap_kept gdw6 bx1
    replace by1 := heap_kept gdw6 by1
    replace bq := heap_kept gdw6 bq
    replace bn := heap_kept gdw6 bn
    replace na1 := na1.kept gdw6
    replace nb1 := nb1.kept gdw6
    replace nx1 := nx1.kept gdw6
    replace ny1 := ny1.kept gdw6
    replace nq := nq.kept gdw6
    replace nn := nn.kept gdw6
    replace hT := hT.kept gdw6 (by simp)
    replace hG := grown_trans hG gdw6
    clear gdw6
    obtain ⟨cba1, fba1⟩ := box_cell ba1
    obtain ⟨cbb1, fbb1⟩ := box_cell bb1
    obtain ⟨cbx1, fbx1⟩ := box_cell bx1
    obtain ⟨cby1, fby1⟩ := box_cell by1
    obtain ⟨cbq, fbq⟩ := box_cell bq
    obtain ⟨cbn, fbn⟩ := box_cell bn
    go_wp2_with fail
    go_ret
    exact ⟨rfl, hG⟩
  have f0 : ((ly1 : Int) == 0) = false := beq_eq_false_iff_ne.2 (by have := (refv_len ny1).2 h0; omega)
  clear cba1 fba1 cbb1 fbb1 cbx1 fbx1 cby1 fby1
  refine (Div_some w2 _ _ _ _ 11 na1 nb1 (by omega) la lb h0).mono ?_
  rintro e uw3 ⟨_, _, rfl, ⟨sq, xq, rfl, hq, vq⟩, ⟨sn, xn, rfl, hn, vn⟩, guw3⟩
  have nq : NatV uw3 (.agg #[.slice sq xq.length xq.length]) (A / Bn) := ⟨_, _, rfl, hq, vq⟩
  have nn : NatV uw3 (.agg #[.slice sn xn.length xn.length]) (A % Bn) := ⟨_, _, rfl, hn, vn⟩
  replace ba1 := heap_kept guw3 ba1
  replace bb1 := heap_kept guw3 bb1
  replace bx1 := heap_kept guw3 bx1
  replace by1 := heap_kept guw3 by1
  replace na1 := na1.kept guw3
  replace nb1 := nb1.kept guw3
  replace nx1 := nx1.kept guw3
  replace ny1 := ny1.kept guw3
  replace hT := hT.kept guw3 (by simp)
  replace hG := grown_trans hG guw3
  clear guw3 hq vq hn vn
  have bq := heap_kept (World.grownBy_alloc (uw3.alloc (.cells #[.slice sq xq.length xq.length] 24)) (.cells #[.slice sn xn.length xn.length] 24) none) (heap_new uw3 (.cells #[.slice sq xq.length xq.length] 24) (uw3.heap.size) rfl)
  have bn := (heap_new (uw3.alloc (.cells #[.slice sq xq.length xq.length] 24)) (.cells #[.slice sn xn.length xn.length] 24) (uw3.heap.size + 1) (by simp))
  have gbuw3 := (grown_alloc (World.grownBy_alloc uw3 (.cells #[.slice sq xq.length xq.length] 24) none) (.cells #[.slice sn xn.length xn.length] 24))
  replace ba1 := heap_kept gbuw3 ba1
  replace bb1 := heap_kept gbuw3 bb1
  replace bx1 := heap_kept gbuw3 bx1
  replace by1 := heap_kept gbuw3 by1
  replace na1 := na1.kept gbuw3
  replace nb1 := nb1.kept gbuw3
  replace nx1 := nx1.kept gbuw3
  replace ny1 := ny1.kept gbuw3
  replace nq := nq.kept gbuw3
  replace nn := nn.kept gbuw3
  replace hT := hT.kept gbuw3 (by simp)
  replace hG := grown_trans hG gbuw3
  clear gbuw3
  obtain ⟨cba1, fba1⟩ := box_cell ba1
  obtain ⟨cbb1, fbb1⟩ := box_cell bb1
  obtain ⟨cbx1, fbx1⟩ := box_cell bx1
  obtain ⟨cby1, fby1⟩ := box_cell by1
  obtain ⟨cbq, fbq⟩ := box_cell bq
  obtain ⟨cbn, fbn⟩ := box_cell bn
  go_wp2_with fail
  generalize ((uw3.alloc (.cells #[.slice sq xq.length xq.length] 24)).alloc (.cells #[.slice sn xn.length xn.length] 24)) = w4 at *
  generalize uw3.heap.size = auw3 at *
  clear cba1 fba1 cbb1 fbb1 cbx1 fbx1 cby1 fby1 cbq fbq cbn fbn
  refine (rDiv_any w4 _ _ _ _ nx1 ny1 (toD4 la (by omega)) (toD4 lb (by omega)) h0).mono ?_
  rintro e uw5 ⟨_, _, rfl, ⟨su, lu, cu, xu, rfl, hu⟩, ⟨sv, lv, cv, xv, rfl, hv⟩, guw5⟩
  have nu : RefV uw5 (.agg #[.slice su lu cu]) (A / Bn) := ⟨_, _, _, _, rfl, hu⟩
  have nv : RefV uw5 (.agg #[.slice sv lv cv]) (A % Bn) := ⟨_, _, _, _, rfl, hv⟩
  replace ba1 := heap_kept guw5 ba1
  replace bb1 := heap_kept guw5 bb1
  replace bx1 := heap_kept guw5 bx1
  replace by1 := heap_kept guw5 by1
  replace bq := heap_kept guw5 bq
  replace bn := heap_kept guw5 bn
  replace na1 := na1.kept guw5
  replace nb1 := nb1.kept guw5
  replace nx1 := nx1.kept guw5
  replace ny1 := ny1.kept guw5
  replace nq := nq.kept guw5
  replace nn := nn.kept guw5
  replace hT := hT.kept guw5 (by simp)
  replace hG := grown_trans hG guw5
  clear guw5 hu hv
  have bu := heap_kept (World.grownBy_alloc (uw5.alloc (.cells #[.slice su lu cu] 30)) (.cells #[.slice sv lv cv] 30) none) (heap_new uw5 (.cells #[.slice su lu cu] 30) (uw5.heap.size) rfl)
  have bv := (heap_new (uw5.alloc (.cells #[.slice su lu cu] 30)) (.cells #[.slice sv lv cv] 30) (uw5.heap.size + 1) (by simp))
  have gbuw5 := (grown_alloc (World.grownBy_alloc uw5 (.cells #[.slice su lu cu] 30) none) (.cells #[.slice sv lv cv] 30))
  replace ba1 := heap_kept gbuw5 ba1
  replace bb1 := heap_kept gbuw5 bb1
  replace bx1 := heap_kept gbuw5 bx1
  replace by1 := heap_kept gbuw5 by1
  replace bq := heap_kept gbuw5 bq
  replace bn := heap_kept gbuw5 bn
  replace na1 := na1.kept gbuw5
  replace nb1 := nb1.kept gbuw5
  replace nx1 := nx1.kept gbuw5
  replace ny1 := ny1.kept gbuw5
  replace nq := nq.kept gbuw5
  replace nn := nn.kept gbuw5
  replace nu := nu.kept gbuw5
  replace nv := nv.kept gbuw5
  replace hT := hT.kept gbuw5 (by simp)
  replace hG := grown_trans hG gbuw5
  clear gbuw5
  obtain ⟨cba1, fba1⟩ := box_cell ba1
  obtain ⟨cbb1, fbb1⟩ := box_cell bb1
  obtain ⟨cbx1, fbx1⟩ := box_cell bx1
  obtain ⟨cby1, fby1⟩ := box_cell by1
  obtain ⟨cbq, fbq⟩ := box_cell bq
  obtain ⟨cbn, fbn⟩ := box_cell bn
  obtain ⟨cbu, fbu⟩ := box_cell bu
  obtain ⟨cbv, fbv⟩ := box_cell bv
  go_wp2_with fail
  generalize ((uw5.alloc (.cells #[.slice su lu cu] 30)).alloc (.cells #[.slice sv lv cv] 30)) = w6 at *
  generalize uw5.heap.size = auw5 at *
  clear cba1 fba1 cbb1 fbb1 cbx1 fbx1 cby1 fby1 cbq fbq cbn fbn cbu fbu cbv fbv
  refine (same_any w6 _ _ _ 11 nq nu (by omega) (Nat.lt_of_le_of_lt (Nat.div_le_self A Bn) la) (toD (Nat.lt_of_le_of_lt (Nat.div_le_self A Bn) la) (by omega))).mono ?_
  rintro e w7 ⟨rfl, gw7⟩
  replace ba1 := heap_kept gw7 ba1
  replace bb1 := heap_kept gw7 bb1
  replace bx1 := heap_kept gw7 bx1
  replace by1 := heap_kept gw7 by1
  replace bq := heap_kept gw7 bq
  replace bn := heap_kept gw7 bn
  replace bu := heap_kept gw7 bu
  replace bv := heap_kept gw7 bv
  replace na1 := na1.kept gw7
  replace nb1 := nb1.kept gw7
  replace nx1 := nx1.kept gw7
  replace ny1 := ny1.kept gw7
  replace nq := nq.kept gw7
  replace nn := nn.kept gw7
  replace nu := nu.kept gw7
  replace nv := nv.kept gw7
  replace hT := hT.kept gw7 (by simp)
  replace hG := grown_trans hG gw7
  clear gw7
  obtain ⟨cba1, fba1⟩ := box_cell ba1
  obtain ⟨cbb1, fbb1⟩ := box_cell bb1
  obtain ⟨cbx1, fbx1⟩ := box_cell bx1
  obtain ⟨cby1, fby1⟩ := box_cell by1
  obtain ⟨cbq, fbq⟩ := box_cell bq
  obtain ⟨cbn, fbn⟩ := box_cell bn
  obtain ⟨cbu, fbu⟩ := box_cell bu
  obtain ⟨cbv, fbv⟩ := box_cell bv
  go_wp2_with fail
  clear cba1 fba1 cbb1 fbb1 cbx1 fbx1 cby1 fby1 cbq fbq cbn fbn cbu fbu cbv fbv
  refine (same_any w7 _ _ _ 11 nn nv (by omega) (Nat.lt_of_le_of_lt (Nat.mod_le A Bn) la) (toD (Nat.lt_of_le_of_lt (Nat.mod_le A Bn) la) (by omega))).mono ?_
  rintro e w8 ⟨rfl, gw8⟩
  replace ba1 := heap_kept gw8 ba1
  replace bb1 := heap_kept gw8 bb1
  replace bx1 := heap_kept gw8 bx1
  replace by1 := heap_kept gw8 by1
  replace bq := heap_kept gw8 bq
  replace bn := heap_kept gw8 bn
  replace bu := heap_kept gw8 bu
  replace bv := heap_kept gw8 bv
  replace na1 := na1.kept gw8
  replace nb1 := nb1.kept gw8
  replace nx1 := nx1.kept gw8
  replace ny1 := ny1.kept gw8
  replace nq := nq.kept gw8
  replace nn := nn.kept gw8
  replace nu := nu.kept gw8
  replace nv := nv.kept gw8
  replace hT := hT.kept gw8 (by simp)
  replace hG := grown_trans hG gw8
  clear gw8
  obtain ⟨cba1, fba1⟩ := box_cell ba1
  obtain ⟨cbb1, fbb1⟩ := box_cell bb1
  obtain ⟨cbx1, fbx1⟩ := box_cell bx1
  obtain ⟨cby1, fby1⟩ := box_cell by1
  obtain ⟨cbq, fbq⟩ := box_cell bq
  obtain ⟨cbn, fbn⟩ := box_cell bn
  obtain ⟨cbu, fbu⟩ := box_cell bu
  obtain ⟨cbv, fbv⟩ := box_cell bv
  go_wp2_with fail
  go_ret
  exact ⟨rfl, hG⟩
end Go.Proofs.YtooeonjkpgbdpaaDoor
