/- NatAdds: sums, differences and which number is greater are the document's. -/
import Derived.Test.YtooeonjkpgbdpaaDoorKit
import Derived.Deep.RegionHeld3
namespace Go.Proofs.YtooeonjkpgbdpaaDoor
open Go.RowKit Mat
set_option maxRecDepth 100000
set_option linter.unusedVariables false
set_option linter.unusedSimpArgs false

set_option maxHeartbeats 8000000 in
theorem natAdds_walk (w : World) (s t : ByteArray) (hT : Tab w) :
    Calls Tryd.prog 5 #[.string s, .string t] w (fun e w' => e = .returned (.bool true) ∧ w.grownBy w' none) := by
  have hG : w.grownBy w none := grown_refl _ _
  have la := num_bd s
  have lb := num_bd t
  go_enter Tryd.func5, Tryd.ntmps5
  go_wp2_with fail
  refine (two_any w s t).mono ?_
  rintro e t1 ⟨_, _, _, _, rfl, ⟨sa1, xa1, rfl, ha1, va1⟩, ⟨sb1, xb1, rfl, hb1, vb1⟩, ⟨sx1, lx1, cx1, xx1, rfl, hx1⟩, ⟨sy1, ly1, cy1, xy1, rfl, hy1⟩, g1⟩
  have na1 : NatV t1 (.agg #[.slice sa1 xa1.length xa1.length]) (num (fewB s 200)) := ⟨_, _, rfl, ha1, va1⟩
  have nb1 : NatV t1 (.agg #[.slice sb1 xb1.length xb1.length]) (num (fewB t 200)) := ⟨_, _, rfl, hb1, vb1⟩
  have nx1 : RefV t1 (.agg #[.slice sx1 lx1 cx1]) (num (fewB s 200)) := ⟨_, _, _, _, rfl, hx1⟩
  have ny1 : RefV t1 (.agg #[.slice sy1 ly1 cy1]) (num (fewB t 200)) := ⟨_, _, _, _, rfl, hy1⟩
  replace hT := hT.kept g1 (by simp)
  replace hG := grown_trans hG g1
  clear ha1 va1 hb1 vb1 hx1 hy1 g1
  have ba1 := heap_kept (grown_alloc (grown_alloc (World.grownBy_alloc (t1.alloc (.cells #[.slice sa1 xa1.length xa1.length] 24)) (.cells #[.slice sb1 xb1.length xb1.length] 24) none) (.cells #[.slice sx1 lx1 cx1] 30)) (.cells #[.slice sy1 ly1 cy1] 30)) (heap_new t1 (.cells #[.slice sa1 xa1.length xa1.length] 24) (t1.heap.size) rfl)
  have bb1 := heap_kept (grown_alloc (World.grownBy_alloc ((t1.alloc (.cells #[.slice sa1 xa1.length xa1.length] 24)).alloc (.cells #[.slice sb1 xb1.length xb1.length] 24)) (.cells #[.slice sx1 lx1 cx1] 30) none) (.cells #[.slice sy1 ly1 cy1] 30)) (heap_new (t1.alloc (.cells #[.slice sa1 xa1.length xa1.length] 24)) (.cells #[.slice sb1 xb1.length xb1.length] 24) (t1.heap.size + 1) (by simp))
  have bx1 := heap_kept (World.grownBy_alloc (((t1.alloc (.cells #[.slice sa1 xa1.length xa1.length] 24)).alloc (.cells #[.slice sb1 xb1.length xb1.length] 24)).alloc (.cells #[.slice sx1 lx1 cx1] 30)) (.cells #[.slice sy1 ly1 cy1] 30) none) (heap_new ((t1.alloc (.cells #[.slice sa1 xa1.length xa1.length] 24)).alloc (.cells #[.slice sb1 xb1.length xb1.length] 24)) (.cells #[.slice sx1 lx1 cx1] 30) (t1.heap.size + 1 + 1) (by simp))
  have by1 := (heap_new (((t1.alloc (.cells #[.slice sa1 xa1.length xa1.length] 24)).alloc (.cells #[.slice sb1 xb1.length xb1.length] 24)).alloc (.cells #[.slice sx1 lx1 cx1] 30)) (.cells #[.slice sy1 ly1 cy1] 30) (t1.heap.size + 1 + 1 + 1) (by simp))
  have gbt1 := (grown_alloc (grown_alloc (grown_alloc (World.grownBy_alloc t1 (.cells #[.slice sa1 xa1.length xa1.length] 24) none) (.cells #[.slice sb1 xb1.length xb1.length] 24)) (.cells #[.slice sx1 lx1 cx1] 30)) (.cells #[.slice sy1 ly1 cy1] 30))
  replace na1 := na1.kept gbt1
  replace nb1 := nb1.kept gbt1
  replace nx1 := nx1.kept gbt1
  replace ny1 := ny1.kept gbt1
  replace hT := hT.kept gbt1 (by simp)
  replace hG := grown_trans hG gbt1
  clear gbt1
  obtain ⟨cba1, fba1⟩ := box_cell ba1
  obtain ⟨cbb1, fbb1⟩ := box_cell bb1
  obtain ⟨cbx1, fbx1⟩ := box_cell bx1
  obtain ⟨cby1, fby1⟩ := box_cell by1
  go_wp2_with fail
  generalize ((((t1.alloc (.cells #[.slice sa1 xa1.length xa1.length] 24)).alloc (.cells #[.slice sb1 xb1.length xb1.length] 24)).alloc (.cells #[.slice sx1 lx1 cx1] 30)).alloc (.cells #[.slice sy1 ly1 cy1] 30)) = w1 at *
  generalize t1.heap.size = at1 at *
  generalize (fine (fewB s 200) && fine (fewB t 200)) = o1 at *
  generalize num (fewB s 200) = A at *
  generalize num (fewB t 200) = Bn at *
  cases o1
  · skip
    clear cba1 fba1 cbb1 fbb1 cbx1 fbx1 cby1 fby1
    refine (known_any w1 hT).mono ?_
    rintro e w2 ⟨rfl, gw2⟩
    replace hT := hT.kept gw2 (by simp)
    replace hG := grown_trans hG gw2
    clear gw2
    go_wp2_with fail
    refine (known_any w2 hT).mono ?_
    rintro e w3 ⟨rfl, gw3⟩
    replace hT := hT.kept gw3 (by simp)
    replace hG := grown_trans hG gw3
    clear gw3
    go_wp2_with fail
    refine (odd_any w3 s t).mono ?_
    rintro e w4 ⟨rfl, gw4⟩
    replace hT := hT.kept gw4 (by simp)
    replace hG := grown_trans hG gw4
    clear gw4
    go_wp2_with fail
    go_ret
    exact ⟨rfl, hG⟩
  clear cba1 fba1 cbb1 fbb1 cbx1 fbx1 cby1 fby1
  refine (known_any w1 hT).mono ?_
  rintro e w2 ⟨rfl, gw2⟩
  replace ba1 := heap_kept gw2 ba1
  replace bb1 := heap_kept gw2 bb1
  replace bx1 := heap_kept gw2 bx1
  replace by1 := heap_kept gw2 by1
  replace na1 := na1.kept gw2
  replace nb1 := nb1.kept gw2
  replace nx1 := nx1.kept gw2
  replace ny1 := ny1.kept gw2
  replace hT := hT.kept gw2 (by simp)
  replace hG := grown_trans hG gw2
  clear gw2
  obtain ⟨cba1, fba1⟩ := box_cell ba1
  obtain ⟨cbb1, fbb1⟩ := box_cell bb1
  obtain ⟨cbx1, fbx1⟩ := box_cell bx1
  obtain ⟨cby1, fby1⟩ := box_cell by1
  go_wp2_with fail
  rcases Nat.lt_trichotomy A Bn with h0 | h0 | h0
  · skip
    clear cba1 fba1 cbb1 fbb1 cbx1 fbx1 cby1 fby1
    refine (Sub_less w2 _ _ _ _ 11 na1 nb1 (by omega) la lb h0).mono ?_
    rintro e ultw3 ⟨_, rfl, ⟨sd, xd, rfl, hd, vd⟩, gultw3⟩
    have nd : NatV ultw3 (.agg #[.slice sd xd.length xd.length]) (0) := ⟨_, _, rfl, hd, vd⟩
    replace ba1 := heap_kept gultw3 ba1
    replace bb1 := heap_kept gultw3 bb1
    replace bx1 := heap_kept gultw3 bx1
    replace by1 := heap_kept gultw3 by1
    replace na1 := na1.kept gultw3
    replace nb1 := nb1.kept gultw3
    replace nx1 := nx1.kept gultw3
    replace ny1 := ny1.kept gultw3
    replace hT := hT.kept gultw3 (by simp)
    replace hG := grown_trans hG gultw3
    clear gultw3 hd vd
    have bd := (heap_new ultw3 (.cells #[.slice sd xd.length xd.length] 24) (ultw3.heap.size) rfl)
    have gbultw3 := (World.grownBy_alloc ultw3 (.cells #[.slice sd xd.length xd.length] 24) none)
    replace ba1 := heap_kept gbultw3 ba1
    replace bb1 := heap_kept gbultw3 bb1
    replace bx1 := heap_kept gbultw3 bx1
    replace by1 := heap_kept gbultw3 by1
    replace na1 := na1.kept gbultw3
    replace nb1 := nb1.kept gbultw3
    replace nx1 := nx1.kept gbultw3
    replace ny1 := ny1.kept gbultw3
    replace nd := nd.kept gbultw3
    replace hT := hT.kept gbultw3 (by simp)
    replace hG := grown_trans hG gbultw3
    clear gbultw3
    obtain ⟨cba1, fba1⟩ := box_cell ba1
    obtain ⟨cbb1, fbb1⟩ := box_cell bb1
    obtain ⟨cbx1, fbx1⟩ := box_cell bx1
    obtain ⟨cby1, fby1⟩ := box_cell by1
    obtain ⟨cbd, fbd⟩ := box_cell bd
    go_wp2_with fail
    generalize (ultw3.alloc (.cells #[.slice sd xd.length xd.length] 24)) = ltw4 at *
    generalize ultw3.heap.size = aultw3 at *
    go_region_held3 (fun w' => w'.cell? ⟨at1, 0, none⟩ = some (.slice sa1 xa1.length xa1.length) ∧ w'.cell? ⟨at1 + 1, 0, none⟩ = some (.slice sb1 xb1.length xb1.length) ∧ w'.cell? ⟨at1 + 1 + 1, 0, none⟩ = some (.slice sx1 lx1 cx1) ∧ w'.cell? ⟨at1 + 1 + 1 + 1, 0, none⟩ = some (.slice sy1 ly1 cy1))
      (first | assumption | exact ⟨cba1, cbb1, cbx1, cby1⟩ | go_keep)
      (first
        | (go_at_call 26; (with_reducible refine (Cmp_any ltw4.drew _ _ _ _ 11 (na1.kept (grown_drew (grown_refl _ _))) (nb1.kept (grown_drew (grown_refl _ _))) (by omega) la lb).mono ?_); rintro e ltw5_1 ⟨rfl, gltw5_1⟩; rw [cmpInt_lt h0]; have hGltw5_1 := grown_pre ltw4 gltw5_1 rfl rfl rfl rfl; have hSltw5_1 := (And.intro (hGltw5_1.cell cba1 (by simp)) (And.intro (hGltw5_1.cell cbb1 (by simp)) (And.intro (hGltw5_1.cell cbx1 (by simp)) (hGltw5_1.cell cby1 (by simp))))); clear gltw5_1)
        | (go_at_call 19; (with_reducible refine (rCmp_any ltw5_1 _ _ _ _ (nx1.kept hGltw5_1) (ny1.kept hGltw5_1) (toD la (by omega)) (toD lb (by omega))).mono ?_); rintro e ltw5_2 ⟨rfl, gltw5_2⟩; rw [cmpInt_lt h0]; have hGltw5_2 := grown_trans hGltw5_1 gltw5_2; have hSltw5_2 := (And.intro (hGltw5_2.cell cba1 (by simp)) (And.intro (hGltw5_2.cell cbb1 (by simp)) (And.intro (hGltw5_2.cell cbx1 (by simp)) (hGltw5_2.cell cby1 (by simp))))); clear gltw5_2; clear hGltw5_1 hSltw5_1)
        | (go_at_call 30; (with_reducible refine (Add_any ltw5_2 _ _ _ _ 11 (na1.kept hGltw5_2) (nb1.kept hGltw5_2) (by omega) (bw la (by omega)) (bw lb (by omega))).mono ?_); rintro e ltw5_3 ⟨vz2_, rfl, z2_, gltw5_3⟩; have hGltw5_3 := grown_trans hGltw5_2 gltw5_3; have hSltw5_3 := (And.intro (hGltw5_3.cell cba1 (by simp)) (And.intro (hGltw5_3.cell cbb1 (by simp)) (And.intro (hGltw5_3.cell cbx1 (by simp)) (hGltw5_3.cell cby1 (by simp))))); clear gltw5_3; clear hGltw5_2 hSltw5_2)
        | (go_at_call 31; (with_reducible refine (rAdd_any ltw5_3 _ _ _ _ (nx1.kept hGltw5_3) (ny1.kept hGltw5_3) (toD la (by omega)) (toD lb (by omega))).mono ?_); rintro e ltw5_4 ⟨_, rfl, nr, gltw5_4⟩; have hGltw5_4 := grown_trans hGltw5_3 gltw5_4; replace z2_ := z2_.kept gltw5_4; have hSltw5_4 := (And.intro (hGltw5_4.cell cba1 (by simp)) (And.intro (hGltw5_4.cell cbb1 (by simp)) (And.intro (hGltw5_4.cell cbx1 (by simp)) (hGltw5_4.cell cby1 (by simp))))); clear gltw5_4; clear hGltw5_3 hSltw5_3)
        | (go_at_call 21; (with_reducible refine (same_any ltw5_4 _ _ _ 12 z2_ nr (by omega) (badd la lb) (toD (badd la lb) (by omega))).mono ?_); rintro e ltw5_5 ⟨rfl, gltw5_5⟩; have hGltw5_5 := grown_trans hGltw5_4 gltw5_5; replace z2_ := z2_.kept gltw5_5; replace nr := nr.kept gltw5_5; have hSltw5_5 := (And.intro (hGltw5_5.cell cba1 (by simp)) (And.intro (hGltw5_5.cell cbb1 (by simp)) (And.intro (hGltw5_5.cell cbx1 (by simp)) (hGltw5_5.cell cby1 (by simp))))); clear gltw5_5; clear hGltw5_4 hSltw5_4))
    replace ba1 := heap_kept hGltw5_5 ba1
    replace bb1 := heap_kept hGltw5_5 bb1
    replace bx1 := heap_kept hGltw5_5 bx1
    replace by1 := heap_kept hGltw5_5 by1
    replace bd := heap_kept hGltw5_5 bd
    replace na1 := na1.kept hGltw5_5
    replace nb1 := nb1.kept hGltw5_5
    replace nx1 := nx1.kept hGltw5_5
    replace ny1 := ny1.kept hGltw5_5
    replace nd := nd.kept hGltw5_5
    replace hT := hT.kept hGltw5_5 (by simp)
    replace hG := grown_trans hG hGltw5_5
    clear cba1 fba1 cbb1 fbb1 cbx1 fbx1 cby1 fby1 cbd fbd
    obtain ⟨cba1, fba1⟩ := box_cell ba1
    obtain ⟨cbb1, fbb1⟩ := box_cell bb1
    obtain ⟨cbx1, fbx1⟩ := box_cell bx1
    obtain ⟨cby1, fby1⟩ := box_cell by1
    obtain ⟨cbd, fbd⟩ := box_cell bd
    go_wp2_with fail
    clear cba1 fba1 cbb1 fbb1 cbx1 fbx1 cby1 fby1 cbd fbd
    refine (rCmp_any ltw5_5 _ _ _ _ nx1 ny1 (toD la (by omega)) (toD lb (by omega))).mono ?_
    rintro e ltw6 ⟨rfl, gltw6⟩
    rw [cmpInt_lt h0]
    replace ba1 := heap_kept gltw6 ba1
    replace bb1 := heap_kept gltw6 bb1
    replace bx1 := heap_kept gltw6 bx1
    replace by1 := heap_kept gltw6 by1
    replace bd := heap_kept gltw6 bd
    replace na1 := na1.kept gltw6
    replace nb1 := nb1.kept gltw6
    replace nx1 := nx1.kept gltw6
    replace ny1 := ny1.kept gltw6
    replace nd := nd.kept gltw6
    replace hT := hT.kept gltw6 (by simp)
    replace hG := grown_trans hG gltw6
    clear gltw6
    obtain ⟨cba1, fba1⟩ := box_cell ba1
    obtain ⟨cbb1, fbb1⟩ := box_cell bb1
    obtain ⟨cbx1, fbx1⟩ := box_cell bx1
    obtain ⟨cby1, fby1⟩ := box_cell by1
    obtain ⟨cbd, fbd⟩ := box_cell bd
    go_wp2_with fail
    clear cba1 fba1 cbb1 fbb1 cbx1 fbx1 cby1 fby1 cbd fbd
    refine (Text_any ltw6 _ _ 1 nd (by omega) (by decide)).mono ?_
    rintro e ltw7 ⟨z, rfl, dz, vz, gltw7⟩
    obtain rfl : z = { data := #[48] } := dec_uniq dz (dec_of (by decide +kernel)) (vz.trans (by decide +kernel))
    replace ba1 := heap_kept gltw7 ba1
    replace bb1 := heap_kept gltw7 bb1
    replace bx1 := heap_kept gltw7 bx1
    replace by1 := heap_kept gltw7 by1
    replace bd := heap_kept gltw7 bd
    replace na1 := na1.kept gltw7
    replace nb1 := nb1.kept gltw7
    replace nx1 := nx1.kept gltw7
    replace ny1 := ny1.kept gltw7
    replace nd := nd.kept gltw7
    replace hT := hT.kept gltw7 (by simp)
    replace hG := grown_trans hG gltw7
    clear gltw7
    obtain ⟨cba1, fba1⟩ := box_cell ba1
    obtain ⟨cbb1, fbb1⟩ := box_cell bb1
    obtain ⟨cbx1, fbx1⟩ := box_cell bx1
    obtain ⟨cby1, fby1⟩ := box_cell by1
    obtain ⟨cbd, fbd⟩ := box_cell bd
    go_wp2_with fail
    go_ret
    exact ⟨rfl, hG⟩
  · skip
    clear cba1 fba1 cbb1 fbb1 cbx1 fbx1 cby1 fby1
    refine (Sub_some w2 _ _ _ _ 11 na1 nb1 (by omega) la (by omega)).mono ?_
    rintro e ueqw3 ⟨_, rfl, ⟨sd, xd, rfl, hd, vd⟩, gueqw3⟩
    have nd : NatV ueqw3 (.agg #[.slice sd xd.length xd.length]) (A - Bn) := ⟨_, _, rfl, hd, vd⟩
    replace ba1 := heap_kept gueqw3 ba1
    replace bb1 := heap_kept gueqw3 bb1
    replace bx1 := heap_kept gueqw3 bx1
    replace by1 := heap_kept gueqw3 by1
    replace na1 := na1.kept gueqw3
    replace nb1 := nb1.kept gueqw3
    replace nx1 := nx1.kept gueqw3
    replace ny1 := ny1.kept gueqw3
    replace hT := hT.kept gueqw3 (by simp)
    replace hG := grown_trans hG gueqw3
    clear gueqw3 hd vd
    have bd := (heap_new ueqw3 (.cells #[.slice sd xd.length xd.length] 24) (ueqw3.heap.size) rfl)
    have gbueqw3 := (World.grownBy_alloc ueqw3 (.cells #[.slice sd xd.length xd.length] 24) none)
    replace ba1 := heap_kept gbueqw3 ba1
    replace bb1 := heap_kept gbueqw3 bb1
    replace bx1 := heap_kept gbueqw3 bx1
    replace by1 := heap_kept gbueqw3 by1
    replace na1 := na1.kept gbueqw3
    replace nb1 := nb1.kept gbueqw3
    replace nx1 := nx1.kept gbueqw3
    replace ny1 := ny1.kept gbueqw3
    replace nd := nd.kept gbueqw3
    replace hT := hT.kept gbueqw3 (by simp)
    replace hG := grown_trans hG gbueqw3
    clear gbueqw3
    obtain ⟨cba1, fba1⟩ := box_cell ba1
    obtain ⟨cbb1, fbb1⟩ := box_cell bb1
    obtain ⟨cbx1, fbx1⟩ := box_cell bx1
    obtain ⟨cby1, fby1⟩ := box_cell by1
    obtain ⟨cbd, fbd⟩ := box_cell bd
    go_wp2_with fail
    generalize (ueqw3.alloc (.cells #[.slice sd xd.length xd.length] 24)) = eqw4 at *
    generalize ueqw3.heap.size = aueqw3 at *
    go_region_held3 (fun w' => w'.cell? ⟨at1, 0, none⟩ = some (.slice sa1 xa1.length xa1.length) ∧ w'.cell? ⟨at1 + 1, 0, none⟩ = some (.slice sb1 xb1.length xb1.length) ∧ w'.cell? ⟨at1 + 1 + 1, 0, none⟩ = some (.slice sx1 lx1 cx1) ∧ w'.cell? ⟨at1 + 1 + 1 + 1, 0, none⟩ = some (.slice sy1 ly1 cy1))
      (first | assumption | exact ⟨cba1, cbb1, cbx1, cby1⟩ | go_keep)
      (first
        | (go_at_call 26; (with_reducible refine (Cmp_any eqw4.drew _ _ _ _ 11 (na1.kept (grown_drew (grown_refl _ _))) (nb1.kept (grown_drew (grown_refl _ _))) (by omega) la lb).mono ?_); rintro e eqw5_1 ⟨rfl, geqw5_1⟩; rw [cmpInt_eq h0]; have hGeqw5_1 := grown_pre eqw4 geqw5_1 rfl rfl rfl rfl; have hSeqw5_1 := (And.intro (hGeqw5_1.cell cba1 (by simp)) (And.intro (hGeqw5_1.cell cbb1 (by simp)) (And.intro (hGeqw5_1.cell cbx1 (by simp)) (hGeqw5_1.cell cby1 (by simp))))); clear geqw5_1)
        | (go_at_call 19; (with_reducible refine (rCmp_any eqw5_1 _ _ _ _ (nx1.kept hGeqw5_1) (ny1.kept hGeqw5_1) (toD la (by omega)) (toD lb (by omega))).mono ?_); rintro e eqw5_2 ⟨rfl, geqw5_2⟩; rw [cmpInt_eq h0]; have hGeqw5_2 := grown_trans hGeqw5_1 geqw5_2; have hSeqw5_2 := (And.intro (hGeqw5_2.cell cba1 (by simp)) (And.intro (hGeqw5_2.cell cbb1 (by simp)) (And.intro (hGeqw5_2.cell cbx1 (by simp)) (hGeqw5_2.cell cby1 (by simp))))); clear geqw5_2; clear hGeqw5_1 hSeqw5_1)
        | (go_at_call 30; (with_reducible refine (Add_any eqw5_2 _ _ _ _ 11 (na1.kept hGeqw5_2) (nb1.kept hGeqw5_2) (by omega) (bw la (by omega)) (bw lb (by omega))).mono ?_); rintro e eqw5_3 ⟨vz3_, rfl, z3_, geqw5_3⟩; have hGeqw5_3 := grown_trans hGeqw5_2 geqw5_3; have hSeqw5_3 := (And.intro (hGeqw5_3.cell cba1 (by simp)) (And.intro (hGeqw5_3.cell cbb1 (by simp)) (And.intro (hGeqw5_3.cell cbx1 (by simp)) (hGeqw5_3.cell cby1 (by simp))))); clear geqw5_3; clear hGeqw5_2 hSeqw5_2)
        | (go_at_call 31; (with_reducible refine (rAdd_any eqw5_3 _ _ _ _ (nx1.kept hGeqw5_3) (ny1.kept hGeqw5_3) (toD la (by omega)) (toD lb (by omega))).mono ?_); rintro e eqw5_4 ⟨_, rfl, nr, geqw5_4⟩; have hGeqw5_4 := grown_trans hGeqw5_3 geqw5_4; replace z3_ := z3_.kept geqw5_4; have hSeqw5_4 := (And.intro (hGeqw5_4.cell cba1 (by simp)) (And.intro (hGeqw5_4.cell cbb1 (by simp)) (And.intro (hGeqw5_4.cell cbx1 (by simp)) (hGeqw5_4.cell cby1 (by simp))))); clear geqw5_4; clear hGeqw5_3 hSeqw5_3)
        | (go_at_call 21; (with_reducible refine (same_any eqw5_4 _ _ _ 12 z3_ nr (by omega) (badd la lb) (toD (badd la lb) (by omega))).mono ?_); rintro e eqw5_5 ⟨rfl, geqw5_5⟩; have hGeqw5_5 := grown_trans hGeqw5_4 geqw5_5; replace z3_ := z3_.kept geqw5_5; replace nr := nr.kept geqw5_5; have hSeqw5_5 := (And.intro (hGeqw5_5.cell cba1 (by simp)) (And.intro (hGeqw5_5.cell cbb1 (by simp)) (And.intro (hGeqw5_5.cell cbx1 (by simp)) (hGeqw5_5.cell cby1 (by simp))))); clear geqw5_5; clear hGeqw5_4 hSeqw5_4))
    replace ba1 := heap_kept hGeqw5_5 ba1
    replace bb1 := heap_kept hGeqw5_5 bb1
    replace bx1 := heap_kept hGeqw5_5 bx1
    replace by1 := heap_kept hGeqw5_5 by1
    replace bd := heap_kept hGeqw5_5 bd
    replace na1 := na1.kept hGeqw5_5
    replace nb1 := nb1.kept hGeqw5_5
    replace nx1 := nx1.kept hGeqw5_5
    replace ny1 := ny1.kept hGeqw5_5
    replace nd := nd.kept hGeqw5_5
    replace hT := hT.kept hGeqw5_5 (by simp)
    replace hG := grown_trans hG hGeqw5_5
    clear cba1 fba1 cbb1 fbb1 cbx1 fbx1 cby1 fby1 cbd fbd
    obtain ⟨cba1, fba1⟩ := box_cell ba1
    obtain ⟨cbb1, fbb1⟩ := box_cell bb1
    obtain ⟨cbx1, fbx1⟩ := box_cell bx1
    obtain ⟨cby1, fby1⟩ := box_cell by1
    obtain ⟨cbd, fbd⟩ := box_cell bd
    go_wp2_with fail
    clear cba1 fba1 cbb1 fbb1 cbx1 fbx1 cby1 fby1 cbd fbd
    refine (rCmp_any eqw5_5 _ _ _ _ nx1 ny1 (toD la (by omega)) (toD lb (by omega))).mono ?_
    rintro e eqw6 ⟨rfl, geqw6⟩
    rw [cmpInt_eq h0]
    replace ba1 := heap_kept geqw6 ba1
    replace bb1 := heap_kept geqw6 bb1
    replace bx1 := heap_kept geqw6 bx1
    replace by1 := heap_kept geqw6 by1
    replace bd := heap_kept geqw6 bd
    replace na1 := na1.kept geqw6
    replace nb1 := nb1.kept geqw6
    replace nx1 := nx1.kept geqw6
    replace ny1 := ny1.kept geqw6
    replace nd := nd.kept geqw6
    replace hT := hT.kept geqw6 (by simp)
    replace hG := grown_trans hG geqw6
    clear geqw6
    obtain ⟨cba1, fba1⟩ := box_cell ba1
    obtain ⟨cbb1, fbb1⟩ := box_cell bb1
    obtain ⟨cbx1, fbx1⟩ := box_cell bx1
    obtain ⟨cby1, fby1⟩ := box_cell by1
    obtain ⟨cbd, fbd⟩ := box_cell bd
    go_wp2_with fail
    go_region_held3 (fun w' => w'.cell? ⟨aueqw3, 0, none⟩ = some (.slice sd xd.length xd.length) ∧ w'.cell? ⟨at1 + 1 + 1, 0, none⟩ = some (.slice sx1 lx1 cx1) ∧ w'.cell? ⟨at1 + 1 + 1 + 1, 0, none⟩ = some (.slice sy1 ly1 cy1))
      (first | assumption | exact ⟨cbd, cbx1, cby1⟩ | go_keep)
      (first
        | (go_at_call 32; (with_reducible refine (rLess_any eqw6.drew _ _ _ _ (nx1.kept (grown_drew (grown_refl _ _))) (ny1.kept (grown_drew (grown_refl _ _))) (by omega) (toD la (by omega))).mono ?_); rintro e eqw7_1 ⟨_, rfl, nr, geqw7_1⟩; have hGeqw7_1 := grown_pre eqw6 geqw7_1 rfl rfl rfl rfl; have hSeqw7_1 := (And.intro (hGeqw7_1.cell cbd (by simp)) (And.intro (hGeqw7_1.cell cbx1 (by simp)) (hGeqw7_1.cell cby1 (by simp)))); clear geqw7_1)
        | (go_at_call 21; (with_reducible refine (same_any eqw7_1 _ _ _ 11 (nd.kept hGeqw7_1) nr (by omega) (Nat.lt_of_le_of_lt (Nat.sub_le A Bn) la) (toD (Nat.lt_of_le_of_lt (Nat.sub_le A Bn) la) (by omega))).mono ?_); rintro e eqw7_2 ⟨rfl, geqw7_2⟩; have hGeqw7_2 := grown_trans hGeqw7_1 geqw7_2; replace nr := nr.kept geqw7_2; have hSeqw7_2 := (And.intro (hGeqw7_2.cell cbd (by simp)) (And.intro (hGeqw7_2.cell cbx1 (by simp)) (hGeqw7_2.cell cby1 (by simp)))); clear geqw7_2; clear hGeqw7_1 hSeqw7_1))
    replace ba1 := heap_kept hGeqw7_2 ba1
    replace bb1 := heap_kept hGeqw7_2 bb1
    replace bx1 := heap_kept hGeqw7_2 bx1
    replace by1 := heap_kept hGeqw7_2 by1
    replace bd := heap_kept hGeqw7_2 bd
    replace na1 := na1.kept hGeqw7_2
    replace nb1 := nb1.kept hGeqw7_2
    replace nx1 := nx1.kept hGeqw7_2
    replace ny1 := ny1.kept hGeqw7_2
    replace nd := nd.kept hGeqw7_2
    replace hT := hT.kept hGeqw7_2 (by simp)
    replace hG := grown_trans hG hGeqw7_2
    clear cba1 fba1 cbb1 fbb1 cbx1 fbx1 cby1 fby1 cbd fbd
    obtain ⟨cba1, fba1⟩ := box_cell ba1
    obtain ⟨cbb1, fbb1⟩ := box_cell bb1
    obtain ⟨cbx1, fbx1⟩ := box_cell bx1
    obtain ⟨cby1, fby1⟩ := box_cell by1
    obtain ⟨cbd, fbd⟩ := box_cell bd
    go_wp2_with fail
    go_ret
    exact ⟨rfl, hG⟩
  · skip
    clear cba1 fba1 cbb1 fbb1 cbx1 fbx1 cby1 fby1
    refine (Sub_some w2 _ _ _ _ 11 na1 nb1 (by omega) la (by omega)).mono ?_
    rintro e ugtw3 ⟨_, rfl, ⟨sd, xd, rfl, hd, vd⟩, gugtw3⟩
    have nd : NatV ugtw3 (.agg #[.slice sd xd.length xd.length]) (A - Bn) := ⟨_, _, rfl, hd, vd⟩
    replace ba1 := heap_kept gugtw3 ba1
    replace bb1 := heap_kept gugtw3 bb1
    replace bx1 := heap_kept gugtw3 bx1
    replace by1 := heap_kept gugtw3 by1
    replace na1 := na1.kept gugtw3
    replace nb1 := nb1.kept gugtw3
    replace nx1 := nx1.kept gugtw3
    replace ny1 := ny1.kept gugtw3
    replace hT := hT.kept gugtw3 (by simp)
    replace hG := grown_trans hG gugtw3
    clear gugtw3 hd vd
    have bd := (heap_new ugtw3 (.cells #[.slice sd xd.length xd.length] 24) (ugtw3.heap.size) rfl)
    have gbugtw3 := (World.grownBy_alloc ugtw3 (.cells #[.slice sd xd.length xd.length] 24) none)
    replace ba1 := heap_kept gbugtw3 ba1
    replace bb1 := heap_kept gbugtw3 bb1
    replace bx1 := heap_kept gbugtw3 bx1
    replace by1 := heap_kept gbugtw3 by1
    replace na1 := na1.kept gbugtw3
    replace nb1 := nb1.kept gbugtw3
    replace nx1 := nx1.kept gbugtw3
    replace ny1 := ny1.kept gbugtw3
    replace nd := nd.kept gbugtw3
    replace hT := hT.kept gbugtw3 (by simp)
    replace hG := grown_trans hG gbugtw3
    clear gbugtw3
    obtain ⟨cba1, fba1⟩ := box_cell ba1
    obtain ⟨cbb1, fbb1⟩ := box_cell bb1
    obtain ⟨cbx1, fbx1⟩ := box_cell bx1
    obtain ⟨cby1, fby1⟩ := box_cell by1
    obtain ⟨cbd, fbd⟩ := box_cell bd
    go_wp2_with fail
    generalize (ugtw3.alloc (.cells #[.slice sd xd.length xd.length] 24)) = gtw4 at *
    generalize ugtw3.heap.size = augtw3 at *
    go_region_held3 (fun w' => w'.cell? ⟨at1, 0, none⟩ = some (.slice sa1 xa1.length xa1.length) ∧ w'.cell? ⟨at1 + 1, 0, none⟩ = some (.slice sb1 xb1.length xb1.length) ∧ w'.cell? ⟨at1 + 1 + 1, 0, none⟩ = some (.slice sx1 lx1 cx1) ∧ w'.cell? ⟨at1 + 1 + 1 + 1, 0, none⟩ = some (.slice sy1 ly1 cy1))
      (first | assumption | exact ⟨cba1, cbb1, cbx1, cby1⟩ | go_keep)
      (first
        | (go_at_call 26; (with_reducible refine (Cmp_any gtw4.drew _ _ _ _ 11 (na1.kept (grown_drew (grown_refl _ _))) (nb1.kept (grown_drew (grown_refl _ _))) (by omega) la lb).mono ?_); rintro e gtw5_1 ⟨rfl, ggtw5_1⟩; rw [cmpInt_gt h0]; have hGgtw5_1 := grown_pre gtw4 ggtw5_1 rfl rfl rfl rfl; have hSgtw5_1 := (And.intro (hGgtw5_1.cell cba1 (by simp)) (And.intro (hGgtw5_1.cell cbb1 (by simp)) (And.intro (hGgtw5_1.cell cbx1 (by simp)) (hGgtw5_1.cell cby1 (by simp))))); clear ggtw5_1)
        | (go_at_call 19; (with_reducible refine (rCmp_any gtw5_1 _ _ _ _ (nx1.kept hGgtw5_1) (ny1.kept hGgtw5_1) (toD la (by omega)) (toD lb (by omega))).mono ?_); rintro e gtw5_2 ⟨rfl, ggtw5_2⟩; rw [cmpInt_gt h0]; have hGgtw5_2 := grown_trans hGgtw5_1 ggtw5_2; have hSgtw5_2 := (And.intro (hGgtw5_2.cell cba1 (by simp)) (And.intro (hGgtw5_2.cell cbb1 (by simp)) (And.intro (hGgtw5_2.cell cbx1 (by simp)) (hGgtw5_2.cell cby1 (by simp))))); clear ggtw5_2; clear hGgtw5_1 hSgtw5_1)
        | (go_at_call 30; (with_reducible refine (Add_any gtw5_2 _ _ _ _ 11 (na1.kept hGgtw5_2) (nb1.kept hGgtw5_2) (by omega) (bw la (by omega)) (bw lb (by omega))).mono ?_); rintro e gtw5_3 ⟨vz4_, rfl, z4_, ggtw5_3⟩; have hGgtw5_3 := grown_trans hGgtw5_2 ggtw5_3; have hSgtw5_3 := (And.intro (hGgtw5_3.cell cba1 (by simp)) (And.intro (hGgtw5_3.cell cbb1 (by simp)) (And.intro (hGgtw5_3.cell cbx1 (by simp)) (hGgtw5_3.cell cby1 (by simp))))); clear ggtw5_3; clear hGgtw5_2 hSgtw5_2)
        | (go_at_call 31; (with_reducible refine (rAdd_any gtw5_3 _ _ _ _ (nx1.kept hGgtw5_3) (ny1.kept hGgtw5_3) (toD la (by omega)) (toD lb (by omega))).mono ?_); rintro e gtw5_4 ⟨_, rfl, nr, ggtw5_4⟩; have hGgtw5_4 := grown_trans hGgtw5_3 ggtw5_4; replace z4_ := z4_.kept ggtw5_4; have hSgtw5_4 := (And.intro (hGgtw5_4.cell cba1 (by simp)) (And.intro (hGgtw5_4.cell cbb1 (by simp)) (And.intro (hGgtw5_4.cell cbx1 (by simp)) (hGgtw5_4.cell cby1 (by simp))))); clear ggtw5_4; clear hGgtw5_3 hSgtw5_3)
        | (go_at_call 21; (with_reducible refine (same_any gtw5_4 _ _ _ 12 z4_ nr (by omega) (badd la lb) (toD (badd la lb) (by omega))).mono ?_); rintro e gtw5_5 ⟨rfl, ggtw5_5⟩; have hGgtw5_5 := grown_trans hGgtw5_4 ggtw5_5; replace z4_ := z4_.kept ggtw5_5; replace nr := nr.kept ggtw5_5; have hSgtw5_5 := (And.intro (hGgtw5_5.cell cba1 (by simp)) (And.intro (hGgtw5_5.cell cbb1 (by simp)) (And.intro (hGgtw5_5.cell cbx1 (by simp)) (hGgtw5_5.cell cby1 (by simp))))); clear ggtw5_5; clear hGgtw5_4 hSgtw5_4))
    replace ba1 := heap_kept hGgtw5_5 ba1
    replace bb1 := heap_kept hGgtw5_5 bb1
    replace bx1 := heap_kept hGgtw5_5 bx1
    replace by1 := heap_kept hGgtw5_5 by1
    replace bd := heap_kept hGgtw5_5 bd
    replace na1 := na1.kept hGgtw5_5
    replace nb1 := nb1.kept hGgtw5_5
    replace nx1 := nx1.kept hGgtw5_5
    replace ny1 := ny1.kept hGgtw5_5
    replace nd := nd.kept hGgtw5_5
    replace hT := hT.kept hGgtw5_5 (by simp)
    replace hG := grown_trans hG hGgtw5_5
    clear cba1 fba1 cbb1 fbb1 cbx1 fbx1 cby1 fby1 cbd fbd
    obtain ⟨cba1, fba1⟩ := box_cell ba1
    obtain ⟨cbb1, fbb1⟩ := box_cell bb1
    obtain ⟨cbx1, fbx1⟩ := box_cell bx1
    obtain ⟨cby1, fby1⟩ := box_cell by1
    obtain ⟨cbd, fbd⟩ := box_cell bd
    go_wp2_with fail
    clear cba1 fba1 cbb1 fbb1 cbx1 fbx1 cby1 fby1 cbd fbd
    refine (rCmp_any gtw5_5 _ _ _ _ nx1 ny1 (toD la (by omega)) (toD lb (by omega))).mono ?_
    rintro e gtw6 ⟨rfl, ggtw6⟩
    rw [cmpInt_gt h0]
    replace ba1 := heap_kept ggtw6 ba1
    replace bb1 := heap_kept ggtw6 bb1
    replace bx1 := heap_kept ggtw6 bx1
    replace by1 := heap_kept ggtw6 by1
    replace bd := heap_kept ggtw6 bd
    replace na1 := na1.kept ggtw6
    replace nb1 := nb1.kept ggtw6
    replace nx1 := nx1.kept ggtw6
    replace ny1 := ny1.kept ggtw6
    replace nd := nd.kept ggtw6
    replace hT := hT.kept ggtw6 (by simp)
    replace hG := grown_trans hG ggtw6
    clear ggtw6
    obtain ⟨cba1, fba1⟩ := box_cell ba1
    obtain ⟨cbb1, fbb1⟩ := box_cell bb1
    obtain ⟨cbx1, fbx1⟩ := box_cell bx1
    obtain ⟨cby1, fby1⟩ := box_cell by1
    obtain ⟨cbd, fbd⟩ := box_cell bd
    go_wp2_with fail
    go_region_held3 (fun w' => w'.cell? ⟨augtw3, 0, none⟩ = some (.slice sd xd.length xd.length) ∧ w'.cell? ⟨at1 + 1 + 1, 0, none⟩ = some (.slice sx1 lx1 cx1) ∧ w'.cell? ⟨at1 + 1 + 1 + 1, 0, none⟩ = some (.slice sy1 ly1 cy1))
      (first | assumption | exact ⟨cbd, cbx1, cby1⟩ | go_keep)
      (first
        | (go_at_call 32; (with_reducible refine (rLess_any gtw6.drew _ _ _ _ (nx1.kept (grown_drew (grown_refl _ _))) (ny1.kept (grown_drew (grown_refl _ _))) (by omega) (toD la (by omega))).mono ?_); rintro e gtw7_1 ⟨_, rfl, nr, ggtw7_1⟩; have hGgtw7_1 := grown_pre gtw6 ggtw7_1 rfl rfl rfl rfl; have hSgtw7_1 := (And.intro (hGgtw7_1.cell cbd (by simp)) (And.intro (hGgtw7_1.cell cbx1 (by simp)) (hGgtw7_1.cell cby1 (by simp)))); clear ggtw7_1)
        | (go_at_call 21; (with_reducible refine (same_any gtw7_1 _ _ _ 11 (nd.kept hGgtw7_1) nr (by omega) (Nat.lt_of_le_of_lt (Nat.sub_le A Bn) la) (toD (Nat.lt_of_le_of_lt (Nat.sub_le A Bn) la) (by omega))).mono ?_); rintro e gtw7_2 ⟨rfl, ggtw7_2⟩; have hGgtw7_2 := grown_trans hGgtw7_1 ggtw7_2; replace nr := nr.kept ggtw7_2; have hSgtw7_2 := (And.intro (hGgtw7_2.cell cbd (by simp)) (And.intro (hGgtw7_2.cell cbx1 (by simp)) (hGgtw7_2.cell cby1 (by simp)))); clear ggtw7_2; clear hGgtw7_1 hSgtw7_1))
    replace ba1 := heap_kept hGgtw7_2 ba1
    replace bb1 := heap_kept hGgtw7_2 bb1
    replace bx1 := heap_kept hGgtw7_2 bx1
    replace by1 := heap_kept hGgtw7_2 by1
    replace bd := heap_kept hGgtw7_2 bd
    replace na1 := na1.kept hGgtw7_2
    replace nb1 := nb1.kept hGgtw7_2
    replace nx1 := nx1.kept hGgtw7_2
    replace ny1 := ny1.kept hGgtw7_2
    replace nd := nd.kept hGgtw7_2
    replace hT := hT.kept hGgtw7_2 (by simp)
    replace hG := grown_trans hG hGgtw7_2
    clear cba1 fba1 cbb1 fbb1 cbx1 fbx1 cby1 fby1 cbd fbd
    obtain ⟨cba1, fba1⟩ := box_cell ba1
    obtain ⟨cbb1, fbb1⟩ := box_cell bb1
    obtain ⟨cbx1, fbx1⟩ := box_cell bx1
    obtain ⟨cby1, fby1⟩ := box_cell by1
    obtain ⟨cbd, fbd⟩ := box_cell bd
    go_wp2_with fail
    go_ret
    exact ⟨rfl, hG⟩
end Go.Proofs.YtooeonjkpgbdpaaDoor
