/- NatShifts: a number times, and divided by, a power of two is the document's. -/
import Derived.Test.YtooeonjkpgbdpaaDoorKit3
import Derived.Deep.RegionHeld3
namespace Go.Proofs.YtooeonjkpgbdpaaDoor
open Go.RowKit Mat
set_option maxRecDepth 100000
set_option linter.unusedVariables false
set_option linter.unusedSimpArgs false

theorem shift_bd {A n : Nat} (h : A < B ^ 11) (hn : n ≤ 65536) : A * 2 ^ n < B ^ 1035 := by
  obtain ⟨E, hE⟩ : ∃ E, E = 1024 := ⟨_, rfl⟩
  obtain ⟨F, hF⟩ : ∃ F, F = 1035 := ⟨_, rfl⟩
  rw [← hF]
  have hB : B = 2 ^ 64 := by decide
  have h1 : B ^ E = 2 ^ (64 * E) := by rw [hB, ← Nat.pow_mul]
  have h2 : 2 ^ n ≤ B ^ E := by rw [h1]; exact Nat.pow_le_pow_right (by omega) (by omega)
  have h3 : B ^ F = B ^ 11 * B ^ E := by rw [← Nat.pow_add]; congr 1; omega
  rw [h3]
  exact Nat.lt_of_le_of_lt (Nat.mul_le_mul_left _ h2) (Nat.mul_lt_mul_of_pos_right h (Nat.pow_pos B_pos))
theorem two_bd4 {n : Nat} (h : n ≤ 2000) : 2 ^ n < D ^ 400000 := by
  obtain ⟨E, hE⟩ : ∃ E, E = 400000 := ⟨_, rfl⟩
  rw [← hE]
  have h1 : 2 ^ n ≤ D ^ n := Nat.pow_le_pow_left (by decide) n
  have h2 : D ^ n < D ^ E := Nat.pow_lt_pow_right (by decide) (by omega)
  omega
theorem d4_to {x : Nat} (h : x < D ^ 400000) : x < D ^ 1000000 := by
  obtain ⟨E, hE⟩ : ∃ E, E = 400000 := ⟨_, rfl⟩
  obtain ⟨F, hF⟩ : ∃ F, F = 1000000 := ⟨_, rfl⟩
  rw [← hE] at h
  rw [← hF]
  exact Nat.lt_of_lt_of_le h (Nat.pow_le_pow_right D_pos (by omega))
theorem shift_none {A n : Nat} (h : A < B ^ 11) (hn : 2000 < n) : A / 2 ^ n = 0 := by
  refine Nat.div_eq_of_lt (Nat.lt_of_lt_of_le h ?_)
  obtain ⟨E, hE⟩ : ∃ E, E = 11 := ⟨_, rfl⟩
  rw [← hE]
  have hB : B = 2 ^ 64 := by decide
  have h1 : B ^ E = 2 ^ (64 * E) := by rw [hB, ← Nat.pow_mul]
  rw [h1]
  exact Nat.pow_le_pow_right (by omega) (by omega)

set_option maxHeartbeats 8000000 in
theorem natShifts_walk (w : World) (s : ByteArray) (k : Int) (hT : Tab w) :
    Calls Tryd.prog 8 #[.string s, .int .i64 k] w (fun e w' => e = .returned (.bool true) ∧ w.grownBy w' none) := by
  have hG : w.grownBy w none := grown_refl _ _
  have la := num_bd s
  go_enter Tryd.func8, Tryd.ntmps8
  go_wp2_with fail
  refine (two_any w s { data := #[48] }).mono ?_
  rintro e t1 ⟨_, _, _, _, rfl, ⟨sa1, xa1, rfl, ha1, va1⟩, ⟨sb1, xb1, rfl, hb1, vb1⟩, ⟨sx1, lx1, cx1, xx1, rfl, hx1⟩, ⟨sy1, ly1, cy1, xy1, rfl, hy1⟩, g1⟩
  have na1 : NatV t1 (.agg #[.slice sa1 xa1.length xa1.length]) (num (fewB s 200)) := ⟨_, _, rfl, ha1, va1⟩
  have nb1 : NatV t1 (.agg #[.slice sb1 xb1.length xb1.length]) (num (fewB { data := #[48] } 200)) := ⟨_, _, rfl, hb1, vb1⟩
  have nx1 : RefV t1 (.agg #[.slice sx1 lx1 cx1]) (num (fewB s 200)) := ⟨_, _, _, _, rfl, hx1⟩
  have ny1 : RefV t1 (.agg #[.slice sy1 ly1 cy1]) (num (fewB { data := #[48] } 200)) := ⟨_, _, _, _, rfl, hy1⟩
  replace hT := hT.kept g1 (by simp)
  replace hG := grown_trans hG g1
  clear ha1 va1 hb1 vb1 hx1 hy1 g1
  have ba1 := heap_kept (grown_alloc (grown_alloc (World.grownBy_alloc (t1.alloc (.cells #[.slice sa1 xa1.length xa1.length] 24)) (.cells #[.slice sb1 xb1.length xb1.length] 24) none) (.cells #[.slice sx1 lx1 cx1] 30)) (.cells #[.slice sy1 ly1 cy1] 30)) (heap_new t1 (.cells #[.slice sa1 xa1.length xa1.length] 24) (t1.heap.size) rfl)
  have bb1 := heap_kept (grown_alloc (World.grownBy_alloc ((t1.alloc (.cells #[.slice sa1 xa1.length xa1.length] 24)).alloc (.cells #[.slice sb1 xb1.length xb1.length] 24)) (.cells #[.slice sx1 lx1 cx1] 30) none) (.cells #[.slice sy1 ly1 cy1] 30)) (heap_new (t1.alloc (.cells #[.slice sa1 xa1.length xa1.length] 24)) (.cells #[.slice sb1 xb1.length xb1.length] 24) (t1.heap.size + 1) (by simp))
  have bx1 := heap_kept (World.grownBy_alloc (((t1.alloc (.cells #[.slice sa1 xa1.length xa1.length] 24)).alloc (.cells #[.slice sb1 xb1.length xb1.length] 24)).alloc (.cells #[.slice sx1 lx1 cx1] 30)) (.cells #[.slice sy1 ly1 cy1] 30) none) (heap_new ((t1.alloc (.cells #[.slice sa1 xa1.length xa1.length] 24)).alloc (.cells #[.slice sb1 xb1.length xb1.length] 24)) (.cells #[.slice sx1 lx1 cx1] 30) (t1.heap.size + 1 + 1) (by simp))
  have by1 := (heap_new (((t1.alloc (.cells #[.slice sa1 xa1.length xa1.length] 24)).alloc (.cells #[.slice sb1 xb1.length xb1.length] 24)).alloc (.cells #[.slice sx1 lx1 cx1] 30)) (.cells #[.slice sy1 ly1 cy1] 30) (t1.heap.size + 1 + 1 + 1) (by simp))
  have gbt1 := (grown_alloc (grown_alloc (grown_alloc (World.grownBy_alloc t1 (.cells #[.slice sa1 xa1.length xa1.length] 24) none) (.cells #[.slice sb1 xb1.length xb1.length] 24)) (.cells #[.slice sx1 lx1 cx1] 30)) (.cells #[.slice sy1 ly1 cy1] 30))
  replace na1 := na1.kept gbt1
  replace nb1 := nb1.kept gbt1
  replace nx1 := nx1.kept gbt1
  replace ny1 := ny1.kept gbt1
  replace hT := hT.kept gbt1 (by simp)
  replace hG := grown_trans hG gbt1
  clear gbt1
  obtain ⟨cba1, fba1⟩ := box_cell ba1
  obtain ⟨cbb1, fbb1⟩ := box_cell bb1
  obtain ⟨cbx1, fbx1⟩ := box_cell bx1
  obtain ⟨cby1, fby1⟩ := box_cell by1
  go_wp2_with fail
  generalize ((((t1.alloc (.cells #[.slice sa1 xa1.length xa1.length] 24)).alloc (.cells #[.slice sb1 xb1.length xb1.length] 24)).alloc (.cells #[.slice sx1 lx1 cx1] 30)).alloc (.cells #[.slice sy1 ly1 cy1] 30)) = w1 at *
  generalize t1.heap.size = at1 at *
  generalize (fine (fewB s 200) && fine (fewB { data := #[48] } 200)) = o1 at *
  generalize num (fewB s 200) = A at *
  generalize num (fewB { data := #[48] } 200) = Bn at *
  clear nb1 ny1
  by_cases hk : k < 0 ∨ 65536 < k
  · skip
    clear cba1 fba1 cbb1 fbb1 cbx1 fbx1 cby1 fby1
    refine (Up_bad w1 _ _ na1 k hk).mono ?_
    rintro e ubw2 ⟨_, rfl, ⟨su, xu, rfl, hu, vu⟩, gubw2⟩
    have nu : NatV ubw2 (.agg #[.slice su xu.length xu.length]) (0) := ⟨_, _, rfl, hu, vu⟩
    replace ba1 := heap_kept gubw2 ba1
    replace bb1 := heap_kept gubw2 bb1
    replace bx1 := heap_kept gubw2 bx1
    replace by1 := heap_kept gubw2 by1
    replace na1 := na1.kept gubw2
    replace nx1 := nx1.kept gubw2
    replace hT := hT.kept gubw2 (by simp)
    replace hG := grown_trans hG gubw2
    clear gubw2 hu vu
    have bu := (heap_new ubw2 (.cells #[.slice su xu.length xu.length] 24) (ubw2.heap.size) rfl)
    have gbubw2 := (World.grownBy_alloc ubw2 (.cells #[.slice su xu.length xu.length] 24) none)
    replace ba1 := heap_kept gbubw2 ba1
    replace bb1 := heap_kept gbubw2 bb1
    replace bx1 := heap_kept gbubw2 bx1
    replace by1 := heap_kept gbubw2 by1
    replace na1 := na1.kept gbubw2
    replace nx1 := nx1.kept gbubw2
    replace nu := nu.kept gbubw2
    replace hT := hT.kept gbubw2 (by simp)
    replace hG := grown_trans hG gbubw2
    clear gbubw2
    obtain ⟨cba1, fba1⟩ := box_cell ba1
    obtain ⟨cbb1, fbb1⟩ := box_cell bb1
    obtain ⟨cbx1, fbx1⟩ := box_cell bx1
    obtain ⟨cby1, fby1⟩ := box_cell by1
    obtain ⟨cbu, fbu⟩ := box_cell bu
    go_wp2_with fail
    generalize (ubw2.alloc (.cells #[.slice su xu.length xu.length] 24)) = bw3 at *
    generalize ubw2.heap.size = aubw2 at *
    clear cba1 fba1 cbb1 fbb1 cbx1 fbx1 cby1 fby1 cbu fbu
    refine (Down_bad bw3 _ _ na1 k hk).mono ?_
    rintro e ubw4 ⟨_, rfl, ⟨sv, xv, rfl, hv, vv⟩, gubw4⟩
    have nv : NatV ubw4 (.agg #[.slice sv xv.length xv.length]) (0) := ⟨_, _, rfl, hv, vv⟩
    replace ba1 := heap_kept gubw4 ba1
    replace bb1 := heap_kept gubw4 bb1
    replace bx1 := heap_kept gubw4 bx1
    replace by1 := heap_kept gubw4 by1
    replace bu := heap_kept gubw4 bu
    replace na1 := na1.kept gubw4
    replace nx1 := nx1.kept gubw4
    replace nu := nu.kept gubw4
    replace hT := hT.kept gubw4 (by simp)
    replace hG := grown_trans hG gubw4
    clear gubw4 hv vv
    have bv := (heap_new ubw4 (.cells #[.slice sv xv.length xv.length] 24) (ubw4.heap.size) rfl)
    have gbubw4 := (World.grownBy_alloc ubw4 (.cells #[.slice sv xv.length xv.length] 24) none)
    replace ba1 := heap_kept gbubw4 ba1
    replace bb1 := heap_kept gbubw4 bb1
    replace bx1 := heap_kept gbubw4 bx1
    replace by1 := heap_kept gbubw4 by1
    replace bu := heap_kept gbubw4 bu
    replace na1 := na1.kept gbubw4
    replace nx1 := nx1.kept gbubw4
    replace nu := nu.kept gbubw4
    replace nv := nv.kept gbubw4
    replace hT := hT.kept gbubw4 (by simp)
    replace hG := grown_trans hG gbubw4
    clear gbubw4
    obtain ⟨cba1, fba1⟩ := box_cell ba1
    obtain ⟨cbb1, fbb1⟩ := box_cell bb1
    obtain ⟨cbx1, fbx1⟩ := box_cell bx1
    obtain ⟨cby1, fby1⟩ := box_cell by1
    obtain ⟨cbu, fbu⟩ := box_cell bu
    obtain ⟨cbv, fbv⟩ := box_cell bv
    go_wp2_with fail
    generalize (ubw4.alloc (.cells #[.slice sv xv.length xv.length] 24)) = bw5 at *
    generalize ubw4.heap.size = aubw4 at *
    cases o1
    · skip
      clear cba1 fba1 cbb1 fbb1 cbx1 fbx1 cby1 fby1 cbu fbu cbv fbv
      refine (known_any bw5 hT).mono ?_
      rintro e bw6 ⟨rfl, gbw6⟩
      replace hT := hT.kept gbw6 (by simp)
      replace hG := grown_trans hG gbw6
      clear gbw6
      go_wp2_with fail
      refine (known_any bw6 hT).mono ?_
      rintro e bw7 ⟨rfl, gbw7⟩
      replace hT := hT.kept gbw7 (by simp)
      replace hG := grown_trans hG gbw7
      clear gbw7
      go_wp2_with fail
      refine (odd_any bw7 s { data := #[48] }).mono ?_
      rintro e bw8 ⟨rfl, gbw8⟩
      replace hT := hT.kept gbw8 (by simp)
      replace hG := grown_trans hG gbw8
      clear gbw8
      go_wp2_with fail
      go_ret
      exact ⟨rfl, hG⟩
    have key : decide (k < 0) = true ∨ (decide (k < 0) = false ∧ decide ((65536 : Int) < k) = true) := by
      by_cases h : k < 0
      · left; exact decide_eq_true h
      · right; exact ⟨decide_eq_false h, decide_eq_true (by omega)⟩
    rcases key with f1 | ⟨f1, f2⟩
    all_goals (
      clear cba1 fba1 cbb1 fbb1 cbx1 fbx1 cby1 fby1 cbu fbu cbv fbv
      refine (known_any bw5 hT).mono ?_
      rintro e bw6 ⟨rfl, gbw6⟩
      replace ba1 := heap_kept gbw6 ba1
      replace bb1 := heap_kept gbw6 bb1
      replace bx1 := heap_kept gbw6 bx1
      replace by1 := heap_kept gbw6 by1
      replace bu := heap_kept gbw6 bu
      replace bv := heap_kept gbw6 bv
      replace na1 := na1.kept gbw6
      replace nx1 := nx1.kept gbw6
      replace nu := nu.kept gbw6
      replace nv := nv.kept gbw6
      replace hT := hT.kept gbw6 (by simp)
      replace hG := grown_trans hG gbw6
      clear gbw6
      obtain ⟨cba1, fba1⟩ := box_cell ba1
      obtain ⟨cbb1, fbb1⟩ := box_cell bb1
      obtain ⟨cbx1, fbx1⟩ := box_cell bx1
      obtain ⟨cby1, fby1⟩ := box_cell by1
      obtain ⟨cbu, fbu⟩ := box_cell bu
      obtain ⟨cbv, fbv⟩ := box_cell bv
      go_wp2_with fail
      clear cba1 fba1 cbb1 fbb1 cbx1 fbx1 cby1 fby1 cbu fbu cbv fbv
      refine (Text_any bw6 _ _ 1 nu (by omega) (by decide)).mono ?_
      rintro e bw7 ⟨znu, rfl, dznu, vznu, gbw7⟩
      obtain rfl : znu = { data := #[48] } := dec_uniq dznu (dec_of (by decide +kernel)) (vznu.trans (by decide +kernel))
      replace ba1 := heap_kept gbw7 ba1
      replace bb1 := heap_kept gbw7 bb1
      replace bx1 := heap_kept gbw7 bx1
      replace by1 := heap_kept gbw7 by1
      replace bu := heap_kept gbw7 bu
      replace bv := heap_kept gbw7 bv
      replace na1 := na1.kept gbw7
      replace nx1 := nx1.kept gbw7
      replace nu := nu.kept gbw7
      replace nv := nv.kept gbw7
      replace hT := hT.kept gbw7 (by simp)
      replace hG := grown_trans hG gbw7
      clear gbw7
      obtain ⟨cba1, fba1⟩ := box_cell ba1
      obtain ⟨cbb1, fbb1⟩ := box_cell bb1
      obtain ⟨cbx1, fbx1⟩ := box_cell bx1
      obtain ⟨cby1, fby1⟩ := box_cell by1
      obtain ⟨cbu, fbu⟩ := box_cell bu
      obtain ⟨cbv, fbv⟩ := box_cell bv
      go_wp2_with fail
      clear cba1 fba1 cbb1 fbb1 cbx1 fbx1 cby1 fby1 cbu fbu cbv fbv
      refine (Text_any bw7 _ _ 1 nv (by omega) (by decide)).mono ?_
      rintro e bw8 ⟨znv, rfl, dznv, vznv, gbw8⟩
      obtain rfl : znv = { data := #[48] } := dec_uniq dznv (dec_of (by decide +kernel)) (vznv.trans (by decide +kernel))
      replace ba1 := heap_kept gbw8 ba1
      replace bb1 := heap_kept gbw8 bb1
      replace bx1 := heap_kept gbw8 bx1
      replace by1 := heap_kept gbw8 by1
      replace bu := heap_kept gbw8 bu
      replace bv := heap_kept gbw8 bv
      replace na1 := na1.kept gbw8
      replace nx1 := nx1.kept gbw8
      replace nu := nu.kept gbw8
      replace nv := nv.kept gbw8
      replace hT := hT.kept gbw8 (by simp)
      replace hG := grown_trans hG gbw8
      clear gbw8
      obtain ⟨cba1, fba1⟩ := box_cell ba1
      obtain ⟨cbb1, fbb1⟩ := box_cell bb1
      obtain ⟨cbx1, fbx1⟩ := box_cell bx1
      obtain ⟨cby1, fby1⟩ := box_cell by1
      obtain ⟨cbu, fbu⟩ := box_cell bu
      obtain ⟨cbv, fbv⟩ := box_cell bv
      go_wp2_with fail
      go_ret
      exact ⟨rfl, hG⟩)
  obtain ⟨n, rfl⟩ : ∃ n : Nat, k = (n : Int) := ⟨k.toNat, by omega⟩
  have hn : n ≤ 65536 := by omega
  have lu : A * 2 ^ n < B ^ 1035 := shift_bd la hn
  have lv : A / 2 ^ n < B ^ 11 := Nat.lt_of_le_of_lt (Nat.div_le_self _ _) la
  have f1 : decide ((n : Int) < 0) = false := decide_eq_false (by omega)
  have f2 : decide ((65536 : Int) < (n : Int)) = false := decide_eq_false (by omega)
  clear hk
  clear cba1 fba1 cbb1 fbb1 cbx1 fbx1 cby1 fby1
  refine (Up_some w1 _ _ 11 na1 n hn (by omega) la).mono ?_
  rintro e uw2 ⟨_, rfl, ⟨su, xu, rfl, hu, vu⟩, guw2⟩
  have nu : NatV uw2 (.agg #[.slice su xu.length xu.length]) (A * 2 ^ n) := ⟨_, _, rfl, hu, vu⟩
  replace ba1 := heap_kept guw2 ba1
  replace bb1 := heap_kept guw2 bb1
  replace bx1 := heap_kept guw2 bx1
  replace by1 := heap_kept guw2 by1
  replace na1 := na1.kept guw2
  replace nx1 := nx1.kept guw2
  replace hT := hT.kept guw2 (by simp)
  replace hG := grown_trans hG guw2
  clear guw2 hu vu
  have bu := (heap_new uw2 (.cells #[.slice su xu.length xu.length] 24) (uw2.heap.size) rfl)
  have gbuw2 := (World.grownBy_alloc uw2 (.cells #[.slice su xu.length xu.length] 24) none)
  replace ba1 := heap_kept gbuw2 ba1
  replace bb1 := heap_kept gbuw2 bb1
  replace bx1 := heap_kept gbuw2 bx1
  replace by1 := heap_kept gbuw2 by1
  replace na1 := na1.kept gbuw2
  replace nx1 := nx1.kept gbuw2
  replace nu := nu.kept gbuw2
  replace hT := hT.kept gbuw2 (by simp)
  replace hG := grown_trans hG gbuw2
  clear gbuw2
  obtain ⟨cba1, fba1⟩ := box_cell ba1
  obtain ⟨cbb1, fbb1⟩ := box_cell bb1
  obtain ⟨cbx1, fbx1⟩ := box_cell bx1
  obtain ⟨cby1, fby1⟩ := box_cell by1
  obtain ⟨cbu, fbu⟩ := box_cell bu
  go_wp2_with fail
  generalize (uw2.alloc (.cells #[.slice su xu.length xu.length] 24)) = w3 at *
  generalize uw2.heap.size = auw2 at *
  clear cba1 fba1 cbb1 fbb1 cbx1 fbx1 cby1 fby1 cbu fbu
  refine (Down_some w3 _ _ 11 na1 n hn (by omega) la).mono ?_
  rintro e uw4 ⟨_, rfl, ⟨sv, xv, rfl, hv, vv⟩, guw4⟩
  have nv : NatV uw4 (.agg #[.slice sv xv.length xv.length]) (A / 2 ^ n) := ⟨_, _, rfl, hv, vv⟩
  replace ba1 := heap_kept guw4 ba1
  replace bb1 := heap_kept guw4 bb1
  replace bx1 := heap_kept guw4 bx1
  replace by1 := heap_kept guw4 by1
  replace bu := heap_kept guw4 bu
  replace na1 := na1.kept guw4
  replace nx1 := nx1.kept guw4
  replace nu := nu.kept guw4
  replace hT := hT.kept guw4 (by simp)
  replace hG := grown_trans hG guw4
  clear guw4 hv vv
  have bv := (heap_new uw4 (.cells #[.slice sv xv.length xv.length] 24) (uw4.heap.size) rfl)
  have gbuw4 := (World.grownBy_alloc uw4 (.cells #[.slice sv xv.length xv.length] 24) none)
  replace ba1 := heap_kept gbuw4 ba1
  replace bb1 := heap_kept gbuw4 bb1
  replace bx1 := heap_kept gbuw4 bx1
  replace by1 := heap_kept gbuw4 by1
  replace bu := heap_kept gbuw4 bu
  replace na1 := na1.kept gbuw4
  replace nx1 := nx1.kept gbuw4
  replace nu := nu.kept gbuw4
  replace nv := nv.kept gbuw4
  replace hT := hT.kept gbuw4 (by simp)
  replace hG := grown_trans hG gbuw4
  clear gbuw4
  obtain ⟨cba1, fba1⟩ := box_cell ba1
  obtain ⟨cbb1, fbb1⟩ := box_cell bb1
  obtain ⟨cbx1, fbx1⟩ := box_cell bx1
  obtain ⟨cby1, fby1⟩ := box_cell by1
  obtain ⟨cbu, fbu⟩ := box_cell bu
  obtain ⟨cbv, fbv⟩ := box_cell bv
  go_wp2_with fail
  generalize (uw4.alloc (.cells #[.slice sv xv.length xv.length] 24)) = w5 at *
  generalize uw4.heap.size = auw4 at *
  cases o1
  · skip
    clear cba1 fba1 cbb1 fbb1 cbx1 fbx1 cby1 fby1 cbu fbu cbv fbv
    refine (known_any w5 hT).mono ?_
    rintro e w6 ⟨rfl, gw6⟩
    replace hT := hT.kept gw6 (by simp)
    replace hG := grown_trans hG gw6
    clear gw6
    go_wp2_with fail
    refine (known_any w6 hT).mono ?_
    rintro e w7 ⟨rfl, gw7⟩
    replace hT := hT.kept gw7 (by simp)
    replace hG := grown_trans hG gw7
    clear gw7
    go_wp2_with fail
    refine (odd_any w7 s { data := #[48] }).mono ?_
    rintro e w8 ⟨rfl, gw8⟩
    replace hT := hT.kept gw8 (by simp)
    replace hG := grown_trans hG gw8
    clear gw8
    go_wp2_with fail
    go_ret
    exact ⟨rfl, hG⟩
  rcases Nat.lt_or_ge 2000 n with h2 | h2
  · skip
    have f3 : decide ((2000 : Int) < (n : Int)) = true := decide_eq_true (by omega)
    rw [shift_none la h2] at nv
    clear cba1 fba1 cbb1 fbb1 cbx1 fbx1 cby1 fby1 cbu fbu cbv fbv
    refine (known_any w5 hT).mono ?_
    rintro e gw6 ⟨rfl, ggw6⟩
    replace ba1 := heap_kept ggw6 ba1
    replace bb1 := heap_kept ggw6 bb1
    replace bx1 := heap_kept ggw6 bx1
    replace by1 := heap_kept ggw6 by1
    replace bu := heap_kept ggw6 bu
    replace bv := heap_kept ggw6 bv
    replace na1 := na1.kept ggw6
    replace nx1 := nx1.kept ggw6
    replace nu := nu.kept ggw6
    replace nv := nv.kept ggw6
    replace hT := hT.kept ggw6 (by simp)
    replace hG := grown_trans hG ggw6
    clear ggw6
    obtain ⟨cba1, fba1⟩ := box_cell ba1
    obtain ⟨cbb1, fbb1⟩ := box_cell bb1
    obtain ⟨cbx1, fbx1⟩ := box_cell bx1
    obtain ⟨cby1, fby1⟩ := box_cell by1
    obtain ⟨cbu, fbu⟩ := box_cell bu
    obtain ⟨cbv, fbv⟩ := box_cell bv
    go_wp2_with fail
    clear cba1 fba1 cbb1 fbb1 cbx1 fbx1 cby1 fby1 cbu fbu cbv fbv
    refine (Down_some gw6 _ _ 1035 nu n hn (by omega) lu).mono ?_
    rintro e ugw7 ⟨_, rfl, ⟨sw, xw, rfl, hw, vw⟩, gugw7⟩
    have nw : NatV ugw7 (.agg #[.slice sw xw.length xw.length]) (A * 2 ^ n / 2 ^ n) := ⟨_, _, rfl, hw, vw⟩
    replace ba1 := heap_kept gugw7 ba1
    replace bb1 := heap_kept gugw7 bb1
    replace bx1 := heap_kept gugw7 bx1
    replace by1 := heap_kept gugw7 by1
    replace bu := heap_kept gugw7 bu
    replace bv := heap_kept gugw7 bv
    replace na1 := na1.kept gugw7
    replace nx1 := nx1.kept gugw7
    replace nu := nu.kept gugw7
    replace nv := nv.kept gugw7
    replace hT := hT.kept gugw7 (by simp)
    replace hG := grown_trans hG gugw7
    clear gugw7 hw vw
    rw [Nat.mul_div_cancel _ (Nat.pow_pos (by omega))] at nw
    have bw := (heap_new ugw7 (.cells #[.slice sw xw.length xw.length] 24) (ugw7.heap.size) rfl)
    have gbugw7 := (World.grownBy_alloc ugw7 (.cells #[.slice sw xw.length xw.length] 24) none)
    replace ba1 := heap_kept gbugw7 ba1
    replace bb1 := heap_kept gbugw7 bb1
    replace bx1 := heap_kept gbugw7 bx1
    replace by1 := heap_kept gbugw7 by1
    replace bu := heap_kept gbugw7 bu
    replace bv := heap_kept gbugw7 bv
    replace na1 := na1.kept gbugw7
    replace nx1 := nx1.kept gbugw7
    replace nu := nu.kept gbugw7
    replace nv := nv.kept gbugw7
    replace nw := nw.kept gbugw7
    replace hT := hT.kept gbugw7 (by simp)
    replace hG := grown_trans hG gbugw7
    clear gbugw7
    obtain ⟨cba1, fba1⟩ := box_cell ba1
    obtain ⟨cbb1, fbb1⟩ := box_cell bb1
    obtain ⟨cbx1, fbx1⟩ := box_cell bx1
    obtain ⟨cby1, fby1⟩ := box_cell by1
    obtain ⟨cbu, fbu⟩ := box_cell bu
    obtain ⟨cbv, fbv⟩ := box_cell bv
    obtain ⟨cbw, fbw⟩ := box_cell bw
    go_wp2_with fail
    generalize (ugw7.alloc (.cells #[.slice sw xw.length xw.length] 24)) = gw8 at *
    generalize ugw7.heap.size = augw7 at *
    clear cba1 fba1 cbb1 fbb1 cbx1 fbx1 cby1 fby1 cbu fbu cbv fbv cbw fbw
    refine (Cmp_any gw8 _ _ _ _ 11 nw na1 (by omega) la la).mono ?_
    rintro e gw9 ⟨rfl, ggw9⟩
    rw [cmpInt_eq rfl]
    replace ba1 := heap_kept ggw9 ba1
    replace bb1 := heap_kept ggw9 bb1
    replace bx1 := heap_kept ggw9 bx1
    replace by1 := heap_kept ggw9 by1
    replace bu := heap_kept ggw9 bu
    replace bv := heap_kept ggw9 bv
    replace bw := heap_kept ggw9 bw
    replace na1 := na1.kept ggw9
    replace nx1 := nx1.kept ggw9
    replace nu := nu.kept ggw9
    replace nv := nv.kept ggw9
    replace nw := nw.kept ggw9
    replace hT := hT.kept ggw9 (by simp)
    replace hG := grown_trans hG ggw9
    clear ggw9
    obtain ⟨cba1, fba1⟩ := box_cell ba1
    obtain ⟨cbb1, fbb1⟩ := box_cell bb1
    obtain ⟨cbx1, fbx1⟩ := box_cell bx1
    obtain ⟨cby1, fby1⟩ := box_cell by1
    obtain ⟨cbu, fbu⟩ := box_cell bu
    obtain ⟨cbv, fbv⟩ := box_cell bv
    obtain ⟨cbw, fbw⟩ := box_cell bw
    go_wp2_with fail
    clear cba1 fba1 cbb1 fbb1 cbx1 fbx1 cby1 fby1 cbu fbu cbv fbv cbw fbw
    refine (Text_any gw9 _ _ 1 nv (by omega) (by decide)).mono ?_
    rintro e gw10 ⟨znv, rfl, dznv, vznv, ggw10⟩
    obtain rfl : znv = { data := #[48] } := dec_uniq dznv (dec_of (by decide +kernel)) (vznv.trans (by decide +kernel))
    replace ba1 := heap_kept ggw10 ba1
    replace bb1 := heap_kept ggw10 bb1
    replace bx1 := heap_kept ggw10 bx1
    replace by1 := heap_kept ggw10 by1
    replace bu := heap_kept ggw10 bu
    replace bv := heap_kept ggw10 bv
    replace bw := heap_kept ggw10 bw
    replace na1 := na1.kept ggw10
    replace nx1 := nx1.kept ggw10
    replace nu := nu.kept ggw10
    replace nv := nv.kept ggw10
    replace nw := nw.kept ggw10
    replace hT := hT.kept ggw10 (by simp)
    replace hG := grown_trans hG ggw10
    clear ggw10
    obtain ⟨cba1, fba1⟩ := box_cell ba1
    obtain ⟨cbb1, fbb1⟩ := box_cell bb1
    obtain ⟨cbx1, fbx1⟩ := box_cell bx1
    obtain ⟨cby1, fby1⟩ := box_cell by1
    obtain ⟨cbu, fbu⟩ := box_cell bu
    obtain ⟨cbv, fbv⟩ := box_cell bv
    obtain ⟨cbw, fbw⟩ := box_cell bw
    go_wp2_with fail
    go_ret
    exact ⟨rfl, hG⟩
  have f3 : decide ((2000 : Int) < (n : Int)) = false := decide_eq_false (by omega)
  clear cba1 fba1 cbb1 fbb1 cbx1 fbx1 cby1 fby1 cbu fbu cbv fbv
  refine (known_any w5 hT).mono ?_
  rintro e w6 ⟨rfl, gw6⟩
  replace ba1 := heap_kept gw6 ba1
  replace bb1 := heap_kept gw6 bb1
  replace bx1 := heap_kept gw6 bx1
  replace by1 := heap_kept gw6 by1
  replace bu := heap_kept gw6 bu
  replace bv := heap_kept gw6 bv
  replace na1 := na1.kept gw6
  replace nx1 := nx1.kept gw6
  replace nu := nu.kept gw6
  replace nv := nv.kept gw6
  replace hT := hT.kept gw6 (by simp)
  replace hG := grown_trans hG gw6
  clear gw6
  obtain ⟨cba1, fba1⟩ := box_cell ba1
  obtain ⟨cbb1, fbb1⟩ := box_cell bb1
  obtain ⟨cbx1, fbx1⟩ := box_cell bx1
  obtain ⟨cby1, fby1⟩ := box_cell by1
  obtain ⟨cbu, fbu⟩ := box_cell bu
  obtain ⟨cbv, fbv⟩ := box_cell bv
  go_wp2_with fail
  have hn5 : n ≤ 5000 := by omega
  have hp2 : Hid (2 ^ n < D ^ 400000) := two_bd4 h2
  clear cba1 fba1 cbb1 fbb1 cbx1 fbx1 cby1 fby1 cbu fbu cbv fbv
  go_cut [16, 17] (fun p q wx => ∃ (b : Nat) (s : Option Addr) (l c : Nat), p = .pointer (some ⟨b, 0, none⟩) ∧ wx.heap[b]? = some (.cells #[.slice s l c] 30 (0, 0)) ∧ RefV wx (.agg #[.slice s l c]) (A / 2 ^ n) ∧ w6.grownBy wx none)
  case first =>
    have hbx := bx1
    have nx := nx1
    clear ba1 bb1 by1 bu bv
    refine wp_region_held_drew (S := fun w' => w'.cell? ⟨at1 + 1 + 1, 0, none⟩ = some (.slice sx1 lx1 cx1)) (by kernel_rfl) (by exact (box_cell hbx).1) (fun hHeld => ?_)
    have hbxlt : at1 + 1 + 1 < w6.heap.size := (Array.getElem?_eq_some_iff.1 hbx).1
    have gd : w6.grownBy w6.drew none := grown_drew (grown_refl _ _)
    replace hbx := heap_kept gd hbx
    replace nx := nx.kept gd
    have hG0 := gd
    clear gd
    generalize w6.drew = wt0 at *
    refine wpAnyH_take (i := 0) (v := ?_) rfl (by kernel_rfl) (by kernel_rfl) (by kernel_rfl) (fun _ _ _ h => h) (Or.inl ⟨by rfl, ?_⟩) (by assumption) ?_
    rotate_left
    · (intro w hSw; (try dsimp only at hSw); go_simp; (try with_reducible rfl))
    try simp only [Act.put, List.getElem_toArray, List.getElem_cons_zero, List.getElem_cons_succ, List.setIfInBounds_toArray, List.set_cons_zero, List.set_cons_succ]
    refine wpAnyH_take (i := 1) (v := ?_) rfl (by kernel_rfl) (by kernel_rfl) (by kernel_rfl) (fun _ _ _ h => h) (Or.inl ⟨by rfl, ?_⟩) (by assumption) ?_
    rotate_left
    · (intro w hSw; (try dsimp only at hSw); go_simp; (try with_reducible rfl))
    try simp only [Act.put, List.getElem_toArray, List.getElem_cons_zero, List.getElem_cons_succ, List.setIfInBounds_toArray, List.set_cons_zero, List.set_cons_succ]
    refine wpAnyH_ready (rs := [2, 7, 8]) (by kernel_rfl) (by simp) ?_
    refine AllReadyH.cons rfl (fun K hK => ?_) (AllReadyH.cons rfl (fun K hK => ?_) (AllReadyH.cons rfl (fun K hK => ?_) AllReadyH.nil))
    · skip
      go_simp
      go_at_call 20; refine (rTwo_any wt0 n hn5).mono ?_; rintro e wt1 ⟨vT, rfl, nT, gT⟩
      (try go_wp2_with fail)
      have hbx := heap_kept gT hbx
      have nx := nx.kept gT
      have hG0 := grown_trans hG0 gT
      refine hK.out _ _ (by exact (box_cell hbx).1) (fun hHeld => ?_)
      clear hK K gT
      try simp only [Act.put, List.getElem_toArray, List.getElem_cons_zero, List.getElem_cons_succ, List.setIfInBounds_toArray, List.set_cons_zero, List.set_cons_succ]
      refine wpAnyH_ready (rs := [3, 7, 8]) (by kernel_rfl) (by simp) ?_
      refine AllReadyH.cons rfl (fun K hK => ?_) (AllReadyH.cons rfl (fun K hK => ?_) (AllReadyH.cons rfl (fun K hK => ?_) AllReadyH.nil))
      · skip
        go_simp
        go_at_call 36; refine (rDiv_any wt1 _ _ A (2 ^ n) nx nT (toD4 la (by omega)) hp2.out (Nat.pow_pos (by omega))).mono ?_; rintro e wt2 ⟨_, _, rfl, ⟨sD, kD, cD, xD, rfl, hD⟩, ⟨sE, kE, cE, xE, rfl, hE⟩, gD⟩
        have nD : RefV wt2 (.agg #[.slice sD kD cD]) (A / 2 ^ n) := ⟨_, _, _, _, rfl, hD⟩
        (try go_wp2_with fail)
        have hbx := heap_kept gD hbx
        have nx := nx.kept gD
        have hG0 := grown_trans hG0 gD
        have nT := nT.kept gD
        refine hK.out _ _ (by exact (box_cell hbx).1) (fun hHeld => ?_)
        clear hK K gD hD hE
        try simp only [Act.put, List.getElem_toArray, List.getElem_cons_zero, List.getElem_cons_succ, List.setIfInBounds_toArray, List.set_cons_zero, List.set_cons_succ]
        refine wpAnyH_take (i := 4) (v := ?_) rfl (by kernel_rfl) (by kernel_rfl) (by kernel_rfl) (fun _ _ _ h => h) (Or.inl ⟨by rfl, ?_⟩) (by assumption) ?_
        rotate_left
        · (intro w hSw; (try dsimp only at hSw); go_simp; (try with_reducible rfl))
        try simp only [Act.put, List.getElem_toArray, List.getElem_cons_zero, List.getElem_cons_succ, List.setIfInBounds_toArray, List.set_cons_zero, List.set_cons_succ]
        refine wpAnyH_take (i := 5) (v := ?_) rfl (by kernel_rfl) (by kernel_rfl) (by kernel_rfl) (fun _ _ _ h => h) (Or.inl ⟨by rfl, ?_⟩) (by assumption) ?_
        rotate_left
        · (intro w hSw; (try dsimp only at hSw); go_simp; (try with_reducible rfl))
        try simp only [Act.put, List.getElem_toArray, List.getElem_cons_zero, List.getElem_cons_succ, List.setIfInBounds_toArray, List.set_cons_zero, List.set_cons_succ]
        refine wpAnyH_take (i := 6) (v := ?_) rfl (by kernel_rfl) (by kernel_rfl) (by kernel_rfl) (fun _ _ _ h => h) (Or.inl ⟨by rfl, ?_⟩) (by assumption) ?_
        rotate_left
        · (intro w hSw; (try dsimp only at hSw); go_simp; (try with_reducible rfl))
        try simp only [Act.put, List.getElem_toArray, List.getElem_cons_zero, List.getElem_cons_succ, List.setIfInBounds_toArray, List.set_cons_zero, List.set_cons_succ]
        refine wpAnyH_ready (rs := [7, 8]) (by kernel_rfl) (by simp) ?_
        refine AllReadyH.cons rfl (fun K hK => ?_) (AllReadyH.cons rfl (fun K hK => ?_) AllReadyH.nil)
        · skip
          have gA := World.grownBy_alloc wt2 (.cells #[.slice none 0 0] 30) none
          have hqa := heap_new wt2 (.cells #[.slice none 0 0] 30) wt2.heap.size rfl
          have loa : w6.heap.size ≤ wt2.heap.size := hG0.size
          have hbx := heap_kept gA hbx
          have nx := nx.kept gA
          have hG0 := grown_trans hG0 gA
          have nD := nD.kept gA
          go_simp
          refine hK.out _ _ (by exact (box_cell hbx).1) (fun hHeld => ?_)
          clear hK K
          try simp only [Act.put, List.getElem_toArray, List.getElem_cons_zero, List.getElem_cons_succ, List.setIfInBounds_toArray, List.set_cons_zero, List.set_cons_succ]
          generalize (wt2.alloc (.cells #[.slice none 0 0] 30)) = wt3 at *
          generalize hp3 : wt2.heap.size = pa at *
          have lta : pa < wt3.heap.size := (Array.getElem?_eq_some_iff.1 hqa).1
          refine wpAnyH_ready (rs := [8]) (by kernel_rfl) (by simp) ?_
          refine AllReadyH.cons rfl (fun K hK => ?_) AllReadyH.nil
          · skip
            have gA := World.grownBy_alloc wt3 (.cells #[.slice none 0 0] 30) none
            have hqb := heap_new wt3 (.cells #[.slice none 0 0] 30) wt3.heap.size rfl
            have lob : w6.heap.size ≤ wt3.heap.size := hG0.size
            have hbx := heap_kept gA hbx
            have nx := nx.kept gA
            have hG0 := grown_trans hG0 gA
            have nD := nD.kept gA
            have hqa := heap_kept gA hqa
            have lta : pa < _ := (Array.getElem?_eq_some_iff.1 hqa).1
            go_simp
            refine hK.out _ _ (by exact (box_cell hbx).1) (fun hHeld => ?_)
            clear hK K
            try simp only [Act.put, List.getElem_toArray, List.getElem_cons_zero, List.getElem_cons_succ, List.setIfInBounds_toArray, List.set_cons_zero, List.set_cons_succ]
            generalize (wt3.alloc (.cells #[.slice none 0 0] 30)) = wt4 at *
            generalize hp4 : wt3.heap.size = pb at *
            have ltb : pb < wt4.heap.size := (Array.getElem?_eq_some_iff.1 hqb).1
            have hpp : pa < pb := by first | assumption | omega | (rw [← hp4]; assumption)
            obtain ⟨cqa, fqa⟩ := box_cell hqa
            obtain ⟨cqb, fqb⟩ := box_cell hqb
            have hqa1 := heap_set hqa (.slice sD kD cD)
            have hqb1 := heap_unset (g := pa) hqb (by omega) (.slice sD kD cD)
            have hbx1 := heap_unset (g := pa) hbx (by omega) (.slice sD kD cD)
            have nD1 := nD.set_other hqa (by decide) 0 (.slice sD kD cD)
            obtain ⟨cqb1, fqb1⟩ := box_cell hqb1
            refine wpAnyH_ready (rs := [9]) (by kernel_rfl) (by simp) ?_
            refine AllReadyH.cons rfl (fun K hK => ?_) AllReadyH.nil
            go_simp
            refine hK.out _ _ (by exact (box_cell hbx1).1) (fun hHeld => ?_)
            clear hK K
            try simp only [Act.put, List.getElem_toArray, List.getElem_cons_zero, List.getElem_cons_succ, List.setIfInBounds_toArray, List.set_cons_zero, List.set_cons_succ]
            refine wpAnyH_ready (rs := [10]) (by kernel_rfl) (by simp) ?_
            refine AllReadyH.cons rfl (fun K hK => ?_) AllReadyH.nil
            go_simp
            have hbx2 := heap_unset (g := pb) hbx1 (by omega) (.slice sE kE cE)
            refine hK.out _ _ (by exact (box_cell hbx2).1) (fun hHeld => ?_)
            clear hK K
            try simp only [Act.put, List.getElem_toArray, List.getElem_cons_zero, List.getElem_cons_succ, List.setIfInBounds_toArray, List.set_cons_zero, List.set_cons_succ]
            refine wpAnyH_done (by kernel_rfl) ?_ _
            have hqa2 := heap_unset (g := pb) hqa1 (by omega) (.slice sE kE cE)
            have nD2 := nD1.set_other hqb1 (by decide) 0 (.slice sE kE cE)
            have hG2 := grown_new (grown_new hG0 (grown_set (grown_refl _ (some pa)) 0 (.slice sD kD cD)) (by omega)) (grown_set (grown_refl _ (some pb)) 0 (.slice sE kE cE)) (by omega)
            go_wp2_with fail
            go_meet
            exact ⟨pa, sD, kD, cD, rfl, hqa2, nD2, hG2⟩
        · skip
          have gA := World.grownBy_alloc wt2 (.cells #[.slice none 0 0] 30) none
          have hqb := heap_new wt2 (.cells #[.slice none 0 0] 30) wt2.heap.size rfl
          have lob : w6.heap.size ≤ wt2.heap.size := hG0.size
          have hbx := heap_kept gA hbx
          have nx := nx.kept gA
          have hG0 := grown_trans hG0 gA
          have nD := nD.kept gA
          go_simp
          refine hK.out _ _ (by exact (box_cell hbx).1) (fun hHeld => ?_)
          clear hK K
          try simp only [Act.put, List.getElem_toArray, List.getElem_cons_zero, List.getElem_cons_succ, List.setIfInBounds_toArray, List.set_cons_zero, List.set_cons_succ]
          generalize (wt2.alloc (.cells #[.slice none 0 0] 30)) = wt5 at *
          generalize hp5 : wt2.heap.size = pb at *
          have ltb : pb < wt5.heap.size := (Array.getElem?_eq_some_iff.1 hqb).1
          refine wpAnyH_ready (rs := [7]) (by kernel_rfl) (by simp) ?_
          refine AllReadyH.cons rfl (fun K hK => ?_) AllReadyH.nil
          · skip
            have gA := World.grownBy_alloc wt5 (.cells #[.slice none 0 0] 30) none
            have hqa := heap_new wt5 (.cells #[.slice none 0 0] 30) wt5.heap.size rfl
            have loa : w6.heap.size ≤ wt5.heap.size := hG0.size
            have hbx := heap_kept gA hbx
            have nx := nx.kept gA
            have hG0 := grown_trans hG0 gA
            have nD := nD.kept gA
            have hqb := heap_kept gA hqb
            have ltb : pb < _ := (Array.getElem?_eq_some_iff.1 hqb).1
            go_simp
            refine hK.out _ _ (by exact (box_cell hbx).1) (fun hHeld => ?_)
            clear hK K
            try simp only [Act.put, List.getElem_toArray, List.getElem_cons_zero, List.getElem_cons_succ, List.setIfInBounds_toArray, List.set_cons_zero, List.set_cons_succ]
            generalize (wt5.alloc (.cells #[.slice none 0 0] 30)) = wt6 at *
            generalize hp6 : wt5.heap.size = pa at *
            have lta : pa < wt6.heap.size := (Array.getElem?_eq_some_iff.1 hqa).1
            have hpp : pb < pa := by first | assumption | omega | (rw [← hp6]; assumption)
            obtain ⟨cqa, fqa⟩ := box_cell hqa
            obtain ⟨cqb, fqb⟩ := box_cell hqb
            have hqa1 := heap_set hqa (.slice sD kD cD)
            have hqb1 := heap_unset (g := pa) hqb (by omega) (.slice sD kD cD)
            have hbx1 := heap_unset (g := pa) hbx (by omega) (.slice sD kD cD)
            have nD1 := nD.set_other hqa (by decide) 0 (.slice sD kD cD)
            obtain ⟨cqb1, fqb1⟩ := box_cell hqb1
            refine wpAnyH_ready (rs := [9]) (by kernel_rfl) (by simp) ?_
            refine AllReadyH.cons rfl (fun K hK => ?_) AllReadyH.nil
            go_simp
            refine hK.out _ _ (by exact (box_cell hbx1).1) (fun hHeld => ?_)
            clear hK K
            try simp only [Act.put, List.getElem_toArray, List.getElem_cons_zero, List.getElem_cons_succ, List.setIfInBounds_toArray, List.set_cons_zero, List.set_cons_succ]
            refine wpAnyH_ready (rs := [10]) (by kernel_rfl) (by simp) ?_
            refine AllReadyH.cons rfl (fun K hK => ?_) AllReadyH.nil
            go_simp
            have hbx2 := heap_unset (g := pb) hbx1 (by omega) (.slice sE kE cE)
            refine hK.out _ _ (by exact (box_cell hbx2).1) (fun hHeld => ?_)
            clear hK K
            try simp only [Act.put, List.getElem_toArray, List.getElem_cons_zero, List.getElem_cons_succ, List.setIfInBounds_toArray, List.set_cons_zero, List.set_cons_succ]
            refine wpAnyH_done (by kernel_rfl) ?_ _
            have hqa2 := heap_unset (g := pb) hqa1 (by omega) (.slice sE kE cE)
            have nD2 := nD1.set_other hqb1 (by decide) 0 (.slice sE kE cE)
            have hG2 := grown_new (grown_new hG0 (grown_set (grown_refl _ (some pa)) 0 (.slice sD kD cD)) (by omega)) (grown_set (grown_refl _ (some pb)) 0 (.slice sE kE cE)) (by omega)
            go_wp2_with fail
            go_meet
            exact ⟨pa, sD, kD, cD, rfl, hqa2, nD2, hG2⟩
      · skip
        have gA := World.grownBy_alloc wt1 (.cells #[.slice none 0 0] 30) none
        have hqa := heap_new wt1 (.cells #[.slice none 0 0] 30) wt1.heap.size rfl
        have loa : w6.heap.size ≤ wt1.heap.size := hG0.size
        have hbx := heap_kept gA hbx
        have nx := nx.kept gA
        have hG0 := grown_trans hG0 gA
        have nT := nT.kept gA
        go_simp
        refine hK.out _ _ (by exact (box_cell hbx).1) (fun hHeld => ?_)
        clear hK K
        try simp only [Act.put, List.getElem_toArray, List.getElem_cons_zero, List.getElem_cons_succ, List.setIfInBounds_toArray, List.set_cons_zero, List.set_cons_succ]
        generalize (wt1.alloc (.cells #[.slice none 0 0] 30)) = wt7 at *
        generalize hp7 : wt1.heap.size = pa at *
        have lta : pa < wt7.heap.size := (Array.getElem?_eq_some_iff.1 hqa).1
        refine wpAnyH_ready (rs := [3, 8]) (by kernel_rfl) (by simp) ?_
        refine AllReadyH.cons rfl (fun K hK => ?_) (AllReadyH.cons rfl (fun K hK => ?_) AllReadyH.nil)
        · skip
          go_simp
          go_at_call 36; refine (rDiv_any wt7 _ _ A (2 ^ n) nx nT (toD4 la (by omega)) hp2.out (Nat.pow_pos (by omega))).mono ?_; rintro e wt8 ⟨_, _, rfl, ⟨sD, kD, cD, xD, rfl, hD⟩, ⟨sE, kE, cE, xE, rfl, hE⟩, gD⟩
          have nD : RefV wt8 (.agg #[.slice sD kD cD]) (A / 2 ^ n) := ⟨_, _, _, _, rfl, hD⟩
          (try go_wp2_with fail)
          have hbx := heap_kept gD hbx
          have nx := nx.kept gD
          have hG0 := grown_trans hG0 gD
          have nT := nT.kept gD
          have hqa := heap_kept gD hqa
          have lta : pa < _ := (Array.getElem?_eq_some_iff.1 hqa).1
          refine hK.out _ _ (by exact (box_cell hbx).1) (fun hHeld => ?_)
          clear hK K gD hD hE
          try simp only [Act.put, List.getElem_toArray, List.getElem_cons_zero, List.getElem_cons_succ, List.setIfInBounds_toArray, List.set_cons_zero, List.set_cons_succ]
          refine wpAnyH_take (i := 4) (v := ?_) rfl (by kernel_rfl) (by kernel_rfl) (by kernel_rfl) (fun _ _ _ h => h) (Or.inl ⟨by rfl, ?_⟩) (by assumption) ?_
          rotate_left
          · (intro w hSw; (try dsimp only at hSw); go_simp; (try with_reducible rfl))
          try simp only [Act.put, List.getElem_toArray, List.getElem_cons_zero, List.getElem_cons_succ, List.setIfInBounds_toArray, List.set_cons_zero, List.set_cons_succ]
          refine wpAnyH_take (i := 5) (v := ?_) rfl (by kernel_rfl) (by kernel_rfl) (by kernel_rfl) (fun _ _ _ h => h) (Or.inl ⟨by rfl, ?_⟩) (by assumption) ?_
          rotate_left
          · (intro w hSw; (try dsimp only at hSw); go_simp; (try with_reducible rfl))
          try simp only [Act.put, List.getElem_toArray, List.getElem_cons_zero, List.getElem_cons_succ, List.setIfInBounds_toArray, List.set_cons_zero, List.set_cons_succ]
          refine wpAnyH_take (i := 6) (v := ?_) rfl (by kernel_rfl) (by kernel_rfl) (by kernel_rfl) (fun _ _ _ h => h) (Or.inl ⟨by rfl, ?_⟩) (by assumption) ?_
          rotate_left
          · (intro w hSw; (try dsimp only at hSw); go_simp; (try with_reducible rfl))
          try simp only [Act.put, List.getElem_toArray, List.getElem_cons_zero, List.getElem_cons_succ, List.setIfInBounds_toArray, List.set_cons_zero, List.set_cons_succ]
          refine wpAnyH_ready (rs := [8]) (by kernel_rfl) (by simp) ?_
          refine AllReadyH.cons rfl (fun K hK => ?_) AllReadyH.nil
          · skip
            have gA := World.grownBy_alloc wt8 (.cells #[.slice none 0 0] 30) none
            have hqb := heap_new wt8 (.cells #[.slice none 0 0] 30) wt8.heap.size rfl
            have lob : w6.heap.size ≤ wt8.heap.size := hG0.size
            have hbx := heap_kept gA hbx
            have nx := nx.kept gA
            have hG0 := grown_trans hG0 gA
            have nD := nD.kept gA
            have hqa := heap_kept gA hqa
            have lta : pa < _ := (Array.getElem?_eq_some_iff.1 hqa).1
            go_simp
            refine hK.out _ _ (by exact (box_cell hbx).1) (fun hHeld => ?_)
            clear hK K
            try simp only [Act.put, List.getElem_toArray, List.getElem_cons_zero, List.getElem_cons_succ, List.setIfInBounds_toArray, List.set_cons_zero, List.set_cons_succ]
            generalize (wt8.alloc (.cells #[.slice none 0 0] 30)) = wt9 at *
            generalize hp9 : wt8.heap.size = pb at *
            have ltb : pb < wt9.heap.size := (Array.getElem?_eq_some_iff.1 hqb).1
            have hpp : pa < pb := by first | assumption | omega | (rw [← hp9]; assumption)
            obtain ⟨cqa, fqa⟩ := box_cell hqa
            obtain ⟨cqb, fqb⟩ := box_cell hqb
            have hqa1 := heap_set hqa (.slice sD kD cD)
            have hqb1 := heap_unset (g := pa) hqb (by omega) (.slice sD kD cD)
            have hbx1 := heap_unset (g := pa) hbx (by omega) (.slice sD kD cD)
            have nD1 := nD.set_other hqa (by decide) 0 (.slice sD kD cD)
            obtain ⟨cqb1, fqb1⟩ := box_cell hqb1
            refine wpAnyH_ready (rs := [9]) (by kernel_rfl) (by simp) ?_
            refine AllReadyH.cons rfl (fun K hK => ?_) AllReadyH.nil
            go_simp
            refine hK.out _ _ (by exact (box_cell hbx1).1) (fun hHeld => ?_)
            clear hK K
            try simp only [Act.put, List.getElem_toArray, List.getElem_cons_zero, List.getElem_cons_succ, List.setIfInBounds_toArray, List.set_cons_zero, List.set_cons_succ]
            refine wpAnyH_ready (rs := [10]) (by kernel_rfl) (by simp) ?_
            refine AllReadyH.cons rfl (fun K hK => ?_) AllReadyH.nil
            go_simp
            have hbx2 := heap_unset (g := pb) hbx1 (by omega) (.slice sE kE cE)
            refine hK.out _ _ (by exact (box_cell hbx2).1) (fun hHeld => ?_)
            clear hK K
            try simp only [Act.put, List.getElem_toArray, List.getElem_cons_zero, List.getElem_cons_succ, List.setIfInBounds_toArray, List.set_cons_zero, List.set_cons_succ]
            refine wpAnyH_done (by kernel_rfl) ?_ _
            have hqa2 := heap_unset (g := pb) hqa1 (by omega) (.slice sE kE cE)
            have nD2 := nD1.set_other hqb1 (by decide) 0 (.slice sE kE cE)
            have hG2 := grown_new (grown_new hG0 (grown_set (grown_refl _ (some pa)) 0 (.slice sD kD cD)) (by omega)) (grown_set (grown_refl _ (some pb)) 0 (.slice sE kE cE)) (by omega)
            go_wp2_with fail
            go_meet
            exact ⟨pa, sD, kD, cD, rfl, hqa2, nD2, hG2⟩
        · skip
          have gA := World.grownBy_alloc wt7 (.cells #[.slice none 0 0] 30) none
          have hqb := heap_new wt7 (.cells #[.slice none 0 0] 30) wt7.heap.size rfl
          have lob : w6.heap.size ≤ wt7.heap.size := hG0.size
          have hbx := heap_kept gA hbx
          have nx := nx.kept gA
          have hG0 := grown_trans hG0 gA
          have nT := nT.kept gA
          have hqa := heap_kept gA hqa
          have lta : pa < _ := (Array.getElem?_eq_some_iff.1 hqa).1
          go_simp
          refine hK.out _ _ (by exact (box_cell hbx).1) (fun hHeld => ?_)
          clear hK K
          try simp only [Act.put, List.getElem_toArray, List.getElem_cons_zero, List.getElem_cons_succ, List.setIfInBounds_toArray, List.set_cons_zero, List.set_cons_succ]
          generalize (wt7.alloc (.cells #[.slice none 0 0] 30)) = wt10 at *
          generalize hp10 : wt7.heap.size = pb at *
          have ltb : pb < wt10.heap.size := (Array.getElem?_eq_some_iff.1 hqb).1
          have hpp : pa < pb := by first | assumption | omega | (rw [← hp10]; assumption)
          refine wpAnyH_ready (rs := [3]) (by kernel_rfl) (by simp) ?_
          refine AllReadyH.cons rfl (fun K hK => ?_) AllReadyH.nil
          · skip
            go_simp
            go_at_call 36; refine (rDiv_any wt10 _ _ A (2 ^ n) nx nT (toD4 la (by omega)) hp2.out (Nat.pow_pos (by omega))).mono ?_; rintro e wt11 ⟨_, _, rfl, ⟨sD, kD, cD, xD, rfl, hD⟩, ⟨sE, kE, cE, xE, rfl, hE⟩, gD⟩
            have nD : RefV wt11 (.agg #[.slice sD kD cD]) (A / 2 ^ n) := ⟨_, _, _, _, rfl, hD⟩
            (try go_wp2_with fail)
            have hbx := heap_kept gD hbx
            have nx := nx.kept gD
            have hG0 := grown_trans hG0 gD
            have nT := nT.kept gD
            have hqa := heap_kept gD hqa
            have lta : pa < _ := (Array.getElem?_eq_some_iff.1 hqa).1
            have hqb := heap_kept gD hqb
            have ltb : pb < _ := (Array.getElem?_eq_some_iff.1 hqb).1
            refine hK.out _ _ (by exact (box_cell hbx).1) (fun hHeld => ?_)
            clear hK K gD hD hE
            try simp only [Act.put, List.getElem_toArray, List.getElem_cons_zero, List.getElem_cons_succ, List.setIfInBounds_toArray, List.set_cons_zero, List.set_cons_succ]
            refine wpAnyH_take (i := 4) (v := ?_) rfl (by kernel_rfl) (by kernel_rfl) (by kernel_rfl) (fun _ _ _ h => h) (Or.inl ⟨by rfl, ?_⟩) (by assumption) ?_
            rotate_left
            · (intro w hSw; (try dsimp only at hSw); go_simp; (try with_reducible rfl))
            try simp only [Act.put, List.getElem_toArray, List.getElem_cons_zero, List.getElem_cons_succ, List.setIfInBounds_toArray, List.set_cons_zero, List.set_cons_succ]
            refine wpAnyH_take (i := 5) (v := ?_) rfl (by kernel_rfl) (by kernel_rfl) (by kernel_rfl) (fun _ _ _ h => h) (Or.inl ⟨by rfl, ?_⟩) (by assumption) ?_
            rotate_left
            · (intro w hSw; (try dsimp only at hSw); go_simp; (try with_reducible rfl))
            try simp only [Act.put, List.getElem_toArray, List.getElem_cons_zero, List.getElem_cons_succ, List.setIfInBounds_toArray, List.set_cons_zero, List.set_cons_succ]
            refine wpAnyH_take (i := 6) (v := ?_) rfl (by kernel_rfl) (by kernel_rfl) (by kernel_rfl) (fun _ _ _ h => h) (Or.inl ⟨by rfl, ?_⟩) (by assumption) ?_
            rotate_left
            · (intro w hSw; (try dsimp only at hSw); go_simp; (try with_reducible rfl))
            try simp only [Act.put, List.getElem_toArray, List.getElem_cons_zero, List.getElem_cons_succ, List.setIfInBounds_toArray, List.set_cons_zero, List.set_cons_succ]
            obtain ⟨cqa, fqa⟩ := box_cell hqa
            obtain ⟨cqb, fqb⟩ := box_cell hqb
            have hqa1 := heap_set hqa (.slice sD kD cD)
            have hqb1 := heap_unset (g := pa) hqb (by omega) (.slice sD kD cD)
            have hbx1 := heap_unset (g := pa) hbx (by omega) (.slice sD kD cD)
            have nD1 := nD.set_other hqa (by decide) 0 (.slice sD kD cD)
            obtain ⟨cqb1, fqb1⟩ := box_cell hqb1
            refine wpAnyH_ready (rs := [9]) (by kernel_rfl) (by simp) ?_
            refine AllReadyH.cons rfl (fun K hK => ?_) AllReadyH.nil
            go_simp
            refine hK.out _ _ (by exact (box_cell hbx1).1) (fun hHeld => ?_)
            clear hK K
            try simp only [Act.put, List.getElem_toArray, List.getElem_cons_zero, List.getElem_cons_succ, List.setIfInBounds_toArray, List.set_cons_zero, List.set_cons_succ]
            refine wpAnyH_ready (rs := [10]) (by kernel_rfl) (by simp) ?_
            refine AllReadyH.cons rfl (fun K hK => ?_) AllReadyH.nil
            go_simp
            have hbx2 := heap_unset (g := pb) hbx1 (by omega) (.slice sE kE cE)
            refine hK.out _ _ (by exact (box_cell hbx2).1) (fun hHeld => ?_)
            clear hK K
            try simp only [Act.put, List.getElem_toArray, List.getElem_cons_zero, List.getElem_cons_succ, List.setIfInBounds_toArray, List.set_cons_zero, List.set_cons_succ]
            refine wpAnyH_done (by kernel_rfl) ?_ _
            have hqa2 := heap_unset (g := pb) hqa1 (by omega) (.slice sE kE cE)
            have nD2 := nD1.set_other hqb1 (by decide) 0 (.slice sE kE cE)
            have hG2 := grown_new (grown_new hG0 (grown_set (grown_refl _ (some pa)) 0 (.slice sD kD cD)) (by omega)) (grown_set (grown_refl _ (some pb)) 0 (.slice sE kE cE)) (by omega)
            go_wp2_with fail
            go_meet
            exact ⟨pa, sD, kD, cD, rfl, hqa2, nD2, hG2⟩
      · skip
        have gA := World.grownBy_alloc wt1 (.cells #[.slice none 0 0] 30) none
        have hqb := heap_new wt1 (.cells #[.slice none 0 0] 30) wt1.heap.size rfl
        have lob : w6.heap.size ≤ wt1.heap.size := hG0.size
        have hbx := heap_kept gA hbx
        have nx := nx.kept gA
        have hG0 := grown_trans hG0 gA
        have nT := nT.kept gA
        go_simp
        refine hK.out _ _ (by exact (box_cell hbx).1) (fun hHeld => ?_)
        clear hK K
        try simp only [Act.put, List.getElem_toArray, List.getElem_cons_zero, List.getElem_cons_succ, List.setIfInBounds_toArray, List.set_cons_zero, List.set_cons_succ]
        generalize (wt1.alloc (.cells #[.slice none 0 0] 30)) = wt12 at *
        generalize hp12 : wt1.heap.size = pb at *
        have ltb : pb < wt12.heap.size := (Array.getElem?_eq_some_iff.1 hqb).1
        refine wpAnyH_ready (rs := [3, 7]) (by kernel_rfl) (by simp) ?_
        refine AllReadyH.cons rfl (fun K hK => ?_) (AllReadyH.cons rfl (fun K hK => ?_) AllReadyH.nil)
        · skip
          go_simp
          go_at_call 36; refine (rDiv_any wt12 _ _ A (2 ^ n) nx nT (toD4 la (by omega)) hp2.out (Nat.pow_pos (by omega))).mono ?_; rintro e wt13 ⟨_, _, rfl, ⟨sD, kD, cD, xD, rfl, hD⟩, ⟨sE, kE, cE, xE, rfl, hE⟩, gD⟩
          have nD : RefV wt13 (.agg #[.slice sD kD cD]) (A / 2 ^ n) := ⟨_, _, _, _, rfl, hD⟩
          (try go_wp2_with fail)
          have hbx := heap_kept gD hbx
          have nx := nx.kept gD
          have hG0 := grown_trans hG0 gD
          have nT := nT.kept gD
          have hqb := heap_kept gD hqb
          have ltb : pb < _ := (Array.getElem?_eq_some_iff.1 hqb).1
          refine hK.out _ _ (by exact (box_cell hbx).1) (fun hHeld => ?_)
          clear hK K gD hD hE
          try simp only [Act.put, List.getElem_toArray, List.getElem_cons_zero, List.getElem_cons_succ, List.setIfInBounds_toArray, List.set_cons_zero, List.set_cons_succ]
          refine wpAnyH_take (i := 4) (v := ?_) rfl (by kernel_rfl) (by kernel_rfl) (by kernel_rfl) (fun _ _ _ h => h) (Or.inl ⟨by rfl, ?_⟩) (by assumption) ?_
          rotate_left
          · (intro w hSw; (try dsimp only at hSw); go_simp; (try with_reducible rfl))
          try simp only [Act.put, List.getElem_toArray, List.getElem_cons_zero, List.getElem_cons_succ, List.setIfInBounds_toArray, List.set_cons_zero, List.set_cons_succ]
          refine wpAnyH_take (i := 5) (v := ?_) rfl (by kernel_rfl) (by kernel_rfl) (by kernel_rfl) (fun _ _ _ h => h) (Or.inl ⟨by rfl, ?_⟩) (by assumption) ?_
          rotate_left
          · (intro w hSw; (try dsimp only at hSw); go_simp; (try with_reducible rfl))
          try simp only [Act.put, List.getElem_toArray, List.getElem_cons_zero, List.getElem_cons_succ, List.setIfInBounds_toArray, List.set_cons_zero, List.set_cons_succ]
          refine wpAnyH_take (i := 6) (v := ?_) rfl (by kernel_rfl) (by kernel_rfl) (by kernel_rfl) (fun _ _ _ h => h) (Or.inl ⟨by rfl, ?_⟩) (by assumption) ?_
          rotate_left
          · (intro w hSw; (try dsimp only at hSw); go_simp; (try with_reducible rfl))
          try simp only [Act.put, List.getElem_toArray, List.getElem_cons_zero, List.getElem_cons_succ, List.setIfInBounds_toArray, List.set_cons_zero, List.set_cons_succ]
          refine wpAnyH_ready (rs := [7]) (by kernel_rfl) (by simp) ?_
          refine AllReadyH.cons rfl (fun K hK => ?_) AllReadyH.nil
          · skip
            have gA := World.grownBy_alloc wt13 (.cells #[.slice none 0 0] 30) none
            have hqa := heap_new wt13 (.cells #[.slice none 0 0] 30) wt13.heap.size rfl
            have loa : w6.heap.size ≤ wt13.heap.size := hG0.size
            have hbx := heap_kept gA hbx
            have nx := nx.kept gA
            have hG0 := grown_trans hG0 gA
            have nD := nD.kept gA
            have hqb := heap_kept gA hqb
            have ltb : pb < _ := (Array.getElem?_eq_some_iff.1 hqb).1
            go_simp
            refine hK.out _ _ (by exact (box_cell hbx).1) (fun hHeld => ?_)
            clear hK K
            try simp only [Act.put, List.getElem_toArray, List.getElem_cons_zero, List.getElem_cons_succ, List.setIfInBounds_toArray, List.set_cons_zero, List.set_cons_succ]
            generalize (wt13.alloc (.cells #[.slice none 0 0] 30)) = wt14 at *
            generalize hp14 : wt13.heap.size = pa at *
            have lta : pa < wt14.heap.size := (Array.getElem?_eq_some_iff.1 hqa).1
            have hpp : pb < pa := by first | assumption | omega | (rw [← hp14]; assumption)
            obtain ⟨cqa, fqa⟩ := box_cell hqa
            obtain ⟨cqb, fqb⟩ := box_cell hqb
            have hqa1 := heap_set hqa (.slice sD kD cD)
            have hqb1 := heap_unset (g := pa) hqb (by omega) (.slice sD kD cD)
            have hbx1 := heap_unset (g := pa) hbx (by omega) (.slice sD kD cD)
            have nD1 := nD.set_other hqa (by decide) 0 (.slice sD kD cD)
            obtain ⟨cqb1, fqb1⟩ := box_cell hqb1
            refine wpAnyH_ready (rs := [9]) (by kernel_rfl) (by simp) ?_
            refine AllReadyH.cons rfl (fun K hK => ?_) AllReadyH.nil
            go_simp
            refine hK.out _ _ (by exact (box_cell hbx1).1) (fun hHeld => ?_)
            clear hK K
            try simp only [Act.put, List.getElem_toArray, List.getElem_cons_zero, List.getElem_cons_succ, List.setIfInBounds_toArray, List.set_cons_zero, List.set_cons_succ]
            refine wpAnyH_ready (rs := [10]) (by kernel_rfl) (by simp) ?_
            refine AllReadyH.cons rfl (fun K hK => ?_) AllReadyH.nil
            go_simp
            have hbx2 := heap_unset (g := pb) hbx1 (by omega) (.slice sE kE cE)
            refine hK.out _ _ (by exact (box_cell hbx2).1) (fun hHeld => ?_)
            clear hK K
            try simp only [Act.put, List.getElem_toArray, List.getElem_cons_zero, List.getElem_cons_succ, List.setIfInBounds_toArray, List.set_cons_zero, List.set_cons_succ]
            refine wpAnyH_done (by kernel_rfl) ?_ _
            have hqa2 := heap_unset (g := pb) hqa1 (by omega) (.slice sE kE cE)
            have nD2 := nD1.set_other hqb1 (by decide) 0 (.slice sE kE cE)
            have hG2 := grown_new (grown_new hG0 (grown_set (grown_refl _ (some pa)) 0 (.slice sD kD cD)) (by omega)) (grown_set (grown_refl _ (some pb)) 0 (.slice sE kE cE)) (by omega)
            go_wp2_with fail
            go_meet
            exact ⟨pa, sD, kD, cD, rfl, hqa2, nD2, hG2⟩
        · skip
          have gA := World.grownBy_alloc wt12 (.cells #[.slice none 0 0] 30) none
          have hqa := heap_new wt12 (.cells #[.slice none 0 0] 30) wt12.heap.size rfl
          have loa : w6.heap.size ≤ wt12.heap.size := hG0.size
          have hbx := heap_kept gA hbx
          have nx := nx.kept gA
          have hG0 := grown_trans hG0 gA
          have nT := nT.kept gA
          have hqb := heap_kept gA hqb
          have ltb : pb < _ := (Array.getElem?_eq_some_iff.1 hqb).1
          go_simp
          refine hK.out _ _ (by exact (box_cell hbx).1) (fun hHeld => ?_)
          clear hK K
          try simp only [Act.put, List.getElem_toArray, List.getElem_cons_zero, List.getElem_cons_succ, List.setIfInBounds_toArray, List.set_cons_zero, List.set_cons_succ]
          generalize (wt12.alloc (.cells #[.slice none 0 0] 30)) = wt15 at *
          generalize hp15 : wt12.heap.size = pa at *
          have lta : pa < wt15.heap.size := (Array.getElem?_eq_some_iff.1 hqa).1
          have hpp : pb < pa := by first | assumption | omega | (rw [← hp15]; assumption)
          refine wpAnyH_ready (rs := [3]) (by kernel_rfl) (by simp) ?_
          refine AllReadyH.cons rfl (fun K hK => ?_) AllReadyH.nil
          · skip
            go_simp
            go_at_call 36; refine (rDiv_any wt15 _ _ A (2 ^ n) nx nT (toD4 la (by omega)) hp2.out (Nat.pow_pos (by omega))).mono ?_; rintro e wt16 ⟨_, _, rfl, ⟨sD, kD, cD, xD, rfl, hD⟩, ⟨sE, kE, cE, xE, rfl, hE⟩, gD⟩
            have nD : RefV wt16 (.agg #[.slice sD kD cD]) (A / 2 ^ n) := ⟨_, _, _, _, rfl, hD⟩
            (try go_wp2_with fail)
            have hbx := heap_kept gD hbx
            have nx := nx.kept gD
            have hG0 := grown_trans hG0 gD
            have nT := nT.kept gD
            have hqa := heap_kept gD hqa
            have lta : pa < _ := (Array.getElem?_eq_some_iff.1 hqa).1
            have hqb := heap_kept gD hqb
            have ltb : pb < _ := (Array.getElem?_eq_some_iff.1 hqb).1
            refine hK.out _ _ (by exact (box_cell hbx).1) (fun hHeld => ?_)
            clear hK K gD hD hE
            try simp only [Act.put, List.getElem_toArray, List.getElem_cons_zero, List.getElem_cons_succ, List.setIfInBounds_toArray, List.set_cons_zero, List.set_cons_succ]
            refine wpAnyH_take (i := 4) (v := ?_) rfl (by kernel_rfl) (by kernel_rfl) (by kernel_rfl) (fun _ _ _ h => h) (Or.inl ⟨by rfl, ?_⟩) (by assumption) ?_
            rotate_left
            · (intro w hSw; (try dsimp only at hSw); go_simp; (try with_reducible rfl))
            try simp only [Act.put, List.getElem_toArray, List.getElem_cons_zero, List.getElem_cons_succ, List.setIfInBounds_toArray, List.set_cons_zero, List.set_cons_succ]
            refine wpAnyH_take (i := 5) (v := ?_) rfl (by kernel_rfl) (by kernel_rfl) (by kernel_rfl) (fun _ _ _ h => h) (Or.inl ⟨by rfl, ?_⟩) (by assumption) ?_
            rotate_left
            · (intro w hSw; (try dsimp only at hSw); go_simp; (try with_reducible rfl))
            try simp only [Act.put, List.getElem_toArray, List.getElem_cons_zero, List.getElem_cons_succ, List.setIfInBounds_toArray, List.set_cons_zero, List.set_cons_succ]
            refine wpAnyH_take (i := 6) (v := ?_) rfl (by kernel_rfl) (by kernel_rfl) (by kernel_rfl) (fun _ _ _ h => h) (Or.inl ⟨by rfl, ?_⟩) (by assumption) ?_
            rotate_left
            · (intro w hSw; (try dsimp only at hSw); go_simp; (try with_reducible rfl))
            try simp only [Act.put, List.getElem_toArray, List.getElem_cons_zero, List.getElem_cons_succ, List.setIfInBounds_toArray, List.set_cons_zero, List.set_cons_succ]
            obtain ⟨cqa, fqa⟩ := box_cell hqa
            obtain ⟨cqb, fqb⟩ := box_cell hqb
            have hqa1 := heap_set hqa (.slice sD kD cD)
            have hqb1 := heap_unset (g := pa) hqb (by omega) (.slice sD kD cD)
            have hbx1 := heap_unset (g := pa) hbx (by omega) (.slice sD kD cD)
            have nD1 := nD.set_other hqa (by decide) 0 (.slice sD kD cD)
            obtain ⟨cqb1, fqb1⟩ := box_cell hqb1
            refine wpAnyH_ready (rs := [9]) (by kernel_rfl) (by simp) ?_
            refine AllReadyH.cons rfl (fun K hK => ?_) AllReadyH.nil
            go_simp
            refine hK.out _ _ (by exact (box_cell hbx1).1) (fun hHeld => ?_)
            clear hK K
            try simp only [Act.put, List.getElem_toArray, List.getElem_cons_zero, List.getElem_cons_succ, List.setIfInBounds_toArray, List.set_cons_zero, List.set_cons_succ]
            refine wpAnyH_ready (rs := [10]) (by kernel_rfl) (by simp) ?_
            refine AllReadyH.cons rfl (fun K hK => ?_) AllReadyH.nil
            go_simp
            have hbx2 := heap_unset (g := pb) hbx1 (by omega) (.slice sE kE cE)
            refine hK.out _ _ (by exact (box_cell hbx2).1) (fun hHeld => ?_)
            clear hK K
            try simp only [Act.put, List.getElem_toArray, List.getElem_cons_zero, List.getElem_cons_succ, List.setIfInBounds_toArray, List.set_cons_zero, List.set_cons_succ]
            refine wpAnyH_done (by kernel_rfl) ?_ _
            have hqa2 := heap_unset (g := pb) hqa1 (by omega) (.slice sE kE cE)
            have nD2 := nD1.set_other hqb1 (by decide) 0 (.slice sE kE cE)
            have hG2 := grown_new (grown_new hG0 (grown_set (grown_refl _ (some pa)) 0 (.slice sD kD cD)) (by omega)) (grown_set (grown_refl _ (some pb)) 0 (.slice sE kE cE)) (by omega)
            go_wp2_with fail
            go_meet
            exact ⟨pa, sD, kD, cD, rfl, hqa2, nD2, hG2⟩
    · skip
      have gA := World.grownBy_alloc wt0 (.cells #[.slice none 0 0] 30) none
      have hqa := heap_new wt0 (.cells #[.slice none 0 0] 30) wt0.heap.size rfl
      have loa : w6.heap.size ≤ wt0.heap.size := hG0.size
      have hbx := heap_kept gA hbx
      have nx := nx.kept gA
      have hG0 := grown_trans hG0 gA
      go_simp
      refine hK.out _ _ (by exact (box_cell hbx).1) (fun hHeld => ?_)
      clear hK K
      try simp only [Act.put, List.getElem_toArray, List.getElem_cons_zero, List.getElem_cons_succ, List.setIfInBounds_toArray, List.set_cons_zero, List.set_cons_succ]
      generalize (wt0.alloc (.cells #[.slice none 0 0] 30)) = wt17 at *
      generalize hp17 : wt0.heap.size = pa at *
      have lta : pa < wt17.heap.size := (Array.getElem?_eq_some_iff.1 hqa).1
      refine wpAnyH_ready (rs := [2, 8]) (by kernel_rfl) (by simp) ?_
      refine AllReadyH.cons rfl (fun K hK => ?_) (AllReadyH.cons rfl (fun K hK => ?_) AllReadyH.nil)
      · skip
        go_simp
        go_at_call 20; refine (rTwo_any wt17 n hn5).mono ?_; rintro e wt18 ⟨vT, rfl, nT, gT⟩
        (try go_wp2_with fail)
        have hbx := heap_kept gT hbx
        have nx := nx.kept gT
        have hG0 := grown_trans hG0 gT
        have hqa := heap_kept gT hqa
        have lta : pa < _ := (Array.getElem?_eq_some_iff.1 hqa).1
        refine hK.out _ _ (by exact (box_cell hbx).1) (fun hHeld => ?_)
        clear hK K gT
        try simp only [Act.put, List.getElem_toArray, List.getElem_cons_zero, List.getElem_cons_succ, List.setIfInBounds_toArray, List.set_cons_zero, List.set_cons_succ]
        refine wpAnyH_ready (rs := [3, 8]) (by kernel_rfl) (by simp) ?_
        refine AllReadyH.cons rfl (fun K hK => ?_) (AllReadyH.cons rfl (fun K hK => ?_) AllReadyH.nil)
        · skip
          go_simp
          go_at_call 36; refine (rDiv_any wt18 _ _ A (2 ^ n) nx nT (toD4 la (by omega)) hp2.out (Nat.pow_pos (by omega))).mono ?_; rintro e wt19 ⟨_, _, rfl, ⟨sD, kD, cD, xD, rfl, hD⟩, ⟨sE, kE, cE, xE, rfl, hE⟩, gD⟩
          have nD : RefV wt19 (.agg #[.slice sD kD cD]) (A / 2 ^ n) := ⟨_, _, _, _, rfl, hD⟩
          (try go_wp2_with fail)
          have hbx := heap_kept gD hbx
          have nx := nx.kept gD
          have hG0 := grown_trans hG0 gD
          have nT := nT.kept gD
          have hqa := heap_kept gD hqa
          have lta : pa < _ := (Array.getElem?_eq_some_iff.1 hqa).1
          refine hK.out _ _ (by exact (box_cell hbx).1) (fun hHeld => ?_)
          clear hK K gD hD hE
          try simp only [Act.put, List.getElem_toArray, List.getElem_cons_zero, List.getElem_cons_succ, List.setIfInBounds_toArray, List.set_cons_zero, List.set_cons_succ]
          refine wpAnyH_take (i := 4) (v := ?_) rfl (by kernel_rfl) (by kernel_rfl) (by kernel_rfl) (fun _ _ _ h => h) (Or.inl ⟨by rfl, ?_⟩) (by assumption) ?_
          rotate_left
          · (intro w hSw; (try dsimp only at hSw); go_simp; (try with_reducible rfl))
          try simp only [Act.put, List.getElem_toArray, List.getElem_cons_zero, List.getElem_cons_succ, List.setIfInBounds_toArray, List.set_cons_zero, List.set_cons_succ]
          refine wpAnyH_take (i := 5) (v := ?_) rfl (by kernel_rfl) (by kernel_rfl) (by kernel_rfl) (fun _ _ _ h => h) (Or.inl ⟨by rfl, ?_⟩) (by assumption) ?_
          rotate_left
          · (intro w hSw; (try dsimp only at hSw); go_simp; (try with_reducible rfl))
          try simp only [Act.put, List.getElem_toArray, List.getElem_cons_zero, List.getElem_cons_succ, List.setIfInBounds_toArray, List.set_cons_zero, List.set_cons_succ]
          refine wpAnyH_take (i := 6) (v := ?_) rfl (by kernel_rfl) (by kernel_rfl) (by kernel_rfl) (fun _ _ _ h => h) (Or.inl ⟨by rfl, ?_⟩) (by assumption) ?_
          rotate_left
          · (intro w hSw; (try dsimp only at hSw); go_simp; (try with_reducible rfl))
          try simp only [Act.put, List.getElem_toArray, List.getElem_cons_zero, List.getElem_cons_succ, List.setIfInBounds_toArray, List.set_cons_zero, List.set_cons_succ]
          refine wpAnyH_ready (rs := [8]) (by kernel_rfl) (by simp) ?_
          refine AllReadyH.cons rfl (fun K hK => ?_) AllReadyH.nil
          · skip
            have gA := World.grownBy_alloc wt19 (.cells #[.slice none 0 0] 30) none
            have hqb := heap_new wt19 (.cells #[.slice none 0 0] 30) wt19.heap.size rfl
            have lob : w6.heap.size ≤ wt19.heap.size := hG0.size
            have hbx := heap_kept gA hbx
            have nx := nx.kept gA
            have hG0 := grown_trans hG0 gA
            have nD := nD.kept gA
            have hqa := heap_kept gA hqa
            have lta : pa < _ := (Array.getElem?_eq_some_iff.1 hqa).1
            go_simp
            refine hK.out _ _ (by exact (box_cell hbx).1) (fun hHeld => ?_)
            clear hK K
            try simp only [Act.put, List.getElem_toArray, List.getElem_cons_zero, List.getElem_cons_succ, List.setIfInBounds_toArray, List.set_cons_zero, List.set_cons_succ]
            generalize (wt19.alloc (.cells #[.slice none 0 0] 30)) = wt20 at *
            generalize hp20 : wt19.heap.size = pb at *
            have ltb : pb < wt20.heap.size := (Array.getElem?_eq_some_iff.1 hqb).1
            have hpp : pa < pb := by first | assumption | omega | (rw [← hp20]; assumption)
            obtain ⟨cqa, fqa⟩ := box_cell hqa
            obtain ⟨cqb, fqb⟩ := box_cell hqb
            have hqa1 := heap_set hqa (.slice sD kD cD)
            have hqb1 := heap_unset (g := pa) hqb (by omega) (.slice sD kD cD)
            have hbx1 := heap_unset (g := pa) hbx (by omega) (.slice sD kD cD)
            have nD1 := nD.set_other hqa (by decide) 0 (.slice sD kD cD)
            obtain ⟨cqb1, fqb1⟩ := box_cell hqb1
            refine wpAnyH_ready (rs := [9]) (by kernel_rfl) (by simp) ?_
            refine AllReadyH.cons rfl (fun K hK => ?_) AllReadyH.nil
            go_simp
            refine hK.out _ _ (by exact (box_cell hbx1).1) (fun hHeld => ?_)
            clear hK K
            try simp only [Act.put, List.getElem_toArray, List.getElem_cons_zero, List.getElem_cons_succ, List.setIfInBounds_toArray, List.set_cons_zero, List.set_cons_succ]
            refine wpAnyH_ready (rs := [10]) (by kernel_rfl) (by simp) ?_
            refine AllReadyH.cons rfl (fun K hK => ?_) AllReadyH.nil
            go_simp
            have hbx2 := heap_unset (g := pb) hbx1 (by omega) (.slice sE kE cE)
            refine hK.out _ _ (by exact (box_cell hbx2).1) (fun hHeld => ?_)
            clear hK K
            try simp only [Act.put, List.getElem_toArray, List.getElem_cons_zero, List.getElem_cons_succ, List.setIfInBounds_toArray, List.set_cons_zero, List.set_cons_succ]
            refine wpAnyH_done (by kernel_rfl) ?_ _
            have hqa2 := heap_unset (g := pb) hqa1 (by omega) (.slice sE kE cE)
            have nD2 := nD1.set_other hqb1 (by decide) 0 (.slice sE kE cE)
            have hG2 := grown_new (grown_new hG0 (grown_set (grown_refl _ (some pa)) 0 (.slice sD kD cD)) (by omega)) (grown_set (grown_refl _ (some pb)) 0 (.slice sE kE cE)) (by omega)
            go_wp2_with fail
            go_meet
            exact ⟨pa, sD, kD, cD, rfl, hqa2, nD2, hG2⟩
        · skip
          have gA := World.grownBy_alloc wt18 (.cells #[.slice none 0 0] 30) none
          have hqb := heap_new wt18 (.cells #[.slice none 0 0] 30) wt18.heap.size rfl
          have lob : w6.heap.size ≤ wt18.heap.size := hG0.size
          have hbx := heap_kept gA hbx
          have nx := nx.kept gA
          have hG0 := grown_trans hG0 gA
          have nT := nT.kept gA
          have hqa := heap_kept gA hqa
          have lta : pa < _ := (Array.getElem?_eq_some_iff.1 hqa).1
          go_simp
          refine hK.out _ _ (by exact (box_cell hbx).1) (fun hHeld => ?_)
          clear hK K
          try simp only [Act.put, List.getElem_toArray, List.getElem_cons_zero, List.getElem_cons_succ, List.setIfInBounds_toArray, List.set_cons_zero, List.set_cons_succ]
          generalize (wt18.alloc (.cells #[.slice none 0 0] 30)) = wt21 at *
          generalize hp21 : wt18.heap.size = pb at *
          have ltb : pb < wt21.heap.size := (Array.getElem?_eq_some_iff.1 hqb).1
          have hpp : pa < pb := by first | assumption | omega | (rw [← hp21]; assumption)
          refine wpAnyH_ready (rs := [3]) (by kernel_rfl) (by simp) ?_
          refine AllReadyH.cons rfl (fun K hK => ?_) AllReadyH.nil
          · skip
            go_simp
            go_at_call 36; refine (rDiv_any wt21 _ _ A (2 ^ n) nx nT (toD4 la (by omega)) hp2.out (Nat.pow_pos (by omega))).mono ?_; rintro e wt22 ⟨_, _, rfl, ⟨sD, kD, cD, xD, rfl, hD⟩, ⟨sE, kE, cE, xE, rfl, hE⟩, gD⟩
            have nD : RefV wt22 (.agg #[.slice sD kD cD]) (A / 2 ^ n) := ⟨_, _, _, _, rfl, hD⟩
            (try go_wp2_with fail)
            have hbx := heap_kept gD hbx
            have nx := nx.kept gD
            have hG0 := grown_trans hG0 gD
            have nT := nT.kept gD
            have hqa := heap_kept gD hqa
            have lta : pa < _ := (Array.getElem?_eq_some_iff.1 hqa).1
            have hqb := heap_kept gD hqb
            have ltb : pb < _ := (Array.getElem?_eq_some_iff.1 hqb).1
            refine hK.out _ _ (by exact (box_cell hbx).1) (fun hHeld => ?_)
            clear hK K gD hD hE
            try simp only [Act.put, List.getElem_toArray, List.getElem_cons_zero, List.getElem_cons_succ, List.setIfInBounds_toArray, List.set_cons_zero, List.set_cons_succ]
            refine wpAnyH_take (i := 4) (v := ?_) rfl (by kernel_rfl) (by kernel_rfl) (by kernel_rfl) (fun _ _ _ h => h) (Or.inl ⟨by rfl, ?_⟩) (by assumption) ?_
            rotate_left
            · (intro w hSw; (try dsimp only at hSw); go_simp; (try with_reducible rfl))
            try simp only [Act.put, List.getElem_toArray, List.getElem_cons_zero, List.getElem_cons_succ, List.setIfInBounds_toArray, List.set_cons_zero, List.set_cons_succ]
            refine wpAnyH_take (i := 5) (v := ?_) rfl (by kernel_rfl) (by kernel_rfl) (by kernel_rfl) (fun _ _ _ h => h) (Or.inl ⟨by rfl, ?_⟩) (by assumption) ?_
            rotate_left
            · (intro w hSw; (try dsimp only at hSw); go_simp; (try with_reducible rfl))
            try simp only [Act.put, List.getElem_toArray, List.getElem_cons_zero, List.getElem_cons_succ, List.setIfInBounds_toArray, List.set_cons_zero, List.set_cons_succ]
            refine wpAnyH_take (i := 6) (v := ?_) rfl (by kernel_rfl) (by kernel_rfl) (by kernel_rfl) (fun _ _ _ h => h) (Or.inl ⟨by rfl, ?_⟩) (by assumption) ?_
            rotate_left
            · (intro w hSw; (try dsimp only at hSw); go_simp; (try with_reducible rfl))
            try simp only [Act.put, List.getElem_toArray, List.getElem_cons_zero, List.getElem_cons_succ, List.setIfInBounds_toArray, List.set_cons_zero, List.set_cons_succ]
            obtain ⟨cqa, fqa⟩ := box_cell hqa
            obtain ⟨cqb, fqb⟩ := box_cell hqb
            have hqa1 := heap_set hqa (.slice sD kD cD)
            have hqb1 := heap_unset (g := pa) hqb (by omega) (.slice sD kD cD)
            have hbx1 := heap_unset (g := pa) hbx (by omega) (.slice sD kD cD)
            have nD1 := nD.set_other hqa (by decide) 0 (.slice sD kD cD)
            obtain ⟨cqb1, fqb1⟩ := box_cell hqb1
            refine wpAnyH_ready (rs := [9]) (by kernel_rfl) (by simp) ?_
            refine AllReadyH.cons rfl (fun K hK => ?_) AllReadyH.nil
            go_simp
            refine hK.out _ _ (by exact (box_cell hbx1).1) (fun hHeld => ?_)
            clear hK K
            try simp only [Act.put, List.getElem_toArray, List.getElem_cons_zero, List.getElem_cons_succ, List.setIfInBounds_toArray, List.set_cons_zero, List.set_cons_succ]
            refine wpAnyH_ready (rs := [10]) (by kernel_rfl) (by simp) ?_
            refine AllReadyH.cons rfl (fun K hK => ?_) AllReadyH.nil
            go_simp
            have hbx2 := heap_unset (g := pb) hbx1 (by omega) (.slice sE kE cE)
            refine hK.out _ _ (by exact (box_cell hbx2).1) (fun hHeld => ?_)
            clear hK K
            try simp only [Act.put, List.getElem_toArray, List.getElem_cons_zero, List.getElem_cons_succ, List.setIfInBounds_toArray, List.set_cons_zero, List.set_cons_succ]
            refine wpAnyH_done (by kernel_rfl) ?_ _
            have hqa2 := heap_unset (g := pb) hqa1 (by omega) (.slice sE kE cE)
            have nD2 := nD1.set_other hqb1 (by decide) 0 (.slice sE kE cE)
            have hG2 := grown_new (grown_new hG0 (grown_set (grown_refl _ (some pa)) 0 (.slice sD kD cD)) (by omega)) (grown_set (grown_refl _ (some pb)) 0 (.slice sE kE cE)) (by omega)
            go_wp2_with fail
            go_meet
            exact ⟨pa, sD, kD, cD, rfl, hqa2, nD2, hG2⟩
      · skip
        have gA := World.grownBy_alloc wt17 (.cells #[.slice none 0 0] 30) none
        have hqb := heap_new wt17 (.cells #[.slice none 0 0] 30) wt17.heap.size rfl
        have lob : w6.heap.size ≤ wt17.heap.size := hG0.size
        have hbx := heap_kept gA hbx
        have nx := nx.kept gA
        have hG0 := grown_trans hG0 gA
        have hqa := heap_kept gA hqa
        have lta : pa < _ := (Array.getElem?_eq_some_iff.1 hqa).1
        go_simp
        refine hK.out _ _ (by exact (box_cell hbx).1) (fun hHeld => ?_)
        clear hK K
        try simp only [Act.put, List.getElem_toArray, List.getElem_cons_zero, List.getElem_cons_succ, List.setIfInBounds_toArray, List.set_cons_zero, List.set_cons_succ]
        generalize (wt17.alloc (.cells #[.slice none 0 0] 30)) = wt23 at *
        generalize hp23 : wt17.heap.size = pb at *
        have ltb : pb < wt23.heap.size := (Array.getElem?_eq_some_iff.1 hqb).1
        have hpp : pa < pb := by first | assumption | omega | (rw [← hp23]; assumption)
        refine wpAnyH_ready (rs := [2]) (by kernel_rfl) (by simp) ?_
        refine AllReadyH.cons rfl (fun K hK => ?_) AllReadyH.nil
        · skip
          go_simp
          go_at_call 20; refine (rTwo_any wt23 n hn5).mono ?_; rintro e wt24 ⟨vT, rfl, nT, gT⟩
          (try go_wp2_with fail)
          have hbx := heap_kept gT hbx
          have nx := nx.kept gT
          have hG0 := grown_trans hG0 gT
          have hqa := heap_kept gT hqa
          have lta : pa < _ := (Array.getElem?_eq_some_iff.1 hqa).1
          have hqb := heap_kept gT hqb
          have ltb : pb < _ := (Array.getElem?_eq_some_iff.1 hqb).1
          refine hK.out _ _ (by exact (box_cell hbx).1) (fun hHeld => ?_)
          clear hK K gT
          try simp only [Act.put, List.getElem_toArray, List.getElem_cons_zero, List.getElem_cons_succ, List.setIfInBounds_toArray, List.set_cons_zero, List.set_cons_succ]
          refine wpAnyH_ready (rs := [3]) (by kernel_rfl) (by simp) ?_
          refine AllReadyH.cons rfl (fun K hK => ?_) AllReadyH.nil
          · skip
            go_simp
            go_at_call 36; refine (rDiv_any wt24 _ _ A (2 ^ n) nx nT (toD4 la (by omega)) hp2.out (Nat.pow_pos (by omega))).mono ?_; rintro e wt25 ⟨_, _, rfl, ⟨sD, kD, cD, xD, rfl, hD⟩, ⟨sE, kE, cE, xE, rfl, hE⟩, gD⟩
            have nD : RefV wt25 (.agg #[.slice sD kD cD]) (A / 2 ^ n) := ⟨_, _, _, _, rfl, hD⟩
            (try go_wp2_with fail)
            have hbx := heap_kept gD hbx
            have nx := nx.kept gD
            have hG0 := grown_trans hG0 gD
            have nT := nT.kept gD
            have hqa := heap_kept gD hqa
            have lta : pa < _ := (Array.getElem?_eq_some_iff.1 hqa).1
            have hqb := heap_kept gD hqb
            have ltb : pb < _ := (Array.getElem?_eq_some_iff.1 hqb).1
            refine hK.out _ _ (by exact (box_cell hbx).1) (fun hHeld => ?_)
            clear hK K gD hD hE
            try simp only [Act.put, List.getElem_toArray, List.getElem_cons_zero, List.getElem_cons_succ, List.setIfInBounds_toArray, List.set_cons_zero, List.set_cons_succ]
            refine wpAnyH_take (i := 4) (v := ?_) rfl (by kernel_rfl) (by kernel_rfl) (by kernel_rfl) (fun _ _ _ h => h) (Or.inl ⟨by rfl, ?_⟩) (by assumption) ?_
            rotate_left
            · (intro w hSw; (try dsimp only at hSw); go_simp; (try with_reducible rfl))
            try simp only [Act.put, List.getElem_toArray, List.getElem_cons_zero, List.getElem_cons_succ, List.setIfInBounds_toArray, List.set_cons_zero, List.set_cons_succ]
            refine wpAnyH_take (i := 5) (v := ?_) rfl (by kernel_rfl) (by kernel_rfl) (by kernel_rfl) (fun _ _ _ h => h) (Or.inl ⟨by rfl, ?_⟩) (by assumption) ?_
            rotate_left
            · (intro w hSw; (try dsimp only at hSw); go_simp; (try with_reducible rfl))
            try simp only [Act.put, List.getElem_toArray, List.getElem_cons_zero, List.getElem_cons_succ, List.setIfInBounds_toArray, List.set_cons_zero, List.set_cons_succ]
            refine wpAnyH_take (i := 6) (v := ?_) rfl (by kernel_rfl) (by kernel_rfl) (by kernel_rfl) (fun _ _ _ h => h) (Or.inl ⟨by rfl, ?_⟩) (by assumption) ?_
            rotate_left
            · (intro w hSw; (try dsimp only at hSw); go_simp; (try with_reducible rfl))
            try simp only [Act.put, List.getElem_toArray, List.getElem_cons_zero, List.getElem_cons_succ, List.setIfInBounds_toArray, List.set_cons_zero, List.set_cons_succ]
            obtain ⟨cqa, fqa⟩ := box_cell hqa
            obtain ⟨cqb, fqb⟩ := box_cell hqb
            have hqa1 := heap_set hqa (.slice sD kD cD)
            have hqb1 := heap_unset (g := pa) hqb (by omega) (.slice sD kD cD)
            have hbx1 := heap_unset (g := pa) hbx (by omega) (.slice sD kD cD)
            have nD1 := nD.set_other hqa (by decide) 0 (.slice sD kD cD)
            obtain ⟨cqb1, fqb1⟩ := box_cell hqb1
            refine wpAnyH_ready (rs := [9]) (by kernel_rfl) (by simp) ?_
            refine AllReadyH.cons rfl (fun K hK => ?_) AllReadyH.nil
            go_simp
            refine hK.out _ _ (by exact (box_cell hbx1).1) (fun hHeld => ?_)
            clear hK K
            try simp only [Act.put, List.getElem_toArray, List.getElem_cons_zero, List.getElem_cons_succ, List.setIfInBounds_toArray, List.set_cons_zero, List.set_cons_succ]
            refine wpAnyH_ready (rs := [10]) (by kernel_rfl) (by simp) ?_
            refine AllReadyH.cons rfl (fun K hK => ?_) AllReadyH.nil
            go_simp
            have hbx2 := heap_unset (g := pb) hbx1 (by omega) (.slice sE kE cE)
            refine hK.out _ _ (by exact (box_cell hbx2).1) (fun hHeld => ?_)
            clear hK K
            try simp only [Act.put, List.getElem_toArray, List.getElem_cons_zero, List.getElem_cons_succ, List.setIfInBounds_toArray, List.set_cons_zero, List.set_cons_succ]
            refine wpAnyH_done (by kernel_rfl) ?_ _
            have hqa2 := heap_unset (g := pb) hqa1 (by omega) (.slice sE kE cE)
            have nD2 := nD1.set_other hqb1 (by decide) 0 (.slice sE kE cE)
            have hG2 := grown_new (grown_new hG0 (grown_set (grown_refl _ (some pa)) 0 (.slice sD kD cD)) (by omega)) (grown_set (grown_refl _ (some pb)) 0 (.slice sE kE cE)) (by omega)
            go_wp2_with fail
            go_meet
            exact ⟨pa, sD, kD, cD, rfl, hqa2, nD2, hG2⟩
    · skip
      have gA := World.grownBy_alloc wt0 (.cells #[.slice none 0 0] 30) none
      have hqb := heap_new wt0 (.cells #[.slice none 0 0] 30) wt0.heap.size rfl
      have lob : w6.heap.size ≤ wt0.heap.size := hG0.size
      have hbx := heap_kept gA hbx
      have nx := nx.kept gA
      have hG0 := grown_trans hG0 gA
      go_simp
      refine hK.out _ _ (by exact (box_cell hbx).1) (fun hHeld => ?_)
      clear hK K
      try simp only [Act.put, List.getElem_toArray, List.getElem_cons_zero, List.getElem_cons_succ, List.setIfInBounds_toArray, List.set_cons_zero, List.set_cons_succ]
      generalize (wt0.alloc (.cells #[.slice none 0 0] 30)) = wt26 at *
      generalize hp26 : wt0.heap.size = pb at *
      have ltb : pb < wt26.heap.size := (Array.getElem?_eq_some_iff.1 hqb).1
      refine wpAnyH_ready (rs := [2, 7]) (by kernel_rfl) (by simp) ?_
      refine AllReadyH.cons rfl (fun K hK => ?_) (AllReadyH.cons rfl (fun K hK => ?_) AllReadyH.nil)
      · skip
        go_simp
        go_at_call 20; refine (rTwo_any wt26 n hn5).mono ?_; rintro e wt27 ⟨vT, rfl, nT, gT⟩
        (try go_wp2_with fail)
        have hbx := heap_kept gT hbx
        have nx := nx.kept gT
        have hG0 := grown_trans hG0 gT
        have hqb := heap_kept gT hqb
        have ltb : pb < _ := (Array.getElem?_eq_some_iff.1 hqb).1
        refine hK.out _ _ (by exact (box_cell hbx).1) (fun hHeld => ?_)
        clear hK K gT
        try simp only [Act.put, List.getElem_toArray, List.getElem_cons_zero, List.getElem_cons_succ, List.setIfInBounds_toArray, List.set_cons_zero, List.set_cons_succ]
        refine wpAnyH_ready (rs := [3, 7]) (by kernel_rfl) (by simp) ?_
        refine AllReadyH.cons rfl (fun K hK => ?_) (AllReadyH.cons rfl (fun K hK => ?_) AllReadyH.nil)
        · skip
          go_simp
          go_at_call 36; refine (rDiv_any wt27 _ _ A (2 ^ n) nx nT (toD4 la (by omega)) hp2.out (Nat.pow_pos (by omega))).mono ?_; rintro e wt28 ⟨_, _, rfl, ⟨sD, kD, cD, xD, rfl, hD⟩, ⟨sE, kE, cE, xE, rfl, hE⟩, gD⟩
          have nD : RefV wt28 (.agg #[.slice sD kD cD]) (A / 2 ^ n) := ⟨_, _, _, _, rfl, hD⟩
          (try go_wp2_with fail)
          have hbx := heap_kept gD hbx
          have nx := nx.kept gD
          have hG0 := grown_trans hG0 gD
          have nT := nT.kept gD
          have hqb := heap_kept gD hqb
          have ltb : pb < _ := (Array.getElem?_eq_some_iff.1 hqb).1
          refine hK.out _ _ (by exact (box_cell hbx).1) (fun hHeld => ?_)
          clear hK K gD hD hE
          try simp only [Act.put, List.getElem_toArray, List.getElem_cons_zero, List.getElem_cons_succ, List.setIfInBounds_toArray, List.set_cons_zero, List.set_cons_succ]
          refine wpAnyH_take (i := 4) (v := ?_) rfl (by kernel_rfl) (by kernel_rfl) (by kernel_rfl) (fun _ _ _ h => h) (Or.inl ⟨by rfl, ?_⟩) (by assumption) ?_
          rotate_left
          · (intro w hSw; (try dsimp only at hSw); go_simp; (try with_reducible rfl))
          try simp only [Act.put, List.getElem_toArray, List.getElem_cons_zero, List.getElem_cons_succ, List.setIfInBounds_toArray, List.set_cons_zero, List.set_cons_succ]
          refine wpAnyH_take (i := 5) (v := ?_) rfl (by kernel_rfl) (by kernel_rfl) (by kernel_rfl) (fun _ _ _ h => h) (Or.inl ⟨by rfl, ?_⟩) (by assumption) ?_
          rotate_left
          · (intro w hSw; (try dsimp only at hSw); go_simp; (try with_reducible rfl))
          try simp only [Act.put, List.getElem_toArray, List.getElem_cons_zero, List.getElem_cons_succ, List.setIfInBounds_toArray, List.set_cons_zero, List.set_cons_succ]
          refine wpAnyH_take (i := 6) (v := ?_) rfl (by kernel_rfl) (by kernel_rfl) (by kernel_rfl) (fun _ _ _ h => h) (Or.inl ⟨by rfl, ?_⟩) (by assumption) ?_
          rotate_left
          · (intro w hSw; (try dsimp only at hSw); go_simp; (try with_reducible rfl))
          try simp only [Act.put, List.getElem_toArray, List.getElem_cons_zero, List.getElem_cons_succ, List.setIfInBounds_toArray, List.set_cons_zero, List.set_cons_succ]
          refine wpAnyH_ready (rs := [7]) (by kernel_rfl) (by simp) ?_
          refine AllReadyH.cons rfl (fun K hK => ?_) AllReadyH.nil
          · skip
            have gA := World.grownBy_alloc wt28 (.cells #[.slice none 0 0] 30) none
            have hqa := heap_new wt28 (.cells #[.slice none 0 0] 30) wt28.heap.size rfl
            have loa : w6.heap.size ≤ wt28.heap.size := hG0.size
            have hbx := heap_kept gA hbx
            have nx := nx.kept gA
            have hG0 := grown_trans hG0 gA
            have nD := nD.kept gA
            have hqb := heap_kept gA hqb
            have ltb : pb < _ := (Array.getElem?_eq_some_iff.1 hqb).1
            go_simp
            refine hK.out _ _ (by exact (box_cell hbx).1) (fun hHeld => ?_)
            clear hK K
            try simp only [Act.put, List.getElem_toArray, List.getElem_cons_zero, List.getElem_cons_succ, List.setIfInBounds_toArray, List.set_cons_zero, List.set_cons_succ]
            generalize (wt28.alloc (.cells #[.slice none 0 0] 30)) = wt29 at *
            generalize hp29 : wt28.heap.size = pa at *
            have lta : pa < wt29.heap.size := (Array.getElem?_eq_some_iff.1 hqa).1
            have hpp : pb < pa := by first | assumption | omega | (rw [← hp29]; assumption)
            obtain ⟨cqa, fqa⟩ := box_cell hqa
            obtain ⟨cqb, fqb⟩ := box_cell hqb
            have hqa1 := heap_set hqa (.slice sD kD cD)
            have hqb1 := heap_unset (g := pa) hqb (by omega) (.slice sD kD cD)
            have hbx1 := heap_unset (g := pa) hbx (by omega) (.slice sD kD cD)
            have nD1 := nD.set_other hqa (by decide) 0 (.slice sD kD cD)
            obtain ⟨cqb1, fqb1⟩ := box_cell hqb1
            refine wpAnyH_ready (rs := [9]) (by kernel_rfl) (by simp) ?_
            refine AllReadyH.cons rfl (fun K hK => ?_) AllReadyH.nil
            go_simp
            refine hK.out _ _ (by exact (box_cell hbx1).1) (fun hHeld => ?_)
            clear hK K
            try simp only [Act.put, List.getElem_toArray, List.getElem_cons_zero, List.getElem_cons_succ, List.setIfInBounds_toArray, List.set_cons_zero, List.set_cons_succ]
            refine wpAnyH_ready (rs := [10]) (by kernel_rfl) (by simp) ?_
            refine AllReadyH.cons rfl (fun K hK => ?_) AllReadyH.nil
            go_simp
            have hbx2 := heap_unset (g := pb) hbx1 (by omega) (.slice sE kE cE)
            refine hK.out _ _ (by exact (box_cell hbx2).1) (fun hHeld => ?_)
            clear hK K
            try simp only [Act.put, List.getElem_toArray, List.getElem_cons_zero, List.getElem_cons_succ, List.setIfInBounds_toArray, List.set_cons_zero, List.set_cons_succ]
            refine wpAnyH_done (by kernel_rfl) ?_ _
            have hqa2 := heap_unset (g := pb) hqa1 (by omega) (.slice sE kE cE)
            have nD2 := nD1.set_other hqb1 (by decide) 0 (.slice sE kE cE)
            have hG2 := grown_new (grown_new hG0 (grown_set (grown_refl _ (some pa)) 0 (.slice sD kD cD)) (by omega)) (grown_set (grown_refl _ (some pb)) 0 (.slice sE kE cE)) (by omega)
            go_wp2_with fail
            go_meet
            exact ⟨pa, sD, kD, cD, rfl, hqa2, nD2, hG2⟩
        · skip
          have gA := World.grownBy_alloc wt27 (.cells #[.slice none 0 0] 30) none
          have hqa := heap_new wt27 (.cells #[.slice none 0 0] 30) wt27.heap.size rfl
          have loa : w6.heap.size ≤ wt27.heap.size := hG0.size
          have hbx := heap_kept gA hbx
          have nx := nx.kept gA
          have hG0 := grown_trans hG0 gA
          have nT := nT.kept gA
          have hqb := heap_kept gA hqb
          have ltb : pb < _ := (Array.getElem?_eq_some_iff.1 hqb).1
          go_simp
          refine hK.out _ _ (by exact (box_cell hbx).1) (fun hHeld => ?_)
          clear hK K
          try simp only [Act.put, List.getElem_toArray, List.getElem_cons_zero, List.getElem_cons_succ, List.setIfInBounds_toArray, List.set_cons_zero, List.set_cons_succ]
          generalize (wt27.alloc (.cells #[.slice none 0 0] 30)) = wt30 at *
          generalize hp30 : wt27.heap.size = pa at *
          have lta : pa < wt30.heap.size := (Array.getElem?_eq_some_iff.1 hqa).1
          have hpp : pb < pa := by first | assumption | omega | (rw [← hp30]; assumption)
          refine wpAnyH_ready (rs := [3]) (by kernel_rfl) (by simp) ?_
          refine AllReadyH.cons rfl (fun K hK => ?_) AllReadyH.nil
          · skip
            go_simp
            go_at_call 36; refine (rDiv_any wt30 _ _ A (2 ^ n) nx nT (toD4 la (by omega)) hp2.out (Nat.pow_pos (by omega))).mono ?_; rintro e wt31 ⟨_, _, rfl, ⟨sD, kD, cD, xD, rfl, hD⟩, ⟨sE, kE, cE, xE, rfl, hE⟩, gD⟩
            have nD : RefV wt31 (.agg #[.slice sD kD cD]) (A / 2 ^ n) := ⟨_, _, _, _, rfl, hD⟩
            (try go_wp2_with fail)
            have hbx := heap_kept gD hbx
            have nx := nx.kept gD
            have hG0 := grown_trans hG0 gD
            have nT := nT.kept gD
            have hqa := heap_kept gD hqa
            have lta : pa < _ := (Array.getElem?_eq_some_iff.1 hqa).1
            have hqb := heap_kept gD hqb
            have ltb : pb < _ := (Array.getElem?_eq_some_iff.1 hqb).1
            refine hK.out _ _ (by exact (box_cell hbx).1) (fun hHeld => ?_)
            clear hK K gD hD hE
            try simp only [Act.put, List.getElem_toArray, List.getElem_cons_zero, List.getElem_cons_succ, List.setIfInBounds_toArray, List.set_cons_zero, List.set_cons_succ]
            refine wpAnyH_take (i := 4) (v := ?_) rfl (by kernel_rfl) (by kernel_rfl) (by kernel_rfl) (fun _ _ _ h => h) (Or.inl ⟨by rfl, ?_⟩) (by assumption) ?_
            rotate_left
            · (intro w hSw; (try dsimp only at hSw); go_simp; (try with_reducible rfl))
            try simp only [Act.put, List.getElem_toArray, List.getElem_cons_zero, List.getElem_cons_succ, List.setIfInBounds_toArray, List.set_cons_zero, List.set_cons_succ]
            refine wpAnyH_take (i := 5) (v := ?_) rfl (by kernel_rfl) (by kernel_rfl) (by kernel_rfl) (fun _ _ _ h => h) (Or.inl ⟨by rfl, ?_⟩) (by assumption) ?_
            rotate_left
            · (intro w hSw; (try dsimp only at hSw); go_simp; (try with_reducible rfl))
            try simp only [Act.put, List.getElem_toArray, List.getElem_cons_zero, List.getElem_cons_succ, List.setIfInBounds_toArray, List.set_cons_zero, List.set_cons_succ]
            refine wpAnyH_take (i := 6) (v := ?_) rfl (by kernel_rfl) (by kernel_rfl) (by kernel_rfl) (fun _ _ _ h => h) (Or.inl ⟨by rfl, ?_⟩) (by assumption) ?_
            rotate_left
            · (intro w hSw; (try dsimp only at hSw); go_simp; (try with_reducible rfl))
            try simp only [Act.put, List.getElem_toArray, List.getElem_cons_zero, List.getElem_cons_succ, List.setIfInBounds_toArray, List.set_cons_zero, List.set_cons_succ]
            obtain ⟨cqa, fqa⟩ := box_cell hqa
            obtain ⟨cqb, fqb⟩ := box_cell hqb
            have hqa1 := heap_set hqa (.slice sD kD cD)
            have hqb1 := heap_unset (g := pa) hqb (by omega) (.slice sD kD cD)
            have hbx1 := heap_unset (g := pa) hbx (by omega) (.slice sD kD cD)
            have nD1 := nD.set_other hqa (by decide) 0 (.slice sD kD cD)
            obtain ⟨cqb1, fqb1⟩ := box_cell hqb1
            refine wpAnyH_ready (rs := [9]) (by kernel_rfl) (by simp) ?_
            refine AllReadyH.cons rfl (fun K hK => ?_) AllReadyH.nil
            go_simp
            refine hK.out _ _ (by exact (box_cell hbx1).1) (fun hHeld => ?_)
            clear hK K
            try simp only [Act.put, List.getElem_toArray, List.getElem_cons_zero, List.getElem_cons_succ, List.setIfInBounds_toArray, List.set_cons_zero, List.set_cons_succ]
            refine wpAnyH_ready (rs := [10]) (by kernel_rfl) (by simp) ?_
            refine AllReadyH.cons rfl (fun K hK => ?_) AllReadyH.nil
            go_simp
            have hbx2 := heap_unset (g := pb) hbx1 (by omega) (.slice sE kE cE)
            refine hK.out _ _ (by exact (box_cell hbx2).1) (fun hHeld => ?_)
            clear hK K
            try simp only [Act.put, List.getElem_toArray, List.getElem_cons_zero, List.getElem_cons_succ, List.setIfInBounds_toArray, List.set_cons_zero, List.set_cons_succ]
            refine wpAnyH_done (by kernel_rfl) ?_ _
            have hqa2 := heap_unset (g := pb) hqa1 (by omega) (.slice sE kE cE)
            have nD2 := nD1.set_other hqb1 (by decide) 0 (.slice sE kE cE)
            have hG2 := grown_new (grown_new hG0 (grown_set (grown_refl _ (some pa)) 0 (.slice sD kD cD)) (by omega)) (grown_set (grown_refl _ (some pb)) 0 (.slice sE kE cE)) (by omega)
            go_wp2_with fail
            go_meet
            exact ⟨pa, sD, kD, cD, rfl, hqa2, nD2, hG2⟩
      · skip
        have gA := World.grownBy_alloc wt26 (.cells #[.slice none 0 0] 30) none
        have hqa := heap_new wt26 (.cells #[.slice none 0 0] 30) wt26.heap.size rfl
        have loa : w6.heap.size ≤ wt26.heap.size := hG0.size
        have hbx := heap_kept gA hbx
        have nx := nx.kept gA
        have hG0 := grown_trans hG0 gA
        have hqb := heap_kept gA hqb
        have ltb : pb < _ := (Array.getElem?_eq_some_iff.1 hqb).1
        go_simp
        refine hK.out _ _ (by exact (box_cell hbx).1) (fun hHeld => ?_)
        clear hK K
        try simp only [Act.put, List.getElem_toArray, List.getElem_cons_zero, List.getElem_cons_succ, List.setIfInBounds_toArray, List.set_cons_zero, List.set_cons_succ]
        generalize (wt26.alloc (.cells #[.slice none 0 0] 30)) = wt32 at *
        generalize hp32 : wt26.heap.size = pa at *
        have lta : pa < wt32.heap.size := (Array.getElem?_eq_some_iff.1 hqa).1
        have hpp : pb < pa := by first | assumption | omega | (rw [← hp32]; assumption)
        refine wpAnyH_ready (rs := [2]) (by kernel_rfl) (by simp) ?_
        refine AllReadyH.cons rfl (fun K hK => ?_) AllReadyH.nil
        · skip
          go_simp
          go_at_call 20; refine (rTwo_any wt32 n hn5).mono ?_; rintro e wt33 ⟨vT, rfl, nT, gT⟩
          (try go_wp2_with fail)
          have hbx := heap_kept gT hbx
          have nx := nx.kept gT
          have hG0 := grown_trans hG0 gT
          have hqa := heap_kept gT hqa
          have lta : pa < _ := (Array.getElem?_eq_some_iff.1 hqa).1
          have hqb := heap_kept gT hqb
          have ltb : pb < _ := (Array.getElem?_eq_some_iff.1 hqb).1
          refine hK.out _ _ (by exact (box_cell hbx).1) (fun hHeld => ?_)
          clear hK K gT
          try simp only [Act.put, List.getElem_toArray, List.getElem_cons_zero, List.getElem_cons_succ, List.setIfInBounds_toArray, List.set_cons_zero, List.set_cons_succ]
          refine wpAnyH_ready (rs := [3]) (by kernel_rfl) (by simp) ?_
          refine AllReadyH.cons rfl (fun K hK => ?_) AllReadyH.nil
          · skip
            go_simp
            go_at_call 36; refine (rDiv_any wt33 _ _ A (2 ^ n) nx nT (toD4 la (by omega)) hp2.out (Nat.pow_pos (by omega))).mono ?_; rintro e wt34 ⟨_, _, rfl, ⟨sD, kD, cD, xD, rfl, hD⟩, ⟨sE, kE, cE, xE, rfl, hE⟩, gD⟩
            have nD : RefV wt34 (.agg #[.slice sD kD cD]) (A / 2 ^ n) := ⟨_, _, _, _, rfl, hD⟩
            (try go_wp2_with fail)
            have hbx := heap_kept gD hbx
            have nx := nx.kept gD
            have hG0 := grown_trans hG0 gD
            have nT := nT.kept gD
            have hqa := heap_kept gD hqa
            have lta : pa < _ := (Array.getElem?_eq_some_iff.1 hqa).1
            have hqb := heap_kept gD hqb
            have ltb : pb < _ := (Array.getElem?_eq_some_iff.1 hqb).1
            refine hK.out _ _ (by exact (box_cell hbx).1) (fun hHeld => ?_)
            clear hK K gD hD hE
            try simp only [Act.put, List.getElem_toArray, List.getElem_cons_zero, List.getElem_cons_succ, List.setIfInBounds_toArray, List.set_cons_zero, List.set_cons_succ]
            refine wpAnyH_take (i := 4) (v := ?_) rfl (by kernel_rfl) (by kernel_rfl) (by kernel_rfl) (fun _ _ _ h => h) (Or.inl ⟨by rfl, ?_⟩) (by assumption) ?_
            rotate_left
            · (intro w hSw; (try dsimp only at hSw); go_simp; (try with_reducible rfl))
            try simp only [Act.put, List.getElem_toArray, List.getElem_cons_zero, List.getElem_cons_succ, List.setIfInBounds_toArray, List.set_cons_zero, List.set_cons_succ]
            refine wpAnyH_take (i := 5) (v := ?_) rfl (by kernel_rfl) (by kernel_rfl) (by kernel_rfl) (fun _ _ _ h => h) (Or.inl ⟨by rfl, ?_⟩) (by assumption) ?_
            rotate_left
            · (intro w hSw; (try dsimp only at hSw); go_simp; (try with_reducible rfl))
            try simp only [Act.put, List.getElem_toArray, List.getElem_cons_zero, List.getElem_cons_succ, List.setIfInBounds_toArray, List.set_cons_zero, List.set_cons_succ]
            refine wpAnyH_take (i := 6) (v := ?_) rfl (by kernel_rfl) (by kernel_rfl) (by kernel_rfl) (fun _ _ _ h => h) (Or.inl ⟨by rfl, ?_⟩) (by assumption) ?_
            rotate_left
            · (intro w hSw; (try dsimp only at hSw); go_simp; (try with_reducible rfl))
            try simp only [Act.put, List.getElem_toArray, List.getElem_cons_zero, List.getElem_cons_succ, List.setIfInBounds_toArray, List.set_cons_zero, List.set_cons_succ]
            obtain ⟨cqa, fqa⟩ := box_cell hqa
            obtain ⟨cqb, fqb⟩ := box_cell hqb
            have hqa1 := heap_set hqa (.slice sD kD cD)
            have hqb1 := heap_unset (g := pa) hqb (by omega) (.slice sD kD cD)
            have hbx1 := heap_unset (g := pa) hbx (by omega) (.slice sD kD cD)
            have nD1 := nD.set_other hqa (by decide) 0 (.slice sD kD cD)
            obtain ⟨cqb1, fqb1⟩ := box_cell hqb1
            refine wpAnyH_ready (rs := [9]) (by kernel_rfl) (by simp) ?_
            refine AllReadyH.cons rfl (fun K hK => ?_) AllReadyH.nil
            go_simp
            refine hK.out _ _ (by exact (box_cell hbx1).1) (fun hHeld => ?_)
            clear hK K
            try simp only [Act.put, List.getElem_toArray, List.getElem_cons_zero, List.getElem_cons_succ, List.setIfInBounds_toArray, List.set_cons_zero, List.set_cons_succ]
            refine wpAnyH_ready (rs := [10]) (by kernel_rfl) (by simp) ?_
            refine AllReadyH.cons rfl (fun K hK => ?_) AllReadyH.nil
            go_simp
            have hbx2 := heap_unset (g := pb) hbx1 (by omega) (.slice sE kE cE)
            refine hK.out _ _ (by exact (box_cell hbx2).1) (fun hHeld => ?_)
            clear hK K
            try simp only [Act.put, List.getElem_toArray, List.getElem_cons_zero, List.getElem_cons_succ, List.setIfInBounds_toArray, List.set_cons_zero, List.set_cons_succ]
            refine wpAnyH_done (by kernel_rfl) ?_ _
            have hqa2 := heap_unset (g := pb) hqa1 (by omega) (.slice sE kE cE)
            have nD2 := nD1.set_other hqb1 (by decide) 0 (.slice sE kE cE)
            have hG2 := grown_new (grown_new hG0 (grown_set (grown_refl _ (some pa)) 0 (.slice sD kD cD)) (by omega)) (grown_set (grown_refl _ (some pb)) 0 (.slice sE kE cE)) (by omega)
            go_wp2_with fail
            go_meet
            exact ⟨pa, sD, kD, cD, rfl, hqa2, nD2, hG2⟩
  case rest =>
    obtain ⟨pby, sy, ly, cy, rfl, hby, ny, gcut⟩ := hcut
    replace ba1 := heap_kept gcut ba1
    replace bb1 := heap_kept gcut bb1
    replace bx1 := heap_kept gcut bx1
    replace by1 := heap_kept gcut by1
    replace bu := heap_kept gcut bu
    replace bv := heap_kept gcut bv
    replace na1 := na1.kept gcut
    replace nx1 := nx1.kept gcut
    replace nu := nu.kept gcut
    replace nv := nv.kept gcut
    replace hT := hT.kept gcut (by simp)
    replace hG := grown_trans hG gcut
    clear gcut
    obtain ⟨cba1, fba1⟩ := box_cell ba1
    obtain ⟨cbb1, fbb1⟩ := box_cell bb1
    obtain ⟨cbx1, fbx1⟩ := box_cell bx1
    obtain ⟨cby1, fby1⟩ := box_cell by1
    obtain ⟨cbu, fbu⟩ := box_cell bu
    obtain ⟨cbv, fbv⟩ := box_cell bv
    obtain ⟨chby, fhby⟩ := box_cell hby
    go_wp2_with fail
    go_region_held3 (fun w' => w'.cell? ⟨auw2, 0, none⟩ = some (.slice su xu.length xu.length) ∧ w'.cell? ⟨at1 + 1 + 1, 0, none⟩ = some (.slice sx1 lx1 cx1) ∧ w'.cell? ⟨auw4, 0, none⟩ = some (.slice sv xv.length xv.length) ∧ w'.cell? ⟨pby, 0, none⟩ = some (.slice sy ly cy))
      (first | assumption | exact ⟨cbu, cbx1, cbv, chby⟩ | go_keep)
      (first
        | (go_at_call 20; (with_reducible refine (rTwo_any wc.drew n hn5).mono ?_); rintro e w7_1 ⟨_, rfl, nt, gw7_1⟩; have hGw7_1 := grown_pre wc gw7_1 rfl rfl rfl rfl; have hSw7_1 := (And.intro (hGw7_1.cell cbu (by simp)) (And.intro (hGw7_1.cell cbx1 (by simp)) (And.intro (hGw7_1.cell cbv (by simp)) (hGw7_1.cell chby (by simp))))); clear gw7_1)
        | (go_at_call 34; (with_reducible refine (rMul_any w7_1 _ _ A (2 ^ n) (nx1.kept hGw7_1) nt (toD la (by omega)) (d4_to hp2.out)).mono ?_); rintro e w7_2 ⟨_, rfl, nr, gw7_2⟩; have hGw7_2 := grown_trans hGw7_1 gw7_2; replace nt := nt.kept gw7_2; have hSw7_2 := (And.intro (hGw7_2.cell cbu (by simp)) (And.intro (hGw7_2.cell cbx1 (by simp)) (And.intro (hGw7_2.cell cbv (by simp)) (hGw7_2.cell chby (by simp))))); clear gw7_2; clear hGw7_1 hSw7_1)
        | (go_at_call 21; (with_reducible refine (same_any w7_2 _ _ _ 1035 (nu.kept hGw7_2) nr (by omega) lu (toD lu (by omega))).mono ?_); rintro e w7_3 ⟨rfl, gw7_3⟩; have hGw7_3 := grown_trans hGw7_2 gw7_3; replace nt := nt.kept gw7_3; replace nr := nr.kept gw7_3; have hSw7_3 := (And.intro (hGw7_3.cell cbu (by simp)) (And.intro (hGw7_3.cell cbx1 (by simp)) (And.intro (hGw7_3.cell cbv (by simp)) (hGw7_3.cell chby (by simp))))); clear gw7_3; clear hGw7_2 hSw7_2)
        | (go_at_call 21; (with_reducible refine (same_any w7_3 _ _ _ 11 (nv.kept hGw7_3) (ny.kept hGw7_3) (by omega) lv (toD lv (by omega))).mono ?_); rintro e w7_4 ⟨rfl, gw7_4⟩; have hGw7_4 := grown_trans hGw7_3 gw7_4; have hSw7_4 := (And.intro (hGw7_4.cell cbu (by simp)) (And.intro (hGw7_4.cell cbx1 (by simp)) (And.intro (hGw7_4.cell cbv (by simp)) (hGw7_4.cell chby (by simp))))); clear gw7_4; clear hGw7_3 hSw7_3))
    replace ba1 := heap_kept hGw7_4 ba1
    replace bb1 := heap_kept hGw7_4 bb1
    replace bx1 := heap_kept hGw7_4 bx1
    replace by1 := heap_kept hGw7_4 by1
    replace bu := heap_kept hGw7_4 bu
    replace bv := heap_kept hGw7_4 bv
    replace hby := heap_kept hGw7_4 hby
    replace na1 := na1.kept hGw7_4
    replace nx1 := nx1.kept hGw7_4
    replace nu := nu.kept hGw7_4
    replace nv := nv.kept hGw7_4
    replace ny := ny.kept hGw7_4
    replace hT := hT.kept hGw7_4 (by simp)
    replace hG := grown_trans hG hGw7_4
    clear cba1 fba1 cbb1 fbb1 cbx1 fbx1 cby1 fby1 cbu fbu cbv fbv chby fhby
    obtain ⟨cba1, fba1⟩ := box_cell ba1
    obtain ⟨cbb1, fbb1⟩ := box_cell bb1
    obtain ⟨cbx1, fbx1⟩ := box_cell bx1
    obtain ⟨cby1, fby1⟩ := box_cell by1
    obtain ⟨cbu, fbu⟩ := box_cell bu
    obtain ⟨cbv, fbv⟩ := box_cell bv
    obtain ⟨chby, fhby⟩ := box_cell hby
    go_wp2_with fail
    go_ret
    exact ⟨rfl, hG⟩
end Go.Proofs.YtooeonjkpgbdpaaDoor
