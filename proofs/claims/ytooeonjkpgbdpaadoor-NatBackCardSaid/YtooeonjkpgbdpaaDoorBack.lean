/- NatBack: what was divided, what was rooted, comes back. -/
import Derived.Test.YtooeonjkpgbdpaaDoorLaw
import Derived.Deep.RegionHeld3
namespace Go.Proofs.YtooeonjkpgbdpaaDoor
open Go.RowKit Mat
set_option maxRecDepth 100000
set_option linter.unusedVariables false
set_option linter.unusedSimpArgs false

theorem bw {a k n : Nat} (h : a < B ^ k) (hk : k ≤ n) : a < B ^ n := Nat.lt_of_lt_of_le h (Nat.pow_le_pow_right B_pos hk)
theorem badd {a b k : Nat} (h1 : a < B ^ k) (h2 : b < B ^ k) : a + b < B ^ (k + 1) := by
  have : B ^ (k + 1) = B ^ k * B := Nat.pow_succ ..
  have h3 : B ^ k * 2 ≤ B ^ k * B := Nat.mul_le_mul_left _ (by decide)
  omega
theorem bmul {a b k m : Nat} (h1 : a < B ^ k) (h2 : b < B ^ m) : a * b < B ^ (k + m) := by
  rw [Nat.pow_add]; exact Nat.mul_lt_mul'' h1 h2
theorem num_bd (s : ByteArray) : num (fewB s 200) < B ^ 11 :=
  Nat.lt_trans (num_lt _ 200 (fewB_size s 200)) (by decide +kernel)
theorem Of_0 (w : World) : Calls Tryd.prog 22 #[.int .u64 0] w (RetNat w 0) := Of_any w 0 (by decide)
theorem Of_1 (w : World) : Calls Tryd.prog 22 #[.int .u64 1] w (RetNat w 1) := Of_any w 1 (by decide)
theorem Root_any (w : World) (va : Value) (a K : Nat) (ha : NatV w va a) (la : a < B ^ K) (hK1 : 1 ≤ K) (hK : K ≤ 536870912) :
    Calls Tryd.prog 39 #[va] w (RetRooted w a) := by
  rcases Nat.eq_zero_or_pos a with h | h
  · subst h; exact Root_zero w va ha
  · exact Root_some w va a K ha h la hK1 hK
theorem root_rest {a r : Nat} (h : IsRoot a r) : a - r * r ≤ r + r := by
  have h2 := h.2
  have e : (r + 1) * (r + 1) = r * r + r + r + 1 := by grind
  omega
theorem cmpInt_le {a b : Nat} (h : a ≤ b) : ¬ (0 : Int) < cmpInt a b := by
  rcases Nat.lt_or_ge a b with h1 | h1
  · rw [cmpInt_lt h1]; decide
  · rw [cmpInt_eq (by omega)]; decide

set_option maxHeartbeats 8000000 in
theorem natBack_walk (w : World) (s t : ByteArray) (hT : Tab w) :
    Calls Tryd.prog 12 #[.string s, .string t] w (fun e w' => e = .returned (.bool true) ∧ w.grownBy w' none) := by
  have hG : w.grownBy w none := grown_refl _ _
  have la := num_bd s
  have lb := num_bd t
  go_enter Tryd.func12, Tryd.ntmps12
  go_wp2_with fail
  refine (two_any w s t).mono ?_
  rintro e t1 ⟨_, _, _, _, rfl, ⟨sa1, xa1, rfl, ha1, va1⟩, ⟨sb1, xb1, rfl, hb1, vb1⟩, ⟨sx1, lx1, cx1, xx1, rfl, hx1⟩, ⟨sy1, ly1, cy1, xy1, rfl, hy1⟩, g1⟩
  have na1 : NatV t1 (.agg #[.slice sa1 xa1.length xa1.length]) (num (fewB s 200)) := ⟨_, _, rfl, ha1, va1⟩
  have nb1 : NatV t1 (.agg #[.slice sb1 xb1.length xb1.length]) (num (fewB t 200)) := ⟨_, _, rfl, hb1, vb1⟩
  have nx1 : RefV t1 (.agg #[.slice sx1 lx1 cx1]) (num (fewB s 200)) := ⟨_, _, _, _, rfl, hx1⟩
  have ny1 : RefV t1 (.agg #[.slice sy1 ly1 cy1]) (num (fewB t 200)) := ⟨_, _, _, _, rfl, hy1⟩
  replace hT := hT.kept g1 (by simp)
  replace hG := grown_trans hG g1
  clear ha1 va1 hb1 vb1 hx1 hy1 g1
  have ba1 := heap_kept (grown_alloc (grown_alloc (World.grownBy_alloc (t1.alloc (.cells #[.slice sa1 xa1.length xa1.length] 24)) (.cells #[.slice sb1 xb1.length xb1.length] 24) none) (.cells #[.slice sx1 lx1 cx1] 30)) (.cells #[.slice sy1 ly1 cy1] 30)) (heap_new t1 (.cells #[.slice sa1 xa1.length xa1.length] 24) (t1.heap.size) rfl)
  have bb1 := heap_kept (grown_alloc (World.grownBy_alloc ((t1.alloc (.cells #[.slice sa1 xa1.length xa1.length] 24)).alloc (.cells #[.slice sb1 xb1.length xb1.length] 24)) (.cells #[.slice sx1 lx1 cx1] 30) none) (.cells #[.slice sy1 ly1 cy1] 30)) (heap_new (t1.alloc (.cells #[.slice sa1 xa1.length xa1.length] 24)) (.cells #[.slice sb1 xb1.length xb1.length] 24) (t1.heap.size + 1) (by simp))
  have bx1 := heap_kept (World.grownBy_alloc (((t1.alloc (.cells #[.slice sa1 xa1.length xa1.length] 24)).alloc (.cells #[.slice sb1 xb1.length xb1.length] 24)).alloc (.cells #[.slice sx1 lx1 cx1] 30)) (.cells #[.slice sy1 ly1 cy1] 30) none) (heap_new ((t1.alloc (.cells #[.slice sa1 xa1.length xa1.length] 24)).alloc (.cells #[.slice sb1 xb1.length xb1.length] 24)) (.cells #[.slice sx1 lx1 cx1] 30) (t1.heap.size + 1 + 1) (by simp))
  have by1 := (heap_new (((t1.alloc (.cells #[.slice sa1 xa1.length xa1.length] 24)).alloc (.cells #[.slice sb1 xb1.length xb1.length] 24)).alloc (.cells #[.slice sx1 lx1 cx1] 30)) (.cells #[.slice sy1 ly1 cy1] 30) (t1.heap.size + 1 + 1 + 1) (by simp))
  have gbt1 := (grown_alloc (grown_alloc (grown_alloc (World.grownBy_alloc t1 (.cells #[.slice sa1 xa1.length xa1.length] 24) none) (.cells #[.slice sb1 xb1.length xb1.length] 24)) (.cells #[.slice sx1 lx1 cx1] 30)) (.cells #[.slice sy1 ly1 cy1] 30))
  replace na1 := na1.kept gbt1
  replace nb1 := nb1.kept gbt1
  replace nx1 := nx1.kept gbt1
  replace ny1 := ny1.kept gbt1
  replace hT := hT.kept gbt1 (by simp)
  replace hG := grown_trans hG gbt1
  clear gbt1
  obtain ⟨cba1, fba1⟩ := box_cell ba1
  obtain ⟨cbb1, fbb1⟩ := box_cell bb1
  obtain ⟨cbx1, fbx1⟩ := box_cell bx1
  obtain ⟨cby1, fby1⟩ := box_cell by1
  go_wp2_with fail
  generalize ((((t1.alloc (.cells #[.slice sa1 xa1.length xa1.length] 24)).alloc (.cells #[.slice sb1 xb1.length xb1.length] 24)).alloc (.cells #[.slice sx1 lx1 cx1] 30)).alloc (.cells #[.slice sy1 ly1 cy1] 30)) = w1 at *
  generalize t1.heap.size = at1 at *
  generalize (fine (fewB s 200) && fine (fewB t 200)) = o1 at *
  generalize num (fewB s 200) = A at *
  generalize num (fewB t 200) = Bn at *
  clear nx1 ny1
  cases o1
  · skip
    clear cba1 fba1 cbb1 fbb1 cbx1 fbx1 cby1 fby1
    refine (known_any w1 hT).mono ?_
    rintro e w2 ⟨rfl, gw2⟩
    replace hT := hT.kept gw2 (by simp)
    replace hG := grown_trans hG gw2
    clear gw2
    go_wp2_with fail
    refine (known_any w2 hT).mono ?_
    rintro e w3 ⟨rfl, gw3⟩
    replace hT := hT.kept gw3 (by simp)
    replace hG := grown_trans hG gw3
    clear gw3
    go_wp2_with fail
    go_ret
    exact ⟨rfl, hG⟩
  clear cba1 fba1 cbb1 fbb1 cbx1 fbx1 cby1 fby1
  refine (known_any w1 hT).mono ?_
  rintro e w2 ⟨rfl, gw2⟩
  replace ba1 := heap_kept gw2 ba1
  replace bb1 := heap_kept gw2 bb1
  replace bx1 := heap_kept gw2 bx1
  replace by1 := heap_kept gw2 by1
  replace na1 := na1.kept gw2
  replace nb1 := nb1.kept gw2
  replace hT := hT.kept gw2 (by simp)
  replace hG := grown_trans hG gw2
  clear gw2
  obtain ⟨cba1, fba1⟩ := box_cell ba1
  obtain ⟨cbb1, fbb1⟩ := box_cell bb1
  obtain ⟨cbx1, fbx1⟩ := box_cell bx1
  obtain ⟨cby1, fby1⟩ := box_cell by1
  go_wp2_with fail
  clear cba1 fba1 cbb1 fbb1 cbx1 fbx1 cby1 fby1
  refine (Root_any w2 _ _ 11 na1 la (by omega) (by omega)).mono ?_
  rintro e uw3 ⟨r, hr, _, _, rfl, ⟨sr, xr, rfl, hr, vr⟩, ⟨sm, xm, rfl, hm, vm⟩, guw3⟩
  have nr : NatV uw3 (.agg #[.slice sr xr.length xr.length]) (r) := ⟨_, _, rfl, hr, vr⟩
  have nm : NatV uw3 (.agg #[.slice sm xm.length xm.length]) (A - r * r) := ⟨_, _, rfl, hm, vm⟩
  replace ba1 := heap_kept guw3 ba1
  replace bb1 := heap_kept guw3 bb1
  replace bx1 := heap_kept guw3 bx1
  replace by1 := heap_kept guw3 by1
  replace na1 := na1.kept guw3
  replace nb1 := nb1.kept guw3
  replace hT := hT.kept guw3 (by simp)
  replace hG := grown_trans hG guw3
  clear guw3 hr vr hm vm
  have br := heap_kept (World.grownBy_alloc (uw3.alloc (.cells #[.slice sr xr.length xr.length] 24)) (.cells #[.slice sm xm.length xm.length] 24) none) (heap_new uw3 (.cells #[.slice sr xr.length xr.length] 24) (uw3.heap.size) rfl)
  have bm := (heap_new (uw3.alloc (.cells #[.slice sr xr.length xr.length] 24)) (.cells #[.slice sm xm.length xm.length] 24) (uw3.heap.size + 1) (by simp))
  have gbuw3 := (grown_alloc (World.grownBy_alloc uw3 (.cells #[.slice sr xr.length xr.length] 24) none) (.cells #[.slice sm xm.length xm.length] 24))
  replace ba1 := heap_kept gbuw3 ba1
  replace bb1 := heap_kept gbuw3 bb1
  replace bx1 := heap_kept gbuw3 bx1
  replace by1 := heap_kept gbuw3 by1
  replace na1 := na1.kept gbuw3
  replace nb1 := nb1.kept gbuw3
  replace nr := nr.kept gbuw3
  replace nm := nm.kept gbuw3
  replace hT := hT.kept gbuw3 (by simp)
  replace hG := grown_trans hG gbuw3
  clear gbuw3
  obtain ⟨cba1, fba1⟩ := box_cell ba1
  obtain ⟨cbb1, fbb1⟩ := box_cell bb1
  obtain ⟨cbx1, fbx1⟩ := box_cell bx1
  obtain ⟨cby1, fby1⟩ := box_cell by1
  obtain ⟨cbr, fbr⟩ := box_cell br
  obtain ⟨cbm, fbm⟩ := box_cell bm
  go_wp2_with fail
  generalize ((uw3.alloc (.cells #[.slice sr xr.length xr.length] 24)).alloc (.cells #[.slice sm xm.length xm.length] 24)) = w4 at *
  generalize uw3.heap.size = auw3 at *
  have lr : r < B ^ 11 := Nat.lt_of_le_of_lt (IsRoot.le hr) la
  have lm : A - r * r < B ^ 11 := Nat.lt_of_le_of_lt (Nat.sub_le _ _) la
  have hr1 := hr.1
  have hr2 : A - r * r ≤ r + r := root_rest hr
  go_region_held3 (fun w' => w'.cell? ⟨auw3, 0, none⟩ = some (.slice sr xr.length xr.length) ∧ w'.cell? ⟨auw3 + 1, 0, none⟩ = some (.slice sm xm.length xm.length) ∧ w'.cell? ⟨at1, 0, none⟩ = some (.slice sa1 xa1.length xa1.length))
    (first | assumption | exact ⟨cbr, cbm, cba1⟩ | go_keep)
    (first
      | (go_at_call 33; (with_reducible refine (Mul_any w4.drew _ _ _ _ 11 (nr.kept (grown_drew (grown_refl _ _))) (nr.kept (grown_drew (grown_refl _ _))) (by omega) (bw lr (by omega)) (bw lr (by omega))).mono ?_); rintro e w5_1 ⟨vz1_, rfl, z1_, gw5_1⟩; have hGw5_1 := grown_pre w4 gw5_1 rfl rfl rfl rfl; have hSw5_1 := (And.intro (hGw5_1.cell cbr (by simp)) (And.intro (hGw5_1.cell cbm (by simp)) (hGw5_1.cell cba1 (by simp)))); clear gw5_1)
      | (go_at_call 30; (with_reducible refine (Add_any w5_1 _ _ _ _ 22 z1_ (nm.kept hGw5_1) (by omega) (bw (bmul lr lr) (by omega)) (bw lm (by omega))).mono ?_); rintro e w5_2 ⟨vz2_, rfl, z2_, gw5_2⟩; have hGw5_2 := grown_trans hGw5_1 gw5_2; replace z1_ := z1_.kept gw5_2; have hSw5_2 := (And.intro (hGw5_2.cell cbr (by simp)) (And.intro (hGw5_2.cell cbm (by simp)) (hGw5_2.cell cba1 (by simp)))); clear gw5_2; clear hGw5_1 hSw5_1)
      | (go_at_call 26; (with_reducible refine (Cmp_any w5_2 _ _ _ _ 23 z2_ (na1.kept hGw5_2) (by omega) (bw (badd (k := 22) (bw (bmul lr lr) (by omega)) (bw lm (by omega))) (by omega)) (bw la (by omega))).mono ?_); rintro e w5_3 ⟨rfl, gw5_3⟩; rw [cmpInt_eq (show ((r * r) + (A - r * r)) = A from Nat.add_sub_cancel' hr1)]; have hGw5_3 := grown_trans hGw5_2 gw5_3; replace z1_ := z1_.kept gw5_3; replace z2_ := z2_.kept gw5_3; have hSw5_3 := (And.intro (hGw5_3.cell cbr (by simp)) (And.intro (hGw5_3.cell cbm (by simp)) (hGw5_3.cell cba1 (by simp)))); clear gw5_3; clear hGw5_2 hSw5_2)
      | (go_at_call 30; (with_reducible refine (Add_any w5_3 _ _ _ _ 11 (nr.kept hGw5_3) (nr.kept hGw5_3) (by omega) (bw lr (by omega)) (bw lr (by omega))).mono ?_); rintro e w5_4 ⟨vz3_, rfl, z3_, gw5_4⟩; have hGw5_4 := grown_trans hGw5_3 gw5_4; have hSw5_4 := (And.intro (hGw5_4.cell cbr (by simp)) (And.intro (hGw5_4.cell cbm (by simp)) (hGw5_4.cell cba1 (by simp)))); clear gw5_4; clear hGw5_3 hSw5_3)
      | (go_at_call 26; (with_reducible refine (Cmp_any w5_4 _ _ _ _ 12 (nm.kept hGw5_4) z3_ (by omega) (bw lm (by omega)) (badd (k := 11) (bw lr (by omega)) (bw lr (by omega)))).mono ?_); rintro e w5_5 ⟨rfl, gw5_5⟩; (obtain ⟨c1, hc1⟩ : ∃ c, cmpInt (A - r * r) (r + r) = c := ⟨_, rfl⟩); rw [hc1]; have fc1 : decide ((0 : Int) < c1) = false := decide_eq_false (by rw [← hc1]; exact cmpInt_le hr2); have hGw5_5 := grown_trans hGw5_4 gw5_5; replace z3_ := z3_.kept gw5_5; have hSw5_5 := (And.intro (hGw5_5.cell cbr (by simp)) (And.intro (hGw5_5.cell cbm (by simp)) (hGw5_5.cell cba1 (by simp)))); clear gw5_5; clear hGw5_4 hSw5_4))
  replace ba1 := heap_kept hGw5_5 ba1
  replace bb1 := heap_kept hGw5_5 bb1
  replace bx1 := heap_kept hGw5_5 bx1
  replace by1 := heap_kept hGw5_5 by1
  replace br := heap_kept hGw5_5 br
  replace bm := heap_kept hGw5_5 bm
  replace na1 := na1.kept hGw5_5
  replace nb1 := nb1.kept hGw5_5
  replace nr := nr.kept hGw5_5
  replace nm := nm.kept hGw5_5
  replace hT := hT.kept hGw5_5 (by simp)
  replace hG := grown_trans hG hGw5_5
  clear cba1 fba1 cbb1 fbb1 cbx1 fbx1 cby1 fby1 cbr fbr cbm fbm
  obtain ⟨cba1, fba1⟩ := box_cell ba1
  obtain ⟨cbb1, fbb1⟩ := box_cell bb1
  obtain ⟨cbx1, fbx1⟩ := box_cell bx1
  obtain ⟨cby1, fby1⟩ := box_cell by1
  obtain ⟨cbr, fbr⟩ := box_cell br
  obtain ⟨cbm, fbm⟩ := box_cell bm
  go_wp2_with fail
  clear cba1 fba1 cbb1 fbb1 cbx1 fbx1 cby1 fby1 cbr fbr cbm fbm
  clear nr nm lr lm hr hr1 hr2 br bm
  rcases Nat.eq_zero_or_pos Bn with h0 | h0
  · skip
    subst h0
    refine (Div_zero w5_5 _ _ _ na1 nb1).mono ?_
    rintro e udw6 ⟨_, _, rfl, ⟨sq, xq, rfl, hq, vq⟩, ⟨sn, xn, rfl, hn, vn⟩, gudw6⟩
    have nq : NatV udw6 (.agg #[.slice sq xq.length xq.length]) (0) := ⟨_, _, rfl, hq, vq⟩
    have nn : NatV udw6 (.agg #[.slice sn xn.length xn.length]) (0) := ⟨_, _, rfl, hn, vn⟩
    replace ba1 := heap_kept gudw6 ba1
    replace bb1 := heap_kept gudw6 bb1
    replace na1 := na1.kept gudw6
    replace nb1 := nb1.kept gudw6
    replace hT := hT.kept gudw6 (by simp)
    replace hG := grown_trans hG gudw6
    clear gudw6 hq vq hn vn
    have bq := heap_kept (World.grownBy_alloc (udw6.alloc (.cells #[.slice sq xq.length xq.length] 24)) (.cells #[.slice sn xn.length xn.length] 24) none) (heap_new udw6 (.cells #[.slice sq xq.length xq.length] 24) (udw6.heap.size) rfl)
    have bn := (heap_new (udw6.alloc (.cells #[.slice sq xq.length xq.length] 24)) (.cells #[.slice sn xn.length xn.length] 24) (udw6.heap.size + 1) (by simp))
    have gbudw6 := (grown_alloc (World.grownBy_alloc udw6 (.cells #[.slice sq xq.length xq.length] 24) none) (.cells #[.slice sn xn.length xn.length] 24))
    replace ba1 := heap_kept gbudw6 ba1
    replace bb1 := heap_kept gbudw6 bb1
    replace na1 := na1.kept gbudw6
    replace nb1 := nb1.kept gbudw6
    replace nq := nq.kept gbudw6
    replace nn := nn.kept gbudw6
    replace hT := hT.kept gbudw6 (by simp)
    replace hG := grown_trans hG gbudw6
    clear gbudw6
    obtain ⟨cba1, fba1⟩ := box_cell ba1
    obtain ⟨cbb1, fbb1⟩ := box_cell bb1
    obtain ⟨cbq, fbq⟩ := box_cell bq
    obtain ⟨cbn, fbn⟩ := box_cell bn
    go_wp2_with fail
    generalize ((udw6.alloc (.cells #[.slice sq xq.length xq.length] 24)).alloc (.cells #[.slice sn xn.length xn.length] 24)) = dw7 at *
    generalize udw6.heap.size = audw6 at *
    clear cba1 fba1 cbb1 fbb1 cbq fbq cbn fbn
    refine (Bits_any dw7 _ _ 1 nb1 (by omega) (by decide)).mono ?_
    rintro e dw8 ⟨rfl, gdw8⟩
    rw [nb_zero]
    replace ba1 := heap_kept gdw8 ba1
    replace bb1 := heap_kept gdw8 bb1
    replace bq := heap_kept gdw8 bq
    replace bn := heap_kept gdw8 bn
    replace na1 := na1.kept gdw8
    replace nb1 := nb1.kept gdw8
    replace nq := nq.kept gdw8
    replace nn := nn.kept gdw8
    replace hT := hT.kept gdw8 (by simp)
    replace hG := grown_trans hG gdw8
    clear gdw8
    obtain ⟨cba1, fba1⟩ := box_cell ba1
    obtain ⟨cbb1, fbb1⟩ := box_cell bb1
    obtain ⟨cbq, fbq⟩ := box_cell bq
    obtain ⟨cbn, fbn⟩ := box_cell bn
    go_wp2_with fail
    go_ret
    exact ⟨rfl, hG⟩
  refine (Div_some w5_5 _ _ _ _ 11 na1 nb1 (by omega) la lb h0).mono ?_
  rintro e uw6 ⟨_, _, rfl, ⟨sq, xq, rfl, hq, vq⟩, ⟨sn, xn, rfl, hn, vn⟩, guw6⟩
  have nq : NatV uw6 (.agg #[.slice sq xq.length xq.length]) (A / Bn) := ⟨_, _, rfl, hq, vq⟩
  have nn : NatV uw6 (.agg #[.slice sn xn.length xn.length]) (A % Bn) := ⟨_, _, rfl, hn, vn⟩
  replace ba1 := heap_kept guw6 ba1
  replace bb1 := heap_kept guw6 bb1
  replace na1 := na1.kept guw6
  replace nb1 := nb1.kept guw6
  replace hT := hT.kept guw6 (by simp)
  replace hG := grown_trans hG guw6
  clear guw6 hq vq hn vn
  have bq := heap_kept (World.grownBy_alloc (uw6.alloc (.cells #[.slice sq xq.length xq.length] 24)) (.cells #[.slice sn xn.length xn.length] 24) none) (heap_new uw6 (.cells #[.slice sq xq.length xq.length] 24) (uw6.heap.size) rfl)
  have bn := (heap_new (uw6.alloc (.cells #[.slice sq xq.length xq.length] 24)) (.cells #[.slice sn xn.length xn.length] 24) (uw6.heap.size + 1) (by simp))
  have gbuw6 := (grown_alloc (World.grownBy_alloc uw6 (.cells #[.slice sq xq.length xq.length] 24) none) (.cells #[.slice sn xn.length xn.length] 24))
  replace ba1 := heap_kept gbuw6 ba1
  replace bb1 := heap_kept gbuw6 bb1
  replace na1 := na1.kept gbuw6
  replace nb1 := nb1.kept gbuw6
  replace nq := nq.kept gbuw6
  replace nn := nn.kept gbuw6
  replace hT := hT.kept gbuw6 (by simp)
  replace hG := grown_trans hG gbuw6
  clear gbuw6
  obtain ⟨cba1, fba1⟩ := box_cell ba1
  obtain ⟨cbb1, fbb1⟩ := box_cell bb1
  obtain ⟨cbq, fbq⟩ := box_cell bq
  obtain ⟨cbn, fbn⟩ := box_cell bn
  go_wp2_with fail
  generalize ((uw6.alloc (.cells #[.slice sq xq.length xq.length] 24)).alloc (.cells #[.slice sn xn.length xn.length] 24)) = w7 at *
  generalize uw6.heap.size = auw6 at *
  have lq : A / Bn < B ^ 11 := Nat.lt_of_le_of_lt (Nat.div_le_self _ _) la
  have ln : A % Bn < B ^ 11 := Nat.lt_of_le_of_lt (Nat.mod_le _ _) la
  obtain ⟨G, hGe⟩ : ∃ G, Nat.gcd A Bn = G := ⟨_, rfl⟩
  have gp : 0 < G := by rw [← hGe]; exact Nat.gcd_pos_of_pos_right _ h0
  have lg : G < B ^ 11 := by rw [← hGe]; exact Nat.lt_of_le_of_lt (Nat.gcd_le_right _ h0) lb
  have ga : A % G = 0 := by rw [← hGe]; exact Nat.mod_eq_zero_of_dvd (Nat.gcd_dvd_left _ _)
  have gb : Bn % G = 0 := by rw [← hGe]; exact Nat.mod_eq_zero_of_dvd (Nat.gcd_dvd_right _ _)
  clear cba1 fba1 cbb1 fbb1 cbq fbq cbn fbn
  refine (Gcd_any w7 _ _ _ _ 11 na1 nb1 (by omega) la lb hT).mono ?_
  rintro e uw8 ⟨_, rfl, ⟨sg, xg, rfl, hg, vg⟩, guw8⟩
  have ng : NatV uw8 (.agg #[.slice sg xg.length xg.length]) (Nat.gcd A Bn) := ⟨_, _, rfl, hg, vg⟩
  replace ba1 := heap_kept guw8 ba1
  replace bb1 := heap_kept guw8 bb1
  replace bq := heap_kept guw8 bq
  replace bn := heap_kept guw8 bn
  replace na1 := na1.kept guw8
  replace nb1 := nb1.kept guw8
  replace nq := nq.kept guw8
  replace nn := nn.kept guw8
  replace hT := hT.kept guw8 (by simp)
  replace hG := grown_trans hG guw8
  clear guw8 hg vg
  rw [hGe] at ng
  have bg := (heap_new uw8 (.cells #[.slice sg xg.length xg.length] 24) (uw8.heap.size) rfl)
  have gbuw8 := (World.grownBy_alloc uw8 (.cells #[.slice sg xg.length xg.length] 24) none)
  replace ba1 := heap_kept gbuw8 ba1
  replace bb1 := heap_kept gbuw8 bb1
  replace bq := heap_kept gbuw8 bq
  replace bn := heap_kept gbuw8 bn
  replace na1 := na1.kept gbuw8
  replace nb1 := nb1.kept gbuw8
  replace nq := nq.kept gbuw8
  replace nn := nn.kept gbuw8
  replace ng := ng.kept gbuw8
  replace hT := hT.kept gbuw8 (by simp)
  replace hG := grown_trans hG gbuw8
  clear gbuw8
  obtain ⟨cba1, fba1⟩ := box_cell ba1
  obtain ⟨cbb1, fbb1⟩ := box_cell bb1
  obtain ⟨cbq, fbq⟩ := box_cell bq
  obtain ⟨cbn, fbn⟩ := box_cell bn
  obtain ⟨cbg, fbg⟩ := box_cell bg
  go_wp2_with fail
  generalize (uw8.alloc (.cells #[.slice sg xg.length xg.length] 24)) = w9 at *
  generalize uw8.heap.size = auw8 at *
  clear cba1 fba1 cbb1 fbb1 cbq fbq cbn fbn cbg fbg
  refine (Div_some w9 _ _ _ _ 11 na1 ng (by omega) la lg gp).mono ?_
  rintro e uw10 ⟨_, _, rfl, ⟨sk, xk, rfl, hk, vk⟩, ⟨sh, xh, rfl, hh, vh⟩, guw10⟩
  have nk : NatV uw10 (.agg #[.slice sk xk.length xk.length]) (A / G) := ⟨_, _, rfl, hk, vk⟩
  have nh : NatV uw10 (.agg #[.slice sh xh.length xh.length]) (A % G) := ⟨_, _, rfl, hh, vh⟩
  replace ba1 := heap_kept guw10 ba1
  replace bb1 := heap_kept guw10 bb1
  replace bq := heap_kept guw10 bq
  replace bn := heap_kept guw10 bn
  replace bg := heap_kept guw10 bg
  replace na1 := na1.kept guw10
  replace nb1 := nb1.kept guw10
  replace nq := nq.kept guw10
  replace nn := nn.kept guw10
  replace ng := ng.kept guw10
  replace hT := hT.kept guw10 (by simp)
  replace hG := grown_trans hG guw10
  clear guw10 hk vk hh vh
  rw [ga] at nh
  have bk := heap_kept (World.grownBy_alloc (uw10.alloc (.cells #[.slice sk xk.length xk.length] 24)) (.cells #[.slice sh xh.length xh.length] 24) none) (heap_new uw10 (.cells #[.slice sk xk.length xk.length] 24) (uw10.heap.size) rfl)
  have bh := (heap_new (uw10.alloc (.cells #[.slice sk xk.length xk.length] 24)) (.cells #[.slice sh xh.length xh.length] 24) (uw10.heap.size + 1) (by simp))
  have gbuw10 := (grown_alloc (World.grownBy_alloc uw10 (.cells #[.slice sk xk.length xk.length] 24) none) (.cells #[.slice sh xh.length xh.length] 24))
  replace ba1 := heap_kept gbuw10 ba1
  replace bb1 := heap_kept gbuw10 bb1
  replace bq := heap_kept gbuw10 bq
  replace bn := heap_kept gbuw10 bn
  replace bg := heap_kept gbuw10 bg
  replace na1 := na1.kept gbuw10
  replace nb1 := nb1.kept gbuw10
  replace nq := nq.kept gbuw10
  replace nn := nn.kept gbuw10
  replace ng := ng.kept gbuw10
  replace nk := nk.kept gbuw10
  replace nh := nh.kept gbuw10
  replace hT := hT.kept gbuw10 (by simp)
  replace hG := grown_trans hG gbuw10
  clear gbuw10
  obtain ⟨cba1, fba1⟩ := box_cell ba1
  obtain ⟨cbb1, fbb1⟩ := box_cell bb1
  obtain ⟨cbq, fbq⟩ := box_cell bq
  obtain ⟨cbn, fbn⟩ := box_cell bn
  obtain ⟨cbg, fbg⟩ := box_cell bg
  obtain ⟨cbk, fbk⟩ := box_cell bk
  obtain ⟨cbh, fbh⟩ := box_cell bh
  go_wp2_with fail
  generalize ((uw10.alloc (.cells #[.slice sk xk.length xk.length] 24)).alloc (.cells #[.slice sh xh.length xh.length] 24)) = w11 at *
  generalize uw10.heap.size = auw10 at *
  clear nk
  clear cba1 fba1 cbb1 fbb1 cbq fbq cbn fbn cbg fbg cbk fbk cbh fbh
  refine (Div_some w11 _ _ _ _ 11 nb1 ng (by omega) lb lg gp).mono ?_
  rintro e uw12 ⟨_, _, rfl, ⟨sj, xj, rfl, hj, vj⟩, ⟨si, xi, rfl, hi, vi⟩, guw12⟩
  have nj : NatV uw12 (.agg #[.slice sj xj.length xj.length]) (Bn / G) := ⟨_, _, rfl, hj, vj⟩
  have ni : NatV uw12 (.agg #[.slice si xi.length xi.length]) (Bn % G) := ⟨_, _, rfl, hi, vi⟩
  replace ba1 := heap_kept guw12 ba1
  replace bb1 := heap_kept guw12 bb1
  replace bq := heap_kept guw12 bq
  replace bn := heap_kept guw12 bn
  replace bg := heap_kept guw12 bg
  replace bk := heap_kept guw12 bk
  replace bh := heap_kept guw12 bh
  replace na1 := na1.kept guw12
  replace nb1 := nb1.kept guw12
  replace nq := nq.kept guw12
  replace nn := nn.kept guw12
  replace ng := ng.kept guw12
  replace nh := nh.kept guw12
  replace hT := hT.kept guw12 (by simp)
  replace hG := grown_trans hG guw12
  clear guw12 hj vj hi vi
  rw [gb] at ni
  have bj := heap_kept (World.grownBy_alloc (uw12.alloc (.cells #[.slice sj xj.length xj.length] 24)) (.cells #[.slice si xi.length xi.length] 24) none) (heap_new uw12 (.cells #[.slice sj xj.length xj.length] 24) (uw12.heap.size) rfl)
  have bi := (heap_new (uw12.alloc (.cells #[.slice sj xj.length xj.length] 24)) (.cells #[.slice si xi.length xi.length] 24) (uw12.heap.size + 1) (by simp))
  have gbuw12 := (grown_alloc (World.grownBy_alloc uw12 (.cells #[.slice sj xj.length xj.length] 24) none) (.cells #[.slice si xi.length xi.length] 24))
  replace ba1 := heap_kept gbuw12 ba1
  replace bb1 := heap_kept gbuw12 bb1
  replace bq := heap_kept gbuw12 bq
  replace bn := heap_kept gbuw12 bn
  replace bg := heap_kept gbuw12 bg
  replace bk := heap_kept gbuw12 bk
  replace bh := heap_kept gbuw12 bh
  replace na1 := na1.kept gbuw12
  replace nb1 := nb1.kept gbuw12
  replace nq := nq.kept gbuw12
  replace nn := nn.kept gbuw12
  replace ng := ng.kept gbuw12
  replace nh := nh.kept gbuw12
  replace nj := nj.kept gbuw12
  replace ni := ni.kept gbuw12
  replace hT := hT.kept gbuw12 (by simp)
  replace hG := grown_trans hG gbuw12
  clear gbuw12
  obtain ⟨cba1, fba1⟩ := box_cell ba1
  obtain ⟨cbb1, fbb1⟩ := box_cell bb1
  obtain ⟨cbq, fbq⟩ := box_cell bq
  obtain ⟨cbn, fbn⟩ := box_cell bn
  obtain ⟨cbg, fbg⟩ := box_cell bg
  obtain ⟨cbk, fbk⟩ := box_cell bk
  obtain ⟨cbh, fbh⟩ := box_cell bh
  obtain ⟨cbj, fbj⟩ := box_cell bj
  obtain ⟨cbi, fbi⟩ := box_cell bi
  go_wp2_with fail
  generalize ((uw12.alloc (.cells #[.slice sj xj.length xj.length] 24)).alloc (.cells #[.slice si xi.length xi.length] 24)) = w13 at *
  generalize uw12.heap.size = auw12 at *
  clear nj
  go_region_held3 (fun w' => w'.cell? ⟨auw6, 0, none⟩ = some (.slice sq xq.length xq.length) ∧ w'.cell? ⟨at1 + 1, 0, none⟩ = some (.slice sb1 xb1.length xb1.length) ∧ w'.cell? ⟨auw6 + 1, 0, none⟩ = some (.slice sn xn.length xn.length) ∧ w'.cell? ⟨at1, 0, none⟩ = some (.slice sa1 xa1.length xa1.length) ∧ w'.cell? ⟨auw10 + 1, 0, none⟩ = some (.slice sh xh.length xh.length) ∧ w'.cell? ⟨auw12 + 1, 0, none⟩ = some (.slice si xi.length xi.length))
    (first | assumption | exact ⟨cbq, cbb1, cbn, cba1, cbh, cbi⟩ | go_keep)
    (first
      | (go_at_call 33; (with_reducible refine (Mul_any w13.drew _ _ _ _ 11 (nq.kept (grown_drew (grown_refl _ _))) (nb1.kept (grown_drew (grown_refl _ _))) (by omega) (bw lq (by omega)) (bw lb (by omega))).mono ?_); rintro e w14_1 ⟨vz4_, rfl, z4_, gw14_1⟩; have hGw14_1 := grown_pre w13 gw14_1 rfl rfl rfl rfl; have hSw14_1 := (And.intro (hGw14_1.cell cbq (by simp)) (And.intro (hGw14_1.cell cbb1 (by simp)) (And.intro (hGw14_1.cell cbn (by simp)) (And.intro (hGw14_1.cell cba1 (by simp)) (And.intro (hGw14_1.cell cbh (by simp)) (hGw14_1.cell cbi (by simp))))))); clear gw14_1)
      | (go_at_call 30; (with_reducible refine (Add_any w14_1 _ _ _ _ 22 z4_ (nn.kept hGw14_1) (by omega) (bw (bmul lq lb) (by omega)) (bw ln (by omega))).mono ?_); rintro e w14_2 ⟨vz5_, rfl, z5_, gw14_2⟩; have hGw14_2 := grown_trans hGw14_1 gw14_2; replace z4_ := z4_.kept gw14_2; have hSw14_2 := (And.intro (hGw14_2.cell cbq (by simp)) (And.intro (hGw14_2.cell cbb1 (by simp)) (And.intro (hGw14_2.cell cbn (by simp)) (And.intro (hGw14_2.cell cba1 (by simp)) (And.intro (hGw14_2.cell cbh (by simp)) (hGw14_2.cell cbi (by simp))))))); clear gw14_2; clear hGw14_1 hSw14_1)
      | (go_at_call 26; (with_reducible refine (Cmp_any w14_2 _ _ _ _ 23 z5_ (na1.kept hGw14_2) (by omega) (bw (badd (k := 22) (bw (bmul lq lb) (by omega)) (bw ln (by omega))) (by omega)) (bw la (by omega))).mono ?_); rintro e w14_3 ⟨rfl, gw14_3⟩; rw [cmpInt_eq (show (((A / Bn) * Bn) + (A % Bn)) = A from Nat.div_add_mod' A Bn)]; have hGw14_3 := grown_trans hGw14_2 gw14_3; replace z4_ := z4_.kept gw14_3; replace z5_ := z5_.kept gw14_3; have hSw14_3 := (And.intro (hGw14_3.cell cbq (by simp)) (And.intro (hGw14_3.cell cbb1 (by simp)) (And.intro (hGw14_3.cell cbn (by simp)) (And.intro (hGw14_3.cell cba1 (by simp)) (And.intro (hGw14_3.cell cbh (by simp)) (hGw14_3.cell cbi (by simp))))))); clear gw14_3; clear hGw14_2 hSw14_2)
      | (go_at_call 26; (with_reducible refine (Cmp_any w14_3 _ _ _ _ 11 (nn.kept hGw14_3) (nb1.kept hGw14_3) (by omega) ln lb).mono ?_); rintro e w14_4 ⟨rfl, gw14_4⟩; rw [cmpInt_lt (show A % Bn < Bn from Nat.mod_lt _ h0)]; have hGw14_4 := grown_trans hGw14_3 gw14_4; have hSw14_4 := (And.intro (hGw14_4.cell cbq (by simp)) (And.intro (hGw14_4.cell cbb1 (by simp)) (And.intro (hGw14_4.cell cbn (by simp)) (And.intro (hGw14_4.cell cba1 (by simp)) (And.intro (hGw14_4.cell cbh (by simp)) (hGw14_4.cell cbi (by simp))))))); clear gw14_4; clear hGw14_3 hSw14_3)
      | (go_at_call 23; (with_reducible refine (Bits_any w14_4 _ _ 1 (nh.kept hGw14_4) (by omega) (by decide)).mono ?_); rintro e w14_5 ⟨rfl, gw14_5⟩; rw [nb_zero]; have hGw14_5 := grown_trans hGw14_4 gw14_5; have hSw14_5 := (And.intro (hGw14_5.cell cbq (by simp)) (And.intro (hGw14_5.cell cbb1 (by simp)) (And.intro (hGw14_5.cell cbn (by simp)) (And.intro (hGw14_5.cell cba1 (by simp)) (And.intro (hGw14_5.cell cbh (by simp)) (hGw14_5.cell cbi (by simp))))))); clear gw14_5; clear hGw14_4 hSw14_4)
      | (go_at_call 23; (with_reducible refine (Bits_any w14_5 _ _ 1 (ni.kept hGw14_5) (by omega) (by decide)).mono ?_); rintro e w14_6 ⟨rfl, gw14_6⟩; rw [nb_zero]; have hGw14_6 := grown_trans hGw14_5 gw14_6; have hSw14_6 := (And.intro (hGw14_6.cell cbq (by simp)) (And.intro (hGw14_6.cell cbb1 (by simp)) (And.intro (hGw14_6.cell cbn (by simp)) (And.intro (hGw14_6.cell cba1 (by simp)) (And.intro (hGw14_6.cell cbh (by simp)) (hGw14_6.cell cbi (by simp))))))); clear gw14_6; clear hGw14_5 hSw14_5))
  replace ba1 := heap_kept hGw14_6 ba1
  replace bb1 := heap_kept hGw14_6 bb1
  replace bq := heap_kept hGw14_6 bq
  replace bn := heap_kept hGw14_6 bn
  replace bg := heap_kept hGw14_6 bg
  replace bk := heap_kept hGw14_6 bk
  replace bh := heap_kept hGw14_6 bh
  replace bj := heap_kept hGw14_6 bj
  replace bi := heap_kept hGw14_6 bi
  replace na1 := na1.kept hGw14_6
  replace nb1 := nb1.kept hGw14_6
  replace nq := nq.kept hGw14_6
  replace nn := nn.kept hGw14_6
  replace ng := ng.kept hGw14_6
  replace nh := nh.kept hGw14_6
  replace ni := ni.kept hGw14_6
  replace hT := hT.kept hGw14_6 (by simp)
  replace hG := grown_trans hG hGw14_6
  clear cba1 fba1 cbb1 fbb1 cbq fbq cbn fbn cbg fbg cbk fbk cbh fbh cbj fbj cbi fbi
  obtain ⟨cba1, fba1⟩ := box_cell ba1
  obtain ⟨cbb1, fbb1⟩ := box_cell bb1
  obtain ⟨cbq, fbq⟩ := box_cell bq
  obtain ⟨cbn, fbn⟩ := box_cell bn
  obtain ⟨cbg, fbg⟩ := box_cell bg
  obtain ⟨cbk, fbk⟩ := box_cell bk
  obtain ⟨cbh, fbh⟩ := box_cell bh
  obtain ⟨cbj, fbj⟩ := box_cell bj
  obtain ⟨cbi, fbi⟩ := box_cell bi
  go_wp2_with fail
  go_ret
  exact ⟨rfl, hG⟩
end Go.Proofs.YtooeonjkpgbdpaaDoor
