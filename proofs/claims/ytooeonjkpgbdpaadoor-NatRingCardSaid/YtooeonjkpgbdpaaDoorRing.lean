/- NatRing: sums and products hang on no order, and are spread over one another. -/
import Derived.Test.YtooeonjkpgbdpaaDoorLaw
namespace Go.Proofs.YtooeonjkpgbdpaaDoor
open Go.RowKit Mat
set_option maxRecDepth 100000
set_option linter.unusedVariables false
set_option linter.unusedSimpArgs false

theorem bw {a k n : Nat} (h : a < B ^ k) (hk : k ≤ n) : a < B ^ n := Nat.lt_of_lt_of_le h (Nat.pow_le_pow_right B_pos hk)
theorem badd {a b k : Nat} (h1 : a < B ^ k) (h2 : b < B ^ k) : a + b < B ^ (k + 1) := by
  have : B ^ (k + 1) = B ^ k * B := Nat.pow_succ ..
  have h3 : B ^ k * 2 ≤ B ^ k * B := Nat.mul_le_mul_left _ (by decide)
  omega
theorem bmul {a b k m : Nat} (h1 : a < B ^ k) (h2 : b < B ^ m) : a * b < B ^ (k + m) := by
  rw [Nat.pow_add]; exact Nat.mul_lt_mul'' h1 h2
theorem num_bd (s : ByteArray) : num (fewB s 200) < B ^ 11 :=
  Nat.lt_trans (num_lt _ 200 (fewB_size s 200)) (by decide +kernel)

theorem Of_0 (w : World) : Calls Tryd.prog 22 #[.int .u64 0] w (RetNat w 0) := Of_any w 0 (by decide)
theorem Of_1 (w : World) : Calls Tryd.prog 22 #[.int .u64 1] w (RetNat w 1) := Of_any w 1 (by decide)
set_option maxHeartbeats 8000000 in
theorem natRing_walk (w : World) (s t u : ByteArray) (hT : Tab w) :
    Calls Tryd.prog 11 #[.string s, .string t, .string u] w (fun e w' => e = .returned (.bool true) ∧ w.grownBy w' none) := by
  have hG : w.grownBy w none := grown_refl _ _
  have la := num_bd s
  have lb := num_bd t
  have lc := num_bd u
  go_enter Tryd.func11, Tryd.ntmps11
  go_wp2_with fail
  refine (two_any w s t).mono ?_
  rintro e t1 ⟨_, _, _, _, rfl, ⟨sa1, xa1, rfl, ha1, va1⟩, ⟨sb1, xb1, rfl, hb1, vb1⟩, ⟨sx1, lx1, cx1, xx1, rfl, hx1⟩, ⟨sy1, ly1, cy1, xy1, rfl, hy1⟩, g1⟩
  have na1 : NatV t1 (.agg #[.slice sa1 xa1.length xa1.length]) (num (fewB s 200)) := ⟨_, _, rfl, ha1, va1⟩
  have nb1 : NatV t1 (.agg #[.slice sb1 xb1.length xb1.length]) (num (fewB t 200)) := ⟨_, _, rfl, hb1, vb1⟩
  have nx1 : RefV t1 (.agg #[.slice sx1 lx1 cx1]) (num (fewB s 200)) := ⟨_, _, _, _, rfl, hx1⟩
  have ny1 : RefV t1 (.agg #[.slice sy1 ly1 cy1]) (num (fewB t 200)) := ⟨_, _, _, _, rfl, hy1⟩
  replace hT := hT.kept g1 (by simp)
  replace hG := grown_trans hG g1
  clear ha1 va1 hb1 vb1 hx1 hy1 g1
  have ba1 := heap_kept (grown_alloc (grown_alloc (World.grownBy_alloc (t1.alloc (.cells #[.slice sa1 xa1.length xa1.length] 24)) (.cells #[.slice sb1 xb1.length xb1.length] 24) none) (.cells #[.slice sx1 lx1 cx1] 30)) (.cells #[.slice sy1 ly1 cy1] 30)) (heap_new t1 (.cells #[.slice sa1 xa1.length xa1.length] 24) (t1.heap.size) rfl)
  have bb1 := heap_kept (grown_alloc (World.grownBy_alloc ((t1.alloc (.cells #[.slice sa1 xa1.length xa1.length] 24)).alloc (.cells #[.slice sb1 xb1.length xb1.length] 24)) (.cells #[.slice sx1 lx1 cx1] 30) none) (.cells #[.slice sy1 ly1 cy1] 30)) (heap_new (t1.alloc (.cells #[.slice sa1 xa1.length xa1.length] 24)) (.cells #[.slice sb1 xb1.length xb1.length] 24) (t1.heap.size + 1) (by simp))
  have bx1 := heap_kept (World.grownBy_alloc (((t1.alloc (.cells #[.slice sa1 xa1.length xa1.length] 24)).alloc (.cells #[.slice sb1 xb1.length xb1.length] 24)).alloc (.cells #[.slice sx1 lx1 cx1] 30)) (.cells #[.slice sy1 ly1 cy1] 30) none) (heap_new ((t1.alloc (.cells #[.slice sa1 xa1.length xa1.length] 24)).alloc (.cells #[.slice sb1 xb1.length xb1.length] 24)) (.cells #[.slice sx1 lx1 cx1] 30) (t1.heap.size + 1 + 1) (by simp))
  have by1 := (heap_new (((t1.alloc (.cells #[.slice sa1 xa1.length xa1.length] 24)).alloc (.cells #[.slice sb1 xb1.length xb1.length] 24)).alloc (.cells #[.slice sx1 lx1 cx1] 30)) (.cells #[.slice sy1 ly1 cy1] 30) (t1.heap.size + 1 + 1 + 1) (by simp))
  have gbt1 := (grown_alloc (grown_alloc (grown_alloc (World.grownBy_alloc t1 (.cells #[.slice sa1 xa1.length xa1.length] 24) none) (.cells #[.slice sb1 xb1.length xb1.length] 24)) (.cells #[.slice sx1 lx1 cx1] 30)) (.cells #[.slice sy1 ly1 cy1] 30))
  replace na1 := na1.kept gbt1
  replace nb1 := nb1.kept gbt1
  replace nx1 := nx1.kept gbt1
  replace ny1 := ny1.kept gbt1
  replace hT := hT.kept gbt1 (by simp)
  replace hG := grown_trans hG gbt1
  clear gbt1
  obtain ⟨cba1, fba1⟩ := box_cell ba1
  obtain ⟨cbb1, fbb1⟩ := box_cell bb1
  obtain ⟨cbx1, fbx1⟩ := box_cell bx1
  obtain ⟨cby1, fby1⟩ := box_cell by1
  go_wp2_with fail
  generalize ((((t1.alloc (.cells #[.slice sa1 xa1.length xa1.length] 24)).alloc (.cells #[.slice sb1 xb1.length xb1.length] 24)).alloc (.cells #[.slice sx1 lx1 cx1] 30)).alloc (.cells #[.slice sy1 ly1 cy1] 30)) = w1 at *
  generalize t1.heap.size = at1 at *
  clear cba1 fba1 cbb1 fbb1 cbx1 fbx1 cby1 fby1
  refine (two_any w1 u { data := #[48] }).mono ?_
  rintro e t2 ⟨_, _, _, _, rfl, ⟨sa2, xa2, rfl, ha2, va2⟩, ⟨sb2, xb2, rfl, hb2, vb2⟩, ⟨sx2, lx2, cx2, xx2, rfl, hx2⟩, ⟨sy2, ly2, cy2, xy2, rfl, hy2⟩, g2⟩
  have na2 : NatV t2 (.agg #[.slice sa2 xa2.length xa2.length]) (num (fewB u 200)) := ⟨_, _, rfl, ha2, va2⟩
  have nb2 : NatV t2 (.agg #[.slice sb2 xb2.length xb2.length]) (num (fewB { data := #[48] } 200)) := ⟨_, _, rfl, hb2, vb2⟩
  have nx2 : RefV t2 (.agg #[.slice sx2 lx2 cx2]) (num (fewB u 200)) := ⟨_, _, _, _, rfl, hx2⟩
  have ny2 : RefV t2 (.agg #[.slice sy2 ly2 cy2]) (num (fewB { data := #[48] } 200)) := ⟨_, _, _, _, rfl, hy2⟩
  replace ba1 := heap_kept g2 ba1
  replace bb1 := heap_kept g2 bb1
  replace bx1 := heap_kept g2 bx1
  replace by1 := heap_kept g2 by1
  replace na1 := na1.kept g2
  replace nb1 := nb1.kept g2
  replace nx1 := nx1.kept g2
  replace ny1 := ny1.kept g2
  replace hT := hT.kept g2 (by simp)
  replace hG := grown_trans hG g2
  clear ha2 va2 hb2 vb2 hx2 hy2 g2
  have ba2 := heap_kept (grown_alloc (grown_alloc (World.grownBy_alloc (t2.alloc (.cells #[.slice sa2 xa2.length xa2.length] 24)) (.cells #[.slice sb2 xb2.length xb2.length] 24) none) (.cells #[.slice sx2 lx2 cx2] 30)) (.cells #[.slice sy2 ly2 cy2] 30)) (heap_new t2 (.cells #[.slice sa2 xa2.length xa2.length] 24) (t2.heap.size) rfl)
  have bb2 := heap_kept (grown_alloc (World.grownBy_alloc ((t2.alloc (.cells #[.slice sa2 xa2.length xa2.length] 24)).alloc (.cells #[.slice sb2 xb2.length xb2.length] 24)) (.cells #[.slice sx2 lx2 cx2] 30) none) (.cells #[.slice sy2 ly2 cy2] 30)) (heap_new (t2.alloc (.cells #[.slice sa2 xa2.length xa2.length] 24)) (.cells #[.slice sb2 xb2.length xb2.length] 24) (t2.heap.size + 1) (by simp))
  have bx2 := heap_kept (World.grownBy_alloc (((t2.alloc (.cells #[.slice sa2 xa2.length xa2.length] 24)).alloc (.cells #[.slice sb2 xb2.length xb2.length] 24)).alloc (.cells #[.slice sx2 lx2 cx2] 30)) (.cells #[.slice sy2 ly2 cy2] 30) none) (heap_new ((t2.alloc (.cells #[.slice sa2 xa2.length xa2.length] 24)).alloc (.cells #[.slice sb2 xb2.length xb2.length] 24)) (.cells #[.slice sx2 lx2 cx2] 30) (t2.heap.size + 1 + 1) (by simp))
  have by2 := (heap_new (((t2.alloc (.cells #[.slice sa2 xa2.length xa2.length] 24)).alloc (.cells #[.slice sb2 xb2.length xb2.length] 24)).alloc (.cells #[.slice sx2 lx2 cx2] 30)) (.cells #[.slice sy2 ly2 cy2] 30) (t2.heap.size + 1 + 1 + 1) (by simp))
  have gbt2 := (grown_alloc (grown_alloc (grown_alloc (World.grownBy_alloc t2 (.cells #[.slice sa2 xa2.length xa2.length] 24) none) (.cells #[.slice sb2 xb2.length xb2.length] 24)) (.cells #[.slice sx2 lx2 cx2] 30)) (.cells #[.slice sy2 ly2 cy2] 30))
  replace ba1 := heap_kept gbt2 ba1
  replace bb1 := heap_kept gbt2 bb1
  replace bx1 := heap_kept gbt2 bx1
  replace by1 := heap_kept gbt2 by1
  replace na1 := na1.kept gbt2
  replace nb1 := nb1.kept gbt2
  replace nx1 := nx1.kept gbt2
  replace ny1 := ny1.kept gbt2
  replace na2 := na2.kept gbt2
  replace nb2 := nb2.kept gbt2
  replace nx2 := nx2.kept gbt2
  replace ny2 := ny2.kept gbt2
  replace hT := hT.kept gbt2 (by simp)
  replace hG := grown_trans hG gbt2
  clear gbt2
  obtain ⟨cba1, fba1⟩ := box_cell ba1
  obtain ⟨cbb1, fbb1⟩ := box_cell bb1
  obtain ⟨cbx1, fbx1⟩ := box_cell bx1
  obtain ⟨cby1, fby1⟩ := box_cell by1
  obtain ⟨cba2, fba2⟩ := box_cell ba2
  obtain ⟨cbb2, fbb2⟩ := box_cell bb2
  obtain ⟨cbx2, fbx2⟩ := box_cell bx2
  obtain ⟨cby2, fby2⟩ := box_cell by2
  go_wp2_with fail
  generalize ((((t2.alloc (.cells #[.slice sa2 xa2.length xa2.length] 24)).alloc (.cells #[.slice sb2 xb2.length xb2.length] 24)).alloc (.cells #[.slice sx2 lx2 cx2] 30)).alloc (.cells #[.slice sy2 ly2 cy2] 30)) = w2 at *
  generalize t2.heap.size = at2 at *
  generalize (fine (fewB s 200) && fine (fewB t 200)) = o1 at *
  generalize (fine (fewB u 200) && fine (fewB { data := #[48] } 200)) = o2 at *
  generalize num (fewB s 200) = A at *
  generalize num (fewB t 200) = Bn at *
  generalize num (fewB u 200) = C at *
  clear nb2 nx1 ny1 nx2 ny2
  have hT0 := Lib.hid hT
  cases o1
  · skip
    clear cba1 fba1 cbb1 fbb1 cbx1 fbx1 cby1 fby1 cba2 fba2 cbb2 fbb2 cbx2 fbx2 cby2 fby2
    refine (known_any w2 hT).mono ?_
    rintro e w3 ⟨rfl, gw3⟩
    replace hT := hT.kept gw3 (by simp)
    replace hG := grown_trans hG gw3
    clear gw3
    go_wp2_with fail
    refine (known_any w3 hT).mono ?_
    rintro e w4 ⟨rfl, gw4⟩
    replace hT := hT.kept gw4 (by simp)
    replace hG := grown_trans hG gw4
    clear gw4
    go_wp2_with fail
    go_ret
    exact ⟨rfl, hG⟩
  cases o2
  · skip
    clear cba1 fba1 cbb1 fbb1 cbx1 fbx1 cby1 fby1 cba2 fba2 cbb2 fbb2 cbx2 fbx2 cby2 fby2
    refine (known_any w2 hT).mono ?_
    rintro e w3 ⟨rfl, gw3⟩
    replace hT := hT.kept gw3 (by simp)
    replace hG := grown_trans hG gw3
    clear gw3
    go_wp2_with fail
    refine (known_any w3 hT).mono ?_
    rintro e w4 ⟨rfl, gw4⟩
    replace hT := hT.kept gw4 (by simp)
    replace hG := grown_trans hG gw4
    clear gw4
    go_wp2_with fail
    go_ret
    exact ⟨rfl, hG⟩
  clear cba1 fba1 cbb1 fbb1 cbx1 fbx1 cby1 fby1 cba2 fba2 cbb2 fbb2 cbx2 fbx2 cby2 fby2
  refine (known_any w2 hT).mono ?_
  rintro e w3 ⟨rfl, gw3⟩
  replace ba1 := heap_kept gw3 ba1
  replace bb1 := heap_kept gw3 bb1
  replace bx1 := heap_kept gw3 bx1
  replace by1 := heap_kept gw3 by1
  replace ba2 := heap_kept gw3 ba2
  replace bb2 := heap_kept gw3 bb2
  replace bx2 := heap_kept gw3 bx2
  replace by2 := heap_kept gw3 by2
  replace na1 := na1.kept gw3
  replace nb1 := nb1.kept gw3
  replace na2 := na2.kept gw3
  replace hT := hT.kept gw3 (by simp)
  replace hG := grown_trans hG gw3
  clear gw3
  obtain ⟨cba1, fba1⟩ := box_cell ba1
  obtain ⟨cbb1, fbb1⟩ := box_cell bb1
  obtain ⟨cbx1, fbx1⟩ := box_cell bx1
  obtain ⟨cby1, fby1⟩ := box_cell by1
  obtain ⟨cba2, fba2⟩ := box_cell ba2
  obtain ⟨cbb2, fbb2⟩ := box_cell bb2
  obtain ⟨cbx2, fbx2⟩ := box_cell bx2
  obtain ⟨cby2, fby2⟩ := box_cell by2
  go_wp2_with fail
  dsimp only [List.append]
  go_region_held3 (fun w' => w'.cell? ⟨at1, 0, none⟩ = some (.slice sa1 xa1.length xa1.length) ∧ w'.cell? ⟨at1 + 1, 0, none⟩ = some (.slice sb1 xb1.length xb1.length) ∧ w'.cell? ⟨at2, 0, none⟩ = some (.slice sa2 xa2.length xa2.length))
    (first | assumption | exact ⟨cba1, cbb1, cba2⟩ | go_keep)
    (first
      | (go_at_call 30; (with_reducible refine (Add_any w3.drew _ _ _ _ 11 (na1.kept (grown_drew (grown_refl _ _))) (nb1.kept (grown_drew (grown_refl _ _))) (by omega) (bw la (by omega)) (bw lb (by omega))).mono ?_); rintro e w4_1 ⟨vz1_, rfl, z1_, gw4_1⟩; have hGw4_1 := grown_pre w3 gw4_1 rfl rfl rfl rfl; have hSw4_1 := (And.intro (hGw4_1.cell cba1 (by simp)) (And.intro (hGw4_1.cell cbb1 (by simp)) (hGw4_1.cell cba2 (by simp)))); clear gw4_1)
      | (go_at_call 30; (with_reducible refine (Add_any w4_1 _ _ _ _ 11 (nb1.kept hGw4_1) (na1.kept hGw4_1) (by omega) (bw lb (by omega)) (bw la (by omega))).mono ?_); rintro e w4_2 ⟨vz2_, rfl, z2_, gw4_2⟩; have hGw4_2 := grown_trans hGw4_1 gw4_2; replace z1_ := z1_.kept gw4_2; have hSw4_2 := (And.intro (hGw4_2.cell cba1 (by simp)) (And.intro (hGw4_2.cell cbb1 (by simp)) (hGw4_2.cell cba2 (by simp)))); clear gw4_2; clear hGw4_1 hSw4_1)
      | (go_at_call 26; (with_reducible refine (Cmp_any w4_2 _ _ _ _ 12 z1_ z2_ (by omega) (bw (badd (k := 11) (bw la (by omega)) (bw lb (by omega))) (by omega)) (bw (badd (k := 11) (bw lb (by omega)) (bw la (by omega))) (by omega))).mono ?_); rintro e w4_3 ⟨rfl, gw4_3⟩; rw [cmpInt_eq (show (A + Bn) = (Bn + A) from Nat.add_comm _ _)]; have hGw4_3 := grown_trans hGw4_2 gw4_3; replace z1_ := z1_.kept gw4_3; replace z2_ := z2_.kept gw4_3; have hSw4_3 := (And.intro (hGw4_3.cell cba1 (by simp)) (And.intro (hGw4_3.cell cbb1 (by simp)) (hGw4_3.cell cba2 (by simp)))); clear gw4_3; clear hGw4_2 hSw4_2)
      | (go_at_call 33; (with_reducible refine (Mul_any w4_3 _ _ _ _ 11 (na1.kept hGw4_3) (nb1.kept hGw4_3) (by omega) (bw la (by omega)) (bw lb (by omega))).mono ?_); rintro e w4_4 ⟨vz3_, rfl, z3_, gw4_4⟩; have hGw4_4 := grown_trans hGw4_3 gw4_4; have hSw4_4 := (And.intro (hGw4_4.cell cba1 (by simp)) (And.intro (hGw4_4.cell cbb1 (by simp)) (hGw4_4.cell cba2 (by simp)))); clear gw4_4; clear hGw4_3 hSw4_3)
      | (go_at_call 33; (with_reducible refine (Mul_any w4_4 _ _ _ _ 11 (nb1.kept hGw4_4) (na1.kept hGw4_4) (by omega) (bw lb (by omega)) (bw la (by omega))).mono ?_); rintro e w4_5 ⟨vz4_, rfl, z4_, gw4_5⟩; have hGw4_5 := grown_trans hGw4_4 gw4_5; replace z3_ := z3_.kept gw4_5; have hSw4_5 := (And.intro (hGw4_5.cell cba1 (by simp)) (And.intro (hGw4_5.cell cbb1 (by simp)) (hGw4_5.cell cba2 (by simp)))); clear gw4_5; clear hGw4_4 hSw4_4)
      | (go_at_call 26; (with_reducible refine (Cmp_any w4_5 _ _ _ _ 22 z3_ z4_ (by omega) (bw (bmul la lb) (by omega)) (bw (bmul lb la) (by omega))).mono ?_); rintro e w4_6 ⟨rfl, gw4_6⟩; rw [cmpInt_eq (show (A * Bn) = (Bn * A) from Nat.mul_comm _ _)]; have hGw4_6 := grown_trans hGw4_5 gw4_6; replace z3_ := z3_.kept gw4_6; replace z4_ := z4_.kept gw4_6; have hSw4_6 := (And.intro (hGw4_6.cell cba1 (by simp)) (And.intro (hGw4_6.cell cbb1 (by simp)) (hGw4_6.cell cba2 (by simp)))); clear gw4_6; clear hGw4_5 hSw4_5)
      | (go_at_call 30; (with_reducible refine (Add_any w4_6 _ _ _ _ 11 (na1.kept hGw4_6) (nb1.kept hGw4_6) (by omega) (bw la (by omega)) (bw lb (by omega))).mono ?_); rintro e w4_7 ⟨vz5_, rfl, z5_, gw4_7⟩; have hGw4_7 := grown_trans hGw4_6 gw4_7; have hSw4_7 := (And.intro (hGw4_7.cell cba1 (by simp)) (And.intro (hGw4_7.cell cbb1 (by simp)) (hGw4_7.cell cba2 (by simp)))); clear gw4_7; clear hGw4_6 hSw4_6)
      | (go_at_call 30; (with_reducible refine (Add_any w4_7 _ _ _ _ 12 z5_ (na2.kept hGw4_7) (by omega) (bw (badd (k := 11) (bw la (by omega)) (bw lb (by omega))) (by omega)) (bw lc (by omega))).mono ?_); rintro e w4_8 ⟨vz6_, rfl, z6_, gw4_8⟩; have hGw4_8 := grown_trans hGw4_7 gw4_8; replace z5_ := z5_.kept gw4_8; have hSw4_8 := (And.intro (hGw4_8.cell cba1 (by simp)) (And.intro (hGw4_8.cell cbb1 (by simp)) (hGw4_8.cell cba2 (by simp)))); clear gw4_8; clear hGw4_7 hSw4_7)
      | (go_at_call 30; (with_reducible refine (Add_any w4_8 _ _ _ _ 11 (nb1.kept hGw4_8) (na2.kept hGw4_8) (by omega) (bw lb (by omega)) (bw lc (by omega))).mono ?_); rintro e w4_9 ⟨vz7_, rfl, z7_, gw4_9⟩; have hGw4_9 := grown_trans hGw4_8 gw4_9; replace z5_ := z5_.kept gw4_9; replace z6_ := z6_.kept gw4_9; have hSw4_9 := (And.intro (hGw4_9.cell cba1 (by simp)) (And.intro (hGw4_9.cell cbb1 (by simp)) (hGw4_9.cell cba2 (by simp)))); clear gw4_9; clear hGw4_8 hSw4_8)
      | (go_at_call 30; (with_reducible refine (Add_any w4_9 _ _ _ _ 12 (na1.kept hGw4_9) z7_ (by omega) (bw la (by omega)) (bw (badd (k := 11) (bw lb (by omega)) (bw lc (by omega))) (by omega))).mono ?_); rintro e w4_10 ⟨vz8_, rfl, z8_, gw4_10⟩; have hGw4_10 := grown_trans hGw4_9 gw4_10; replace z5_ := z5_.kept gw4_10; replace z6_ := z6_.kept gw4_10; replace z7_ := z7_.kept gw4_10; have hSw4_10 := (And.intro (hGw4_10.cell cba1 (by simp)) (And.intro (hGw4_10.cell cbb1 (by simp)) (hGw4_10.cell cba2 (by simp)))); clear gw4_10; clear hGw4_9 hSw4_9)
      | (go_at_call 26; (with_reducible refine (Cmp_any w4_10 _ _ _ _ 13 z6_ z8_ (by omega) (bw (badd (k := 12) (bw (badd (k := 11) (bw la (by omega)) (bw lb (by omega))) (by omega)) (bw lc (by omega))) (by omega)) (bw (badd (k := 12) (bw la (by omega)) (bw (badd (k := 11) (bw lb (by omega)) (bw lc (by omega))) (by omega))) (by omega))).mono ?_); rintro e w4_11 ⟨rfl, gw4_11⟩; rw [cmpInt_eq (show ((A + Bn) + C) = (A + (Bn + C)) from Nat.add_assoc _ _ _)]; have hGw4_11 := grown_trans hGw4_10 gw4_11; replace z5_ := z5_.kept gw4_11; replace z6_ := z6_.kept gw4_11; replace z7_ := z7_.kept gw4_11; replace z8_ := z8_.kept gw4_11; have hSw4_11 := (And.intro (hGw4_11.cell cba1 (by simp)) (And.intro (hGw4_11.cell cbb1 (by simp)) (hGw4_11.cell cba2 (by simp)))); clear gw4_11; clear hGw4_10 hSw4_10)
      | (go_at_call 33; (with_reducible refine (Mul_any w4_11 _ _ _ _ 11 (na1.kept hGw4_11) (nb1.kept hGw4_11) (by omega) (bw la (by omega)) (bw lb (by omega))).mono ?_); rintro e w4_12 ⟨vz9_, rfl, z9_, gw4_12⟩; have hGw4_12 := grown_trans hGw4_11 gw4_12; have hSw4_12 := (And.intro (hGw4_12.cell cba1 (by simp)) (And.intro (hGw4_12.cell cbb1 (by simp)) (hGw4_12.cell cba2 (by simp)))); clear gw4_12; clear hGw4_11 hSw4_11)
      | (go_at_call 33; (with_reducible refine (Mul_any w4_12 _ _ _ _ 22 z9_ (na2.kept hGw4_12) (by omega) (bw (bmul la lb) (by omega)) (bw lc (by omega))).mono ?_); rintro e w4_13 ⟨vz10_, rfl, z10_, gw4_13⟩; have hGw4_13 := grown_trans hGw4_12 gw4_13; replace z9_ := z9_.kept gw4_13; have hSw4_13 := (And.intro (hGw4_13.cell cba1 (by simp)) (And.intro (hGw4_13.cell cbb1 (by simp)) (hGw4_13.cell cba2 (by simp)))); clear gw4_13; clear hGw4_12 hSw4_12)
      | (go_at_call 33; (with_reducible refine (Mul_any w4_13 _ _ _ _ 11 (nb1.kept hGw4_13) (na2.kept hGw4_13) (by omega) (bw lb (by omega)) (bw lc (by omega))).mono ?_); rintro e w4_14 ⟨vz11_, rfl, z11_, gw4_14⟩; have hGw4_14 := grown_trans hGw4_13 gw4_14; replace z9_ := z9_.kept gw4_14; replace z10_ := z10_.kept gw4_14; have hSw4_14 := (And.intro (hGw4_14.cell cba1 (by simp)) (And.intro (hGw4_14.cell cbb1 (by simp)) (hGw4_14.cell cba2 (by simp)))); clear gw4_14; clear hGw4_13 hSw4_13)
      | (go_at_call 33; (with_reducible refine (Mul_any w4_14 _ _ _ _ 22 (na1.kept hGw4_14) z11_ (by omega) (bw la (by omega)) (bw (bmul lb lc) (by omega))).mono ?_); rintro e w4_15 ⟨vz12_, rfl, z12_, gw4_15⟩; have hGw4_15 := grown_trans hGw4_14 gw4_15; replace z9_ := z9_.kept gw4_15; replace z10_ := z10_.kept gw4_15; replace z11_ := z11_.kept gw4_15; have hSw4_15 := (And.intro (hGw4_15.cell cba1 (by simp)) (And.intro (hGw4_15.cell cbb1 (by simp)) (hGw4_15.cell cba2 (by simp)))); clear gw4_15; clear hGw4_14 hSw4_14)
      | (go_at_call 26; (with_reducible refine (Cmp_any w4_15 _ _ _ _ 33 z10_ z12_ (by omega) (bw (bmul (bmul la lb) lc) (by omega)) (bw (bmul la (bmul lb lc)) (by omega))).mono ?_); rintro e w4_16 ⟨rfl, gw4_16⟩; rw [cmpInt_eq (show ((A * Bn) * C) = (A * (Bn * C)) from Nat.mul_assoc _ _ _)]; have hGw4_16 := grown_trans hGw4_15 gw4_16; replace z9_ := z9_.kept gw4_16; replace z10_ := z10_.kept gw4_16; replace z11_ := z11_.kept gw4_16; replace z12_ := z12_.kept gw4_16; have hSw4_16 := (And.intro (hGw4_16.cell cba1 (by simp)) (And.intro (hGw4_16.cell cbb1 (by simp)) (hGw4_16.cell cba2 (by simp)))); clear gw4_16; clear hGw4_15 hSw4_15)
      | (go_at_call 30; (with_reducible refine (Add_any w4_16 _ _ _ _ 11 (nb1.kept hGw4_16) (na2.kept hGw4_16) (by omega) (bw lb (by omega)) (bw lc (by omega))).mono ?_); rintro e w4_17 ⟨vz13_, rfl, z13_, gw4_17⟩; have hGw4_17 := grown_trans hGw4_16 gw4_17; have hSw4_17 := (And.intro (hGw4_17.cell cba1 (by simp)) (And.intro (hGw4_17.cell cbb1 (by simp)) (hGw4_17.cell cba2 (by simp)))); clear gw4_17; clear hGw4_16 hSw4_16)
      | (go_at_call 33; (with_reducible refine (Mul_any w4_17 _ _ _ _ 12 (na1.kept hGw4_17) z13_ (by omega) (bw la (by omega)) (bw (badd (k := 11) (bw lb (by omega)) (bw lc (by omega))) (by omega))).mono ?_); rintro e w4_18 ⟨vz14_, rfl, z14_, gw4_18⟩; have hGw4_18 := grown_trans hGw4_17 gw4_18; replace z13_ := z13_.kept gw4_18; have hSw4_18 := (And.intro (hGw4_18.cell cba1 (by simp)) (And.intro (hGw4_18.cell cbb1 (by simp)) (hGw4_18.cell cba2 (by simp)))); clear gw4_18; clear hGw4_17 hSw4_17)
      | (go_at_call 33; (with_reducible refine (Mul_any w4_18 _ _ _ _ 11 (na1.kept hGw4_18) (nb1.kept hGw4_18) (by omega) (bw la (by omega)) (bw lb (by omega))).mono ?_); rintro e w4_19 ⟨vz15_, rfl, z15_, gw4_19⟩; have hGw4_19 := grown_trans hGw4_18 gw4_19; replace z13_ := z13_.kept gw4_19; replace z14_ := z14_.kept gw4_19; have hSw4_19 := (And.intro (hGw4_19.cell cba1 (by simp)) (And.intro (hGw4_19.cell cbb1 (by simp)) (hGw4_19.cell cba2 (by simp)))); clear gw4_19; clear hGw4_18 hSw4_18)
      | (go_at_call 33; (with_reducible refine (Mul_any w4_19 _ _ _ _ 11 (na1.kept hGw4_19) (na2.kept hGw4_19) (by omega) (bw la (by omega)) (bw lc (by omega))).mono ?_); rintro e w4_20 ⟨vz16_, rfl, z16_, gw4_20⟩; have hGw4_20 := grown_trans hGw4_19 gw4_20; replace z13_ := z13_.kept gw4_20; replace z14_ := z14_.kept gw4_20; replace z15_ := z15_.kept gw4_20; have hSw4_20 := (And.intro (hGw4_20.cell cba1 (by simp)) (And.intro (hGw4_20.cell cbb1 (by simp)) (hGw4_20.cell cba2 (by simp)))); clear gw4_20; clear hGw4_19 hSw4_19)
      | (go_at_call 30; (with_reducible refine (Add_any w4_20 _ _ _ _ 22 z15_ z16_ (by omega) (bw (bmul la lb) (by omega)) (bw (bmul la lc) (by omega))).mono ?_); rintro e w4_21 ⟨vz17_, rfl, z17_, gw4_21⟩; have hGw4_21 := grown_trans hGw4_20 gw4_21; replace z13_ := z13_.kept gw4_21; replace z14_ := z14_.kept gw4_21; replace z15_ := z15_.kept gw4_21; replace z16_ := z16_.kept gw4_21; have hSw4_21 := (And.intro (hGw4_21.cell cba1 (by simp)) (And.intro (hGw4_21.cell cbb1 (by simp)) (hGw4_21.cell cba2 (by simp)))); clear gw4_21; clear hGw4_20 hSw4_20)
      | (go_at_call 26; (with_reducible refine (Cmp_any w4_21 _ _ _ _ 23 z14_ z17_ (by omega) (bw (bmul la (badd (k := 11) (bw lb (by omega)) (bw lc (by omega)))) (by omega)) (bw (badd (k := 22) (bw (bmul la lb) (by omega)) (bw (bmul la lc) (by omega))) (by omega))).mono ?_); rintro e w4_22 ⟨rfl, gw4_22⟩; rw [cmpInt_eq (show (A * (Bn + C)) = ((A * Bn) + (A * C)) from Nat.mul_add _ _ _)]; have hGw4_22 := grown_trans hGw4_21 gw4_22; replace z13_ := z13_.kept gw4_22; replace z14_ := z14_.kept gw4_22; replace z15_ := z15_.kept gw4_22; replace z16_ := z16_.kept gw4_22; replace z17_ := z17_.kept gw4_22; have hSw4_22 := (And.intro (hGw4_22.cell cba1 (by simp)) (And.intro (hGw4_22.cell cbb1 (by simp)) (hGw4_22.cell cba2 (by simp)))); clear gw4_22; clear hGw4_21 hSw4_21)
      | (go_at_call 22; (with_reducible refine (Of_0 w4_22).mono ?_); rintro e w4_23 ⟨vz18_, rfl, z18_, gw4_23⟩; have hGw4_23 := grown_trans hGw4_22 gw4_23; have hSw4_23 := (And.intro (hGw4_23.cell cba1 (by simp)) (And.intro (hGw4_23.cell cbb1 (by simp)) (hGw4_23.cell cba2 (by simp)))); clear gw4_23; clear hGw4_22 hSw4_22)
      | (go_at_call 30; (with_reducible refine (Add_any w4_23 _ _ _ _ 11 (na1.kept hGw4_23) z18_ (by omega) (bw la (by omega)) (bw (show (0 : Nat) < B ^ 1 from by decide) (by omega))).mono ?_); rintro e w4_24 ⟨vz19_, rfl, z19_, gw4_24⟩; have hGw4_24 := grown_trans hGw4_23 gw4_24; replace z18_ := z18_.kept gw4_24; have hSw4_24 := (And.intro (hGw4_24.cell cba1 (by simp)) (And.intro (hGw4_24.cell cbb1 (by simp)) (hGw4_24.cell cba2 (by simp)))); clear gw4_24; clear hGw4_23 hSw4_23)
      | (go_at_call 26; (with_reducible refine (Cmp_any w4_24 _ _ _ _ 12 z19_ (na1.kept hGw4_24) (by omega) (bw (badd (k := 11) (bw la (by omega)) (bw (show (0 : Nat) < B ^ 1 from by decide) (by omega))) (by omega)) (bw la (by omega))).mono ?_); rintro e w4_25 ⟨rfl, gw4_25⟩; rw [cmpInt_eq (show (A + 0) = A from Nat.add_zero _)]; have hGw4_25 := grown_trans hGw4_24 gw4_25; replace z18_ := z18_.kept gw4_25; replace z19_ := z19_.kept gw4_25; have hSw4_25 := (And.intro (hGw4_25.cell cba1 (by simp)) (And.intro (hGw4_25.cell cbb1 (by simp)) (hGw4_25.cell cba2 (by simp)))); clear gw4_25; clear hGw4_24 hSw4_24)
      | (go_at_call 22; (with_reducible refine (Of_1 w4_25).mono ?_); rintro e w4_26 ⟨vz20_, rfl, z20_, gw4_26⟩; have hGw4_26 := grown_trans hGw4_25 gw4_26; have hSw4_26 := (And.intro (hGw4_26.cell cba1 (by simp)) (And.intro (hGw4_26.cell cbb1 (by simp)) (hGw4_26.cell cba2 (by simp)))); clear gw4_26; clear hGw4_25 hSw4_25)
      | (go_at_call 33; (with_reducible refine (Mul_any w4_26 _ _ _ _ 11 (na1.kept hGw4_26) z20_ (by omega) (bw la (by omega)) (bw (show (1 : Nat) < B ^ 1 from by decide) (by omega))).mono ?_); rintro e w4_27 ⟨vz21_, rfl, z21_, gw4_27⟩; have hGw4_27 := grown_trans hGw4_26 gw4_27; replace z20_ := z20_.kept gw4_27; have hSw4_27 := (And.intro (hGw4_27.cell cba1 (by simp)) (And.intro (hGw4_27.cell cbb1 (by simp)) (hGw4_27.cell cba2 (by simp)))); clear gw4_27; clear hGw4_26 hSw4_26)
      | (go_at_call 26; (with_reducible refine (Cmp_any w4_27 _ _ _ _ 12 z21_ (na1.kept hGw4_27) (by omega) (bw (bmul la (show (1 : Nat) < B ^ 1 from by decide)) (by omega)) (bw la (by omega))).mono ?_); rintro e w4_28 ⟨rfl, gw4_28⟩; rw [cmpInt_eq (show (A * 1) = A from Nat.mul_one _)]; have hGw4_28 := grown_trans hGw4_27 gw4_28; replace z20_ := z20_.kept gw4_28; replace z21_ := z21_.kept gw4_28; have hSw4_28 := (And.intro (hGw4_28.cell cba1 (by simp)) (And.intro (hGw4_28.cell cbb1 (by simp)) (hGw4_28.cell cba2 (by simp)))); clear gw4_28; clear hGw4_27 hSw4_27))
  replace ba1 := heap_kept hGw4_28 ba1
  replace bb1 := heap_kept hGw4_28 bb1
  replace bx1 := heap_kept hGw4_28 bx1
  replace by1 := heap_kept hGw4_28 by1
  replace ba2 := heap_kept hGw4_28 ba2
  replace bb2 := heap_kept hGw4_28 bb2
  replace bx2 := heap_kept hGw4_28 bx2
  replace by2 := heap_kept hGw4_28 by2
  replace na1 := na1.kept hGw4_28
  replace nb1 := nb1.kept hGw4_28
  replace na2 := na2.kept hGw4_28
  replace hT := hT.kept hGw4_28 (by simp)
  replace hG := grown_trans hG hGw4_28
  clear cba1 fba1 cbb1 fbb1 cbx1 fbx1 cby1 fby1 cba2 fba2 cbb2 fbb2 cbx2 fbx2 cby2 fby2
  obtain ⟨cba1, fba1⟩ := box_cell ba1
  obtain ⟨cbb1, fbb1⟩ := box_cell bb1
  obtain ⟨cbx1, fbx1⟩ := box_cell bx1
  obtain ⟨cby1, fby1⟩ := box_cell by1
  obtain ⟨cba2, fba2⟩ := box_cell ba2
  obtain ⟨cbb2, fbb2⟩ := box_cell bb2
  obtain ⟨cbx2, fbx2⟩ := box_cell bx2
  obtain ⟨cby2, fby2⟩ := box_cell by2
  go_wp2_with fail
  go_ret
  exact ⟨rfl, hG⟩
end Go.Proofs.YtooeonjkpgbdpaaDoor
