/- Differences of the document's own numbers. -/
import Derived.Test.YtldkddogadmpbaaGreatDoorRefParse
namespace Go.Proofs.YtldkddogadmpbaaGreatDoor
open Go.RowKit Mat
set_option maxRecDepth 100000
set_option linter.unusedVariables false
set_option linter.unusedSimpArgs false

theorem rless_step {v t s c x y d c' p : Nat} (h : v + t = s + c * p) (hd : d + y + c = x + c' * D) : v + p * d + (t + p * y) = s + p * x + c' * (p * D) := by
  have h2 : p * (d + y + c) = p * (x + c' * D) := by rw [hd]
  rw [Nat.mul_add, Nat.mul_add, Nat.mul_add] at h2
  have h3 : p * (c' * D) = c' * (p * D) := by grind
  have h4 : p * c = c * p := Nat.mul_comm _ _
  omega

set_option maxHeartbeats 8000000 in
theorem rLess_any (w : World) (va vb : Value) (a b : Nat) (ha : RefV w va a) (hb : RefV w vb b) (hle : b ≤ a) (ba : a < D ^ 1000000) :
    Calls Tryz.prog 65 #[va, vb] w (RetRef w (a - b)) := by
  have bb : b < D ^ 1000000 := Nat.lt_of_le_of_lt hle ba
  obtain ⟨sa, n, cx, xs, rfl, hn, hnc, hx, tx, dx, rfl⟩ := ha
  obtain ⟨sb, m, cy, ys, rfl, hm, hmc, hy, ty, dy, rfl⟩ := hb
  have Hn := Lib.hid hn
  have Hm := Lib.hid hm
  have Hle := Lib.hid hle
  have hn6 : n ≤ 1000000 := rlen tx hn ba
  have hm6 : m ≤ 1000000 := rlen ty hm bb
  have hmn : m ≤ n := by
    rcases Nat.lt_or_ge n m with h | h
    · have := val_lt_of_length D D_pos xs ys dx ty (by rw [hn, hm]; exact h)
      omega
    · exact h
  obtain ⟨i1, hi, hz0, hz1, hz2⟩ := info_partsI
  have hgw0 : w.grownBy (((w.alloc (.cells #[.slice sa n cx] 34)).alloc (.cells #[.slice sb m cy] 34)).alloc (.cells #[.slice none 0 0] 34)) none := grown_alloc (grown_alloc (World.grownBy_alloc _ _ _) _) _
  have hboxr := heap_new ((w.alloc (.cells #[.slice sa n cx] 34)).alloc (.cells #[.slice sb m cy] 34)) (.cells #[.slice none 0 0] 34) (w.heap.size + 1 + 1) (by simp)
  have hboxb := (Below.heap_alloc _ (.cells #[.slice none 0 0] 34) (w.heap.size + 1) (by simp)).trans (heap_new (w.alloc (.cells #[.slice sa n cx] 34)) (.cells #[.slice sb m cy] 34) (w.heap.size + 1) (by simp))
  have hboxa := ((Below.heap_alloc _ (.cells #[.slice none 0 0] 34) w.heap.size (by simp; omega)).trans (Below.heap_alloc _ (.cells #[.slice sb m cy] 34) w.heap.size (by simp))).trans (heap_new w (.cells #[.slice sa n cx] 34) w.heap.size rfl)
  have hs0 : (((w.alloc (.cells #[.slice sa n cx] 34)).alloc (.cells #[.slice sb m cy] 34)).alloc (.cells #[.slice none 0 0] 34)).heap.size = w.heap.size + 1 + 1 + 1 := by simp
  obtain ⟨N, hN⟩ : ∃ N, N = w.heap.size + 1 + 1 + 1 := ⟨_, rfl⟩
  have hx0 := hx.kept hgw0
  have hy0 := hy.kept hgw0
  clear hn hm ba bb hx hy hle
  go_enter Tryz.func65, Tryz.ntmps65
  go_wp2_with fail
  generalize (((w.alloc (.cells #[.slice sa n cx] 34)).alloc (.cells #[.slice sb m cy] 34)).alloc (.cells #[.slice none 0 0] 34)) = w0 at *
  go_loopg [5, 6, 7] n (fun gh s c i wr => ∃ (k bo : Nat) (sl : Option Addr) (cl : Nat) (ds : List Nat), s = .slice sl k cl ∧ c = .int .i64 bo ∧ i = .int .i64 k ∧ bo ≤ 1 ∧ k ≤ n ∧ n - k ≤ gh ∧ wr.ownsRow N 3 1 (.slice sl k cl) k (ds.map iv) ∧ Hid (ds.length = k) ∧ Dig D ds ∧ Hid (val D ds + val D (ys.take k) = val D (xs.take k) + bo * D ^ k) ∧ Below N w0 wr)
  case atStart => exact ⟨0, 0, none, 0, [], rfl, rfl, rfl, by omega, by omega, by omega, ⟨rfl, Or.inl ⟨rfl, rfl⟩⟩, rfl, Dig.nil _, by show _ = _; simp [val], Below.refl _ _⟩
  case round =>
    obtain ⟨k, bo, sl, cl, ds, rfl, rfl, rfl, hc1, hkn, hgh, hown, hdl, hdd, hv, hbl⟩ := hrel
    obtain ⟨ca, fa⟩ := box_cell (heap_below hbl hboxa (by omega))
    obtain ⟨cb, fb⟩ := box_cell (heap_below hbl hboxb (by omega))
    have hboxr1 := heap_below hbl hboxr (by omega)
    obtain ⟨cr, fr⟩ := box_cell hboxr1
    have hsr : N ≤ wr.heap.size := by have := hbl.size; omega
    have hxr : RRdo wr sa xs := hx0.below hbl (by omega)
    have hyr : RRdo wr sb ys := hy0.below hbl (by omega)
    by_cases hend : k < n
    · have f1 : decide ((k : Int) < (n : Int)) = true := decide_eq_true (by omega)
      obtain ⟨x, hxk⟩ : ∃ x, xs.getD k 0 = x := ⟨_, rfl⟩
      obtain ⟨y, hyk⟩ : ∃ y, ys.getD k 0 = y := ⟨_, rfl⟩
      have hx4 : x < 10000 := hxk ▸ getD_lt dx k
      have hy4 : y < 10000 := hyk ▸ getD_lt dy k
      have HX := Lib.hid hxk
      have HY := Lib.hid hyk
      obtain ⟨b1, o1, rfl, cx1⟩ := rcell hxr Hn.out k hend
      rw [hxk] at cx1
      clear hxk hyk hboxr1
      rcases Nat.lt_or_ge k m with hkm | hkm
      · obtain ⟨b2, o2, rfl, cy2⟩ := rcell hyr Hm.out k hkm
        rw [HY.out] at cy2
        have f2 : decide ((k : Int) < (m : Int)) = true := decide_eq_true (by omega)
        by_cases hs : x < bo + y
        · have t1 : decide ((x : Int) - (bo : Int) - (y : Int) < 0) = true := decide_eq_true (by omega)
          obtain ⟨d, hd⟩ : ∃ d : Nat, (x : Int) - (bo : Int) - (y : Int) + 10000 = (d : Int) := ⟨((x : Int) - (bo : Int) - (y : Int) + 10000).toNat, by omega⟩
          obtain ⟨c2', hc2⟩ : ∃ c, c = 1 := ⟨_, rfl⟩
          have hd4 : d < 10000 := by omega
          have hvn : Hid (val D (ds ++ [d]) + val D (ys.take (k + 1)) = val D (xs.take (k + 1)) + c2' * D ^ (k + 1)) := by
            show _ = _
            rw [val_snoc, hdl.out, Nat.pow_succ, take_getD xs, take_getD ys, HX.out, HY.out]
            exact rless_step hv.out (by unfold D; omega)
          have hownA := own_allocI hown (.cells #[iv d] 3)
          have hnews : ∀ j u, ([iv d] : List Value)[j]? = some u → (wr.alloc (.cells #[iv d] 3)).cell? ((⟨wr.heap.size, 0, none⟩ : Addr).add j) = some u := World.news_of_block (heap_alloc_new wr _)
          have hsi : N ≤ (wr.alloc (.cells #[iv d] 3)).heap.size := by simp; omega
          have hblA : Below N w0 (wr.alloc (.cells #[iv d] 3)) := hbl.trans (below_none (World.grownBy_alloc _ _ _) hsr)
          subst hc2
          clear hown hbl hv
          go_wp2_with (at_builtin; refine wpList_append_lies _ rfl _ _ _ rfl N 3 i1 (.int .i64 0) 1 8 Tryz.underlying32 hi hz0 hz1 hz2 rfl (by omega) (.slice sl k cl) k (ds.map iv) rfl hownA ⟨wr.heap.size, 0, none⟩ 1 1 [iv d] rfl rfl hnews one_iv (by omega) (by unfold maxLen; omega) (by omega) hsi (wr.heap.size + 1) (by simp) ?_; intro g2 cap2 w5 hown5 hgrow hat9 hlt9)
          have hbl5 := hblA.trans (below_own hownA hgrow hsi)
          have hmap : ds.map iv ++ [iv d] = (ds ++ [d]).map iv := by rw [List.map_append]; rfl
          rw [hmap] at hown5
          have hl5 : Hid ((ds ++ [d]).length = k + 1) := by show _ = _; rw [List.length_append, hdl.out]; rfl
          clear hgrow hownA hnews hblA hmap
          go_roundg (n - (k + 1))
          case measure => omega
          case rel => exact ⟨k + 1, 1, _, cap2, ds ++ [d], rfl, rfl, by go_num, (by omega), by omega, by omega, hown5, hl5, hdd.snoc hd4, hvn, hbl5⟩
        · obtain ⟨d, hd⟩ : ∃ d : Nat, (x : Int) - (bo : Int) - (y : Int) = (d : Int) := ⟨((x : Int) - (bo : Int) - (y : Int)).toNat, by omega⟩
          have t1 : decide ((x : Int) - (bo : Int) - (y : Int) < 0) = false := decide_eq_false (by omega)
          have t2 : decide ((d : Int) < 0) = false := decide_eq_false (by omega)
          obtain ⟨c2', hc2⟩ : ∃ c, c = 0 := ⟨_, rfl⟩
          have hd4 : d < 10000 := by omega
          have hvn : Hid (val D (ds ++ [d]) + val D (ys.take (k + 1)) = val D (xs.take (k + 1)) + c2' * D ^ (k + 1)) := by
            show _ = _
            rw [val_snoc, hdl.out, Nat.pow_succ, take_getD xs, take_getD ys, HX.out, HY.out]
            exact rless_step hv.out (by unfold D; omega)
          have hownA := own_allocI hown (.cells #[iv d] 3)
          have hnews : ∀ j u, ([iv d] : List Value)[j]? = some u → (wr.alloc (.cells #[iv d] 3)).cell? ((⟨wr.heap.size, 0, none⟩ : Addr).add j) = some u := World.news_of_block (heap_alloc_new wr _)
          have hsi : N ≤ (wr.alloc (.cells #[iv d] 3)).heap.size := by simp; omega
          have hblA : Below N w0 (wr.alloc (.cells #[iv d] 3)) := hbl.trans (below_none (World.grownBy_alloc _ _ _) hsr)
          subst hc2
          clear hown hbl hv
          go_wp2_with (at_builtin; refine wpList_append_lies _ rfl _ _ _ rfl N 3 i1 (.int .i64 0) 1 8 Tryz.underlying32 hi hz0 hz1 hz2 rfl (by omega) (.slice sl k cl) k (ds.map iv) rfl hownA ⟨wr.heap.size, 0, none⟩ 1 1 [iv d] rfl rfl hnews one_iv (by omega) (by unfold maxLen; omega) (by omega) hsi (wr.heap.size + 1) (by simp) ?_; intro g2 cap2 w5 hown5 hgrow hat9 hlt9)
          have hbl5 := hblA.trans (below_own hownA hgrow hsi)
          have hmap : ds.map iv ++ [iv d] = (ds ++ [d]).map iv := by rw [List.map_append]; rfl
          rw [hmap] at hown5
          have hl5 : Hid ((ds ++ [d]).length = k + 1) := by show _ = _; rw [List.length_append, hdl.out]; rfl
          clear hgrow hownA hnews hblA hmap
          go_roundg (n - (k + 1))
          case measure => omega
          case rel => exact ⟨k + 1, 0, _, cap2, ds ++ [d], rfl, rfl, by go_num, (by omega), by omega, by omega, hown5, hl5, hdd.snoc hd4, hvn, hbl5⟩
      · have y0 : y = 0 := by rw [← HY.out]; exact getD_out Hm.out hkm
        have f2 : decide ((k : Int) < (m : Int)) = false := decide_eq_false (by omega)
        by_cases hs : x < bo + y
        · have t1 : decide ((x : Int) - (bo : Int) < 0) = true := decide_eq_true (by omega)
          obtain ⟨d, hd⟩ : ∃ d : Nat, (x : Int) - (bo : Int) + 10000 = (d : Int) := ⟨((x : Int) - (bo : Int) + 10000).toNat, by omega⟩
          obtain ⟨c2', hc2⟩ : ∃ c, c = 1 := ⟨_, rfl⟩
          have hd4 : d < 10000 := by omega
          have hvn : Hid (val D (ds ++ [d]) + val D (ys.take (k + 1)) = val D (xs.take (k + 1)) + c2' * D ^ (k + 1)) := by
            show _ = _
            rw [val_snoc, hdl.out, Nat.pow_succ, take_getD xs, take_getD ys, HX.out, HY.out]
            exact rless_step hv.out (by unfold D; omega)
          have hownA := own_allocI hown (.cells #[iv d] 3)
          have hnews : ∀ j u, ([iv d] : List Value)[j]? = some u → (wr.alloc (.cells #[iv d] 3)).cell? ((⟨wr.heap.size, 0, none⟩ : Addr).add j) = some u := World.news_of_block (heap_alloc_new wr _)
          have hsi : N ≤ (wr.alloc (.cells #[iv d] 3)).heap.size := by simp; omega
          have hblA : Below N w0 (wr.alloc (.cells #[iv d] 3)) := hbl.trans (below_none (World.grownBy_alloc _ _ _) hsr)
          subst hc2
          clear hown hbl hv
          go_wp2_with (at_builtin; refine wpList_append_lies _ rfl _ _ _ rfl N 3 i1 (.int .i64 0) 1 8 Tryz.underlying32 hi hz0 hz1 hz2 rfl (by omega) (.slice sl k cl) k (ds.map iv) rfl hownA ⟨wr.heap.size, 0, none⟩ 1 1 [iv d] rfl rfl hnews one_iv (by omega) (by unfold maxLen; omega) (by omega) hsi (wr.heap.size + 1) (by simp) ?_; intro g2 cap2 w5 hown5 hgrow hat9 hlt9)
          have hbl5 := hblA.trans (below_own hownA hgrow hsi)
          have hmap : ds.map iv ++ [iv d] = (ds ++ [d]).map iv := by rw [List.map_append]; rfl
          rw [hmap] at hown5
          have hl5 : Hid ((ds ++ [d]).length = k + 1) := by show _ = _; rw [List.length_append, hdl.out]; rfl
          clear hgrow hownA hnews hblA hmap
          go_roundg (n - (k + 1))
          case measure => omega
          case rel => exact ⟨k + 1, 1, _, cap2, ds ++ [d], rfl, rfl, by go_num, (by omega), by omega, by omega, hown5, hl5, hdd.snoc hd4, hvn, hbl5⟩
        · obtain ⟨d, hd⟩ : ∃ d : Nat, (x : Int) - (bo : Int) = (d : Int) := ⟨((x : Int) - (bo : Int)).toNat, by omega⟩
          have t1 : decide ((x : Int) - (bo : Int) < 0) = false := decide_eq_false (by omega)
          have t2 : decide ((d : Int) < 0) = false := decide_eq_false (by omega)
          obtain ⟨c2', hc2⟩ : ∃ c, c = 0 := ⟨_, rfl⟩
          have hd4 : d < 10000 := by omega
          have hvn : Hid (val D (ds ++ [d]) + val D (ys.take (k + 1)) = val D (xs.take (k + 1)) + c2' * D ^ (k + 1)) := by
            show _ = _
            rw [val_snoc, hdl.out, Nat.pow_succ, take_getD xs, take_getD ys, HX.out, HY.out]
            exact rless_step hv.out (by unfold D; omega)
          have hownA := own_allocI hown (.cells #[iv d] 3)
          have hnews : ∀ j u, ([iv d] : List Value)[j]? = some u → (wr.alloc (.cells #[iv d] 3)).cell? ((⟨wr.heap.size, 0, none⟩ : Addr).add j) = some u := World.news_of_block (heap_alloc_new wr _)
          have hsi : N ≤ (wr.alloc (.cells #[iv d] 3)).heap.size := by simp; omega
          have hblA : Below N w0 (wr.alloc (.cells #[iv d] 3)) := hbl.trans (below_none (World.grownBy_alloc _ _ _) hsr)
          subst hc2
          clear hown hbl hv
          go_wp2_with (at_builtin; refine wpList_append_lies _ rfl _ _ _ rfl N 3 i1 (.int .i64 0) 1 8 Tryz.underlying32 hi hz0 hz1 hz2 rfl (by omega) (.slice sl k cl) k (ds.map iv) rfl hownA ⟨wr.heap.size, 0, none⟩ 1 1 [iv d] rfl rfl hnews one_iv (by omega) (by unfold maxLen; omega) (by omega) hsi (wr.heap.size + 1) (by simp) ?_; intro g2 cap2 w5 hown5 hgrow hat9 hlt9)
          have hbl5 := hblA.trans (below_own hownA hgrow hsi)
          have hmap : ds.map iv ++ [iv d] = (ds ++ [d]).map iv := by rw [List.map_append]; rfl
          rw [hmap] at hown5
          have hl5 : Hid ((ds ++ [d]).length = k + 1) := by show _ = _; rw [List.length_append, hdl.out]; rfl
          clear hgrow hownA hnews hblA hmap
          go_roundg (n - (k + 1))
          case measure => omega
          case rel => exact ⟨k + 1, 0, _, cap2, ds ++ [d], rfl, rfl, by go_num, (by omega), by omega, by omega, hown5, hl5, hdd.snoc hd4, hvn, hbl5⟩
    · obtain rfl : k = n := by omega
      have f1 : decide ((k : Int) < (k : Int)) = false := decide_eq_false (by omega)
      obtain ⟨hrd, hcap, _⟩ := own_rdoI hown
      have hgw := grown_then_below hgw0 hbl (by omega)
      have HV : Hid (val D ds = val D xs - val D ys) := by
        show _ = _
        have h1 := hv.out
        rw [List.take_of_length_le (l := ys) (by rw [Hm.out]; exact hmn), List.take_of_length_le (l := xs) (by rw [Hn.out]; exact Nat.le_refl _)] at h1
        have h2 := val_lt D ds hdd
        rw [hdl.out] at h2
        have h3 := Hle.out
        rcases (show bo = 0 ∨ bo = 1 by omega) with h4 | h4
        · rw [h4] at h1; omega
        · rw [h4, Nat.one_mul] at h1; omega
      clear hown hbl hv
      go_wp2_with fail
      refine (rcut_any wr sl k cl ds hdl.out hrd hcap (by omega) hdd).mono ?_
      rintro e w4 ⟨v, rfl, hv4, hg4⟩
      have hbox4 := heap_kept hg4 hboxr1
      obtain ⟨hc4, hf4⟩ := box_cell hbox4
      rw [HV.out] at hv4
      obtain ⟨s4, k4, c4, zs4, rfl, hz4⟩ := hv4
      have hF := Lib.hid (rret (grown_trans hgw hg4) hbox4 (by decide) (by omega) ⟨s4, k4, c4, zs4, rfl, hz4⟩ (.slice s4 k4 c4))
      clear hz4 hbox4 hg4 hgw hgw0 hboxr1 hboxr cr fr
      go_wp2_with fail
      exact bodyPost_ret (v := .agg #[.slice s4 k4 c4]) (by simp [results, Tryz.results65, go_sem, hc4]) rfl hF.out
end Go.Proofs.YtldkddogadmpbaaGreatDoor
