/- Sums of the document's own numbers. -/
import Derived.Test.YtldkddogadmpbaaGreatDoorRefCmp
namespace Go.Proofs.YtldkddogadmpbaaGreatDoor
open Go.RowKit Mat
set_option maxRecDepth 100000
set_option linter.unusedVariables false
set_option linter.unusedSimpArgs false

theorem radd_step {v c x y p d q s : Nat} (h : v + c * p = s) (hd : (c + x + y) % 10000 = d) (hq : (c + x + y) / 10000 = q) : v + p * d + q * (p * D) = s + p * x + p * y := by
  have := Nat.div_add_mod (c + x + y) 10000
  rw [hd, hq] at this
  rw [← h]
  have h2 : p * d + q * (p * D) = p * (c + x + y) := by rw [← this]; unfold D; grind
  have h3 : p * (c + x + y) = c * p + p * x + p * y := by grind
  omega
theorem take_getD (xs : List Nat) (k : Nat) : val D (xs.take (k + 1)) = val D (xs.take k) + D ^ k * xs.getD k 0 := by
  rcases Nat.lt_or_ge k xs.length with h | h
  · rw [val_take_succ D xs k h, List.getD_eq_getElem?_getD, List.getElem?_eq_getElem h]; rfl
  · rw [List.take_of_length_le (by omega), List.take_of_length_le (by omega), List.getD_eq_getElem?_getD, List.getElem?_eq_none (by omega)]; simp
theorem getD_top {xs : List Nat} {k : Nat} (ht : Top xs) (h : xs.length = k + 1) : xs.getD k 0 ≠ 0 := by
  rw [List.getD_eq_getElem?_getD, List.getElem?_eq_getElem (by omega)]
  refine ht _ ?_
  have e : xs.length - 1 = k := by omega
  rw [List.getLast?_eq_getElem?, e, List.getElem?_eq_getElem (by omega)]; rfl
theorem getD_lt {xs : List Nat} (hd : Dig D xs) (k : Nat) : xs.getD k 0 < 10000 := hd.getD D_pos k
theorem getD_out {xs : List Nat} {k n : Nat} (hn : xs.length = n) (h : n ≤ k) : xs.getD k 0 = 0 := by
  rw [List.getD_eq_getElem?_getD, List.getElem?_eq_none (by omega)]; rfl
theorem rcell {w : World} {s : Option Addr} {xs : List Nat} {n : Nat} (h : RRdo w s xs) (hn : xs.length = n) (k : Nat) (hk : k < n) : ∃ b o, s = some ⟨b, o, none⟩ ∧ w.cell? ⟨b, o + k, none⟩ = some (.int .i64 (xs.getD k 0 : Int)) := by
  obtain ⟨b, o, cs, e, h1, h2⟩ := h.get k (by omega)
  refine ⟨b, o, e, ?_⟩
  rw [h1.cell, h2 k (by omega), List.getD_eq_getElem?_getD, List.getElem?_eq_getElem (by omega)]; rfl

theorem RRdo.below {w w' : World} {N : Nat} {s : Option Addr} {xs : List Nat} (h : RRdo w s xs) (hb : Below N w w') (hN : w.heap.size ≤ N) : RRdo w' s xs := by
  rcases h with h | ⟨b, off, cs, e, h1, h2⟩
  · exact Or.inl h
  · exact Or.inr ⟨b, off, cs, e, (hb.block b (Nat.lt_of_lt_of_le h1.lt hN)).trans h1, h2⟩

set_option maxHeartbeats 8000000 in
theorem rAdd_any (w : World) (va vb : Value) (a b : Nat) (ha : RefV w va a) (hb : RefV w vb b) (ba : a < D ^ 1000000) (bb : b < D ^ 1000000) :
    Calls Tryz.prog 50 #[va, vb] w (RetRef w (a + b)) := by
  obtain ⟨sa, n, cx, xs, rfl, hn, hnc, hx, tx, dx, rfl⟩ := ha
  obtain ⟨sb, m, cy, ys, rfl, hm, hmc, hy, ty, dy, rfl⟩ := hb
  have Hn := Lib.hid hn
  have Hm := Lib.hid hm
  have hn6 : n ≤ 1000000 := rlen tx hn ba
  have hm6 : m ≤ 1000000 := rlen ty hm bb
  obtain ⟨i1, hi, hz0, hz1, hz2⟩ := info_partsI
  have hgw0 : w.grownBy (((w.alloc (.cells #[.slice sa n cx] 34)).alloc (.cells #[.slice sb m cy] 34)).alloc (.cells #[.slice none 0 0] 34)) none := grown_alloc (grown_alloc (World.grownBy_alloc _ _ _) _) _
  have hboxr := heap_new ((w.alloc (.cells #[.slice sa n cx] 34)).alloc (.cells #[.slice sb m cy] 34)) (.cells #[.slice none 0 0] 34) (w.heap.size + 1 + 1) (by simp)
  have hboxb := (Below.heap_alloc _ (.cells #[.slice none 0 0] 34) (w.heap.size + 1) (by simp)).trans (heap_new (w.alloc (.cells #[.slice sa n cx] 34)) (.cells #[.slice sb m cy] 34) (w.heap.size + 1) (by simp))
  have hboxa := ((Below.heap_alloc _ (.cells #[.slice none 0 0] 34) w.heap.size (by simp; omega)).trans (Below.heap_alloc _ (.cells #[.slice sb m cy] 34) w.heap.size (by simp))).trans (heap_new w (.cells #[.slice sa n cx] 34) w.heap.size rfl)
  have hs0 : (((w.alloc (.cells #[.slice sa n cx] 34)).alloc (.cells #[.slice sb m cy] 34)).alloc (.cells #[.slice none 0 0] 34)).heap.size = w.heap.size + 1 + 1 + 1 := by simp
  obtain ⟨N, hN⟩ : ∃ N, N = w.heap.size + 1 + 1 + 1 := ⟨_, rfl⟩
  have hx0 := hx.kept hgw0
  have hy0 := hy.kept hgw0
  clear hn hm ba bb hx hy
  go_enter Tryz.func50, Tryz.ntmps50
  go_wp2_with fail
  generalize (((w.alloc (.cells #[.slice sa n cx] 34)).alloc (.cells #[.slice sb m cy] 34)).alloc (.cells #[.slice none 0 0] 34)) = w0 at *
  go_loopg [5, 6, 7] (max n m + 1) (fun gh s c i wr => ∃ (k cc : Nat) (sl : Option Addr) (cl : Nat) (ds : List Nat), s = .slice sl k cl ∧ c = .int .i64 cc ∧ i = .int .i64 k ∧ cc ≤ 1 ∧ k ≤ max n m + 1 ∧ (k = max n m + 1 → cc = 0) ∧ max n m + 1 - k ≤ gh ∧ wr.ownsRow N 3 1 (.slice sl k cl) k (ds.map iv) ∧ Hid (ds.length = k) ∧ Dig D ds ∧ Hid (n ≤ k → m ≤ k → cc = 0 → Top ds) ∧ Hid (val D ds + cc * D ^ k = val D (xs.take k) + val D (ys.take k)) ∧ Below N w0 wr)
  case atStart => exact ⟨0, 0, none, 0, [], rfl, rfl, rfl, by omega, by omega, by omega, by omega, ⟨rfl, Or.inl ⟨rfl, rfl⟩⟩, rfl, Dig.nil _, fun _ _ _ x hx => by simp at hx, by show _ = _; simp [val], Below.refl _ _⟩
  case round =>
    obtain ⟨k, cc, sl, cl, ds, rfl, rfl, rfl, hc1, hkm, hkc, hgh, hown, hdl, hdd, htp, hv, hbl⟩ := hrel
    obtain ⟨ca, fa⟩ := box_cell (heap_below hbl hboxa (by omega))
    obtain ⟨cb, fb⟩ := box_cell (heap_below hbl hboxb (by omega))
    have hboxr1 := heap_below hbl hboxr (by omega)
    obtain ⟨cr, fr⟩ := box_cell hboxr1
    have hsr : N ≤ wr.heap.size := by have := hbl.size; omega
    have hxr : RRdo wr sa xs := hx0.below hbl (by omega)
    have hyr : RRdo wr sb ys := hy0.below hbl (by omega)
    by_cases hend : n ≤ k ∧ m ≤ k ∧ cc = 0
    · obtain ⟨hnk, hmk, rfl⟩ := hend
      have f1 : decide ((k : Int) < (n : Int)) = false := decide_eq_false (by omega)
      have f2 : decide ((k : Int) < (m : Int)) = false := decide_eq_false (by omega)
      obtain ⟨hrd, hcap, _⟩ := own_rdoI hown
      have hF : Hid (RetRef w (val D xs + val D ys) (.returned (.agg #[.slice sl k cl])) (wr.setCell ⟨w.heap.size + 1 + 1, 0, none⟩ (.slice sl k cl))) := by
        refine ⟨_, rfl, ⟨sl, k, cl, ds, rfl, hdl.out, hcap, hrd.set_other hboxr1 (by decide) 0 _, htp.out hnk hmk rfl, hdd, ?_⟩, grown_new (grown_then_below hgw0 hbl (by omega)) (grown_set (grown_refl _ _) _ _) (by omega)⟩
        have := hv.out
        rw [List.take_of_length_le (by rw [Hn.out]; exact hnk), List.take_of_length_le (by rw [Hm.out]; exact hmk)] at this
        omega
      clear hown hbl hboxr1 hv htp hxr hyr
      go_wp2_with fail
      exact bodyPost_ret (v := .agg #[.slice sl k cl]) (by simp [results, Tryz.results50, go_sem, cr]) rfl hF.out
    · obtain ⟨x, hxk⟩ : ∃ x, xs.getD k 0 = x := ⟨_, rfl⟩
      obtain ⟨y, hyk⟩ : ∃ y, ys.getD k 0 = y := ⟨_, rfl⟩
      have hx4 : x < 10000 := hxk ▸ getD_lt dx k
      have hy4 : y < 10000 := hyk ▸ getD_lt dy k
      obtain ⟨d, hd⟩ : ∃ d, (cc + x + y) % 10000 = d := ⟨_, rfl⟩
      obtain ⟨q, hq⟩ : ∃ q, (cc + x + y) / 10000 = q := ⟨_, rfl⟩
      have hvn : Hid (val D (ds ++ [d]) + q * D ^ (k + 1) = val D (xs.take (k + 1)) + val D (ys.take (k + 1))) := by
        show _ = _
        rw [val_snoc, hdl.out, Nat.pow_succ, radd_step hv.out hd hq, take_getD, take_getD, hxk, hyk]; omega
      have hxo : n ≤ k → x = 0 := fun h => by rw [← hxk]; exact getD_out Hn.out h
      have hyo : m ≤ k → y = 0 := fun h => by rw [← hyk]; exact getD_out Hm.out h
      have hxt : n = k + 1 → x ≠ 0 := fun h => by rw [← hxk]; exact getD_top tx (by rw [Hn.out]; exact h)
      have hyt : m = k + 1 → y ≠ 0 := fun h => by rw [← hyk]; exact getD_top ty (by rw [Hm.out]; exact h)
      have htp2 : Hid (n ≤ k + 1 → m ≤ k + 1 → q = 0 → Top (ds ++ [d])) := fun h1 h2 h3 => top_snoc (by omega)
      have hk2 : k < max n m + 1 := by omega
      have hk3 : k + 1 = max n m + 1 → q = 0 := by omega
      have hd4 : d < 10000 := by omega
      have hq1 : q ≤ 1 := by omega
      have hownA := own_allocI hown (.cells #[iv d] 3)
      have hnews : ∀ j u, ([iv d] : List Value)[j]? = some u → (wr.alloc (.cells #[iv d] 3)).cell? ((⟨wr.heap.size, 0, none⟩ : Addr).add j) = some u := World.news_of_block (heap_alloc_new wr _)
      have hsi : N ≤ (wr.alloc (.cells #[iv d] 3)).heap.size := by simp; omega
      have hblA : Below N w0 (wr.alloc (.cells #[iv d] 3)) := hbl.trans (below_none (World.grownBy_alloc _ _ _) hsr)
      have HX := Lib.hid hxk
      have HY := Lib.hid hyk
      clear hxk hyk hxt hyt hown hbl hv htp hboxr1 hkc
      by_cases hkn : k < n <;> by_cases hkm2 : k < m
      ·
        obtain ⟨b1, o1, rfl, c1⟩ := rcell hxr Hn.out k (by omega); rw [HX.out] at c1; have f1 : decide ((k : Int) < (n : Int)) = true := decide_eq_true (by omega)
        obtain ⟨b2, o2, rfl, c2⟩ := rcell hyr Hm.out k (by omega); rw [HY.out] at c2; have f2 : decide ((k : Int) < (m : Int)) = true := decide_eq_true (by omega)
        have e1 : ((cc : Int) + (x : Int) + (y : Int)) % 10000 = (d : Int) := by omega
        have e2 : ((cc : Int) + (x : Int) + (y : Int)) / 10000 = (q : Int) := by omega
        clear hd hq hxo hyo
        go_wp2_with (at_builtin; refine wpList_append_lies _ rfl _ _ _ rfl N 3 i1 (.int .i64 0) 1 8 Tryz.underlying32 hi hz0 hz1 hz2 rfl (by omega) (.slice sl k cl) k (ds.map iv) rfl hownA ⟨wr.heap.size, 0, none⟩ 1 1 [iv d] rfl rfl hnews one_iv (by omega) (by unfold maxLen; omega) (by omega) hsi (wr.heap.size + 1) (by simp) ?_; intro g2 cap2 w5 hown5 hgrow hat9 hlt9)
        have hbl5 := hblA.trans (below_own hownA hgrow hsi)
        have hmap : ds.map iv ++ [iv d] = (ds ++ [d]).map iv := by rw [List.map_append]; rfl
        rw [hmap] at hown5
        have hl5 : Hid ((ds ++ [d]).length = k + 1) := by show _ = _; rw [List.length_append, hdl.out]; rfl
        clear hgrow hownA hnews hblA hmap
        go_roundg (max n m - k)
        case measure => omega
        case rel => exact ⟨k + 1, q, _, cap2, ds ++ [d], rfl, (by first | rfl | rw [e2]), by go_num, hq1, by omega, hk3, by omega, hown5, hl5, hdd.snoc hd4, htp2, hvn, hbl5⟩
      ·
        obtain ⟨b1, o1, rfl, c1⟩ := rcell hxr Hn.out k (by omega); rw [HX.out] at c1; have f1 : decide ((k : Int) < (n : Int)) = true := decide_eq_true (by omega)
        have f2 : decide ((k : Int) < (m : Int)) = false := decide_eq_false (by omega)
        have y00 := hyo (by omega)
        have e1 : ((cc : Int) + (x : Int)) % 10000 = (d : Int) := by omega
        have e2 : ((cc : Int) + (x : Int)) / 10000 = (q : Int) := by omega
        clear hd hq hxo hyo
        go_wp2_with (at_builtin; refine wpList_append_lies _ rfl _ _ _ rfl N 3 i1 (.int .i64 0) 1 8 Tryz.underlying32 hi hz0 hz1 hz2 rfl (by omega) (.slice sl k cl) k (ds.map iv) rfl hownA ⟨wr.heap.size, 0, none⟩ 1 1 [iv d] rfl rfl hnews one_iv (by omega) (by unfold maxLen; omega) (by omega) hsi (wr.heap.size + 1) (by simp) ?_; intro g2 cap2 w5 hown5 hgrow hat9 hlt9)
        have hbl5 := hblA.trans (below_own hownA hgrow hsi)
        have hmap : ds.map iv ++ [iv d] = (ds ++ [d]).map iv := by rw [List.map_append]; rfl
        rw [hmap] at hown5
        have hl5 : Hid ((ds ++ [d]).length = k + 1) := by show _ = _; rw [List.length_append, hdl.out]; rfl
        clear hgrow hownA hnews hblA hmap
        go_roundg (max n m - k)
        case measure => omega
        case rel => exact ⟨k + 1, q, _, cap2, ds ++ [d], rfl, (by first | rfl | rw [e2]), by go_num, hq1, by omega, hk3, by omega, hown5, hl5, hdd.snoc hd4, htp2, hvn, hbl5⟩
      ·
        have f1 : decide ((k : Int) < (n : Int)) = false := decide_eq_false (by omega)
        obtain ⟨b2, o2, rfl, c2⟩ := rcell hyr Hm.out k (by omega); rw [HY.out] at c2; have f2 : decide ((k : Int) < (m : Int)) = true := decide_eq_true (by omega)
        have x00 := hxo (by omega)
        have e1 : ((cc : Int) + (y : Int)) % 10000 = (d : Int) := by omega
        have e2 : ((cc : Int) + (y : Int)) / 10000 = (q : Int) := by omega
        clear hd hq hxo hyo
        go_wp2_with (at_builtin; refine wpList_append_lies _ rfl _ _ _ rfl N 3 i1 (.int .i64 0) 1 8 Tryz.underlying32 hi hz0 hz1 hz2 rfl (by omega) (.slice sl k cl) k (ds.map iv) rfl hownA ⟨wr.heap.size, 0, none⟩ 1 1 [iv d] rfl rfl hnews one_iv (by omega) (by unfold maxLen; omega) (by omega) hsi (wr.heap.size + 1) (by simp) ?_; intro g2 cap2 w5 hown5 hgrow hat9 hlt9)
        have hbl5 := hblA.trans (below_own hownA hgrow hsi)
        have hmap : ds.map iv ++ [iv d] = (ds ++ [d]).map iv := by rw [List.map_append]; rfl
        rw [hmap] at hown5
        have hl5 : Hid ((ds ++ [d]).length = k + 1) := by show _ = _; rw [List.length_append, hdl.out]; rfl
        clear hgrow hownA hnews hblA hmap
        go_roundg (max n m - k)
        case measure => omega
        case rel => exact ⟨k + 1, q, _, cap2, ds ++ [d], rfl, (by first | rfl | rw [e2]), by go_num, hq1, by omega, hk3, by omega, hown5, hl5, hdd.snoc hd4, htp2, hvn, hbl5⟩
      ·
        have f1 : decide ((k : Int) < (n : Int)) = false := decide_eq_false (by omega)
        have f2 : decide ((k : Int) < (m : Int)) = false := decide_eq_false (by omega)
        have y00 := hyo (by omega)
        have x00 := hxo (by omega)
        obtain rfl : cc = 1 := by omega
        subst x00
        subst y00
        obtain rfl : d = 1 := by omega
        obtain rfl : q = 0 := by omega
        have e0 : iv 1 = .int .i64 1 := rfl
        rw [e0] at hownA hnews hblA hsi
        clear hd hq hxo hyo
        go_wp2_with (at_builtin; refine wpList_append_lies _ rfl _ _ _ rfl N 3 i1 (.int .i64 0) 1 8 Tryz.underlying32 hi hz0 hz1 hz2 rfl (by omega) (.slice sl k cl) k (ds.map iv) rfl hownA ⟨wr.heap.size, 0, none⟩ 1 1 [Value.int .i64 1] rfl rfl hnews one_iv (by omega) (by unfold maxLen; omega) (by omega) hsi (wr.heap.size + 1) (by simp) ?_; intro g2 cap2 w5 hown5 hgrow hat9 hlt9)
        have hbl5 := hblA.trans (below_own hownA hgrow hsi)
        have hmap : ds.map iv ++ [Value.int .i64 1] = (ds ++ [1]).map iv := by rw [List.map_append]; rfl
        rw [hmap] at hown5
        have hl5 : Hid ((ds ++ [1]).length = k + 1) := by show _ = _; rw [List.length_append, hdl.out]; rfl
        clear hgrow hownA hnews hblA hmap
        go_roundg (max n m - k)
        case measure => omega
        case rel => exact ⟨k + 1, 0, _, cap2, ds ++ [1], rfl, (by first | rfl | rw [e2]), by go_num, hq1, by omega, fun _ => rfl, by omega, hown5, hl5, hdd.snoc hd4, fun a b _ => (show Top (ds ++ [1]) from top_snoc (by omega)), hvn, hbl5⟩
end Go.Proofs.YtldkddogadmpbaaGreatDoor
