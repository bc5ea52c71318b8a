/- What the laws lean on, part 9. -/
import Derived.Test.YthbhgcaemcobeaaGreatDoorMp8
import Derived.Test.YthbhgcaemcobeaaGreatDoorMp5
namespace Go.Proofs.YthbhgcaemcobeaaGreatDoor
open Go.RowKit Mat
set_option maxRecDepth 100000
set_option linter.unusedVariables false
set_option linter.unusedSimpArgs false
theorem radd_step {v c x y p d q s : Nat} (h : v + c * p = s) (hd : (c + x + y) % 10000 = d) (hq : (c + x + y) / 10000 = q) : v + p * d + q * (p * D) = s + p * x + p * y := by
  have := Nat.div_add_mod (c + x + y) 10000
  rw [hd, hq] at this
  rw [← h]
  have h2 : p * d + q * (p * D) = p * (c + x + y) := by rw [← this]; unfold D; grind
  have h3 : p * (c + x + y) = c * p + p * x + p * y := by grind
  omega
theorem take_getD (xs : List Nat) (k : Nat) : val D (xs.take (k + 1)) = val D (xs.take k) + D ^ k * xs.getD k 0 := by
  rcases Nat.lt_or_ge k xs.length with h | h
  · rw [val_take_succ D xs k h, List.getD_eq_getElem?_getD, List.getElem?_eq_getElem h]; rfl
  · rw [List.take_of_length_le (by omega), List.take_of_length_le (by omega), List.getD_eq_getElem?_getD, List.getElem?_eq_none (by omega)]; simp
theorem getD_top {xs : List Nat} {k : Nat} (ht : Top xs) (h : xs.length = k + 1) : xs.getD k 0 ≠ 0 := by
  rw [List.getD_eq_getElem?_getD, List.getElem?_eq_getElem (by omega)]
  refine ht _ ?_
  have e : xs.length - 1 = k := by omega
  rw [List.getLast?_eq_getElem?, e, List.getElem?_eq_getElem (by omega)]; rfl
theorem getD_lt {xs : List Nat} (hd : Dig D xs) (k : Nat) : xs.getD k 0 < 10000 := hd.getD D_pos k
theorem getD_out {xs : List Nat} {k n : Nat} (hn : xs.length = n) (h : n ≤ k) : xs.getD k 0 = 0 := by
  rw [List.getD_eq_getElem?_getD, List.getElem?_eq_none (by omega)]; rfl
theorem rcell {w : World} {s : Option Addr} {xs : List Nat} {n : Nat} (h : RRdo w s xs) (hn : xs.length = n) (k : Nat) (hk : k < n) : ∃ b o, s = some ⟨b, o, none⟩ ∧ w.cell? ⟨b, o + k, none⟩ = some (.int .i64 (xs.getD k 0 : Int)) := by
  obtain ⟨b, o, cs, e, h1, h2⟩ := h.get k (by omega)
  refine ⟨b, o, e, ?_⟩
  rw [h1.cell, h2 k (by omega), List.getD_eq_getElem?_getD, List.getElem?_eq_getElem (by omega)]; rfl
theorem RRdo.below {w w' : World} {N : Nat} {s : Option Addr} {xs : List Nat} (h : RRdo w s xs) (hb : Below N w w') (hN : w.heap.size ≤ N) : RRdo w' s xs := by
  rcases h with h | ⟨b, off, cs, e, h1, h2⟩
  · exact Or.inl h
  · exact Or.inr ⟨b, off, cs, e, (hb.block b (Nat.lt_of_lt_of_le h1.lt hN)).trans h1, h2⟩
set_option maxHeartbeats 8000000 in
theorem rAdd_any (w : World) (va vb : Value) (a b : Nat) (ha : RefV w va a) (hb : RefV w vb b) (ba : a < D ^ 1000000) (bb : b < D ^ 1000000) :
    Calls Tryz.prog 83 #[va, vb] w (RetRef w (a + b)) := by
  obtain ⟨sa, n, cx, xs, rfl, hn, hnc, hx, tx, dx, rfl⟩ := ha
  obtain ⟨sb, m, cy, ys, rfl, hm, hmc, hy, ty, dy, rfl⟩ := hb
  have Hn := Lib.hid hn
  have Hm := Lib.hid hm
  have hn6 : n ≤ 1000000 := rlen tx hn ba
  have hm6 : m ≤ 1000000 := rlen ty hm bb
  obtain ⟨i1, hi, hz0, hz1, hz2⟩ := info_partsI
  have hgw0 : w.grownBy (((w.alloc (.cells #[.slice sa n cx] 38)).alloc (.cells #[.slice sb m cy] 38)).alloc (.cells #[.slice none 0 0] 38)) none := grown_alloc (grown_alloc (World.grownBy_alloc _ _ _) _) _
  have hboxr := heap_new ((w.alloc (.cells #[.slice sa n cx] 38)).alloc (.cells #[.slice sb m cy] 38)) (.cells #[.slice none 0 0] 38) (w.heap.size + 1 + 1) (by simp)
  have hboxb := (Below.heap_alloc _ (.cells #[.slice none 0 0] 38) (w.heap.size + 1) (by simp)).trans (heap_new (w.alloc (.cells #[.slice sa n cx] 38)) (.cells #[.slice sb m cy] 38) (w.heap.size + 1) (by simp))
  have hboxa := ((Below.heap_alloc _ (.cells #[.slice none 0 0] 38) w.heap.size (by simp; omega)).trans (Below.heap_alloc _ (.cells #[.slice sb m cy] 38) w.heap.size (by simp))).trans (heap_new w (.cells #[.slice sa n cx] 38) w.heap.size rfl)
  have hs0 : (((w.alloc (.cells #[.slice sa n cx] 38)).alloc (.cells #[.slice sb m cy] 38)).alloc (.cells #[.slice none 0 0] 38)).heap.size = w.heap.size + 1 + 1 + 1 := by simp
  obtain ⟨N, hN⟩ : ∃ N, N = w.heap.size + 1 + 1 + 1 := ⟨_, rfl⟩
  have hx0 := hx.kept hgw0
  have hy0 := hy.kept hgw0
  clear hn hm ba bb hx hy
  go_enter Tryz.func83, Tryz.ntmps83
  go_wp2_with fail
  generalize (((w.alloc (.cells #[.slice sa n cx] 38)).alloc (.cells #[.slice sb m cy] 38)).alloc (.cells #[.slice none 0 0] 38)) = w0 at *
  go_loopg [5, 6, 7] (max n m + 1) (fun gh s c i wr => ∃ (k cc : Nat) (sl : Option Addr) (cl : Nat) (ds : List Nat), s = .slice sl k cl ∧ c = .int .i64 cc ∧ i = .int .i64 k ∧ cc ≤ 1 ∧ k ≤ max n m + 1 ∧ (k = max n m + 1 → cc = 0) ∧ max n m + 1 - k ≤ gh ∧ wr.ownsRow N 3 1 (.slice sl k cl) k (ds.map iv) ∧ Hid (ds.length = k) ∧ Dig D ds ∧ Hid (n ≤ k → m ≤ k → cc = 0 → Top ds) ∧ Hid (val D ds + cc * D ^ k = val D (xs.take k) + val D (ys.take k)) ∧ Below N w0 wr)
  case atStart => exact ⟨0, 0, none, 0, [], rfl, rfl, rfl, by omega, by omega, by omega, by omega, ⟨rfl, Or.inl ⟨rfl, rfl⟩⟩, rfl, Dig.nil _, fun _ _ _ x hx => by simp at hx, by show _ = _; simp [val], Below.refl _ _⟩
  case round =>
    obtain ⟨k, cc, sl, cl, ds, rfl, rfl, rfl, hc1, hkm, hkc, hgh, hown, hdl, hdd, htp, hv, hbl⟩ := hrel
    obtain ⟨ca, fa⟩ := box_cell (heap_below hbl hboxa (by omega))
    obtain ⟨cb, fb⟩ := box_cell (heap_below hbl hboxb (by omega))
    have hboxr1 := heap_below hbl hboxr (by omega)
    obtain ⟨cr, fr⟩ := box_cell hboxr1
    have hsr : N ≤ wr.heap.size := by have := hbl.size; omega
    have hxr : RRdo wr sa xs := hx0.below hbl (by omega)
    have hyr : RRdo wr sb ys := hy0.below hbl (by omega)
    by_cases hend : n ≤ k ∧ m ≤ k ∧ cc = 0
    · obtain ⟨hnk, hmk, rfl⟩ := hend
      have f1 : decide ((k : Int) < (n : Int)) = false := decide_eq_false (by omega)
      have f2 : decide ((k : Int) < (m : Int)) = false := decide_eq_false (by omega)
      obtain ⟨hrd, hcap, _⟩ := own_rdoI hown
      have hF : Hid (RetRef w (val D xs + val D ys) (.returned (.agg #[.slice sl k cl])) (wr.setCell ⟨w.heap.size + 1 + 1, 0, none⟩ (.slice sl k cl))) := by
        refine ⟨_, rfl, ⟨sl, k, cl, ds, rfl, hdl.out, hcap, hrd.set_other hboxr1 (by decide) 0 _, htp.out hnk hmk rfl, hdd, ?_⟩, grown_new (grown_then_below hgw0 hbl (by omega)) (grown_set (grown_refl _ _) _ _) (by omega)⟩
        have := hv.out
        rw [List.take_of_length_le (by rw [Hn.out]; exact hnk), List.take_of_length_le (by rw [Hm.out]; exact hmk)] at this
        omega
      clear hown hbl hboxr1 hv htp hxr hyr
      go_wp2_with fail
      exact bodyPost_ret (v := .agg #[.slice sl k cl]) (by simp [results, Tryz.results83, go_sem, cr]) rfl hF.out
    · obtain ⟨x, hxk⟩ : ∃ x, xs.getD k 0 = x := ⟨_, rfl⟩
      obtain ⟨y, hyk⟩ : ∃ y, ys.getD k 0 = y := ⟨_, rfl⟩
      have hx4 : x < 10000 := hxk ▸ getD_lt dx k
      have hy4 : y < 10000 := hyk ▸ getD_lt dy k
      obtain ⟨d, hd⟩ : ∃ d, (cc + x + y) % 10000 = d := ⟨_, rfl⟩
      obtain ⟨q, hq⟩ : ∃ q, (cc + x + y) / 10000 = q := ⟨_, rfl⟩
      have hvn : Hid (val D (ds ++ [d]) + q * D ^ (k + 1) = val D (xs.take (k + 1)) + val D (ys.take (k + 1))) := by
        show _ = _
        rw [val_snoc, hdl.out, Nat.pow_succ, radd_step hv.out hd hq, take_getD, take_getD, hxk, hyk]; omega
      have hxo : n ≤ k → x = 0 := fun h => by rw [← hxk]; exact getD_out Hn.out h
      have hyo : m ≤ k → y = 0 := fun h => by rw [← hyk]; exact getD_out Hm.out h
      have hxt : n = k + 1 → x ≠ 0 := fun h => by rw [← hxk]; exact getD_top tx (by rw [Hn.out]; exact h)
      have hyt : m = k + 1 → y ≠ 0 := fun h => by rw [← hyk]; exact getD_top ty (by rw [Hm.out]; exact h)
      have htp2 : Hid (n ≤ k + 1 → m ≤ k + 1 → q = 0 → Top (ds ++ [d])) := fun h1 h2 h3 => top_snoc (by omega)
      have hk2 : k < max n m + 1 := by omega
      have hk3 : k + 1 = max n m + 1 → q = 0 := by omega
      have hd4 : d < 10000 := by omega
      have hq1 : q ≤ 1 := by omega
      have hownA := own_allocI hown (.cells #[iv d] 3)
      have hnews : ∀ j u, ([iv d] : List Value)[j]? = some u → (wr.alloc (.cells #[iv d] 3)).cell? ((⟨wr.heap.size, 0, none⟩ : Addr).add j) = some u := World.news_of_block (heap_alloc_new wr _)
      have hsi : N ≤ (wr.alloc (.cells #[iv d] 3)).heap.size := by simp; omega
      have hblA : Below N w0 (wr.alloc (.cells #[iv d] 3)) := hbl.trans (below_none (World.grownBy_alloc _ _ _) hsr)
      have HX := Lib.hid hxk
      have HY := Lib.hid hyk
      clear hxk hyk hxt hyt hown hbl hv htp hboxr1 hkc
      by_cases hkn : k < n <;> by_cases hkm2 : k < m
      ·
        obtain ⟨b1, o1, rfl, c1⟩ := rcell hxr Hn.out k (by omega); rw [HX.out] at c1; have f1 : decide ((k : Int) < (n : Int)) = true := decide_eq_true (by omega)
        obtain ⟨b2, o2, rfl, c2⟩ := rcell hyr Hm.out k (by omega); rw [HY.out] at c2; have f2 : decide ((k : Int) < (m : Int)) = true := decide_eq_true (by omega)
        have e1 : ((cc : Int) + (x : Int) + (y : Int)) % 10000 = (d : Int) := by omega
        have e2 : ((cc : Int) + (x : Int) + (y : Int)) / 10000 = (q : Int) := by omega
        clear hd hq hxo hyo
        go_wp2_with (at_builtin; refine wpList_append_lies _ rfl _ _ _ rfl N 3 i1 (.int .i64 0) 1 8 Tryz.underlying36 hi hz0 hz1 hz2 rfl (by omega) (.slice sl k cl) k (ds.map iv) rfl hownA ⟨wr.heap.size, 0, none⟩ 1 1 [iv d] rfl rfl hnews one_iv (by omega) (by unfold maxLen; omega) (by omega) hsi (wr.heap.size + 1) (by simp) ?_; intro g2 cap2 w5 hown5 hgrow hat9 hlt9)
        have hbl5 := hblA.trans (below_own hownA hgrow hsi)
        have hmap : ds.map iv ++ [iv d] = (ds ++ [d]).map iv := by rw [List.map_append]; rfl
        rw [hmap] at hown5
        have hl5 : Hid ((ds ++ [d]).length = k + 1) := by show _ = _; rw [List.length_append, hdl.out]; rfl
        clear hgrow hownA hnews hblA hmap
        go_roundg (max n m - k)
        case measure => omega
        case rel => exact ⟨k + 1, q, _, cap2, ds ++ [d], rfl, (by first | rfl | rw [e2]), by go_num, hq1, by omega, hk3, by omega, hown5, hl5, hdd.snoc hd4, htp2, hvn, hbl5⟩
      ·
        obtain ⟨b1, o1, rfl, c1⟩ := rcell hxr Hn.out k (by omega); rw [HX.out] at c1; have f1 : decide ((k : Int) < (n : Int)) = true := decide_eq_true (by omega)
        have f2 : decide ((k : Int) < (m : Int)) = false := decide_eq_false (by omega)
        have y00 := hyo (by omega)
        have e1 : ((cc : Int) + (x : Int)) % 10000 = (d : Int) := by omega
        have e2 : ((cc : Int) + (x : Int)) / 10000 = (q : Int) := by omega
        clear hd hq hxo hyo
        go_wp2_with (at_builtin; refine wpList_append_lies _ rfl _ _ _ rfl N 3 i1 (.int .i64 0) 1 8 Tryz.underlying36 hi hz0 hz1 hz2 rfl (by omega) (.slice sl k cl) k (ds.map iv) rfl hownA ⟨wr.heap.size, 0, none⟩ 1 1 [iv d] rfl rfl hnews one_iv (by omega) (by unfold maxLen; omega) (by omega) hsi (wr.heap.size + 1) (by simp) ?_; intro g2 cap2 w5 hown5 hgrow hat9 hlt9)
        have hbl5 := hblA.trans (below_own hownA hgrow hsi)
        have hmap : ds.map iv ++ [iv d] = (ds ++ [d]).map iv := by rw [List.map_append]; rfl
        rw [hmap] at hown5
        have hl5 : Hid ((ds ++ [d]).length = k + 1) := by show _ = _; rw [List.length_append, hdl.out]; rfl
        clear hgrow hownA hnews hblA hmap
        go_roundg (max n m - k)
        case measure => omega
        case rel => exact ⟨k + 1, q, _, cap2, ds ++ [d], rfl, (by first | rfl | rw [e2]), by go_num, hq1, by omega, hk3, by omega, hown5, hl5, hdd.snoc hd4, htp2, hvn, hbl5⟩
      ·
        have f1 : decide ((k : Int) < (n : Int)) = false := decide_eq_false (by omega)
        obtain ⟨b2, o2, rfl, c2⟩ := rcell hyr Hm.out k (by omega); rw [HY.out] at c2; have f2 : decide ((k : Int) < (m : Int)) = true := decide_eq_true (by omega)
        have x00 := hxo (by omega)
        have e1 : ((cc : Int) + (y : Int)) % 10000 = (d : Int) := by omega
        have e2 : ((cc : Int) + (y : Int)) / 10000 = (q : Int) := by omega
        clear hd hq hxo hyo
        go_wp2_with (at_builtin; refine wpList_append_lies _ rfl _ _ _ rfl N 3 i1 (.int .i64 0) 1 8 Tryz.underlying36 hi hz0 hz1 hz2 rfl (by omega) (.slice sl k cl) k (ds.map iv) rfl hownA ⟨wr.heap.size, 0, none⟩ 1 1 [iv d] rfl rfl hnews one_iv (by omega) (by unfold maxLen; omega) (by omega) hsi (wr.heap.size + 1) (by simp) ?_; intro g2 cap2 w5 hown5 hgrow hat9 hlt9)
        have hbl5 := hblA.trans (below_own hownA hgrow hsi)
        have hmap : ds.map iv ++ [iv d] = (ds ++ [d]).map iv := by rw [List.map_append]; rfl
        rw [hmap] at hown5
        have hl5 : Hid ((ds ++ [d]).length = k + 1) := by show _ = _; rw [List.length_append, hdl.out]; rfl
        clear hgrow hownA hnews hblA hmap
        go_roundg (max n m - k)
        case measure => omega
        case rel => exact ⟨k + 1, q, _, cap2, ds ++ [d], rfl, (by first | rfl | rw [e2]), by go_num, hq1, by omega, hk3, by omega, hown5, hl5, hdd.snoc hd4, htp2, hvn, hbl5⟩
      ·
        have f1 : decide ((k : Int) < (n : Int)) = false := decide_eq_false (by omega)
        have f2 : decide ((k : Int) < (m : Int)) = false := decide_eq_false (by omega)
        have y00 := hyo (by omega)
        have x00 := hxo (by omega)
        obtain rfl : cc = 1 := by omega
        subst x00
        subst y00
        obtain rfl : d = 1 := by omega
        obtain rfl : q = 0 := by omega
        have e0 : iv 1 = .int .i64 1 := rfl
        rw [e0] at hownA hnews hblA hsi
        clear hd hq hxo hyo
        go_wp2_with (at_builtin; refine wpList_append_lies _ rfl _ _ _ rfl N 3 i1 (.int .i64 0) 1 8 Tryz.underlying36 hi hz0 hz1 hz2 rfl (by omega) (.slice sl k cl) k (ds.map iv) rfl hownA ⟨wr.heap.size, 0, none⟩ 1 1 [Value.int .i64 1] rfl rfl hnews one_iv (by omega) (by unfold maxLen; omega) (by omega) hsi (wr.heap.size + 1) (by simp) ?_; intro g2 cap2 w5 hown5 hgrow hat9 hlt9)
        have hbl5 := hblA.trans (below_own hownA hgrow hsi)
        have hmap : ds.map iv ++ [Value.int .i64 1] = (ds ++ [1]).map iv := by rw [List.map_append]; rfl
        rw [hmap] at hown5
        have hl5 : Hid ((ds ++ [1]).length = k + 1) := by show _ = _; rw [List.length_append, hdl.out]; rfl
        clear hgrow hownA hnews hblA hmap
        go_roundg (max n m - k)
        case measure => omega
        case rel => exact ⟨k + 1, 0, _, cap2, ds ++ [1], rfl, (by first | rfl | rw [e2]), by go_num, hq1, by omega, fun _ => rfl, by omega, hown5, hl5, hdd.snoc hd4, fun a b _ => (show Top (ds ++ [1]) from top_snoc (by omega)), hvn, hbl5⟩
end Go.Proofs.YthbhgcaemcobeaaGreatDoor
namespace Go.Proofs.YthbhgcaemcobeaaGreatDoor
open Go.RowKit Mat
set_option maxRecDepth 100000
set_option linter.unusedVariables false
set_option linter.unusedSimpArgs false
theorem dig_back {l : List Nat} (h : ∀ k (hk : k < l.length), 48 ≤ l[k] ∧ l[k] ≤ 57) : (((l.map (· - 48)).reverse).map (48 + ·)).reverse = l := by
  rw [List.map_reverse, List.reverse_reverse, List.map_map]
  have : ∀ x ∈ l, ((48 + ·) ∘ (· - 48)) x = x := by
    intro x hx
    obtain ⟨k, hk, rfl⟩ := List.getElem_of_mem hx
    have := h k hk
    simp only [Function.comp]; omega
  rw [List.map_congr_left this]; simp
theorem dig_dig {l : List Nat} (h : ∀ k (hk : k < l.length), 48 ≤ l[k] ∧ l[k] ≤ 57) : Dig 10 ((l.map (· - 48)).reverse) := by
  intro x hx
  rw [List.mem_reverse, List.mem_map] at hx
  obtain ⟨y, hy, rfl⟩ := hx
  obtain ⟨k, hk, rfl⟩ := List.getElem_of_mem hy
  have := h k hk
  omega
theorem dig_val {l : List Nat} (h : ∀ k (hk : k < l.length), 48 ≤ l[k] ∧ l[k] ≤ 57) : dval l = val 10 ((l.map (· - 48)).reverse) := by
  rw [← dval_rev, dig_back h]
theorem dec_top {l : List Nat} (h : DecL l) (h0 : l ≠ [48]) : Top ((l.map (· - 48)).reverse) := by
  rcases h with ⟨h1, h2 | ⟨h2, h3⟩⟩
  · exact absurd h2 h0
  · intro x hx
    rw [List.getLast?_reverse, List.head?_map] at hx
    cases l with
    | nil => exact absurd rfl h2
    | cons d t =>
      simp at hx h3
      have := h1 0 (by simp)
      simp at this
      omega
theorem dec_pos {l : List Nat} (h : DecL l) (h0 : l ≠ [48]) : 0 < dval l := by
  rw [dig_val h.1]
  refine val_pos 10 (by omega) _ ?_ (dec_top h h0)
  intro e
  have e2 := congrArg List.length e
  simp at e2
  subst e2
  rcases h.2 with h2 | h2
  · simp at h2
  · exact h2.1 rfl
theorem dec_uniqL {l m : List Nat} (hl : DecL l) (hm : DecL m) (e : dval l = dval m) : l = m := by
  by_cases l0 : l = [48]
  · by_cases m0 : m = [48]
    · rw [l0, m0]
    · have := dec_pos hm m0
      rw [← e, l0] at this
      exact absurd this (by decide)
  · by_cases m0 : m = [48]
    · have := dec_pos hl l0
      rw [e, m0] at this
      exact absurd this (by decide)
    · rw [dig_val hl.1, dig_val hm.1] at e
      have := val_uniq 10 (by omega) _ _ (dig_dig hl.1) (dig_dig hm.1) (dec_top hl l0) (dec_top hm m0) e
      rw [← dig_back hl.1, ← dig_back hm.1, this]
theorem bts_inj {s t : ByteArray} (h : bts s = bts t) : s = t := by
  apply ByteArray.ext
  apply Array.ext'
  unfold bts at h
  exact (List.map_inj_right (fun a b e => UInt8.toNat_inj.1 e)).1 h
theorem dec_uniq {s t : ByteArray} (hs : DecL (bts s)) (ht : DecL (bts t)) (e : dval (bts s) = dval (bts t)) : s = t := bts_inj (dec_uniqL hs ht e)
end Go.Proofs.YthbhgcaemcobeaaGreatDoor
namespace Go.Proofs.YthbhgcaemcobeaaGreatDoor
open Go.RowKit Mat
set_option maxRecDepth 100000
set_option linter.unusedVariables false
set_option linter.unusedSimpArgs false
theorem RefV.zero (w : World) : RefV w (.agg #[.slice none 0 0]) 0 := ⟨none, 0, 0, [], rfl, rfl, Nat.le_refl _, Or.inl rfl, fun x hx => by simp at hx, Dig.nil _, rfl⟩
theorem RefV.set_other {w : World} {v : Value} {n g : Nat} {c : Array Value} {t : TypeId} (h : RefV w v n) (hbox : w.heap[g]? = some (.cells c t (0, 0))) (ht : t ≠ 3) (o : Nat) (u : Value) : RefV (w.setCell ⟨g, o, none⟩ u) v n := by
  obtain ⟨s, k, cap, xs, e, h1, h2, h3, h4⟩ := h
  exact ⟨s, k, cap, xs, e, h1, h2, h3.set_other hbox ht o u, h4⟩
theorem rret {w w' : World} {v : Value} {n g : Nat} {c : Array Value} {t : TypeId} (hg : w.grownBy w' none) (hbox : w'.heap[g]? = some (.cells c t (0, 0))) (ht : t ≠ 3) (hl : w.heap.size ≤ g) (h : RefV w' v n) (u : Value) :
    RetRef w n (.returned v) (w'.setCell ⟨g, 0, none⟩ u) := ⟨v, rfl, h.set_other hbox ht 0 u, grown_new hg (grown_set (grown_refl _ _) _ _) hl⟩
def RetRefE (w : World) (n : Nat) (code : Int) (e : Ending) (w' : World) : Prop := ∃ v, e = .returned (.tuple #[v, .int .i64 code]) ∧ RefV w' v n ∧ w.grownBy w' none
theorem rretE {w w' : World} {v : Value} {n g : Nat} {code : Int} {c : Array Value} {t : TypeId} (hg : w.grownBy w' none) (hbox : w'.heap[g]? = some (.cells c t (0, 0))) (ht : t ≠ 3) (hl : w.heap.size ≤ g) (h : RefV w' v n) (u : Value) :
    RetRefE w n code (.returned (.tuple #[v, .int .i64 code])) (w'.setCell ⟨g, 0, none⟩ u) := ⟨v, rfl, h.set_other hbox ht 0 u, grown_new hg (grown_set (grown_refl _ _) _ _) hl⟩
theorem rparse_step {l : List Nat} {n e f m k : Nat} (hl : l.length = n) (hfm : f + m = e) (hek : e + 4 * k = n) : dval (l.drop e) + D ^ k * dval ((l.drop f).take m) = dval (l.drop f) := by
  have h : (l.drop f).take m ++ l.drop e = l.drop f := by rw [← hfm, ← List.drop_drop, List.take_append_drop]
  rw [← congrArg dval h, dval_append, List.length_drop, hl, show n - e = 4 * k from by omega]
  have : (10 : Nat) ^ (4 * k) = D ^ k := by rw [Nat.pow_mul]; rfl
  rw [this]; grind
end Go.Proofs.YthbhgcaemcobeaaGreatDoor
namespace Go.Proofs.YthbhgcaemcobeaaGreatDoor
open Go.RowKit Mat
set_option maxRecDepth 100000
set_option linter.unusedVariables false
set_option linter.unusedSimpArgs false
def DigL (l : List Nat) : Prop := ∀ k (h : k < l.length), 48 ≤ l[k] ∧ l[k] ≤ 57
theorem DigL.append {l m : List Nat} (h : DigL l) (g : DigL m) : DigL (l ++ m) := by
  intro k hk
  rcases Nat.lt_or_ge k l.length with h1 | h1
  · rw [List.getElem_append_left h1]; exact h k h1
  · rw [List.getElem_append_right h1]; exact g _ _
theorem DigL.drop {l : List Nat} (h : DigL l) (n : Nat) : DigL (l.drop n) := by
  intro k hk
  rw [List.getElem_drop]; exact h _ _
def u8l (x : Nat) : List UInt8 := [UInt8.ofNat (48 + x / 1000), UInt8.ofNat (48 + x / 100 % 10), UInt8.ofNat (48 + x / 10 % 10), UInt8.ofNat (48 + x % 10)]
def four4 (x : Nat) : ByteArray := ⟨(u8l x).toArray⟩
theorem bts_four (x : Nat) (h : x < 10000) : bts (four4 x) = [48 + x / 1000, 48 + x / 100 % 10, 48 + x / 10 % 10, 48 + x % 10] := by
  have h1 : 48 + x / 1000 < 256 := by omega
  have h2 : 48 + x / 100 % 10 < 256 := by omega
  have h3 : 48 + x / 10 % 10 < 256 := by omega
  have h4 : 48 + x % 10 < 256 := by omega
  simp [bts, four4, u8l, UInt8.toNat_ofNat', Nat.mod_eq_of_lt h1, Nat.mod_eq_of_lt h2, Nat.mod_eq_of_lt h3, Nat.mod_eq_of_lt h4]
theorem bts_app (s t : ByteArray) : bts (s ++ t) = bts s ++ bts t := by
  unfold bts
  rw [ByteArray.data_append, Array.toList_append, List.map_append]
theorem dig_four (x : Nat) (h : x < 10000) : DigL (bts (four4 x)) := by
  rw [bts_four x h]
  intro k hk
  simp only [List.length_cons, List.length_nil] at hk
  rcases (show k = 0 ∨ k = 1 ∨ k = 2 ∨ k = 3 by omega) with rfl | rfl | rfl | rfl <;> simp <;> omega
theorem dval_four (x : Nat) (h : x < 10000) : dval (bts (four4 x)) = x := by
  rw [bts_four x h]
  simp [dval]; omega
theorem dval_cons48 (l : List Nat) : dval (48 :: l) = dval l := rfl
set_option maxHeartbeats 2000000 in
theorem rText_zero (w : World) (va : Value) (ha : RefV w va 0) :
    Calls Tryz.prog 93 #[va] w (RetText w 0) := by
  obtain ⟨sa, n, cx, xs, rfl, hn, hnc, hx, tx, dx, h0⟩ := ha
  obtain rfl := (val_zero_iff D D_pos xs tx).1 h0
  obtain rfl : n = 0 := by rw [← hn]; rfl
  clear h0
  have hF : Hid (RetText w 0 (.returned (.string { data := #[48] })) (w.alloc (.cells #[.slice sa 0 cx] 38))) := by
    refine ⟨_, rfl, ⟨fun k hk => ?_, Or.inl rfl⟩, rfl, World.grownBy_alloc _ _ _⟩
    have : k = 0 := by have : k < 1 := hk; omega
    subst this
    exact ⟨Nat.le_refl 48, (by decide : (48 : Nat) ≤ 57)⟩
  go_enter Tryz.func93, Tryz.ntmps93
  go_wp2_with fail
  go_ret
  exact hF.out
set_option maxHeartbeats 4000000 in
theorem rText_some (w : World) (va : Value) (a : Nat) (ha : RefV w va a) (h0 : 0 < a) (ba : a < D ^ 1000000) :
    Calls Tryz.prog 93 #[va] w (RetText w a) := by
  obtain ⟨sa, n, cx, xs, rfl, hn, hnc, hx, tx, dx, rfl⟩ := ha
  have Hn := Lib.hid hn
  have hn6 : n ≤ 1000000 := rlen tx hn ba
  have hn0 : 0 < n := by
    rcases Nat.eq_zero_or_pos n with e | e
    · rw [e] at hn
      rw [List.length_eq_zero_iff.1 hn] at h0
      simp [val] at h0
    · exact e
  have H0 := Lib.hid h0
  have f0 : ((n : Int) == 0) = false := beq_eq_false_iff_ne.2 (by omega)
  have hgw0 := World.grownBy_alloc w (.cells #[.slice sa n cx] 38) none
  have hbox0 := heap_new w (.cells #[.slice sa n cx] 38) w.heap.size rfl
  clear hn h0 ba
  go_enter Tryz.func93, Tryz.ntmps93
  go_wp2_with fail
  generalize (w.alloc (.cells #[.slice sa n cx] 38)) = w0 at *
  go_loopw [3, 4] (fun s i wr => ∃ (j : Nat) (t : ByteArray), j ≤ n ∧ i = .int .i64 ((j : Int) - 1) ∧ s = .string t ∧ t.size = 4 * (n - j) ∧ Hid (DigL (bts t)) ∧ Hid (dval (bts t) = val D (xs.drop j)) ∧ w0.grownBy wr none) (fun _ i _ => (intOf i + 1).toNat)
  case atStart => exact ⟨n, { data := #[] }, Nat.le_refl _, rfl, rfl, by simp; rfl, fun k hk => by simp [bts] at hk, by show _ = _; rw [List.drop_of_length_le (by rw [Hn.out]; exact Nat.le_refl _)]; rfl, grown_refl _ _⟩
  case round =>
    obtain ⟨j, t, hj, rfl, rfl, hts, hdg, hv, hg⟩ := hrel
    obtain ⟨ca, fa⟩ := box_cell (heap_kept hg hbox0)
    by_cases hz : j = 0
    · subst hz
      have hv0 : Hid (dval (bts t) = val D xs) := by show _ = _; rw [hv.out]; rfl
      have hgw := grown_trans hgw0 hg
      clear hv hg hts
      go_wp2_with fail
      go_loopw [3] (fun s wz => ∃ (t2 : ByteArray), s = .string t2 ∧ Hid (DigL (bts t2)) ∧ Hid (dval (bts t2) = val D xs) ∧ wr = wz) (fun s _ => match s with | .string b => b.size | _ => 0)
      case atStart => exact ⟨t, rfl, hdg, hv0, rfl⟩
      case round =>
        clear hdg hv0
        obtain ⟨t2, rfl, hdg, hv0, rfl⟩ := hrel
        have hsz : 0 < t2.size := by
          rcases Nat.eq_zero_or_pos t2.size with e | e
          · have h1 := bts_len t2
            rw [e] at h1
            have h2 := hv0.out
            rw [List.length_eq_zero_iff.1 h1] at h2
            have := H0.out
            simp [dval] at h2; omega
          · exact e
        obtain ⟨x, ex⟩ : ∃ x, (t2[0]'hsz).toNat = x := ⟨_, rfl⟩
        have hhd : Hid ((bts t2).head? = some x) := by show _ = _; rw [bts_head t2 hsz, ex]
        by_cases h48 : x = 48
        · subst h48
          have hcons : bts t2 = 48 :: (bts t2).drop 1 := by
            have h1 := hhd.out
            cases hb : bts t2 with
            | nil => rw [hb] at h1; simp at h1
            | cons y l => rw [hb] at h1; simp at h1; simp [h1]
          have hex : bts (t2.extract 1 t2.size) = (bts t2).drop 1 := bts_extract t2 1
          have hd2 : Hid (DigL (bts (t2.extract 1 t2.size))) := by show DigL _; rw [hex]; exact hdg.out.drop 1
          have hv2 : Hid (dval (bts (t2.extract 1 t2.size)) = val D xs) := by
            show _ = _
            rw [hex, ← dval_cons48, ← hcons]; exact hv0.out
          have hsz2 : (t2.extract 1 t2.size).size = t2.size - 1 := by rw [ByteArray.size_extract]; omega
          clear hcons hex
          go_wp2_with fail
          go_roundw
          case rel => exact ⟨t2.extract 1 t2.size, rfl, hd2, hv2, by trivial⟩
          case measure => simp [hsz2]; omega
        · have f1 : ((x : Int) == 48) = false := beq_eq_false_iff_ne.2 (by omega)
          have hF : Hid (RetText w (val D xs) (.returned (.string t2)) wr) := by
            refine ⟨_, rfl, ⟨hdg.out, Or.inr ⟨fun e => ?_, ?_⟩⟩, hv0.out, hgw⟩
            · have := hhd.out; rw [e] at this; simp at this
            · rw [hhd.out]; intro e; exact h48 (Option.some.inj e)
          go_wp2_with fail
          go_ret
          exact hF.out
    · obtain ⟨k, rfl⟩ : ∃ k, j = k + 1 := ⟨j - 1, by omega⟩
      clear hz
      obtain ⟨x, ex⟩ : ∃ x, xs.getD k 0 = x := ⟨_, rfl⟩
      have hx4 : x < 10000 := ex ▸ getD_lt dx k
      obtain ⟨b1, o1, rfl, c1⟩ := rcell ((hx.kept hgw0).kept hg) Hn.out k (by omega)
      rw [ex] at c1
      have EX := Lib.hid ex
      have ek : ((k + 1 : Nat) : Int) - 1 = (k : Int) := by omega
      rw [ek]
      have hnews : ∀ j u, ([.int .u8 (48 + (x : Int) / 1000), .int .u8 (48 + (x : Int) / 100 % 10), .int .u8 (48 + (x : Int) / 10 % 10), .int .u8 (48 + (x : Int) % 10)] : List Value)[j]? = some u → (wr.alloc (.cells #[.int .u8 (48 + (x : Int) / 1000), .int .u8 (48 + (x : Int) / 100 % 10), .int .u8 (48 + (x : Int) / 10 % 10), .int .u8 (48 + (x : Int) % 10)] 5)).cell? ((⟨wr.heap.size, 0, none⟩ : Addr).add j) = some u := World.news_of_block (heap_alloc_new wr _)
      have hconv : (convert 144 9 (.slice (some ⟨wr.heap.size, 0, none⟩) 4 4)).run Tryz.prog (wr.alloc (.cells #[.int .u8 (48 + (x : Int) / 1000), .int .u8 (48 + (x : Int) / 100 % 10), .int .u8 (48 + (x : Int) / 10 % 10), .int .u8 (48 + (x : Int) % 10)] 5)) = .ok (.string (four4 x)) (wr.alloc (.cells #[.int .u8 (48 + (x : Int) / 1000), .int .u8 (48 + (x : Int) / 100 % 10), .int .u8 (48 + (x : Int) / 10 % 10), .int .u8 (48 + (x : Int) % 10)] 5)) := by
        refine run_convert_bytes_back (P := Tryz.prog) _ 144 9 5 ⟨wr.heap.size, 0, none⟩ 4 (u8l x) Tryz.underlying144 Tryz.underlying5 Tryz.underlying9 ?_
        intro j hj
        refine hnews j _ ?_
        have hj4 : j < 4 := hj
        have w1 : (48 + x / 1000) % 256 = 48 + x / 1000 := by omega
        have w2 : (48 + x / 100 % 10) % 256 = 48 + x / 100 % 10 := by omega
        have w3 : (48 + x / 10 % 10) % 256 = 48 + x / 10 % 10 := by omega
        have w4 : (48 + x % 10) % 256 = 48 + x % 10 := by omega
        rcases (show j = 0 ∨ j = 1 ∨ j = 2 ∨ j = 3 by omega) with rfl | rfl | rfl | rfl <;> simp [u8l, UInt8.toNat_ofNat', w1, w2, w3, w4]
      clear hnews
      have hs4 : (four4 x).size = 4 := rfl
      have hg2 : w0.grownBy (wr.alloc (.cells #[.int .u8 (48 + (x : Int) / 1000), .int .u8 (48 + (x : Int) / 100 % 10), .int .u8 (48 + (x : Int) / 10 % 10), .int .u8 (48 + (x : Int) % 10)] 5)) none := grown_alloc hg _
      have hdn : Hid (DigL (bts (t ++ four4 x))) := by show DigL _; rw [bts_app]; exact hdg.out.append (dig_four x hx4)
      have hvn : Hid (dval (bts (t ++ four4 x)) = val D (xs.drop k)) := by
        show _ = _
        rw [bts_app, dval_append, dval_four x hx4, hv.out, bts_len, hs4, List.drop_eq_getElem_cons (i := k) (by rw [Hn.out]; omega)]
        have e : xs[k]'(by rw [Hn.out]; omega) = x := by rw [← EX.out, List.getD_eq_getElem?_getD, List.getElem?_eq_getElem (by rw [Hn.out]; omega)]; rfl
        rw [e]
        show val D (xs.drop (k + 1)) * 10 ^ 4 + x = x + D * val D (xs.drop (k + 1))
        unfold D; omega
      have hsn : (t ++ four4 x).size = 4 * (n - k) := by rw [ByteArray.size_append, hts, hs4]; omega
      clear hg hv hdg ek
      go_wp2_with fail
      go_roundw
      case rel => exact ⟨k, t ++ four4 x, by omega, by go_num, rfl, hsn, hdn, hvn, hg2⟩
      case measure => simp [intOf]
end Go.Proofs.YthbhgcaemcobeaaGreatDoor
namespace Go.Proofs.YthbhgcaemcobeaaGreatDoor
open Go.RowKit Mat
set_option maxRecDepth 100000
set_option linter.unusedVariables false
set_option linter.unusedSimpArgs false
def zcmp (x y : Int) : Int := if x < y then -1 else if x = y then 0 else 1
theorem zcmp_pos {x y : Int} (hx : 0 ≤ x) (hy : 0 ≤ y) : cmpInt x.natAbs y.natAbs = zcmp x y := by
  unfold cmpInt zcmp
  rcases Int.lt_trichotomy x y with h | h | h
  · rw [if_pos (by omega), if_pos h]
  · rw [if_neg (by omega), if_pos (by omega), if_neg (by omega), if_pos h]
  · rw [if_neg (by omega), if_neg (by omega), if_neg (by omega), if_neg (by omega)]
theorem zcmp_neg {x y : Int} (hx : x < 0) (hy : y < 0) : cmpInt y.natAbs x.natAbs = zcmp x y := by
  unfold cmpInt zcmp
  rcases Int.lt_trichotomy x y with h | h | h
  · rw [if_pos (by omega), if_pos h]
  · rw [if_neg (by omega), if_pos (by omega), if_neg (by omega), if_pos h]
  · rw [if_neg (by omega), if_neg (by omega), if_neg (by omega), if_neg (by omega)]
theorem zsign (x : Int) : (x < 0 ∧ x.sign = -1) ∨ (x = 0 ∧ x.sign = 0) ∨ (0 < x ∧ x.sign = 1) := by
  rcases Int.lt_trichotomy x 0 with h | h | h
  · left; exact ⟨h, Int.sign_eq_neg_one_of_neg h⟩
  · right; left; subst h; exact ⟨rfl, rfl⟩
  · right; right; exact ⟨h, Int.sign_eq_one_of_pos h⟩
theorem zcmp_cases (x y : Int) : (x.sign < y.sign ∧ zcmp x y = -1) ∨ (y.sign < x.sign ∧ zcmp x y = 1) ∨ (x.sign = y.sign ∧ x.sign < 0 ∧ x < 0 ∧ y < 0) ∨ (x.sign = y.sign ∧ ¬ x.sign < 0 ∧ 0 ≤ x ∧ 0 ≤ y) := by
  unfold zcmp
  rcases zsign x with ⟨h, e⟩ | ⟨h, e⟩ | ⟨h, e⟩ <;> rcases zsign y with ⟨k, f⟩ | ⟨k, f⟩ | ⟨k, f⟩ <;> rw [e, f]
  · right; right; left; exact ⟨rfl, by omega, h, k⟩
  · left; exact ⟨by omega, if_pos (by omega)⟩
  · left; exact ⟨by omega, if_pos (by omega)⟩
  · right; left; refine ⟨by omega, ?_⟩; rw [if_neg (by omega), if_neg (by omega)]
  · right; right; right; exact ⟨rfl, by omega, by omega, by omega⟩
  · left; exact ⟨by omega, if_pos (by omega)⟩
  · right; left; refine ⟨by omega, ?_⟩; rw [if_neg (by omega), if_neg (by omega)]
  · right; left; refine ⟨by omega, ?_⟩; rw [if_neg (by omega), if_neg (by omega)]
  · right; right; right; exact ⟨rfl, by omega, by omega, by omega⟩
set_option maxHeartbeats 8000000 in
theorem ZCmp_any (w : World) (va vb : Value) (x y : Int) (K : Nat) (ha : IntV w va x) (hb : IntV w vb y) (hK : K ≤ 900000) (la : x.natAbs < B ^ K) (lb : y.natAbs < B ^ K) :
    Calls Tryz.prog 86 #[va, vb] w (fun e w' => e = .returned (.int .i64 (zcmp x y)) ∧ w.grownBy w' none) := by
  obtain ⟨sa, xs, za, rfl, hx, hv, hza⟩ := ha
  obtain ⟨sb, ys, zb, rfl, hy, hvy, hzb⟩ := hb
  have hgw0 : w.grownBy ((w.alloc (.cells #[.slice sa xs.length xs.length, .bool za] 30)).alloc (.cells #[.slice sb ys.length ys.length, .bool zb] 30)) none := grown_alloc (World.grownBy_alloc _ _ _) _
  have hbb := heap_new (w.alloc (.cells #[.slice sa xs.length xs.length, .bool za] 30)) (.cells #[.slice sb ys.length ys.length, .bool zb] 30) (w.heap.size + 1) (by simp)
  have hba := heap_kept (World.grownBy_alloc _ (.cells #[.slice sb ys.length ys.length, .bool zb] 30) none) (heap_new w (.cells #[.slice sa xs.length xs.length, .bool za] 30) w.heap.size rfl)
  have ia : IntV ((w.alloc (.cells #[.slice sa xs.length xs.length, .bool za] 30)).alloc (.cells #[.slice sb ys.length ys.length, .bool zb] 30)) (.agg #[.slice sa xs.length xs.length, .bool za]) x := ⟨sa, xs, za, rfl, hx.kept hgw0, hv, hza⟩
  have ib : IntV ((w.alloc (.cells #[.slice sa xs.length xs.length, .bool za] 30)).alloc (.cells #[.slice sb ys.length ys.length, .bool zb] 30)) (.agg #[.slice sb ys.length ys.length, .bool zb]) y := ⟨sb, ys, zb, rfl, hy.kept hgw0, hvy, hzb⟩
  have na : NatV ((w.alloc (.cells #[.slice sa xs.length xs.length, .bool za] 30)).alloc (.cells #[.slice sb ys.length ys.length, .bool zb] 30)) (.agg #[.slice sa xs.length xs.length]) x.natAbs := ⟨sa, xs, rfl, hx.kept hgw0, hv⟩
  have nn : NatV ((w.alloc (.cells #[.slice sa xs.length xs.length, .bool za] 30)).alloc (.cells #[.slice sb ys.length ys.length, .bool zb] 30)) (.agg #[.slice sb ys.length ys.length]) y.natAbs := ⟨sb, ys, rfl, hy.kept hgw0, hvy⟩
  have Hla := Lib.hid la
  have Hlb := Lib.hid lb
  have hc := zcmp_cases x y
  obtain ⟨s1, h1⟩ : ∃ s, x.sign = s := ⟨_, rfl⟩
  obtain ⟨s2, h2⟩ : ∃ s, y.sign = s := ⟨_, rfl⟩
  rw [h1, h2] at hc
  have H1 := Lib.hid h1
  have H2 := Lib.hid h2
  clear hx hv hy hvy la lb hza hzb h1 h2
  have hc4 : (decide (s1 < s2) = true ∧ Hid (zcmp x y = -1)) ∨ (decide (s1 < s2) = false ∧ decide (s2 < s1) = true ∧ Hid (zcmp x y = 1)) ∨ (decide (s1 < s2) = false ∧ decide (s2 < s1) = false ∧ decide (s1 < 0) = true ∧ Hid (cmpInt y.natAbs x.natAbs = zcmp x y)) ∨ (decide (s1 < s2) = false ∧ decide (s2 < s1) = false ∧ decide (s1 < 0) = false ∧ Hid (cmpInt x.natAbs y.natAbs = zcmp x y)) := by
    rcases hc with ⟨q, r⟩ | ⟨q, r⟩ | ⟨q, r, t, u⟩ | ⟨q, r, t, u⟩
    · left; exact ⟨decide_eq_true q, r⟩
    · right; left; exact ⟨decide_eq_false (by omega), decide_eq_true q, r⟩
    · right; right; left; exact ⟨decide_eq_false (by omega), decide_eq_false (by omega), decide_eq_true r, zcmp_neg t u⟩
    · right; right; right; exact ⟨decide_eq_false (by omega), decide_eq_false (by omega), decide_eq_false r, zcmp_pos t u⟩
  clear hc
  rcases hc4 with ⟨f1, hz⟩ | ⟨f1, f2, hz⟩ | ⟨f1, f2, f3, hz⟩ | ⟨f1, f2, f3, hz⟩
  all_goals (
    go_enter Tryz.func86, Tryz.ntmps86
    go_wp2_with fail
    generalize ((w.alloc (.cells #[.slice sa xs.length xs.length, .bool za] 30)).alloc (.cells #[.slice sb ys.length ys.length, .bool zb] 30)) = w0 at *
    obtain ⟨ca0, ca1, fa0, fa1⟩ := box_cells hba
    obtain ⟨cb0, cb1, fb0, fb1⟩ := box_cells hbb
    go_region_held3 (fun w' => w'.cell? ⟨w.heap.size, 0, none⟩ = some (.slice sa xs.length xs.length) ∧ w'.cell? ⟨w.heap.size, 1, none⟩ = some (.bool za) ∧ w'.cell? ⟨w.heap.size + 1, 0, none⟩ = some (.slice sb ys.length ys.length) ∧ w'.cell? ⟨w.heap.size + 1, 1, none⟩ = some (.bool zb))
      (first | assumption | exact ⟨ca0, ca1, cb0, cb1⟩ | go_keep)
      (first
        | (go_at_call 89; (with_reducible refine (Sign_any w0.drew _ x K (ia.kept (grown_drew (grown_refl _ _))) (by omega) Hla.out).mono ?_); rintro e w1 ⟨rfl, g1⟩; rw [H1.out]; have hG1 := grown_pre w0 g1 rfl rfl rfl rfl; have hS1 := And.intro (hG1.cell ca0 (by simp)) (And.intro (hG1.cell ca1 (by simp)) (And.intro (hG1.cell cb0 (by simp)) (hG1.cell cb1 (by simp)))))
        | (go_at_call 89; (with_reducible refine (Sign_any w1 _ y K (ib.kept hG1) (by omega) Hlb.out).mono ?_); rintro e w2 ⟨rfl, g2⟩; rw [H2.out]; have hG2 := grown_trans hG1 g2; have hS2 := And.intro (hG2.cell ca0 (by simp)) (And.intro (hG2.cell ca1 (by simp)) (And.intro (hG2.cell cb0 (by simp)) (hG2.cell cb1 (by simp))))))
    have hgw := grown_trans hgw0 hG2
    obtain ⟨da0, da1, ga0, ga1⟩ := box_cells (heap_kept hG2 hba)
    obtain ⟨db0, db1, gb0, gb1⟩ := box_cells (heap_kept hG2 hbb)
    have na2 := na.kept hG2
    have nn2 := nn.kept hG2
    go_wp2_with fail)
  · go_ret
    exact ⟨by rw [hz.out]; rfl, hgw⟩
  · go_ret
    exact ⟨by rw [hz.out]; rfl, hgw⟩
  · refine (Cmp_any w2 _ _ y.natAbs x.natAbs K nn2 na2 (by omega) Hlb.out Hla.out).mono ?_
    rintro e w3 ⟨rfl, g3⟩
    go_wp2_with fail
    go_ret
    exact ⟨by rw [← hz.out]; rfl, grown_trans hgw g3⟩
  · refine (Cmp_any w2 _ _ x.natAbs y.natAbs K na2 nn2 (by omega) Hla.out Hlb.out).mono ?_
    rintro e w3 ⟨rfl, g3⟩
    go_wp2_with fail
    go_ret
    exact ⟨by rw [← hz.out]; rfl, grown_trans hgw g3⟩
theorem dec_len {l : List Nat} {m : Nat} (h : DecL l) (hv : dval l < 10 ^ m) (hm : 1 ≤ m) : l.length ≤ m := by
  by_cases h0 : l = [48]
  · rw [h0]; exact hm
  · have ht := dec_top h h0
    have hne : (l.map (· - 48)).reverse ≠ [] := by
      intro e
      have e2 := congrArg List.length e
      simp at e2
      rcases h.2 with h2 | h2
      · rw [e2] at h2; simp at h2
      · exact h2.1 e2
    have h1 := val_ge 10 _ hne ht
    rw [← dig_val h.1, List.length_reverse, List.length_map] at h1
    rcases Nat.lt_or_ge m l.length with h2 | h2
    · have := Nat.pow_le_pow_right (show 0 < 10 by omega) (show m ≤ l.length - 1 by omega)
      omega
    · exact h2
theorem NText_any (w : World) (va : Value) (a K : Nat) (ha : NatV w va a) (hK : K ≤ 1000000) (la : a < B ^ K) :
    Calls Tryz.prog 90 #[va] w (RetText w a) := by
  rcases Nat.eq_zero_or_pos a with h | h
  · subst h; exact Text_zero w va ha
  · exact Text_some w va a K ha h hK la
def ZTextOf (s : ByteArray) (z : Int) : Prop := ∃ l, DecL l ∧ dval l = z.natAbs ∧ bts s = if z < 0 then 45 :: l else l
set_option maxHeartbeats 4000000 in
theorem ZText_any (w : World) (va : Value) (z : Int) (K : Nat) (ha : IntV w va z) (hK : K ≤ 900000) (la : z.natAbs < B ^ K) :
    Calls Tryz.prog 52 #[va] w (fun e w' => ∃ s, e = .returned (.string s) ∧ ZTextOf s z ∧ w.grownBy w' none) := by
  obtain ⟨sa, xs, za, rfl, hx, hv, hza⟩ := ha
  have hgw0 := World.grownBy_alloc w (.cells #[.slice sa xs.length xs.length, .bool za] 30) none
  have hba := heap_new w (.cells #[.slice sa xs.length xs.length, .bool za] 30) w.heap.size rfl
  have ia : IntV (w.alloc (.cells #[.slice sa xs.length xs.length, .bool za] 30)) (.agg #[.slice sa xs.length xs.length, .bool za]) z := ⟨sa, xs, za, rfl, hx.kept hgw0, hv, hza⟩
  have na : NatV (w.alloc (.cells #[.slice sa xs.length xs.length, .bool za] 30)) (.agg #[.slice sa xs.length xs.length]) z.natAbs := ⟨sa, xs, rfl, hx.kept hgw0, hv⟩
  have Hla := Lib.hid la
  obtain ⟨s1, h1⟩ : ∃ s, z.sign = s := ⟨_, rfl⟩
  have H1 := Lib.hid h1
  have hc : (decide (s1 < 0) = true ∧ z < 0) ∨ (decide (s1 < 0) = false ∧ ¬ z < 0) := by
    rcases zsign z with ⟨h, e⟩ | ⟨h, e⟩ | ⟨h, e⟩
    · left; exact ⟨decide_eq_true (by omega), h⟩
    · right; exact ⟨decide_eq_false (by omega), by omega⟩
    · right; exact ⟨decide_eq_false (by omega), by omega⟩
  clear hx hv la hza h1
  rcases hc with ⟨f1, hz⟩ | ⟨f1, hz⟩
  all_goals (
    have HZ := Lib.hid hz
    clear hz
    go_enter Tryz.func52, Tryz.ntmps52
    obtain ⟨ca0, ca1, fa0, fa1⟩ := box_cells hba
    go_wp2_with fail
    refine (Sign_any _ _ z K ia (by omega) Hla.out).mono ?_
    rintro e w1 ⟨rfl, g1⟩
    rw [H1.out]
    obtain ⟨da0, da1, ga0, ga1⟩ := box_cells (heap_kept g1 hba)
    have na1 := na.kept g1
    have hgw1 := grown_trans hgw0 g1
    clear na ia g1
    go_wp2_with fail
    refine (NText_any w1 _ z.natAbs K na1 (by omega) Hla.out).mono ?_
    rintro e w2 ⟨s, rfl, hd, hdv, g2⟩
    have hgw2 := grown_trans hgw1 g2)
  · have hsz : s.size ≤ 20 * K + 1 := by
      rw [← bts_len]
      refine dec_len hd ?_ (by omega)
      rw [hdv]
      refine Nat.lt_of_lt_of_le Hla.out ?_
      have q1 : B ^ K ≤ (10 ^ 20) ^ K := Nat.pow_le_pow_left (by decide) K
      rw [← Nat.pow_mul] at q1
      exact Nat.le_trans q1 (Nat.pow_le_pow_right (by omega) (by omega))
    have hF : Hid (ZTextOf ({ data := #[45] } ++ s) z) := ⟨bts s, hd, hdv, by rw [bts_app, if_pos HZ.out]; rfl⟩
    clear hd hdv g2 na1
    go_wp2_with fail
    go_ret
    exact ⟨_, rfl, hF.out, hgw2⟩
  · have hF : Hid (ZTextOf s z) := ⟨bts s, hd, hdv, by rw [if_neg (by have := HZ.out; omega)]⟩
    clear hd hdv g2 na1
    go_wp2_with fail
    go_ret
    exact ⟨_, rfl, hF.out, hgw2⟩
end Go.Proofs.YthbhgcaemcobeaaGreatDoor
namespace Go.Proofs.YthbhgcaemcobeaaGreatDoor
open Go.RowKit Mat
set_option maxRecDepth 100000
set_option linter.unusedVariables false
set_option linter.unusedSimpArgs false
def Fits (z : Int) : Prop := -9223372036854775808 ≤ z ∧ z ≤ 9223372036854775807
instance (z : Int) : Decidable (Fits z) := by unfold Fits; infer_instance
def RetSmall (w : World) (z : Int) (e : Ending) (w' : World) : Prop :=
  e = .returned (.tuple #[.int .i64 (if Fits z then z else 0), .bool (decide (Fits z))]) ∧ w.grownBy w' none
theorem ret_small_yes {w w' : World} {z c : Int} (h : Fits z) (hc : c = z) (hg : w.grownBy w' none) : RetSmall w z (.returned (.tuple #[.int .i64 c, .bool true])) w' :=
  ⟨by rw [if_pos h, decide_eq_true h, hc], hg⟩
theorem ret_small_no {w w' : World} {z : Int} (h : ¬ Fits z) (hg : w.grownBy w' none) : RetSmall w z (.returned (.tuple #[.int .i64 0, .bool false])) w' :=
  ⟨by rw [if_neg h, decide_eq_false h], hg⟩
set_option maxHeartbeats 4000000 in
theorem ZSmall_any (w : World) (va : Value) (z : Int) (K : Nat) (ha : IntV w va z) (hK : K ≤ 900000) (la : z.natAbs < B ^ K) :
    Calls Tryz.prog 133 #[va] w (RetSmall w z) := by
  obtain ⟨sa, xs, za, rfl, hx, hv, hza⟩ := ha
  have hgw0 := World.grownBy_alloc w (.cells #[.slice sa xs.length xs.length, .bool za] 30) none
  have hba := heap_new w (.cells #[.slice sa xs.length xs.length, .bool za] 30) w.heap.size rfl
  have ia : IntV (w.alloc (.cells #[.slice sa xs.length xs.length, .bool za] 30)) (.agg #[.slice sa xs.length xs.length, .bool za]) z := ⟨sa, xs, za, rfl, hx.kept hgw0, hv, hza⟩
  have na : NatV (w.alloc (.cells #[.slice sa xs.length xs.length, .bool za] 30)) (.agg #[.slice sa xs.length xs.length]) z.natAbs := ⟨sa, xs, rfl, hx.kept hgw0, hv⟩
  have Hla := Lib.hid la
  obtain ⟨s1, h1⟩ : ∃ s, z.sign = s := ⟨_, rfl⟩
  have H1 := Lib.hid h1
  have hB : B = 18446744073709551616 := rfl
  have hc : (Hid (¬ Fits z) ∧ decide (z.natAbs < B) = false) ∨
      (decide (z.natAbs < B) = true ∧ decide (s1 < 0) = true ∧ decide ((z.natAbs : Int) ≤ 9223372036854775808) = true ∧ Hid (Fits z ∧ z < 0)) ∨
      (decide (z.natAbs < B) = true ∧ decide (s1 < 0) = true ∧ decide (0 ≤ s1) = false ∧ decide ((z.natAbs : Int) ≤ 9223372036854775808) = false ∧ Hid (¬ Fits z)) ∨
      (decide (z.natAbs < B) = true ∧ decide (s1 < 0) = false ∧ decide (0 ≤ s1) = true ∧ decide ((z.natAbs : Int) < 9223372036854775808) = true ∧ Hid (Fits z ∧ 0 ≤ z)) ∨
      (decide (z.natAbs < B) = true ∧ decide (s1 < 0) = false ∧ decide (0 ≤ s1) = true ∧ decide ((z.natAbs : Int) < 9223372036854775808) = false ∧ Hid (¬ Fits z)) := by
    have hs : (z < 0 ∧ s1 < 0) ∨ (0 ≤ z ∧ 0 ≤ s1) := by
      rcases zsign z with ⟨h, e⟩ | ⟨h, e⟩ | ⟨h, e⟩ <;> omega
    have hf : Fits z ↔ (-9223372036854775808 ≤ z ∧ z ≤ 9223372036854775807) := Iff.rfl
    by_cases q : z.natAbs < B
    · right
      rcases hs with ⟨h, k⟩ | ⟨h, k⟩
      · by_cases r : (z.natAbs : Int) ≤ 9223372036854775808
        · left; exact ⟨decide_eq_true q, decide_eq_true k, decide_eq_true r, hf.2 (by omega), h⟩
        · right; left; exact ⟨decide_eq_true q, decide_eq_true k, decide_eq_false (by omega), decide_eq_false r, fun t => by have := hf.1 t; omega⟩
      · by_cases r : (z.natAbs : Int) < 9223372036854775808
        · right; right; left; exact ⟨decide_eq_true q, decide_eq_false (by omega), decide_eq_true k, decide_eq_true r, hf.2 (by omega), h⟩
        · right; right; right; exact ⟨decide_eq_true q, decide_eq_false (by omega), decide_eq_true k, decide_eq_false r, fun t => by have := hf.1 t; omega⟩
    · left; exact ⟨fun t => by have := hf.1 t; omega, decide_eq_false q⟩
  clear hx hv la h1 hza hB
  obtain ⟨x, hx⟩ : ∃ x, z.natAbs = x := ⟨_, rfl⟩
  have HX := Lib.hid hx
  rw [hx] at hc na Hla
  clear hx
  rcases hc with ⟨hz, f0⟩ | ⟨f0, f1, f2, hz⟩ | ⟨f0, f1, f3, f2, hz⟩ | ⟨f0, f1, f3, f2, hz⟩ | ⟨f0, f1, f3, f2, hz⟩
  all_goals (
    obtain ⟨ca0, ca1, fa0, fa1⟩ := box_cells hba
    go_enter Tryz.func133, Tryz.ntmps133
    go_wp2_with fail
    refine (Word_any _ _ x K na (by omega) Hla.out).mono ?_
    rintro e w1 ⟨⟨y, rfl, hy, hy0⟩, g1⟩
    rw [f0]
    have hgw := grown_trans hgw0 g1
    have ia1 := ia.kept g1
    have hba1 := heap_kept g1 hba
    obtain ⟨da0, da1, ga0, ga1⟩ := box_cells hba1
    clear g1 ia hba ca0 ca1 fa0 fa1 na hgw0)
  · clear hy hy0
    have hF : Hid (RetSmall w z (.returned (.tuple #[.int .i64 0, .bool false])) w1) := ret_small_no hz.out hgw
    go_wp2_with fail
    go_ret2
    exact hF.out
  · obtain rfl : y = x := hy (of_decide_eq_true f0)
    clear hy hy0
    go_wp2_with fail
    refine (Sign_any w1 _ z K ia1 (by omega) (by rw [HX.out]; exact Hla.out)).mono ?_
    rintro e w2 ⟨rfl, g2⟩
    rw [H1.out]
    obtain ⟨ea0, ea1, ha0, ha1⟩ := box_cells (heap_kept g2 hba1)
    have hgw2 := grown_trans hgw g2
    go_wp2_with fail
    go_ret2
    refine ret_small_yes hz.out.1 ?_ hgw2
    have q1 := HX.out
    have q2 := hz.out.2
    have q3 := of_decide_eq_true f2
    simp only [IntKind.wrap_u64]
    unfold wrap64
    omega
  · obtain rfl : y = x := hy (of_decide_eq_true f0)
    clear hy hy0
    go_wp2_with fail
    refine (Sign_any w1 _ z K ia1 (by omega) (by rw [HX.out]; exact Hla.out)).mono ?_
    rintro e w2 ⟨rfl, g2⟩
    rw [H1.out]
    have hba2 := heap_kept g2 hba1
    obtain ⟨ea0, ea1, ha0, ha1⟩ := box_cells hba2
    have hgw2 := grown_trans hgw g2
    have ia2 := ia1.kept g2
    go_wp2_with fail
    refine (Sign_any w2 _ z K ia2 (by omega) (by rw [HX.out]; exact Hla.out)).mono ?_
    rintro e w3 ⟨rfl, g3⟩
    rw [H1.out]
    have hF : Hid (RetSmall w z (.returned (.tuple #[.int .i64 0, .bool false])) w3) := ret_small_no hz.out (grown_trans hgw2 g3)
    go_wp2_with fail
    go_ret2
    exact hF.out
  · obtain rfl : y = x := hy (of_decide_eq_true f0)
    clear hy hy0
    go_wp2_with fail
    refine (Sign_any w1 _ z K ia1 (by omega) (by rw [HX.out]; exact Hla.out)).mono ?_
    rintro e w2 ⟨rfl, g2⟩
    rw [H1.out]
    have hba2 := heap_kept g2 hba1
    obtain ⟨ea0, ea1, ha0, ha1⟩ := box_cells hba2
    have hgw2 := grown_trans hgw g2
    have ia2 := ia1.kept g2
    go_wp2_with fail
    refine (Sign_any w2 _ z K ia2 (by omega) (by rw [HX.out]; exact Hla.out)).mono ?_
    rintro e w3 ⟨rfl, g3⟩
    rw [H1.out]
    have hgw3 := grown_trans hgw2 g3
    go_wp2_with fail
    go_ret2
    refine ret_small_yes hz.out.1 ?_ hgw3
    have q1 := HX.out
    have q2 := hz.out.2
    have q3 := of_decide_eq_true f2
    try unfold wrap64
    omega
  · obtain rfl : y = x := hy (of_decide_eq_true f0)
    clear hy hy0
    go_wp2_with fail
    refine (Sign_any w1 _ z K ia1 (by omega) (by rw [HX.out]; exact Hla.out)).mono ?_
    rintro e w2 ⟨rfl, g2⟩
    rw [H1.out]
    have hba2 := heap_kept g2 hba1
    obtain ⟨ea0, ea1, ha0, ha1⟩ := box_cells hba2
    have hgw2 := grown_trans hgw g2
    have ia2 := ia1.kept g2
    go_wp2_with fail
    refine (Sign_any w2 _ z K ia2 (by omega) (by rw [HX.out]; exact Hla.out)).mono ?_
    rintro e w3 ⟨rfl, g3⟩
    rw [H1.out]
    have hF : Hid (RetSmall w z (.returned (.tuple #[.int .i64 0, .bool false])) w3) := ret_small_no hz.out (grown_trans hgw2 g3)
    go_wp2_with fail
    go_ret2
    exact hF.out
end Go.Proofs.YthbhgcaemcobeaaGreatDoor
