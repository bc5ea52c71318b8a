/- Products of the document's own numbers. -/
import Derived.Test.YtldkddogadmpbaaGreatDoorRefLess
namespace Go.Proofs.YtldkddogadmpbaaGreatDoor
open Go.RowKit Mat
set_option maxRecDepth 100000
set_option linter.unusedVariables false
set_option linter.unusedSimpArgs false

/-- A block of ints that holds just these. -/
def Ints (w : World) (g : Nat) (zs : List Nat) : Prop := RBlk w g (zs.map iv).toArray
theorem heap_setv {w : World} {g o : Nat} {cs : Array Value} {v : Value} {t : TypeId} (h : w.heap[g]? = some (.cells cs t (0, 0))) : (w.setCell ⟨g, o, none⟩ v).heap[g]? = some (.cells (cs.setIfInBounds o v) t (0, 0)) := by
  simp [World.setCell, Array.getElem?_modify, h]
theorem Ints.set {w : World} {g : Nat} {zs : List Nat} (h : Ints w g zs) (j d : Nat) : Ints (w.setCell ⟨g, j, none⟩ (.int .i64 (d : Int))) g (zs.set j d) := by
  unfold Ints RBlk at h ⊢
  have := heap_setv (w := w) (g := g) (v := .int .i64 (d : Int)) (o := j) h
  rw [this]
  congr 2
  rw [List.map_set]
  simp [iv]
theorem Ints.drewN {w : World} {g : Nat} {zs : List Nat} (h : Ints w g zs) (q : Nat) : Ints (w.drewN q) g zs := h
theorem Ints.cell {w : World} {g : Nat} {zs : List Nat} {n : Nat} (h : Ints w g zs) (hn : zs.length = n) (j : Nat) (hj : j < n) : w.cell? ⟨g, j, none⟩ = some (.int .i64 (zs.getD j 0 : Int)) := by
  rw [RBlk.cell h, List.getElem?_toArray, List.getElem?_map, List.getD_eq_getElem?_getD, List.getElem?_eq_getElem (by omega)]; rfl
theorem Ints.frozen {w : World} {g : Nat} {zs : List Nat} (h : Ints w g zs) (j : Nat) : w.frozen? ⟨g, j, none⟩ = false := RBlk.frozen h j
theorem Ints.rd {w : World} {g : Nat} {zs : List Nat} (h : Ints w g zs) : RRdo w (some ⟨g, 0, none⟩) zs := by
  refine Or.inr ⟨g, 0, _, rfl, h, fun i hi => ?_⟩
  rw [Nat.zero_add, List.getElem?_toArray, List.getElem?_map, List.getElem?_eq_getElem hi]; rfl
theorem made_ints {w : World} {g n : Nat} (h : w.ownsRow g 3 1 (.slice (some ⟨g, 0, none⟩) n n) n (madeCells #[.int .i64 0] (n * 1)).toList) : Ints w g (List.replicate n 0) := by
  obtain ⟨_, ⟨h, _⟩ | ⟨g', cap, cur, hv, hg, hh, hle, hm, hs, ht⟩⟩ := h
  · cases h
  · simp only [Value.slice.injEq, Option.some.injEq, Addr.mk.injEq] at hv
    obtain ⟨⟨rfl, _⟩, _, rfl⟩ := hv
    have e : cur = ((List.replicate n 0).map iv).toArray := by
      apply Array.ext'
      rw [List.take_of_length_le (by rw [Array.length_toList]; omega)] at ht
      rw [ht]
      apply List.ext_getElem?
      intro i
      rw [Array.getElem?_toList]
      by_cases hi : i < n
      · simp [madeCells, hi, iv]
        rw [Nat.mod_one]; rfl
      · simp [madeCells, hi]
    rw [e] at hh
    exact hh
theorem RRdo.kept_row {w w' : World} {s : Option Addr} {xs : List Nat} {g : Nat} (h : RRdo w s xs) (hg : w.grownBy w' (some g)) (hge : w.heap.size ≤ g) : RRdo w' s xs := by
  rcases h with h | ⟨b, off, cs, e, h1, h2⟩
  · exact Or.inl h
  · exact Or.inr ⟨b, off, cs, e, h1.kept hg (by have := h1.lt; simp; omega), h2⟩
theorem val_set (zs : List Nat) : ∀ (j d : Nat), j < zs.length → val D (zs.set j d) + D ^ j * zs.getD j 0 = val D zs + D ^ j * d := by
  induction zs with
  | nil => intro j d h; simp at h
  | cons z t ih =>
    intro j d h
    cases j with
    | zero => simp [val]; omega
    | succ j =>
      have := ih j d (by simpa using h)
      simp only [List.set_cons_succ, val, List.getD_cons_succ]
      have h2 : D * (val D (t.set j d) + D ^ j * t.getD j 0) = D * (val D t + D ^ j * d) := by rw [this]
      rw [Nat.mul_add, Nat.mul_add, ← Nat.mul_assoc, ← Nat.mul_assoc, show D * D ^ j = D ^ (j + 1) from by rw [Nat.pow_succ, Nat.mul_comm]] at h2
      omega
theorem Mat.Dig.set {m : Nat} {xs : List Nat} (h : Dig m xs) {d : Nat} (hd : d < m) (j : Nat) : Dig m (xs.set j d) := by
  intro x hx
  rcases List.mem_or_eq_of_mem_set hx with h1 | h1
  · exact h x h1
  · rw [h1]; exact hd
theorem rmul_step {v v' z d q c p x y V S : Nat} (h : v + c * p = V + S) (hs : v' + p * z = v + p * d) (hd : d + q * D = c + z + x * y) : v' + q * (p * D) = V + (S + p * (x * y)) := by
  have h2 : p * (d + q * D) = p * (c + z + x * y) := by rw [hd]
  rw [Nat.mul_add, Nat.mul_add, Nat.mul_add] at h2
  have h3 : p * (q * D) = q * (p * D) := by grind
  have h4 : p * c = c * p := Nat.mul_comm _ _
  omega
theorem rcarry_step {v v' z d q c p T : Nat} (h : v + c * p = T) (hs : v' + p * z = v + p * d) (hd : d + q * D = c + z) : v' + q * (p * D) = T := by
  have h2 : p * (d + q * D) = p * (c + z) := by rw [hd]
  rw [Nat.mul_add, Nat.mul_add] at h2
  have h3 : p * (q * D) = q * (p * D) := by grind
  have h4 : p * c = c * p := Nat.mul_comm _ _
  omega
theorem rcarry_at {v c t T k : Nat} (h : v + c * D ^ t = T) (hc : 0 < c) (hT : T < D ^ k) : t < k := by
  rcases Nat.lt_or_ge t k with h1 | h1
  · exact h1
  · have h2 : D ^ k ≤ D ^ t := Nat.pow_le_pow_right D_pos h1
    have h3 : D ^ t ≤ c * D ^ t := Nat.le_mul_of_pos_left _ hc
    omega

set_option maxHeartbeats 8000000 in
theorem rMul_any (w : World) (va vb : Value) (a b : Nat) (ha : RefV w va a) (hb : RefV w vb b) (ba : a < D ^ 1000000) (bb : b < D ^ 1000000) :
    Calls Tryz.prog 66 #[va, vb] w (RetRef w (a * b)) := by
  obtain ⟨sa, n, cx, xs, rfl, hn, hnc, hx, tx, dx, rfl⟩ := ha
  obtain ⟨sb, m, cy, ys, rfl, hm, hmc, hy, ty, dy, rfl⟩ := hb
  have Hn := Lib.hid hn
  have Hm := Lib.hid hm
  have hn6 : n ≤ 1000000 := rlen tx hn ba
  have hm6 : m ≤ 1000000 := rlen ty hm bb
  obtain ⟨i0, hi, hz0, hz1, hz2⟩ := info_partsI
  have hgw0 : w.grownBy (((w.alloc (.cells #[.slice sa n cx] 34)).alloc (.cells #[.slice sb m cy] 34)).alloc (.cells #[.slice none 0 0] 34)) none := grown_alloc (grown_alloc (World.grownBy_alloc _ _ _) _) _
  have hboxr := heap_new ((w.alloc (.cells #[.slice sa n cx] 34)).alloc (.cells #[.slice sb m cy] 34)) (.cells #[.slice none 0 0] 34) (w.heap.size + 1 + 1) (by simp)
  have hboxb := (Below.heap_alloc _ (.cells #[.slice none 0 0] 34) (w.heap.size + 1) (by simp)).trans (heap_new (w.alloc (.cells #[.slice sa n cx] 34)) (.cells #[.slice sb m cy] 34) (w.heap.size + 1) (by simp))
  have hboxa := ((Below.heap_alloc _ (.cells #[.slice none 0 0] 34) w.heap.size (by simp; omega)).trans (Below.heap_alloc _ (.cells #[.slice sb m cy] 34) w.heap.size (by simp))).trans (heap_new w (.cells #[.slice sa n cx] 34) w.heap.size rfl)
  have hs0 : (((w.alloc (.cells #[.slice sa n cx] 34)).alloc (.cells #[.slice sb m cy] 34)).alloc (.cells #[.slice none 0 0] 34)).heap.size = w.heap.size + 1 + 1 + 1 := by simp
  clear hn hm ba bb
  obtain ⟨L, hL⟩ : ∃ L, n + m + 1 = L := ⟨_, rfl⟩
  have eL : (n : Int) + (m : Int) + 1 = (L : Int) := by omega
  have hL6 : L ≤ 2000001 := by omega
  go_enter Tryz.func66, Tryz.ntmps66
  go_wp2_with (at_make; refine wpList_make_full _ rfl _ _ 32 rfl _ 3 i0 (.int .i64 0) 1 Tryz.underlying32 hi hz0 hz1 .i64 .i64 _ _ L rfl rfl (by omega) (by omega) (by rw [hz2]; omega) (by unfold maxLen; omega) (Nat.le_refl _) ?_; intro w1 hown hg1; have hI1 := made_ints hown; have HS0 := Lib.hid hs0; rw [hs0] at hI1; clear hs0 hown; have hgw := grown_trans hgw0 hg1; have hboxr1 := heap_kept hg1 hboxr; have hboxb1 := heap_kept hg1 hboxb; have hboxa1 := heap_kept hg1 hboxa; clear hg1 hgw0 hboxr hboxb hboxa)
  obtain ⟨g, hgE⟩ : ∃ g, w.heap.size + 1 + 1 + 1 = g := ⟨_, rfl⟩
  rw [hgE] at hI1
  have hgs : w.heap.size ≤ g := by omega
  go_wp2_with fail
  rw [hgE]
  go_loopw [6] (fun i wr => ∃ (k : Nat) (zs : List Nat), k ≤ n ∧ i = .int .i64 k ∧ Hid (zs.length = L) ∧ Dig D zs ∧ Ints wr g zs ∧ w1.grownBy wr (some g) ∧ Hid (val D zs = val D (xs.take k) * val D ys)) (fun i _ => n - (intOf i).toNat)
  case atStart => exact ⟨0, List.replicate L 0, Nat.zero_le _, rfl, by show _ = _; simp, Dig.replicate D_pos _, hI1, grown_refl _ _, by show _ = _; rw [val_replicate]; simp [val]⟩
  case round =>
    clear hI1
    obtain ⟨k, zs, hk, rfl, hzl, hzd, hI, hg, hv⟩ := hrel
    by_cases hlt : k < n
    · obtain ⟨x, ex⟩ : ∃ x, xs.getD k 0 = x := ⟨_, rfl⟩
      have hx4 : x < 10000 := ex ▸ getD_lt dx k
      have EX := Lib.hid ex
      clear ex
      have f1 : decide ((k : Int) < (n : Int)) = true := decide_eq_true (by omega)
      obtain ⟨hca, hfa⟩ := box_cell (heap_row hg hboxa1 (by omega))
      go_wp2_with fail
      go_loopw [7, 8] (fun c j wi => ∃ (q r : Nat) (us : List Nat), q ≤ m ∧ j = .int .i64 q ∧ c = .int .i64 r ∧ r < 10000 ∧ Hid (us.length = L) ∧ Dig D us ∧ Ints wi g us ∧ wr.grownBy wi (some g) ∧ Hid (val D us + r * D ^ (k + q) = val D zs + x * val D (ys.take q) * D ^ k)) (fun _ j _ => m - (intOf j).toNat)
      case atStart => exact ⟨0, 0, zs, Nat.zero_le _, rfl, rfl, by omega, hzl, hzd, hI, grown_refl _ _, by show _ = _; simp [val]⟩
      case round =>
        obtain ⟨q, r, us, hq, rfl, rfl, hr, hul, hud, hIu, hgu, hvu⟩ := hrel
        have hgx := grown_trans hg hgu
        obtain ⟨hcb, hfb⟩ := box_cell (heap_row hgx hboxb1 (by omega))
        by_cases hlt2 : q < m
        · obtain ⟨y, ey⟩ : ∃ y, ys.getD q 0 = y := ⟨_, rfl⟩
          have hy4 : y < 10000 := ey ▸ getD_lt dy q
          obtain ⟨z, ez⟩ : ∃ z, us.getD (k + q) 0 = z := ⟨_, rfl⟩
          have hz4 : z < 10000 := ez ▸ getD_lt hud (k + q)
          have EY := Lib.hid ey
          have EZ := Lib.hid ez
          obtain ⟨p, hp⟩ : ∃ p, x * y = p := ⟨_, rfl⟩
          have hp9 : p ≤ 99980001 := by
            rw [← hp]; exact Nat.mul_le_mul (show x ≤ 9999 by omega) (show y ≤ 9999 by omega)
          have hpI : (x : Int) * (y : Int) = (p : Int) := by rw [← hp]; rfl
          obtain ⟨j, hj⟩ : ∃ j, k + q = j := ⟨_, rfl⟩
          have hjI : (k : Int) + (q : Int) = (j : Int) := by omega
          have hjL : j < L := by omega
          obtain ⟨d, hd⟩ : ∃ d, (r + z + p) % 10000 = d := ⟨_, rfl⟩
          obtain ⟨r2, hr2⟩ : ∃ r2, (r + z + p) / 10000 = r2 := ⟨_, rfl⟩
          have e1 : ((r : Int) + (z : Int) + (p : Int)) % 10000 = (d : Int) := by omega
          have e2 : ((r : Int) + (z : Int) + (p : Int)) / 10000 = (r2 : Int) := by omega
          have hd4 : d < 10000 := by omega
          have hr4 : r2 < 10000 := by omega
          have hvn : Hid (val D (us.set j d) + r2 * D ^ (k + (q + 1)) = val D zs + x * val D (ys.take (q + 1)) * D ^ k) := by
            show _ = _
            have h1 := val_set us j d (by rw [hul.out]; exact hjL)
            rw [← hj] at h1 ⊢
            rw [EZ.out] at h1
            rw [take_getD ys, EY.out, ← Nat.add_assoc, Nat.pow_succ, rmul_step (x := x) (y := y) (q := r2) (d := d) hvu.out h1 (by rw [hp]; unfold D; omega)]
            rw [Nat.pow_add]
            grind
          obtain ⟨b1, o1, rfl, c1⟩ := rcell (hx.kept_row (grown_trans (grown_any hgw) hgx) hgs) Hn.out k hlt
          obtain ⟨b2, o2, rfl, c2⟩ := rcell (hy.kept_row (grown_trans (grown_any hgw) hgx) hgs) Hm.out q hlt2
          rw [EX.out] at c1
          rw [EY.out] at c2
          have c3 := hIu.cell hul.out j hjL
          rw [← hj, EZ.out, hj] at c3
          have fr3 := hIu.frozen j
          obtain ⟨hca3, hfa3⟩ := box_cell (heap_row hgx hboxa1 (by omega))
          have hu2 : Hid ((us.set j d).length = L) := by show _ = _; rw [List.length_set]; exact hul.out
          clear ey ez hp hj hd hr2
          go_wp2_with fail
          go_quiet (fail)
          go_wp2_with fail
          go_roundw
          case rel => exact ⟨q + 1, r2, us.set j d, by omega, by go_num, by go_num, hr4, hu2, hud.set hd4 j, (hIu.drewN _).set j d, grown_set (grown_trans hgu (grown_drewN _ _ _)) _ _, hvn⟩
          case measure => simp [intOf]; omega
        · obtain rfl : q = m := by omega
          obtain ⟨T, hT⟩ : ∃ T, val D (xs.take (k + 1)) * val D ys = T := ⟨_, rfl⟩
          have hvt : Hid (val D us + r * D ^ (k + q) = T) := by
            show _ = _
            rw [hvu.out, hv.out, List.take_of_length_le (l := ys) (by rw [Hm.out]; exact Nat.le_refl _), ← hT, take_getD xs, EX.out, Nat.add_mul]; grind
          have hTb : Hid (T < D ^ (n + q)) := by
            show _ < _
            rw [← hT]
            have h1 := val_lt D _ (dx.take (k + 1))
            have h2 := val_lt D ys dy
            rw [Hm.out] at h2
            rw [List.length_take, Hn.out, Nat.min_eq_left (by omega)] at h1
            have h3 : D ^ (k + 1) * D ^ q ≤ D ^ n * D ^ q := Nat.mul_le_mul_right _ (Nat.pow_le_pow_right D_pos (by omega))
            rw [Nat.pow_add]
            exact Nat.lt_of_lt_of_le (Nat.mul_lt_mul'' h1 h2) h3
          obtain ⟨j0, hj0⟩ : ∃ j0, k + q = j0 := ⟨_, rfl⟩
          have hjI : (k : Int) + (q : Int) = (j0 : Int) := by omega
          have hj0L : j0 ≤ L := by omega
          rw [hj0] at hvt
          clear hj0
          have f7 : decide ((q : Int) < (q : Int)) = false := decide_eq_false (by omega)
          clear hvu hv
          go_wp2_with fail
          go_loopw [7, 9] (fun c t wi2 => ∃ (t' r' : Nat) (us' : List Nat), t = .int .i64 t' ∧ c = .int .i64 r' ∧ r' < 10000 ∧ t' ≤ L ∧ Hid (us'.length = L) ∧ Dig D us' ∧ Ints wi2 g us' ∧ wr.grownBy wi2 (some g) ∧ Hid (val D us' + r' * D ^ t' = T)) (fun _ t _ => L - (intOf t).toNat)
          case atStart => exact ⟨j0, r, us, rfl, rfl, hr, hj0L, hul, hud, hIu, grown_refl _ _, hvt⟩
          case round =>
            clear hul hud hIu hvt hr
            obtain ⟨j, r, us, rfl, rfl, hr, hjL', hul, hud, hIu, hgu2, hvu⟩ := hrel
            by_cases h0 : r = 0
            · subst h0
              go_wp2_with fail
              go_roundw
              case rel => exact ⟨k + 1, us, by omega, by go_num, hul, hud, hIu, grown_trans hgx hgu2, by show _ = _; rw [hT]; have := hvu.out; omega⟩
              case measure => simp [intOf]; omega
            · have f3 : decide ((0 : Int) < (r : Int)) = true := decide_eq_true (by omega)
              have hjn := rcarry_at hvu.out (by omega) hTb.out
              have hjL : j < L := by omega
              obtain ⟨z, ez⟩ : ∃ z, us.getD j 0 = z := ⟨_, rfl⟩
              have hz4 : z < 10000 := ez ▸ getD_lt hud j
              obtain ⟨d, hd⟩ : ∃ d, (r + z) % 10000 = d := ⟨_, rfl⟩
              obtain ⟨r2, hr2⟩ : ∃ r2, (r + z) / 10000 = r2 := ⟨_, rfl⟩
              have e1 : ((r : Int) + (z : Int)) % 10000 = (d : Int) := by omega
              have e2 : ((r : Int) + (z : Int)) / 10000 = (r2 : Int) := by omega
              have hd4 : d < 10000 := by omega
              have hr4 : r2 < 10000 := by omega
              have hvn : Hid (val D (us.set j d) + r2 * D ^ (j + 1) = T) := by
                show _ = _
                have h1 := val_set us j d (by rw [hul.out]; exact hjL)
                rw [ez] at h1
                rw [Nat.pow_succ]
                exact rcarry_step hvu.out h1 (by unfold D; omega)
              have c3 := hIu.cell hul.out j hjL
              rw [ez] at c3
              have fr3 := hIu.frozen j
              have hu2 : Hid ((us.set j d).length = L) := by show _ = _; rw [List.length_set]; exact hul.out
              clear ez hd hr2 hvu
              go_wp2_with fail
              go_roundw
              case rel => exact ⟨j + 1, r2, us.set j d, by go_num, by go_num, hr4, by omega, hu2, hud.set hd4 j, hIu.set j d, grown_set hgu2 _ _, hvn⟩
              case measure => simp [intOf]; omega
    · obtain rfl : k = n := by omega
      have f1 : decide ((k : Int) < (k : Int)) = false := decide_eq_false (by omega)
      have hbox2 := heap_row hg hboxr1 (by omega)
      have hgw2 := grown_new hgw hg (by omega)
      have HV : Hid (val D zs = val D xs * val D ys) := by show _ = _; rw [hv.out, List.take_of_length_le (by rw [Hn.out]; exact Nat.le_refl _)]
      obtain ⟨hca, hfa⟩ := box_cell (heap_row hg hboxa1 (by omega))
      have hrd := hI.rd
      clear hboxr1 hboxb1 hboxa1 hv hg hgw hI
      go_wp2_with fail
      refine (rcut_any wr (some ⟨g, 0, none⟩) L L zs hzl.out hrd (Nat.le_refl _) (by omega) hzd).mono ?_
      rintro e w4 ⟨v, rfl, hv4, hg4⟩
      have hbox4 := heap_kept hg4 hbox2
      obtain ⟨hc4, hf4⟩ := box_cell hbox4
      rw [HV.out] at hv4
      obtain ⟨s4, k4, c4, zs4, rfl, hz4⟩ := hv4
      have hF := Lib.hid (rret (grown_trans hgw2 hg4) hbox4 (by decide) (by omega) ⟨s4, k4, c4, zs4, rfl, hz4⟩ (.slice s4 k4 c4))
      clear hz4 hbox4 hbox2 hg4 hgw2
      go_wp2_with fail
      exact bodyPost_ret (v := .agg #[.slice s4 k4 c4]) (by simp [results, Tryz.results66, go_sem, hc4]) rfl hF.out
end Go.Proofs.YtldkddogadmpbaaGreatDoor
