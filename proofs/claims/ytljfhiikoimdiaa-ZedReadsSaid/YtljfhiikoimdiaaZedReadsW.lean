/- ZedReads: every text is read as the document reads it, and written as it was. -/
import Derived.Test.YtljfhiikoimdiaaZRSmall
import Derived.Deep.RegionHeld3
namespace Go.Proofs.Ytljfhiikoimdiaa
open Go.RowKit Mat
set_option maxRecDepth 100000
set_option linter.unusedVariables false
set_option linter.unusedSimpArgs false

theorem ztext_of {s : ByteArray} (h : zcod s = 0) : ZTextOf s (zval s) := by
  have hv : zval s = znum (bts s) := by unfold zval; rw [if_pos h]
  have hok : zok (bts s) = true := by
    cases e : zok (bts s)
    · unfold zcod at h
      rw [e] at h
      split at h
      · cases h
      · simp at h
    · rfl
  obtain ⟨hd, hn⟩ := (zok_iff _).1 hok
  refine ⟨zdig (bts s), hd, ?_, ?_⟩
  · rw [hv]; unfold znum; split
    · rw [Int.natAbs_neg, Int.natAbs_natCast]
    · rw [Int.natAbs_natCast]
  · rw [hv]; unfold znum
    by_cases e : zneg (bts s) = true
    · have hm : dval (zdig (bts s)) ≠ 0 := fun h => hn ⟨e, h⟩
      rw [if_pos e, if_pos (by omega), zdig_neg e]
      unfold zneg at e
      cases hl : bts s with
      | nil => rw [hl] at e; cases e
      | cons x t => rw [hl] at e; simp at e; rw [e]; rfl
    · rw [if_neg e, if_neg (by omega), zdig_pos (by simpa using e)]
theorem zcod_size {s : ByteArray} (h : zcod s = 0) : s.size ≤ 4097 := by
  unfold zcod at h
  split at h
  · cases h
  · omega
theorem zval_bd2 (s : ByteArray) : (zval s).natAbs < B ^ 216 := by
  by_cases h : zcod s = 0
  · exact zval_bd s (zcod_size h) (by omega)
  · have : zval s = 0 := by unfold zval; rw [if_neg h]
    rw [this]; exact Nat.pow_pos B_pos
theorem zt_0 : ZTextOf { data := #[48] } 0 := ⟨[48], dec_of (by decide +kernel), by decide +kernel, by decide +kernel⟩
theorem fits_lo {z : Int} (h : Fits z) : -9223372036854775808 ≤ z := h.1
theorem fits_hi {z : Int} (h : Fits z) : z ≤ 9223372036854775807 := h.2
theorem zcmp_abs (z : Int) : zcmp (z.natAbs : Int) z = if z < 0 then 1 else 0 := by
  unfold zcmp
  split
  · omega
  · split
    · rw [if_neg (by omega)]
    · rw [if_pos (by omega)]
theorem refv_of {w : World} {g : Int} {s : Option Addr} {l c : Nat} {z : Int} (h : RIntV w (.agg #[.int .i64 g, .slice s l c]) z) : RefV w (.agg #[.slice s l c]) z.natAbs := by
  obtain ⟨g', s', l', c', e, h1, h2⟩ := h
  cases e
  exact h2
set_option maxHeartbeats 16000000 in
theorem zedReads_walk (w : World) (s : ByteArray) :
    Calls Try.prog 3 #[.string s] w (fun e w' => e = .returned (.bool true) ∧ w.grownBy w' none) := by
  have hG : w.grownBy w none := grown_refl _ _
  have hc0 : zcod s ≠ 0 → zval s = 0 := fun h => by unfold zval; rw [if_neg h]
  have hb0 := zval_bd2 s
  have ht0 : zcod s = 0 → ZTextOf s (zval s) := ztext_of
  obtain ⟨c, hc⟩ : ∃ c, zcod s = c := ⟨_, rfl⟩
  obtain ⟨z, hz⟩ : ∃ z, zval s = z := ⟨_, rfl⟩
  have P1 : Hid (∀ W, Calls Try.prog 12 #[.string s] W (RetIntE W z c)) := fun W => by rw [← hc, ← hz]; exact ZParse_any W s
  have P2 : Hid (∀ W, Calls Try.prog 13 #[.string s] W (RetRIntE W z c)) := fun W => by rw [← hc, ← hz]; exact rZParse_any W s
  rw [hc, hz] at hc0 ht0
  rw [hz] at hb0
  have HT := Lib.hid ht0
  have HB := Lib.hid hb0
  clear hc hz ht0 hb0
  by_cases hc : c ≠ 0
  · skip
    obtain rfl : z = 0 := hc0 hc
    have f1 : (c == 0) = false := beq_eq_false_iff_ne.2 hc
    have f2 : (c != 0) = true := by rw [bne, f1]; rfl
    have f3 : (c != c) = false := by simp
    clear hc0 hc
    go_enter Try.func3, Try.ntmps3
    go_wp2_with fail
    refine (P1.out w).mono ?_
    rintro e nw1 ⟨_, rfl, ⟨sa, xa, ba, rfl, ha, va, ta⟩, gnw1⟩
    have ia : IntV nw1 (.agg #[.slice sa xa.length xa.length, .bool ba]) (0) := ⟨sa, xa, ba, rfl, ha, va, ta⟩
    replace hG := grown_trans hG gnw1
    clear gnw1
    clear ha va ta
    have gbnw1 := (World.grownBy_alloc nw1 (.cells #[.slice sa xa.length xa.length, .bool ba] 26) none)
    have Ba := (heap_new nw1 (.cells #[.slice sa xa.length xa.length, .bool ba] 26) (nw1.heap.size) rfl)
    have hznw1 : Hid (w.heap.size ≤ nw1.heap.size) := Lib.hid hG.size
    replace ia := ia.kept gbnw1
    replace hG := grown_trans hG gbnw1
    clear gbnw1
    obtain ⟨Ca0, Ca1, Fa0, Fa1⟩ := box_cells Ba
    go_wp2_with fail
    generalize (nw1.alloc (.cells #[.slice sa xa.length xa.length, .bool ba] 26)) = nw2 at *
    generalize nw1.heap.size = anw1 at *
    replace hznw1 := hznw1.out
    clear Ca0 Fa0 Ca1 Fa1
    refine (P2.out nw2).mono ?_
    rintro e nw3 ⟨_, rfl, ⟨gx, sx, lx, cx, rfl, hx, mx⟩, gnw3⟩
    have rx : RIntV nw3 (.agg #[.int .i64 gx, .slice sx lx cx]) (0) := ⟨gx, sx, lx, cx, rfl, hx, mx⟩
    replace Ba := heap_kept gnw3 Ba
    replace ia := ia.kept gnw3
    replace hG := grown_trans hG gnw3
    clear gnw3
    clear mx
    obtain ⟨Ca0, Ca1, Fa0, Fa1⟩ := box_cells Ba
    have gbnw3 := (World.grownBy_alloc nw3 (.cells #[.int .i64 gx, .slice sx lx cx] 34) none)
    have Bx := (heap_new nw3 (.cells #[.int .i64 gx, .slice sx lx cx] 34) (nw3.heap.size) rfl)
    have hznw3 : Hid (w.heap.size ≤ nw3.heap.size) := Lib.hid hG.size
    have hlanw3 : Hid (anw1 < nw3.heap.size) := Lib.hid (Array.getElem?_eq_some_iff.1 Ba).1
    clear Ca0 Fa0 Ca1 Fa1
    replace Ba := heap_kept gbnw3 Ba
    replace ia := ia.kept gbnw3
    replace rx := rx.kept gbnw3
    replace hG := grown_trans hG gbnw3
    clear gbnw3
    obtain ⟨Ca0, Ca1, Fa0, Fa1⟩ := box_cells Ba
    obtain ⟨Cx0, Cx1, Fx0, Fx1⟩ := box_cells Bx
    go_wp2_with fail
    generalize (nw3.alloc (.cells #[.int .i64 gx, .slice sx lx cx] 34)) = nw4 at *
    generalize nw3.heap.size = anw3 at *
    replace hznw3 := hznw3.out
    replace hlanw3 := hlanw3.out
    clear Ca0 Fa0 Ca1 Fa1 Cx0 Fx0 Cx1 Fx1
    refine (known_any nw4).mono ?_
    rintro e nw5 ⟨rfl, gnw5⟩
    replace Ba := heap_kept gnw5 Ba
    replace Bx := heap_kept gnw5 Bx
    replace ia := ia.kept gnw5
    replace rx := rx.kept gnw5
    replace hG := grown_trans hG gnw5
    clear gnw5
    obtain ⟨Ca0, Ca1, Fa0, Fa1⟩ := box_cells Ba
    obtain ⟨Cx0, Cx1, Fx0, Fx1⟩ := box_cells Bx
    go_wp2_with fail
    clear Ca0 Fa0 Ca1 Fa1 Cx0 Fx0 Cx1 Fx1
    refine (NZText_any nw5 _ 0 1 ia (by omega) (by decide)).mono ?_
    rintro e nw6 ⟨x1', rfl, h1', gnw6⟩
    obtain rfl : x1' = { data := #[48] } := ztext_uniq h1' zt_0
    clear h1'
    replace Ba := heap_kept gnw6 Ba
    replace Bx := heap_kept gnw6 Bx
    replace ia := ia.kept gnw6
    replace rx := rx.kept gnw6
    replace hG := grown_trans hG gnw6
    clear gnw6
    obtain ⟨Ca0, Ca1, Fa0, Fa1⟩ := box_cells Ba
    obtain ⟨Cx0, Cx1, Fx0, Fx1⟩ := box_cells Bx
    go_wp2_with fail
    go_ret
    exact ⟨by first | rfl | simp, hG⟩
  obtain rfl : c = 0 := by omega
  clear hc0 hc
  have ht := HT.out rfl
  have HT2 := Lib.hid ht
  clear HT ht
  have hsg : (decide (z.sign < 0) = true ∧ Hid (zcmp (z.natAbs : Int) z = 1)) ∨ (decide (z.sign < 0) = false ∧ Hid (zcmp (z.natAbs : Int) z = 0)) := by
    rcases zsign z with ⟨h, e⟩ | ⟨h, e⟩ | ⟨h, e⟩
    · left; exact ⟨decide_eq_true (by omega), by show _ = _; rw [zcmp_abs, if_pos h]⟩
    · right; exact ⟨decide_eq_false (by omega), by show _ = _; rw [zcmp_abs, if_neg (by omega)]⟩
    · right; exact ⟨decide_eq_false (by omega), by show _ = _; rw [zcmp_abs, if_neg (by omega)]⟩
  have HSG := Lib.hid hsg
  clear hsg
  obtain ⟨n, hn⟩ : ∃ n, (if Fits z then z else 0) = n := ⟨_, rfl⟩
  obtain ⟨o, ho⟩ : ∃ o, decide (Fits z) = o := ⟨_, rfl⟩
  have HNO : Hid ((if Fits z then z else 0) = n ∧ decide (Fits z) = o) := ⟨hn, ho⟩
  have hk : (o = true ∧ n = z ∧ Hid (Fits z)) ∨ (o = false ∧ n = 0) := by
    by_cases h : Fits z
    · left; exact ⟨by rw [← ho]; exact decide_eq_true h, by rw [← hn]; exact if_pos h, h⟩
    · right; exact ⟨by rw [← ho]; exact decide_eq_false h, by rw [← hn]; exact if_neg h⟩
  clear hn ho
  rcases hk with ⟨rfl, rfl, HFT⟩ | ⟨rfl, rfl⟩
  · skip
    go_enter Try.func3, Try.ntmps3
    go_wp2_with fail
    refine (P1.out w).mono ?_
    rintro e f1w1 ⟨_, rfl, ⟨sa, xa, ba, rfl, ha, va, ta⟩, gf1w1⟩
    have ia : IntV f1w1 (.agg #[.slice sa xa.length xa.length, .bool ba]) (n) := ⟨sa, xa, ba, rfl, ha, va, ta⟩
    replace hG := grown_trans hG gf1w1
    clear gf1w1
    clear ha va ta
    have gbf1w1 := (World.grownBy_alloc f1w1 (.cells #[.slice sa xa.length xa.length, .bool ba] 26) none)
    have Ba := (heap_new f1w1 (.cells #[.slice sa xa.length xa.length, .bool ba] 26) (f1w1.heap.size) rfl)
    have hzf1w1 : Hid (w.heap.size ≤ f1w1.heap.size) := Lib.hid hG.size
    replace ia := ia.kept gbf1w1
    replace hG := grown_trans hG gbf1w1
    clear gbf1w1
    obtain ⟨Ca0, Ca1, Fa0, Fa1⟩ := box_cells Ba
    go_wp2_with fail
    generalize (f1w1.alloc (.cells #[.slice sa xa.length xa.length, .bool ba] 26)) = f1w2 at *
    generalize f1w1.heap.size = af1w1 at *
    replace hzf1w1 := hzf1w1.out
    clear Ca0 Fa0 Ca1 Fa1
    refine (P2.out f1w2).mono ?_
    rintro e f1w3 ⟨_, rfl, ⟨gx, sx, lx, cx, rfl, hx, mx⟩, gf1w3⟩
    have rx : RIntV f1w3 (.agg #[.int .i64 gx, .slice sx lx cx]) (n) := ⟨gx, sx, lx, cx, rfl, hx, mx⟩
    replace Ba := heap_kept gf1w3 Ba
    replace ia := ia.kept gf1w3
    replace hG := grown_trans hG gf1w3
    clear gf1w3
    clear mx
    obtain ⟨Ca0, Ca1, Fa0, Fa1⟩ := box_cells Ba
    have gbf1w3 := (World.grownBy_alloc f1w3 (.cells #[.int .i64 gx, .slice sx lx cx] 34) none)
    have Bx := (heap_new f1w3 (.cells #[.int .i64 gx, .slice sx lx cx] 34) (f1w3.heap.size) rfl)
    have hzf1w3 : Hid (w.heap.size ≤ f1w3.heap.size) := Lib.hid hG.size
    have hlaf1w3 : Hid (af1w1 < f1w3.heap.size) := Lib.hid (Array.getElem?_eq_some_iff.1 Ba).1
    clear Ca0 Fa0 Ca1 Fa1
    replace Ba := heap_kept gbf1w3 Ba
    replace ia := ia.kept gbf1w3
    replace rx := rx.kept gbf1w3
    replace hG := grown_trans hG gbf1w3
    clear gbf1w3
    obtain ⟨Ca0, Ca1, Fa0, Fa1⟩ := box_cells Ba
    obtain ⟨Cx0, Cx1, Fx0, Fx1⟩ := box_cells Bx
    go_wp2_with fail
    generalize (f1w3.alloc (.cells #[.int .i64 gx, .slice sx lx cx] 34)) = f1w4 at *
    generalize f1w3.heap.size = af1w3 at *
    replace hzf1w3 := hzf1w3.out
    replace hlaf1w3 := hlaf1w3.out
    clear Ca0 Fa0 Ca1 Fa1 Cx0 Fx0 Cx1 Fx1
    refine (known_any f1w4).mono ?_
    rintro e f1w5 ⟨rfl, gf1w5⟩
    replace Ba := heap_kept gf1w5 Ba
    replace Bx := heap_kept gf1w5 Bx
    replace ia := ia.kept gf1w5
    replace rx := rx.kept gf1w5
    replace hG := grown_trans hG gf1w5
    clear gf1w5
    obtain ⟨Ca0, Ca1, Fa0, Fa1⟩ := box_cells Ba
    obtain ⟨Cx0, Cx1, Fx0, Fx1⟩ := box_cells Bx
    go_wp2_with fail
    clear Ca0 Fa0 Ca1 Fa1 Cx0 Fx0 Cx1 Fx1
    refine (ZSmall_any f1w5 _ n 216 ia (by omega) HB.out).mono ?_
    rintro e f1w6 ⟨rfl, gf1w6⟩
    rw [HNO.out.1, HNO.out.2]
    replace Ba := heap_kept gf1w6 Ba
    replace Bx := heap_kept gf1w6 Bx
    replace ia := ia.kept gf1w6
    replace rx := rx.kept gf1w6
    replace hG := grown_trans hG gf1w6
    clear gf1w6
    obtain ⟨Ca0, Ca1, Fa0, Fa1⟩ := box_cells Ba
    obtain ⟨Cx0, Cx1, Fx0, Fx1⟩ := box_cells Bx
    go_wp2_with fail
    have hsg := HSG.out
    rw [← hx.out] at hsg
    rcases hsg with ⟨f8, HC8⟩ | ⟨f8, HC8⟩
    · skip
      refine wp_region_held_drew (S := fun w' => w'.cell? ⟨af1w1, 0, none⟩ = some (.slice sa xa.length xa.length) ∧ w'.cell? ⟨af1w1, 1, none⟩ = some (.bool ba) ∧ w'.cell? ⟨af1w3, 0, none⟩ = some (.int .i64 gx) ∧ w'.cell? ⟨af1w3, 1, none⟩ = some (.slice sx lx cx)) (by kernel_rfl) (by exact ⟨Ca0, Ca1, Cx0, Cx1⟩) (fun hHeld => ?_)
      refine wpAnyH_take (i := 0) (v := ?_) rfl (by kernel_rfl) (by kernel_rfl) (by kernel_rfl) (fun _ _ _ h => h) (Or.inl ⟨by rfl, ?_⟩) (by assumption) ?_
      rotate_left
      · (intro w hSw; (try dsimp only at hSw); go_simp; (try with_reducible rfl))
      try simp only [Act.put, List.getElem_toArray, List.getElem_cons_zero, List.getElem_cons_succ, List.setIfInBounds_toArray, List.set_cons_zero, List.set_cons_succ]
      refine wpAnyH_take (i := 1) (v := ?_) rfl (by kernel_rfl) (by kernel_rfl) (by kernel_rfl) (fun _ _ _ h => h) (Or.inl ⟨by rfl, ?_⟩) (by assumption) ?_
      rotate_left
      · (intro w hSw; (try dsimp only at hSw); go_simp; (try with_reducible rfl))
      try simp only [Act.put, List.getElem_toArray, List.getElem_cons_zero, List.getElem_cons_succ, List.setIfInBounds_toArray, List.set_cons_zero, List.set_cons_succ]
      refine wpAnyH_ready (rs := [2]) (by kernel_rfl) (by simp) ?_
      refine AllReadyH.cons rfl (fun KQ hKQ => ?_) AllReadyH.nil
      go_simp
      (go_at_call 17; (with_reducible refine (rZSmall_any f1w6.drew _ n (rx.kept (grown_drew (grown_refl _ _))) (toD HB.out (by omega))).mono ?_); rintro e f1g1w7_1 ⟨rfl, gf1g1w7_1⟩; rw [HNO.out.2]; have hGf1g1w7_1 := grown_pre f1w6 gf1g1w7_1 rfl rfl rfl rfl; have hSf1g1w7_1 := (And.intro (hGf1g1w7_1.cell Ca0 (by simp)) (And.intro (hGf1g1w7_1.cell Ca1 (by simp)) (And.intro (hGf1g1w7_1.cell Cx0 (by simp)) (hGf1g1w7_1.cell Cx1 (by simp))))); clear gf1g1w7_1)
      (try go_wp2_with fail)
      refine hKQ.out _ _ (by exact hSf1g1w7_1) (fun hHeld => ?_)
      clear hKQ KQ
      try simp only [Act.put, List.getElem_toArray, List.getElem_cons_zero, List.getElem_cons_succ, List.setIfInBounds_toArray, List.set_cons_zero, List.set_cons_succ]
      refine wpAnyH_take (i := 3) (v := ?_) rfl (by kernel_rfl) (by kernel_rfl) (by kernel_rfl) (fun _ _ _ h => h) (Or.inl ⟨by rfl, ?_⟩) (by assumption) ?_
      rotate_left
      · (intro w hSw; (try dsimp only at hSw); go_simp; (try with_reducible rfl))
      try simp only [Act.put, List.getElem_toArray, List.getElem_cons_zero, List.getElem_cons_succ, List.setIfInBounds_toArray, List.set_cons_zero, List.set_cons_succ]
      refine wpAnyH_take (i := 4) (v := ?_) rfl (by kernel_rfl) (by kernel_rfl) (by kernel_rfl) (fun _ _ _ h => h) (Or.inl ⟨by rfl, ?_⟩) (by assumption) ?_
      rotate_left
      · (intro w hSw; (try dsimp only at hSw); go_simp; (try with_reducible rfl))
      try simp only [Act.put, List.getElem_toArray, List.getElem_cons_zero, List.getElem_cons_succ, List.setIfInBounds_toArray, List.set_cons_zero, List.set_cons_succ]
      refine wpAnyH_take (i := 5) (v := ?_) rfl (by kernel_rfl) (by kernel_rfl) (by kernel_rfl) (fun _ _ _ h => h) (Or.inl ⟨by rfl, ?_⟩) (by assumption) ?_
      rotate_left
      · (intro w hSw; (try dsimp only at hSw); go_simp; (try with_reducible rfl))
      try simp only [Act.put, List.getElem_toArray, List.getElem_cons_zero, List.getElem_cons_succ, List.setIfInBounds_toArray, List.set_cons_zero, List.set_cons_succ]
      refine wpAnyH_take (i := 6) (v := ?_) rfl (by kernel_rfl) (by kernel_rfl) (by kernel_rfl) (fun _ _ _ h => h) (Or.inl ⟨by rfl, ?_⟩) (by assumption) ?_
      rotate_left
      · (intro w hSw; (try dsimp only at hSw); go_simp; (try with_reducible rfl))
      try simp only [Act.put, List.getElem_toArray, List.getElem_cons_zero, List.getElem_cons_succ, List.setIfInBounds_toArray, List.set_cons_zero, List.set_cons_succ]
      refine wpAnyH_take (i := 7) (v := ?_) rfl (by kernel_rfl) (by kernel_rfl) (by kernel_rfl) (fun _ _ _ h => h) (Or.inl ⟨by rfl, ?_⟩) (by assumption) ?_
      rotate_left
      · (intro w hSw; (try dsimp only at hSw); go_simp; (try with_reducible rfl))
      try simp only [Act.put, List.getElem_toArray, List.getElem_cons_zero, List.getElem_cons_succ, List.setIfInBounds_toArray, List.set_cons_zero, List.set_cons_succ]
      refine wpAnyH_take (i := 9) (v := ?_) rfl (by kernel_rfl) (by kernel_rfl) (by kernel_rfl) (fun _ _ _ h => h) (Or.inl ⟨by rfl, ?_⟩) (by assumption) ?_
      rotate_left
      · (intro w hSw; (try dsimp only at hSw); go_simp; (try with_reducible rfl))
      try simp only [Act.put, List.getElem_toArray, List.getElem_cons_zero, List.getElem_cons_succ, List.setIfInBounds_toArray, List.set_cons_zero, List.set_cons_succ]
      refine wpAnyH_ready (rs := [8]) (by kernel_rfl) (by simp) ?_
      refine AllReadyH.cons rfl (fun KQ hKQ => ?_) AllReadyH.nil
      go_simp
      (go_at_call 19; (with_reducible refine (ZOf_any f1g1w7_1 n (fits_lo HFT.out) (fits_hi HFT.out)).mono ?_); rintro e f1g1w7_2 ⟨vz, rfl, zo, gf1g1w7_2⟩; have hGf1g1w7_2 := grown_trans hGf1g1w7_1 gf1g1w7_2; have hSf1g1w7_2 := (And.intro (hGf1g1w7_2.cell Ca0 (by simp)) (And.intro (hGf1g1w7_2.cell Ca1 (by simp)) (And.intro (hGf1g1w7_2.cell Cx0 (by simp)) (hGf1g1w7_2.cell Cx1 (by simp))))); clear gf1g1w7_2)
      (try go_wp2_with fail)
      refine hKQ.out _ _ (by exact hSf1g1w7_2) (fun hHeld => ?_)
      clear hKQ KQ
      try simp only [Act.put, List.getElem_toArray, List.getElem_cons_zero, List.getElem_cons_succ, List.setIfInBounds_toArray, List.set_cons_zero, List.set_cons_succ]
      refine wpAnyH_ready (rs := [10]) (by kernel_rfl) (by simp) ?_
      refine AllReadyH.cons rfl (fun KQ hKQ => ?_) AllReadyH.nil
      go_simp
      (go_at_call 18; (with_reducible refine (same_any f1g1w7_2 _ _ n 216 zo (rx.kept hGf1g1w7_2) (by omega) HB.out).mono ?_); rintro e f1g1w7_3 ⟨rfl, gf1g1w7_3⟩; have hGf1g1w7_3 := grown_trans hGf1g1w7_2 gf1g1w7_3; replace zo := zo.kept gf1g1w7_3; have hSf1g1w7_3 := (And.intro (hGf1g1w7_3.cell Ca0 (by simp)) (And.intro (hGf1g1w7_3.cell Ca1 (by simp)) (And.intro (hGf1g1w7_3.cell Cx0 (by simp)) (hGf1g1w7_3.cell Cx1 (by simp))))); clear gf1g1w7_3)
      (try go_wp2_with fail)
      refine hKQ.out _ _ (by exact hSf1g1w7_3) (fun hHeld => ?_)
      clear hKQ KQ
      try simp only [Act.put, List.getElem_toArray, List.getElem_cons_zero, List.getElem_cons_succ, List.setIfInBounds_toArray, List.set_cons_zero, List.set_cons_succ]
      refine wpAnyH_take (i := 11) (v := ?_) rfl (by kernel_rfl) (by kernel_rfl) (by kernel_rfl) (fun _ _ _ h => h) (Or.inl ⟨by rfl, ?_⟩) (by assumption) ?_
      rotate_left
      · (intro w hSw; (try dsimp only at hSw); go_simp; (try with_reducible rfl))
      try simp only [Act.put, List.getElem_toArray, List.getElem_cons_zero, List.getElem_cons_succ, List.setIfInBounds_toArray, List.set_cons_zero, List.set_cons_succ]
      refine wpAnyH_take (i := 12) (v := ?_) rfl (by kernel_rfl) (by kernel_rfl) (by kernel_rfl) (fun _ _ _ h => h) (Or.inl ⟨by rfl, ?_⟩) (by assumption) ?_
      rotate_left
      · (intro w hSw; (try dsimp only at hSw); go_simp; (try with_reducible rfl))
      try simp only [Act.put, List.getElem_toArray, List.getElem_cons_zero, List.getElem_cons_succ, List.setIfInBounds_toArray, List.set_cons_zero, List.set_cons_succ]
      refine wpAnyH_take (i := 13) (v := ?_) rfl (by kernel_rfl) (by kernel_rfl) (by kernel_rfl) (fun _ _ _ h => h) (Or.inl ⟨by rfl, ?_⟩) (by assumption) ?_
      rotate_left
      · (intro w hSw; (try dsimp only at hSw); go_simp; (try with_reducible rfl))
      try simp only [Act.put, List.getElem_toArray, List.getElem_cons_zero, List.getElem_cons_succ, List.setIfInBounds_toArray, List.set_cons_zero, List.set_cons_succ]
      refine wpAnyH_take (i := 14) (v := ?_) rfl (by kernel_rfl) (by kernel_rfl) (by kernel_rfl) (fun _ _ _ h => h) (Or.inl ⟨by rfl, ?_⟩) (by assumption) ?_
      rotate_left
      · (intro w hSw; (try dsimp only at hSw); go_simp; (try with_reducible rfl))
      try simp only [Act.put, List.getElem_toArray, List.getElem_cons_zero, List.getElem_cons_succ, List.setIfInBounds_toArray, List.set_cons_zero, List.set_cons_succ]
      refine wpAnyH_take (i := 15) (v := ?_) rfl (by kernel_rfl) (by kernel_rfl) (by kernel_rfl) (fun _ _ _ h => h) (Or.inl ⟨by rfl, ?_⟩) (by assumption) ?_
      rotate_left
      · (intro w hSw; (try dsimp only at hSw); go_simp; (try with_reducible rfl))
      try simp only [Act.put, List.getElem_toArray, List.getElem_cons_zero, List.getElem_cons_succ, List.setIfInBounds_toArray, List.set_cons_zero, List.set_cons_succ]
      refine wpAnyH_take (i := 16) (v := ?_) rfl (by kernel_rfl) (by kernel_rfl) (by kernel_rfl) (fun _ _ _ h => h) (Or.inl ⟨by rfl, ?_⟩) (by assumption) ?_
      rotate_left
      · (intro w hSw; (try dsimp only at hSw); go_simp; (try with_reducible rfl))
      try simp only [Act.put, List.getElem_toArray, List.getElem_cons_zero, List.getElem_cons_succ, List.setIfInBounds_toArray, List.set_cons_zero, List.set_cons_succ]
      refine wpAnyH_take (i := 17) (v := ?_) rfl (by kernel_rfl) (by kernel_rfl) (by kernel_rfl) (fun _ _ _ h => h) (Or.inl ⟨by rfl, ?_⟩) (by assumption) ?_
      rotate_left
      · (intro w hSw; (try dsimp only at hSw); go_simp; (try with_reducible rfl))
      try simp only [Act.put, List.getElem_toArray, List.getElem_cons_zero, List.getElem_cons_succ, List.setIfInBounds_toArray, List.set_cons_zero, List.set_cons_succ]
      refine wpAnyH_take (i := 18) (v := undef) rfl (by kernel_rfl) (by kernel_rfl) (by kernel_rfl) (fun _ _ _ h => h) (Or.inr ⟨by rfl, rfl⟩) (by assumption) ?_
      try simp only [Act.put, List.getElem_toArray, List.getElem_cons_zero, List.getElem_cons_succ, List.setIfInBounds_toArray, List.set_cons_zero, List.set_cons_succ]
      refine wpAnyH_take (i := 19) (v := undef) rfl (by kernel_rfl) (by kernel_rfl) (by kernel_rfl) (fun _ _ _ h => h) (Or.inr ⟨by rfl, rfl⟩) (by assumption) ?_
      try simp only [Act.put, List.getElem_toArray, List.getElem_cons_zero, List.getElem_cons_succ, List.setIfInBounds_toArray, List.set_cons_zero, List.set_cons_succ]
      refine wpAnyH_take (i := 20) (v := ?_) rfl (by kernel_rfl) (by kernel_rfl) (by kernel_rfl) (fun _ _ _ h => h) (Or.inl ⟨by rfl, ?_⟩) (by assumption) ?_
      rotate_left
      · (intro w hSw; (try dsimp only at hSw); go_simp; (try with_reducible rfl))
      try simp only [Act.put, List.getElem_toArray, List.getElem_cons_zero, List.getElem_cons_succ, List.setIfInBounds_toArray, List.set_cons_zero, List.set_cons_succ]
      refine wpAnyH_take (i := 21) (v := ?_) rfl (by kernel_rfl) (by kernel_rfl) (by kernel_rfl) (fun _ _ _ h => h) (Or.inl ⟨by rfl, ?_⟩) (by assumption) ?_
      rotate_left
      · (intro w hSw; (try dsimp only at hSw); go_simp; (try with_reducible rfl))
      try simp only [Act.put, List.getElem_toArray, List.getElem_cons_zero, List.getElem_cons_succ, List.setIfInBounds_toArray, List.set_cons_zero, List.set_cons_succ]
      refine wpAnyH_done (by kernel_rfl) ?_ _
      replace Ba := heap_kept hGf1g1w7_3 Ba
      replace Bx := heap_kept hGf1g1w7_3 Bx
      replace ia := ia.kept hGf1g1w7_3
      replace rx := rx.kept hGf1g1w7_3
      replace hG := grown_trans hG hGf1g1w7_3
      clear Ca0 Fa0 Ca1 Fa1 Cx0 Fx0 Cx1 Fx1
      obtain ⟨Ca0, Ca1, Fa0, Fa1⟩ := box_cells Ba
      obtain ⟨Cx0, Cx1, Fx0, Fx1⟩ := box_cells Bx
      go_wp2_with fail
      have mx : RefV f1g1w7_3 (.agg #[.slice sx lx cx]) n.natAbs := refv_of rx
      go_region_held3 (fun w' => w'.cell? ⟨af1w1, 0, none⟩ = some (.slice sa xa.length xa.length) ∧ w'.cell? ⟨af1w1, 1, none⟩ = some (.bool ba) ∧ w'.cell? ⟨af1w3, 0, none⟩ = some (.int .i64 gx) ∧ w'.cell? ⟨af1w3, 1, none⟩ = some (.slice sx lx cx))
        (first | assumption | exact ⟨Ca0, Ca1, Cx0, Cx1⟩ | go_keep)
        (first
          | (go_at_call 15; (with_reducible refine (NZText_any f1g1w7_3.drew _ n 216 (ia.kept (grown_drew (grown_refl _ _))) (by omega) HB.out).mono ?_); rintro e f1g1w8_1 ⟨x1', rfl, h1', gf1g1w8_1⟩; obtain rfl : x1' = s := ztext_uniq h1' HT2.out; have hGf1g1w8_1 := grown_pre f1g1w7_3 gf1g1w8_1 rfl rfl rfl rfl; have hSf1g1w8_1 := (And.intro (hGf1g1w8_1.cell Ca0 (by simp)) (And.intro (hGf1g1w8_1.cell Ca1 (by simp)) (And.intro (hGf1g1w8_1.cell Cx0 (by simp)) (hGf1g1w8_1.cell Cx1 (by simp))))); clear gf1g1w8_1)
          | (go_at_call 20; (with_reducible refine (Sign_any f1g1w8_1 _ n 216 (ia.kept hGf1g1w8_1) (by omega) HB.out).mono ?_); rintro e f1g1w8_2 ⟨rfl, gf1g1w8_2⟩; rw [← hx.out]; have hGf1g1w8_2 := grown_trans hGf1g1w8_1 gf1g1w8_2; have hSf1g1w8_2 := (And.intro (hGf1g1w8_2.cell Ca0 (by simp)) (And.intro (hGf1g1w8_2.cell Ca1 (by simp)) (And.intro (hGf1g1w8_2.cell Cx0 (by simp)) (hGf1g1w8_2.cell Cx1 (by simp))))); clear gf1g1w8_2)
          | (go_at_call 21; (with_reducible refine (Abs_any f1g1w8_2 _ n 216 (ia.kept hGf1g1w8_2) (by omega) HB.out).mono ?_); rintro e f1g1w8_3 ⟨vn1, rfl, na1, gf1g1w8_3⟩; have hGf1g1w8_3 := grown_trans hGf1g1w8_2 gf1g1w8_3; have hSf1g1w8_3 := (And.intro (hGf1g1w8_3.cell Ca0 (by simp)) (And.intro (hGf1g1w8_3.cell Ca1 (by simp)) (And.intro (hGf1g1w8_3.cell Cx0 (by simp)) (hGf1g1w8_3.cell Cx1 (by simp))))); clear gf1g1w8_3)
          | (go_at_call 22; (with_reducible refine (NText_any f1g1w8_3 _ n.natAbs 216 na1 (by omega) HB.out).mono ?_); rintro e f1g1w8_4 ⟨x2', rfl, hd2, hv2, gf1g1w8_4⟩; have hGf1g1w8_4 := grown_trans hGf1g1w8_3 gf1g1w8_4; replace na1 := na1.kept gf1g1w8_4; have hSf1g1w8_4 := (And.intro (hGf1g1w8_4.cell Ca0 (by simp)) (And.intro (hGf1g1w8_4.cell Ca1 (by simp)) (And.intro (hGf1g1w8_4.cell Cx0 (by simp)) (hGf1g1w8_4.cell Cx1 (by simp))))); clear gf1g1w8_4)
          | (go_at_call 23; (with_reducible refine (rtext_any f1g1w8_4 _ n.natAbs (mx.kept hGf1g1w8_4) (toD HB.out (by omega))).mono ?_); rintro e f1g1w8_5 ⟨x3', rfl, hd3, hv3, gf1g1w8_5⟩; obtain rfl : x3' = x2' := dec_uniq hd3 hd2 (hv3.trans hv2.symm); have hGf1g1w8_5 := grown_trans hGf1g1w8_4 gf1g1w8_5; replace na1 := na1.kept gf1g1w8_5; have hSf1g1w8_5 := (And.intro (hGf1g1w8_5.cell Ca0 (by simp)) (And.intro (hGf1g1w8_5.cell Ca1 (by simp)) (And.intro (hGf1g1w8_5.cell Cx0 (by simp)) (hGf1g1w8_5.cell Cx1 (by simp))))); clear gf1g1w8_5)
          | (go_at_call 21; (with_reducible refine (Abs_any f1g1w8_5 _ n 216 (ia.kept hGf1g1w8_5) (by omega) HB.out).mono ?_); rintro e f1g1w8_6 ⟨vn2, rfl, na2, gf1g1w8_6⟩; have hGf1g1w8_6 := grown_trans hGf1g1w8_5 gf1g1w8_6; replace na1 := na1.kept gf1g1w8_6; have hSf1g1w8_6 := (And.intro (hGf1g1w8_6.cell Ca0 (by simp)) (And.intro (hGf1g1w8_6.cell Ca1 (by simp)) (And.intro (hGf1g1w8_6.cell Cx0 (by simp)) (hGf1g1w8_6.cell Cx1 (by simp))))); clear gf1g1w8_6)
          | (go_at_call 24; (with_reducible refine (Big_any f1g1w8_6 _ n.natAbs 216 na2 (by omega) HB.out).mono ?_); rintro e f1g1w8_7 ⟨vb2, rfl, nb2, gf1g1w8_7⟩; have hGf1g1w8_7 := grown_trans hGf1g1w8_6 gf1g1w8_7; replace na1 := na1.kept gf1g1w8_7; replace na2 := na2.kept gf1g1w8_7; have hSf1g1w8_7 := (And.intro (hGf1g1w8_7.cell Ca0 (by simp)) (And.intro (hGf1g1w8_7.cell Ca1 (by simp)) (And.intro (hGf1g1w8_7.cell Cx0 (by simp)) (hGf1g1w8_7.cell Cx1 (by simp))))); clear gf1g1w8_7)
          | (go_at_call 25; (with_reducible refine (ZCmp_any f1g1w8_7 _ _ (n.natAbs : Int) n 216 nb2 (ia.kept hGf1g1w8_7) (by omega) (by rw [Int.natAbs_natCast]; exact HB.out) HB.out).mono ?_); rintro e f1g1w8_8 ⟨rfl, gf1g1w8_8⟩; rw [HC8.out]; have hGf1g1w8_8 := grown_trans hGf1g1w8_7 gf1g1w8_8; replace na1 := na1.kept gf1g1w8_8; replace na2 := na2.kept gf1g1w8_8; replace nb2 := nb2.kept gf1g1w8_8; have hSf1g1w8_8 := (And.intro (hGf1g1w8_8.cell Ca0 (by simp)) (And.intro (hGf1g1w8_8.cell Ca1 (by simp)) (And.intro (hGf1g1w8_8.cell Cx0 (by simp)) (hGf1g1w8_8.cell Cx1 (by simp))))); clear gf1g1w8_8))
      replace Ba := heap_kept hGf1g1w8_8 Ba
      replace Bx := heap_kept hGf1g1w8_8 Bx
      replace ia := ia.kept hGf1g1w8_8
      replace rx := rx.kept hGf1g1w8_8
      replace mx := mx.kept hGf1g1w8_8
      replace hG := grown_trans hG hGf1g1w8_8
      clear Ca0 Fa0 Ca1 Fa1 Cx0 Fx0 Cx1 Fx1
      obtain ⟨Ca0, Ca1, Fa0, Fa1⟩ := box_cells Ba
      obtain ⟨Cx0, Cx1, Fx0, Fx1⟩ := box_cells Bx
      go_wp2_with fail
      go_ret
      exact ⟨by first | rfl | simp, hG⟩
    · skip
      refine wp_region_held_drew (S := fun w' => w'.cell? ⟨af1w1, 0, none⟩ = some (.slice sa xa.length xa.length) ∧ w'.cell? ⟨af1w1, 1, none⟩ = some (.bool ba) ∧ w'.cell? ⟨af1w3, 0, none⟩ = some (.int .i64 gx) ∧ w'.cell? ⟨af1w3, 1, none⟩ = some (.slice sx lx cx)) (by kernel_rfl) (by exact ⟨Ca0, Ca1, Cx0, Cx1⟩) (fun hHeld => ?_)
      refine wpAnyH_take (i := 0) (v := ?_) rfl (by kernel_rfl) (by kernel_rfl) (by kernel_rfl) (fun _ _ _ h => h) (Or.inl ⟨by rfl, ?_⟩) (by assumption) ?_
      rotate_left
      · (intro w hSw; (try dsimp only at hSw); go_simp; (try with_reducible rfl))
      try simp only [Act.put, List.getElem_toArray, List.getElem_cons_zero, List.getElem_cons_succ, List.setIfInBounds_toArray, List.set_cons_zero, List.set_cons_succ]
      refine wpAnyH_take (i := 1) (v := ?_) rfl (by kernel_rfl) (by kernel_rfl) (by kernel_rfl) (fun _ _ _ h => h) (Or.inl ⟨by rfl, ?_⟩) (by assumption) ?_
      rotate_left
      · (intro w hSw; (try dsimp only at hSw); go_simp; (try with_reducible rfl))
      try simp only [Act.put, List.getElem_toArray, List.getElem_cons_zero, List.getElem_cons_succ, List.setIfInBounds_toArray, List.set_cons_zero, List.set_cons_succ]
      refine wpAnyH_ready (rs := [2]) (by kernel_rfl) (by simp) ?_
      refine AllReadyH.cons rfl (fun KQ hKQ => ?_) AllReadyH.nil
      go_simp
      (go_at_call 17; (with_reducible refine (rZSmall_any f1w6.drew _ n (rx.kept (grown_drew (grown_refl _ _))) (toD HB.out (by omega))).mono ?_); rintro e f1g0w7_1 ⟨rfl, gf1g0w7_1⟩; rw [HNO.out.2]; have hGf1g0w7_1 := grown_pre f1w6 gf1g0w7_1 rfl rfl rfl rfl; have hSf1g0w7_1 := (And.intro (hGf1g0w7_1.cell Ca0 (by simp)) (And.intro (hGf1g0w7_1.cell Ca1 (by simp)) (And.intro (hGf1g0w7_1.cell Cx0 (by simp)) (hGf1g0w7_1.cell Cx1 (by simp))))); clear gf1g0w7_1)
      (try go_wp2_with fail)
      refine hKQ.out _ _ (by exact hSf1g0w7_1) (fun hHeld => ?_)
      clear hKQ KQ
      try simp only [Act.put, List.getElem_toArray, List.getElem_cons_zero, List.getElem_cons_succ, List.setIfInBounds_toArray, List.set_cons_zero, List.set_cons_succ]
      refine wpAnyH_take (i := 3) (v := ?_) rfl (by kernel_rfl) (by kernel_rfl) (by kernel_rfl) (fun _ _ _ h => h) (Or.inl ⟨by rfl, ?_⟩) (by assumption) ?_
      rotate_left
      · (intro w hSw; (try dsimp only at hSw); go_simp; (try with_reducible rfl))
      try simp only [Act.put, List.getElem_toArray, List.getElem_cons_zero, List.getElem_cons_succ, List.setIfInBounds_toArray, List.set_cons_zero, List.set_cons_succ]
      refine wpAnyH_take (i := 4) (v := ?_) rfl (by kernel_rfl) (by kernel_rfl) (by kernel_rfl) (fun _ _ _ h => h) (Or.inl ⟨by rfl, ?_⟩) (by assumption) ?_
      rotate_left
      · (intro w hSw; (try dsimp only at hSw); go_simp; (try with_reducible rfl))
      try simp only [Act.put, List.getElem_toArray, List.getElem_cons_zero, List.getElem_cons_succ, List.setIfInBounds_toArray, List.set_cons_zero, List.set_cons_succ]
      refine wpAnyH_take (i := 5) (v := ?_) rfl (by kernel_rfl) (by kernel_rfl) (by kernel_rfl) (fun _ _ _ h => h) (Or.inl ⟨by rfl, ?_⟩) (by assumption) ?_
      rotate_left
      · (intro w hSw; (try dsimp only at hSw); go_simp; (try with_reducible rfl))
      try simp only [Act.put, List.getElem_toArray, List.getElem_cons_zero, List.getElem_cons_succ, List.setIfInBounds_toArray, List.set_cons_zero, List.set_cons_succ]
      refine wpAnyH_take (i := 6) (v := ?_) rfl (by kernel_rfl) (by kernel_rfl) (by kernel_rfl) (fun _ _ _ h => h) (Or.inl ⟨by rfl, ?_⟩) (by assumption) ?_
      rotate_left
      · (intro w hSw; (try dsimp only at hSw); go_simp; (try with_reducible rfl))
      try simp only [Act.put, List.getElem_toArray, List.getElem_cons_zero, List.getElem_cons_succ, List.setIfInBounds_toArray, List.set_cons_zero, List.set_cons_succ]
      refine wpAnyH_take (i := 7) (v := ?_) rfl (by kernel_rfl) (by kernel_rfl) (by kernel_rfl) (fun _ _ _ h => h) (Or.inl ⟨by rfl, ?_⟩) (by assumption) ?_
      rotate_left
      · (intro w hSw; (try dsimp only at hSw); go_simp; (try with_reducible rfl))
      try simp only [Act.put, List.getElem_toArray, List.getElem_cons_zero, List.getElem_cons_succ, List.setIfInBounds_toArray, List.set_cons_zero, List.set_cons_succ]
      refine wpAnyH_take (i := 9) (v := ?_) rfl (by kernel_rfl) (by kernel_rfl) (by kernel_rfl) (fun _ _ _ h => h) (Or.inl ⟨by rfl, ?_⟩) (by assumption) ?_
      rotate_left
      · (intro w hSw; (try dsimp only at hSw); go_simp; (try with_reducible rfl))
      try simp only [Act.put, List.getElem_toArray, List.getElem_cons_zero, List.getElem_cons_succ, List.setIfInBounds_toArray, List.set_cons_zero, List.set_cons_succ]
      refine wpAnyH_ready (rs := [8]) (by kernel_rfl) (by simp) ?_
      refine AllReadyH.cons rfl (fun KQ hKQ => ?_) AllReadyH.nil
      go_simp
      (go_at_call 19; (with_reducible refine (ZOf_any f1g0w7_1 n (fits_lo HFT.out) (fits_hi HFT.out)).mono ?_); rintro e f1g0w7_2 ⟨vz, rfl, zo, gf1g0w7_2⟩; have hGf1g0w7_2 := grown_trans hGf1g0w7_1 gf1g0w7_2; have hSf1g0w7_2 := (And.intro (hGf1g0w7_2.cell Ca0 (by simp)) (And.intro (hGf1g0w7_2.cell Ca1 (by simp)) (And.intro (hGf1g0w7_2.cell Cx0 (by simp)) (hGf1g0w7_2.cell Cx1 (by simp))))); clear gf1g0w7_2)
      (try go_wp2_with fail)
      refine hKQ.out _ _ (by exact hSf1g0w7_2) (fun hHeld => ?_)
      clear hKQ KQ
      try simp only [Act.put, List.getElem_toArray, List.getElem_cons_zero, List.getElem_cons_succ, List.setIfInBounds_toArray, List.set_cons_zero, List.set_cons_succ]
      refine wpAnyH_ready (rs := [10]) (by kernel_rfl) (by simp) ?_
      refine AllReadyH.cons rfl (fun KQ hKQ => ?_) AllReadyH.nil
      go_simp
      (go_at_call 18; (with_reducible refine (same_any f1g0w7_2 _ _ n 216 zo (rx.kept hGf1g0w7_2) (by omega) HB.out).mono ?_); rintro e f1g0w7_3 ⟨rfl, gf1g0w7_3⟩; have hGf1g0w7_3 := grown_trans hGf1g0w7_2 gf1g0w7_3; replace zo := zo.kept gf1g0w7_3; have hSf1g0w7_3 := (And.intro (hGf1g0w7_3.cell Ca0 (by simp)) (And.intro (hGf1g0w7_3.cell Ca1 (by simp)) (And.intro (hGf1g0w7_3.cell Cx0 (by simp)) (hGf1g0w7_3.cell Cx1 (by simp))))); clear gf1g0w7_3)
      (try go_wp2_with fail)
      refine hKQ.out _ _ (by exact hSf1g0w7_3) (fun hHeld => ?_)
      clear hKQ KQ
      try simp only [Act.put, List.getElem_toArray, List.getElem_cons_zero, List.getElem_cons_succ, List.setIfInBounds_toArray, List.set_cons_zero, List.set_cons_succ]
      refine wpAnyH_take (i := 11) (v := ?_) rfl (by kernel_rfl) (by kernel_rfl) (by kernel_rfl) (fun _ _ _ h => h) (Or.inl ⟨by rfl, ?_⟩) (by assumption) ?_
      rotate_left
      · (intro w hSw; (try dsimp only at hSw); go_simp; (try with_reducible rfl))
      try simp only [Act.put, List.getElem_toArray, List.getElem_cons_zero, List.getElem_cons_succ, List.setIfInBounds_toArray, List.set_cons_zero, List.set_cons_succ]
      refine wpAnyH_take (i := 12) (v := ?_) rfl (by kernel_rfl) (by kernel_rfl) (by kernel_rfl) (fun _ _ _ h => h) (Or.inl ⟨by rfl, ?_⟩) (by assumption) ?_
      rotate_left
      · (intro w hSw; (try dsimp only at hSw); go_simp; (try with_reducible rfl))
      try simp only [Act.put, List.getElem_toArray, List.getElem_cons_zero, List.getElem_cons_succ, List.setIfInBounds_toArray, List.set_cons_zero, List.set_cons_succ]
      refine wpAnyH_take (i := 13) (v := ?_) rfl (by kernel_rfl) (by kernel_rfl) (by kernel_rfl) (fun _ _ _ h => h) (Or.inl ⟨by rfl, ?_⟩) (by assumption) ?_
      rotate_left
      · (intro w hSw; (try dsimp only at hSw); go_simp; (try with_reducible rfl))
      try simp only [Act.put, List.getElem_toArray, List.getElem_cons_zero, List.getElem_cons_succ, List.setIfInBounds_toArray, List.set_cons_zero, List.set_cons_succ]
      refine wpAnyH_take (i := 14) (v := ?_) rfl (by kernel_rfl) (by kernel_rfl) (by kernel_rfl) (fun _ _ _ h => h) (Or.inl ⟨by rfl, ?_⟩) (by assumption) ?_
      rotate_left
      · (intro w hSw; (try dsimp only at hSw); go_simp; (try with_reducible rfl))
      try simp only [Act.put, List.getElem_toArray, List.getElem_cons_zero, List.getElem_cons_succ, List.setIfInBounds_toArray, List.set_cons_zero, List.set_cons_succ]
      refine wpAnyH_take (i := 15) (v := ?_) rfl (by kernel_rfl) (by kernel_rfl) (by kernel_rfl) (fun _ _ _ h => h) (Or.inl ⟨by rfl, ?_⟩) (by assumption) ?_
      rotate_left
      · (intro w hSw; (try dsimp only at hSw); go_simp; (try with_reducible rfl))
      try simp only [Act.put, List.getElem_toArray, List.getElem_cons_zero, List.getElem_cons_succ, List.setIfInBounds_toArray, List.set_cons_zero, List.set_cons_succ]
      refine wpAnyH_take (i := 16) (v := ?_) rfl (by kernel_rfl) (by kernel_rfl) (by kernel_rfl) (fun _ _ _ h => h) (Or.inl ⟨by rfl, ?_⟩) (by assumption) ?_
      rotate_left
      · (intro w hSw; (try dsimp only at hSw); go_simp; (try with_reducible rfl))
      try simp only [Act.put, List.getElem_toArray, List.getElem_cons_zero, List.getElem_cons_succ, List.setIfInBounds_toArray, List.set_cons_zero, List.set_cons_succ]
      refine wpAnyH_take (i := 17) (v := ?_) rfl (by kernel_rfl) (by kernel_rfl) (by kernel_rfl) (fun _ _ _ h => h) (Or.inl ⟨by rfl, ?_⟩) (by assumption) ?_
      rotate_left
      · (intro w hSw; (try dsimp only at hSw); go_simp; (try with_reducible rfl))
      try simp only [Act.put, List.getElem_toArray, List.getElem_cons_zero, List.getElem_cons_succ, List.setIfInBounds_toArray, List.set_cons_zero, List.set_cons_succ]
      refine wpAnyH_take (i := 18) (v := undef) rfl (by kernel_rfl) (by kernel_rfl) (by kernel_rfl) (fun _ _ _ h => h) (Or.inr ⟨by rfl, rfl⟩) (by assumption) ?_
      try simp only [Act.put, List.getElem_toArray, List.getElem_cons_zero, List.getElem_cons_succ, List.setIfInBounds_toArray, List.set_cons_zero, List.set_cons_succ]
      refine wpAnyH_take (i := 19) (v := undef) rfl (by kernel_rfl) (by kernel_rfl) (by kernel_rfl) (fun _ _ _ h => h) (Or.inr ⟨by rfl, rfl⟩) (by assumption) ?_
      try simp only [Act.put, List.getElem_toArray, List.getElem_cons_zero, List.getElem_cons_succ, List.setIfInBounds_toArray, List.set_cons_zero, List.set_cons_succ]
      refine wpAnyH_take (i := 20) (v := ?_) rfl (by kernel_rfl) (by kernel_rfl) (by kernel_rfl) (fun _ _ _ h => h) (Or.inl ⟨by rfl, ?_⟩) (by assumption) ?_
      rotate_left
      · (intro w hSw; (try dsimp only at hSw); go_simp; (try with_reducible rfl))
      try simp only [Act.put, List.getElem_toArray, List.getElem_cons_zero, List.getElem_cons_succ, List.setIfInBounds_toArray, List.set_cons_zero, List.set_cons_succ]
      refine wpAnyH_take (i := 21) (v := ?_) rfl (by kernel_rfl) (by kernel_rfl) (by kernel_rfl) (fun _ _ _ h => h) (Or.inl ⟨by rfl, ?_⟩) (by assumption) ?_
      rotate_left
      · (intro w hSw; (try dsimp only at hSw); go_simp; (try with_reducible rfl))
      try simp only [Act.put, List.getElem_toArray, List.getElem_cons_zero, List.getElem_cons_succ, List.setIfInBounds_toArray, List.set_cons_zero, List.set_cons_succ]
      refine wpAnyH_done (by kernel_rfl) ?_ _
      replace Ba := heap_kept hGf1g0w7_3 Ba
      replace Bx := heap_kept hGf1g0w7_3 Bx
      replace ia := ia.kept hGf1g0w7_3
      replace rx := rx.kept hGf1g0w7_3
      replace hG := grown_trans hG hGf1g0w7_3
      clear Ca0 Fa0 Ca1 Fa1 Cx0 Fx0 Cx1 Fx1
      obtain ⟨Ca0, Ca1, Fa0, Fa1⟩ := box_cells Ba
      obtain ⟨Cx0, Cx1, Fx0, Fx1⟩ := box_cells Bx
      go_wp2_with fail
      have mx : RefV f1g0w7_3 (.agg #[.slice sx lx cx]) n.natAbs := refv_of rx
      go_region_held3 (fun w' => w'.cell? ⟨af1w1, 0, none⟩ = some (.slice sa xa.length xa.length) ∧ w'.cell? ⟨af1w1, 1, none⟩ = some (.bool ba) ∧ w'.cell? ⟨af1w3, 0, none⟩ = some (.int .i64 gx) ∧ w'.cell? ⟨af1w3, 1, none⟩ = some (.slice sx lx cx))
        (first | assumption | exact ⟨Ca0, Ca1, Cx0, Cx1⟩ | go_keep)
        (first
          | (go_at_call 15; (with_reducible refine (NZText_any f1g0w7_3.drew _ n 216 (ia.kept (grown_drew (grown_refl _ _))) (by omega) HB.out).mono ?_); rintro e f1g0w8_1 ⟨x1', rfl, h1', gf1g0w8_1⟩; obtain rfl : x1' = s := ztext_uniq h1' HT2.out; have hGf1g0w8_1 := grown_pre f1g0w7_3 gf1g0w8_1 rfl rfl rfl rfl; have hSf1g0w8_1 := (And.intro (hGf1g0w8_1.cell Ca0 (by simp)) (And.intro (hGf1g0w8_1.cell Ca1 (by simp)) (And.intro (hGf1g0w8_1.cell Cx0 (by simp)) (hGf1g0w8_1.cell Cx1 (by simp))))); clear gf1g0w8_1)
          | (go_at_call 20; (with_reducible refine (Sign_any f1g0w8_1 _ n 216 (ia.kept hGf1g0w8_1) (by omega) HB.out).mono ?_); rintro e f1g0w8_2 ⟨rfl, gf1g0w8_2⟩; rw [← hx.out]; have hGf1g0w8_2 := grown_trans hGf1g0w8_1 gf1g0w8_2; have hSf1g0w8_2 := (And.intro (hGf1g0w8_2.cell Ca0 (by simp)) (And.intro (hGf1g0w8_2.cell Ca1 (by simp)) (And.intro (hGf1g0w8_2.cell Cx0 (by simp)) (hGf1g0w8_2.cell Cx1 (by simp))))); clear gf1g0w8_2)
          | (go_at_call 21; (with_reducible refine (Abs_any f1g0w8_2 _ n 216 (ia.kept hGf1g0w8_2) (by omega) HB.out).mono ?_); rintro e f1g0w8_3 ⟨vn1, rfl, na1, gf1g0w8_3⟩; have hGf1g0w8_3 := grown_trans hGf1g0w8_2 gf1g0w8_3; have hSf1g0w8_3 := (And.intro (hGf1g0w8_3.cell Ca0 (by simp)) (And.intro (hGf1g0w8_3.cell Ca1 (by simp)) (And.intro (hGf1g0w8_3.cell Cx0 (by simp)) (hGf1g0w8_3.cell Cx1 (by simp))))); clear gf1g0w8_3)
          | (go_at_call 22; (with_reducible refine (NText_any f1g0w8_3 _ n.natAbs 216 na1 (by omega) HB.out).mono ?_); rintro e f1g0w8_4 ⟨x2', rfl, hd2, hv2, gf1g0w8_4⟩; have hGf1g0w8_4 := grown_trans hGf1g0w8_3 gf1g0w8_4; replace na1 := na1.kept gf1g0w8_4; have hSf1g0w8_4 := (And.intro (hGf1g0w8_4.cell Ca0 (by simp)) (And.intro (hGf1g0w8_4.cell Ca1 (by simp)) (And.intro (hGf1g0w8_4.cell Cx0 (by simp)) (hGf1g0w8_4.cell Cx1 (by simp))))); clear gf1g0w8_4)
          | (go_at_call 23; (with_reducible refine (rtext_any f1g0w8_4 _ n.natAbs (mx.kept hGf1g0w8_4) (toD HB.out (by omega))).mono ?_); rintro e f1g0w8_5 ⟨x3', rfl, hd3, hv3, gf1g0w8_5⟩; obtain rfl : x3' = x2' := dec_uniq hd3 hd2 (hv3.trans hv2.symm); have hGf1g0w8_5 := grown_trans hGf1g0w8_4 gf1g0w8_5; replace na1 := na1.kept gf1g0w8_5; have hSf1g0w8_5 := (And.intro (hGf1g0w8_5.cell Ca0 (by simp)) (And.intro (hGf1g0w8_5.cell Ca1 (by simp)) (And.intro (hGf1g0w8_5.cell Cx0 (by simp)) (hGf1g0w8_5.cell Cx1 (by simp))))); clear gf1g0w8_5)
          | (go_at_call 21; (with_reducible refine (Abs_any f1g0w8_5 _ n 216 (ia.kept hGf1g0w8_5) (by omega) HB.out).mono ?_); rintro e f1g0w8_6 ⟨vn2, rfl, na2, gf1g0w8_6⟩; have hGf1g0w8_6 := grown_trans hGf1g0w8_5 gf1g0w8_6; replace na1 := na1.kept gf1g0w8_6; have hSf1g0w8_6 := (And.intro (hGf1g0w8_6.cell Ca0 (by simp)) (And.intro (hGf1g0w8_6.cell Ca1 (by simp)) (And.intro (hGf1g0w8_6.cell Cx0 (by simp)) (hGf1g0w8_6.cell Cx1 (by simp))))); clear gf1g0w8_6)
          | (go_at_call 24; (with_reducible refine (Big_any f1g0w8_6 _ n.natAbs 216 na2 (by omega) HB.out).mono ?_); rintro e f1g0w8_7 ⟨vb2, rfl, nb2, gf1g0w8_7⟩; have hGf1g0w8_7 := grown_trans hGf1g0w8_6 gf1g0w8_7; replace na1 := na1.kept gf1g0w8_7; replace na2 := na2.kept gf1g0w8_7; have hSf1g0w8_7 := (And.intro (hGf1g0w8_7.cell Ca0 (by simp)) (And.intro (hGf1g0w8_7.cell Ca1 (by simp)) (And.intro (hGf1g0w8_7.cell Cx0 (by simp)) (hGf1g0w8_7.cell Cx1 (by simp))))); clear gf1g0w8_7)
          | (go_at_call 25; (with_reducible refine (ZCmp_any f1g0w8_7 _ _ (n.natAbs : Int) n 216 nb2 (ia.kept hGf1g0w8_7) (by omega) (by rw [Int.natAbs_natCast]; exact HB.out) HB.out).mono ?_); rintro e f1g0w8_8 ⟨rfl, gf1g0w8_8⟩; rw [HC8.out]; have hGf1g0w8_8 := grown_trans hGf1g0w8_7 gf1g0w8_8; replace na1 := na1.kept gf1g0w8_8; replace na2 := na2.kept gf1g0w8_8; replace nb2 := nb2.kept gf1g0w8_8; have hSf1g0w8_8 := (And.intro (hGf1g0w8_8.cell Ca0 (by simp)) (And.intro (hGf1g0w8_8.cell Ca1 (by simp)) (And.intro (hGf1g0w8_8.cell Cx0 (by simp)) (hGf1g0w8_8.cell Cx1 (by simp))))); clear gf1g0w8_8))
      replace Ba := heap_kept hGf1g0w8_8 Ba
      replace Bx := heap_kept hGf1g0w8_8 Bx
      replace ia := ia.kept hGf1g0w8_8
      replace rx := rx.kept hGf1g0w8_8
      replace mx := mx.kept hGf1g0w8_8
      replace hG := grown_trans hG hGf1g0w8_8
      clear Ca0 Fa0 Ca1 Fa1 Cx0 Fx0 Cx1 Fx1
      obtain ⟨Ca0, Ca1, Fa0, Fa1⟩ := box_cells Ba
      obtain ⟨Cx0, Cx1, Fx0, Fx1⟩ := box_cells Bx
      go_wp2_with fail
      go_ret
      exact ⟨by first | rfl | simp, hG⟩
  · skip
    go_enter Try.func3, Try.ntmps3
    go_wp2_with fail
    refine (P1.out w).mono ?_
    rintro e f0w1 ⟨_, rfl, ⟨sa, xa, ba, rfl, ha, va, ta⟩, gf0w1⟩
    have ia : IntV f0w1 (.agg #[.slice sa xa.length xa.length, .bool ba]) (z) := ⟨sa, xa, ba, rfl, ha, va, ta⟩
    replace hG := grown_trans hG gf0w1
    clear gf0w1
    clear ha va ta
    have gbf0w1 := (World.grownBy_alloc f0w1 (.cells #[.slice sa xa.length xa.length, .bool ba] 26) none)
    have Ba := (heap_new f0w1 (.cells #[.slice sa xa.length xa.length, .bool ba] 26) (f0w1.heap.size) rfl)
    have hzf0w1 : Hid (w.heap.size ≤ f0w1.heap.size) := Lib.hid hG.size
    replace ia := ia.kept gbf0w1
    replace hG := grown_trans hG gbf0w1
    clear gbf0w1
    obtain ⟨Ca0, Ca1, Fa0, Fa1⟩ := box_cells Ba
    go_wp2_with fail
    generalize (f0w1.alloc (.cells #[.slice sa xa.length xa.length, .bool ba] 26)) = f0w2 at *
    generalize f0w1.heap.size = af0w1 at *
    replace hzf0w1 := hzf0w1.out
    clear Ca0 Fa0 Ca1 Fa1
    refine (P2.out f0w2).mono ?_
    rintro e f0w3 ⟨_, rfl, ⟨gx, sx, lx, cx, rfl, hx, mx⟩, gf0w3⟩
    have rx : RIntV f0w3 (.agg #[.int .i64 gx, .slice sx lx cx]) (z) := ⟨gx, sx, lx, cx, rfl, hx, mx⟩
    replace Ba := heap_kept gf0w3 Ba
    replace ia := ia.kept gf0w3
    replace hG := grown_trans hG gf0w3
    clear gf0w3
    clear mx
    obtain ⟨Ca0, Ca1, Fa0, Fa1⟩ := box_cells Ba
    have gbf0w3 := (World.grownBy_alloc f0w3 (.cells #[.int .i64 gx, .slice sx lx cx] 34) none)
    have Bx := (heap_new f0w3 (.cells #[.int .i64 gx, .slice sx lx cx] 34) (f0w3.heap.size) rfl)
    have hzf0w3 : Hid (w.heap.size ≤ f0w3.heap.size) := Lib.hid hG.size
    have hlaf0w3 : Hid (af0w1 < f0w3.heap.size) := Lib.hid (Array.getElem?_eq_some_iff.1 Ba).1
    clear Ca0 Fa0 Ca1 Fa1
    replace Ba := heap_kept gbf0w3 Ba
    replace ia := ia.kept gbf0w3
    replace rx := rx.kept gbf0w3
    replace hG := grown_trans hG gbf0w3
    clear gbf0w3
    obtain ⟨Ca0, Ca1, Fa0, Fa1⟩ := box_cells Ba
    obtain ⟨Cx0, Cx1, Fx0, Fx1⟩ := box_cells Bx
    go_wp2_with fail
    generalize (f0w3.alloc (.cells #[.int .i64 gx, .slice sx lx cx] 34)) = f0w4 at *
    generalize f0w3.heap.size = af0w3 at *
    replace hzf0w3 := hzf0w3.out
    replace hlaf0w3 := hlaf0w3.out
    clear Ca0 Fa0 Ca1 Fa1 Cx0 Fx0 Cx1 Fx1
    refine (known_any f0w4).mono ?_
    rintro e f0w5 ⟨rfl, gf0w5⟩
    replace Ba := heap_kept gf0w5 Ba
    replace Bx := heap_kept gf0w5 Bx
    replace ia := ia.kept gf0w5
    replace rx := rx.kept gf0w5
    replace hG := grown_trans hG gf0w5
    clear gf0w5
    obtain ⟨Ca0, Ca1, Fa0, Fa1⟩ := box_cells Ba
    obtain ⟨Cx0, Cx1, Fx0, Fx1⟩ := box_cells Bx
    go_wp2_with fail
    clear Ca0 Fa0 Ca1 Fa1 Cx0 Fx0 Cx1 Fx1
    refine (ZSmall_any f0w5 _ z 216 ia (by omega) HB.out).mono ?_
    rintro e f0w6 ⟨rfl, gf0w6⟩
    rw [HNO.out.1, HNO.out.2]
    replace Ba := heap_kept gf0w6 Ba
    replace Bx := heap_kept gf0w6 Bx
    replace ia := ia.kept gf0w6
    replace rx := rx.kept gf0w6
    replace hG := grown_trans hG gf0w6
    clear gf0w6
    obtain ⟨Ca0, Ca1, Fa0, Fa1⟩ := box_cells Ba
    obtain ⟨Cx0, Cx1, Fx0, Fx1⟩ := box_cells Bx
    go_wp2_with fail
    have hsg := HSG.out
    rw [← hx.out] at hsg
    rcases hsg with ⟨f8, HC8⟩ | ⟨f8, HC8⟩
    · skip
      refine wp_region_held_drew (S := fun w' => w'.cell? ⟨af0w1, 0, none⟩ = some (.slice sa xa.length xa.length) ∧ w'.cell? ⟨af0w1, 1, none⟩ = some (.bool ba) ∧ w'.cell? ⟨af0w3, 0, none⟩ = some (.int .i64 gx) ∧ w'.cell? ⟨af0w3, 1, none⟩ = some (.slice sx lx cx)) (by kernel_rfl) (by exact ⟨Ca0, Ca1, Cx0, Cx1⟩) (fun hHeld => ?_)
      refine wpAnyH_take (i := 0) (v := ?_) rfl (by kernel_rfl) (by kernel_rfl) (by kernel_rfl) (fun _ _ _ h => h) (Or.inl ⟨by rfl, ?_⟩) (by assumption) ?_
      rotate_left
      · (intro w hSw; (try dsimp only at hSw); go_simp; (try with_reducible rfl))
      try simp only [Act.put, List.getElem_toArray, List.getElem_cons_zero, List.getElem_cons_succ, List.setIfInBounds_toArray, List.set_cons_zero, List.set_cons_succ]
      refine wpAnyH_take (i := 1) (v := ?_) rfl (by kernel_rfl) (by kernel_rfl) (by kernel_rfl) (fun _ _ _ h => h) (Or.inl ⟨by rfl, ?_⟩) (by assumption) ?_
      rotate_left
      · (intro w hSw; (try dsimp only at hSw); go_simp; (try with_reducible rfl))
      try simp only [Act.put, List.getElem_toArray, List.getElem_cons_zero, List.getElem_cons_succ, List.setIfInBounds_toArray, List.set_cons_zero, List.set_cons_succ]
      refine wpAnyH_ready (rs := [2]) (by kernel_rfl) (by simp) ?_
      refine AllReadyH.cons rfl (fun KQ hKQ => ?_) AllReadyH.nil
      go_simp
      (go_at_call 17; (with_reducible refine (rZSmall_any f0w6.drew _ z (rx.kept (grown_drew (grown_refl _ _))) (toD HB.out (by omega))).mono ?_); rintro e f0g1w7_1 ⟨rfl, gf0g1w7_1⟩; rw [HNO.out.2]; have hGf0g1w7_1 := grown_pre f0w6 gf0g1w7_1 rfl rfl rfl rfl; have hSf0g1w7_1 := (And.intro (hGf0g1w7_1.cell Ca0 (by simp)) (And.intro (hGf0g1w7_1.cell Ca1 (by simp)) (And.intro (hGf0g1w7_1.cell Cx0 (by simp)) (hGf0g1w7_1.cell Cx1 (by simp))))); clear gf0g1w7_1)
      (try go_wp2_with fail)
      refine hKQ.out _ _ (by exact hSf0g1w7_1) (fun hHeld => ?_)
      clear hKQ KQ
      try simp only [Act.put, List.getElem_toArray, List.getElem_cons_zero, List.getElem_cons_succ, List.setIfInBounds_toArray, List.set_cons_zero, List.set_cons_succ]
      refine wpAnyH_take (i := 3) (v := ?_) rfl (by kernel_rfl) (by kernel_rfl) (by kernel_rfl) (fun _ _ _ h => h) (Or.inl ⟨by rfl, ?_⟩) (by assumption) ?_
      rotate_left
      · (intro w hSw; (try dsimp only at hSw); go_simp; (try with_reducible rfl))
      try simp only [Act.put, List.getElem_toArray, List.getElem_cons_zero, List.getElem_cons_succ, List.setIfInBounds_toArray, List.set_cons_zero, List.set_cons_succ]
      refine wpAnyH_take (i := 4) (v := ?_) rfl (by kernel_rfl) (by kernel_rfl) (by kernel_rfl) (fun _ _ _ h => h) (Or.inl ⟨by rfl, ?_⟩) (by assumption) ?_
      rotate_left
      · (intro w hSw; (try dsimp only at hSw); go_simp; (try with_reducible rfl))
      try simp only [Act.put, List.getElem_toArray, List.getElem_cons_zero, List.getElem_cons_succ, List.setIfInBounds_toArray, List.set_cons_zero, List.set_cons_succ]
      refine wpAnyH_take (i := 5) (v := ?_) rfl (by kernel_rfl) (by kernel_rfl) (by kernel_rfl) (fun _ _ _ h => h) (Or.inl ⟨by rfl, ?_⟩) (by assumption) ?_
      rotate_left
      · (intro w hSw; (try dsimp only at hSw); go_simp; (try with_reducible rfl))
      try simp only [Act.put, List.getElem_toArray, List.getElem_cons_zero, List.getElem_cons_succ, List.setIfInBounds_toArray, List.set_cons_zero, List.set_cons_succ]
      refine wpAnyH_take (i := 6) (v := ?_) rfl (by kernel_rfl) (by kernel_rfl) (by kernel_rfl) (fun _ _ _ h => h) (Or.inl ⟨by rfl, ?_⟩) (by assumption) ?_
      rotate_left
      · (intro w hSw; (try dsimp only at hSw); go_simp; (try with_reducible rfl))
      try simp only [Act.put, List.getElem_toArray, List.getElem_cons_zero, List.getElem_cons_succ, List.setIfInBounds_toArray, List.set_cons_zero, List.set_cons_succ]
      refine wpAnyH_take (i := 7) (v := undef) rfl (by kernel_rfl) (by kernel_rfl) (by kernel_rfl) (fun _ _ _ h => h) (Or.inr ⟨by rfl, rfl⟩) (by assumption) ?_
      try simp only [Act.put, List.getElem_toArray, List.getElem_cons_zero, List.getElem_cons_succ, List.setIfInBounds_toArray, List.set_cons_zero, List.set_cons_succ]
      refine wpAnyH_take (i := 9) (v := undef) rfl (by kernel_rfl) (by kernel_rfl) (by kernel_rfl) (fun _ _ _ h => h) (Or.inr ⟨by rfl, rfl⟩) (by assumption) ?_
      try simp only [Act.put, List.getElem_toArray, List.getElem_cons_zero, List.getElem_cons_succ, List.setIfInBounds_toArray, List.set_cons_zero, List.set_cons_succ]
      refine wpAnyH_ready (rs := [8]) (by kernel_rfl) (by simp) ?_
      refine AllReadyH.cons rfl (fun KQ hKQ => ?_) AllReadyH.nil
      go_simp
      refine hKQ.out _ _ (by assumption) (fun hHeld => ?_)
      clear hKQ KQ
      try simp only [Act.put, List.getElem_toArray, List.getElem_cons_zero, List.getElem_cons_succ, List.setIfInBounds_toArray, List.set_cons_zero, List.set_cons_succ]
      refine wpAnyH_ready (rs := [10]) (by kernel_rfl) (by simp) ?_
      refine AllReadyH.cons rfl (fun KQ hKQ => ?_) AllReadyH.nil
      go_simp
      refine hKQ.out _ _ (by assumption) (fun hHeld => ?_)
      clear hKQ KQ
      try simp only [Act.put, List.getElem_toArray, List.getElem_cons_zero, List.getElem_cons_succ, List.setIfInBounds_toArray, List.set_cons_zero, List.set_cons_succ]
      refine wpAnyH_take (i := 11) (v := undef) rfl (by kernel_rfl) (by kernel_rfl) (by kernel_rfl) (fun _ _ _ h => h) (Or.inr ⟨by rfl, rfl⟩) (by assumption) ?_
      try simp only [Act.put, List.getElem_toArray, List.getElem_cons_zero, List.getElem_cons_succ, List.setIfInBounds_toArray, List.set_cons_zero, List.set_cons_succ]
      refine wpAnyH_take (i := 12) (v := ?_) rfl (by kernel_rfl) (by kernel_rfl) (by kernel_rfl) (fun _ _ _ h => h) (Or.inl ⟨by rfl, ?_⟩) (by assumption) ?_
      rotate_left
      · (intro w hSw; (try dsimp only at hSw); go_simp; (try with_reducible rfl))
      try simp only [Act.put, List.getElem_toArray, List.getElem_cons_zero, List.getElem_cons_succ, List.setIfInBounds_toArray, List.set_cons_zero, List.set_cons_succ]
      refine wpAnyH_take (i := 13) (v := ?_) rfl (by kernel_rfl) (by kernel_rfl) (by kernel_rfl) (fun _ _ _ h => h) (Or.inl ⟨by rfl, ?_⟩) (by assumption) ?_
      rotate_left
      · (intro w hSw; (try dsimp only at hSw); go_simp; (try with_reducible rfl))
      try simp only [Act.put, List.getElem_toArray, List.getElem_cons_zero, List.getElem_cons_succ, List.setIfInBounds_toArray, List.set_cons_zero, List.set_cons_succ]
      refine wpAnyH_take (i := 14) (v := ?_) rfl (by kernel_rfl) (by kernel_rfl) (by kernel_rfl) (fun _ _ _ h => h) (Or.inl ⟨by rfl, ?_⟩) (by assumption) ?_
      rotate_left
      · (intro w hSw; (try dsimp only at hSw); go_simp; (try with_reducible rfl))
      try simp only [Act.put, List.getElem_toArray, List.getElem_cons_zero, List.getElem_cons_succ, List.setIfInBounds_toArray, List.set_cons_zero, List.set_cons_succ]
      refine wpAnyH_take (i := 15) (v := ?_) rfl (by kernel_rfl) (by kernel_rfl) (by kernel_rfl) (fun _ _ _ h => h) (Or.inl ⟨by rfl, ?_⟩) (by assumption) ?_
      rotate_left
      · (intro w hSw; (try dsimp only at hSw); go_simp; (try with_reducible rfl))
      try simp only [Act.put, List.getElem_toArray, List.getElem_cons_zero, List.getElem_cons_succ, List.setIfInBounds_toArray, List.set_cons_zero, List.set_cons_succ]
      refine wpAnyH_take (i := 16) (v := ?_) rfl (by kernel_rfl) (by kernel_rfl) (by kernel_rfl) (fun _ _ _ h => h) (Or.inl ⟨by rfl, ?_⟩) (by assumption) ?_
      rotate_left
      · (intro w hSw; (try dsimp only at hSw); go_simp; (try with_reducible rfl))
      try simp only [Act.put, List.getElem_toArray, List.getElem_cons_zero, List.getElem_cons_succ, List.setIfInBounds_toArray, List.set_cons_zero, List.set_cons_succ]
      refine wpAnyH_take (i := 17) (v := ?_) rfl (by kernel_rfl) (by kernel_rfl) (by kernel_rfl) (fun _ _ _ h => h) (Or.inl ⟨by rfl, ?_⟩) (by assumption) ?_
      rotate_left
      · (intro w hSw; (try dsimp only at hSw); go_simp; (try with_reducible rfl))
      try simp only [Act.put, List.getElem_toArray, List.getElem_cons_zero, List.getElem_cons_succ, List.setIfInBounds_toArray, List.set_cons_zero, List.set_cons_succ]
      refine wpAnyH_take (i := 18) (v := ?_) rfl (by kernel_rfl) (by kernel_rfl) (by kernel_rfl) (fun _ _ _ h => h) (Or.inl ⟨by rfl, ?_⟩) (by assumption) ?_
      rotate_left
      · (intro w hSw; (try dsimp only at hSw); go_simp; (try with_reducible rfl))
      try simp only [Act.put, List.getElem_toArray, List.getElem_cons_zero, List.getElem_cons_succ, List.setIfInBounds_toArray, List.set_cons_zero, List.set_cons_succ]
      refine wpAnyH_take (i := 19) (v := ?_) rfl (by kernel_rfl) (by kernel_rfl) (by kernel_rfl) (fun _ _ _ h => h) (Or.inl ⟨by rfl, ?_⟩) (by assumption) ?_
      rotate_left
      · (intro w hSw; (try dsimp only at hSw); go_simp; (try with_reducible rfl))
      try simp only [Act.put, List.getElem_toArray, List.getElem_cons_zero, List.getElem_cons_succ, List.setIfInBounds_toArray, List.set_cons_zero, List.set_cons_succ]
      refine wpAnyH_take (i := 20) (v := ?_) rfl (by kernel_rfl) (by kernel_rfl) (by kernel_rfl) (fun _ _ _ h => h) (Or.inl ⟨by rfl, ?_⟩) (by assumption) ?_
      rotate_left
      · (intro w hSw; (try dsimp only at hSw); go_simp; (try with_reducible rfl))
      try simp only [Act.put, List.getElem_toArray, List.getElem_cons_zero, List.getElem_cons_succ, List.setIfInBounds_toArray, List.set_cons_zero, List.set_cons_succ]
      refine wpAnyH_take (i := 21) (v := ?_) rfl (by kernel_rfl) (by kernel_rfl) (by kernel_rfl) (fun _ _ _ h => h) (Or.inl ⟨by rfl, ?_⟩) (by assumption) ?_
      rotate_left
      · (intro w hSw; (try dsimp only at hSw); go_simp; (try with_reducible rfl))
      try simp only [Act.put, List.getElem_toArray, List.getElem_cons_zero, List.getElem_cons_succ, List.setIfInBounds_toArray, List.set_cons_zero, List.set_cons_succ]
      refine wpAnyH_done (by kernel_rfl) ?_ _
      replace Ba := heap_kept hGf0g1w7_1 Ba
      replace Bx := heap_kept hGf0g1w7_1 Bx
      replace ia := ia.kept hGf0g1w7_1
      replace rx := rx.kept hGf0g1w7_1
      replace hG := grown_trans hG hGf0g1w7_1
      clear Ca0 Fa0 Ca1 Fa1 Cx0 Fx0 Cx1 Fx1
      obtain ⟨Ca0, Ca1, Fa0, Fa1⟩ := box_cells Ba
      obtain ⟨Cx0, Cx1, Fx0, Fx1⟩ := box_cells Bx
      go_wp2_with fail
      have mx : RefV f0g1w7_1 (.agg #[.slice sx lx cx]) z.natAbs := refv_of rx
      go_region_held3 (fun w' => w'.cell? ⟨af0w1, 0, none⟩ = some (.slice sa xa.length xa.length) ∧ w'.cell? ⟨af0w1, 1, none⟩ = some (.bool ba) ∧ w'.cell? ⟨af0w3, 0, none⟩ = some (.int .i64 gx) ∧ w'.cell? ⟨af0w3, 1, none⟩ = some (.slice sx lx cx))
        (first | assumption | exact ⟨Ca0, Ca1, Cx0, Cx1⟩ | go_keep)
        (first
          | (go_at_call 15; (with_reducible refine (NZText_any f0g1w7_1.drew _ z 216 (ia.kept (grown_drew (grown_refl _ _))) (by omega) HB.out).mono ?_); rintro e f0g1w8_1 ⟨x1', rfl, h1', gf0g1w8_1⟩; obtain rfl : x1' = s := ztext_uniq h1' HT2.out; have hGf0g1w8_1 := grown_pre f0g1w7_1 gf0g1w8_1 rfl rfl rfl rfl; have hSf0g1w8_1 := (And.intro (hGf0g1w8_1.cell Ca0 (by simp)) (And.intro (hGf0g1w8_1.cell Ca1 (by simp)) (And.intro (hGf0g1w8_1.cell Cx0 (by simp)) (hGf0g1w8_1.cell Cx1 (by simp))))); clear gf0g1w8_1)
          | (go_at_call 20; (with_reducible refine (Sign_any f0g1w8_1 _ z 216 (ia.kept hGf0g1w8_1) (by omega) HB.out).mono ?_); rintro e f0g1w8_2 ⟨rfl, gf0g1w8_2⟩; rw [← hx.out]; have hGf0g1w8_2 := grown_trans hGf0g1w8_1 gf0g1w8_2; have hSf0g1w8_2 := (And.intro (hGf0g1w8_2.cell Ca0 (by simp)) (And.intro (hGf0g1w8_2.cell Ca1 (by simp)) (And.intro (hGf0g1w8_2.cell Cx0 (by simp)) (hGf0g1w8_2.cell Cx1 (by simp))))); clear gf0g1w8_2)
          | (go_at_call 21; (with_reducible refine (Abs_any f0g1w8_2 _ z 216 (ia.kept hGf0g1w8_2) (by omega) HB.out).mono ?_); rintro e f0g1w8_3 ⟨vn1, rfl, na1, gf0g1w8_3⟩; have hGf0g1w8_3 := grown_trans hGf0g1w8_2 gf0g1w8_3; have hSf0g1w8_3 := (And.intro (hGf0g1w8_3.cell Ca0 (by simp)) (And.intro (hGf0g1w8_3.cell Ca1 (by simp)) (And.intro (hGf0g1w8_3.cell Cx0 (by simp)) (hGf0g1w8_3.cell Cx1 (by simp))))); clear gf0g1w8_3)
          | (go_at_call 22; (with_reducible refine (NText_any f0g1w8_3 _ z.natAbs 216 na1 (by omega) HB.out).mono ?_); rintro e f0g1w8_4 ⟨x2', rfl, hd2, hv2, gf0g1w8_4⟩; have hGf0g1w8_4 := grown_trans hGf0g1w8_3 gf0g1w8_4; replace na1 := na1.kept gf0g1w8_4; have hSf0g1w8_4 := (And.intro (hGf0g1w8_4.cell Ca0 (by simp)) (And.intro (hGf0g1w8_4.cell Ca1 (by simp)) (And.intro (hGf0g1w8_4.cell Cx0 (by simp)) (hGf0g1w8_4.cell Cx1 (by simp))))); clear gf0g1w8_4)
          | (go_at_call 23; (with_reducible refine (rtext_any f0g1w8_4 _ z.natAbs (mx.kept hGf0g1w8_4) (toD HB.out (by omega))).mono ?_); rintro e f0g1w8_5 ⟨x3', rfl, hd3, hv3, gf0g1w8_5⟩; obtain rfl : x3' = x2' := dec_uniq hd3 hd2 (hv3.trans hv2.symm); have hGf0g1w8_5 := grown_trans hGf0g1w8_4 gf0g1w8_5; replace na1 := na1.kept gf0g1w8_5; have hSf0g1w8_5 := (And.intro (hGf0g1w8_5.cell Ca0 (by simp)) (And.intro (hGf0g1w8_5.cell Ca1 (by simp)) (And.intro (hGf0g1w8_5.cell Cx0 (by simp)) (hGf0g1w8_5.cell Cx1 (by simp))))); clear gf0g1w8_5)
          | (go_at_call 21; (with_reducible refine (Abs_any f0g1w8_5 _ z 216 (ia.kept hGf0g1w8_5) (by omega) HB.out).mono ?_); rintro e f0g1w8_6 ⟨vn2, rfl, na2, gf0g1w8_6⟩; have hGf0g1w8_6 := grown_trans hGf0g1w8_5 gf0g1w8_6; replace na1 := na1.kept gf0g1w8_6; have hSf0g1w8_6 := (And.intro (hGf0g1w8_6.cell Ca0 (by simp)) (And.intro (hGf0g1w8_6.cell Ca1 (by simp)) (And.intro (hGf0g1w8_6.cell Cx0 (by simp)) (hGf0g1w8_6.cell Cx1 (by simp))))); clear gf0g1w8_6)
          | (go_at_call 24; (with_reducible refine (Big_any f0g1w8_6 _ z.natAbs 216 na2 (by omega) HB.out).mono ?_); rintro e f0g1w8_7 ⟨vb2, rfl, nb2, gf0g1w8_7⟩; have hGf0g1w8_7 := grown_trans hGf0g1w8_6 gf0g1w8_7; replace na1 := na1.kept gf0g1w8_7; replace na2 := na2.kept gf0g1w8_7; have hSf0g1w8_7 := (And.intro (hGf0g1w8_7.cell Ca0 (by simp)) (And.intro (hGf0g1w8_7.cell Ca1 (by simp)) (And.intro (hGf0g1w8_7.cell Cx0 (by simp)) (hGf0g1w8_7.cell Cx1 (by simp))))); clear gf0g1w8_7)
          | (go_at_call 25; (with_reducible refine (ZCmp_any f0g1w8_7 _ _ (z.natAbs : Int) z 216 nb2 (ia.kept hGf0g1w8_7) (by omega) (by rw [Int.natAbs_natCast]; exact HB.out) HB.out).mono ?_); rintro e f0g1w8_8 ⟨rfl, gf0g1w8_8⟩; rw [HC8.out]; have hGf0g1w8_8 := grown_trans hGf0g1w8_7 gf0g1w8_8; replace na1 := na1.kept gf0g1w8_8; replace na2 := na2.kept gf0g1w8_8; replace nb2 := nb2.kept gf0g1w8_8; have hSf0g1w8_8 := (And.intro (hGf0g1w8_8.cell Ca0 (by simp)) (And.intro (hGf0g1w8_8.cell Ca1 (by simp)) (And.intro (hGf0g1w8_8.cell Cx0 (by simp)) (hGf0g1w8_8.cell Cx1 (by simp))))); clear gf0g1w8_8))
      replace Ba := heap_kept hGf0g1w8_8 Ba
      replace Bx := heap_kept hGf0g1w8_8 Bx
      replace ia := ia.kept hGf0g1w8_8
      replace rx := rx.kept hGf0g1w8_8
      replace mx := mx.kept hGf0g1w8_8
      replace hG := grown_trans hG hGf0g1w8_8
      clear Ca0 Fa0 Ca1 Fa1 Cx0 Fx0 Cx1 Fx1
      obtain ⟨Ca0, Ca1, Fa0, Fa1⟩ := box_cells Ba
      obtain ⟨Cx0, Cx1, Fx0, Fx1⟩ := box_cells Bx
      go_wp2_with fail
      go_ret
      exact ⟨by first | rfl | simp, hG⟩
    · skip
      refine wp_region_held_drew (S := fun w' => w'.cell? ⟨af0w1, 0, none⟩ = some (.slice sa xa.length xa.length) ∧ w'.cell? ⟨af0w1, 1, none⟩ = some (.bool ba) ∧ w'.cell? ⟨af0w3, 0, none⟩ = some (.int .i64 gx) ∧ w'.cell? ⟨af0w3, 1, none⟩ = some (.slice sx lx cx)) (by kernel_rfl) (by exact ⟨Ca0, Ca1, Cx0, Cx1⟩) (fun hHeld => ?_)
      refine wpAnyH_take (i := 0) (v := ?_) rfl (by kernel_rfl) (by kernel_rfl) (by kernel_rfl) (fun _ _ _ h => h) (Or.inl ⟨by rfl, ?_⟩) (by assumption) ?_
      rotate_left
      · (intro w hSw; (try dsimp only at hSw); go_simp; (try with_reducible rfl))
      try simp only [Act.put, List.getElem_toArray, List.getElem_cons_zero, List.getElem_cons_succ, List.setIfInBounds_toArray, List.set_cons_zero, List.set_cons_succ]
      refine wpAnyH_take (i := 1) (v := ?_) rfl (by kernel_rfl) (by kernel_rfl) (by kernel_rfl) (fun _ _ _ h => h) (Or.inl ⟨by rfl, ?_⟩) (by assumption) ?_
      rotate_left
      · (intro w hSw; (try dsimp only at hSw); go_simp; (try with_reducible rfl))
      try simp only [Act.put, List.getElem_toArray, List.getElem_cons_zero, List.getElem_cons_succ, List.setIfInBounds_toArray, List.set_cons_zero, List.set_cons_succ]
      refine wpAnyH_ready (rs := [2]) (by kernel_rfl) (by simp) ?_
      refine AllReadyH.cons rfl (fun KQ hKQ => ?_) AllReadyH.nil
      go_simp
      (go_at_call 17; (with_reducible refine (rZSmall_any f0w6.drew _ z (rx.kept (grown_drew (grown_refl _ _))) (toD HB.out (by omega))).mono ?_); rintro e f0g0w7_1 ⟨rfl, gf0g0w7_1⟩; rw [HNO.out.2]; have hGf0g0w7_1 := grown_pre f0w6 gf0g0w7_1 rfl rfl rfl rfl; have hSf0g0w7_1 := (And.intro (hGf0g0w7_1.cell Ca0 (by simp)) (And.intro (hGf0g0w7_1.cell Ca1 (by simp)) (And.intro (hGf0g0w7_1.cell Cx0 (by simp)) (hGf0g0w7_1.cell Cx1 (by simp))))); clear gf0g0w7_1)
      (try go_wp2_with fail)
      refine hKQ.out _ _ (by exact hSf0g0w7_1) (fun hHeld => ?_)
      clear hKQ KQ
      try simp only [Act.put, List.getElem_toArray, List.getElem_cons_zero, List.getElem_cons_succ, List.setIfInBounds_toArray, List.set_cons_zero, List.set_cons_succ]
      refine wpAnyH_take (i := 3) (v := ?_) rfl (by kernel_rfl) (by kernel_rfl) (by kernel_rfl) (fun _ _ _ h => h) (Or.inl ⟨by rfl, ?_⟩) (by assumption) ?_
      rotate_left
      · (intro w hSw; (try dsimp only at hSw); go_simp; (try with_reducible rfl))
      try simp only [Act.put, List.getElem_toArray, List.getElem_cons_zero, List.getElem_cons_succ, List.setIfInBounds_toArray, List.set_cons_zero, List.set_cons_succ]
      refine wpAnyH_take (i := 4) (v := ?_) rfl (by kernel_rfl) (by kernel_rfl) (by kernel_rfl) (fun _ _ _ h => h) (Or.inl ⟨by rfl, ?_⟩) (by assumption) ?_
      rotate_left
      · (intro w hSw; (try dsimp only at hSw); go_simp; (try with_reducible rfl))
      try simp only [Act.put, List.getElem_toArray, List.getElem_cons_zero, List.getElem_cons_succ, List.setIfInBounds_toArray, List.set_cons_zero, List.set_cons_succ]
      refine wpAnyH_take (i := 5) (v := ?_) rfl (by kernel_rfl) (by kernel_rfl) (by kernel_rfl) (fun _ _ _ h => h) (Or.inl ⟨by rfl, ?_⟩) (by assumption) ?_
      rotate_left
      · (intro w hSw; (try dsimp only at hSw); go_simp; (try with_reducible rfl))
      try simp only [Act.put, List.getElem_toArray, List.getElem_cons_zero, List.getElem_cons_succ, List.setIfInBounds_toArray, List.set_cons_zero, List.set_cons_succ]
      refine wpAnyH_take (i := 6) (v := ?_) rfl (by kernel_rfl) (by kernel_rfl) (by kernel_rfl) (fun _ _ _ h => h) (Or.inl ⟨by rfl, ?_⟩) (by assumption) ?_
      rotate_left
      · (intro w hSw; (try dsimp only at hSw); go_simp; (try with_reducible rfl))
      try simp only [Act.put, List.getElem_toArray, List.getElem_cons_zero, List.getElem_cons_succ, List.setIfInBounds_toArray, List.set_cons_zero, List.set_cons_succ]
      refine wpAnyH_take (i := 7) (v := undef) rfl (by kernel_rfl) (by kernel_rfl) (by kernel_rfl) (fun _ _ _ h => h) (Or.inr ⟨by rfl, rfl⟩) (by assumption) ?_
      try simp only [Act.put, List.getElem_toArray, List.getElem_cons_zero, List.getElem_cons_succ, List.setIfInBounds_toArray, List.set_cons_zero, List.set_cons_succ]
      refine wpAnyH_take (i := 9) (v := undef) rfl (by kernel_rfl) (by kernel_rfl) (by kernel_rfl) (fun _ _ _ h => h) (Or.inr ⟨by rfl, rfl⟩) (by assumption) ?_
      try simp only [Act.put, List.getElem_toArray, List.getElem_cons_zero, List.getElem_cons_succ, List.setIfInBounds_toArray, List.set_cons_zero, List.set_cons_succ]
      refine wpAnyH_ready (rs := [8]) (by kernel_rfl) (by simp) ?_
      refine AllReadyH.cons rfl (fun KQ hKQ => ?_) AllReadyH.nil
      go_simp
      refine hKQ.out _ _ (by assumption) (fun hHeld => ?_)
      clear hKQ KQ
      try simp only [Act.put, List.getElem_toArray, List.getElem_cons_zero, List.getElem_cons_succ, List.setIfInBounds_toArray, List.set_cons_zero, List.set_cons_succ]
      refine wpAnyH_ready (rs := [10]) (by kernel_rfl) (by simp) ?_
      refine AllReadyH.cons rfl (fun KQ hKQ => ?_) AllReadyH.nil
      go_simp
      refine hKQ.out _ _ (by assumption) (fun hHeld => ?_)
      clear hKQ KQ
      try simp only [Act.put, List.getElem_toArray, List.getElem_cons_zero, List.getElem_cons_succ, List.setIfInBounds_toArray, List.set_cons_zero, List.set_cons_succ]
      refine wpAnyH_take (i := 11) (v := undef) rfl (by kernel_rfl) (by kernel_rfl) (by kernel_rfl) (fun _ _ _ h => h) (Or.inr ⟨by rfl, rfl⟩) (by assumption) ?_
      try simp only [Act.put, List.getElem_toArray, List.getElem_cons_zero, List.getElem_cons_succ, List.setIfInBounds_toArray, List.set_cons_zero, List.set_cons_succ]
      refine wpAnyH_take (i := 12) (v := ?_) rfl (by kernel_rfl) (by kernel_rfl) (by kernel_rfl) (fun _ _ _ h => h) (Or.inl ⟨by rfl, ?_⟩) (by assumption) ?_
      rotate_left
      · (intro w hSw; (try dsimp only at hSw); go_simp; (try with_reducible rfl))
      try simp only [Act.put, List.getElem_toArray, List.getElem_cons_zero, List.getElem_cons_succ, List.setIfInBounds_toArray, List.set_cons_zero, List.set_cons_succ]
      refine wpAnyH_take (i := 13) (v := ?_) rfl (by kernel_rfl) (by kernel_rfl) (by kernel_rfl) (fun _ _ _ h => h) (Or.inl ⟨by rfl, ?_⟩) (by assumption) ?_
      rotate_left
      · (intro w hSw; (try dsimp only at hSw); go_simp; (try with_reducible rfl))
      try simp only [Act.put, List.getElem_toArray, List.getElem_cons_zero, List.getElem_cons_succ, List.setIfInBounds_toArray, List.set_cons_zero, List.set_cons_succ]
      refine wpAnyH_take (i := 14) (v := ?_) rfl (by kernel_rfl) (by kernel_rfl) (by kernel_rfl) (fun _ _ _ h => h) (Or.inl ⟨by rfl, ?_⟩) (by assumption) ?_
      rotate_left
      · (intro w hSw; (try dsimp only at hSw); go_simp; (try with_reducible rfl))
      try simp only [Act.put, List.getElem_toArray, List.getElem_cons_zero, List.getElem_cons_succ, List.setIfInBounds_toArray, List.set_cons_zero, List.set_cons_succ]
      refine wpAnyH_take (i := 15) (v := ?_) rfl (by kernel_rfl) (by kernel_rfl) (by kernel_rfl) (fun _ _ _ h => h) (Or.inl ⟨by rfl, ?_⟩) (by assumption) ?_
      rotate_left
      · (intro w hSw; (try dsimp only at hSw); go_simp; (try with_reducible rfl))
      try simp only [Act.put, List.getElem_toArray, List.getElem_cons_zero, List.getElem_cons_succ, List.setIfInBounds_toArray, List.set_cons_zero, List.set_cons_succ]
      refine wpAnyH_take (i := 16) (v := ?_) rfl (by kernel_rfl) (by kernel_rfl) (by kernel_rfl) (fun _ _ _ h => h) (Or.inl ⟨by rfl, ?_⟩) (by assumption) ?_
      rotate_left
      · (intro w hSw; (try dsimp only at hSw); go_simp; (try with_reducible rfl))
      try simp only [Act.put, List.getElem_toArray, List.getElem_cons_zero, List.getElem_cons_succ, List.setIfInBounds_toArray, List.set_cons_zero, List.set_cons_succ]
      refine wpAnyH_take (i := 17) (v := ?_) rfl (by kernel_rfl) (by kernel_rfl) (by kernel_rfl) (fun _ _ _ h => h) (Or.inl ⟨by rfl, ?_⟩) (by assumption) ?_
      rotate_left
      · (intro w hSw; (try dsimp only at hSw); go_simp; (try with_reducible rfl))
      try simp only [Act.put, List.getElem_toArray, List.getElem_cons_zero, List.getElem_cons_succ, List.setIfInBounds_toArray, List.set_cons_zero, List.set_cons_succ]
      refine wpAnyH_take (i := 18) (v := ?_) rfl (by kernel_rfl) (by kernel_rfl) (by kernel_rfl) (fun _ _ _ h => h) (Or.inl ⟨by rfl, ?_⟩) (by assumption) ?_
      rotate_left
      · (intro w hSw; (try dsimp only at hSw); go_simp; (try with_reducible rfl))
      try simp only [Act.put, List.getElem_toArray, List.getElem_cons_zero, List.getElem_cons_succ, List.setIfInBounds_toArray, List.set_cons_zero, List.set_cons_succ]
      refine wpAnyH_take (i := 19) (v := ?_) rfl (by kernel_rfl) (by kernel_rfl) (by kernel_rfl) (fun _ _ _ h => h) (Or.inl ⟨by rfl, ?_⟩) (by assumption) ?_
      rotate_left
      · (intro w hSw; (try dsimp only at hSw); go_simp; (try with_reducible rfl))
      try simp only [Act.put, List.getElem_toArray, List.getElem_cons_zero, List.getElem_cons_succ, List.setIfInBounds_toArray, List.set_cons_zero, List.set_cons_succ]
      refine wpAnyH_take (i := 20) (v := ?_) rfl (by kernel_rfl) (by kernel_rfl) (by kernel_rfl) (fun _ _ _ h => h) (Or.inl ⟨by rfl, ?_⟩) (by assumption) ?_
      rotate_left
      · (intro w hSw; (try dsimp only at hSw); go_simp; (try with_reducible rfl))
      try simp only [Act.put, List.getElem_toArray, List.getElem_cons_zero, List.getElem_cons_succ, List.setIfInBounds_toArray, List.set_cons_zero, List.set_cons_succ]
      refine wpAnyH_take (i := 21) (v := ?_) rfl (by kernel_rfl) (by kernel_rfl) (by kernel_rfl) (fun _ _ _ h => h) (Or.inl ⟨by rfl, ?_⟩) (by assumption) ?_
      rotate_left
      · (intro w hSw; (try dsimp only at hSw); go_simp; (try with_reducible rfl))
      try simp only [Act.put, List.getElem_toArray, List.getElem_cons_zero, List.getElem_cons_succ, List.setIfInBounds_toArray, List.set_cons_zero, List.set_cons_succ]
      refine wpAnyH_done (by kernel_rfl) ?_ _
      replace Ba := heap_kept hGf0g0w7_1 Ba
      replace Bx := heap_kept hGf0g0w7_1 Bx
      replace ia := ia.kept hGf0g0w7_1
      replace rx := rx.kept hGf0g0w7_1
      replace hG := grown_trans hG hGf0g0w7_1
      clear Ca0 Fa0 Ca1 Fa1 Cx0 Fx0 Cx1 Fx1
      obtain ⟨Ca0, Ca1, Fa0, Fa1⟩ := box_cells Ba
      obtain ⟨Cx0, Cx1, Fx0, Fx1⟩ := box_cells Bx
      go_wp2_with fail
      have mx : RefV f0g0w7_1 (.agg #[.slice sx lx cx]) z.natAbs := refv_of rx
      go_region_held3 (fun w' => w'.cell? ⟨af0w1, 0, none⟩ = some (.slice sa xa.length xa.length) ∧ w'.cell? ⟨af0w1, 1, none⟩ = some (.bool ba) ∧ w'.cell? ⟨af0w3, 0, none⟩ = some (.int .i64 gx) ∧ w'.cell? ⟨af0w3, 1, none⟩ = some (.slice sx lx cx))
        (first | assumption | exact ⟨Ca0, Ca1, Cx0, Cx1⟩ | go_keep)
        (first
          | (go_at_call 15; (with_reducible refine (NZText_any f0g0w7_1.drew _ z 216 (ia.kept (grown_drew (grown_refl _ _))) (by omega) HB.out).mono ?_); rintro e f0g0w8_1 ⟨x1', rfl, h1', gf0g0w8_1⟩; obtain rfl : x1' = s := ztext_uniq h1' HT2.out; have hGf0g0w8_1 := grown_pre f0g0w7_1 gf0g0w8_1 rfl rfl rfl rfl; have hSf0g0w8_1 := (And.intro (hGf0g0w8_1.cell Ca0 (by simp)) (And.intro (hGf0g0w8_1.cell Ca1 (by simp)) (And.intro (hGf0g0w8_1.cell Cx0 (by simp)) (hGf0g0w8_1.cell Cx1 (by simp))))); clear gf0g0w8_1)
          | (go_at_call 20; (with_reducible refine (Sign_any f0g0w8_1 _ z 216 (ia.kept hGf0g0w8_1) (by omega) HB.out).mono ?_); rintro e f0g0w8_2 ⟨rfl, gf0g0w8_2⟩; rw [← hx.out]; have hGf0g0w8_2 := grown_trans hGf0g0w8_1 gf0g0w8_2; have hSf0g0w8_2 := (And.intro (hGf0g0w8_2.cell Ca0 (by simp)) (And.intro (hGf0g0w8_2.cell Ca1 (by simp)) (And.intro (hGf0g0w8_2.cell Cx0 (by simp)) (hGf0g0w8_2.cell Cx1 (by simp))))); clear gf0g0w8_2)
          | (go_at_call 21; (with_reducible refine (Abs_any f0g0w8_2 _ z 216 (ia.kept hGf0g0w8_2) (by omega) HB.out).mono ?_); rintro e f0g0w8_3 ⟨vn1, rfl, na1, gf0g0w8_3⟩; have hGf0g0w8_3 := grown_trans hGf0g0w8_2 gf0g0w8_3; have hSf0g0w8_3 := (And.intro (hGf0g0w8_3.cell Ca0 (by simp)) (And.intro (hGf0g0w8_3.cell Ca1 (by simp)) (And.intro (hGf0g0w8_3.cell Cx0 (by simp)) (hGf0g0w8_3.cell Cx1 (by simp))))); clear gf0g0w8_3)
          | (go_at_call 22; (with_reducible refine (NText_any f0g0w8_3 _ z.natAbs 216 na1 (by omega) HB.out).mono ?_); rintro e f0g0w8_4 ⟨x2', rfl, hd2, hv2, gf0g0w8_4⟩; have hGf0g0w8_4 := grown_trans hGf0g0w8_3 gf0g0w8_4; replace na1 := na1.kept gf0g0w8_4; have hSf0g0w8_4 := (And.intro (hGf0g0w8_4.cell Ca0 (by simp)) (And.intro (hGf0g0w8_4.cell Ca1 (by simp)) (And.intro (hGf0g0w8_4.cell Cx0 (by simp)) (hGf0g0w8_4.cell Cx1 (by simp))))); clear gf0g0w8_4)
          | (go_at_call 23; (with_reducible refine (rtext_any f0g0w8_4 _ z.natAbs (mx.kept hGf0g0w8_4) (toD HB.out (by omega))).mono ?_); rintro e f0g0w8_5 ⟨x3', rfl, hd3, hv3, gf0g0w8_5⟩; obtain rfl : x3' = x2' := dec_uniq hd3 hd2 (hv3.trans hv2.symm); have hGf0g0w8_5 := grown_trans hGf0g0w8_4 gf0g0w8_5; replace na1 := na1.kept gf0g0w8_5; have hSf0g0w8_5 := (And.intro (hGf0g0w8_5.cell Ca0 (by simp)) (And.intro (hGf0g0w8_5.cell Ca1 (by simp)) (And.intro (hGf0g0w8_5.cell Cx0 (by simp)) (hGf0g0w8_5.cell Cx1 (by simp))))); clear gf0g0w8_5)
          | (go_at_call 21; (with_reducible refine (Abs_any f0g0w8_5 _ z 216 (ia.kept hGf0g0w8_5) (by omega) HB.out).mono ?_); rintro e f0g0w8_6 ⟨vn2, rfl, na2, gf0g0w8_6⟩; have hGf0g0w8_6 := grown_trans hGf0g0w8_5 gf0g0w8_6; replace na1 := na1.kept gf0g0w8_6; have hSf0g0w8_6 := (And.intro (hGf0g0w8_6.cell Ca0 (by simp)) (And.intro (hGf0g0w8_6.cell Ca1 (by simp)) (And.intro (hGf0g0w8_6.cell Cx0 (by simp)) (hGf0g0w8_6.cell Cx1 (by simp))))); clear gf0g0w8_6)
          | (go_at_call 24; (with_reducible refine (Big_any f0g0w8_6 _ z.natAbs 216 na2 (by omega) HB.out).mono ?_); rintro e f0g0w8_7 ⟨vb2, rfl, nb2, gf0g0w8_7⟩; have hGf0g0w8_7 := grown_trans hGf0g0w8_6 gf0g0w8_7; replace na1 := na1.kept gf0g0w8_7; replace na2 := na2.kept gf0g0w8_7; have hSf0g0w8_7 := (And.intro (hGf0g0w8_7.cell Ca0 (by simp)) (And.intro (hGf0g0w8_7.cell Ca1 (by simp)) (And.intro (hGf0g0w8_7.cell Cx0 (by simp)) (hGf0g0w8_7.cell Cx1 (by simp))))); clear gf0g0w8_7)
          | (go_at_call 25; (with_reducible refine (ZCmp_any f0g0w8_7 _ _ (z.natAbs : Int) z 216 nb2 (ia.kept hGf0g0w8_7) (by omega) (by rw [Int.natAbs_natCast]; exact HB.out) HB.out).mono ?_); rintro e f0g0w8_8 ⟨rfl, gf0g0w8_8⟩; rw [HC8.out]; have hGf0g0w8_8 := grown_trans hGf0g0w8_7 gf0g0w8_8; replace na1 := na1.kept gf0g0w8_8; replace na2 := na2.kept gf0g0w8_8; replace nb2 := nb2.kept gf0g0w8_8; have hSf0g0w8_8 := (And.intro (hGf0g0w8_8.cell Ca0 (by simp)) (And.intro (hGf0g0w8_8.cell Ca1 (by simp)) (And.intro (hGf0g0w8_8.cell Cx0 (by simp)) (hGf0g0w8_8.cell Cx1 (by simp))))); clear gf0g0w8_8))
      replace Ba := heap_kept hGf0g0w8_8 Ba
      replace Bx := heap_kept hGf0g0w8_8 Bx
      replace ia := ia.kept hGf0g0w8_8
      replace rx := rx.kept hGf0g0w8_8
      replace mx := mx.kept hGf0g0w8_8
      replace hG := grown_trans hG hGf0g0w8_8
      clear Ca0 Fa0 Ca1 Fa1 Cx0 Fx0 Cx1 Fx1
      obtain ⟨Ca0, Ca1, Fa0, Fa1⟩ := box_cells Ba
      obtain ⟨Cx0, Cx1, Fx0, Fx1⟩ := box_cells Bx
      go_wp2_with fail
      go_ret
      exact ⟨by first | rfl | simp, hG⟩
end Go.Proofs.Ytljfhiikoimdiaa
