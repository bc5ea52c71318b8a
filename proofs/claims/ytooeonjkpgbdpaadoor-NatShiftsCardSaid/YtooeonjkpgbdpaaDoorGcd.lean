/- The greatest that divides both. -/
import Derived.Test.YtooeonjkpgbdpaaDoorTrail
namespace Go.Proofs.YtooeonjkpgbdpaaDoor
open Go.RowKit Mat
set_option maxRecDepth 100000
set_option linter.unusedVariables false
set_option linter.unusedSimpArgs false

theorem below_row {a b : World} {N g : Nat} (h : a.grownBy b (some g)) (hN : N ≤ g) (hs : N ≤ a.heap.size) : Below N a b :=
  ⟨h.os, h.tape, h.output, h.size, fun k hk => h.block k (by omega) (by intro e; cases e; omega)⟩
theorem below_none {a b : World} {N : Nat} (h : a.grownBy b none) (hs : N ≤ a.heap.size) : Below N a b :=
  ⟨h.os, h.tape, h.output, h.size, fun k hk => h.block k (by omega) (by simp)⟩

/-- Odd limbs in a block of the call's own. -/
structure OddIn (N : Nat) (w : World) (b n : Nat) (xs : List Nat) (cs : Array Value) : Prop where
  lo : N ≤ b
  blk : Blk w b cs
  lies : At cs 0 xs
  len : Hid (xs.length = n)
  top : Top xs
  dig : Dig B xs
  odd : Hid (val B xs % 2 = 1)
  bnd : n ≤ 1073741824
theorem OddIn.lm {N : Nat} {w : World} {b n : Nat} {xs : List Nat} {cs : Array Value} (h : OddIn N w b n xs cs) : Lm w (some ⟨b, 0, none⟩) xs :=
  ⟨Rdo.of h.blk h.lies, by intro e; have := h.odd.out; rw [e] at this; simp [val] at this, h.top, h.dig⟩
theorem OddIn.pos {N : Nat} {w : World} {b n : Nat} {xs : List Nat} {cs : Array Value} (h : OddIn N w b n xs cs) : 0 < n := by
  have := h.odd.out
  rw [← h.len.out]
  rcases Nat.eq_zero_or_pos xs.length with e | e
  · rw [List.length_eq_zero_iff.1 e] at this; simp [val] at this
  · exact e
theorem OddIn.kept {N : Nat} {w w' : World} {b n : Nat} {xs : List Nat} {cs : Array Value} {row : Option Nat} (h : OddIn N w b n xs cs) (hg : w.grownBy w' row) (hr : some b ≠ row) : OddIn N w' b n xs cs :=
  ⟨h.lo, h.blk.kept hg hr, h.lies, h.len, h.top, h.dig, h.odd, h.bnd⟩
theorem OddIn.size {N : Nat} {w : World} {b n : Nat} {xs : List Nat} {cs : Array Value} (h : OddIn N w b n xs cs) : N ≤ w.heap.size := Nat.le_trans h.lo (Nat.le_of_lt h.blk.lt)
theorem Tab.below {N : Nat} {w w' : World} (h : Tab w) (hb : Below N w w') (hN : 2 < N) : Tab w' := by
  intro j hj
  have := h j hj
  unfold World.cell? at *
  rw [hb.block 2 hN]
  exact this

theorem OddIn.one {N : Nat} {w : World} {b : Nat} {xs : List Nat} {cs : Array Value} (h : OddIn N w b 1 xs cs) : ∃ x, val B xs = x ∧ w.cell? ⟨b, 0, none⟩ = some (.int .u64 (x : Int)) ∧ x < B ∧ x % 2 = 1 := by
  obtain ⟨x, rfl⟩ := List.length_eq_one_iff.1 h.len.out
  have e : val B [x] = x := by simp [val]
  refine ⟨x, e, ?_, h.dig x (by simp), by have := h.odd.out; rw [e] at this; exact this⟩
  have := h.blk.at h.lies 0 (by simp)
  simpa using this
theorem pos_take {zs : List Nat} {k : Nat} {v : Nat} (h : val B (zs.take k) = v) (h0 : 0 < v) : 0 < k := by
  rcases Nat.eq_zero_or_pos k with e | e
  · rw [e, List.take_zero] at h; simp [val] at h; omega
  · exact e
theorem compare_at (w : World) (sa sb : Option Addr) (n m : Nat) (xs ys : List Nat) (hn : xs.length = n) (hm : ys.length = m) (hx : Lm w sa xs) (hy : Lm w sb ys) (bn : n ≤ 1099511627776) (bm : m ≤ 1099511627776) :
    Calls Tryd.prog 54 #[.slice sa n n, .slice sb m m] w (Compared w (val B xs) (val B ys)) := by
  subst hn; subst hm; exact compare_any w sa sb xs ys hx hy bn bm

theorem one_lies (g : Nat) : At #[.int .u64 (g : Int)] 0 [g] := fun i hi => by
  obtain rfl : i = 0 := by simpa using hi
  rfl

/-- What oddGcd answers. -/
def RetOdd (N : Nat) (w : World) (g n : Nat) (e : Ending) (w' : World) : Prop :=
  ∃ (s : Option Addr) (k : Nat) (zs : List Nat), e = .returned (.slice s k k) ∧ zs.length = k ∧ k ≤ n ∧ Rdo w' s zs ∧ Dig B zs ∧ val B zs = g ∧ Below N w w'

set_option maxHeartbeats 4000000 in
theorem oddGcd_any (w : World) (N px nx : Nat) (xs : List Nat) (cx : Array Value) (py ny : Nat) (ys : List Nat) (cy : Array Value) (hx : OddIn N w px nx xs cx) (hy : OddIn N w py ny ys cy) (hne : px ≠ py) (hN : 2 < N) (hT : Tab w) (M : Nat) (hMx : nx ≤ M) (hMy : ny ≤ M) :
    Calls Tryd.prog 64 #[.slice (some ⟨px, 0, none⟩) nx nx, .slice (some ⟨py, 0, none⟩) ny ny] w (RetOdd N w (Nat.gcd (val B xs) (val B ys)) M) := by
  have HT := Lib.hid hT
  obtain ⟨g, hg⟩ : ∃ g, Nat.gcd (val B xs) (val B ys) = g := ⟨_, rfl⟩
  rw [hg]
  have HG := Lib.hid hg
  have hNs := hx.size
  clear hg hT
  go_enter Tryd.func64, Tryd.ntmps64
  go_wp2_with fail
  go_loopg [0, 1] (val B xs + val B ys) (fun gh a b wr => ∃ (px nx : Nat) (xs : List Nat) (cx : Array Value) (py ny : Nat) (ys : List Nat) (cy : Array Value), a = .slice (some ⟨px, 0, none⟩) nx nx ∧ b = .slice (some ⟨py, 0, none⟩) ny ny ∧ OddIn N wr px nx xs cx ∧ OddIn N wr py ny ys cy ∧ px ≠ py ∧ nx ≤ M ∧ ny ≤ M ∧ Hid (Nat.gcd (val B xs) (val B ys) = g) ∧ Below N w wr ∧ Hid (val B xs + val B ys ≤ gh))
  case atStart => exact ⟨px, nx, xs, cx, py, ny, ys, cy, rfl, rfl, hx, hy, hne, hMx, hMy, HG, Below.refl _ _, Nat.le_refl _⟩
  case round =>
    clear hx hy hne HG hMx hMy
    obtain ⟨px, nx, xs, cx, py, ny, ys, cy, rfl, rfl, hx, hy, hne, hMx, hMy, hg, hb, hgh⟩ := hrel
    have hxp := hx.pos
    have hyp := hy.pos
    by_cases h1 : nx = 1 ∧ ny = 1
    · obtain ⟨rfl, rfl⟩ := h1
      obtain ⟨x, e1, c1, hxB, ox⟩ := hx.one
      obtain ⟨y, e2, c2, hyB, oy⟩ := hy.one
      rw [e1, e2] at hg
      have hTW : Hid (∀ W, wr.grownBy W none → Tab W) := fun W hW => (HT.out.below hb hN).kept hW (by simp)
      have hBW : Hid (∀ W, wr.grownBy W none → Below N w W) := fun W hW => hb.trans (below_none hW hx.size)
      clear hx hy hb
      go_wp2_with fail
      go_region_held3 (fun w' => w'.cell? ⟨px, 0, none⟩ = some (.int .u64 (x : Int)) ∧ w'.cell? ⟨py, 0, none⟩ = some (.int .u64 (y : Int)))
        (first | go_keep)
        (first | (go_at_call 72; (with_reducible refine (oddWordGcd_any wr.drew x y hxB hyB ox oy (hTW.out _ (grown_drew (grown_refl _ _)))).mono ?_); rintro e w' ⟨rfl, rfl⟩))
      go_wp2_with fail
      go_ret
      have hox : 0 < x := by omega
      have hgxB : Nat.gcd x y < B := Nat.lt_of_le_of_lt (Nat.gcd_le_left y hox) hxB
      exact ⟨_, 1, [Nat.gcd x y], rfl, rfl, hMx, Rdo.of (Blk.drew (blk_alloc _ _)) (one_lies _), Dig.cons hgxB (Dig.nil _), by simp [val]; exact hg.out, hBW.out _ (grown_drew (World.grownBy_alloc _ _ _))⟩
    · have hh : decide ((1 : Int) < (nx : Int)) = true ∨ (decide ((1 : Int) < (nx : Int)) = false ∧ decide ((1 : Int) < (ny : Int)) = true) := by
        by_cases h2 : 1 < nx
        · exact Or.inl (decide_eq_true (by omega))
        · exact Or.inr ⟨decide_eq_false (by omega), decide_eq_true (by omega)⟩
      clear h1
      rcases hh with f1 | ⟨f1, f2⟩
      all_goals
        rcases Nat.lt_trichotomy (val B ys) (val B xs) with h | h | h
        · have hmin : val B ys < val B xs := h
          have t2 : cmpInt (val B xs) (val B ys) = 1 := cmpInt_gt hmin
          have T2 := Lib.hid t2
          have HM := Lib.hid hmin
          have hyl : ny ≤ nx := by have := len_le_of hy.lm hx.lm (Nat.le_of_lt hmin); rw [hy.len.out, hx.len.out] at this; exact this
          clear t2 hmin h
          go_wp2_with fail
          refine (compare_at _ _ _ nx ny xs ys hx.len.out hy.len.out hx.lm hy.lm (by have := hx.bnd; omega) (by have := hy.bnd; omega)).mono ?_
          rintro e w' ⟨rfl, q, rfl⟩
          rw [T2.out]
          have hx1 := hx.kept (grown_drewN wr q none) (by simp)
          have hy1 := hy.kept (grown_drewN wr q none) (by simp)
          have hb1 := hb.trans (below_none (grown_drewN wr q none) (Nat.le_trans hNs hb.size))
          generalize wr.drewN q = w1 at *
          clear hx hy hb
          go_wp2_with fail
          refine (takeFrom_at w1 px 0 nx nx xs cx (some ⟨py, 0, none⟩) ny ny ys hx1.len.out hy1.len.out hx1.blk hx1.lies (Or.inr ⟨py, 0, cy, rfl, Ne.symm hne, hy1.blk, hy1.lies⟩) hyl (by have := hx1.bnd; omega) hx1.dig hy1.dig (Nat.le_of_lt HM.out)).mono ?_
          rintro e w2 ⟨zs, cs2, rfl, hk2, hw2, hg2, hl2, hd2, hv2⟩
          have hy2 := hy1.kept hg2 (by simp; omega)
          have hb2 := hb1.trans (below_row hg2 hx1.lo hx1.size)
          have hlo := hx1.lo
          have hbx := hx1.bnd
          have hsz2 := hy2.size
          have hln2 : zs.length = nx := hl2.trans hx1.len.out
          have HL2 := Lib.hid hln2
          have hev : Hid (val B zs % 2 = 0 ∧ 0 < val B zs ∧ val B zs = val B xs - val B ys) := by
            have h3 := hx1.odd.out; have h4 := hy1.odd.out; have h5 := HM.out
            refine ⟨?_, ?_, ?_⟩ <;> omega
          have HOY := hy1.odd
          clear hg2 hl2 hln2 hv2 hb1 hx1 hy1
          go_wp2_with fail
          refine (cut_at w2 (some ⟨px, 0, none⟩) nx nx zs HL2.out (Rdo.of hk2 hw2.lies) (by omega) (Nat.le_refl _)).mono ?_
          rintro e w3 ⟨k, hk, rfl, ht3, hv3, rfl⟩
          have hkp : 0 < k := pos_take hv3 hev.out.2.1
          rw [Sa_pos hkp]
          have hlk : (zs.take k).length = k := by rw [List.length_take]; omega
          have HLK := Lib.hid hlk
          have hkn : k ≤ nx := by rw [HL2.out] at hk; exact hk
          have hat3 := hw2.lies.take k
          have hd3 := hd2.take k
          have HV3 := Lib.hid hv3
          have hT2 := HT.out.below hb2 hN
          clear hv3 hk hlk
          go_wp2_with fail
          refine (twos_any w2 _ k k (zs.take k) HLK.out (Rdo.of hk2 hat3) hd3 (by rw [HV3.out]; exact hev.out.2.1) (by omega) hT2).mono ?_
          rintro e w3 ⟨tt, mm, rfl, hf3, htt, rfl⟩
          have HF3 := Lib.hid hf3
          clear hf3
          go_wp2_with fail
          refine (lower_any w2 px 0 k k (zs.take k) cs2 tt HLK.out hk2 hat3 hd3 (Nat.le_refl _) (by omega) (by omega)).mono ?_
          rintro e w4 ⟨s4, m4, cap4, cs4, zs4, rfl, hm4, hl4, hlx4, hd4, hv4, hs4, _, hk4, hat4, hg4⟩
          have hv4' : val B zs4 = 2 * mm + 1 := by rw [hv4, HF3.out]; exact Nat.mul_div_cancel_left _ (Nat.two_pow_pos tt)
          have hp4 : 0 < m4 := by
            rcases Nat.eq_zero_or_pos m4 with e | e
            · rw [List.length_eq_zero_iff.1 (hl4.trans e)] at hv4'; simp [val] at hv4'
            · exact e
          obtain rfl := hs4 hp4
          have hy4 := hy2.kept hg4 (by simp; omega)
          have hb4 := hb2.trans (below_row hg4 hlo hsz2)
          have hm4k : m4 ≤ k := by rw [HLK.out] at hlx4; exact hlx4
          have HL4 := Lib.hid hl4
          have HV4 := Lib.hid hv4'
          clear hv4 hv4' hl4 hs4 hg4 hy2 hb2 hlx4 hk2 hw2 hd2 hat3 hd3 hT2
          go_wp2_with fail
          refine (cut_at w4 (some ⟨px, 0, none⟩) m4 cap4 zs4 HL4.out (Rdo.of hk4 hat4) (by omega) hm4).mono ?_
          rintro e w5 ⟨k5, hk5, rfl, ht5, hv5, rfl⟩
          have hkp5 : 0 < k5 := pos_take hv5 (by rw [HV4.out]; omega)
          rw [Sa_pos hkp5]
          have hk5m : k5 ≤ m4 := by rw [HL4.out] at hk5; exact hk5
          have hlk5 : (zs4.take k5).length = k5 := by rw [List.length_take]; omega
          have hnew : OddIn N w4 px k5 (zs4.take k5) cs4 := ⟨hlo, hk4, hat4.take k5, hlk5, ht5, hd4.take k5, by show _ = _; rw [hv5, HV4.out]; omega, by omega⟩
          have hgn : Hid (Nat.gcd (val B (zs4.take k5)) (val B ys) = g) := by
            show _ = _
            have h6 := hev.out.2.2
            rw [← HV3.out, HF3.out] at h6
            rw [hv5, HV4.out, odd_step HOY.out HM.out h6.symm]; exact hg.out
          have hms : Hid (val B (zs4.take k5) + val B ys < gk) := by
            show _ < _
            have h6 := hev.out.2.2
            have h7 := HV3.out
            have h8 : 2 * mm + 1 ≤ 2 ^ tt * (2 * mm + 1) := Nat.le_mul_of_pos_left _ (Nat.two_pow_pos tt)
            have h9 := HF3.out
            have h10 := HM.out
            have h11 : val B ys % 2 = 1 := HOY.out
            have h12 := hgh.out
            rw [hv5, HV4.out]; omega
          clear hv5 hlk5 hk5 ht5 hk4 hat4 hd4
          go_wp2_with fail
          go_roundg (val B (zs4.take k5) + val B ys)
          case measure => exact hms.out
          case rel => exact ⟨px, k5, zs4.take k5, cs4, py, ny, ys, cy, rfl, rfl, hnew, hy4, hne, by omega, hMy, hgn, hb4, Nat.le_refl _⟩
        · have t2 : cmpInt (val B xs) (val B ys) = 0 := cmpInt_eq h.symm
          have T2 := Lib.hid t2
          have hgx : val B xs = g := by rw [← hg.out, ← h, Nat.gcd_self]
          have HGX := Lib.hid hgx
          clear t2 h hgx
          go_wp2_with fail
          refine (compare_at _ _ _ nx ny xs ys hx.len.out hy.len.out hx.lm hy.lm (by have := hx.bnd; omega) (by have := hy.bnd; omega)).mono ?_
          rintro e w' ⟨rfl, q, rfl⟩
          rw [T2.out]
          have hF : Hid (RetOdd N w g M (.returned (.slice (some ⟨px, 0, none⟩) nx nx)) (wr.drewN q)) := ⟨_, nx, xs, rfl, hx.len.out, hMx, (Rdo.of hx.blk hx.lies).kept (grown_drewN _ _ _), hx.dig, HGX.out, hb.trans (below_none (grown_drewN wr q none) (Nat.le_trans hNs hb.size))⟩
          go_wp2_with fail
          go_ret
          exact hF
        · have hmin : val B xs < val B ys := h
          have t2 : cmpInt (val B xs) (val B ys) = -1 := cmpInt_lt hmin
          have T2 := Lib.hid t2
          have HM := Lib.hid hmin
          have hyl : nx ≤ ny := by have := len_le_of hx.lm hy.lm (Nat.le_of_lt hmin); rw [hx.len.out, hy.len.out] at this; exact this
          clear t2 hmin h
          go_wp2_with fail
          refine (compare_at _ _ _ nx ny xs ys hx.len.out hy.len.out hx.lm hy.lm (by have := hx.bnd; omega) (by have := hy.bnd; omega)).mono ?_
          rintro e w' ⟨rfl, q, rfl⟩
          rw [T2.out]
          have hx1 := hx.kept (grown_drewN wr q none) (by simp)
          have hy1 := hy.kept (grown_drewN wr q none) (by simp)
          have hb1 := hb.trans (below_none (grown_drewN wr q none) (Nat.le_trans hNs hb.size))
          generalize wr.drewN q = w1 at *
          clear hx hy hb
          go_wp2_with fail
          refine (takeFrom_at w1 py 0 ny ny ys cy (some ⟨px, 0, none⟩) nx nx xs hy1.len.out hx1.len.out hy1.blk hy1.lies (Or.inr ⟨px, 0, cx, rfl, hne, hx1.blk, hx1.lies⟩) hyl (by have := hy1.bnd; omega) hy1.dig hx1.dig (Nat.le_of_lt HM.out)).mono ?_
          rintro e w2 ⟨zs, cs2, rfl, hk2, hw2, hg2, hl2, hd2, hv2⟩
          have hy2 := hx1.kept hg2 (by simp; omega)
          have hb2 := hb1.trans (below_row hg2 hy1.lo hy1.size)
          have hlo := hy1.lo
          have hbx := hy1.bnd
          have hsz2 := hy2.size
          have hln2 : zs.length = ny := hl2.trans hy1.len.out
          have HL2 := Lib.hid hln2
          have hev : Hid (val B zs % 2 = 0 ∧ 0 < val B zs ∧ val B zs = val B ys - val B xs) := by
            have h3 := hy1.odd.out; have h4 := hx1.odd.out; have h5 := HM.out
            refine ⟨?_, ?_, ?_⟩ <;> omega
          have HOY := hx1.odd
          clear hg2 hl2 hln2 hv2 hb1 hx1 hy1
          go_wp2_with fail
          refine (cut_at w2 (some ⟨py, 0, none⟩) ny ny zs HL2.out (Rdo.of hk2 hw2.lies) (by omega) (Nat.le_refl _)).mono ?_
          rintro e w3 ⟨k, hk, rfl, ht3, hv3, rfl⟩
          have hkp : 0 < k := pos_take hv3 hev.out.2.1
          rw [Sa_pos hkp]
          have hlk : (zs.take k).length = k := by rw [List.length_take]; omega
          have HLK := Lib.hid hlk
          have hkn : k ≤ ny := by rw [HL2.out] at hk; exact hk
          have hat3 := hw2.lies.take k
          have hd3 := hd2.take k
          have HV3 := Lib.hid hv3
          have hT2 := HT.out.below hb2 hN
          clear hv3 hk hlk
          go_wp2_with fail
          refine (twos_any w2 _ k k (zs.take k) HLK.out (Rdo.of hk2 hat3) hd3 (by rw [HV3.out]; exact hev.out.2.1) (by omega) hT2).mono ?_
          rintro e w3 ⟨tt, mm, rfl, hf3, htt, rfl⟩
          have HF3 := Lib.hid hf3
          clear hf3
          go_wp2_with fail
          refine (lower_any w2 py 0 k k (zs.take k) cs2 tt HLK.out hk2 hat3 hd3 (Nat.le_refl _) (by omega) (by omega)).mono ?_
          rintro e w4 ⟨s4, m4, cap4, cs4, zs4, rfl, hm4, hl4, hlx4, hd4, hv4, hs4, _, hk4, hat4, hg4⟩
          have hv4' : val B zs4 = 2 * mm + 1 := by rw [hv4, HF3.out]; exact Nat.mul_div_cancel_left _ (Nat.two_pow_pos tt)
          have hp4 : 0 < m4 := by
            rcases Nat.eq_zero_or_pos m4 with e | e
            · rw [List.length_eq_zero_iff.1 (hl4.trans e)] at hv4'; simp [val] at hv4'
            · exact e
          obtain rfl := hs4 hp4
          have hy4 := hy2.kept hg4 (by simp; omega)
          have hb4 := hb2.trans (below_row hg4 hlo hsz2)
          have hm4k : m4 ≤ k := by rw [HLK.out] at hlx4; exact hlx4
          have HL4 := Lib.hid hl4
          have HV4 := Lib.hid hv4'
          clear hv4 hv4' hl4 hs4 hg4 hy2 hb2 hlx4 hk2 hw2 hd2 hat3 hd3 hT2
          go_wp2_with fail
          refine (cut_at w4 (some ⟨py, 0, none⟩) m4 cap4 zs4 HL4.out (Rdo.of hk4 hat4) (by omega) hm4).mono ?_
          rintro e w5 ⟨k5, hk5, rfl, ht5, hv5, rfl⟩
          have hkp5 : 0 < k5 := pos_take hv5 (by rw [HV4.out]; omega)
          rw [Sa_pos hkp5]
          have hk5m : k5 ≤ m4 := by rw [HL4.out] at hk5; exact hk5
          have hlk5 : (zs4.take k5).length = k5 := by rw [List.length_take]; omega
          have hnew : OddIn N w4 py k5 (zs4.take k5) cs4 := ⟨hlo, hk4, hat4.take k5, hlk5, ht5, hd4.take k5, by show _ = _; rw [hv5, HV4.out]; omega, by omega⟩
          have hgn : Hid (Nat.gcd (val B (zs4.take k5)) (val B xs) = g) := by
            show _ = _
            have h6 := hev.out.2.2
            rw [← HV3.out, HF3.out] at h6
            rw [hv5, HV4.out, odd_step HOY.out HM.out h6.symm, Nat.gcd_comm]; exact hg.out
          have hms : Hid (val B (zs4.take k5) + val B xs < gk) := by
            show _ < _
            have h6 := hev.out.2.2
            have h7 := HV3.out
            have h8 : 2 * mm + 1 ≤ 2 ^ tt * (2 * mm + 1) := Nat.le_mul_of_pos_left _ (Nat.two_pow_pos tt)
            have h9 := HF3.out
            have h10 := HM.out
            have h11 : val B xs % 2 = 1 := HOY.out
            have h12 := hgh.out
            rw [hv5, HV4.out]; omega
          clear hv5 hlk5 hk5 ht5 hk4 hat4 hd4
          go_wp2_with fail
          go_roundg (val B (zs4.take k5) + val B xs)
          case measure => exact hms.out
          case rel => exact ⟨py, k5, zs4.take k5, cs4, px, nx, xs, cx, rfl, rfl, hnew, hy4, Ne.symm hne, by omega, hMx, hgn, hb4, Nat.le_refl _⟩
end Go.Proofs.YtooeonjkpgbdpaaDoor
