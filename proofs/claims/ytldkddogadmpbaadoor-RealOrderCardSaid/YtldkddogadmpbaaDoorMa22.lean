/- What the laws lean on, part 22. -/
import Derived.Deep.RegionHeld3
import Derived.Deep.AppendLies
import Derived.Test.YtldkddogadmpbaaDoorMa21
import Derived.Test.YtldkddogadmpbaaDoorMa13
import Derived.Test.YtldkddogadmpbaaDoorMa12
namespace Go.Proofs.YtldkddogadmpbaaDoor
open Go.RowKit Mat
set_option maxRecDepth 100000
set_option linter.unusedVariables false
set_option linter.unusedSimpArgs false
theorem zt_1 : ZTextOf { data := #[49] } 1 := ⟨[49], dec_of (by decide +kernel), by decide +kernel, by decide +kernel⟩
theorem zt_m2 : ZTextOf { data := #[45, 50] } (-2) := ⟨[50], dec_of (by decide +kernel), by decide +kernel, by decide +kernel⟩
theorem k_one : bval [65, 16, 0, 0, 0, 0, 0, 0] = 1 := by decide +kernel
theorem k_mtwo : bval [193, 32, 0, 0, 0, 0, 0, 0] = -2 := by decide +kernel
theorem n_one : (1 : Rat).num = 1 ∧ (1 : Rat).den = 1 := by decide
theorem n_mtwo : (-2 : Rat).num = -2 ∧ (-2 : Rat).den = 1 := by decide +kernel
theorem n_90 : (Rat.divInt 90 1).num = 90 ∧ (Rat.divInt 90 1).den = 1 := by decide +kernel
theorem n_mil : (Rat.divInt 1 1000).num = 1 ∧ (Rat.divInt 1 1000).den = 1000 := by decide +kernel
theorem enc_90 : EncIs (Rat.divInt 90 1) (some (66, 90 * 2 ^ 48)) := by
  obtain ⟨h1, h2⟩ := n_90
  refine Or.inl ⟨66, 90 * 2 ^ 48, rfl, by omega, by omega, ?_, ?_⟩
  · unfold EQ
    rw [h1, h2, HU_add (a := 48) (b := 4 * 66) (by omega)]
    obtain ⟨X, hX⟩ : ∃ X, 2 ^ (4 * 66) = X := ⟨_, rfl⟩
    rw [hX]
    show 90 * (2 ^ 48 * X) = 90 * 2 ^ 48 * X * 1
    omega
  · intro e' m' he hm h
    unfold EQ at h
    rw [h1, h2, HU_add (a := 4 * 78 - 4 * e') (b := 4 * e') (by omega)] at h
    have hp : 0 < 2 ^ (4 * e') := Nat.pow_pos (by omega)
    have h3 : 2 ^ 52 ≤ 2 ^ (4 * 78 - 4 * e') := Nat.pow_le_pow_right (by omega) (by omega)
    generalize 2 ^ (4 * 78 - 4 * e') = Y at h h3
    generalize 2 ^ (4 * e') = X at h hp
    have h4 : 90 * Y * X = m' * X := by rw [Nat.mul_one] at h; rw [Nat.mul_assoc]; exact h
    have h5 := Nat.eq_of_mul_eq_mul_right hp h4
    omega
theorem enc_mil : EncIs (Rat.divInt 1 1000) none := enc_none fun s hs h => by
  rw [n_mil.2] at h
  rcases Nat.lt_or_ge s 10 with g | g
  · have : s = 0 ∨ s = 1 ∨ s = 2 ∨ s = 3 ∨ s = 4 ∨ s = 5 ∨ s = 6 ∨ s = 7 ∨ s = 8 ∨ s = 9 := by omega
    rcases this with rfl | rfl | rfl | rfl | rfl | rfl | rfl | rfl | rfl | rfl <;> omega
  · have : 2 ^ 10 ≤ 2 ^ s := Nat.pow_le_pow_right (by omega) g
    omega
set_option maxHeartbeats 16000000 in
theorem known_any (w : World) (hTab : Tab w) :
    Calls Tryd.prog 10 #[] w (fun e w' => e = .returned (.bool true) ∧ w.grownBy w' none) := by
  have HTB : Hid (∀ W, w.grownBy W none → Tab W) := fun W hW => hTab.kept hW (by simp)
  clear hTab
  obtain ⟨r1, h1⟩ : ∃ r, bval [65, 16, 0, 0, 0, 0, 0, 0] = r := ⟨_, rfl⟩
  have k1 := k_one
  rw [h1] at k1
  have C1 : Hid (∀ W g cap, BySl W (some ⟨g, 0, none⟩) [65, 16, 0, 0, 0, 0, 0, 0] → 8 ≤ cap → cap ≤ 9223372036854775807 → Tab W → Calls Tryd.prog 8 #[.slice (some ⟨g, 0, none⟩) 8 cap] W (RetRatE W r1 0)) := fun W g cap hb h8 hc hT => by
    have h := Dec_any W (some ⟨g, 0, none⟩) 8 cap [65, 16, 0, 0, 0, 0, 0, 0] rfl hb h8 hc hT
    rw [h1] at h; exact h
  have N1 : Hid (r1.num.natAbs < B ^ 1 ∧ r1.den < B ^ 1) := ⟨by rw [k1, n_one.1]; unfold B; decide, by rw [k1, n_one.2]; unfold B; decide⟩
  have T1 : Hid (RTextOf { data := #[49] } r1) := Or.inl ⟨by rw [k1, n_one.2], by rw [k1, n_one.1]; exact zt_1⟩
  obtain ⟨r2, h2⟩ : ∃ r, bval [193, 32, 0, 0, 0, 0, 0, 0] = r := ⟨_, rfl⟩
  have k2 := k_mtwo
  rw [h2] at k2
  have C2 : Hid (∀ W g cap, BySl W (some ⟨g, 0, none⟩) [193, 32, 0, 0, 0, 0, 0, 0] → 8 ≤ cap → cap ≤ 9223372036854775807 → Tab W → Calls Tryd.prog 8 #[.slice (some ⟨g, 0, none⟩) 8 cap] W (RetRatE W r2 0)) := fun W g cap hb h8 hc hT => by
    have h := Dec_any W (some ⟨g, 0, none⟩) 8 cap [193, 32, 0, 0, 0, 0, 0, 0] rfl hb h8 hc hT
    rw [h2] at h; exact h
  have N2 : Hid (r2.num.natAbs < B ^ 1 ∧ r2.den < B ^ 1) := ⟨by rw [k2, n_mtwo.1]; unfold B; decide, by rw [k2, n_mtwo.2]; unfold B; decide⟩
  have T2 : Hid (RTextOf { data := #[45, 50] } r2) := Or.inl ⟨by rw [k2, n_mtwo.2], by rw [k2, n_mtwo.1]; exact zt_m2⟩
  obtain ⟨r3, h3⟩ : ∃ r, Rat.divInt 90 1 = r := ⟨_, rfl⟩
  have C3 : Hid (∀ W, Tab W → Calls Tryd.prog 19 #[.int .i64 90, .int .i64 1] W (RetRatE W r3 0)) := fun W hT => by
    have h := FOf_any W 90 1 (by omega) (by omega) (by omega) (by omega) hT
    rw [h3, if_neg (by decide)] at h; exact h
  have N3 : r3.num.natAbs < B ^ 1 ∧ r3.den < B ^ 1 := ⟨by rw [← h3, n_90.1]; unfold B; decide, by rw [← h3, n_90.2]; unfold B; decide⟩
  have E3 : Hid (∀ W v, RatV W v r3 → Calls Tryd.prog 14 #[v] W (fun e w' => ∃ a cap, e = .returned (.tuple #[.slice (some a) 8 cap, .int .i64 0]) ∧ w'.cell? a = some (.int .u8 66) ∧ w'.cell? ⟨a.block, a.off + 1, none⟩ = some (.int .u8 90) ∧ 8 ≤ cap ∧ cap ≤ 8 ∧ W.grownBy w' none)) := fun W v hv => by
    refine (Enc_any W v r3 1 hv (by omega) N3.1 N3.2).mono ?_
    rintro e w' ⟨o, s, n, cap, rfl, ho, hn, hb, hc, hc8, hg⟩
    have hn3 : r3.num = 90 := by rw [← h3]; exact n_90.1
    rw [← h3] at ho
    have := ho.uniq enc_90
    subst this
    have hl : encL r3 (some (66, 90 * 2 ^ 48)) = [66, 90, 0, 0, 0, 0, 0, 0] := by unfold encL; rw [hn3]; decide +kernel
    rw [hl] at hn hb
    subst hn
    obtain ⟨a, rfl, hx⟩ := hb.1.resolve_left (by simp)
    exact ⟨a, cap, rfl, hx 0 (by simp), hx 1 (by simp), hc, hc8, hg⟩
  obtain ⟨r4, h4⟩ : ∃ r, Rat.divInt 1 1000 = r := ⟨_, rfl⟩
  have C4 : Hid (∀ W, Tab W → Calls Tryd.prog 19 #[.int .i64 1, .int .i64 1000] W (RetRatE W r4 0)) := fun W hT => by
    have h := FOf_any W 1 1000 (by omega) (by omega) (by omega) (by omega) hT
    rw [h4, if_neg (by decide)] at h; exact h
  have N4 : r4.num.natAbs < B ^ 1 ∧ r4.den < B ^ 1 := ⟨by rw [← h4, n_mil.1]; unfold B; decide, by rw [← h4, n_mil.2]; unfold B; decide⟩
  have E4 : Hid (∀ W v, RatV W v r4 → Calls Tryd.prog 14 #[v] W (fun e w' => ∃ s n cap, e = .returned (.tuple #[.slice s n cap, .int .i64 4]) ∧ W.grownBy w' none)) := fun W v hv => by
    refine (Enc_any W v r4 1 hv (by omega) N4.1 N4.2).mono ?_
    rintro e w' ⟨o, s, n, cap, rfl, ho, hn, hb, hc, hc8, hg⟩
    rw [← h4] at ho
    have := ho.uniq enc_mil
    subst this
    exact ⟨s, n, cap, rfl, hg⟩
  clear h1 h2 h3 h4 k1 k2 N3 N4
  have hG : w.grownBy w none := grown_refl _ _
  have y1 := by_new w 5 65 16 0 0 0 0 0 0 (by decide)
  have gy1 := World.grownBy_alloc w (.cells #[.int .u8 65, .int .u8 16, .int .u8 0, .int .u8 0, .int .u8 0, .int .u8 0, .int .u8 0, .int .u8 0] 5) none
  replace hG := grown_trans hG gy1
  clear gy1
  go_enter Tryd.func10, Tryd.ntmps10
  go_wp2_with fail
  change BySl (w.alloc (.cells #[.int .u8 65, .int .u8 16, .int .u8 0, .int .u8 0, .int .u8 0, .int .u8 0, .int .u8 0, .int .u8 0] 5)) _ _ at y1
  generalize (w.alloc (.cells #[.int .u8 65, .int .u8 16, .int .u8 0, .int .u8 0, .int .u8 0, .int .u8 0, .int .u8 0, .int .u8 0] 5)) = w1 at *
  refine (C1.out w1 _ _ y1 (Nat.le_refl _) (by omega) (HTB.out _ hG)).mono ?_
  rintro e w2 ⟨_, rfl, ⟨sa, xa, ba, sa', xa', ba', rfl, ha, ha'⟩, gw2⟩
  have qa : RatV w2 (.agg #[.slice sa xa.length xa.length, .bool ba, .slice sa' xa'.length xa'.length, .bool ba']) (r1) := ⟨sa, xa, ba, sa', xa', ba', rfl, ha, ha'⟩
  replace hG := grown_trans hG gw2
  clear gw2
  clear ha ha'
  clear y1
  have gbw2 := (World.grownBy_alloc w2 (.cells #[.slice sa xa.length xa.length, .bool ba, .slice sa' xa'.length xa'.length, .bool ba'] 30) none)
  have Ba := (heap_new w2 (.cells #[.slice sa xa.length xa.length, .bool ba, .slice sa' xa'.length xa'.length, .bool ba'] 30) (w2.heap.size) rfl)
  have hzw2 : Hid (w.heap.size ≤ w2.heap.size) := Lib.hid hG.size
  replace qa := qa.kept gbw2
  replace hG := grown_trans hG gbw2
  clear gbw2
  obtain ⟨Ca0, Ca1, Ca2, Ca3, Fa0, Fa1, Fa2, Fa3⟩ := box_cells4 Ba
  have y2 := by_new (w2.alloc (.cells #[.slice sa xa.length xa.length, .bool ba, .slice sa' xa'.length xa'.length, .bool ba'] 30)) 5 193 32 0 0 0 0 0 0 (by decide)
  rw [show (w2.alloc (.cells #[.slice sa xa.length xa.length, .bool ba, .slice sa' xa'.length xa'.length, .bool ba'] 30)).heap.size = w2.heap.size + 1 by simp] at y2
  have gy2 := World.grownBy_alloc (w2.alloc (.cells #[.slice sa xa.length xa.length, .bool ba, .slice sa' xa'.length xa'.length, .bool ba'] 30)) (.cells #[.int .u8 193, .int .u8 32, .int .u8 0, .int .u8 0, .int .u8 0, .int .u8 0, .int .u8 0, .int .u8 0] 5) none
  clear Ca0 Ca1 Ca2 Ca3 Fa0 Fa1 Fa2 Fa3
  replace Ba := heap_kept gy2 Ba
  replace qa := qa.kept gy2
  replace hG := grown_trans hG gy2
  clear gy2
  obtain ⟨Ca0, Ca1, Ca2, Ca3, Fa0, Fa1, Fa2, Fa3⟩ := box_cells4 Ba
  go_wp2_with fail
  change BySl ((w2.alloc (.cells #[.slice sa xa.length xa.length, .bool ba, .slice sa' xa'.length xa'.length, .bool ba'] 30)).alloc (.cells #[.int .u8 193, .int .u8 32, .int .u8 0, .int .u8 0, .int .u8 0, .int .u8 0, .int .u8 0, .int .u8 0] 5)) _ _ at y2
  generalize ((w2.alloc (.cells #[.slice sa xa.length xa.length, .bool ba, .slice sa' xa'.length xa'.length, .bool ba'] 30)).alloc (.cells #[.int .u8 193, .int .u8 32, .int .u8 0, .int .u8 0, .int .u8 0, .int .u8 0, .int .u8 0, .int .u8 0] 5)) = w3 at *
  generalize w2.heap.size = aw2 at *
  replace hzw2 := hzw2.out
  clear Ca0 Ca1 Ca2 Ca3 Fa0 Fa1 Fa2 Fa3
  refine (C2.out w3 _ _ y2 (Nat.le_refl _) (by omega) (HTB.out _ hG)).mono ?_
  rintro e w4 ⟨_, rfl, ⟨sb, xb, bb, sb', xb', bb', rfl, hb, hb'⟩, gw4⟩
  have qb : RatV w4 (.agg #[.slice sb xb.length xb.length, .bool bb, .slice sb' xb'.length xb'.length, .bool bb']) (r2) := ⟨sb, xb, bb, sb', xb', bb', rfl, hb, hb'⟩
  replace Ba := heap_kept gw4 Ba
  replace qa := qa.kept gw4
  replace hG := grown_trans hG gw4
  clear gw4
  clear hb hb'
  obtain ⟨Ca0, Ca1, Ca2, Ca3, Fa0, Fa1, Fa2, Fa3⟩ := box_cells4 Ba
  clear y2
  have gbw4 := (World.grownBy_alloc w4 (.cells #[.slice sb xb.length xb.length, .bool bb, .slice sb' xb'.length xb'.length, .bool bb'] 30) none)
  have Bb := (heap_new w4 (.cells #[.slice sb xb.length xb.length, .bool bb, .slice sb' xb'.length xb'.length, .bool bb'] 30) (w4.heap.size) rfl)
  have hzw4 : Hid (w.heap.size ≤ w4.heap.size) := Lib.hid hG.size
  have hlaw4 : Hid (aw2 < w4.heap.size) := Lib.hid (Array.getElem?_eq_some_iff.1 Ba).1
  clear Ca0 Ca1 Ca2 Ca3 Fa0 Fa1 Fa2 Fa3
  replace Ba := heap_kept gbw4 Ba
  replace qa := qa.kept gbw4
  replace qb := qb.kept gbw4
  replace hG := grown_trans hG gbw4
  clear gbw4
  obtain ⟨Ca0, Ca1, Ca2, Ca3, Fa0, Fa1, Fa2, Fa3⟩ := box_cells4 Ba
  obtain ⟨Cb0, Cb1, Cb2, Cb3, Fb0, Fb1, Fb2, Fb3⟩ := box_cells4 Bb
  go_wp2_with fail
  generalize (w4.alloc (.cells #[.slice sb xb.length xb.length, .bool bb, .slice sb' xb'.length xb'.length, .bool bb'] 30)) = w5 at *
  generalize w4.heap.size = aw4 at *
  replace hzw4 := hzw4.out
  replace hlaw4 := hlaw4.out
  clear Ca0 Ca1 Ca2 Ca3 Fa0 Fa1 Fa2 Fa3 Cb0 Cb1 Cb2 Cb3 Fb0 Fb1 Fb2 Fb3
  refine (C3.out w5 (HTB.out _ hG)).mono ?_
  rintro e w6 ⟨_, rfl, ⟨sc, xc, bc, sc', xc', bc', rfl, hc, hc'⟩, gw6⟩
  have qc : RatV w6 (.agg #[.slice sc xc.length xc.length, .bool bc, .slice sc' xc'.length xc'.length, .bool bc']) (r3) := ⟨sc, xc, bc, sc', xc', bc', rfl, hc, hc'⟩
  replace Ba := heap_kept gw6 Ba
  replace Bb := heap_kept gw6 Bb
  replace qa := qa.kept gw6
  replace qb := qb.kept gw6
  replace hG := grown_trans hG gw6
  clear gw6
  clear hc hc'
  obtain ⟨Ca0, Ca1, Ca2, Ca3, Fa0, Fa1, Fa2, Fa3⟩ := box_cells4 Ba
  obtain ⟨Cb0, Cb1, Cb2, Cb3, Fb0, Fb1, Fb2, Fb3⟩ := box_cells4 Bb
  have gbw6 := (World.grownBy_alloc w6 (.cells #[.slice sc xc.length xc.length, .bool bc, .slice sc' xc'.length xc'.length, .bool bc'] 30) none)
  have Bc := (heap_new w6 (.cells #[.slice sc xc.length xc.length, .bool bc, .slice sc' xc'.length xc'.length, .bool bc'] 30) (w6.heap.size) rfl)
  have hzw6 : Hid (w.heap.size ≤ w6.heap.size) := Lib.hid hG.size
  have hlaw6 : Hid (aw2 < w6.heap.size) := Lib.hid (Array.getElem?_eq_some_iff.1 Ba).1
  have hlbw6 : Hid (aw4 < w6.heap.size) := Lib.hid (Array.getElem?_eq_some_iff.1 Bb).1
  clear Ca0 Ca1 Ca2 Ca3 Fa0 Fa1 Fa2 Fa3 Cb0 Cb1 Cb2 Cb3 Fb0 Fb1 Fb2 Fb3
  replace Ba := heap_kept gbw6 Ba
  replace Bb := heap_kept gbw6 Bb
  replace qa := qa.kept gbw6
  replace qb := qb.kept gbw6
  replace qc := qc.kept gbw6
  replace hG := grown_trans hG gbw6
  clear gbw6
  obtain ⟨Ca0, Ca1, Ca2, Ca3, Fa0, Fa1, Fa2, Fa3⟩ := box_cells4 Ba
  obtain ⟨Cb0, Cb1, Cb2, Cb3, Fb0, Fb1, Fb2, Fb3⟩ := box_cells4 Bb
  obtain ⟨Cc0, Cc1, Cc2, Cc3, Fc0, Fc1, Fc2, Fc3⟩ := box_cells4 Bc
  go_wp2_with fail
  generalize (w6.alloc (.cells #[.slice sc xc.length xc.length, .bool bc, .slice sc' xc'.length xc'.length, .bool bc'] 30)) = w7 at *
  generalize w6.heap.size = aw6 at *
  replace hzw6 := hzw6.out
  replace hlaw6 := hlaw6.out
  replace hlbw6 := hlbw6.out
  clear Ca0 Ca1 Ca2 Ca3 Fa0 Fa1 Fa2 Fa3 Cb0 Cb1 Cb2 Cb3 Fb0 Fb1 Fb2 Fb3 Cc0 Cc1 Cc2 Cc3 Fc0 Fc1 Fc2 Fc3
  refine (E3.out w7 _ qc).mono ?_
  rintro e w8 ⟨ad, capd, rfl, d0, d1, hd8, hd9, gw8⟩
  replace Ba := heap_kept gw8 Ba
  replace Bb := heap_kept gw8 Bb
  replace Bc := heap_kept gw8 Bc
  replace qa := qa.kept gw8
  replace qb := qb.kept gw8
  replace qc := qc.kept gw8
  replace hG := grown_trans hG gw8
  clear gw8
  obtain ⟨Ca0, Ca1, Ca2, Ca3, Fa0, Fa1, Fa2, Fa3⟩ := box_cells4 Ba
  obtain ⟨Cb0, Cb1, Cb2, Cb3, Fb0, Fb1, Fb2, Fb3⟩ := box_cells4 Bb
  obtain ⟨Cc0, Cc1, Cc2, Cc3, Fc0, Fc1, Fc2, Fc3⟩ := box_cells4 Bc
  have HD0 := Lib.hid d0; have HD1 := Lib.hid d1; clear d0 d1
  go_wp2_with fail
  have hDG := grown_refl w8 none
  clear Ca0 Ca1 Ca2 Ca3 Fa0 Fa1 Fa2 Fa3 Cb0 Cb1 Cb2 Cb3 Fb0 Fb1 Fb2 Fb3 Cc0 Cc1 Cc2 Cc3 Fc0 Fc1 Fc2 Fc3
  refine (C4.out w8 (HTB.out _ hG)).mono ?_
  rintro e w9 ⟨_, rfl, ⟨sm, xm, bm, sm', xm', bm', rfl, hm, hm'⟩, gw9⟩
  have qm : RatV w9 (.agg #[.slice sm xm.length xm.length, .bool bm, .slice sm' xm'.length xm'.length, .bool bm']) (r4) := ⟨sm, xm, bm, sm', xm', bm', rfl, hm, hm'⟩
  replace Ba := heap_kept gw9 Ba
  replace Bb := heap_kept gw9 Bb
  replace Bc := heap_kept gw9 Bc
  replace qa := qa.kept gw9
  replace qb := qb.kept gw9
  replace qc := qc.kept gw9
  replace hG := grown_trans hG gw9
  replace hDG := grown_trans hDG gw9
  clear gw9
  clear hm hm'
  obtain ⟨Ca0, Ca1, Ca2, Ca3, Fa0, Fa1, Fa2, Fa3⟩ := box_cells4 Ba
  obtain ⟨Cb0, Cb1, Cb2, Cb3, Fb0, Fb1, Fb2, Fb3⟩ := box_cells4 Bb
  obtain ⟨Cc0, Cc1, Cc2, Cc3, Fc0, Fc1, Fc2, Fc3⟩ := box_cells4 Bc
  have gbw9 := (World.grownBy_alloc w9 (.cells #[.slice sm xm.length xm.length, .bool bm, .slice sm' xm'.length xm'.length, .bool bm'] 30) none)
  have Bm := (heap_new w9 (.cells #[.slice sm xm.length xm.length, .bool bm, .slice sm' xm'.length xm'.length, .bool bm'] 30) (w9.heap.size) rfl)
  have hzw9 : Hid (w.heap.size ≤ w9.heap.size) := Lib.hid hG.size
  have hlaw9 : Hid (aw2 < w9.heap.size) := Lib.hid (Array.getElem?_eq_some_iff.1 Ba).1
  have hlbw9 : Hid (aw4 < w9.heap.size) := Lib.hid (Array.getElem?_eq_some_iff.1 Bb).1
  have hlcw9 : Hid (aw6 < w9.heap.size) := Lib.hid (Array.getElem?_eq_some_iff.1 Bc).1
  clear Ca0 Ca1 Ca2 Ca3 Fa0 Fa1 Fa2 Fa3 Cb0 Cb1 Cb2 Cb3 Fb0 Fb1 Fb2 Fb3 Cc0 Cc1 Cc2 Cc3 Fc0 Fc1 Fc2 Fc3
  replace Ba := heap_kept gbw9 Ba
  replace Bb := heap_kept gbw9 Bb
  replace Bc := heap_kept gbw9 Bc
  replace qa := qa.kept gbw9
  replace qb := qb.kept gbw9
  replace qc := qc.kept gbw9
  replace qm := qm.kept gbw9
  replace hG := grown_trans hG gbw9
  replace hDG := grown_trans hDG gbw9
  clear gbw9
  obtain ⟨Ca0, Ca1, Ca2, Ca3, Fa0, Fa1, Fa2, Fa3⟩ := box_cells4 Ba
  obtain ⟨Cb0, Cb1, Cb2, Cb3, Fb0, Fb1, Fb2, Fb3⟩ := box_cells4 Bb
  obtain ⟨Cc0, Cc1, Cc2, Cc3, Fc0, Fc1, Fc2, Fc3⟩ := box_cells4 Bc
  obtain ⟨Cm0, Cm1, Cm2, Cm3, Fm0, Fm1, Fm2, Fm3⟩ := box_cells4 Bm
  go_wp2_with fail
  generalize (w9.alloc (.cells #[.slice sm xm.length xm.length, .bool bm, .slice sm' xm'.length xm'.length, .bool bm'] 30)) = w10 at *
  generalize w9.heap.size = aw9 at *
  replace hzw9 := hzw9.out
  replace hlaw9 := hlaw9.out
  replace hlbw9 := hlbw9.out
  replace hlcw9 := hlcw9.out
  clear Ca0 Ca1 Ca2 Ca3 Fa0 Fa1 Fa2 Fa3 Cb0 Cb1 Cb2 Cb3 Fb0 Fb1 Fb2 Fb3 Cc0 Cc1 Cc2 Cc3 Fc0 Fc1 Fc2 Fc3 Cm0 Cm1 Cm2 Cm3 Fm0 Fm1 Fm2 Fm3
  refine (E4.out w10 _ qm).mono ?_
  rintro e w11 ⟨se, ne, ce, rfl, gw11⟩
  replace Ba := heap_kept gw11 Ba
  replace Bb := heap_kept gw11 Bb
  replace Bc := heap_kept gw11 Bc
  replace Bm := heap_kept gw11 Bm
  replace qa := qa.kept gw11
  replace qb := qb.kept gw11
  replace qc := qc.kept gw11
  replace qm := qm.kept gw11
  replace hG := grown_trans hG gw11
  replace hDG := grown_trans hDG gw11
  clear gw11
  obtain ⟨Ca0, Ca1, Ca2, Ca3, Fa0, Fa1, Fa2, Fa3⟩ := box_cells4 Ba
  obtain ⟨Cb0, Cb1, Cb2, Cb3, Fb0, Fb1, Fb2, Fb3⟩ := box_cells4 Bb
  obtain ⟨Cc0, Cc1, Cc2, Cc3, Fc0, Fc1, Fc2, Fc3⟩ := box_cells4 Bc
  obtain ⟨Cm0, Cm1, Cm2, Cm3, Fm0, Fm1, Fm2, Fm3⟩ := box_cells4 Bm
  go_wp2_with fail
  clear Ca0 Ca1 Ca2 Ca3 Fa0 Fa1 Fa2 Fa3 Cb0 Cb1 Cb2 Cb3 Fb0 Fb1 Fb2 Fb3 Cc0 Cc1 Cc2 Cc3 Fc0 Fc1 Fc2 Fc3 Cm0 Cm1 Cm2 Cm3 Fm0 Fm1 Fm2 Fm3
  refine (FText_any w11 _ r1 1 qa (by omega) N1.out.1 N1.out.2).mono ?_
  rintro e w12 ⟨x1', rfl, hx1, gw12⟩
  obtain rfl := rtext_uniq hx1 T1.out
  clear hx1
  replace Ba := heap_kept gw12 Ba
  replace Bb := heap_kept gw12 Bb
  replace Bc := heap_kept gw12 Bc
  replace Bm := heap_kept gw12 Bm
  replace qa := qa.kept gw12
  replace qb := qb.kept gw12
  replace qc := qc.kept gw12
  replace qm := qm.kept gw12
  replace hG := grown_trans hG gw12
  replace hDG := grown_trans hDG gw12
  clear gw12
  obtain ⟨Ca0, Ca1, Ca2, Ca3, Fa0, Fa1, Fa2, Fa3⟩ := box_cells4 Ba
  obtain ⟨Cb0, Cb1, Cb2, Cb3, Fb0, Fb1, Fb2, Fb3⟩ := box_cells4 Bb
  obtain ⟨Cc0, Cc1, Cc2, Cc3, Fc0, Fc1, Fc2, Fc3⟩ := box_cells4 Bc
  obtain ⟨Cm0, Cm1, Cm2, Cm3, Fm0, Fm1, Fm2, Fm3⟩ := box_cells4 Bm
  go_wp2_with fail
  clear Ca0 Ca1 Ca2 Ca3 Fa0 Fa1 Fa2 Fa3 Cb0 Cb1 Cb2 Cb3 Fb0 Fb1 Fb2 Fb3 Cc0 Cc1 Cc2 Cc3 Fc0 Fc1 Fc2 Fc3 Cm0 Cm1 Cm2 Cm3 Fm0 Fm1 Fm2 Fm3
  refine (FText_any w12 _ r2 1 qb (by omega) N2.out.1 N2.out.2).mono ?_
  rintro e w13 ⟨x2', rfl, hx2, gw13⟩
  obtain rfl := rtext_uniq hx2 T2.out
  clear hx2
  replace Ba := heap_kept gw13 Ba
  replace Bb := heap_kept gw13 Bb
  replace Bc := heap_kept gw13 Bc
  replace Bm := heap_kept gw13 Bm
  replace qa := qa.kept gw13
  replace qb := qb.kept gw13
  replace qc := qc.kept gw13
  replace qm := qm.kept gw13
  replace hG := grown_trans hG gw13
  replace hDG := grown_trans hDG gw13
  clear gw13
  obtain ⟨Ca0, Ca1, Ca2, Ca3, Fa0, Fa1, Fa2, Fa3⟩ := box_cells4 Ba
  obtain ⟨Cb0, Cb1, Cb2, Cb3, Fb0, Fb1, Fb2, Fb3⟩ := box_cells4 Bb
  obtain ⟨Cc0, Cc1, Cc2, Cc3, Fc0, Fc1, Fc2, Fc3⟩ := box_cells4 Bc
  obtain ⟨Cm0, Cm1, Cm2, Cm3, Fm0, Fm1, Fm2, Fm3⟩ := box_cells4 Bm
  have d0 := hDG.cell HD0.out (by simp)
  have d1 := hDG.cell HD1.out (by simp)
  go_wp2_with fail
  go_ret
  exact ⟨by first | rfl | simp, hG⟩
end Go.Proofs.YtldkddogadmpbaaDoor
namespace Go.Proofs.YtldkddogadmpbaaDoor
open Go.RowKit Mat
set_option maxRecDepth 100000
set_option linter.unusedVariables false
set_option linter.unusedSimpArgs false
structure BIn (w : World) (s : Option Addr) (m cap : Nat) (l : List Nat) : Prop where
  len : l.length = m
  by' : BySl w s l
  nil : s = none → m = 0 ∧ cap = 0
  few : m ≤ 64
  room : m ≤ cap
  cap : cap ≤ 9223372036854775807
theorem BIn.kept {w W : World} {s : Option Addr} {m cap : Nat} {l : List Nat} (h : BIn w s m cap l) (g : w.grownBy W none) : BIn W s m cap l := ⟨h.len, h.by'.kept g, h.nil, h.few, h.room, h.cap⟩
def RetCopy (w : World) (m : Nat) (l : List Nat) (e : Ending) (w' : World) : Prop := ∃ g cap, e = .returned (.slice (some ⟨g, 0, none⟩) m cap) ∧ BIn w' (some ⟨g, 0, none⟩) m cap l ∧ w.heap.size ≤ g ∧ w.grownBy w' none
theorem copied_in (w : World) (s : Option Addr) (m cap : Nat) (l : List Nat) (h : BIn w s m cap l) : Calls Tryd.prog 7 #[.slice s m cap] w (RetCopy w m l) := by
  refine (copied_any w s m cap l h.len h.by' h.nil h.few).mono ?_
  rintro e w' ⟨g, c, rfl, hb, hl, hc, hm, hg⟩
  rw [h.len] at hc ⊢
  exact ⟨g, c, rfl, ⟨h.len, hb, fun e => (by cases e), h.few, hc, hm⟩, hl, hg⟩
theorem dec_in (w : World) (s : Option Addr) (m cap : Nat) (l : List Nat) (h : BIn w s m cap l) (hT : Tab w) : Calls Tryd.prog 8 #[.slice s m cap] w (RetRatE w (bval l) (bcod l)) := Dec_any w s m cap l h.len h.by' h.room h.cap hT
theorem same_in (w : World) (s t : Option Addr) (m cap cap' : Nat) (l : List Nat) (h : BIn w s m cap l) (k : BIn w t m cap' l) : Calls Tryd.prog 11 #[.slice s m cap, .slice t m cap'] w (fun e w' => e = .returned (.bool true) ∧ w.grownBy w' none) := by
  refine (same_any w s t m m cap cap' l h.len h.len h.by' k.by').mono ?_
  rintro e w' ⟨rfl, rfl⟩
  exact ⟨rfl, grown_refl _ _⟩
theorem BIn.take {w : World} {s : Option Addr} {n cap : Nat} {l : List Nat} (hn : l.length = n) (hb : BySl w s l) (hz : s = none → n = 0 ∧ cap = 0) (hr : n ≤ cap) (hc : cap ≤ 9223372036854775807) (k : Nat) (hk : k ≤ 64) (hkn : k ≤ n) : BIn w s k cap (l.take k) := by
  refine ⟨by rw [List.length_take]; omega, ⟨?_, fun x hx => hb.2 x (List.mem_of_mem_take hx)⟩, fun e => ?_, hk, by omega, hc⟩
  · rcases hb.1 with h | ⟨a, e, h⟩
    · left; rw [h]; simp
    · right
      refine ⟨a, e, fun i hi => ?_⟩
      rw [List.length_take] at hi
      rw [h i (by omega), List.getElem_take]
  · have := hz e; exact ⟨by omega, this.2⟩
end Go.Proofs.YtldkddogadmpbaaDoor
namespace Go.Proofs.YtldkddogadmpbaaDoor
open Go.RowKit Mat
set_option maxRecDepth 100000
set_option linter.unusedVariables false
set_option linter.unusedSimpArgs false
def RetRIntE (w : World) (z : Int) (code : Int) (e : Ending) (w' : World) : Prop := ∃ v, e = .returned (.tuple #[v, .int .i64 code]) ∧ RIntV w' v z ∧ w.grownBy w' none
theorem ret_rintvE {w w' : World} {z code : Int} {g : Nat} {a0 a1 v0 v1 : Value} (hg : w.grownBy w' none) (hbox : w'.heap[g]? = some (.cells #[a0, a1] 38 (0, 0))) (hl : w.heap.size ≤ g) (h : RIntV w' (.agg #[v0, v1]) z) :
    RetRIntE w z code (.returned (.tuple #[.agg #[v0, v1], .int .i64 code])) ((w'.setCell ⟨g, 0, none⟩ v0).setCell ⟨g, 1, none⟩ v1) :=
  ⟨_, rfl, (h.set_other hbox (by decide) 0 v0).set_other (heap_setfst hbox v0) (by decide) 1 v1, grown_two hg hl v0 v1⟩
theorem dec_why {s : ByteArray} (h : ¬ DecL (bts s)) : s.size = 0 ∨ (∃ hp : 0 < s.size, (s[0]'hp).toNat = 48 ∧ 1 < s.size) ∨ (0 < s.size ∧ (∀ hp : 0 < s.size, 1 < s.size → (s[0]'hp).toNat ≠ 48) ∧ ¬ ∀ j (h : j < s.size), j < s.size → 48 ≤ (s[j]'h).toNat ∧ (s[j]'h).toNat ≤ 57) := by
  rcases Nat.eq_zero_or_pos s.size with h0 | h0
  · exact Or.inl h0
  · right
    by_cases h1 : 1 < s.size ∧ (s[0]'h0).toNat = 48
    · left; exact ⟨h0, h1.2, h1.1⟩
    · right
      refine ⟨h0, fun hp h2 h3 => h1 ⟨h2, h3⟩, fun hd => h ?_⟩
      refine ⟨fun k hk => ?_, ?_⟩
      · have hk' : k < s.size := by rw [bts_len] at hk; exact hk
        rw [bts_get s k hk']; exact hd k hk' hk'
      · by_cases h2 : s.size = 1
        · have hl : (bts s).length = 1 := by rw [bts_len]; exact h2
          obtain ⟨y, hy⟩ := List.length_eq_one_iff.1 hl
          by_cases h48 : y = 48
          · left; rw [hy, h48]
          · right; rw [hy]; simpa using h48
        · right
          refine ⟨fun e => ?_, fun e => ?_⟩
          · have := bts_len s; rw [e] at this; simp at this; omega
          · rw [bts_head s h0] at e
            exact h1 ⟨by omega, Option.some.inj e⟩
theorem dec_how {s : ByteArray} (h : DecL (bts s)) : 0 < s.size ∧ (∀ hp : 0 < s.size, 1 < s.size → (s[0]'hp).toNat ≠ 48) ∧ (∀ j (h : j < s.size), j < s.size → 48 ≤ (s[j]'h).toNat ∧ (s[j]'h).toNat ≤ 57) := by
  have h0 : 0 < s.size := by
    rcases Nat.eq_zero_or_pos s.size with h1 | h1
    · have h3 : bts s = [] := List.length_eq_zero_iff.1 (by rw [bts_len]; exact h1)
      rcases h.2 with h4 | h4
      · rw [h3] at h4; simp at h4
      · exact absurd h3 h4.1
    · exact h1
  refine ⟨h0, fun hp h1 e => ?_, fun j hj _ => ?_⟩
  · rcases h.2 with h4 | h4
    · have := bts_len s; rw [h4] at this; simp at this; omega
    · exact h4.2 (by rw [bts_head s hp, e])
  · have := h.1 j (by rw [bts_len]; exact hj)
    rw [bts_get s j hj] at this; exact this
theorem dec_one48 {s : ByteArray} (h0 : 0 < s.size) (h : DecL (bts s)) (hm : dval (bts s) ≠ 0) : (s[0]'h0).toNat ≠ 48 := by
  intro e
  rcases h.2 with h4 | h4
  · rw [h4] at hm; exact hm (by decide +kernel)
  · exact h4.2 (by rw [bts_head s h0, e])
theorem sign_one (m : Nat) : m = 0 ∨ (m : Int).sign = 1 := by
  rcases zsign (m : Int) with ⟨h, e⟩ | ⟨h, e⟩ | ⟨h, e⟩
  · omega
  · left; omega
  · right; exact e
end Go.Proofs.YtldkddogadmpbaaDoor
namespace Go.Proofs.YtldkddogadmpbaaDoor
open Go.RowKit Mat
set_option maxRecDepth 100000
set_option linter.unusedVariables false
set_option linter.unusedSimpArgs false
theorem set_rep {k d : Nat} {hs : List Nat} : (List.replicate (k + 1) 0 ++ hs).set k d = List.replicate k 0 ++ d :: hs := by
  rw [List.replicate_succ', List.append_assoc, List.set_append]
  simp
theorem val_drop (xs : List Nat) (k : Nat) (hk : k < xs.length) : val D (xs.drop k) = xs.getD k 0 + D * val D (xs.drop (k + 1)) := by
  rw [List.drop_eq_getElem_cons hk, List.getD_eq_getElem?_getD, List.getElem?_eq_getElem hk]; rfl
set_option maxHeartbeats 2000000 in
theorem rcut_at (w : World) (s : Option Addr) (n cap : Nat) (xs : List Nat) (hn : xs.length = n) (hx : RRdo w s xs) (hnc : n ≤ cap) (bn : n ≤ 1099511627776) :
    Calls Tryd.prog 80 #[.slice s n cap] w (fun e w' => ∃ k, e = .returned (.agg #[.slice s k cap]) ∧ k ≤ n ∧ Top (xs.take k) ∧ val D (xs.take k) = val D xs ∧ w.grownBy w' none) := by
  have Hn := Lib.hid hn
  have hgw0 := World.grownBy_alloc w (.cells #[.slice none 0 0] 36) none
  have hbox0 := heap_new w (.cells #[.slice none 0 0] 36) w.heap.size rfl
  obtain ⟨cb, fb⟩ := box_cell hbox0
  have hx0 := hx.kept hgw0
  clear hn
  go_enter Tryd.func80, Tryd.ntmps80
  go_wp2_with fail
  generalize (w.alloc (.cells #[.slice none 0 0] 36)) = w0 at *
  go_loopw [3] (fun i wr => ∃ (k : Nat), k ≤ n ∧ i = .int .i64 k ∧ w0 = wr ∧ Hid (val D (xs.take k) = val D xs)) (fun i _ => (intOf i).toNat)
  case atStart => exact ⟨n, Nat.le_refl _, rfl, rfl, by show _ = _; rw [← Hn.out, List.take_length]⟩
  case round =>
    obtain ⟨k, hk, rfl, rfl, hv⟩ := hrel
    have hF : Hid (Top (xs.take k) → ∃ k', Ending.returned (.agg #[.slice s k cap]) = Ending.returned (.agg #[.slice s k' cap]) ∧ k' ≤ n ∧ Top (xs.take k') ∧ val D (xs.take k') = val D xs ∧ w.grownBy (w0.setCell ⟨w.heap.size, 0, none⟩ (.slice s k cap)) none) := by
      intro ht
      exact ⟨k, rfl, hk, ht, hv.out, grown_new hgw0 (grown_set (grown_refl _ _) _ _) (Nat.le_refl _)⟩
    by_cases h0 : k = 0
    · subst h0
      have hF2 := Lib.hid (hF.out (by intro x hx; simp at hx))
      clear hF
      go_wp2_with fail
      exact bodyPost_ret (v := .agg #[.slice s 0 cap]) (by simp [results, Tryd.results80, go_sem, cb]) rfl hF2.out
    · obtain ⟨j, rfl⟩ : ∃ j, k = j + 1 := ⟨k - 1, by omega⟩
      clear h0
      obtain ⟨b1, o1, cs1, rfl, hb1, hat1⟩ := hx0.get j (by rw [Hn.out]; omega)
      obtain ⟨x, ex⟩ : ∃ x, xs[j]'(by rw [Hn.out]; omega) = x := ⟨_, rfl⟩
      have c1 : w0.cell? ⟨b1, o1 + j, none⟩ = some (.int .i64 (x : Int)) := by
        rw [hb1.cell, hat1 j (by rw [Hn.out]; omega), ex]; rfl
      have EX := Lib.hid ex
      clear ex
      by_cases hz : x = 0
      · subst hz
        clear hF
        go_wp2_with fail
        go_roundw
        case rel => exact ⟨j, by omega, by go_num, by trivial, by show _ = _; rw [← hv.out, val_take_succ D xs j (by rw [Hn.out]; omega), EX.out]; omega⟩
        case measure => simp [intOf]
      · have t : ((x : Int) == 0) = false := beq_eq_false_iff_ne.2 (by omega)
        have hF2 := Lib.hid (hF.out (top_take xs j (by rw [Hn.out]; omega) (by rw [EX.out]; exact hz)))
        clear hF
        go_wp2_with fail
        exact bodyPost_ret (v := .agg #[.slice (some ⟨b1, o1, none⟩) (j + 1) cap]) (by simp [results, Tryd.results80, go_sem, cb]) rfl hF2.out
set_option maxHeartbeats 4000000 in
theorem rSmall_any (w : World) (va : Value) (a n : Nat) (ha : RefV w va a) (ba : a < D ^ 1000000) (hn : n ≤ 10000) :
    Calls Tryd.prog 81 #[va, .int .i64 (n : Int)] w (RetRef w (a * n)) := by
  obtain ⟨sa, la, ca, xs, rfl, h2⟩ := ha
  have na : RefV w (.agg #[.slice sa la ca]) a := ⟨sa, la, ca, xs, rfl, h2⟩
  have hgw0 : w.grownBy ((w.alloc (.cells #[.slice sa la ca] 36)).alloc (.cells #[.slice none 0 0] 36)) none := grown_alloc (World.grownBy_alloc _ _ _) _
  have hboxr := heap_new (w.alloc (.cells #[.slice sa la ca] 36)) (.cells #[.slice none 0 0] 36) (w.heap.size + 1) (by simp)
  have hboxa := (Below.heap_alloc _ (.cells #[.slice none 0 0] 36) w.heap.size (by simp)).trans (heap_new w (.cells #[.slice sa la ca] 36) w.heap.size rfl)
  replace na := na.kept hgw0
  have Hba := Lib.hid ba
  have hnB : n < B := Nat.lt_of_le_of_lt hn (by decide)
  have hw : IntKind.u64.wrap (n : Int) = (n : Int) := by rw [IntKind.wrap_u64]; omega
  have hnD : n < D ^ 1000000 := by
    obtain ⟨E, hE⟩ : ∃ E, E = 1000000 := ⟨_, rfl⟩
    rw [← hE]
    have h1 : D ^ 2 ≤ D ^ E := Nat.pow_le_pow_right D_pos (by omega)
    have h2 : D ^ 2 = 100000000 := by decide
    omega
  have HnD := Lib.hid hnD
  clear h2 ba hnD
  go_enter Tryd.func81, Tryd.ntmps81
  go_wp2_with fail
  generalize ((w.alloc (.cells #[.slice sa la ca] 36)).alloc (.cells #[.slice none 0 0] 36)) = w0 at *
  obtain ⟨c1, f1⟩ := box_cell hboxa
  go_region_held3 (fun w' => w'.cell? ⟨w.heap.size, 0, none⟩ = some (.slice sa la ca))
    (first | assumption | exact c1 | go_keep)
    (first
      | (go_at_call 28; (with_reducible refine (rOf_any w0.drew n hnB).mono ?_); rintro e w1 ⟨v1, rfl, n1, g1⟩; have hG1 := grown_pre w0 g1 rfl rfl rfl rfl; have hS1 := hG1.cell c1 (by simp))
      | (go_at_call 70; (with_reducible refine (rMul_any w1 _ _ a n (na.kept hG1) n1 Hba.out HnD.out).mono ?_); rintro e w2 ⟨v2, rfl, ⟨s2, k2, c2, zs2, rfl, n2⟩, g2⟩; have hG2 := grown_trans hG1 g2; have hS2 := hG2.cell c1 (by simp); have hr2 := heap_kept hG2 hboxr; obtain ⟨c3, f3⟩ := box_cell hr2))
  have hF := Lib.hid (rret (n := a * n) (grown_trans hgw0 hG2) hr2 (by decide) (by omega) ⟨s2, k2, c2, zs2, rfl, n2⟩ (.slice s2 k2 c2))
  clear g2 hG2 hG1 n2
  go_wp2_with fail
  exact bodyPost_ret (v := .agg #[.slice s2 k2 c2]) (by simp [results, Tryd.results81, go_sem, c3]) rfl hF.out
theorem run_append_none {P : Program} (w : World) (t ty e : TypeId) (i : TypeInfo) (ht : P.underlying t = some (.slice e)) (hi : P.info? e = some i) (a : Addr) (n cap c : Nat) (h : n ≤ cap) :
    (Builtin.append_ #[t, t] ty #[.slice (some a) n cap, .slice none 0 c]).run P w = .ok (.slice (some a) n cap) w := by
  simp [Builtin.append_, run_underlying ht, sizeOf, typeInfo, hi, Builtin.lenOf, h, Builtin.firstCells, storeCells]
theorem own_one {W : World} {H base x : Nat} (hH : W.heap.size = H) (hb : base ≤ H) : (W.alloc (.cells #[iv x] 3)).ownsRow base 3 1 (.slice (some ⟨H, 0, none⟩) 1 1) 1 [iv x] :=
  ⟨rfl, Or.inr ⟨H, 1, #[iv x], rfl, hb, heap_new W _ H hH.symm, Nat.le_refl _, by unfold maxLen; omega, rfl, rfl⟩⟩
theorem run_append_ints {w : World} {ty : TypeId} {base G n0 c0 : Nat} {olds : List Nat} (hown : w.ownsRow base 3 1 (.slice (some ⟨G, 0, none⟩) n0 c0) n0 (olds.map iv)) (h0 : 0 < n0) {s : Option Addr} {k c : Nat} {ys : List Nat} (hk : ys.length = k) (hr : RRdo w s ys) (hb : n0 + k ≤ 10000000) (hbase : base ≤ w.heap.size) :
    ∃ g cap w', (Builtin.append_ #[34, 34] ty #[.slice (some ⟨G, 0, none⟩) n0 c0, .slice s k c]).run Tryd.prog w = .ok (.slice (some ⟨g, 0, none⟩) (n0 + k) cap) w' ∧
      w'.ownsRow base 3 1 (.slice (some ⟨g, 0, none⟩) (n0 + k) cap) (n0 + k) ((olds ++ ys).map iv) ∧ w.grownBy w' (some G) := by
  obtain ⟨i1, hi, hz0, hz1, hz2⟩ := info_partsI
  have key : ∀ (ad : Addr) (news : List Value), news = ys.map iv → (∀ j u, news[j]? = some u → w.cell? (ad.add j) = some u) → ∃ g cap w', (Builtin.append_ #[34, 34] ty #[.slice (some ⟨G, 0, none⟩) n0 c0, .slice (some ad) k c]).run Tryd.prog w = .ok (.slice (some ⟨g, 0, none⟩) (n0 + k) cap) w' ∧
      w'.ownsRow base 3 1 (.slice (some ⟨g, 0, none⟩) (n0 + k) cap) (n0 + k) ((olds ++ ys).map iv) ∧ w.grownBy w' (some G) := by
    intro ad news hne hn
    obtain ⟨v', w', hrun, h2, h3, _, h5⟩ := run_append_own_at (P := Tryd.prog) w base 34 ty 3 i1 (.int .i64 0) 1 8 Tryd.underlying34 hi hz0 hz1 hz2 rfl (by omega) (.slice (some ⟨G, 0, none⟩) n0 c0) n0 (olds.map iv) hown ad k c news (by rw [hne, List.length_map, hk]; omega) hn (by rw [hne]; intro u hu; obtain ⟨x, -, rfl⟩ := List.mem_map.1 hu; rfl) (by unfold maxLen; omega) (by omega) hbase
    obtain ⟨g, cap, rfl, _, hlt⟩ := h2.form (by omega)
    exact ⟨g, cap, w', hrun, by rw [List.map_append, ← hne]; exact h2, h3⟩
  rcases hr with h | ⟨b, off, cs, e, h1, h2⟩
  · subst h
    simp only [List.length_nil] at hk
    subst hk
    cases s with
    | none =>
      refine ⟨G, c0, w, run_append_none w _ ty _ i1 Tryd.underlying34 hi _ _ _ _ (own_rdoI hown).2.1, ?_, grown_refl _ _⟩
      rw [List.append_nil]; exact hown
    | some ad => exact key ad [] rfl (fun j u h => by simp at h)
  · subst e
    refine key ⟨b, off, none⟩ (ys.map iv) rfl (fun j u hj => ?_)
    have hadd : (⟨b, off, none⟩ : Addr).add j = ⟨b, off + j, none⟩ := by unfold Addr.add; split <;> simp_all
    rw [hadd, h1.cell]
    rw [List.getElem?_map] at hj
    obtain ⟨x, hx, rfl⟩ := Option.map_eq_some_iff.1 hj
    obtain ⟨hj2, rfl⟩ := List.getElem?_eq_some_iff.1 hx
    exact h2 j hj2
theorem step_append_ints {w : World} {ops : Array Oper} {o : Oper} {a : Act} {K : Act → World → Prop} {Q : Exit → Act → World → Prop} {E : Prop} (hgd : o.guard = none) (s x : Operand)
    (ho : o.op = .call { callee := .builtin .append, args := #[s, x], argTypes := #[34, 34] })
    (base G n0 c0 : Nat) (olds : List Nat) (hs : a.eval s = .slice (some ⟨G, 0, none⟩) n0 c0) (hown : w.ownsRow base 3 1 (.slice (some ⟨G, 0, none⟩) n0 c0) n0 (olds.map iv)) (h0 : 0 < n0)
    (sx : Option Addr) (k c : Nat) (ys : List Nat) (hx : a.eval x = .slice sx k c) (hk : ys.length = k) (hr : RRdo w sx ys) (hb : n0 + k ≤ 10000000) (hbase : base ≤ w.heap.size)
    (h : ∀ g cap w', w'.ownsRow base 3 1 (.slice (some ⟨g, 0, none⟩) (n0 + k) cap) (n0 + k) ((olds ++ ys).map iv) → w.grownBy w' (some G) → K (a.put o.dst (.slice (some ⟨g, 0, none⟩) (n0 + k) cap)) w') :
    if Region.wanted o (yielded ops a.tmps) = true then Oper.wp Tryd.prog o a w K Q else E := by
  have hw : Region.wanted o (yielded ops a.tmps) = true := by simp [Region.wanted, hgd]
  rw [if_pos hw]
  obtain ⟨g, cap, w', hrun, h2, h3⟩ := run_append_ints (ty := o.type) hown h0 (c := c) hk hr hb hbase
  unfold Oper.wp execOp
  simp only [ho, resolve, invoke, builtin, Sem.run_bind, Sem.run_pure, Result.andThen_ok, List.map_toArray, List.map_cons, List.map_nil, hs, hx, hrun]
  exact h g cap w' h2 h3
end Go.Proofs.YtldkddogadmpbaaDoor
