/- The chapter's examples. -/
import Derived.Test.YtljfhiikoimdiaaZOne
import Derived.Deep.RegionHeld3
namespace Go.Proofs.Ytljfhiikoimdiaa
open Go.RowKit Mat
set_option maxRecDepth 100000
set_option linter.unusedVariables false
set_option linter.unusedSimpArgs false

theorem zt_m4 : ZTextOf { data := #[45, 52] } (-4) := ⟨[52], dec_of (by decide +kernel), by decide +kernel, by decide +kernel⟩
theorem zt_1 : ZTextOf { data := #[49] } 1 := ⟨[49], dec_of (by decide +kernel), by decide +kernel, by decide +kernel⟩
theorem zt_m3 : ZTextOf { data := #[45, 51] } (-3) := ⟨[51], dec_of (by decide +kernel), by decide +kernel, by decide +kernel⟩
set_option maxHeartbeats 8000000 in
theorem known_any (w : World) :
    Calls Try.prog 14 #[] w (fun e w' => e = .returned (.bool true) ∧ w.grownBy w' none) := by
  have c1 : ∀ W, Calls Try.prog 12 #[.string { data := #[45, 48] }] W (RetIntE W 0 3) := fun W => by
    have := ZParse_any W { data := #[45, 48] }
    rw [show zcod { data := #[45, 48] } = 3 from by decide +kernel, show zval { data := #[45, 48] } = 0 from by decide +kernel] at this
    exact this
  have C1 := Lib.hid c1
  clear c1
  have hG : w.grownBy w none := grown_refl _ _
  go_enter Try.func14, Try.ntmps14
  go_wp2_with fail
  refine (C1.out w).mono ?_
  rintro e w1 ⟨_, rfl, ⟨sa, xa, ba, rfl, ha, va, ta⟩, gw1⟩
  have ia : IntV w1 (.agg #[.slice sa xa.length xa.length, .bool ba]) (0) := ⟨sa, xa, ba, rfl, ha, va, ta⟩
  replace hG := grown_trans hG gw1
  clear gw1
  clear ha va ta
  have gbw1 := (World.grownBy_alloc w1 (.cells #[.slice sa xa.length xa.length, .bool ba] 26) none)
  have Ba := (heap_new w1 (.cells #[.slice sa xa.length xa.length, .bool ba] 26) (w1.heap.size) rfl)
  have hzw1 : Hid (w.heap.size ≤ w1.heap.size) := Lib.hid hG.size
  replace ia := ia.kept gbw1
  replace hG := grown_trans hG gbw1
  clear gbw1
  obtain ⟨Ca0, Ca1, Fa0, Fa1⟩ := box_cells Ba
  go_wp2_with fail
  generalize (w1.alloc (.cells #[.slice sa xa.length xa.length, .bool ba] 26)) = w2 at *
  generalize w1.heap.size = aw1 at *
  replace hzw1 := hzw1.out
  clear Ca0 Fa0 Ca1 Fa1
  refine (ZOf_any w2 (-7) (by omega) (by omega)).mono ?_
  rintro e w3 ⟨v1, rfl, j1, gw3⟩
  replace Ba := heap_kept gw3 Ba
  replace ia := ia.kept gw3
  replace hG := grown_trans hG gw3
  clear gw3
  obtain ⟨Ca0, Ca1, Fa0, Fa1⟩ := box_cells Ba
  go_wp2_with fail
  clear Ca0 Fa0 Ca1 Fa1
  refine (ZOf_any w3 (2) (by omega) (by omega)).mono ?_
  rintro e w4 ⟨u1, rfl, k1, gw4⟩
  replace Ba := heap_kept gw4 Ba
  replace ia := ia.kept gw4
  replace j1 := j1.kept gw4
  replace hG := grown_trans hG gw4
  clear gw4
  obtain ⟨Ca0, Ca1, Fa0, Fa1⟩ := box_cells Ba
  go_wp2_with fail
  clear Ca0 Fa0 Ca1 Fa1
  refine (ZFloor_some w4 _ _ (-7) (2) 1 j1 k1 (by omega) (by decide) (by decide) (by decide)).mono ?_
  rintro e w5 ⟨_, _, rfl, ⟨sq, xq, bq, rfl, hq, vq, tq⟩, ⟨sr, xr, br, rfl, hr, vr, tr⟩, gw5⟩
  rw [show ((-7) : Int) / (2) = -4 from by decide] at vq tq
  rw [show ((-7) : Int) % (2) = 1 from by decide] at vr tr
  have iq : IntV w5 (.agg #[.slice sq xq.length xq.length, .bool bq]) (-4) := ⟨sq, xq, bq, rfl, hq, vq, tq⟩
  have ir : IntV w5 (.agg #[.slice sr xr.length xr.length, .bool br]) (1) := ⟨sr, xr, br, rfl, hr, vr, tr⟩
  replace Ba := heap_kept gw5 Ba
  replace ia := ia.kept gw5
  replace j1 := j1.kept gw5
  replace k1 := k1.kept gw5
  replace hG := grown_trans hG gw5
  clear gw5
  clear hq vq tq
  clear hr vr tr
  obtain ⟨Ca0, Ca1, Fa0, Fa1⟩ := box_cells Ba
  have gbw5 := (grown_alloc (World.grownBy_alloc w5 (.cells #[.slice sq xq.length xq.length, .bool bq] 26) none) (.cells #[.slice sr xr.length xr.length, .bool br] 26))
  have Bq := heap_kept (World.grownBy_alloc _ (.cells #[.slice sr xr.length xr.length, .bool br] 26) none) (heap_new w5 (.cells #[.slice sq xq.length xq.length, .bool bq] 26) (w5.heap.size) rfl)
  have Br := (heap_new (w5.alloc (.cells #[.slice sq xq.length xq.length, .bool bq] 26)) (.cells #[.slice sr xr.length xr.length, .bool br] 26) (w5.heap.size + 1) (by simp))
  have hzw5 : Hid (w.heap.size ≤ w5.heap.size) := Lib.hid hG.size
  have hlaw5 : Hid (aw1 < w5.heap.size) := Lib.hid (Array.getElem?_eq_some_iff.1 Ba).1
  clear Ca0 Fa0 Ca1 Fa1
  replace Ba := heap_kept gbw5 Ba
  replace ia := ia.kept gbw5
  replace j1 := j1.kept gbw5
  replace k1 := k1.kept gbw5
  replace iq := iq.kept gbw5
  replace ir := ir.kept gbw5
  replace hG := grown_trans hG gbw5
  clear gbw5
  obtain ⟨Ca0, Ca1, Fa0, Fa1⟩ := box_cells Ba
  obtain ⟨Cq0, Cq1, Fq0, Fq1⟩ := box_cells Bq
  obtain ⟨Cr0, Cr1, Fr0, Fr1⟩ := box_cells Br
  go_wp2_with fail
  generalize ((w5.alloc (.cells #[.slice sq xq.length xq.length, .bool bq] 26)).alloc (.cells #[.slice sr xr.length xr.length, .bool br] 26)) = w6 at *
  generalize w5.heap.size = aw5 at *
  replace hzw5 := hzw5.out
  replace hlaw5 := hlaw5.out
  clear Ca0 Fa0 Ca1 Fa1 Cq0 Fq0 Cq1 Fq1 Cr0 Fr0 Cr1 Fr1
  refine (ZOf_any w6 (7) (by omega) (by omega)).mono ?_
  rintro e w7 ⟨v2, rfl, j2, gw7⟩
  replace Ba := heap_kept gw7 Ba
  replace Bq := heap_kept gw7 Bq
  replace Br := heap_kept gw7 Br
  replace ia := ia.kept gw7
  replace j1 := j1.kept gw7
  replace k1 := k1.kept gw7
  replace iq := iq.kept gw7
  replace ir := ir.kept gw7
  replace hG := grown_trans hG gw7
  clear gw7
  obtain ⟨Ca0, Ca1, Fa0, Fa1⟩ := box_cells Ba
  obtain ⟨Cq0, Cq1, Fq0, Fq1⟩ := box_cells Bq
  obtain ⟨Cr0, Cr1, Fr0, Fr1⟩ := box_cells Br
  go_wp2_with fail
  clear Ca0 Fa0 Ca1 Fa1 Cq0 Fq0 Cq1 Fq1 Cr0 Fr0 Cr1 Fr1
  refine (ZOf_any w7 (-2) (by omega) (by omega)).mono ?_
  rintro e w8 ⟨u2, rfl, k2, gw8⟩
  replace Ba := heap_kept gw8 Ba
  replace Bq := heap_kept gw8 Bq
  replace Br := heap_kept gw8 Br
  replace ia := ia.kept gw8
  replace j1 := j1.kept gw8
  replace k1 := k1.kept gw8
  replace iq := iq.kept gw8
  replace ir := ir.kept gw8
  replace j2 := j2.kept gw8
  replace hG := grown_trans hG gw8
  clear gw8
  obtain ⟨Ca0, Ca1, Fa0, Fa1⟩ := box_cells Ba
  obtain ⟨Cq0, Cq1, Fq0, Fq1⟩ := box_cells Bq
  obtain ⟨Cr0, Cr1, Fr0, Fr1⟩ := box_cells Br
  go_wp2_with fail
  clear Ca0 Fa0 Ca1 Fa1 Cq0 Fq0 Cq1 Fq1 Cr0 Fr0 Cr1 Fr1
  refine (ZFloor_some w8 _ _ (7) (-2) 1 j2 k2 (by omega) (by decide) (by decide) (by decide)).mono ?_
  rintro e w9 ⟨_, _, rfl, ⟨ss, xs, bs, rfl, hs, vs, ts⟩, ⟨st, xt, bt, rfl, ht, vt, tt⟩, gw9⟩
  rw [show ((7) : Int) / (-2) = -3 from by decide] at vs ts
  rw [show ((7) : Int) % (-2) = 1 from by decide] at vt tt
  have is : IntV w9 (.agg #[.slice ss xs.length xs.length, .bool bs]) (-3) := ⟨ss, xs, bs, rfl, hs, vs, ts⟩
  have it : IntV w9 (.agg #[.slice st xt.length xt.length, .bool bt]) (1) := ⟨st, xt, bt, rfl, ht, vt, tt⟩
  replace Ba := heap_kept gw9 Ba
  replace Bq := heap_kept gw9 Bq
  replace Br := heap_kept gw9 Br
  replace ia := ia.kept gw9
  replace j1 := j1.kept gw9
  replace k1 := k1.kept gw9
  replace iq := iq.kept gw9
  replace ir := ir.kept gw9
  replace j2 := j2.kept gw9
  replace k2 := k2.kept gw9
  replace hG := grown_trans hG gw9
  clear gw9
  clear hs vs ts
  clear ht vt tt
  obtain ⟨Ca0, Ca1, Fa0, Fa1⟩ := box_cells Ba
  obtain ⟨Cq0, Cq1, Fq0, Fq1⟩ := box_cells Bq
  obtain ⟨Cr0, Cr1, Fr0, Fr1⟩ := box_cells Br
  have gbw9 := (grown_alloc (World.grownBy_alloc w9 (.cells #[.slice ss xs.length xs.length, .bool bs] 26) none) (.cells #[.slice st xt.length xt.length, .bool bt] 26))
  have Bs := heap_kept (World.grownBy_alloc _ (.cells #[.slice st xt.length xt.length, .bool bt] 26) none) (heap_new w9 (.cells #[.slice ss xs.length xs.length, .bool bs] 26) (w9.heap.size) rfl)
  have Bt := (heap_new (w9.alloc (.cells #[.slice ss xs.length xs.length, .bool bs] 26)) (.cells #[.slice st xt.length xt.length, .bool bt] 26) (w9.heap.size + 1) (by simp))
  have hzw9 : Hid (w.heap.size ≤ w9.heap.size) := Lib.hid hG.size
  have hlaw9 : Hid (aw1 < w9.heap.size) := Lib.hid (Array.getElem?_eq_some_iff.1 Ba).1
  have hlqw9 : Hid (aw5 < w9.heap.size) := Lib.hid (Array.getElem?_eq_some_iff.1 Bq).1
  have hlrw9 : Hid (aw5 + 1 < w9.heap.size) := Lib.hid (Array.getElem?_eq_some_iff.1 Br).1
  clear Ca0 Fa0 Ca1 Fa1 Cq0 Fq0 Cq1 Fq1 Cr0 Fr0 Cr1 Fr1
  replace Ba := heap_kept gbw9 Ba
  replace Bq := heap_kept gbw9 Bq
  replace Br := heap_kept gbw9 Br
  replace ia := ia.kept gbw9
  replace j1 := j1.kept gbw9
  replace k1 := k1.kept gbw9
  replace iq := iq.kept gbw9
  replace ir := ir.kept gbw9
  replace j2 := j2.kept gbw9
  replace k2 := k2.kept gbw9
  replace is := is.kept gbw9
  replace it := it.kept gbw9
  replace hG := grown_trans hG gbw9
  clear gbw9
  obtain ⟨Ca0, Ca1, Fa0, Fa1⟩ := box_cells Ba
  obtain ⟨Cq0, Cq1, Fq0, Fq1⟩ := box_cells Bq
  obtain ⟨Cr0, Cr1, Fr0, Fr1⟩ := box_cells Br
  obtain ⟨Cs0, Cs1, Fs0, Fs1⟩ := box_cells Bs
  obtain ⟨Ct0, Ct1, Ft0, Ft1⟩ := box_cells Bt
  go_wp2_with fail
  generalize ((w9.alloc (.cells #[.slice ss xs.length xs.length, .bool bs] 26)).alloc (.cells #[.slice st xt.length xt.length, .bool bt] 26)) = w10 at *
  generalize w9.heap.size = aw9 at *
  replace hzw9 := hzw9.out
  replace hlaw9 := hlaw9.out
  replace hlqw9 := hlqw9.out
  replace hlrw9 := hlrw9.out
  clear Ca0 Fa0 Ca1 Fa1 Cq0 Fq0 Cq1 Fq1 Cr0 Fr0 Cr1 Fr1 Cs0 Fs0 Cs1 Fs1 Ct0 Ft0 Ct1 Ft1
  refine (NZText_any w10 _ (-4) 1 iq (by omega) (by decide)).mono ?_
  rintro e w11 ⟨xq', rfl, hxq, gw11⟩
  obtain rfl : xq' = { data := #[45, 52] } := ztext_uniq hxq zt_m4
  clear hxq
  replace Ba := heap_kept gw11 Ba
  replace Bq := heap_kept gw11 Bq
  replace Br := heap_kept gw11 Br
  replace Bs := heap_kept gw11 Bs
  replace Bt := heap_kept gw11 Bt
  replace ia := ia.kept gw11
  replace j1 := j1.kept gw11
  replace k1 := k1.kept gw11
  replace iq := iq.kept gw11
  replace ir := ir.kept gw11
  replace j2 := j2.kept gw11
  replace k2 := k2.kept gw11
  replace is := is.kept gw11
  replace it := it.kept gw11
  replace hG := grown_trans hG gw11
  clear gw11
  obtain ⟨Ca0, Ca1, Fa0, Fa1⟩ := box_cells Ba
  obtain ⟨Cq0, Cq1, Fq0, Fq1⟩ := box_cells Bq
  obtain ⟨Cr0, Cr1, Fr0, Fr1⟩ := box_cells Br
  obtain ⟨Cs0, Cs1, Fs0, Fs1⟩ := box_cells Bs
  obtain ⟨Ct0, Ct1, Ft0, Ft1⟩ := box_cells Bt
  go_wp2_with fail
  clear Ca0 Fa0 Ca1 Fa1 Cq0 Fq0 Cq1 Fq1 Cr0 Fr0 Cr1 Fr1 Cs0 Fs0 Cs1 Fs1 Ct0 Ft0 Ct1 Ft1
  refine (NZText_any w11 _ (1) 1 ir (by omega) (by decide)).mono ?_
  rintro e w12 ⟨xr', rfl, hxr, gw12⟩
  obtain rfl : xr' = { data := #[49] } := ztext_uniq hxr zt_1
  clear hxr
  replace Ba := heap_kept gw12 Ba
  replace Bq := heap_kept gw12 Bq
  replace Br := heap_kept gw12 Br
  replace Bs := heap_kept gw12 Bs
  replace Bt := heap_kept gw12 Bt
  replace ia := ia.kept gw12
  replace j1 := j1.kept gw12
  replace k1 := k1.kept gw12
  replace iq := iq.kept gw12
  replace ir := ir.kept gw12
  replace j2 := j2.kept gw12
  replace k2 := k2.kept gw12
  replace is := is.kept gw12
  replace it := it.kept gw12
  replace hG := grown_trans hG gw12
  clear gw12
  obtain ⟨Ca0, Ca1, Fa0, Fa1⟩ := box_cells Ba
  obtain ⟨Cq0, Cq1, Fq0, Fq1⟩ := box_cells Bq
  obtain ⟨Cr0, Cr1, Fr0, Fr1⟩ := box_cells Br
  obtain ⟨Cs0, Cs1, Fs0, Fs1⟩ := box_cells Bs
  obtain ⟨Ct0, Ct1, Ft0, Ft1⟩ := box_cells Bt
  go_wp2_with fail
  clear Ca0 Fa0 Ca1 Fa1 Cq0 Fq0 Cq1 Fq1 Cr0 Fr0 Cr1 Fr1 Cs0 Fs0 Cs1 Fs1 Ct0 Ft0 Ct1 Ft1
  refine (NZText_any w12 _ (-3) 1 is (by omega) (by decide)).mono ?_
  rintro e w13 ⟨xs', rfl, hxs, gw13⟩
  obtain rfl : xs' = { data := #[45, 51] } := ztext_uniq hxs zt_m3
  clear hxs
  replace Ba := heap_kept gw13 Ba
  replace Bq := heap_kept gw13 Bq
  replace Br := heap_kept gw13 Br
  replace Bs := heap_kept gw13 Bs
  replace Bt := heap_kept gw13 Bt
  replace ia := ia.kept gw13
  replace j1 := j1.kept gw13
  replace k1 := k1.kept gw13
  replace iq := iq.kept gw13
  replace ir := ir.kept gw13
  replace j2 := j2.kept gw13
  replace k2 := k2.kept gw13
  replace is := is.kept gw13
  replace it := it.kept gw13
  replace hG := grown_trans hG gw13
  clear gw13
  obtain ⟨Ca0, Ca1, Fa0, Fa1⟩ := box_cells Ba
  obtain ⟨Cq0, Cq1, Fq0, Fq1⟩ := box_cells Bq
  obtain ⟨Cr0, Cr1, Fr0, Fr1⟩ := box_cells Br
  obtain ⟨Cs0, Cs1, Fs0, Fs1⟩ := box_cells Bs
  obtain ⟨Ct0, Ct1, Ft0, Ft1⟩ := box_cells Bt
  go_wp2_with fail
  clear Ca0 Fa0 Ca1 Fa1 Cq0 Fq0 Cq1 Fq1 Cr0 Fr0 Cr1 Fr1 Cs0 Fs0 Cs1 Fs1 Ct0 Ft0 Ct1 Ft1
  refine (NZText_any w13 _ (1) 1 it (by omega) (by decide)).mono ?_
  rintro e w14 ⟨xt', rfl, hxt, gw14⟩
  obtain rfl : xt' = { data := #[49] } := ztext_uniq hxt zt_1
  clear hxt
  replace Ba := heap_kept gw14 Ba
  replace Bq := heap_kept gw14 Bq
  replace Br := heap_kept gw14 Br
  replace Bs := heap_kept gw14 Bs
  replace Bt := heap_kept gw14 Bt
  replace ia := ia.kept gw14
  replace j1 := j1.kept gw14
  replace k1 := k1.kept gw14
  replace iq := iq.kept gw14
  replace ir := ir.kept gw14
  replace j2 := j2.kept gw14
  replace k2 := k2.kept gw14
  replace is := is.kept gw14
  replace it := it.kept gw14
  replace hG := grown_trans hG gw14
  clear gw14
  obtain ⟨Ca0, Ca1, Fa0, Fa1⟩ := box_cells Ba
  obtain ⟨Cq0, Cq1, Fq0, Fq1⟩ := box_cells Bq
  obtain ⟨Cr0, Cr1, Fr0, Fr1⟩ := box_cells Br
  obtain ⟨Cs0, Cs1, Fs0, Fs1⟩ := box_cells Bs
  obtain ⟨Ct0, Ct1, Ft0, Ft1⟩ := box_cells Bt
  go_wp2_with fail
  go_ret
  exact ⟨by rfl, hG⟩
end Go.Proofs.Ytljfhiikoimdiaa
