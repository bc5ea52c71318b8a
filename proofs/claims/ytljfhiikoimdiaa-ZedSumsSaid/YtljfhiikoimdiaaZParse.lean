/- A text is read as a whole number, or told which error. -/
import Derived.Test.YtljfhiikoimdiaaZDec
import Derived.Deep.RegionHeld3
namespace Go.Proofs.Ytljfhiikoimdiaa
open Go.RowKit Mat
set_option maxRecDepth 100000
set_option linter.unusedVariables false
set_option linter.unusedSimpArgs false

def RetIntE (w : World) (z : Int) (code : Int) (e : Ending) (w' : World) : Prop := ∃ v, e = .returned (.tuple #[v, .int .i64 code]) ∧ IntV w' v z ∧ w.grownBy w' none
theorem ret_intv {w w' : World} {z : Int} {g : Nat} {a0 a1 v0 v1 : Value} (hg : w.grownBy w' none) (hbox : w'.heap[g]? = some (.cells #[a0, a1] 26 (0, 0))) (hl : w.heap.size ≤ g) (h : IntV w' (.agg #[v0, v1]) z) :
    RetInt w z (.returned (.agg #[v0, v1])) ((w'.setCell ⟨g, 0, none⟩ v0).setCell ⟨g, 1, none⟩ v1) :=
  ⟨_, rfl, h.set2 hbox v0 v1, grown_set2 hg hl v0 v1⟩
theorem ret_intvE {w w' : World} {z code : Int} {g : Nat} {a0 a1 v0 v1 : Value} (hg : w.grownBy w' none) (hbox : w'.heap[g]? = some (.cells #[a0, a1] 26 (0, 0))) (hl : w.heap.size ≤ g) (h : IntV w' (.agg #[v0, v1]) z) :
    RetIntE w z code (.returned (.tuple #[.agg #[v0, v1], .int .i64 code])) ((w'.setCell ⟨g, 0, none⟩ v0).setCell ⟨g, 1, none⟩ v1) :=
  ⟨_, rfl, h.set2 hbox v0 v1, grown_set2 hg hl v0 v1⟩
theorem intv_of_nat {w : World} {s : Option Addr} {k c m : Nat} (h : NatV w (.agg #[.slice s k c]) m) : IntV w (.agg #[.slice s k c, .bool false]) (m : Int) := by
  obtain ⟨s', xs, e, h1, hv⟩ := h
  cases e
  exact ⟨_, xs, false, rfl, h1, by simpa using hv, by constructor <;> intro h <;> first | cases h | omega⟩
theorem intv_of_neg {w : World} {s : Option Addr} {k c m : Nat} (h : NatV w (.agg #[.slice s k c]) m) (hm : 0 < m) : IntV w (.agg #[.slice s k c, .bool true]) (-(m : Int)) := by
  obtain ⟨s', xs, e, h1, hv⟩ := h
  cases e
  exact ⟨_, xs, true, rfl, h1, by omega, by constructor <;> intro h <;> first | rfl | omega⟩
theorem cutd_hit (w : World) (s : ByteArray) (h : zneg (bts s) = true) :
    Calls Try.prog 46 #[.string s, .string { data := #[45] }] w (fun e w' => e = .returned (.tuple #[.string (s.extract 1 s.size), .bool true]) ∧ w = w') := cut_hit w s { data := #[45] } (by rw [pfx_dash]; exact h)
theorem cutd_miss (w : World) (s : ByteArray) (h : zneg (bts s) = false) :
    Calls Try.prog 46 #[.string s, .string { data := #[45] }] w (fun e w' => e = .returned (.tuple #[.string s, .bool false]) ∧ w = w') := cut_miss w s { data := #[45] } (by rw [pfx_dash]; exact h)
set_option maxHeartbeats 8000000 in
theorem ZParse_any (w : World) (s : ByteArray) :
    Calls Try.prog 12 #[.string s] w (RetIntE w (zval s) (zcod s)) := by
  by_cases h0 : 4097 < s.size
  · skip
    obtain ⟨e1, e2⟩ := zc_long h0
    rw [e1, e2]
    clear e1 e2
    have f1 : decide ((4097 : Int) < (s.size : Int)) = true := decide_eq_true (by omega)
    have hG : w.grownBy (w.alloc (.cells #[.slice none 0 0, .bool false] 26)) none := (World.grownBy_alloc _ _ _)
    have Bq := (heap_new w (.cells #[.slice none 0 0, .bool false] 26) (w.heap.size) rfl)
    go_enter Try.func12, Try.ntmps12
    obtain ⟨Cq0, Cq1, Fq0, Fq1⟩ := box_cells Bq
    have hG' : w.grownBy (w.alloc (.cells #[.slice none 0 0, .bool false] 26)) none := (World.grownBy_alloc _ _ _)
    have hF : Hid (RetIntE w (0) 2 (.returned (.tuple #[.agg #[.slice none 0 0, .bool false], .int .i64 2])) (w.alloc (.cells #[.slice none 0 0, .bool false] 26))) := ⟨_, rfl, (IntV.zero _), hG'⟩
    clear hG' 
    go_wp2_with fail
    exact bodyPost_ret (v := .tuple #[.agg #[.slice none 0 0, .bool false], .int .i64 2]) (by simp [results, Try.results12, go_sem]) rfl hF.out
  have f1 : decide ((4097 : Int) < (s.size : Int)) = false := decide_eq_false (by omega)
  have hs : s.size ≤ 4097 := by omega
  clear h0
  cases hn : zneg (bts s)
  · skip
    have hz := zdig_pos hn
    by_cases hd : DecL (bts s)
    · skip
      have hok : zok (bts s) = true := (zok_iff _).2 ⟨by rw [hz]; exact hd, by rw [hn]; simp⟩
      by_cases h4 : s.size ≤ 4096
      · skip
        obtain ⟨e1, e2⟩ := zc_num hs hok (by rw [hz, bts_len]; exact h4)
        obtain ⟨m, hm⟩ : ∃ m, dval (bts s) = m := ⟨_, rfl⟩
        rw [e1, e2, show znum (bts s) = (m : Int) from by unfold znum; rw [hn, hz, hm]; rfl]
        clear e1 e2 hok hz hs
        have HD := Lib.hid hd
        have HZ := Lib.hid h4
        have HV := Lib.hid hm
        clear hd h4 hm
        have HN := Lib.hid hn
        clear hn
        have hG : w.grownBy (w.alloc (.cells #[.slice none 0 0, .bool false] 26)) none := (World.grownBy_alloc _ _ _)
        have Bq := (heap_new w (.cells #[.slice none 0 0, .bool false] 26) (w.heap.size) rfl)
        go_enter Try.func12, Try.ntmps12
        obtain ⟨Cq0, Cq1, Fq0, Fq1⟩ := box_cells Bq
        go_wp2_with fail
        generalize (w.alloc (.cells #[.slice none 0 0, .bool false] 26)) = w0 at *
        refine (cutd_miss w0 s HN.out).mono ?_
        rintro e w1 ⟨rfl, rfl⟩
        go_wp2_with fail
        clear Cq0 Fq0 Cq1 Fq1
        refine (Parse_some w0 s HZ.out HD.out).mono ?_
        rintro e w2 ⟨_, rfl, ⟨sn, xn, rfl, hn, vn⟩, gw2⟩
        rw [HV.out] at vn
        have nn : NatV _ (.agg #[.slice sn xn.length xn.length]) (m) := ⟨sn, xn, rfl, hn, vn⟩
        clear hn vn
        replace Bq := heap_kept gw2 Bq
        replace hG := grown_trans hG gw2
        clear gw2
        obtain ⟨Cq0, Cq1, Fq0, Fq1⟩ := box_cells Bq
        have gbw2 := (World.grownBy_alloc w2 (.cells #[.slice sn xn.length xn.length] 24) none)
        have Bn := (heap_new w2 (.cells #[.slice sn xn.length xn.length] 24) (w2.heap.size) rfl)
        have hzw2 : Hid (w.heap.size ≤ w2.heap.size) := Lib.hid hG.size
        have hlqw2 : Hid (w.heap.size < w2.heap.size) := Lib.hid (Array.getElem?_eq_some_iff.1 Bq).1
        clear Cq0 Fq0 Cq1 Fq1
        replace Bq := heap_kept gbw2 Bq
        replace nn := nn.kept gbw2
        replace hG := grown_trans hG gbw2
        clear gbw2
        obtain ⟨Cq0, Cq1, Fq0, Fq1⟩ := box_cells Bq
        obtain ⟨Cn0, Fn0⟩ := box_cell Bn
        have hi : IntV (w2.alloc (.cells #[.slice sn xn.length xn.length] 24)) (.agg #[.slice sn xn.length xn.length, .bool false]) (m : Int) := intv_of_nat nn
        clear Cq0 Fq0 Cq1 Fq1 Cn0 Fn0
        obtain ⟨k90, k91, k92, k93⟩ := box_cells Bq
        obtain ⟨q90, q91, q92, q93⟩ := box_cells (heap_set2 Bq (.slice sn xn.length xn.length) (.bool false))
        have hF : Hid (RetIntE w ((m : Int)) 0 (.returned (.tuple #[.agg #[.slice sn xn.length xn.length, .bool false], .int .i64 0])) (((w2.alloc (.cells #[.slice sn xn.length xn.length] 24)).setCell ⟨w.heap.size, 0, none⟩ (.slice sn xn.length xn.length)).setCell ⟨w.heap.size, 1, none⟩ (.bool false))) := ret_intvE hG Bq (by omega) hi
        clear nn hi
        obtain ⟨Cn0, Fn0⟩ := box_cell Bn
        go_wp2_with fail
        exact bodyPost_ret (v := .tuple #[.agg #[.slice sn xn.length xn.length, .bool false], .int .i64 0]) (by simp [results, Try.results12, go_sem, q90, q91]) rfl hF.out
      · skip
        have h5 : 4096 < s.size := by omega
        obtain ⟨e1, e2⟩ := zc_many hs hok (by rw [hz, bts_len]; exact h5)
        rw [e1, e2]
        clear e1 e2 hok hz h4
        have HD := Lib.hid hd
        have HZ := Lib.hid h5
        have HS := Lib.hid hs
        clear hd h5 hs
        have HN := Lib.hid hn
        clear hn
        have hG : w.grownBy (w.alloc (.cells #[.slice none 0 0, .bool false] 26)) none := (World.grownBy_alloc _ _ _)
        have Bq := (heap_new w (.cells #[.slice none 0 0, .bool false] 26) (w.heap.size) rfl)
        go_enter Try.func12, Try.ntmps12
        obtain ⟨Cq0, Cq1, Fq0, Fq1⟩ := box_cells Bq
        go_wp2_with fail
        generalize (w.alloc (.cells #[.slice none 0 0, .bool false] 26)) = w0 at *
        refine (cutd_miss w0 s HN.out).mono ?_
        rintro e w1 ⟨rfl, rfl⟩
        go_wp2_with fail
        clear Cq0 Fq0 Cq1 Fq1
        refine (Parse_long w0 s HZ.out).mono ?_
        rintro e w2 ⟨_, rfl, ⟨sn, xn, rfl, hn, vn⟩, gw2⟩
        have nn : NatV w2 (.agg #[.slice sn xn.length xn.length]) (0) := ⟨sn, xn, rfl, hn, vn⟩
        replace Bq := heap_kept gw2 Bq
        replace hG := grown_trans hG gw2
        clear gw2
        clear hn vn
        obtain ⟨Cq0, Cq1, Fq0, Fq1⟩ := box_cells Bq
        have gbw2 := (World.grownBy_alloc w2 (.cells #[.slice sn xn.length xn.length] 24) none)
        have Bn := (heap_new w2 (.cells #[.slice sn xn.length xn.length] 24) (w2.heap.size) rfl)
        have hzw2 : Hid (w.heap.size ≤ w2.heap.size) := Lib.hid hG.size
        have hlqw2 : Hid (w.heap.size < w2.heap.size) := Lib.hid (Array.getElem?_eq_some_iff.1 Bq).1
        clear Cq0 Fq0 Cq1 Fq1
        replace Bq := heap_kept gbw2 Bq
        replace nn := nn.kept gbw2
        replace hG := grown_trans hG gbw2
        clear gbw2
        obtain ⟨Cq0, Cq1, Fq0, Fq1⟩ := box_cells Bq
        obtain ⟨Cn0, Fn0⟩ := box_cell Bn
        go_wp2_with fail
        generalize (w2.alloc (.cells #[.slice sn xn.length xn.length] 24)) = w3 at *
        generalize w2.heap.size = aw2 at *
        replace hzw2 := hzw2.out
        replace hlqw2 := hlqw2.out
        refine (long_any w3 s HS.out (by have := HZ.out; omega)).mono ?_
        rintro e w4 ⟨b, rfl, hb, rfl⟩
        obtain rfl : b = true := hb.2 HD.out
        clear hb
        clear Cq0 Fq0 Cq1 Fq1 Cn0 Fn0
        obtain ⟨k90, k91, k92, k93⟩ := box_cells Bq
        obtain ⟨q90, q91, q92, q93⟩ := box_cells (heap_set2 Bq (.slice none 0 0) (.bool false))
        have hF : Hid (RetIntE w (0) 2 (.returned (.tuple #[.agg #[.slice none 0 0, .bool false], .int .i64 2])) ((w3.setCell ⟨w.heap.size, 0, none⟩ (.slice none 0 0)).setCell ⟨w.heap.size, 1, none⟩ (.bool false))) := ret_intvE hG Bq (by omega) (IntV.zero _)
        clear nn
        obtain ⟨Cn0, Fn0⟩ := box_cell Bn
        go_wp2_with fail
        exact bodyPost_ret (v := .tuple #[.agg #[.slice none 0 0, .bool false], .int .i64 2]) (by simp [results, Try.results12, go_sem, q90, q91]) rfl hF.out
    · skip
      obtain ⟨e1, e2⟩ := zc_form hs (fun h => hd (by have := ((zok_iff _).1 h).1; rw [hz] at this; exact this))
      rw [e1, e2]
      clear e1 e2 hz
      by_cases h4 : s.size ≤ 4096
      · skip
        clear hs
        have HD := Lib.hid hd
        have HZ := Lib.hid h4
        clear hd h4
        have HN := Lib.hid hn
        clear hn
        have hG : w.grownBy (w.alloc (.cells #[.slice none 0 0, .bool false] 26)) none := (World.grownBy_alloc _ _ _)
        have Bq := (heap_new w (.cells #[.slice none 0 0, .bool false] 26) (w.heap.size) rfl)
        go_enter Try.func12, Try.ntmps12
        obtain ⟨Cq0, Cq1, Fq0, Fq1⟩ := box_cells Bq
        go_wp2_with fail
        generalize (w.alloc (.cells #[.slice none 0 0, .bool false] 26)) = w0 at *
        refine (cutd_miss w0 s HN.out).mono ?_
        rintro e w1 ⟨rfl, rfl⟩
        go_wp2_with fail
        clear Cq0 Fq0 Cq1 Fq1
        refine (Parse_form w0 s HZ.out HD.out).mono ?_
        rintro e w2 ⟨_, rfl, ⟨sn, xn, rfl, hn, vn⟩, gw2⟩
        have nn : NatV w2 (.agg #[.slice sn xn.length xn.length]) (0) := ⟨sn, xn, rfl, hn, vn⟩
        replace Bq := heap_kept gw2 Bq
        replace hG := grown_trans hG gw2
        clear gw2
        clear hn vn
        obtain ⟨Cq0, Cq1, Fq0, Fq1⟩ := box_cells Bq
        have gbw2 := (World.grownBy_alloc w2 (.cells #[.slice sn xn.length xn.length] 24) none)
        have Bn := (heap_new w2 (.cells #[.slice sn xn.length xn.length] 24) (w2.heap.size) rfl)
        have hzw2 : Hid (w.heap.size ≤ w2.heap.size) := Lib.hid hG.size
        have hlqw2 : Hid (w.heap.size < w2.heap.size) := Lib.hid (Array.getElem?_eq_some_iff.1 Bq).1
        clear Cq0 Fq0 Cq1 Fq1
        replace Bq := heap_kept gbw2 Bq
        replace nn := nn.kept gbw2
        replace hG := grown_trans hG gbw2
        clear gbw2
        obtain ⟨Cq0, Cq1, Fq0, Fq1⟩ := box_cells Bq
        obtain ⟨Cn0, Fn0⟩ := box_cell Bn
        clear Cq0 Fq0 Cq1 Fq1 Cn0 Fn0
        obtain ⟨k90, k91, k92, k93⟩ := box_cells Bq
        obtain ⟨q90, q91, q92, q93⟩ := box_cells (heap_set2 Bq (.slice none 0 0) (.bool false))
        have hF : Hid (RetIntE w (0) 3 (.returned (.tuple #[.agg #[.slice none 0 0, .bool false], .int .i64 3])) (((w2.alloc (.cells #[.slice sn xn.length xn.length] 24)).setCell ⟨w.heap.size, 0, none⟩ (.slice none 0 0)).setCell ⟨w.heap.size, 1, none⟩ (.bool false))) := ret_intvE hG Bq (by omega) (IntV.zero _)
        clear nn
        obtain ⟨Cn0, Fn0⟩ := box_cell Bn
        go_wp2_with fail
        exact bodyPost_ret (v := .tuple #[.agg #[.slice none 0 0, .bool false], .int .i64 3]) (by simp [results, Try.results12, go_sem, q90, q91]) rfl hF.out
      · skip
        have h5 : 4096 < s.size := by omega
        clear h4
        have HD := Lib.hid hd
        have HZ := Lib.hid h5
        have HS := Lib.hid hs
        clear hd h5 hs
        have HN := Lib.hid hn
        clear hn
        have hG : w.grownBy (w.alloc (.cells #[.slice none 0 0, .bool false] 26)) none := (World.grownBy_alloc _ _ _)
        have Bq := (heap_new w (.cells #[.slice none 0 0, .bool false] 26) (w.heap.size) rfl)
        go_enter Try.func12, Try.ntmps12
        obtain ⟨Cq0, Cq1, Fq0, Fq1⟩ := box_cells Bq
        go_wp2_with fail
        generalize (w.alloc (.cells #[.slice none 0 0, .bool false] 26)) = w0 at *
        refine (cutd_miss w0 s HN.out).mono ?_
        rintro e w1 ⟨rfl, rfl⟩
        go_wp2_with fail
        clear Cq0 Fq0 Cq1 Fq1
        refine (Parse_long w0 s HZ.out).mono ?_
        rintro e w2 ⟨_, rfl, ⟨sn, xn, rfl, hn, vn⟩, gw2⟩
        have nn : NatV w2 (.agg #[.slice sn xn.length xn.length]) (0) := ⟨sn, xn, rfl, hn, vn⟩
        replace Bq := heap_kept gw2 Bq
        replace hG := grown_trans hG gw2
        clear gw2
        clear hn vn
        obtain ⟨Cq0, Cq1, Fq0, Fq1⟩ := box_cells Bq
        have gbw2 := (World.grownBy_alloc w2 (.cells #[.slice sn xn.length xn.length] 24) none)
        have Bn := (heap_new w2 (.cells #[.slice sn xn.length xn.length] 24) (w2.heap.size) rfl)
        have hzw2 : Hid (w.heap.size ≤ w2.heap.size) := Lib.hid hG.size
        have hlqw2 : Hid (w.heap.size < w2.heap.size) := Lib.hid (Array.getElem?_eq_some_iff.1 Bq).1
        clear Cq0 Fq0 Cq1 Fq1
        replace Bq := heap_kept gbw2 Bq
        replace nn := nn.kept gbw2
        replace hG := grown_trans hG gbw2
        clear gbw2
        obtain ⟨Cq0, Cq1, Fq0, Fq1⟩ := box_cells Bq
        obtain ⟨Cn0, Fn0⟩ := box_cell Bn
        go_wp2_with fail
        generalize (w2.alloc (.cells #[.slice sn xn.length xn.length] 24)) = w3 at *
        generalize w2.heap.size = aw2 at *
        replace hzw2 := hzw2.out
        replace hlqw2 := hlqw2.out
        refine (long_any w3 s HS.out (by have := HZ.out; omega)).mono ?_
        rintro e w4 ⟨b, rfl, hb, rfl⟩
        obtain rfl : b = false := by cases b <;> first | rfl | exact absurd (hb.1 rfl) HD.out
        clear hb
        clear Cq0 Fq0 Cq1 Fq1 Cn0 Fn0
        obtain ⟨k90, k91, k92, k93⟩ := box_cells Bq
        obtain ⟨q90, q91, q92, q93⟩ := box_cells (heap_set2 Bq (.slice none 0 0) (.bool false))
        have hF : Hid (RetIntE w (0) 3 (.returned (.tuple #[.agg #[.slice none 0 0, .bool false], .int .i64 3])) ((w3.setCell ⟨w.heap.size, 0, none⟩ (.slice none 0 0)).setCell ⟨w.heap.size, 1, none⟩ (.bool false))) := ret_intvE hG Bq (by omega) (IntV.zero _)
        clear nn
        obtain ⟨Cn0, Fn0⟩ := box_cell Bn
        go_wp2_with fail
        exact bodyPost_ret (v := .tuple #[.agg #[.slice none 0 0, .bool false], .int .i64 3]) (by simp [results, Try.results12, go_sem, q90, q91]) rfl hF.out
  · skip
    obtain ⟨t, ht⟩ : ∃ t, s.extract 1 s.size = t := ⟨_, rfl⟩
    have hp : 0 < s.size := by
      rcases Nat.eq_zero_or_pos s.size with h | h
      · have : bts s = [] := List.length_eq_zero_iff.1 (by rw [bts_len]; exact h)
        rw [this] at hn; cases hn
      · exact h
    have hbt : bts t = zdig (bts s) := by rw [← ht, bts_extract, zdig_neg hn, List.drop_one]
    have htz : t.size ≤ 4096 := by rw [← ht, ByteArray.size_extract]; omega
    by_cases hd : DecL (bts t)
    · skip
      obtain ⟨m, hm⟩ : ∃ m, dval (bts t) = m := ⟨_, rfl⟩
      rcases Nat.eq_zero_or_pos m with h6 | h6
      · skip
        subst h6
        obtain ⟨e1, e2⟩ := zc_form hs (fun h => ((zok_iff _).1 h).2 ⟨hn, by rw [← hbt]; exact hm⟩)
        rw [e1, e2]
        clear e1 e2 hbt hs hp
        rw [← ht] at hd htz hm
        clear ht t
        have HD := Lib.hid hd
        have HZ := Lib.hid htz
        have HV := Lib.hid hm
        clear hd htz hm
        have HN := Lib.hid hn
        clear hn
        have hG : w.grownBy (w.alloc (.cells #[.slice none 0 0, .bool false] 26)) none := (World.grownBy_alloc _ _ _)
        have Bq := (heap_new w (.cells #[.slice none 0 0, .bool false] 26) (w.heap.size) rfl)
        go_enter Try.func12, Try.ntmps12
        obtain ⟨Cq0, Cq1, Fq0, Fq1⟩ := box_cells Bq
        go_wp2_with fail
        generalize (w.alloc (.cells #[.slice none 0 0, .bool false] 26)) = w0 at *
        refine (cutd_hit w0 s HN.out).mono ?_
        rintro e w1 ⟨rfl, rfl⟩
        generalize hst : s.extract 1 s.size = t at *
        clear hst
        go_wp2_with fail
        clear Cq0 Fq0 Cq1 Fq1
        refine (Parse_some w0 t HZ.out HD.out).mono ?_
        rintro e w2 ⟨_, rfl, ⟨sn, xn, rfl, hn, vn⟩, gw2⟩
        rw [HV.out] at vn
        have nn : NatV _ (.agg #[.slice sn xn.length xn.length]) (0) := ⟨sn, xn, rfl, hn, vn⟩
        clear hn vn
        replace Bq := heap_kept gw2 Bq
        replace hG := grown_trans hG gw2
        clear gw2
        obtain ⟨Cq0, Cq1, Fq0, Fq1⟩ := box_cells Bq
        have gbw2 := (World.grownBy_alloc w2 (.cells #[.slice sn xn.length xn.length] 24) none)
        have Bn := (heap_new w2 (.cells #[.slice sn xn.length xn.length] 24) (w2.heap.size) rfl)
        have hzw2 : Hid (w.heap.size ≤ w2.heap.size) := Lib.hid hG.size
        have hlqw2 : Hid (w.heap.size < w2.heap.size) := Lib.hid (Array.getElem?_eq_some_iff.1 Bq).1
        clear Cq0 Fq0 Cq1 Fq1
        replace Bq := heap_kept gbw2 Bq
        replace nn := nn.kept gbw2
        replace hG := grown_trans hG gbw2
        clear gbw2
        obtain ⟨Cq0, Cq1, Fq0, Fq1⟩ := box_cells Bq
        obtain ⟨Cn0, Fn0⟩ := box_cell Bn
        go_wp2_with fail
        generalize (w2.alloc (.cells #[.slice sn xn.length xn.length] 24)) = w3 at *
        generalize w2.heap.size = aw2 at *
        replace hzw2 := hzw2.out
        replace hlqw2 := hlqw2.out
        clear Cq0 Fq0 Cq1 Fq1 Cn0 Fn0
        refine (Bits_any w3 _ 0 216 nn (by omega) (Nat.pow_pos B_pos)).mono ?_
        rintro e w4 ⟨rfl, gw4⟩
        rw [show nb 0 = 0 from rfl]
        replace Bq := heap_kept gw4 Bq
        replace Bn := heap_kept gw4 Bn
        replace nn := nn.kept gw4
        replace hG := grown_trans hG gw4
        clear gw4
        obtain ⟨Cq0, Cq1, Fq0, Fq1⟩ := box_cells Bq
        obtain ⟨Cn0, Fn0⟩ := box_cell Bn
        clear Cq0 Fq0 Cq1 Fq1 Cn0 Fn0
        obtain ⟨k90, k91, k92, k93⟩ := box_cells Bq
        obtain ⟨q90, q91, q92, q93⟩ := box_cells (heap_set2 Bq (.slice none 0 0) (.bool false))
        have hF : Hid (RetIntE w (0) 3 (.returned (.tuple #[.agg #[.slice none 0 0, .bool false], .int .i64 3])) ((w4.setCell ⟨w.heap.size, 0, none⟩ (.slice none 0 0)).setCell ⟨w.heap.size, 1, none⟩ (.bool false))) := ret_intvE hG Bq (by omega) (IntV.zero _)
        clear nn
        obtain ⟨Cn0, Fn0⟩ := box_cell Bn
        go_wp2_with fail
        exact bodyPost_ret (v := .tuple #[.agg #[.slice none 0 0, .bool false], .int .i64 3]) (by simp [results, Try.results12, go_sem, q90, q91]) rfl hF.out
      · skip
        have hok : zok (bts s) = true := (zok_iff _).2 ⟨by rw [← hbt]; exact hd, by rw [← hbt, hm]; omega⟩
        obtain ⟨e1, e2⟩ := zc_num hs hok (by rw [← hbt, bts_len]; exact htz)
        rw [e1, e2, show znum (bts s) = -(m : Int) from by unfold znum; rw [if_pos hn, ← hbt, hm]]
        have hM : m < B ^ 216 := by rw [← hm]; exact dval_bd hd (by rw [bts_len]; omega)
        obtain ⟨cb, hcb⟩ : ∃ c, nb m = c := ⟨_, rfl⟩
        have f7 : ((cb : Int) == 0) = false := beq_eq_false_iff_ne.2 (by have := nb_pos h6; omega)
        clear e1 e2 hbt hs hp hok
        rw [← ht] at hd htz hm
        clear ht t
        have HD := Lib.hid hd
        have HZ := Lib.hid htz
        have HV := Lib.hid hm
        have HM := Lib.hid hM
        have HC := Lib.hid hcb
        have HP := Lib.hid h6
        clear hd htz hm hM hcb h6
        have HN := Lib.hid hn
        clear hn
        have hG : w.grownBy (w.alloc (.cells #[.slice none 0 0, .bool false] 26)) none := (World.grownBy_alloc _ _ _)
        have Bq := (heap_new w (.cells #[.slice none 0 0, .bool false] 26) (w.heap.size) rfl)
        go_enter Try.func12, Try.ntmps12
        obtain ⟨Cq0, Cq1, Fq0, Fq1⟩ := box_cells Bq
        go_wp2_with fail
        generalize (w.alloc (.cells #[.slice none 0 0, .bool false] 26)) = w0 at *
        refine (cutd_hit w0 s HN.out).mono ?_
        rintro e w1 ⟨rfl, rfl⟩
        generalize hst : s.extract 1 s.size = t at *
        clear hst
        go_wp2_with fail
        clear Cq0 Fq0 Cq1 Fq1
        refine (Parse_some w0 t HZ.out HD.out).mono ?_
        rintro e w2 ⟨_, rfl, ⟨sn, xn, rfl, hn, vn⟩, gw2⟩
        rw [HV.out] at vn
        have nn : NatV _ (.agg #[.slice sn xn.length xn.length]) (m) := ⟨sn, xn, rfl, hn, vn⟩
        clear hn vn
        replace Bq := heap_kept gw2 Bq
        replace hG := grown_trans hG gw2
        clear gw2
        obtain ⟨Cq0, Cq1, Fq0, Fq1⟩ := box_cells Bq
        have gbw2 := (World.grownBy_alloc w2 (.cells #[.slice sn xn.length xn.length] 24) none)
        have Bn := (heap_new w2 (.cells #[.slice sn xn.length xn.length] 24) (w2.heap.size) rfl)
        have hzw2 : Hid (w.heap.size ≤ w2.heap.size) := Lib.hid hG.size
        have hlqw2 : Hid (w.heap.size < w2.heap.size) := Lib.hid (Array.getElem?_eq_some_iff.1 Bq).1
        clear Cq0 Fq0 Cq1 Fq1
        replace Bq := heap_kept gbw2 Bq
        replace nn := nn.kept gbw2
        replace hG := grown_trans hG gbw2
        clear gbw2
        obtain ⟨Cq0, Cq1, Fq0, Fq1⟩ := box_cells Bq
        obtain ⟨Cn0, Fn0⟩ := box_cell Bn
        go_wp2_with fail
        generalize (w2.alloc (.cells #[.slice sn xn.length xn.length] 24)) = w3 at *
        generalize w2.heap.size = aw2 at *
        replace hzw2 := hzw2.out
        replace hlqw2 := hlqw2.out
        clear Cq0 Fq0 Cq1 Fq1 Cn0 Fn0
        refine (Bits_any w3 _ m 216 nn (by omega) HM.out).mono ?_
        rintro e w4 ⟨rfl, gw4⟩
        rw [HC.out]
        replace Bq := heap_kept gw4 Bq
        replace Bn := heap_kept gw4 Bn
        replace nn := nn.kept gw4
        replace hG := grown_trans hG gw4
        clear gw4
        obtain ⟨Cq0, Cq1, Fq0, Fq1⟩ := box_cells Bq
        obtain ⟨Cn0, Fn0⟩ := box_cell Bn
        have hi : IntV w4 (.agg #[.slice sn xn.length xn.length, .bool true]) (-(m : Int)) := intv_of_neg nn HP.out
        clear Cq0 Fq0 Cq1 Fq1 Cn0 Fn0
        obtain ⟨k90, k91, k92, k93⟩ := box_cells Bq
        obtain ⟨q90, q91, q92, q93⟩ := box_cells (heap_set2 Bq (.slice sn xn.length xn.length) (.bool true))
        have hF : Hid (RetIntE w (-(m : Int)) 0 (.returned (.tuple #[.agg #[.slice sn xn.length xn.length, .bool true], .int .i64 0])) ((w4.setCell ⟨w.heap.size, 0, none⟩ (.slice sn xn.length xn.length)).setCell ⟨w.heap.size, 1, none⟩ (.bool true))) := ret_intvE hG Bq (by omega) hi
        clear nn hi
        obtain ⟨Cn0, Fn0⟩ := box_cell Bn
        go_wp2_with fail
        exact bodyPost_ret (v := .tuple #[.agg #[.slice sn xn.length xn.length, .bool true], .int .i64 0]) (by simp [results, Try.results12, go_sem, q90, q91]) rfl hF.out
    · skip
      obtain ⟨e1, e2⟩ := zc_form hs (fun h => hd (by rw [hbt]; exact ((zok_iff _).1 h).1))
      rw [e1, e2]
      clear e1 e2 hbt hs hp
      rw [← ht] at hd htz
      clear ht t
      have HD := Lib.hid hd
      have HZ := Lib.hid htz
      clear hd htz
      have HN := Lib.hid hn
      clear hn
      have hG : w.grownBy (w.alloc (.cells #[.slice none 0 0, .bool false] 26)) none := (World.grownBy_alloc _ _ _)
      have Bq := (heap_new w (.cells #[.slice none 0 0, .bool false] 26) (w.heap.size) rfl)
      go_enter Try.func12, Try.ntmps12
      obtain ⟨Cq0, Cq1, Fq0, Fq1⟩ := box_cells Bq
      go_wp2_with fail
      generalize (w.alloc (.cells #[.slice none 0 0, .bool false] 26)) = w0 at *
      refine (cutd_hit w0 s HN.out).mono ?_
      rintro e w1 ⟨rfl, rfl⟩
      generalize hst : s.extract 1 s.size = t at *
      clear hst
      go_wp2_with fail
      clear Cq0 Fq0 Cq1 Fq1
      refine (Parse_form w0 t HZ.out HD.out).mono ?_
      rintro e w2 ⟨_, rfl, ⟨sn, xn, rfl, hn, vn⟩, gw2⟩
      have nn : NatV w2 (.agg #[.slice sn xn.length xn.length]) (0) := ⟨sn, xn, rfl, hn, vn⟩
      replace Bq := heap_kept gw2 Bq
      replace hG := grown_trans hG gw2
      clear gw2
      clear hn vn
      obtain ⟨Cq0, Cq1, Fq0, Fq1⟩ := box_cells Bq
      have gbw2 := (World.grownBy_alloc w2 (.cells #[.slice sn xn.length xn.length] 24) none)
      have Bn := (heap_new w2 (.cells #[.slice sn xn.length xn.length] 24) (w2.heap.size) rfl)
      have hzw2 : Hid (w.heap.size ≤ w2.heap.size) := Lib.hid hG.size
      have hlqw2 : Hid (w.heap.size < w2.heap.size) := Lib.hid (Array.getElem?_eq_some_iff.1 Bq).1
      clear Cq0 Fq0 Cq1 Fq1
      replace Bq := heap_kept gbw2 Bq
      replace nn := nn.kept gbw2
      replace hG := grown_trans hG gbw2
      clear gbw2
      obtain ⟨Cq0, Cq1, Fq0, Fq1⟩ := box_cells Bq
      obtain ⟨Cn0, Fn0⟩ := box_cell Bn
      clear Cq0 Fq0 Cq1 Fq1 Cn0 Fn0
      obtain ⟨k90, k91, k92, k93⟩ := box_cells Bq
      obtain ⟨q90, q91, q92, q93⟩ := box_cells (heap_set2 Bq (.slice none 0 0) (.bool false))
      have hF : Hid (RetIntE w (0) 3 (.returned (.tuple #[.agg #[.slice none 0 0, .bool false], .int .i64 3])) (((w2.alloc (.cells #[.slice sn xn.length xn.length] 24)).setCell ⟨w.heap.size, 0, none⟩ (.slice none 0 0)).setCell ⟨w.heap.size, 1, none⟩ (.bool false))) := ret_intvE hG Bq (by omega) (IntV.zero _)
      clear nn
      obtain ⟨Cn0, Fn0⟩ := box_cell Bn
      go_wp2_with fail
      exact bodyPost_ret (v := .tuple #[.agg #[.slice none 0 0, .bool false], .int .i64 3]) (by simp [results, Try.results12, go_sem, q90, q91]) rfl hF.out
end Go.Proofs.Ytljfhiikoimdiaa
