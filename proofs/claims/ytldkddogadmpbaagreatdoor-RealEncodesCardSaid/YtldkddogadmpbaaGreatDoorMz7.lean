/- What the laws lean on, part 7. -/
import Derived.Deep.RegionHeld3
import Derived.Deep.AppendLies
import Derived.Test.YtldkddogadmpbaaGreatDoorMz5
import Derived.Test.YtldkddogadmpbaaGreatDoorZRef2
import Derived.Test.YtldkddogadmpbaaGreatDoorRefMul
namespace Go.Proofs.YtldkddogadmpbaaGreatDoor
open Go.RowKit Mat
set_option maxRecDepth 100000
set_option linter.unusedVariables false
set_option linter.unusedSimpArgs false
def RetRIntE (w : World) (z : Int) (code : Int) (e : Ending) (w' : World) : Prop := ∃ v, e = .returned (.tuple #[v, .int .i64 code]) ∧ RIntV w' v z ∧ w.grownBy w' none
theorem ret_rintvE {w w' : World} {z code : Int} {g : Nat} {a0 a1 v0 v1 : Value} (hg : w.grownBy w' none) (hbox : w'.heap[g]? = some (.cells #[a0, a1] 36 (0, 0))) (hl : w.heap.size ≤ g) (h : RIntV w' (.agg #[v0, v1]) z) :
    RetRIntE w z code (.returned (.tuple #[.agg #[v0, v1], .int .i64 code])) ((w'.setCell ⟨g, 0, none⟩ v0).setCell ⟨g, 1, none⟩ v1) :=
  ⟨_, rfl, (h.set_other hbox (by decide) 0 v0).set_other (heap_setfst hbox v0) (by decide) 1 v1, grown_two hg hl v0 v1⟩
theorem dec_why {s : ByteArray} (h : ¬ DecL (bts s)) : s.size = 0 ∨ (∃ hp : 0 < s.size, (s[0]'hp).toNat = 48 ∧ 1 < s.size) ∨ (0 < s.size ∧ (∀ hp : 0 < s.size, 1 < s.size → (s[0]'hp).toNat ≠ 48) ∧ ¬ ∀ j (h : j < s.size), j < s.size → 48 ≤ (s[j]'h).toNat ∧ (s[j]'h).toNat ≤ 57) := by
  rcases Nat.eq_zero_or_pos s.size with h0 | h0
  · exact Or.inl h0
  · right
    by_cases h1 : 1 < s.size ∧ (s[0]'h0).toNat = 48
    · left; exact ⟨h0, h1.2, h1.1⟩
    · right
      refine ⟨h0, fun hp h2 h3 => h1 ⟨h2, h3⟩, fun hd => h ?_⟩
      refine ⟨fun k hk => ?_, ?_⟩
      · have hk' : k < s.size := by rw [bts_len] at hk; exact hk
        rw [bts_get s k hk']; exact hd k hk' hk'
      · by_cases h2 : s.size = 1
        · have hl : (bts s).length = 1 := by rw [bts_len]; exact h2
          obtain ⟨y, hy⟩ := List.length_eq_one_iff.1 hl
          by_cases h48 : y = 48
          · left; rw [hy, h48]
          · right; rw [hy]; simpa using h48
        · right
          refine ⟨fun e => ?_, fun e => ?_⟩
          · have := bts_len s; rw [e] at this; simp at this; omega
          · rw [bts_head s h0] at e
            exact h1 ⟨by omega, Option.some.inj e⟩
theorem dec_how {s : ByteArray} (h : DecL (bts s)) : 0 < s.size ∧ (∀ hp : 0 < s.size, 1 < s.size → (s[0]'hp).toNat ≠ 48) ∧ (∀ j (h : j < s.size), j < s.size → 48 ≤ (s[j]'h).toNat ∧ (s[j]'h).toNat ≤ 57) := by
  have h0 : 0 < s.size := by
    rcases Nat.eq_zero_or_pos s.size with h1 | h1
    · have h3 : bts s = [] := List.length_eq_zero_iff.1 (by rw [bts_len]; exact h1)
      rcases h.2 with h4 | h4
      · rw [h3] at h4; simp at h4
      · exact absurd h3 h4.1
    · exact h1
  refine ⟨h0, fun hp h1 e => ?_, fun j hj _ => ?_⟩
  · rcases h.2 with h4 | h4
    · have := bts_len s; rw [h4] at this; simp at this; omega
    · exact h4.2 (by rw [bts_head s hp, e])
  · have := h.1 j (by rw [bts_len]; exact hj)
    rw [bts_get s j hj] at this; exact this
theorem dec_one48 {s : ByteArray} (h0 : 0 < s.size) (h : DecL (bts s)) (hm : dval (bts s) ≠ 0) : (s[0]'h0).toNat ≠ 48 := by
  intro e
  rcases h.2 with h4 | h4
  · rw [h4] at hm; exact hm (by decide +kernel)
  · exact h4.2 (by rw [bts_head s h0, e])
theorem sign_one (m : Nat) : m = 0 ∨ (m : Int).sign = 1 := by
  rcases zsign (m : Int) with ⟨h, e⟩ | ⟨h, e⟩ | ⟨h, e⟩
  · omega
  · left; omega
  · right; exact e
set_option maxHeartbeats 16000000 in
theorem rZParse_any (w : World) (s : ByteArray) :
    Calls Tryz.prog 16 #[.string s] w (RetRIntE w (zval s) (zcod s)) := by
  by_cases h0 : 4097 < s.size
  · skip
    obtain ⟨e1, e2⟩ := zc_long h0
    rw [e1, e2]
    clear e1 e2
    have f1 : decide ((4097 : Int) < (s.size : Int)) = true := decide_eq_true (by omega)
    have hG : w.grownBy (w.alloc (.cells #[.int .i64 0, .slice none 0 0] 36)) none := (World.grownBy_alloc _ _ _)
    have Bq := (heap_new w (.cells #[.int .i64 0, .slice none 0 0] 36) (w.heap.size) rfl)
    go_enter Tryz.func16, Tryz.ntmps16
    obtain ⟨Cq0, Cq1, Fq0, Fq1⟩ := box_cells Bq
    have hG' : w.grownBy (w.alloc (.cells #[.int .i64 0, .slice none 0 0] 36)) none := (World.grownBy_alloc _ _ _)
    have hF : Hid (RetRIntE w (0) 2 (.returned (.tuple #[.agg #[.int .i64 0, .slice none 0 0], .int .i64 2])) (w.alloc (.cells #[.int .i64 0, .slice none 0 0] 36))) := ⟨_, rfl, (RIntV.zero _), hG'⟩
    clear hG'
    go_wp2_with fail
    exact bodyPost_ret (v := .tuple #[.agg #[.int .i64 0, .slice none 0 0], .int .i64 2]) (by simp [results, Tryz.results16, go_sem]) rfl hF.out
  have f1 : decide ((4097 : Int) < (s.size : Int)) = false := decide_eq_false (by omega)
  have hs : s.size ≤ 4097 := by omega
  clear h0
  cases hn : zneg (bts s)
  · skip
    have HB4 := Lib.hid hs
    have hz := zdig_pos hn
    have hsig : (decide (0 < s.size) = false ∧ decide ((0 : Int) < (s.size : Int)) = false) ∨ (decide (0 < s.size) = true ∧ decide ((0 : Int) < (s.size : Int)) = true ∧ ∃ hp : 0 < s.size, ∃ x : Nat, (s[0]'hp).toNat = x ∧ ((x : Int) == 45) = false) := by
      rcases Nat.eq_zero_or_pos s.size with h | h
      · left; exact ⟨decide_eq_false (by omega), decide_eq_false (by omega)⟩
      · right; refine ⟨decide_eq_true h, decide_eq_true (by omega), h, _, rfl, ?_⟩
        refine beq_eq_false_iff_ne.2 (fun e => ?_)
        have : zneg (bts s) = true := by unfold zneg; rw [bts_head s h]; have e2 : (s[0]'h).toNat = 45 := by omega
                                         rw [e2]; rfl
        rw [hn] at this; cases this
    by_cases hd : DecL (bts s)
    · skip
      have hok : zok (bts s) = true := (zok_iff _).2 ⟨by rw [hz]; exact hd, by rw [hn]; simp⟩
      obtain ⟨hp9, hx9, hw9⟩ := dec_how hd
      obtain ⟨f2, f3, f4⟩ : decide (0 < s.size) = true ∧ decide ((0 : Int) < (s.size : Int)) = true ∧ (((s[0]'hp9).toNat : Int) == 45) = false := by
        rcases hsig with ⟨h, _⟩ | ⟨h1, h2, hp, x, ex, h3⟩
        · exact absurd hp9 (of_decide_eq_false h)
        · exact ⟨h1, h2, by rw [ex]; exact h3⟩
      have HX := Lib.hid hx9
      have HW := Lib.hid hw9
      clear hw9 hx9 hsig
      by_cases h4 : s.size ≤ 4096
      · skip
        obtain ⟨e1, e2⟩ := zc_num hs hok (by rw [hz, bts_len]; exact h4)
        obtain ⟨m, hm⟩ : ∃ m, dval (bts s) = m := ⟨_, rfl⟩
        rw [e1, e2, show znum (bts s) = (m : Int) from by unfold znum; rw [hn, hz, hm]; rfl]
        clear e1 e2 hok hz hs hn
        have HD := Lib.hid hd
        have HZ := Lib.hid h4
        have HV := Lib.hid hm
        clear hd h4 hm
        obtain ⟨x0, ex0⟩ : ∃ x, (s[0]'hp9).toNat = x := ⟨_, rfl⟩
        have HX2 : Hid (1 < s.size → x0 ≠ 48) := fun h => by rw [← ex0]; exact HX.out hp9 h
        have EX0 := Lib.hid ex0
        clear ex0
        clear HX
        by_cases hx0 : x0 = 48
        · skip
          subst hx0
          have h1 : s.size ≤ 1 := by have := HX2.out; omega
          clear HX2
          have g0 : ((s.size : Int) == 0) = false := beq_eq_false_iff_ne.2 (by omega)
          have g1 : decide ((1 : Int) < (s.size : Int)) = false := decide_eq_false (by omega)
          have ex : (s[0]'hp9).toNat = 48 := EX0.out
          clear h1
          have hG : w.grownBy (w.alloc (.cells #[.int .i64 0, .slice none 0 0] 36)) none := (World.grownBy_alloc _ _ _)
          have Bq := (heap_new w (.cells #[.int .i64 0, .slice none 0 0] 36) (w.heap.size) rfl)
          go_enter Tryz.func16, Tryz.ntmps16
          obtain ⟨Cq0, Cq1, Fq0, Fq1⟩ := box_cells Bq
          go_upto_region 8 with fail
          go_wp2_with fail
          generalize (w.alloc (.cells #[.int .i64 0, .slice none 0 0] 36)) = w0 at *
          have hb4 : s.size ≤ 4097 := HB4.out
          go_loopw [6] (fun i wr => ∃ k : Nat, k ≤ s.size ∧ i = .int .i64 k ∧ w0 = wr) (fun i _ => s.size - (intOf i).toNat)
          case atStart => exact ⟨0, Nat.zero_le _, rfl, rfl⟩
          case round =>
            obtain ⟨k, hk, rfl, rfl⟩ := hrel
            by_cases hlt : k < s.size
            · skip
              obtain ⟨y, ey⟩ : ∃ y, (s[k]'hlt).toNat = y := ⟨_, rfl⟩
              have hy : 48 ≤ y ∧ y ≤ 57 := ey ▸ HW.out k hlt hlt
              have f5 : decide ((y : Int) < 48) = false := decide_eq_false (by omega)
              have f6 : decide ((57 : Int) < (y : Int)) = false := decide_eq_false (by omega)
              go_wp2_with fail
              go_roundw
              case rel => exact ⟨k + 1, by omega, by go_num, by trivial⟩
              case measure => simp [intOf]; omega
            · skip
              obtain rfl : k = s.size := by omega
              go_wp2_with fail
              clear Cq0 Fq0 Cq1 Fq1
              refine (rParse_some w0 s HZ.out HD.out).mono ?_
              rintro e w1 ⟨_, rfl, ⟨sn, ln, cn, yn, rfl, hn⟩, gw1⟩
              have mn : RefV w1 (.agg #[.slice sn ln cn]) (dval (bts s)) := ⟨sn, ln, cn, yn, rfl, hn⟩
              replace Bq := heap_kept gw1 Bq
              replace hG := grown_trans hG gw1
              clear gw1
              clear hn
              obtain ⟨Cq0, Cq1, Fq0, Fq1⟩ := box_cells Bq
              have gbw1 := (World.grownBy_alloc w1 (.cells #[.slice sn ln cn] 34) none)
              have Bn := (heap_new w1 (.cells #[.slice sn ln cn] 34) (w1.heap.size) rfl)
              have hzw1 : Hid (w.heap.size ≤ w1.heap.size) := Lib.hid hG.size
              have hlqw1 : Hid (w.heap.size < w1.heap.size) := Lib.hid (Array.getElem?_eq_some_iff.1 Bq).1
              clear Cq0 Fq0 Cq1 Fq1
              replace Bq := heap_kept gbw1 Bq
              replace mn := mn.kept gbw1
              replace hG := grown_trans hG gbw1
              clear gbw1
              obtain ⟨Cq0, Cq1, Fq0, Fq1⟩ := box_cells Bq
              obtain ⟨Cn0, Fn0⟩ := box_cell Bn
              go_wp2_with fail
              generalize (w1.alloc (.cells #[.slice sn ln cn] 34)) = w2 at *
              generalize w1.heap.size = aw1 at *
              replace hzw1 := hzw1.out
              replace hlqw1 := hlqw1.out
              clear Cq0 Fq0 Cq1 Fq1 Cn0 Fn0
              refine (rMade_any w2 _ 1 (dval (bts s)) (m : Int) mn (by rw [HV.out]; omega) (by rw [HV.out]; exact sign_one m)).mono ?_
              rintro e w3 ⟨_, rfl, ⟨gd, sd, ld, cd, rfl, hd, md⟩, gw3⟩
              have rd : RIntV w3 (.agg #[.int .i64 gd, .slice sd ld cd]) ((m : Int)) := ⟨gd, sd, ld, cd, rfl, hd, md⟩
              replace Bq := heap_kept gw3 Bq
              replace Bn := heap_kept gw3 Bn
              replace mn := mn.kept gw3
              replace hG := grown_trans hG gw3
              clear gw3
              clear md
              obtain ⟨Cq0, Cq1, Fq0, Fq1⟩ := box_cells Bq
              obtain ⟨Cn0, Fn0⟩ := box_cell Bn
              clear Cq0 Fq0 Cq1 Fq1 Cn0 Fn0
              obtain ⟨k90, k91, k92, k93⟩ := box_cells Bq
              obtain ⟨q90, q91, q92, q93⟩ := box_cells (heap_set2 Bq (.int .i64 gd) (.slice sd ld cd))
              have hF : Hid (RetRIntE w ((m : Int)) 0 (.returned (.tuple #[.agg #[.int .i64 gd, .slice sd ld cd], .int .i64 0])) ((w3.setCell ⟨w.heap.size, 0, none⟩ (.int .i64 gd)).setCell ⟨w.heap.size, 1, none⟩ (.slice sd ld cd))) := ret_rintvE hG Bq (by omega) rd
              clear mn rd
              obtain ⟨Cn0, Fn0⟩ := box_cell Bn
              go_wp2_with fail
              exact bodyPost_ret (v := .tuple #[.agg #[.int .i64 gd, .slice sd ld cd], .int .i64 0]) (by simp [results, Tryz.results16, go_sem, q90, q91]) rfl hF.out
        · skip
          have g2 : ((x0 : Int) == 48) = false := beq_eq_false_iff_ne.2 (by omega)
          clear hx0 HX2
          have ex : (s[0]'hp9).toNat = x0 := EX0.out
          have g0 : ((s.size : Int) == 0) = false := beq_eq_false_iff_ne.2 (by omega)
          have hG : w.grownBy (w.alloc (.cells #[.int .i64 0, .slice none 0 0] 36)) none := (World.grownBy_alloc _ _ _)
          have Bq := (heap_new w (.cells #[.int .i64 0, .slice none 0 0] 36) (w.heap.size) rfl)
          go_enter Tryz.func16, Tryz.ntmps16
          obtain ⟨Cq0, Cq1, Fq0, Fq1⟩ := box_cells Bq
          go_upto_region 8 with fail
          go_wp2_with fail
          generalize (w.alloc (.cells #[.int .i64 0, .slice none 0 0] 36)) = w0 at *
          have hb4 : s.size ≤ 4097 := HB4.out
          go_loopw [6] (fun i wr => ∃ k : Nat, k ≤ s.size ∧ i = .int .i64 k ∧ w0 = wr) (fun i _ => s.size - (intOf i).toNat)
          case atStart => exact ⟨0, Nat.zero_le _, rfl, rfl⟩
          case round =>
            obtain ⟨k, hk, rfl, rfl⟩ := hrel
            by_cases hlt : k < s.size
            · skip
              obtain ⟨y, ey⟩ : ∃ y, (s[k]'hlt).toNat = y := ⟨_, rfl⟩
              have hy : 48 ≤ y ∧ y ≤ 57 := ey ▸ HW.out k hlt hlt
              have f5 : decide ((y : Int) < 48) = false := decide_eq_false (by omega)
              have f6 : decide ((57 : Int) < (y : Int)) = false := decide_eq_false (by omega)
              go_wp2_with fail
              go_roundw
              case rel => exact ⟨k + 1, by omega, by go_num, by trivial⟩
              case measure => simp [intOf]; omega
            · skip
              obtain rfl : k = s.size := by omega
              go_wp2_with fail
              clear Cq0 Fq0 Cq1 Fq1
              refine (rParse_some w0 s HZ.out HD.out).mono ?_
              rintro e w1 ⟨_, rfl, ⟨sn, ln, cn, yn, rfl, hn⟩, gw1⟩
              have mn : RefV w1 (.agg #[.slice sn ln cn]) (dval (bts s)) := ⟨sn, ln, cn, yn, rfl, hn⟩
              replace Bq := heap_kept gw1 Bq
              replace hG := grown_trans hG gw1
              clear gw1
              clear hn
              obtain ⟨Cq0, Cq1, Fq0, Fq1⟩ := box_cells Bq
              have gbw1 := (World.grownBy_alloc w1 (.cells #[.slice sn ln cn] 34) none)
              have Bn := (heap_new w1 (.cells #[.slice sn ln cn] 34) (w1.heap.size) rfl)
              have hzw1 : Hid (w.heap.size ≤ w1.heap.size) := Lib.hid hG.size
              have hlqw1 : Hid (w.heap.size < w1.heap.size) := Lib.hid (Array.getElem?_eq_some_iff.1 Bq).1
              clear Cq0 Fq0 Cq1 Fq1
              replace Bq := heap_kept gbw1 Bq
              replace mn := mn.kept gbw1
              replace hG := grown_trans hG gbw1
              clear gbw1
              obtain ⟨Cq0, Cq1, Fq0, Fq1⟩ := box_cells Bq
              obtain ⟨Cn0, Fn0⟩ := box_cell Bn
              go_wp2_with fail
              generalize (w1.alloc (.cells #[.slice sn ln cn] 34)) = w2 at *
              generalize w1.heap.size = aw1 at *
              replace hzw1 := hzw1.out
              replace hlqw1 := hlqw1.out
              clear Cq0 Fq0 Cq1 Fq1 Cn0 Fn0
              refine (rMade_any w2 _ 1 (dval (bts s)) (m : Int) mn (by rw [HV.out]; omega) (by rw [HV.out]; exact sign_one m)).mono ?_
              rintro e w3 ⟨_, rfl, ⟨gd, sd, ld, cd, rfl, hd, md⟩, gw3⟩
              have rd : RIntV w3 (.agg #[.int .i64 gd, .slice sd ld cd]) ((m : Int)) := ⟨gd, sd, ld, cd, rfl, hd, md⟩
              replace Bq := heap_kept gw3 Bq
              replace Bn := heap_kept gw3 Bn
              replace mn := mn.kept gw3
              replace hG := grown_trans hG gw3
              clear gw3
              clear md
              obtain ⟨Cq0, Cq1, Fq0, Fq1⟩ := box_cells Bq
              obtain ⟨Cn0, Fn0⟩ := box_cell Bn
              clear Cq0 Fq0 Cq1 Fq1 Cn0 Fn0
              obtain ⟨k90, k91, k92, k93⟩ := box_cells Bq
              obtain ⟨q90, q91, q92, q93⟩ := box_cells (heap_set2 Bq (.int .i64 gd) (.slice sd ld cd))
              have hF : Hid (RetRIntE w ((m : Int)) 0 (.returned (.tuple #[.agg #[.int .i64 gd, .slice sd ld cd], .int .i64 0])) ((w3.setCell ⟨w.heap.size, 0, none⟩ (.int .i64 gd)).setCell ⟨w.heap.size, 1, none⟩ (.slice sd ld cd))) := ret_rintvE hG Bq (by omega) rd
              clear mn rd
              obtain ⟨Cn0, Fn0⟩ := box_cell Bn
              go_wp2_with fail
              exact bodyPost_ret (v := .tuple #[.agg #[.int .i64 gd, .slice sd ld cd], .int .i64 0]) (by simp [results, Tryz.results16, go_sem, q90, q91]) rfl hF.out
      · skip
        have h5 : 4096 < s.size := by omega
        obtain ⟨e1, e2⟩ := zc_many hs hok (by rw [hz, bts_len]; exact h5)
        rw [e1, e2]
        clear e1 e2 hok hz h4 hn hs
        have HD := Lib.hid hd
        have HZ := Lib.hid h5
        clear hd h5
        obtain ⟨x0, ex0⟩ : ∃ x, (s[0]'hp9).toNat = x := ⟨_, rfl⟩
        have HX2 : Hid (1 < s.size → x0 ≠ 48) := fun h => by rw [← ex0]; exact HX.out hp9 h
        have EX0 := Lib.hid ex0
        clear ex0
        clear HX
        by_cases hx0 : x0 = 48
        · skip
          subst hx0
          have h1 : s.size ≤ 1 := by have := HX2.out; omega
          clear HX2
          have g0 : ((s.size : Int) == 0) = false := beq_eq_false_iff_ne.2 (by omega)
          have g1 : decide ((1 : Int) < (s.size : Int)) = false := decide_eq_false (by omega)
          have ex : (s[0]'hp9).toNat = 48 := EX0.out
          clear h1
          have hG : w.grownBy (w.alloc (.cells #[.int .i64 0, .slice none 0 0] 36)) none := (World.grownBy_alloc _ _ _)
          have Bq := (heap_new w (.cells #[.int .i64 0, .slice none 0 0] 36) (w.heap.size) rfl)
          go_enter Tryz.func16, Tryz.ntmps16
          obtain ⟨Cq0, Cq1, Fq0, Fq1⟩ := box_cells Bq
          go_upto_region 8 with fail
          go_wp2_with fail
          generalize (w.alloc (.cells #[.int .i64 0, .slice none 0 0] 36)) = w0 at *
          have hb4 : s.size ≤ 4097 := HB4.out
          go_loopw [6] (fun i wr => ∃ k : Nat, k ≤ s.size ∧ i = .int .i64 k ∧ w0 = wr) (fun i _ => s.size - (intOf i).toNat)
          case atStart => exact ⟨0, Nat.zero_le _, rfl, rfl⟩
          case round =>
            obtain ⟨k, hk, rfl, rfl⟩ := hrel
            by_cases hlt : k < s.size
            · skip
              obtain ⟨y, ey⟩ : ∃ y, (s[k]'hlt).toNat = y := ⟨_, rfl⟩
              have hy : 48 ≤ y ∧ y ≤ 57 := ey ▸ HW.out k hlt hlt
              have f5 : decide ((y : Int) < 48) = false := decide_eq_false (by omega)
              have f6 : decide ((57 : Int) < (y : Int)) = false := decide_eq_false (by omega)
              go_wp2_with fail
              go_roundw
              case rel => exact ⟨k + 1, by omega, by go_num, by trivial⟩
              case measure => simp [intOf]; omega
            · skip
              obtain rfl : k = s.size := by omega
              go_wp2_with fail
              clear Cq0 Fq0 Cq1 Fq1
              refine (rParse_long w0 s HZ.out).mono ?_
              rintro e w1 ⟨_, rfl, ⟨sn, ln, cn, yn, rfl, hn⟩, gw1⟩
              have mn : RefV w1 (.agg #[.slice sn ln cn]) (0) := ⟨sn, ln, cn, yn, rfl, hn⟩
              replace Bq := heap_kept gw1 Bq
              replace hG := grown_trans hG gw1
              clear gw1
              clear hn
              obtain ⟨Cq0, Cq1, Fq0, Fq1⟩ := box_cells Bq
              have gbw1 := (World.grownBy_alloc w1 (.cells #[.slice sn ln cn] 34) none)
              have Bn := (heap_new w1 (.cells #[.slice sn ln cn] 34) (w1.heap.size) rfl)
              have hzw1 : Hid (w.heap.size ≤ w1.heap.size) := Lib.hid hG.size
              have hlqw1 : Hid (w.heap.size < w1.heap.size) := Lib.hid (Array.getElem?_eq_some_iff.1 Bq).1
              clear Cq0 Fq0 Cq1 Fq1
              replace Bq := heap_kept gbw1 Bq
              replace mn := mn.kept gbw1
              replace hG := grown_trans hG gbw1
              clear gbw1
              obtain ⟨Cq0, Cq1, Fq0, Fq1⟩ := box_cells Bq
              obtain ⟨Cn0, Fn0⟩ := box_cell Bn
              clear Cq0 Fq0 Cq1 Fq1 Cn0 Fn0
              obtain ⟨k90, k91, k92, k93⟩ := box_cells Bq
              obtain ⟨q90, q91, q92, q93⟩ := box_cells (heap_set2 Bq (.int .i64 0) (.slice none 0 0))
              have hF : Hid (RetRIntE w (0) 2 (.returned (.tuple #[.agg #[.int .i64 0, .slice none 0 0], .int .i64 2])) (((w1.alloc (.cells #[.slice sn ln cn] 34)).setCell ⟨w.heap.size, 0, none⟩ (.int .i64 0)).setCell ⟨w.heap.size, 1, none⟩ (.slice none 0 0))) := ret_rintvE hG Bq (by omega) (RIntV.zero _)
              clear mn
              obtain ⟨Cn0, Fn0⟩ := box_cell Bn
              go_wp2_with fail
              exact bodyPost_ret (v := .tuple #[.agg #[.int .i64 0, .slice none 0 0], .int .i64 2]) (by simp [results, Tryz.results16, go_sem, q90, q91]) rfl hF.out
        · skip
          have g2 : ((x0 : Int) == 48) = false := beq_eq_false_iff_ne.2 (by omega)
          clear hx0 HX2
          have ex : (s[0]'hp9).toNat = x0 := EX0.out
          have g0 : ((s.size : Int) == 0) = false := beq_eq_false_iff_ne.2 (by omega)
          have hG : w.grownBy (w.alloc (.cells #[.int .i64 0, .slice none 0 0] 36)) none := (World.grownBy_alloc _ _ _)
          have Bq := (heap_new w (.cells #[.int .i64 0, .slice none 0 0] 36) (w.heap.size) rfl)
          go_enter Tryz.func16, Tryz.ntmps16
          obtain ⟨Cq0, Cq1, Fq0, Fq1⟩ := box_cells Bq
          go_upto_region 8 with fail
          go_wp2_with fail
          generalize (w.alloc (.cells #[.int .i64 0, .slice none 0 0] 36)) = w0 at *
          have hb4 : s.size ≤ 4097 := HB4.out
          go_loopw [6] (fun i wr => ∃ k : Nat, k ≤ s.size ∧ i = .int .i64 k ∧ w0 = wr) (fun i _ => s.size - (intOf i).toNat)
          case atStart => exact ⟨0, Nat.zero_le _, rfl, rfl⟩
          case round =>
            obtain ⟨k, hk, rfl, rfl⟩ := hrel
            by_cases hlt : k < s.size
            · skip
              obtain ⟨y, ey⟩ : ∃ y, (s[k]'hlt).toNat = y := ⟨_, rfl⟩
              have hy : 48 ≤ y ∧ y ≤ 57 := ey ▸ HW.out k hlt hlt
              have f5 : decide ((y : Int) < 48) = false := decide_eq_false (by omega)
              have f6 : decide ((57 : Int) < (y : Int)) = false := decide_eq_false (by omega)
              go_wp2_with fail
              go_roundw
              case rel => exact ⟨k + 1, by omega, by go_num, by trivial⟩
              case measure => simp [intOf]; omega
            · skip
              obtain rfl : k = s.size := by omega
              go_wp2_with fail
              clear Cq0 Fq0 Cq1 Fq1
              refine (rParse_long w0 s HZ.out).mono ?_
              rintro e w1 ⟨_, rfl, ⟨sn, ln, cn, yn, rfl, hn⟩, gw1⟩
              have mn : RefV w1 (.agg #[.slice sn ln cn]) (0) := ⟨sn, ln, cn, yn, rfl, hn⟩
              replace Bq := heap_kept gw1 Bq
              replace hG := grown_trans hG gw1
              clear gw1
              clear hn
              obtain ⟨Cq0, Cq1, Fq0, Fq1⟩ := box_cells Bq
              have gbw1 := (World.grownBy_alloc w1 (.cells #[.slice sn ln cn] 34) none)
              have Bn := (heap_new w1 (.cells #[.slice sn ln cn] 34) (w1.heap.size) rfl)
              have hzw1 : Hid (w.heap.size ≤ w1.heap.size) := Lib.hid hG.size
              have hlqw1 : Hid (w.heap.size < w1.heap.size) := Lib.hid (Array.getElem?_eq_some_iff.1 Bq).1
              clear Cq0 Fq0 Cq1 Fq1
              replace Bq := heap_kept gbw1 Bq
              replace mn := mn.kept gbw1
              replace hG := grown_trans hG gbw1
              clear gbw1
              obtain ⟨Cq0, Cq1, Fq0, Fq1⟩ := box_cells Bq
              obtain ⟨Cn0, Fn0⟩ := box_cell Bn
              clear Cq0 Fq0 Cq1 Fq1 Cn0 Fn0
              obtain ⟨k90, k91, k92, k93⟩ := box_cells Bq
              obtain ⟨q90, q91, q92, q93⟩ := box_cells (heap_set2 Bq (.int .i64 0) (.slice none 0 0))
              have hF : Hid (RetRIntE w (0) 2 (.returned (.tuple #[.agg #[.int .i64 0, .slice none 0 0], .int .i64 2])) (((w1.alloc (.cells #[.slice sn ln cn] 34)).setCell ⟨w.heap.size, 0, none⟩ (.int .i64 0)).setCell ⟨w.heap.size, 1, none⟩ (.slice none 0 0))) := ret_rintvE hG Bq (by omega) (RIntV.zero _)
              clear mn
              obtain ⟨Cn0, Fn0⟩ := box_cell Bn
              go_wp2_with fail
              exact bodyPost_ret (v := .tuple #[.agg #[.int .i64 0, .slice none 0 0], .int .i64 2]) (by simp [results, Tryz.results16, go_sem, q90, q91]) rfl hF.out
    · skip
      obtain ⟨e1, e2⟩ := zc_form hs (fun h => hd (by have := ((zok_iff _).1 h).1; rw [hz] at this; exact this))
      rw [e1, e2]
      clear e1 e2 hz hn hs
      have HD := Lib.hid hd
      clear hd
      rcases hsig with ⟨f2, f3⟩ | ⟨f2, f3, hp8, x8, ex8, f4⟩
      · skip
        have h9 : s.size = 0 := by have := of_decide_eq_false f2; omega
        have g0 : ((s.size : Int) == 0) = true := by rw [h9]; rfl
        clear h9
        have hG : w.grownBy (w.alloc (.cells #[.int .i64 0, .slice none 0 0] 36)) none := (World.grownBy_alloc _ _ _)
        have Bq := (heap_new w (.cells #[.int .i64 0, .slice none 0 0] 36) (w.heap.size) rfl)
        go_enter Tryz.func16, Tryz.ntmps16
        obtain ⟨Cq0, Cq1, Fq0, Fq1⟩ := box_cells Bq
        have hG' : w.grownBy (w.alloc (.cells #[.int .i64 0, .slice none 0 0] 36)) none := (World.grownBy_alloc _ _ _)
        have hF : Hid (RetRIntE w (0) 3 (.returned (.tuple #[.agg #[.int .i64 0, .slice none 0 0], .int .i64 3])) (w.alloc (.cells #[.int .i64 0, .slice none 0 0] 36))) := ⟨_, rfl, (RIntV.zero _), hG'⟩
        clear hG'
        go_wp2_with fail
        exact bodyPost_ret (v := .tuple #[.agg #[.int .i64 0, .slice none 0 0], .int .i64 3]) (by simp [results, Tryz.results16, go_sem]) rfl hF.out
      · skip
        rw [← ex8] at f4
        clear ex8 x8
        rcases dec_why HD.out with h9 | ⟨hp9, ex9, h9⟩ | ⟨hp9, hx9, hw9⟩
        · omega
        · skip
          rw [ex9] at f4
          have g0 : ((s.size : Int) == 0) = false := beq_eq_false_iff_ne.2 (by omega)
          have g1 : decide ((1 : Int) < (s.size : Int)) = true := decide_eq_true (by omega)
          have hG : w.grownBy (w.alloc (.cells #[.int .i64 0, .slice none 0 0] 36)) none := (World.grownBy_alloc _ _ _)
          have Bq := (heap_new w (.cells #[.int .i64 0, .slice none 0 0] 36) (w.heap.size) rfl)
          go_enter Tryz.func16, Tryz.ntmps16
          obtain ⟨Cq0, Cq1, Fq0, Fq1⟩ := box_cells Bq
          have hG' : w.grownBy (w.alloc (.cells #[.int .i64 0, .slice none 0 0] 36)) none := (World.grownBy_alloc _ _ _)
          have hF : Hid (RetRIntE w (0) 3 (.returned (.tuple #[.agg #[.int .i64 0, .slice none 0 0], .int .i64 3])) (w.alloc (.cells #[.int .i64 0, .slice none 0 0] 36))) := ⟨_, rfl, (RIntV.zero _), hG'⟩
          clear hG'
          go_wp2_with fail
          exact bodyPost_ret (v := .tuple #[.agg #[.int .i64 0, .slice none 0 0], .int .i64 3]) (by simp [results, Tryz.results16, go_sem]) rfl hF.out
        · skip
          have HW := Lib.hid hw9
          have HX := Lib.hid hx9
          clear hw9 hx9
          obtain ⟨x0, ex0⟩ : ∃ x, (s[0]'hp9).toNat = x := ⟨_, rfl⟩
          have HX2 : Hid (1 < s.size → x0 ≠ 48) := fun h => by rw [← ex0]; exact HX.out hp9 h
          have EX0 := Lib.hid ex0
          clear ex0
          clear HX
          by_cases hx0 : x0 = 48
          · skip
            subst hx0
            have h1 : s.size ≤ 1 := by have := HX2.out; omega
            clear HX2
            have g0 : ((s.size : Int) == 0) = false := beq_eq_false_iff_ne.2 (by omega)
            have g1 : decide ((1 : Int) < (s.size : Int)) = false := decide_eq_false (by omega)
            have ex : (s[0]'hp9).toNat = 48 := EX0.out
            clear h1
            have hG : w.grownBy (w.alloc (.cells #[.int .i64 0, .slice none 0 0] 36)) none := (World.grownBy_alloc _ _ _)
            have Bq := (heap_new w (.cells #[.int .i64 0, .slice none 0 0] 36) (w.heap.size) rfl)
            go_enter Tryz.func16, Tryz.ntmps16
            obtain ⟨Cq0, Cq1, Fq0, Fq1⟩ := box_cells Bq
            go_upto_region 8 with fail
            go_wp2_with fail
            generalize (w.alloc (.cells #[.int .i64 0, .slice none 0 0] 36)) = w0 at *
            have hb4 : s.size ≤ 4097 := HB4.out
            go_loopw [6] (fun i wr => ∃ k : Nat, k ≤ s.size ∧ i = .int .i64 k ∧ w0 = wr ∧ Hid (∀ j (h : j < s.size), j < k → 48 ≤ (s[j]'h).toNat ∧ (s[j]'h).toNat ≤ 57)) (fun i _ => s.size - (intOf i).toNat)
            case atStart => exact ⟨0, Nat.zero_le _, rfl, rfl, fun j h h0 => absurd h0 (by omega)⟩
            case round =>
              obtain ⟨k, hk, rfl, rfl, hd⟩ := hrel
              by_cases hlt : k < s.size
              · skip
                obtain ⟨y, ey⟩ : ∃ y, (s[k]'hlt).toNat = y := ⟨_, rfl⟩
                by_cases hy : 48 ≤ y ∧ y ≤ 57
                · skip
                  have f5 : decide ((y : Int) < 48) = false := decide_eq_false (by omega)
                  have f6 : decide ((57 : Int) < (y : Int)) = false := decide_eq_false (by omega)
                  go_wp2_with fail
                  go_roundw
                  case rel =>
                    refine ⟨k + 1, by omega, by go_num, by trivial, fun j h hj => ?_⟩
                    rcases Nat.lt_or_ge j k with h1 | h1
                    · exact hd.out j h h1
                    · obtain rfl : j = k := by omega
                      rw [ey]; exact hy
                  case measure => simp [intOf]; omega
                · skip
                  have hF : Hid (∀ u v, RetRIntE w 0 3 (.returned (.tuple #[.agg #[.int .i64 0, .slice none 0 0], .int .i64 3])) ((w0.setCell ⟨w.heap.size, 0, none⟩ u).setCell ⟨w.heap.size, 1, none⟩ v)) := fun u v => ⟨_, rfl, RIntV.zero _, grown_two hG (Nat.le_refl _) u v⟩
                  obtain ⟨q90, q91, q92, q93⟩ := box_cells (heap_set2 Bq (.int .i64 0) (.slice none 0 0))
                  go_wp2_with fail
                  all_goals first | exact bodyPost_ret (v := .tuple #[.agg #[.int .i64 0, .slice none 0 0], .int .i64 3]) (by simp [results, Tryz.results16, go_sem, q90, q91]) rfl (hF.out _ _) | (exfalso; omega)
              · skip
                obtain rfl : k = s.size := by omega
                exact absurd hd.out HW.out
          · skip
            have g2 : ((x0 : Int) == 48) = false := beq_eq_false_iff_ne.2 (by omega)
            clear hx0 HX2
            have ex : (s[0]'hp9).toNat = x0 := EX0.out
            have g0 : ((s.size : Int) == 0) = false := beq_eq_false_iff_ne.2 (by omega)
            have hG : w.grownBy (w.alloc (.cells #[.int .i64 0, .slice none 0 0] 36)) none := (World.grownBy_alloc _ _ _)
            have Bq := (heap_new w (.cells #[.int .i64 0, .slice none 0 0] 36) (w.heap.size) rfl)
            go_enter Tryz.func16, Tryz.ntmps16
            obtain ⟨Cq0, Cq1, Fq0, Fq1⟩ := box_cells Bq
            go_upto_region 8 with fail
            go_wp2_with fail
            generalize (w.alloc (.cells #[.int .i64 0, .slice none 0 0] 36)) = w0 at *
            have hb4 : s.size ≤ 4097 := HB4.out
            go_loopw [6] (fun i wr => ∃ k : Nat, k ≤ s.size ∧ i = .int .i64 k ∧ w0 = wr ∧ Hid (∀ j (h : j < s.size), j < k → 48 ≤ (s[j]'h).toNat ∧ (s[j]'h).toNat ≤ 57)) (fun i _ => s.size - (intOf i).toNat)
            case atStart => exact ⟨0, Nat.zero_le _, rfl, rfl, fun j h h0 => absurd h0 (by omega)⟩
            case round =>
              obtain ⟨k, hk, rfl, rfl, hd⟩ := hrel
              by_cases hlt : k < s.size
              · skip
                obtain ⟨y, ey⟩ : ∃ y, (s[k]'hlt).toNat = y := ⟨_, rfl⟩
                by_cases hy : 48 ≤ y ∧ y ≤ 57
                · skip
                  have f5 : decide ((y : Int) < 48) = false := decide_eq_false (by omega)
                  have f6 : decide ((57 : Int) < (y : Int)) = false := decide_eq_false (by omega)
                  go_wp2_with fail
                  go_roundw
                  case rel =>
                    refine ⟨k + 1, by omega, by go_num, by trivial, fun j h hj => ?_⟩
                    rcases Nat.lt_or_ge j k with h1 | h1
                    · exact hd.out j h h1
                    · obtain rfl : j = k := by omega
                      rw [ey]; exact hy
                  case measure => simp [intOf]; omega
                · skip
                  have hF : Hid (∀ u v, RetRIntE w 0 3 (.returned (.tuple #[.agg #[.int .i64 0, .slice none 0 0], .int .i64 3])) ((w0.setCell ⟨w.heap.size, 0, none⟩ u).setCell ⟨w.heap.size, 1, none⟩ v)) := fun u v => ⟨_, rfl, RIntV.zero _, grown_two hG (Nat.le_refl _) u v⟩
                  obtain ⟨q90, q91, q92, q93⟩ := box_cells (heap_set2 Bq (.int .i64 0) (.slice none 0 0))
                  go_wp2_with fail
                  all_goals first | exact bodyPost_ret (v := .tuple #[.agg #[.int .i64 0, .slice none 0 0], .int .i64 3]) (by simp [results, Tryz.results16, go_sem, q90, q91]) rfl (hF.out _ _) | (exfalso; omega)
              · skip
                obtain rfl : k = s.size := by omega
                exact absurd hd.out HW.out
  · skip
    have hp : 0 < s.size := by
      rcases Nat.eq_zero_or_pos s.size with h | h
      · have : bts s = [] := List.length_eq_zero_iff.1 (by rw [bts_len]; exact h)
        rw [this] at hn; cases hn
      · exact h
    have f2 : decide (0 < s.size) = true := decide_eq_true hp
    have f3 : decide ((0 : Int) < (s.size : Int)) = true := decide_eq_true (by omega)
    have ex : (s[0]'hp).toNat = 45 := by
      unfold zneg at hn
      rw [bts_head s hp] at hn
      simpa using hn
    have hbt : bts (s.extract 1 s.size) = zdig (bts s) := by rw [bts_extract, zdig_neg hn, List.drop_one]
    have htz : (s.extract 1 s.size).size ≤ 4096 := by rw [ByteArray.size_extract]; omega
    have HB4 : Hid ((s.extract 1 s.size).size ≤ 4097) := Lib.hid (Nat.le_trans htz (by omega))
    by_cases hd : DecL (bts (s.extract 1 s.size))
    · skip
      obtain ⟨m, hm⟩ : ∃ m, dval (bts (s.extract 1 s.size)) = m := ⟨_, rfl⟩
      obtain ⟨hp9, hx9, hw9⟩ := dec_how hd
      have HX := Lib.hid hx9
      have HW := Lib.hid hw9
      clear hw9 hx9
      rcases Nat.eq_zero_or_pos m with h6 | h6
      · skip
        subst h6
        obtain ⟨e1, e2⟩ := zc_form hs (fun h => ((zok_iff _).1 h).2 ⟨hn, by rw [← hbt]; exact hm⟩)
        rw [e1, e2]
        clear e1 e2 hbt hs htz hn
        have e48 : bts (s.extract 1 s.size) = [48] := dec_uniqL hd (dec_of (by decide +kernel)) (hm.trans (by decide +kernel))
        have ex9 : ((s.extract 1 s.size)[0]'hp9).toNat = 48 := by
          have := bts_head (s.extract 1 s.size) hp9
          rw [e48] at this; exact (Option.some.inj this).symm
        have h1 : (s.extract 1 s.size).size ≤ 1 := by have := bts_len (s.extract 1 s.size); rw [e48] at this; simp only [List.length_cons, List.length_nil] at this; omega
        clear hd hm e48 HX HW
        have EX9 := Lib.hid ex9
        have H1 := Lib.hid h1
        clear ex9 h1
        have hG : w.grownBy (w.alloc (.cells #[.int .i64 0, .slice none 0 0] 36)) none := (World.grownBy_alloc _ _ _)
        have Bq := (heap_new w (.cells #[.int .i64 0, .slice none 0 0] 36) (w.heap.size) rfl)
        go_enter Tryz.func16, Tryz.ntmps16
        obtain ⟨Cq0, Cq1, Fq0, Fq1⟩ := box_cells Bq
        go_upto_region 8 with fail
        generalize s.extract 1 s.size = t at *
        have h1 := H1.out
        have g0 : ((t.size : Int) == 0) = false := beq_eq_false_iff_ne.2 (by omega)
        have g1 : decide ((1 : Int) < (t.size : Int)) = false := decide_eq_false (by omega)
        have ex9 : (t[0]'hp9).toNat = 48 := EX9.out
        have hG' : w.grownBy (w.alloc (.cells #[.int .i64 0, .slice none 0 0] 36)) none := (World.grownBy_alloc _ _ _)
        have hF : Hid (RetRIntE w (0) 3 (.returned (.tuple #[.agg #[.int .i64 0, .slice none 0 0], .int .i64 3])) (w.alloc (.cells #[.int .i64 0, .slice none 0 0] 36))) := ⟨_, rfl, (RIntV.zero _), hG'⟩
        clear hG'
        go_wp2_with fail
        exact bodyPost_ret (v := .tuple #[.agg #[.int .i64 0, .slice none 0 0], .int .i64 3]) (by simp [results, Tryz.results16, go_sem]) rfl hF.out
      · skip
        have hok : zok (bts s) = true := (zok_iff _).2 ⟨by rw [← hbt]; exact hd, by rw [← hbt, hm]; omega⟩
        obtain ⟨e1, e2⟩ := zc_num hs hok (by rw [← hbt, bts_len]; exact htz)
        rw [e1, e2, show znum (bts s) = -(m : Int) from by unfold znum; rw [if_pos hn, ← hbt, hm]]
        clear e1 e2 hbt hs hok hn
        have HD := Lib.hid hd
        have HZ := Lib.hid htz
        have HV := Lib.hid hm
        have HP := Lib.hid h6
        clear hd htz hm h6
        obtain ⟨x0, ex0⟩ : ∃ x, ((s.extract 1 s.size)[0]'hp9).toNat = x := ⟨_, rfl⟩
        have HX2 : Hid (1 < (s.extract 1 s.size).size → x0 ≠ 48) := fun h => by rw [← ex0]; exact HX.out hp9 h
        have EX0 := Lib.hid ex0
        clear ex0
        clear HX
        have hx0 : x0 ≠ 48 := by rw [← EX0.out]; exact dec_one48 hp9 HD.out (by rw [HV.out]; have := HP.out; omega)
        have g2 : ((x0 : Int) == 48) = false := beq_eq_false_iff_ne.2 (by omega)
        clear hx0 HX2
        have hG : w.grownBy (w.alloc (.cells #[.int .i64 0, .slice none 0 0] 36)) none := (World.grownBy_alloc _ _ _)
        have Bq := (heap_new w (.cells #[.int .i64 0, .slice none 0 0] 36) (w.heap.size) rfl)
        go_enter Tryz.func16, Tryz.ntmps16
        obtain ⟨Cq0, Cq1, Fq0, Fq1⟩ := box_cells Bq
        go_upto_region 8 with fail
        generalize s.extract 1 s.size = t at *
        have g0 : ((t.size : Int) == 0) = false := beq_eq_false_iff_ne.2 (by omega)
        have ex : (t[0]'hp9).toNat = x0 := EX0.out
        go_wp2_with fail
        generalize (w.alloc (.cells #[.int .i64 0, .slice none 0 0] 36)) = w0 at *
        have hb4 : t.size ≤ 4097 := HB4.out
        go_loopw [6] (fun i wr => ∃ k : Nat, k ≤ t.size ∧ i = .int .i64 k ∧ w0 = wr) (fun i _ => t.size - (intOf i).toNat)
        case atStart => exact ⟨0, Nat.zero_le _, rfl, rfl⟩
        case round =>
          obtain ⟨k, hk, rfl, rfl⟩ := hrel
          by_cases hlt : k < t.size
          · skip
            obtain ⟨y, ey⟩ : ∃ y, (t[k]'hlt).toNat = y := ⟨_, rfl⟩
            have hy : 48 ≤ y ∧ y ≤ 57 := ey ▸ HW.out k hlt hlt
            have f5 : decide ((y : Int) < 48) = false := decide_eq_false (by omega)
            have f6 : decide ((57 : Int) < (y : Int)) = false := decide_eq_false (by omega)
            go_wp2_with fail
            go_roundw
            case rel => exact ⟨k + 1, by omega, by go_num, by trivial⟩
            case measure => simp [intOf]; omega
          · skip
            obtain rfl : k = t.size := by omega
            go_wp2_with fail
            clear Cq0 Fq0 Cq1 Fq1
            refine (rParse_some w0 t HZ.out HD.out).mono ?_
            rintro e w1 ⟨_, rfl, ⟨sn, ln, cn, yn, rfl, hn⟩, gw1⟩
            have mn : RefV w1 (.agg #[.slice sn ln cn]) (dval (bts t)) := ⟨sn, ln, cn, yn, rfl, hn⟩
            replace Bq := heap_kept gw1 Bq
            replace hG := grown_trans hG gw1
            clear gw1
            clear hn
            obtain ⟨Cq0, Cq1, Fq0, Fq1⟩ := box_cells Bq
            have gbw1 := (World.grownBy_alloc w1 (.cells #[.slice sn ln cn] 34) none)
            have Bn := (heap_new w1 (.cells #[.slice sn ln cn] 34) (w1.heap.size) rfl)
            have hzw1 : Hid (w.heap.size ≤ w1.heap.size) := Lib.hid hG.size
            have hlqw1 : Hid (w.heap.size < w1.heap.size) := Lib.hid (Array.getElem?_eq_some_iff.1 Bq).1
            clear Cq0 Fq0 Cq1 Fq1
            replace Bq := heap_kept gbw1 Bq
            replace mn := mn.kept gbw1
            replace hG := grown_trans hG gbw1
            clear gbw1
            obtain ⟨Cq0, Cq1, Fq0, Fq1⟩ := box_cells Bq
            obtain ⟨Cn0, Fn0⟩ := box_cell Bn
            go_wp2_with fail
            generalize (w1.alloc (.cells #[.slice sn ln cn] 34)) = w2 at *
            generalize w1.heap.size = aw1 at *
            replace hzw1 := hzw1.out
            replace hlqw1 := hlqw1.out
            clear Cq0 Fq0 Cq1 Fq1 Cn0 Fn0
            refine (rMade_any w2 _ (-1) (dval (bts t)) (-(m : Int)) mn (by rw [HV.out]; omega) (Or.inr (Int.sign_eq_neg_one_of_neg (by have := HP.out; omega)))).mono ?_
            rintro e w3 ⟨_, rfl, ⟨gd, sd, ld, cd, rfl, hd, md⟩, gw3⟩
            have rd : RIntV w3 (.agg #[.int .i64 gd, .slice sd ld cd]) (-(m : Int)) := ⟨gd, sd, ld, cd, rfl, hd, md⟩
            replace Bq := heap_kept gw3 Bq
            replace Bn := heap_kept gw3 Bn
            replace mn := mn.kept gw3
            replace hG := grown_trans hG gw3
            clear gw3
            clear md
            obtain ⟨Cq0, Cq1, Fq0, Fq1⟩ := box_cells Bq
            obtain ⟨Cn0, Fn0⟩ := box_cell Bn
            clear Cq0 Fq0 Cq1 Fq1 Cn0 Fn0
            obtain ⟨k90, k91, k92, k93⟩ := box_cells Bq
            obtain ⟨q90, q91, q92, q93⟩ := box_cells (heap_set2 Bq (.int .i64 gd) (.slice sd ld cd))
            have hF : Hid (RetRIntE w (-(m : Int)) 0 (.returned (.tuple #[.agg #[.int .i64 gd, .slice sd ld cd], .int .i64 0])) ((w3.setCell ⟨w.heap.size, 0, none⟩ (.int .i64 gd)).setCell ⟨w.heap.size, 1, none⟩ (.slice sd ld cd))) := ret_rintvE hG Bq (by omega) rd
            clear mn rd
            obtain ⟨Cn0, Fn0⟩ := box_cell Bn
            go_wp2_with fail
            exact bodyPost_ret (v := .tuple #[.agg #[.int .i64 gd, .slice sd ld cd], .int .i64 0]) (by simp [results, Tryz.results16, go_sem, q90, q91]) rfl hF.out
    · skip
      obtain ⟨e1, e2⟩ := zc_form hs (fun h => hd (by rw [hbt]; exact ((zok_iff _).1 h).1))
      rw [e1, e2]
      clear e1 e2 hbt hs htz hn
      have HD := Lib.hid hd
      clear hd
      rcases dec_why HD.out with h9 | ⟨hp9, ex9, h9⟩ | ⟨hp9, hx9, hw9⟩
      · skip
        have H9 := Lib.hid h9
        clear h9
        have hG : w.grownBy (w.alloc (.cells #[.int .i64 0, .slice none 0 0] 36)) none := (World.grownBy_alloc _ _ _)
        have Bq := (heap_new w (.cells #[.int .i64 0, .slice none 0 0] 36) (w.heap.size) rfl)
        go_enter Tryz.func16, Tryz.ntmps16
        obtain ⟨Cq0, Cq1, Fq0, Fq1⟩ := box_cells Bq
        go_upto_region 8 with fail
        generalize s.extract 1 s.size = t at *
        have g0 : ((t.size : Int) == 0) = true := by rw [H9.out]; rfl
        have hG' : w.grownBy (w.alloc (.cells #[.int .i64 0, .slice none 0 0] 36)) none := (World.grownBy_alloc _ _ _)
        have hF : Hid (RetRIntE w (0) 3 (.returned (.tuple #[.agg #[.int .i64 0, .slice none 0 0], .int .i64 3])) (w.alloc (.cells #[.int .i64 0, .slice none 0 0] 36))) := ⟨_, rfl, (RIntV.zero _), hG'⟩
        clear hG'
        go_wp2_with fail
        exact bodyPost_ret (v := .tuple #[.agg #[.int .i64 0, .slice none 0 0], .int .i64 3]) (by simp [results, Tryz.results16, go_sem]) rfl hF.out
      · skip
        have H9 := Lib.hid h9
        have EX9 := Lib.hid ex9
        clear h9 ex9
        have hG : w.grownBy (w.alloc (.cells #[.int .i64 0, .slice none 0 0] 36)) none := (World.grownBy_alloc _ _ _)
        have Bq := (heap_new w (.cells #[.int .i64 0, .slice none 0 0] 36) (w.heap.size) rfl)
        go_enter Tryz.func16, Tryz.ntmps16
        obtain ⟨Cq0, Cq1, Fq0, Fq1⟩ := box_cells Bq
        go_upto_region 8 with fail
        generalize s.extract 1 s.size = t at *
        have h9 := H9.out
        have g0 : ((t.size : Int) == 0) = false := beq_eq_false_iff_ne.2 (by omega)
        have g1 : decide ((1 : Int) < (t.size : Int)) = true := decide_eq_true (by omega)
        have ex : (t[0]'hp9).toNat = 48 := EX9.out
        have hG' : w.grownBy (w.alloc (.cells #[.int .i64 0, .slice none 0 0] 36)) none := (World.grownBy_alloc _ _ _)
        have hF : Hid (RetRIntE w (0) 3 (.returned (.tuple #[.agg #[.int .i64 0, .slice none 0 0], .int .i64 3])) (w.alloc (.cells #[.int .i64 0, .slice none 0 0] 36))) := ⟨_, rfl, (RIntV.zero _), hG'⟩
        clear hG'
        go_wp2_with fail
        exact bodyPost_ret (v := .tuple #[.agg #[.int .i64 0, .slice none 0 0], .int .i64 3]) (by simp [results, Tryz.results16, go_sem]) rfl hF.out
      · skip
        have HW := Lib.hid hw9
        have HX := Lib.hid hx9
        clear hw9 hx9
        obtain ⟨x0, ex0⟩ : ∃ x, ((s.extract 1 s.size)[0]'hp9).toNat = x := ⟨_, rfl⟩
        have HX2 : Hid (1 < (s.extract 1 s.size).size → x0 ≠ 48) := fun h => by rw [← ex0]; exact HX.out hp9 h
        have EX0 := Lib.hid ex0
        clear ex0
        clear HX
        by_cases hx0 : x0 = 48
        · skip
          subst hx0
          have H1 : Hid ((s.extract 1 s.size).size ≤ 1) := by show _ ≤ 1; have := HX2.out; omega
          clear HX2
          have hG : w.grownBy (w.alloc (.cells #[.int .i64 0, .slice none 0 0] 36)) none := (World.grownBy_alloc _ _ _)
          have Bq := (heap_new w (.cells #[.int .i64 0, .slice none 0 0] 36) (w.heap.size) rfl)
          go_enter Tryz.func16, Tryz.ntmps16
          obtain ⟨Cq0, Cq1, Fq0, Fq1⟩ := box_cells Bq
          go_upto_region 8 with fail
          generalize s.extract 1 s.size = t at *
          have h1 := H1.out
          have g0 : ((t.size : Int) == 0) = false := beq_eq_false_iff_ne.2 (by omega)
          have g1 : decide ((1 : Int) < (t.size : Int)) = false := decide_eq_false (by omega)
          have ex : (t[0]'hp9).toNat = 48 := EX0.out
          have hG' : w.grownBy (w.alloc (.cells #[.int .i64 0, .slice none 0 0] 36)) none := (World.grownBy_alloc _ _ _)
          have hF : Hid (RetRIntE w (0) 3 (.returned (.tuple #[.agg #[.int .i64 0, .slice none 0 0], .int .i64 3])) (w.alloc (.cells #[.int .i64 0, .slice none 0 0] 36))) := ⟨_, rfl, (RIntV.zero _), hG'⟩
          clear hG'
          go_wp2_with fail
          exact bodyPost_ret (v := .tuple #[.agg #[.int .i64 0, .slice none 0 0], .int .i64 3]) (by simp [results, Tryz.results16, go_sem]) rfl hF.out
        · skip
          have g2 : ((x0 : Int) == 48) = false := beq_eq_false_iff_ne.2 (by omega)
          clear hx0 HX2
          have hG : w.grownBy (w.alloc (.cells #[.int .i64 0, .slice none 0 0] 36)) none := (World.grownBy_alloc _ _ _)
          have Bq := (heap_new w (.cells #[.int .i64 0, .slice none 0 0] 36) (w.heap.size) rfl)
          go_enter Tryz.func16, Tryz.ntmps16
          obtain ⟨Cq0, Cq1, Fq0, Fq1⟩ := box_cells Bq
          go_upto_region 8 with fail
          generalize s.extract 1 s.size = t at *
          have g0 : ((t.size : Int) == 0) = false := beq_eq_false_iff_ne.2 (by omega)
          have ex : (t[0]'hp9).toNat = x0 := EX0.out
          go_wp2_with fail
          generalize (w.alloc (.cells #[.int .i64 0, .slice none 0 0] 36)) = w0 at *
          have hb4 : t.size ≤ 4097 := HB4.out
          go_loopw [6] (fun i wr => ∃ k : Nat, k ≤ t.size ∧ i = .int .i64 k ∧ w0 = wr ∧ Hid (∀ j (h : j < t.size), j < k → 48 ≤ (t[j]'h).toNat ∧ (t[j]'h).toNat ≤ 57)) (fun i _ => t.size - (intOf i).toNat)
          case atStart => exact ⟨0, Nat.zero_le _, rfl, rfl, fun j h h0 => absurd h0 (by omega)⟩
          case round =>
            obtain ⟨k, hk, rfl, rfl, hd⟩ := hrel
            by_cases hlt : k < t.size
            · skip
              obtain ⟨y, ey⟩ : ∃ y, (t[k]'hlt).toNat = y := ⟨_, rfl⟩
              by_cases hy : 48 ≤ y ∧ y ≤ 57
              · skip
                have f5 : decide ((y : Int) < 48) = false := decide_eq_false (by omega)
                have f6 : decide ((57 : Int) < (y : Int)) = false := decide_eq_false (by omega)
                go_wp2_with fail
                go_roundw
                case rel =>
                  refine ⟨k + 1, by omega, by go_num, by trivial, fun j h hj => ?_⟩
                  rcases Nat.lt_or_ge j k with h1 | h1
                  · exact hd.out j h h1
                  · obtain rfl : j = k := by omega
                    rw [ey]; exact hy
                case measure => simp [intOf]; omega
              · skip
                have hF : Hid (∀ u v, RetRIntE w 0 3 (.returned (.tuple #[.agg #[.int .i64 0, .slice none 0 0], .int .i64 3])) ((w0.setCell ⟨w.heap.size, 0, none⟩ u).setCell ⟨w.heap.size, 1, none⟩ v)) := fun u v => ⟨_, rfl, RIntV.zero _, grown_two hG (Nat.le_refl _) u v⟩
                obtain ⟨q90, q91, q92, q93⟩ := box_cells (heap_set2 Bq (.int .i64 0) (.slice none 0 0))
                go_wp2_with fail
                all_goals first | exact bodyPost_ret (v := .tuple #[.agg #[.int .i64 0, .slice none 0 0], .int .i64 3]) (by simp [results, Tryz.results16, go_sem, q90, q91]) rfl (hF.out _ _) | (exfalso; omega)
            · skip
              obtain rfl : k = t.size := by omega
              exact absurd hd.out HW.out
end Go.Proofs.YtldkddogadmpbaaGreatDoor
namespace Go.Proofs.YtldkddogadmpbaaGreatDoor
open Go.RowKit Mat
set_option maxRecDepth 100000
set_option linter.unusedVariables false
set_option linter.unusedSimpArgs false
theorem set_rep {k d : Nat} {hs : List Nat} : (List.replicate (k + 1) 0 ++ hs).set k d = List.replicate k 0 ++ d :: hs := by
  rw [List.replicate_succ', List.append_assoc, List.set_append]
  simp
theorem val_drop (xs : List Nat) (k : Nat) (hk : k < xs.length) : val D (xs.drop k) = xs.getD k 0 + D * val D (xs.drop (k + 1)) := by
  rw [List.drop_eq_getElem_cons hk, List.getD_eq_getElem?_getD, List.getElem?_eq_getElem hk]; rfl
set_option maxHeartbeats 2000000 in
theorem rcut_at (w : World) (s : Option Addr) (n cap : Nat) (xs : List Nat) (hn : xs.length = n) (hx : RRdo w s xs) (hnc : n ≤ cap) (bn : n ≤ 1099511627776) :
    Calls Tryz.prog 51 #[.slice s n cap] w (fun e w' => ∃ k, e = .returned (.agg #[.slice s k cap]) ∧ k ≤ n ∧ Top (xs.take k) ∧ val D (xs.take k) = val D xs ∧ w.grownBy w' none) := by
  have Hn := Lib.hid hn
  have hgw0 := World.grownBy_alloc w (.cells #[.slice none 0 0] 34) none
  have hbox0 := heap_new w (.cells #[.slice none 0 0] 34) w.heap.size rfl
  obtain ⟨cb, fb⟩ := box_cell hbox0
  have hx0 := hx.kept hgw0
  clear hn
  go_enter Tryz.func51, Tryz.ntmps51
  go_wp2_with fail
  generalize (w.alloc (.cells #[.slice none 0 0] 34)) = w0 at *
  go_loopw [3] (fun i wr => ∃ (k : Nat), k ≤ n ∧ i = .int .i64 k ∧ w0 = wr ∧ Hid (val D (xs.take k) = val D xs)) (fun i _ => (intOf i).toNat)
  case atStart => exact ⟨n, Nat.le_refl _, rfl, rfl, by show _ = _; rw [← Hn.out, List.take_length]⟩
  case round =>
    obtain ⟨k, hk, rfl, rfl, hv⟩ := hrel
    have hF : Hid (Top (xs.take k) → ∃ k', Ending.returned (.agg #[.slice s k cap]) = Ending.returned (.agg #[.slice s k' cap]) ∧ k' ≤ n ∧ Top (xs.take k') ∧ val D (xs.take k') = val D xs ∧ w.grownBy (w0.setCell ⟨w.heap.size, 0, none⟩ (.slice s k cap)) none) := by
      intro ht
      exact ⟨k, rfl, hk, ht, hv.out, grown_new hgw0 (grown_set (grown_refl _ _) _ _) (Nat.le_refl _)⟩
    by_cases h0 : k = 0
    · subst h0
      have hF2 := Lib.hid (hF.out (by intro x hx; simp at hx))
      clear hF
      go_wp2_with fail
      exact bodyPost_ret (v := .agg #[.slice s 0 cap]) (by simp [results, Tryz.results51, go_sem, cb]) rfl hF2.out
    · obtain ⟨j, rfl⟩ : ∃ j, k = j + 1 := ⟨k - 1, by omega⟩
      clear h0
      obtain ⟨b1, o1, cs1, rfl, hb1, hat1⟩ := hx0.get j (by rw [Hn.out]; omega)
      obtain ⟨x, ex⟩ : ∃ x, xs[j]'(by rw [Hn.out]; omega) = x := ⟨_, rfl⟩
      have c1 : w0.cell? ⟨b1, o1 + j, none⟩ = some (.int .i64 (x : Int)) := by
        rw [hb1.cell, hat1 j (by rw [Hn.out]; omega), ex]; rfl
      have EX := Lib.hid ex
      clear ex
      by_cases hz : x = 0
      · subst hz
        clear hF
        go_wp2_with fail
        go_roundw
        case rel => exact ⟨j, by omega, by go_num, by trivial, by show _ = _; rw [← hv.out, val_take_succ D xs j (by rw [Hn.out]; omega), EX.out]; omega⟩
        case measure => simp [intOf]
      · have t : ((x : Int) == 0) = false := beq_eq_false_iff_ne.2 (by omega)
        have hF2 := Lib.hid (hF.out (top_take xs j (by rw [Hn.out]; omega) (by rw [EX.out]; exact hz)))
        clear hF
        go_wp2_with fail
        exact bodyPost_ret (v := .agg #[.slice (some ⟨b1, o1, none⟩) (j + 1) cap]) (by simp [results, Tryz.results51, go_sem, cb]) rfl hF2.out
set_option maxHeartbeats 4000000 in
theorem rSmall_any (w : World) (va : Value) (a n : Nat) (ha : RefV w va a) (ba : a < D ^ 1000000) (hn : n ≤ 10000) :
    Calls Tryz.prog 64 #[va, .int .i64 (n : Int)] w (RetRef w (a * n)) := by
  obtain ⟨sa, la, ca, xs, rfl, h2⟩ := ha
  have na : RefV w (.agg #[.slice sa la ca]) a := ⟨sa, la, ca, xs, rfl, h2⟩
  have hgw0 : w.grownBy ((w.alloc (.cells #[.slice sa la ca] 34)).alloc (.cells #[.slice none 0 0] 34)) none := grown_alloc (World.grownBy_alloc _ _ _) _
  have hboxr := heap_new (w.alloc (.cells #[.slice sa la ca] 34)) (.cells #[.slice none 0 0] 34) (w.heap.size + 1) (by simp)
  have hboxa := (Below.heap_alloc _ (.cells #[.slice none 0 0] 34) w.heap.size (by simp)).trans (heap_new w (.cells #[.slice sa la ca] 34) w.heap.size rfl)
  replace na := na.kept hgw0
  have Hba := Lib.hid ba
  have hnB : n < B := Nat.lt_of_le_of_lt hn (by decide)
  have hw : IntKind.u64.wrap (n : Int) = (n : Int) := by rw [IntKind.wrap_u64]; omega
  have hnD : n < D ^ 1000000 := by
    obtain ⟨E, hE⟩ : ∃ E, E = 1000000 := ⟨_, rfl⟩
    rw [← hE]
    have h1 : D ^ 2 ≤ D ^ E := Nat.pow_le_pow_right D_pos (by omega)
    have h2 : D ^ 2 = 100000000 := by decide
    omega
  have HnD := Lib.hid hnD
  clear h2 ba hnD
  go_enter Tryz.func64, Tryz.ntmps64
  go_wp2_with fail
  generalize ((w.alloc (.cells #[.slice sa la ca] 34)).alloc (.cells #[.slice none 0 0] 34)) = w0 at *
  obtain ⟨c1, f1⟩ := box_cell hboxa
  go_region_held3 (fun w' => w'.cell? ⟨w.heap.size, 0, none⟩ = some (.slice sa la ca))
    (first | assumption | exact c1 | go_keep)
    (first
      | (go_at_call 34; (with_reducible refine (rOf_any w0.drew n hnB).mono ?_); rintro e w1 ⟨v1, rfl, n1, g1⟩; have hG1 := grown_pre w0 g1 rfl rfl rfl rfl; have hS1 := hG1.cell c1 (by simp))
      | (go_at_call 66; (with_reducible refine (rMul_any w1 _ _ a n (na.kept hG1) n1 Hba.out HnD.out).mono ?_); rintro e w2 ⟨v2, rfl, ⟨s2, k2, c2, zs2, rfl, n2⟩, g2⟩; have hG2 := grown_trans hG1 g2; have hS2 := hG2.cell c1 (by simp); have hr2 := heap_kept hG2 hboxr; obtain ⟨c3, f3⟩ := box_cell hr2))
  have hF := Lib.hid (rret (n := a * n) (grown_trans hgw0 hG2) hr2 (by decide) (by omega) ⟨s2, k2, c2, zs2, rfl, n2⟩ (.slice s2 k2 c2))
  clear g2 hG2 hG1 n2
  go_wp2_with fail
  exact bodyPost_ret (v := .agg #[.slice s2 k2 c2]) (by simp [results, Tryz.results64, go_sem, c3]) rfl hF.out
theorem run_append_none {P : Program} (w : World) (t ty e : TypeId) (i : TypeInfo) (ht : P.underlying t = some (.slice e)) (hi : P.info? e = some i) (a : Addr) (n cap c : Nat) (h : n ≤ cap) :
    (Builtin.append_ #[t, t] ty #[.slice (some a) n cap, .slice none 0 c]).run P w = .ok (.slice (some a) n cap) w := by
  simp [Builtin.append_, run_underlying ht, sizeOf, typeInfo, hi, Builtin.lenOf, h, Builtin.firstCells, storeCells]
theorem own_one {W : World} {H base x : Nat} (hH : W.heap.size = H) (hb : base ≤ H) : (W.alloc (.cells #[iv x] 3)).ownsRow base 3 1 (.slice (some ⟨H, 0, none⟩) 1 1) 1 [iv x] :=
  ⟨rfl, Or.inr ⟨H, 1, #[iv x], rfl, hb, heap_new W _ H hH.symm, Nat.le_refl _, by unfold maxLen; omega, rfl, rfl⟩⟩
theorem run_append_ints {w : World} {ty : TypeId} {base G n0 c0 : Nat} {olds : List Nat} (hown : w.ownsRow base 3 1 (.slice (some ⟨G, 0, none⟩) n0 c0) n0 (olds.map iv)) (h0 : 0 < n0) {s : Option Addr} {k c : Nat} {ys : List Nat} (hk : ys.length = k) (hr : RRdo w s ys) (hb : n0 + k ≤ 10000000) (hbase : base ≤ w.heap.size) :
    ∃ g cap w', (Builtin.append_ #[32, 32] ty #[.slice (some ⟨G, 0, none⟩) n0 c0, .slice s k c]).run Tryz.prog w = .ok (.slice (some ⟨g, 0, none⟩) (n0 + k) cap) w' ∧
      w'.ownsRow base 3 1 (.slice (some ⟨g, 0, none⟩) (n0 + k) cap) (n0 + k) ((olds ++ ys).map iv) ∧ w.grownBy w' (some G) := by
  obtain ⟨i1, hi, hz0, hz1, hz2⟩ := info_partsI
  have key : ∀ (ad : Addr) (news : List Value), news = ys.map iv → (∀ j u, news[j]? = some u → w.cell? (ad.add j) = some u) → ∃ g cap w', (Builtin.append_ #[32, 32] ty #[.slice (some ⟨G, 0, none⟩) n0 c0, .slice (some ad) k c]).run Tryz.prog w = .ok (.slice (some ⟨g, 0, none⟩) (n0 + k) cap) w' ∧
      w'.ownsRow base 3 1 (.slice (some ⟨g, 0, none⟩) (n0 + k) cap) (n0 + k) ((olds ++ ys).map iv) ∧ w.grownBy w' (some G) := by
    intro ad news hne hn
    obtain ⟨v', w', hrun, h2, h3, _, h5⟩ := run_append_own_at (P := Tryz.prog) w base 32 ty 3 i1 (.int .i64 0) 1 8 Tryz.underlying32 hi hz0 hz1 hz2 rfl (by omega) (.slice (some ⟨G, 0, none⟩) n0 c0) n0 (olds.map iv) hown ad k c news (by rw [hne, List.length_map, hk]; omega) hn (by rw [hne]; intro u hu; obtain ⟨x, -, rfl⟩ := List.mem_map.1 hu; rfl) (by unfold maxLen; omega) (by omega) hbase
    obtain ⟨g, cap, rfl, _, hlt⟩ := h2.form (by omega)
    exact ⟨g, cap, w', hrun, by rw [List.map_append, ← hne]; exact h2, h3⟩
  rcases hr with h | ⟨b, off, cs, e, h1, h2⟩
  · subst h
    simp only [List.length_nil] at hk
    subst hk
    cases s with
    | none =>
      refine ⟨G, c0, w, run_append_none w _ ty _ i1 Tryz.underlying32 hi _ _ _ _ (own_rdoI hown).2.1, ?_, grown_refl _ _⟩
      rw [List.append_nil]; exact hown
    | some ad => exact key ad [] rfl (fun j u h => by simp at h)
  · subst e
    refine key ⟨b, off, none⟩ (ys.map iv) rfl (fun j u hj => ?_)
    have hadd : (⟨b, off, none⟩ : Addr).add j = ⟨b, off + j, none⟩ := by unfold Addr.add; split <;> simp_all
    rw [hadd, h1.cell]
    rw [List.getElem?_map] at hj
    obtain ⟨x, hx, rfl⟩ := Option.map_eq_some_iff.1 hj
    obtain ⟨hj2, rfl⟩ := List.getElem?_eq_some_iff.1 hx
    exact h2 j hj2
theorem step_append_ints {w : World} {ops : Array Oper} {o : Oper} {a : Act} {K : Act → World → Prop} {Q : Exit → Act → World → Prop} {E : Prop} (hgd : o.guard = none) (s x : Operand)
    (ho : o.op = .call { callee := .builtin .append, args := #[s, x], argTypes := #[32, 32] })
    (base G n0 c0 : Nat) (olds : List Nat) (hs : a.eval s = .slice (some ⟨G, 0, none⟩) n0 c0) (hown : w.ownsRow base 3 1 (.slice (some ⟨G, 0, none⟩) n0 c0) n0 (olds.map iv)) (h0 : 0 < n0)
    (sx : Option Addr) (k c : Nat) (ys : List Nat) (hx : a.eval x = .slice sx k c) (hk : ys.length = k) (hr : RRdo w sx ys) (hb : n0 + k ≤ 10000000) (hbase : base ≤ w.heap.size)
    (h : ∀ g cap w', w'.ownsRow base 3 1 (.slice (some ⟨g, 0, none⟩) (n0 + k) cap) (n0 + k) ((olds ++ ys).map iv) → w.grownBy w' (some G) → K (a.put o.dst (.slice (some ⟨g, 0, none⟩) (n0 + k) cap)) w') :
    if Region.wanted o (yielded ops a.tmps) = true then Oper.wp Tryz.prog o a w K Q else E := by
  have hw : Region.wanted o (yielded ops a.tmps) = true := by simp [Region.wanted, hgd]
  rw [if_pos hw]
  obtain ⟨g, cap, w', hrun, h2, h3⟩ := run_append_ints (ty := o.type) hown h0 (c := c) hk hr hb hbase
  unfold Oper.wp execOp
  simp only [ho, resolve, invoke, builtin, Sem.run_bind, Sem.run_pure, Result.andThen_ok, List.map_toArray, List.map_cons, List.map_nil, hs, hx, hrun]
  exact h g cap w' h2 h3
end Go.Proofs.YtldkddogadmpbaaGreatDoor
