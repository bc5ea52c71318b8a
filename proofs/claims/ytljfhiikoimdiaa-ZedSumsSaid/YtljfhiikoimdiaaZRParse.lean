/- A text is read as a whole number, or told which error: as the document has it. -/
import Derived.Test.YtljfhiikoimdiaaZParse
import Derived.Test.YtljfhiikoimdiaaZRef2
import Derived.Deep.RegionHeld3
namespace Go.Proofs.Ytljfhiikoimdiaa
open Go.RowKit Mat
set_option maxRecDepth 100000
set_option linter.unusedVariables false
set_option linter.unusedSimpArgs false

def RetRIntE (w : World) (z : Int) (code : Int) (e : Ending) (w' : World) : Prop := ∃ v, e = .returned (.tuple #[v, .int .i64 code]) ∧ RIntV w' v z ∧ w.grownBy w' none
theorem ret_rintvE {w w' : World} {z code : Int} {g : Nat} {a0 a1 v0 v1 : Value} (hg : w.grownBy w' none) (hbox : w'.heap[g]? = some (.cells #[a0, a1] 34 (0, 0))) (hl : w.heap.size ≤ g) (h : RIntV w' (.agg #[v0, v1]) z) :
    RetRIntE w z code (.returned (.tuple #[.agg #[v0, v1], .int .i64 code])) ((w'.setCell ⟨g, 0, none⟩ v0).setCell ⟨g, 1, none⟩ v1) :=
  ⟨_, rfl, (h.set_other hbox (by decide) 0 v0).set_other (heap_setfst hbox v0) (by decide) 1 v1, grown_two hg hl v0 v1⟩
/-- Why a text is none of digits: it is empty, it has a 0 ahead, or a sign that is no digit. -/
theorem dec_why {s : ByteArray} (h : ¬ DecL (bts s)) : s.size = 0 ∨ (∃ hp : 0 < s.size, (s[0]'hp).toNat = 48 ∧ 1 < s.size) ∨ (0 < s.size ∧ (∀ hp : 0 < s.size, 1 < s.size → (s[0]'hp).toNat ≠ 48) ∧ ¬ ∀ j (h : j < s.size), j < s.size → 48 ≤ (s[j]'h).toNat ∧ (s[j]'h).toNat ≤ 57) := by
  rcases Nat.eq_zero_or_pos s.size with h0 | h0
  · exact Or.inl h0
  · right
    by_cases h1 : 1 < s.size ∧ (s[0]'h0).toNat = 48
    · left; exact ⟨h0, h1.2, h1.1⟩
    · right
      refine ⟨h0, fun hp h2 h3 => h1 ⟨h2, h3⟩, fun hd => h ?_⟩
      refine ⟨fun k hk => ?_, ?_⟩
      · have hk' : k < s.size := by rw [bts_len] at hk; exact hk
        rw [bts_get s k hk']; exact hd k hk' hk'
      · by_cases h2 : s.size = 1
        · have hl : (bts s).length = 1 := by rw [bts_len]; exact h2
          obtain ⟨y, hy⟩ := List.length_eq_one_iff.1 hl
          by_cases h48 : y = 48
          · left; rw [hy, h48]
          · right; rw [hy]; simpa using h48
        · right
          refine ⟨fun e => ?_, fun e => ?_⟩
          · have := bts_len s; rw [e] at this; simp at this; omega
          · rw [bts_head s h0] at e
            exact h1 ⟨by omega, Option.some.inj e⟩
theorem dec_how {s : ByteArray} (h : DecL (bts s)) : 0 < s.size ∧ (∀ hp : 0 < s.size, 1 < s.size → (s[0]'hp).toNat ≠ 48) ∧ (∀ j (h : j < s.size), j < s.size → 48 ≤ (s[j]'h).toNat ∧ (s[j]'h).toNat ≤ 57) := by
  have h0 : 0 < s.size := by
    rcases Nat.eq_zero_or_pos s.size with h1 | h1
    · have h3 : bts s = [] := List.length_eq_zero_iff.1 (by rw [bts_len]; exact h1)
      rcases h.2 with h4 | h4
      · rw [h3] at h4; simp at h4
      · exact absurd h3 h4.1
    · exact h1
  refine ⟨h0, fun hp h1 e => ?_, fun j hj _ => ?_⟩
  · rcases h.2 with h4 | h4
    · have := bts_len s; rw [h4] at this; simp at this; omega
    · exact h4.2 (by rw [bts_head s hp, e])
  · have := h.1 j (by rw [bts_len]; exact hj)
    rw [bts_get s j hj] at this; exact this
theorem dec_one48 {s : ByteArray} (h0 : 0 < s.size) (h : DecL (bts s)) (hm : dval (bts s) ≠ 0) : (s[0]'h0).toNat ≠ 48 := by
  intro e
  rcases h.2 with h4 | h4
  · rw [h4] at hm; exact hm (by decide +kernel)
  · exact h4.2 (by rw [bts_head s h0, e])
theorem sign_one (m : Nat) : m = 0 ∨ (m : Int).sign = 1 := by
  rcases zsign (m : Int) with ⟨h, e⟩ | ⟨h, e⟩ | ⟨h, e⟩
  · omega
  · left; omega
  · right; exact e
set_option maxHeartbeats 16000000 in
theorem rZParse_any (w : World) (s : ByteArray) :
    Calls Try.prog 13 #[.string s] w (RetRIntE w (zval s) (zcod s)) := by
  by_cases h0 : 4097 < s.size
  · skip
    obtain ⟨e1, e2⟩ := zc_long h0
    rw [e1, e2]
    clear e1 e2
    have f1 : decide ((4097 : Int) < (s.size : Int)) = true := decide_eq_true (by omega)
    have hG : w.grownBy (w.alloc (.cells #[.int .i64 0, .slice none 0 0] 34)) none := (World.grownBy_alloc _ _ _)
    have Bq := (heap_new w (.cells #[.int .i64 0, .slice none 0 0] 34) (w.heap.size) rfl)
    go_enter Try.func13, Try.ntmps13
    obtain ⟨Cq0, Cq1, Fq0, Fq1⟩ := box_cells Bq
    have hG' : w.grownBy (w.alloc (.cells #[.int .i64 0, .slice none 0 0] 34)) none := (World.grownBy_alloc _ _ _)
    have hF : Hid (RetRIntE w (0) 2 (.returned (.tuple #[.agg #[.int .i64 0, .slice none 0 0], .int .i64 2])) (w.alloc (.cells #[.int .i64 0, .slice none 0 0] 34))) := ⟨_, rfl, (RIntV.zero _), hG'⟩
    clear hG' 
    go_wp2_with fail
    exact bodyPost_ret (v := .tuple #[.agg #[.int .i64 0, .slice none 0 0], .int .i64 2]) (by simp [results, Try.results13, go_sem]) rfl hF.out
  have f1 : decide ((4097 : Int) < (s.size : Int)) = false := decide_eq_false (by omega)
  have hs : s.size ≤ 4097 := by omega
  clear h0
  cases hn : zneg (bts s)
  · skip
    have HB4 := Lib.hid hs
    have hz := zdig_pos hn
    have hsig : (decide (0 < s.size) = false ∧ decide ((0 : Int) < (s.size : Int)) = false) ∨ (decide (0 < s.size) = true ∧ decide ((0 : Int) < (s.size : Int)) = true ∧ ∃ hp : 0 < s.size, ∃ x : Nat, (s[0]'hp).toNat = x ∧ ((x : Int) == 45) = false) := by
      rcases Nat.eq_zero_or_pos s.size with h | h
      · left; exact ⟨decide_eq_false (by omega), decide_eq_false (by omega)⟩
      · right; refine ⟨decide_eq_true h, decide_eq_true (by omega), h, _, rfl, ?_⟩
        refine beq_eq_false_iff_ne.2 (fun e => ?_)
        have : zneg (bts s) = true := by unfold zneg; rw [bts_head s h]; have e2 : (s[0]'h).toNat = 45 := by omega
                                         rw [e2]; rfl
        rw [hn] at this; cases this
    by_cases hd : DecL (bts s)
    · skip
      have hok : zok (bts s) = true := (zok_iff _).2 ⟨by rw [hz]; exact hd, by rw [hn]; simp⟩
      obtain ⟨hp9, hx9, hw9⟩ := dec_how hd
      obtain ⟨f2, f3, f4⟩ : decide (0 < s.size) = true ∧ decide ((0 : Int) < (s.size : Int)) = true ∧ (((s[0]'hp9).toNat : Int) == 45) = false := by
        rcases hsig with ⟨h, _⟩ | ⟨h1, h2, hp, x, ex, h3⟩
        · exact absurd hp9 (of_decide_eq_false h)
        · exact ⟨h1, h2, by rw [ex]; exact h3⟩
      have HX := Lib.hid hx9
      have HW := Lib.hid hw9
      clear hw9 hx9 hsig
      by_cases h4 : s.size ≤ 4096
      · skip
        obtain ⟨e1, e2⟩ := zc_num hs hok (by rw [hz, bts_len]; exact h4)
        obtain ⟨m, hm⟩ : ∃ m, dval (bts s) = m := ⟨_, rfl⟩
        rw [e1, e2, show znum (bts s) = (m : Int) from by unfold znum; rw [hn, hz, hm]; rfl]
        clear e1 e2 hok hz hs hn
        have HD := Lib.hid hd
        have HZ := Lib.hid h4
        have HV := Lib.hid hm
        clear hd h4 hm
        obtain ⟨x0, ex0⟩ : ∃ x, (s[0]'hp9).toNat = x := ⟨_, rfl⟩
        have HX2 : Hid (1 < s.size → x0 ≠ 48) := fun h => by rw [← ex0]; exact HX.out hp9 h
        have EX0 := Lib.hid ex0
        clear ex0
        clear HX
        by_cases hx0 : x0 = 48
        · skip
          subst hx0
          have h1 : s.size ≤ 1 := by have := HX2.out; omega
          clear HX2
          have g0 : ((s.size : Int) == 0) = false := beq_eq_false_iff_ne.2 (by omega)
          have g1 : decide ((1 : Int) < (s.size : Int)) = false := decide_eq_false (by omega)
          have ex : (s[0]'hp9).toNat = 48 := EX0.out
          clear h1
          have hG : w.grownBy (w.alloc (.cells #[.int .i64 0, .slice none 0 0] 34)) none := (World.grownBy_alloc _ _ _)
          have Bq := (heap_new w (.cells #[.int .i64 0, .slice none 0 0] 34) (w.heap.size) rfl)
          go_enter Try.func13, Try.ntmps13
          obtain ⟨Cq0, Cq1, Fq0, Fq1⟩ := box_cells Bq
          go_upto_region 8 with fail
          go_wp2_with fail
          generalize (w.alloc (.cells #[.int .i64 0, .slice none 0 0] 34)) = w0 at *
          have hb4 : s.size ≤ 4097 := HB4.out
          go_loopw [6] (fun i wr => ∃ k : Nat, k ≤ s.size ∧ i = .int .i64 k ∧ w0 = wr) (fun i _ => s.size - (intOf i).toNat)
          case atStart => exact ⟨0, Nat.zero_le _, rfl, rfl⟩
          case round =>
            obtain ⟨k, hk, rfl, rfl⟩ := hrel
            by_cases hlt : k < s.size
            · skip
              obtain ⟨y, ey⟩ : ∃ y, (s[k]'hlt).toNat = y := ⟨_, rfl⟩
              have hy : 48 ≤ y ∧ y ≤ 57 := ey ▸ HW.out k hlt hlt
              have f5 : decide ((y : Int) < 48) = false := decide_eq_false (by omega)
              have f6 : decide ((57 : Int) < (y : Int)) = false := decide_eq_false (by omega)
              go_wp2_with fail
              go_roundw
              case rel => exact ⟨k + 1, by omega, by go_num, by trivial⟩
              case measure => simp [intOf]; omega
            · skip
              obtain rfl : k = s.size := by omega
              go_wp2_with fail
              clear Cq0 Fq0 Cq1 Fq1
              refine (rParse_some w0 s HZ.out HD.out).mono ?_
              rintro e w1 ⟨_, rfl, ⟨sn, ln, cn, yn, rfl, hn⟩, gw1⟩
              have mn : RefV w1 (.agg #[.slice sn ln cn]) (dval (bts s)) := ⟨sn, ln, cn, yn, rfl, hn⟩
              replace Bq := heap_kept gw1 Bq
              replace hG := grown_trans hG gw1
              clear gw1
              clear hn
              obtain ⟨Cq0, Cq1, Fq0, Fq1⟩ := box_cells Bq
              have gbw1 := (World.grownBy_alloc w1 (.cells #[.slice sn ln cn] 32) none)
              have Bn := (heap_new w1 (.cells #[.slice sn ln cn] 32) (w1.heap.size) rfl)
              have hzw1 : Hid (w.heap.size ≤ w1.heap.size) := Lib.hid hG.size
              have hlqw1 : Hid (w.heap.size < w1.heap.size) := Lib.hid (Array.getElem?_eq_some_iff.1 Bq).1
              clear Cq0 Fq0 Cq1 Fq1
              replace Bq := heap_kept gbw1 Bq
              replace mn := mn.kept gbw1
              replace hG := grown_trans hG gbw1
              clear gbw1
              obtain ⟨Cq0, Cq1, Fq0, Fq1⟩ := box_cells Bq
              obtain ⟨Cn0, Fn0⟩ := box_cell Bn
              go_wp2_with fail
              generalize (w1.alloc (.cells #[.slice sn ln cn] 32)) = w2 at *
              generalize w1.heap.size = aw1 at *
              replace hzw1 := hzw1.out
              replace hlqw1 := hlqw1.out
              clear Cq0 Fq0 Cq1 Fq1 Cn0 Fn0
              refine (rMade_any w2 _ 1 (dval (bts s)) (m : Int) mn (by rw [HV.out]; omega) (by rw [HV.out]; exact sign_one m)).mono ?_
              rintro e w3 ⟨_, rfl, ⟨gd, sd, ld, cd, rfl, hd, md⟩, gw3⟩
              have rd : RIntV w3 (.agg #[.int .i64 gd, .slice sd ld cd]) ((m : Int)) := ⟨gd, sd, ld, cd, rfl, hd, md⟩
              replace Bq := heap_kept gw3 Bq
              replace Bn := heap_kept gw3 Bn
              replace mn := mn.kept gw3
              replace hG := grown_trans hG gw3
              clear gw3
              clear md
              obtain ⟨Cq0, Cq1, Fq0, Fq1⟩ := box_cells Bq
              obtain ⟨Cn0, Fn0⟩ := box_cell Bn
              clear Cq0 Fq0 Cq1 Fq1 Cn0 Fn0
              obtain ⟨k90, k91, k92, k93⟩ := box_cells Bq
              obtain ⟨q90, q91, q92, q93⟩ := box_cells (heap_set2 Bq (.int .i64 gd) (.slice sd ld cd))
              have hF : Hid (RetRIntE w ((m : Int)) 0 (.returned (.tuple #[.agg #[.int .i64 gd, .slice sd ld cd], .int .i64 0])) ((w3.setCell ⟨w.heap.size, 0, none⟩ (.int .i64 gd)).setCell ⟨w.heap.size, 1, none⟩ (.slice sd ld cd))) := ret_rintvE hG Bq (by omega) rd
              clear mn rd
              obtain ⟨Cn0, Fn0⟩ := box_cell Bn
              go_wp2_with fail
              exact bodyPost_ret (v := .tuple #[.agg #[.int .i64 gd, .slice sd ld cd], .int .i64 0]) (by simp [results, Try.results13, go_sem, q90, q91]) rfl hF.out
        · skip
          have g2 : ((x0 : Int) == 48) = false := beq_eq_false_iff_ne.2 (by omega)
          clear hx0 HX2
          have ex : (s[0]'hp9).toNat = x0 := EX0.out
          have g0 : ((s.size : Int) == 0) = false := beq_eq_false_iff_ne.2 (by omega)
          have hG : w.grownBy (w.alloc (.cells #[.int .i64 0, .slice none 0 0] 34)) none := (World.grownBy_alloc _ _ _)
          have Bq := (heap_new w (.cells #[.int .i64 0, .slice none 0 0] 34) (w.heap.size) rfl)
          go_enter Try.func13, Try.ntmps13
          obtain ⟨Cq0, Cq1, Fq0, Fq1⟩ := box_cells Bq
          go_upto_region 8 with fail
          go_wp2_with fail
          generalize (w.alloc (.cells #[.int .i64 0, .slice none 0 0] 34)) = w0 at *
          have hb4 : s.size ≤ 4097 := HB4.out
          go_loopw [6] (fun i wr => ∃ k : Nat, k ≤ s.size ∧ i = .int .i64 k ∧ w0 = wr) (fun i _ => s.size - (intOf i).toNat)
          case atStart => exact ⟨0, Nat.zero_le _, rfl, rfl⟩
          case round =>
            obtain ⟨k, hk, rfl, rfl⟩ := hrel
            by_cases hlt : k < s.size
            · skip
              obtain ⟨y, ey⟩ : ∃ y, (s[k]'hlt).toNat = y := ⟨_, rfl⟩
              have hy : 48 ≤ y ∧ y ≤ 57 := ey ▸ HW.out k hlt hlt
              have f5 : decide ((y : Int) < 48) = false := decide_eq_false (by omega)
              have f6 : decide ((57 : Int) < (y : Int)) = false := decide_eq_false (by omega)
              go_wp2_with fail
              go_roundw
              case rel => exact ⟨k + 1, by omega, by go_num, by trivial⟩
              case measure => simp [intOf]; omega
            · skip
              obtain rfl : k = s.size := by omega
              go_wp2_with fail
              clear Cq0 Fq0 Cq1 Fq1
              refine (rParse_some w0 s HZ.out HD.out).mono ?_
              rintro e w1 ⟨_, rfl, ⟨sn, ln, cn, yn, rfl, hn⟩, gw1⟩
              have mn : RefV w1 (.agg #[.slice sn ln cn]) (dval (bts s)) := ⟨sn, ln, cn, yn, rfl, hn⟩
              replace Bq := heap_kept gw1 Bq
              replace hG := grown_trans hG gw1
              clear gw1
              clear hn
              obtain ⟨Cq0, Cq1, Fq0, Fq1⟩ := box_cells Bq
              have gbw1 := (World.grownBy_alloc w1 (.cells #[.slice sn ln cn] 32) none)
              have Bn := (heap_new w1 (.cells #[.slice sn ln cn] 32) (w1.heap.size) rfl)
              have hzw1 : Hid (w.heap.size ≤ w1.heap.size) := Lib.hid hG.size
              have hlqw1 : Hid (w.heap.size < w1.heap.size) := Lib.hid (Array.getElem?_eq_some_iff.1 Bq).1
              clear Cq0 Fq0 Cq1 Fq1
              replace Bq := heap_kept gbw1 Bq
              replace mn := mn.kept gbw1
              replace hG := grown_trans hG gbw1
              clear gbw1
              obtain ⟨Cq0, Cq1, Fq0, Fq1⟩ := box_cells Bq
              obtain ⟨Cn0, Fn0⟩ := box_cell Bn
              go_wp2_with fail
              generalize (w1.alloc (.cells #[.slice sn ln cn] 32)) = w2 at *
              generalize w1.heap.size = aw1 at *
              replace hzw1 := hzw1.out
              replace hlqw1 := hlqw1.out
              clear Cq0 Fq0 Cq1 Fq1 Cn0 Fn0
              refine (rMade_any w2 _ 1 (dval (bts s)) (m : Int) mn (by rw [HV.out]; omega) (by rw [HV.out]; exact sign_one m)).mono ?_
              rintro e w3 ⟨_, rfl, ⟨gd, sd, ld, cd, rfl, hd, md⟩, gw3⟩
              have rd : RIntV w3 (.agg #[.int .i64 gd, .slice sd ld cd]) ((m : Int)) := ⟨gd, sd, ld, cd, rfl, hd, md⟩
              replace Bq := heap_kept gw3 Bq
              replace Bn := heap_kept gw3 Bn
              replace mn := mn.kept gw3
              replace hG := grown_trans hG gw3
              clear gw3
              clear md
              obtain ⟨Cq0, Cq1, Fq0, Fq1⟩ := box_cells Bq
              obtain ⟨Cn0, Fn0⟩ := box_cell Bn
              clear Cq0 Fq0 Cq1 Fq1 Cn0 Fn0
              obtain ⟨k90, k91, k92, k93⟩ := box_cells Bq
              obtain ⟨q90, q91, q92, q93⟩ := box_cells (heap_set2 Bq (.int .i64 gd) (.slice sd ld cd))
              have hF : Hid (RetRIntE w ((m : Int)) 0 (.returned (.tuple #[.agg #[.int .i64 gd, .slice sd ld cd], .int .i64 0])) ((w3.setCell ⟨w.heap.size, 0, none⟩ (.int .i64 gd)).setCell ⟨w.heap.size, 1, none⟩ (.slice sd ld cd))) := ret_rintvE hG Bq (by omega) rd
              clear mn rd
              obtain ⟨Cn0, Fn0⟩ := box_cell Bn
              go_wp2_with fail
              exact bodyPost_ret (v := .tuple #[.agg #[.int .i64 gd, .slice sd ld cd], .int .i64 0]) (by simp [results, Try.results13, go_sem, q90, q91]) rfl hF.out
      · skip
        have h5 : 4096 < s.size := by omega
        obtain ⟨e1, e2⟩ := zc_many hs hok (by rw [hz, bts_len]; exact h5)
        rw [e1, e2]
        clear e1 e2 hok hz h4 hn hs
        have HD := Lib.hid hd
        have HZ := Lib.hid h5
        clear hd h5
        obtain ⟨x0, ex0⟩ : ∃ x, (s[0]'hp9).toNat = x := ⟨_, rfl⟩
        have HX2 : Hid (1 < s.size → x0 ≠ 48) := fun h => by rw [← ex0]; exact HX.out hp9 h
        have EX0 := Lib.hid ex0
        clear ex0
        clear HX
        by_cases hx0 : x0 = 48
        · skip
          subst hx0
          have h1 : s.size ≤ 1 := by have := HX2.out; omega
          clear HX2
          have g0 : ((s.size : Int) == 0) = false := beq_eq_false_iff_ne.2 (by omega)
          have g1 : decide ((1 : Int) < (s.size : Int)) = false := decide_eq_false (by omega)
          have ex : (s[0]'hp9).toNat = 48 := EX0.out
          clear h1
          have hG : w.grownBy (w.alloc (.cells #[.int .i64 0, .slice none 0 0] 34)) none := (World.grownBy_alloc _ _ _)
          have Bq := (heap_new w (.cells #[.int .i64 0, .slice none 0 0] 34) (w.heap.size) rfl)
          go_enter Try.func13, Try.ntmps13
          obtain ⟨Cq0, Cq1, Fq0, Fq1⟩ := box_cells Bq
          go_upto_region 8 with fail
          go_wp2_with fail
          generalize (w.alloc (.cells #[.int .i64 0, .slice none 0 0] 34)) = w0 at *
          have hb4 : s.size ≤ 4097 := HB4.out
          go_loopw [6] (fun i wr => ∃ k : Nat, k ≤ s.size ∧ i = .int .i64 k ∧ w0 = wr) (fun i _ => s.size - (intOf i).toNat)
          case atStart => exact ⟨0, Nat.zero_le _, rfl, rfl⟩
          case round =>
            obtain ⟨k, hk, rfl, rfl⟩ := hrel
            by_cases hlt : k < s.size
            · skip
              obtain ⟨y, ey⟩ : ∃ y, (s[k]'hlt).toNat = y := ⟨_, rfl⟩
              have hy : 48 ≤ y ∧ y ≤ 57 := ey ▸ HW.out k hlt hlt
              have f5 : decide ((y : Int) < 48) = false := decide_eq_false (by omega)
              have f6 : decide ((57 : Int) < (y : Int)) = false := decide_eq_false (by omega)
              go_wp2_with fail
              go_roundw
              case rel => exact ⟨k + 1, by omega, by go_num, by trivial⟩
              case measure => simp [intOf]; omega
            · skip
              obtain rfl : k = s.size := by omega
              go_wp2_with fail
              clear Cq0 Fq0 Cq1 Fq1
              refine (rParse_long w0 s HZ.out).mono ?_
              rintro e w1 ⟨_, rfl, ⟨sn, ln, cn, yn, rfl, hn⟩, gw1⟩
              have mn : RefV w1 (.agg #[.slice sn ln cn]) (0) := ⟨sn, ln, cn, yn, rfl, hn⟩
              replace Bq := heap_kept gw1 Bq
              replace hG := grown_trans hG gw1
              clear gw1
              clear hn
              obtain ⟨Cq0, Cq1, Fq0, Fq1⟩ := box_cells Bq
              have gbw1 := (World.grownBy_alloc w1 (.cells #[.slice sn ln cn] 32) none)
              have Bn := (heap_new w1 (.cells #[.slice sn ln cn] 32) (w1.heap.size) rfl)
              have hzw1 : Hid (w.heap.size ≤ w1.heap.size) := Lib.hid hG.size
              have hlqw1 : Hid (w.heap.size < w1.heap.size) := Lib.hid (Array.getElem?_eq_some_iff.1 Bq).1
              clear Cq0 Fq0 Cq1 Fq1
              replace Bq := heap_kept gbw1 Bq
              replace mn := mn.kept gbw1
              replace hG := grown_trans hG gbw1
              clear gbw1
              obtain ⟨Cq0, Cq1, Fq0, Fq1⟩ := box_cells Bq
              obtain ⟨Cn0, Fn0⟩ := box_cell Bn
              clear Cq0 Fq0 Cq1 Fq1 Cn0 Fn0
              obtain ⟨k90, k91, k92, k93⟩ := box_cells Bq
              obtain ⟨q90, q91, q92, q93⟩ := box_cells (heap_set2 Bq (.int .i64 0) (.slice none 0 0))
              have hF : Hid (RetRIntE w (0) 2 (.returned (.tuple #[.agg #[.int .i64 0, .slice none 0 0], .int .i64 2])) (((w1.alloc (.cells #[.slice sn ln cn] 32)).setCell ⟨w.heap.size, 0, none⟩ (.int .i64 0)).setCell ⟨w.heap.size, 1, none⟩ (.slice none 0 0))) := ret_rintvE hG Bq (by omega) (RIntV.zero _)
              clear mn
              obtain ⟨Cn0, Fn0⟩ := box_cell Bn
              go_wp2_with fail
              exact bodyPost_ret (v := .tuple #[.agg #[.int .i64 0, .slice none 0 0], .int .i64 2]) (by simp [results, Try.results13, go_sem, q90, q91]) rfl hF.out
        · skip
          have g2 : ((x0 : Int) == 48) = false := beq_eq_false_iff_ne.2 (by omega)
          clear hx0 HX2
          have ex : (s[0]'hp9).toNat = x0 := EX0.out
          have g0 : ((s.size : Int) == 0) = false := beq_eq_false_iff_ne.2 (by omega)
          have hG : w.grownBy (w.alloc (.cells #[.int .i64 0, .slice none 0 0] 34)) none := (World.grownBy_alloc _ _ _)
          have Bq := (heap_new w (.cells #[.int .i64 0, .slice none 0 0] 34) (w.heap.size) rfl)
          go_enter Try.func13, Try.ntmps13
          obtain ⟨Cq0, Cq1, Fq0, Fq1⟩ := box_cells Bq
          go_upto_region 8 with fail
          go_wp2_with fail
          generalize (w.alloc (.cells #[.int .i64 0, .slice none 0 0] 34)) = w0 at *
          have hb4 : s.size ≤ 4097 := HB4.out
          go_loopw [6] (fun i wr => ∃ k : Nat, k ≤ s.size ∧ i = .int .i64 k ∧ w0 = wr) (fun i _ => s.size - (intOf i).toNat)
          case atStart => exact ⟨0, Nat.zero_le _, rfl, rfl⟩
          case round =>
            obtain ⟨k, hk, rfl, rfl⟩ := hrel
            by_cases hlt : k < s.size
            · skip
              obtain ⟨y, ey⟩ : ∃ y, (s[k]'hlt).toNat = y := ⟨_, rfl⟩
              have hy : 48 ≤ y ∧ y ≤ 57 := ey ▸ HW.out k hlt hlt
              have f5 : decide ((y : Int) < 48) = false := decide_eq_false (by omega)
              have f6 : decide ((57 : Int) < (y : Int)) = false := decide_eq_false (by omega)
              go_wp2_with fail
              go_roundw
              case rel => exact ⟨k + 1, by omega, by go_num, by trivial⟩
              case measure => simp [intOf]; omega
            · skip
              obtain rfl : k = s.size := by omega
              go_wp2_with fail
              clear Cq0 Fq0 Cq1 Fq1
              refine (rParse_long w0 s HZ.out).mono ?_
              rintro e w1 ⟨_, rfl, ⟨sn, ln, cn, yn, rfl, hn⟩, gw1⟩
              have mn : RefV w1 (.agg #[.slice sn ln cn]) (0) := ⟨sn, ln, cn, yn, rfl, hn⟩
              replace Bq := heap_kept gw1 Bq
              replace hG := grown_trans hG gw1
              clear gw1
              clear hn
              obtain ⟨Cq0, Cq1, Fq0, Fq1⟩ := box_cells Bq
              have gbw1 := (World.grownBy_alloc w1 (.cells #[.slice sn ln cn] 32) none)
              have Bn := (heap_new w1 (.cells #[.slice sn ln cn] 32) (w1.heap.size) rfl)
              have hzw1 : Hid (w.heap.size ≤ w1.heap.size) := Lib.hid hG.size
              have hlqw1 : Hid (w.heap.size < w1.heap.size) := Lib.hid (Array.getElem?_eq_some_iff.1 Bq).1
              clear Cq0 Fq0 Cq1 Fq1
              replace Bq := heap_kept gbw1 Bq
              replace mn := mn.kept gbw1
              replace hG := grown_trans hG gbw1
              clear gbw1
              obtain ⟨Cq0, Cq1, Fq0, Fq1⟩ := box_cells Bq
              obtain ⟨Cn0, Fn0⟩ := box_cell Bn
              clear Cq0 Fq0 Cq1 Fq1 Cn0 Fn0
              obtain ⟨k90, k91, k92, k93⟩ := box_cells Bq
              obtain ⟨q90, q91, q92, q93⟩ := box_cells (heap_set2 Bq (.int .i64 0) (.slice none 0 0))
              have hF : Hid (RetRIntE w (0) 2 (.returned (.tuple #[.agg #[.int .i64 0, .slice none 0 0], .int .i64 2])) (((w1.alloc (.cells #[.slice sn ln cn] 32)).setCell ⟨w.heap.size, 0, none⟩ (.int .i64 0)).setCell ⟨w.heap.size, 1, none⟩ (.slice none 0 0))) := ret_rintvE hG Bq (by omega) (RIntV.zero _)
              clear mn
              obtain ⟨Cn0, Fn0⟩ := box_cell Bn
              go_wp2_with fail
              exact bodyPost_ret (v := .tuple #[.agg #[.int .i64 0, .slice none 0 0], .int .i64 2]) (by simp [results, Try.results13, go_sem, q90, q91]) rfl hF.out
    · skip
      obtain ⟨e1, e2⟩ := zc_form hs (fun h => hd (by have := ((zok_iff _).1 h).1; rw [hz] at this; exact this))
      rw [e1, e2]
      clear e1 e2 hz hn hs
      have HD := Lib.hid hd
      clear hd
      rcases hsig with ⟨f2, f3⟩ | ⟨f2, f3, hp8, x8, ex8, f4⟩
      · skip
        have h9 : s.size = 0 := by have := of_decide_eq_false f2; omega
        have g0 : ((s.size : Int) == 0) = true := by rw [h9]; rfl
        clear h9
        have hG : w.grownBy (w.alloc (.cells #[.int .i64 0, .slice none 0 0] 34)) none := (World.grownBy_alloc _ _ _)
        have Bq := (heap_new w (.cells #[.int .i64 0, .slice none 0 0] 34) (w.heap.size) rfl)
        go_enter Try.func13, Try.ntmps13
        obtain ⟨Cq0, Cq1, Fq0, Fq1⟩ := box_cells Bq
        have hG' : w.grownBy (w.alloc (.cells #[.int .i64 0, .slice none 0 0] 34)) none := (World.grownBy_alloc _ _ _)
        have hF : Hid (RetRIntE w (0) 3 (.returned (.tuple #[.agg #[.int .i64 0, .slice none 0 0], .int .i64 3])) (w.alloc (.cells #[.int .i64 0, .slice none 0 0] 34))) := ⟨_, rfl, (RIntV.zero _), hG'⟩
        clear hG' 
        go_wp2_with fail
        exact bodyPost_ret (v := .tuple #[.agg #[.int .i64 0, .slice none 0 0], .int .i64 3]) (by simp [results, Try.results13, go_sem]) rfl hF.out
      · skip
        rw [← ex8] at f4
        clear ex8 x8
        rcases dec_why HD.out with h9 | ⟨hp9, ex9, h9⟩ | ⟨hp9, hx9, hw9⟩
        · omega
        · skip
          rw [ex9] at f4
          have g0 : ((s.size : Int) == 0) = false := beq_eq_false_iff_ne.2 (by omega)
          have g1 : decide ((1 : Int) < (s.size : Int)) = true := decide_eq_true (by omega)
          have hG : w.grownBy (w.alloc (.cells #[.int .i64 0, .slice none 0 0] 34)) none := (World.grownBy_alloc _ _ _)
          have Bq := (heap_new w (.cells #[.int .i64 0, .slice none 0 0] 34) (w.heap.size) rfl)
          go_enter Try.func13, Try.ntmps13
          obtain ⟨Cq0, Cq1, Fq0, Fq1⟩ := box_cells Bq
          have hG' : w.grownBy (w.alloc (.cells #[.int .i64 0, .slice none 0 0] 34)) none := (World.grownBy_alloc _ _ _)
          have hF : Hid (RetRIntE w (0) 3 (.returned (.tuple #[.agg #[.int .i64 0, .slice none 0 0], .int .i64 3])) (w.alloc (.cells #[.int .i64 0, .slice none 0 0] 34))) := ⟨_, rfl, (RIntV.zero _), hG'⟩
          clear hG' 
          go_wp2_with fail
          exact bodyPost_ret (v := .tuple #[.agg #[.int .i64 0, .slice none 0 0], .int .i64 3]) (by simp [results, Try.results13, go_sem]) rfl hF.out
        · skip
          have HW := Lib.hid hw9
          have HX := Lib.hid hx9
          clear hw9 hx9
          obtain ⟨x0, ex0⟩ : ∃ x, (s[0]'hp9).toNat = x := ⟨_, rfl⟩
          have HX2 : Hid (1 < s.size → x0 ≠ 48) := fun h => by rw [← ex0]; exact HX.out hp9 h
          have EX0 := Lib.hid ex0
          clear ex0
          clear HX
          by_cases hx0 : x0 = 48
          · skip
            subst hx0
            have h1 : s.size ≤ 1 := by have := HX2.out; omega
            clear HX2
            have g0 : ((s.size : Int) == 0) = false := beq_eq_false_iff_ne.2 (by omega)
            have g1 : decide ((1 : Int) < (s.size : Int)) = false := decide_eq_false (by omega)
            have ex : (s[0]'hp9).toNat = 48 := EX0.out
            clear h1
            have hG : w.grownBy (w.alloc (.cells #[.int .i64 0, .slice none 0 0] 34)) none := (World.grownBy_alloc _ _ _)
            have Bq := (heap_new w (.cells #[.int .i64 0, .slice none 0 0] 34) (w.heap.size) rfl)
            go_enter Try.func13, Try.ntmps13
            obtain ⟨Cq0, Cq1, Fq0, Fq1⟩ := box_cells Bq
            go_upto_region 8 with fail
            go_wp2_with fail
            generalize (w.alloc (.cells #[.int .i64 0, .slice none 0 0] 34)) = w0 at *
            have hb4 : s.size ≤ 4097 := HB4.out
            go_loopw [6] (fun i wr => ∃ k : Nat, k ≤ s.size ∧ i = .int .i64 k ∧ w0 = wr ∧ Hid (∀ j (h : j < s.size), j < k → 48 ≤ (s[j]'h).toNat ∧ (s[j]'h).toNat ≤ 57)) (fun i _ => s.size - (intOf i).toNat)
            case atStart => exact ⟨0, Nat.zero_le _, rfl, rfl, fun j h h0 => absurd h0 (by omega)⟩
            case round =>
              obtain ⟨k, hk, rfl, rfl, hd⟩ := hrel
              by_cases hlt : k < s.size
              · skip
                obtain ⟨y, ey⟩ : ∃ y, (s[k]'hlt).toNat = y := ⟨_, rfl⟩
                by_cases hy : 48 ≤ y ∧ y ≤ 57
                · skip
                  have f5 : decide ((y : Int) < 48) = false := decide_eq_false (by omega)
                  have f6 : decide ((57 : Int) < (y : Int)) = false := decide_eq_false (by omega)
                  go_wp2_with fail
                  go_roundw
                  case rel =>
                    refine ⟨k + 1, by omega, by go_num, by trivial, fun j h hj => ?_⟩
                    rcases Nat.lt_or_ge j k with h1 | h1
                    · exact hd.out j h h1
                    · obtain rfl : j = k := by omega
                      rw [ey]; exact hy
                  case measure => simp [intOf]; omega
                · skip
                  have hF : Hid (∀ u v, RetRIntE w 0 3 (.returned (.tuple #[.agg #[.int .i64 0, .slice none 0 0], .int .i64 3])) ((w0.setCell ⟨w.heap.size, 0, none⟩ u).setCell ⟨w.heap.size, 1, none⟩ v)) := fun u v => ⟨_, rfl, RIntV.zero _, grown_two hG (Nat.le_refl _) u v⟩
                  obtain ⟨q90, q91, q92, q93⟩ := box_cells (heap_set2 Bq (.int .i64 0) (.slice none 0 0))
                  go_wp2_with fail
                  all_goals first | exact bodyPost_ret (v := .tuple #[.agg #[.int .i64 0, .slice none 0 0], .int .i64 3]) (by simp [results, Try.results13, go_sem, q90, q91]) rfl (hF.out _ _) | (exfalso; omega)
              · skip
                obtain rfl : k = s.size := by omega
                exact absurd hd.out HW.out
          · skip
            have g2 : ((x0 : Int) == 48) = false := beq_eq_false_iff_ne.2 (by omega)
            clear hx0 HX2
            have ex : (s[0]'hp9).toNat = x0 := EX0.out
            have g0 : ((s.size : Int) == 0) = false := beq_eq_false_iff_ne.2 (by omega)
            have hG : w.grownBy (w.alloc (.cells #[.int .i64 0, .slice none 0 0] 34)) none := (World.grownBy_alloc _ _ _)
            have Bq := (heap_new w (.cells #[.int .i64 0, .slice none 0 0] 34) (w.heap.size) rfl)
            go_enter Try.func13, Try.ntmps13
            obtain ⟨Cq0, Cq1, Fq0, Fq1⟩ := box_cells Bq
            go_upto_region 8 with fail
            go_wp2_with fail
            generalize (w.alloc (.cells #[.int .i64 0, .slice none 0 0] 34)) = w0 at *
            have hb4 : s.size ≤ 4097 := HB4.out
            go_loopw [6] (fun i wr => ∃ k : Nat, k ≤ s.size ∧ i = .int .i64 k ∧ w0 = wr ∧ Hid (∀ j (h : j < s.size), j < k → 48 ≤ (s[j]'h).toNat ∧ (s[j]'h).toNat ≤ 57)) (fun i _ => s.size - (intOf i).toNat)
            case atStart => exact ⟨0, Nat.zero_le _, rfl, rfl, fun j h h0 => absurd h0 (by omega)⟩
            case round =>
              obtain ⟨k, hk, rfl, rfl, hd⟩ := hrel
              by_cases hlt : k < s.size
              · skip
                obtain ⟨y, ey⟩ : ∃ y, (s[k]'hlt).toNat = y := ⟨_, rfl⟩
                by_cases hy : 48 ≤ y ∧ y ≤ 57
                · skip
                  have f5 : decide ((y : Int) < 48) = false := decide_eq_false (by omega)
                  have f6 : decide ((57 : Int) < (y : Int)) = false := decide_eq_false (by omega)
                  go_wp2_with fail
                  go_roundw
                  case rel =>
                    refine ⟨k + 1, by omega, by go_num, by trivial, fun j h hj => ?_⟩
                    rcases Nat.lt_or_ge j k with h1 | h1
                    · exact hd.out j h h1
                    · obtain rfl : j = k := by omega
                      rw [ey]; exact hy
                  case measure => simp [intOf]; omega
                · skip
                  have hF : Hid (∀ u v, RetRIntE w 0 3 (.returned (.tuple #[.agg #[.int .i64 0, .slice none 0 0], .int .i64 3])) ((w0.setCell ⟨w.heap.size, 0, none⟩ u).setCell ⟨w.heap.size, 1, none⟩ v)) := fun u v => ⟨_, rfl, RIntV.zero _, grown_two hG (Nat.le_refl _) u v⟩
                  obtain ⟨q90, q91, q92, q93⟩ := box_cells (heap_set2 Bq (.int .i64 0) (.slice none 0 0))
                  go_wp2_with fail
                  all_goals first | exact bodyPost_ret (v := .tuple #[.agg #[.int .i64 0, .slice none 0 0], .int .i64 3]) (by simp [results, Try.results13, go_sem, q90, q91]) rfl (hF.out _ _) | (exfalso; omega)
              · skip
                obtain rfl : k = s.size := by omega
                exact absurd hd.out HW.out
  · skip
    have hp : 0 < s.size := by
      rcases Nat.eq_zero_or_pos s.size with h | h
      · have : bts s = [] := List.length_eq_zero_iff.1 (by rw [bts_len]; exact h)
        rw [this] at hn; cases hn
      · exact h
    have f2 : decide (0 < s.size) = true := decide_eq_true hp
    have f3 : decide ((0 : Int) < (s.size : Int)) = true := decide_eq_true (by omega)
    have ex : (s[0]'hp).toNat = 45 := by
      unfold zneg at hn
      rw [bts_head s hp] at hn
      simpa using hn
    have hbt : bts (s.extract 1 s.size) = zdig (bts s) := by rw [bts_extract, zdig_neg hn, List.drop_one]
    have htz : (s.extract 1 s.size).size ≤ 4096 := by rw [ByteArray.size_extract]; omega
    have HB4 : Hid ((s.extract 1 s.size).size ≤ 4097) := Lib.hid (Nat.le_trans htz (by omega))
    by_cases hd : DecL (bts (s.extract 1 s.size))
    · skip
      obtain ⟨m, hm⟩ : ∃ m, dval (bts (s.extract 1 s.size)) = m := ⟨_, rfl⟩
      obtain ⟨hp9, hx9, hw9⟩ := dec_how hd
      have HX := Lib.hid hx9
      have HW := Lib.hid hw9
      clear hw9 hx9
      rcases Nat.eq_zero_or_pos m with h6 | h6
      · skip
        subst h6
        obtain ⟨e1, e2⟩ := zc_form hs (fun h => ((zok_iff _).1 h).2 ⟨hn, by rw [← hbt]; exact hm⟩)
        rw [e1, e2]
        clear e1 e2 hbt hs htz hn
        have e48 : bts (s.extract 1 s.size) = [48] := dec_uniqL hd (dec_of (by decide +kernel)) (hm.trans (by decide +kernel))
        have ex9 : ((s.extract 1 s.size)[0]'hp9).toNat = 48 := by
          have := bts_head (s.extract 1 s.size) hp9
          rw [e48] at this; exact (Option.some.inj this).symm
        have h1 : (s.extract 1 s.size).size ≤ 1 := by have := bts_len (s.extract 1 s.size); rw [e48] at this; simp only [List.length_cons, List.length_nil] at this; omega
        clear hd hm e48 HX HW
        have EX9 := Lib.hid ex9
        have H1 := Lib.hid h1
        clear ex9 h1
        have hG : w.grownBy (w.alloc (.cells #[.int .i64 0, .slice none 0 0] 34)) none := (World.grownBy_alloc _ _ _)
        have Bq := (heap_new w (.cells #[.int .i64 0, .slice none 0 0] 34) (w.heap.size) rfl)
        go_enter Try.func13, Try.ntmps13
        obtain ⟨Cq0, Cq1, Fq0, Fq1⟩ := box_cells Bq
        go_upto_region 8 with fail
        generalize s.extract 1 s.size = t at *
        have h1 := H1.out
        have g0 : ((t.size : Int) == 0) = false := beq_eq_false_iff_ne.2 (by omega)
        have g1 : decide ((1 : Int) < (t.size : Int)) = false := decide_eq_false (by omega)
        have ex9 : (t[0]'hp9).toNat = 48 := EX9.out
        have hG' : w.grownBy (w.alloc (.cells #[.int .i64 0, .slice none 0 0] 34)) none := (World.grownBy_alloc _ _ _)
        have hF : Hid (RetRIntE w (0) 3 (.returned (.tuple #[.agg #[.int .i64 0, .slice none 0 0], .int .i64 3])) (w.alloc (.cells #[.int .i64 0, .slice none 0 0] 34))) := ⟨_, rfl, (RIntV.zero _), hG'⟩
        clear hG' 
        go_wp2_with fail
        exact bodyPost_ret (v := .tuple #[.agg #[.int .i64 0, .slice none 0 0], .int .i64 3]) (by simp [results, Try.results13, go_sem]) rfl hF.out
      · skip
        have hok : zok (bts s) = true := (zok_iff _).2 ⟨by rw [← hbt]; exact hd, by rw [← hbt, hm]; omega⟩
        obtain ⟨e1, e2⟩ := zc_num hs hok (by rw [← hbt, bts_len]; exact htz)
        rw [e1, e2, show znum (bts s) = -(m : Int) from by unfold znum; rw [if_pos hn, ← hbt, hm]]
        clear e1 e2 hbt hs hok hn
        have HD := Lib.hid hd
        have HZ := Lib.hid htz
        have HV := Lib.hid hm
        have HP := Lib.hid h6
        clear hd htz hm h6
        obtain ⟨x0, ex0⟩ : ∃ x, ((s.extract 1 s.size)[0]'hp9).toNat = x := ⟨_, rfl⟩
        have HX2 : Hid (1 < (s.extract 1 s.size).size → x0 ≠ 48) := fun h => by rw [← ex0]; exact HX.out hp9 h
        have EX0 := Lib.hid ex0
        clear ex0
        clear HX
        have hx0 : x0 ≠ 48 := by rw [← EX0.out]; exact dec_one48 hp9 HD.out (by rw [HV.out]; have := HP.out; omega)
        have g2 : ((x0 : Int) == 48) = false := beq_eq_false_iff_ne.2 (by omega)
        clear hx0 HX2
        have hG : w.grownBy (w.alloc (.cells #[.int .i64 0, .slice none 0 0] 34)) none := (World.grownBy_alloc _ _ _)
        have Bq := (heap_new w (.cells #[.int .i64 0, .slice none 0 0] 34) (w.heap.size) rfl)
        go_enter Try.func13, Try.ntmps13
        obtain ⟨Cq0, Cq1, Fq0, Fq1⟩ := box_cells Bq
        go_upto_region 8 with fail
        generalize s.extract 1 s.size = t at *
        have g0 : ((t.size : Int) == 0) = false := beq_eq_false_iff_ne.2 (by omega)
        have ex : (t[0]'hp9).toNat = x0 := EX0.out
        go_wp2_with fail
        generalize (w.alloc (.cells #[.int .i64 0, .slice none 0 0] 34)) = w0 at *
        have hb4 : t.size ≤ 4097 := HB4.out
        go_loopw [6] (fun i wr => ∃ k : Nat, k ≤ t.size ∧ i = .int .i64 k ∧ w0 = wr) (fun i _ => t.size - (intOf i).toNat)
        case atStart => exact ⟨0, Nat.zero_le _, rfl, rfl⟩
        case round =>
          obtain ⟨k, hk, rfl, rfl⟩ := hrel
          by_cases hlt : k < t.size
          · skip
            obtain ⟨y, ey⟩ : ∃ y, (t[k]'hlt).toNat = y := ⟨_, rfl⟩
            have hy : 48 ≤ y ∧ y ≤ 57 := ey ▸ HW.out k hlt hlt
            have f5 : decide ((y : Int) < 48) = false := decide_eq_false (by omega)
            have f6 : decide ((57 : Int) < (y : Int)) = false := decide_eq_false (by omega)
            go_wp2_with fail
            go_roundw
            case rel => exact ⟨k + 1, by omega, by go_num, by trivial⟩
            case measure => simp [intOf]; omega
          · skip
            obtain rfl : k = t.size := by omega
            go_wp2_with fail
            clear Cq0 Fq0 Cq1 Fq1
            refine (rParse_some w0 t HZ.out HD.out).mono ?_
            rintro e w1 ⟨_, rfl, ⟨sn, ln, cn, yn, rfl, hn⟩, gw1⟩
            have mn : RefV w1 (.agg #[.slice sn ln cn]) (dval (bts t)) := ⟨sn, ln, cn, yn, rfl, hn⟩
            replace Bq := heap_kept gw1 Bq
            replace hG := grown_trans hG gw1
            clear gw1
            clear hn
            obtain ⟨Cq0, Cq1, Fq0, Fq1⟩ := box_cells Bq
            have gbw1 := (World.grownBy_alloc w1 (.cells #[.slice sn ln cn] 32) none)
            have Bn := (heap_new w1 (.cells #[.slice sn ln cn] 32) (w1.heap.size) rfl)
            have hzw1 : Hid (w.heap.size ≤ w1.heap.size) := Lib.hid hG.size
            have hlqw1 : Hid (w.heap.size < w1.heap.size) := Lib.hid (Array.getElem?_eq_some_iff.1 Bq).1
            clear Cq0 Fq0 Cq1 Fq1
            replace Bq := heap_kept gbw1 Bq
            replace mn := mn.kept gbw1
            replace hG := grown_trans hG gbw1
            clear gbw1
            obtain ⟨Cq0, Cq1, Fq0, Fq1⟩ := box_cells Bq
            obtain ⟨Cn0, Fn0⟩ := box_cell Bn
            go_wp2_with fail
            generalize (w1.alloc (.cells #[.slice sn ln cn] 32)) = w2 at *
            generalize w1.heap.size = aw1 at *
            replace hzw1 := hzw1.out
            replace hlqw1 := hlqw1.out
            clear Cq0 Fq0 Cq1 Fq1 Cn0 Fn0
            refine (rMade_any w2 _ (-1) (dval (bts t)) (-(m : Int)) mn (by rw [HV.out]; omega) (Or.inr (Int.sign_eq_neg_one_of_neg (by have := HP.out; omega)))).mono ?_
            rintro e w3 ⟨_, rfl, ⟨gd, sd, ld, cd, rfl, hd, md⟩, gw3⟩
            have rd : RIntV w3 (.agg #[.int .i64 gd, .slice sd ld cd]) (-(m : Int)) := ⟨gd, sd, ld, cd, rfl, hd, md⟩
            replace Bq := heap_kept gw3 Bq
            replace Bn := heap_kept gw3 Bn
            replace mn := mn.kept gw3
            replace hG := grown_trans hG gw3
            clear gw3
            clear md
            obtain ⟨Cq0, Cq1, Fq0, Fq1⟩ := box_cells Bq
            obtain ⟨Cn0, Fn0⟩ := box_cell Bn
            clear Cq0 Fq0 Cq1 Fq1 Cn0 Fn0
            obtain ⟨k90, k91, k92, k93⟩ := box_cells Bq
            obtain ⟨q90, q91, q92, q93⟩ := box_cells (heap_set2 Bq (.int .i64 gd) (.slice sd ld cd))
            have hF : Hid (RetRIntE w (-(m : Int)) 0 (.returned (.tuple #[.agg #[.int .i64 gd, .slice sd ld cd], .int .i64 0])) ((w3.setCell ⟨w.heap.size, 0, none⟩ (.int .i64 gd)).setCell ⟨w.heap.size, 1, none⟩ (.slice sd ld cd))) := ret_rintvE hG Bq (by omega) rd
            clear mn rd
            obtain ⟨Cn0, Fn0⟩ := box_cell Bn
            go_wp2_with fail
            exact bodyPost_ret (v := .tuple #[.agg #[.int .i64 gd, .slice sd ld cd], .int .i64 0]) (by simp [results, Try.results13, go_sem, q90, q91]) rfl hF.out
    · skip
      obtain ⟨e1, e2⟩ := zc_form hs (fun h => hd (by rw [hbt]; exact ((zok_iff _).1 h).1))
      rw [e1, e2]
      clear e1 e2 hbt hs htz hn
      have HD := Lib.hid hd
      clear hd
      rcases dec_why HD.out with h9 | ⟨hp9, ex9, h9⟩ | ⟨hp9, hx9, hw9⟩
      · skip
        have H9 := Lib.hid h9
        clear h9
        have hG : w.grownBy (w.alloc (.cells #[.int .i64 0, .slice none 0 0] 34)) none := (World.grownBy_alloc _ _ _)
        have Bq := (heap_new w (.cells #[.int .i64 0, .slice none 0 0] 34) (w.heap.size) rfl)
        go_enter Try.func13, Try.ntmps13
        obtain ⟨Cq0, Cq1, Fq0, Fq1⟩ := box_cells Bq
        go_upto_region 8 with fail
        generalize s.extract 1 s.size = t at *
        have g0 : ((t.size : Int) == 0) = true := by rw [H9.out]; rfl
        have hG' : w.grownBy (w.alloc (.cells #[.int .i64 0, .slice none 0 0] 34)) none := (World.grownBy_alloc _ _ _)
        have hF : Hid (RetRIntE w (0) 3 (.returned (.tuple #[.agg #[.int .i64 0, .slice none 0 0], .int .i64 3])) (w.alloc (.cells #[.int .i64 0, .slice none 0 0] 34))) := ⟨_, rfl, (RIntV.zero _), hG'⟩
        clear hG' 
        go_wp2_with fail
        exact bodyPost_ret (v := .tuple #[.agg #[.int .i64 0, .slice none 0 0], .int .i64 3]) (by simp [results, Try.results13, go_sem]) rfl hF.out
      · skip
        have H9 := Lib.hid h9
        have EX9 := Lib.hid ex9
        clear h9 ex9
        have hG : w.grownBy (w.alloc (.cells #[.int .i64 0, .slice none 0 0] 34)) none := (World.grownBy_alloc _ _ _)
        have Bq := (heap_new w (.cells #[.int .i64 0, .slice none 0 0] 34) (w.heap.size) rfl)
        go_enter Try.func13, Try.ntmps13
        obtain ⟨Cq0, Cq1, Fq0, Fq1⟩ := box_cells Bq
        go_upto_region 8 with fail
        generalize s.extract 1 s.size = t at *
        have h9 := H9.out
        have g0 : ((t.size : Int) == 0) = false := beq_eq_false_iff_ne.2 (by omega)
        have g1 : decide ((1 : Int) < (t.size : Int)) = true := decide_eq_true (by omega)
        have ex : (t[0]'hp9).toNat = 48 := EX9.out
        have hG' : w.grownBy (w.alloc (.cells #[.int .i64 0, .slice none 0 0] 34)) none := (World.grownBy_alloc _ _ _)
        have hF : Hid (RetRIntE w (0) 3 (.returned (.tuple #[.agg #[.int .i64 0, .slice none 0 0], .int .i64 3])) (w.alloc (.cells #[.int .i64 0, .slice none 0 0] 34))) := ⟨_, rfl, (RIntV.zero _), hG'⟩
        clear hG' 
        go_wp2_with fail
        exact bodyPost_ret (v := .tuple #[.agg #[.int .i64 0, .slice none 0 0], .int .i64 3]) (by simp [results, Try.results13, go_sem]) rfl hF.out
      · skip
        have HW := Lib.hid hw9
        have HX := Lib.hid hx9
        clear hw9 hx9
        obtain ⟨x0, ex0⟩ : ∃ x, ((s.extract 1 s.size)[0]'hp9).toNat = x := ⟨_, rfl⟩
        have HX2 : Hid (1 < (s.extract 1 s.size).size → x0 ≠ 48) := fun h => by rw [← ex0]; exact HX.out hp9 h
        have EX0 := Lib.hid ex0
        clear ex0
        clear HX
        by_cases hx0 : x0 = 48
        · skip
          subst hx0
          have H1 : Hid ((s.extract 1 s.size).size ≤ 1) := by show _ ≤ 1; have := HX2.out; omega
          clear HX2
          have hG : w.grownBy (w.alloc (.cells #[.int .i64 0, .slice none 0 0] 34)) none := (World.grownBy_alloc _ _ _)
          have Bq := (heap_new w (.cells #[.int .i64 0, .slice none 0 0] 34) (w.heap.size) rfl)
          go_enter Try.func13, Try.ntmps13
          obtain ⟨Cq0, Cq1, Fq0, Fq1⟩ := box_cells Bq
          go_upto_region 8 with fail
          generalize s.extract 1 s.size = t at *
          have h1 := H1.out
          have g0 : ((t.size : Int) == 0) = false := beq_eq_false_iff_ne.2 (by omega)
          have g1 : decide ((1 : Int) < (t.size : Int)) = false := decide_eq_false (by omega)
          have ex : (t[0]'hp9).toNat = 48 := EX0.out
          have hG' : w.grownBy (w.alloc (.cells #[.int .i64 0, .slice none 0 0] 34)) none := (World.grownBy_alloc _ _ _)
          have hF : Hid (RetRIntE w (0) 3 (.returned (.tuple #[.agg #[.int .i64 0, .slice none 0 0], .int .i64 3])) (w.alloc (.cells #[.int .i64 0, .slice none 0 0] 34))) := ⟨_, rfl, (RIntV.zero _), hG'⟩
          clear hG' 
          go_wp2_with fail
          exact bodyPost_ret (v := .tuple #[.agg #[.int .i64 0, .slice none 0 0], .int .i64 3]) (by simp [results, Try.results13, go_sem]) rfl hF.out
        · skip
          have g2 : ((x0 : Int) == 48) = false := beq_eq_false_iff_ne.2 (by omega)
          clear hx0 HX2
          have hG : w.grownBy (w.alloc (.cells #[.int .i64 0, .slice none 0 0] 34)) none := (World.grownBy_alloc _ _ _)
          have Bq := (heap_new w (.cells #[.int .i64 0, .slice none 0 0] 34) (w.heap.size) rfl)
          go_enter Try.func13, Try.ntmps13
          obtain ⟨Cq0, Cq1, Fq0, Fq1⟩ := box_cells Bq
          go_upto_region 8 with fail
          generalize s.extract 1 s.size = t at *
          have g0 : ((t.size : Int) == 0) = false := beq_eq_false_iff_ne.2 (by omega)
          have ex : (t[0]'hp9).toNat = x0 := EX0.out
          go_wp2_with fail
          generalize (w.alloc (.cells #[.int .i64 0, .slice none 0 0] 34)) = w0 at *
          have hb4 : t.size ≤ 4097 := HB4.out
          go_loopw [6] (fun i wr => ∃ k : Nat, k ≤ t.size ∧ i = .int .i64 k ∧ w0 = wr ∧ Hid (∀ j (h : j < t.size), j < k → 48 ≤ (t[j]'h).toNat ∧ (t[j]'h).toNat ≤ 57)) (fun i _ => t.size - (intOf i).toNat)
          case atStart => exact ⟨0, Nat.zero_le _, rfl, rfl, fun j h h0 => absurd h0 (by omega)⟩
          case round =>
            obtain ⟨k, hk, rfl, rfl, hd⟩ := hrel
            by_cases hlt : k < t.size
            · skip
              obtain ⟨y, ey⟩ : ∃ y, (t[k]'hlt).toNat = y := ⟨_, rfl⟩
              by_cases hy : 48 ≤ y ∧ y ≤ 57
              · skip
                have f5 : decide ((y : Int) < 48) = false := decide_eq_false (by omega)
                have f6 : decide ((57 : Int) < (y : Int)) = false := decide_eq_false (by omega)
                go_wp2_with fail
                go_roundw
                case rel =>
                  refine ⟨k + 1, by omega, by go_num, by trivial, fun j h hj => ?_⟩
                  rcases Nat.lt_or_ge j k with h1 | h1
                  · exact hd.out j h h1
                  · obtain rfl : j = k := by omega
                    rw [ey]; exact hy
                case measure => simp [intOf]; omega
              · skip
                have hF : Hid (∀ u v, RetRIntE w 0 3 (.returned (.tuple #[.agg #[.int .i64 0, .slice none 0 0], .int .i64 3])) ((w0.setCell ⟨w.heap.size, 0, none⟩ u).setCell ⟨w.heap.size, 1, none⟩ v)) := fun u v => ⟨_, rfl, RIntV.zero _, grown_two hG (Nat.le_refl _) u v⟩
                obtain ⟨q90, q91, q92, q93⟩ := box_cells (heap_set2 Bq (.int .i64 0) (.slice none 0 0))
                go_wp2_with fail
                all_goals first | exact bodyPost_ret (v := .tuple #[.agg #[.int .i64 0, .slice none 0 0], .int .i64 3]) (by simp [results, Try.results13, go_sem, q90, q91]) rfl (hF.out _ _) | (exfalso; omega)
            · skip
              obtain rfl : k = t.size := by omega
              exact absurd hd.out HW.out
end Go.Proofs.Ytljfhiikoimdiaa
