/- RecordSplits: the law's walk. -/
import Derived.Test.YteienakimdpfhaaKKnown
import Derived.Test.YteienakimdpfhaaKRSplit
import Derived.Deep.Light
namespace Go.Proofs.Yteienakimdpfhaa
open Go.RowKit
set_option maxRecDepth 100000
set_option linter.unusedVariables false
set_option linter.unusedSimpArgs false

/-- A block of bytes, whatever they are. -/
def U8 (W : World) (g ln : Nat) : Prop := ∃ cs, W.heap[g]? = some (.cells cs 5 (0, 0)) ∧ ∀ j, j < ln → ∃ x : Nat, x < 256 ∧ cs[j]? = some (.int .u8 (x : Int))
theorem U8.of {W : World} {g : Nat} {l : List Nat} (h : ByBlk W g l) : U8 W g l.length := by
  obtain ⟨⟨cs, h1, h2⟩, h3⟩ := h
  exact ⟨cs, h1, fun j hj => ⟨l[j], h3 _ (List.getElem_mem _), h2 j hj⟩⟩
theorem U8.kept {W W' : World} {g ln : Nat} (h : U8 W g ln) (hg : W.grownBy W' none) : U8 W' g ln := by
  obtain ⟨cs, h1, h2⟩ := h
  exact ⟨cs, heap_kept hg h1, h2⟩
theorem U8.set {W : World} {g ln k o y : Nat} (h : U8 W g ln) (hy : y < 256) : U8 (W.setCell ⟨k, o, none⟩ (.int .u8 (y : Int))) g ln := by
  obtain ⟨cs, h1, h2⟩ := h
  by_cases hk : g = k
  · subst hk
    refine ⟨cs.setIfInBounds o (.int .u8 (y : Int)), by simp [World.setCell, Array.getElem?_modify, h1], fun j hj => ?_⟩
    obtain ⟨x, hx, hc⟩ := h2 j hj
    by_cases ho : o = j
    · subst ho
      exact ⟨y, hy, Array.getElem?_setIfInBounds_self_of_lt (Array.getElem?_eq_some_iff.1 hc).1⟩
    · exact ⟨x, hx, by rw [Array.getElem?_setIfInBounds_ne ho]; exact hc⟩
  · exact ⟨cs, heap_unset h1 hk _, h2⟩
/-- A row of records whose bodies lie from base on. -/
def Bodies (W : World) (base ga rn : Nat) (cur : Array Value) : Prop := W.heap[ga]? = some (.cells cur 24 (0, 0)) ∧ ∀ i, i < rn → ∃ g ln cb, cur[i * 3 + 2]? = some (.slice (some ⟨g, 0, none⟩) ln cb) ∧ base ≤ g ∧ U8 W g ln ∧ ln ≤ cb ∧ cb ≤ 9223372036854775807
theorem Bodies.set {W : World} {base ga rn g ln o y : Nat} {cur : Array Value} (h : Bodies W base ga rn cur) (hg : U8 W g ln) (hy : y < 256) : Bodies (W.setCell ⟨g, o, none⟩ (.int .u8 (y : Int))) base ga rn cur := by
  refine ⟨heap_unset h.1 (fun e => ?_) _, fun i hi => ?_⟩
  · subst e; obtain ⟨cs, h1, _⟩ := hg; have := h.1; rw [h1] at this; cases this
  · obtain ⟨g', ln', cb, a1, a2, a3, a4⟩ := h.2 i hi
    exact ⟨g', ln', cb, a1, a2, a3.set hy, a4⟩
theorem Bodies.kept {W W' : World} {base ga rn : Nat} {cur : Array Value} (h : Bodies W base ga rn cur) (hg : W.grownBy W' none) : Bodies W' base ga rn cur :=
  ⟨heap_kept hg h.1, fun i hi => by
    obtain ⟨g', ln', cb, a1, a2, a3, a4⟩ := h.2 i hi
    exact ⟨g', ln', cb, a1, a2, a3.kept hg, a4⟩⟩
theorem OwnR.bodies {W : World} {base n : Nat} {v : Value} {rs : List KRec} (h : OwnR W base v n rs) (h0 : 0 < n) : ∃ ga cv cur, v = .slice (some ⟨ga, 0, none⟩) n cv ∧ Bodies W base ga n cur := by
  obtain ⟨xs, ⟨hx, h1⟩, h2, h3, h4⟩ := h
  rcases h1 with ⟨_, rfl⟩ | ⟨g, cap, cur, rfl, hg, hb, hc, hm, hs, ht⟩
  · omega
  · refine ⟨g, cap, cur, rfl, hb, fun i hi => ?_⟩
    obtain ⟨g', cb, a1, a2, a3, a4, a5, a6, a7⟩ := h4 i (by omega)
    refine ⟨g', _, cb, ?_, a4, U8.of a5, a6, a7⟩
    rw [← ht, List.getElem?_take_of_lt (by omega)] at a3
    simpa using a3
theorem xor255 (x : Nat) (hx : x < 256) : bits .xor .u8 (x : Int) 255 = ((x ^^^ 255 : Nat) : Int) := by
  have := u8_xor_nat x 255 hx (by omega)
  rwa [show ((255 : Nat) : Int) = 255 from rfl] at this
theorem xor255_lt (x : Nat) (hx : x < 256) : x ^^^ 255 < 256 := Nat.xor_lt_two_pow (n := 8) hx (by omega)
set_option maxHeartbeats 32000000 in
theorem recordSplits_walk (w : World) (s : Option Addr) (n cap : Nat) (l : List Nat) (hn : l.length = n) (hl : BySl w s l) (hz : s = none → n = 0 ∧ cap = 0) (hc : n ≤ cap) (hm : cap ≤ 9223372036854775807) :
    Calls Try.prog 4 #[.slice s n cap] w (RetYes w) := by
  by_cases hbig : 400000 < n
  · have q1 : decide ((400000 : Int) < (n : Int)) = true := decide_eq_true (by omega)
    obtain ⟨ll, hlv⟩ : ∃ y, l.take 400000 = y := ⟨_, rfl⟩
    have hln : ll.length = 400000 := by rw [← hlv, List.length_take]; omega
    have hll : BySl w s ll := by rw [← hlv]; exact hl.take _
    have HZ : Hid (s = none → 400000 = 0 ∧ cap = 0) := Lib.hid (fun e => by have := hz e; omega)
    have i1 : (400000 : Int) ≤ (cap : Int) := by omega
    clear hl hlv hn hz
    go_enter Try.func4, Try.ntmps4
    go_wp2_with fail
    refine (Copied_any w s 400000 cap ll hln hll HZ.out (by omega)).mono ?_
    rintro e w1 ⟨gc, cc, rfl, hbc, hgc, hcc, hmc, hg1⟩
    rw [hln] at hcc
    have HB1 := Lib.hid (hll.kept hg1)
    have HG1 := Lib.hid hg1
    have HC1 := Lib.hid hbc.sl
    clear hll hg1 hbc hgc
    go_wp2_with fail
    refine (Split_any w1 _ 400000 cc ll hln HC1.out hcc hmc (by omega)).mono ?_
    obtain ⟨⟨c0, rs, kk⟩, hx⟩ : ∃ x, splitD ll = x := ⟨_, rfl⟩
    rw [hx]
    have HX := Lib.hid hx
    clear hx
    rintro e w2 ⟨v, rfl, I2, hg2⟩
    dsimp only at I2
    have HB2 := Lib.hid (HB1.out.kept hg2)
    have HC2 := Lib.hid (HC1.out.kept hg2)
    have HG2 := Lib.hid hg2
    obtain ⟨sv, cv, rfl⟩ := I2.shape
    clear hg2
    go_wp2_with fail
    refine (RSplit_any w2 s 400000 cap ll hln HB2.out (by omega) hm (by omega)).mono ?_
    rw [HX.out]
    rintro e w3 ⟨v, rfl, I3, hg3⟩
    dsimp only at I3
    obtain ⟨s3, c3, rfl⟩ := I3.shape
    have HI2 := Lib.hid (I2.kept hg3)
    have HI3 := Lib.hid I3
    have HG3 := Lib.hid (grown_trans HG2.out hg3)
    clear I2 I3 hg3
    have z1 : ((c0 : Int) != (c0 : Int)) = false := by simp
    have z2 : ((kk : Int) != (kk : Int)) = false := by simp
    go_wp2_with fail
    refine (Known_any w3).mono ?_
    rintro e w4 ⟨rfl, hg4⟩
    have HG4 := Lib.hid (grown_trans HG3.out hg4)
    have HI4 := Lib.hid (HI2.out.kept hg4)
    have HJ4 := Lib.hid (HI3.out.kept hg4)
    clear hg4
    go_wp2_with fail
    have hrb : rs.length ≤ 9223372036854775807 := by
      have := HI4.out
      obtain ⟨xs, ⟨_, ⟨_, e⟩ | ⟨_, _, _, _, _, _, h1, h2, _⟩⟩, _⟩ := this
      · omega
      · unfold maxLen at h2; omega
    refine (LSame_any w4 sv s3 rs.length cv c3 rs rfl HI4.out.sl HJ4.out.sl hrb).mono ?_
    rintro e w5 ⟨rfl, hg5⟩
    have HG5 := Lib.hid (grown_trans HG4.out hg5)
    have HI5 := Lib.hid (HI4.out.kept hg5)
    clear hg5
    have k1 := conv_by w5 s 400000 cap ll hln (HB1.out.kept HG5.out)
    have k2 := conv_by w5 _ 400000 cc ll hln (HC1.out.kept HG5.out)
    go_wp2_with (simp only [k1, k2])
    obtain ⟨ga, cur, HBod⟩ : ∃ ga cur, Hid (0 < rs.length → sv = some ⟨ga, 0, none⟩ ∧ Bodies w5 w1.heap.size ga rs.length cur) := by
      rcases Nat.eq_zero_or_pos rs.length with h0 | h0
      · exact ⟨0, #[], Lib.hid (fun h => by omega)⟩
      · obtain ⟨ga, cv', cur, e, hB⟩ := OwnR.bodies HI5.out h0
        cases e
        exact ⟨ga, cur, Lib.hid (fun _ => ⟨rfl, hB⟩)⟩
    have HC1g := Lib.hid (grown_trans HG1.out HG5.out)
    clear HI4 HJ4 HI2 HI3 HG3 HG4 HB2 HC2 HG2 HI5
    clear k1 k2
    go_loopg [10] rs.length (fun gh i wr => ∃ k : Nat, k ≤ rs.length ∧ rs.length - k ≤ gh ∧ i = .int .i64 (k : Int) ∧ w.grownBy wr none ∧ w1.grownBy wr none ∧ (0 < rs.length → Bodies wr w1.heap.size ga rs.length cur))
    case atStart => exact ⟨0, Nat.zero_le _, Nat.le_refl _, rfl, HC1g.out, HG5.out, fun h => (HBod.out h).2⟩
    case round =>
      obtain ⟨k, hk, hgh, rfl, hGw, hG1, hB⟩ := hrel
      have HGw := Lib.hid hGw
      have HGr := Lib.hid hG1
      have HBr := Lib.hid hB
      clear hGw hG1 hB
      by_cases hlt : k < rs.length
      · have f1 : decide ((k : Int) < (rs.length : Int)) = true := decide_eq_true (by omega)
        obtain ⟨rfl, _⟩ := HBod.out (by omega)
        obtain ⟨a, ha⟩ : ∃ a : Addr, a = ⟨ga, 0, none⟩ := ⟨_, rfl⟩
        rw [← ha]
        obtain ⟨q, hq⟩ : ∃ q : Addr, a.add (k * 3) = q := ⟨_, rfl⟩
        have hqe : q = ⟨ga, k * 3, none⟩ := by rw [← hq, ha]; unfold Addr.add; split <;> simp_all
        obtain ⟨g, ln, cb, A1, A2, A3, A4, A5⟩ := (HBr.out (by omega)).2 k hlt
        have HA1 := Lib.hid A1
        have HA2 := Lib.hid A2
        have HA := Lib.hid ha
        have HQ := Lib.hid hqe
        obtain ⟨b, hb⟩ : ∃ b : Addr, b = ⟨g, 0, none⟩ := ⟨_, rfl⟩
        have HBE := Lib.hid hb
        have hcell : ∀ W : World, Bodies W w1.heap.size ga rs.length cur → W.cell? ⟨q.block, q.off + 2, none⟩ = some (.slice (some b) ln cb) := fun W hW => by
          rw [hqe, hb]; simp [World.cell?, hW.1, HA1.out]
        have HC := Lib.hid hcell
        have hu8 : ∀ W : World, Bodies W w1.heap.size ga rs.length cur → U8 W g ln := fun W hW => by
          obtain ⟨g', ln', cb', a1, a2, a3, a4, a5⟩ := hW.2 k hlt
          have := HA1.out
          rw [a1] at this
          cases this
          exact a3
        have HU := Lib.hid hu8
        clear A1 A2 A3 ha hqe hb hcell hu8
        go_wp2_with fail
        go_loopg [11] ln (fun gh2 i wr2 => ∃ j : Nat, j ≤ ln ∧ ln - j ≤ gh2 ∧ i = .int .i64 (j : Int) ∧ w.grownBy wr2 none ∧ w1.grownBy wr2 none ∧ Bodies wr2 w1.heap.size ga rs.length cur)
        case atStart => exact ⟨0, Nat.zero_le _, Nat.le_refl _, rfl, HGw.out, HGr.out, HBr.out (by omega)⟩
        case round =>
          obtain ⟨j, hj, hgh2, rfl, hGw2, hG2, hB2⟩ := hrel
          have C0 := HC.out _ hB2
          have HGw2 := Lib.hid hGw2
          have HGr2 := Lib.hid hG2
          have HBr2 := Lib.hid hB2
          clear hGw2 hG2 hB2
          by_cases hjl : j < ln
          · have f2 : decide ((j : Int) < (ln : Int)) = true := decide_eq_true (by omega)
            obtain ⟨y, hy⟩ : ∃ y : Addr, b.add j = y := ⟨_, rfl⟩
            have hye : y = ⟨g, j, none⟩ := by rw [← hy, HBE.out]; unfold Addr.add; split <;> simp_all
            obtain ⟨x, hx, D0, D1⟩ : ∃ x : Nat, x < 256 ∧ wr.cell? y = some (.int .u8 (x : Int)) ∧ wr.frozen? y = false := by
              obtain ⟨cs, h1, h2⟩ := HU.out _ HBr2.out
              obtain ⟨x, hx, hc⟩ := h2 j hjl
              exact ⟨x, hx, by rw [hye]; simp [World.cell?, h1, hc], by rw [hye]; simp [World.frozen?, h1]⟩
            have HYE := Lib.hid hye
            clear hye
            have hxx := xor255 x hx
            go_wp2_with fail
            go_roundg (ln - (j + 1))
            case measure => omega
            case rel =>
              go_light
              refine ⟨j + 1, by omega, Nat.le_refl _, by go_num, ?_, ?_, ?_⟩
              · rw [HYE.out]; exact grown_put HGw2.out (Nat.le_trans HG1.out.size HA2.out) _ _
              · rw [HYE.out]; exact grown_put HGr2.out HA2.out _ _
              · rw [HYE.out]; exact HBr2.out.set (HU.out _ HBr2.out) (xor255_lt x hx)
          · have f2 : decide ((j : Int) < (ln : Int)) = false := decide_eq_false (by omega)
            go_wp2_with fail
            have eHA := HA.out
            subst eHA
            go_roundg (rs.length - (k + 1))
            case measure => omega
            case rel =>
              go_light
              exact ⟨k + 1, by omega, Nat.le_refl _, by go_num, HGw2.out, HGr2.out, fun _ => HBr2.out⟩
      · have f1 : decide ((k : Int) < (rs.length : Int)) = false := decide_eq_false (by omega)
        have m1 := conv_by wr s 400000 cap ll hln (HB1.out.kept HGr.out)
        have m2 := conv_by wr _ 400000 cc ll hln (HC1.out.kept HGr.out)
        go_wp2_with (simp only [m1, m2])
        go_ret
        exact ⟨rfl, HGw.out⟩
  · have q1 : decide ((400000 : Int) < (n : Int)) = false := decide_eq_false (by omega)
    obtain ⟨ll, hlv⟩ : ∃ y, l = y := ⟨_, rfl⟩
    have hln : ll.length = n := by rw [← hlv]; exact hn
    have hll : BySl w s ll := by rw [← hlv]; exact hl
    have HZ := Lib.hid hz
    clear hl hlv hn hz
    go_enter Try.func4, Try.ntmps4
    go_wp2_with fail
    refine (Copied_any w s n cap ll hln hll HZ.out (by omega)).mono ?_
    rintro e w1 ⟨gc, cc, rfl, hbc, hgc, hcc, hmc, hg1⟩
    rw [hln] at hcc
    have HB1 := Lib.hid (hll.kept hg1)
    have HG1 := Lib.hid hg1
    have HC1 := Lib.hid hbc.sl
    clear hll hg1 hbc hgc
    go_wp2_with fail
    refine (Split_any w1 _ n cc ll hln HC1.out hcc hmc (by omega)).mono ?_
    obtain ⟨⟨c0, rs, kk⟩, hx⟩ : ∃ x, splitD ll = x := ⟨_, rfl⟩
    rw [hx]
    have HX := Lib.hid hx
    clear hx
    rintro e w2 ⟨v, rfl, I2, hg2⟩
    dsimp only at I2
    have HB2 := Lib.hid (HB1.out.kept hg2)
    have HC2 := Lib.hid (HC1.out.kept hg2)
    have HG2 := Lib.hid hg2
    obtain ⟨sv, cv, rfl⟩ := I2.shape
    clear hg2
    go_wp2_with fail
    refine (RSplit_any w2 s n cap ll hln HB2.out (by omega) hm (by omega)).mono ?_
    rw [HX.out]
    rintro e w3 ⟨v, rfl, I3, hg3⟩
    dsimp only at I3
    obtain ⟨s3, c3, rfl⟩ := I3.shape
    have HI2 := Lib.hid (I2.kept hg3)
    have HI3 := Lib.hid I3
    have HG3 := Lib.hid (grown_trans HG2.out hg3)
    clear I2 I3 hg3
    have z1 : ((c0 : Int) != (c0 : Int)) = false := by simp
    have z2 : ((kk : Int) != (kk : Int)) = false := by simp
    go_wp2_with fail
    refine (Known_any w3).mono ?_
    rintro e w4 ⟨rfl, hg4⟩
    have HG4 := Lib.hid (grown_trans HG3.out hg4)
    have HI4 := Lib.hid (HI2.out.kept hg4)
    have HJ4 := Lib.hid (HI3.out.kept hg4)
    clear hg4
    go_wp2_with fail
    have hrb : rs.length ≤ 9223372036854775807 := by
      have := HI4.out
      obtain ⟨xs, ⟨_, ⟨_, e⟩ | ⟨_, _, _, _, _, _, h1, h2, _⟩⟩, _⟩ := this
      · omega
      · unfold maxLen at h2; omega
    refine (LSame_any w4 sv s3 rs.length cv c3 rs rfl HI4.out.sl HJ4.out.sl hrb).mono ?_
    rintro e w5 ⟨rfl, hg5⟩
    have HG5 := Lib.hid (grown_trans HG4.out hg5)
    have HI5 := Lib.hid (HI4.out.kept hg5)
    clear hg5
    have k1 := conv_by w5 s n cap ll hln (HB1.out.kept HG5.out)
    have k2 := conv_by w5 _ n cc ll hln (HC1.out.kept HG5.out)
    go_wp2_with (simp only [k1, k2])
    obtain ⟨ga, cur, HBod⟩ : ∃ ga cur, Hid (0 < rs.length → sv = some ⟨ga, 0, none⟩ ∧ Bodies w5 w1.heap.size ga rs.length cur) := by
      rcases Nat.eq_zero_or_pos rs.length with h0 | h0
      · exact ⟨0, #[], Lib.hid (fun h => by omega)⟩
      · obtain ⟨ga, cv', cur, e, hB⟩ := OwnR.bodies HI5.out h0
        cases e
        exact ⟨ga, cur, Lib.hid (fun _ => ⟨rfl, hB⟩)⟩
    have HC1g := Lib.hid (grown_trans HG1.out HG5.out)
    clear HI4 HJ4 HI2 HI3 HG3 HG4 HB2 HC2 HG2 HI5
    clear k1 k2
    go_loopg [10] rs.length (fun gh i wr => ∃ k : Nat, k ≤ rs.length ∧ rs.length - k ≤ gh ∧ i = .int .i64 (k : Int) ∧ w.grownBy wr none ∧ w1.grownBy wr none ∧ (0 < rs.length → Bodies wr w1.heap.size ga rs.length cur))
    case atStart => exact ⟨0, Nat.zero_le _, Nat.le_refl _, rfl, HC1g.out, HG5.out, fun h => (HBod.out h).2⟩
    case round =>
      obtain ⟨k, hk, hgh, rfl, hGw, hG1, hB⟩ := hrel
      have HGw := Lib.hid hGw
      have HGr := Lib.hid hG1
      have HBr := Lib.hid hB
      clear hGw hG1 hB
      by_cases hlt : k < rs.length
      · have f1 : decide ((k : Int) < (rs.length : Int)) = true := decide_eq_true (by omega)
        obtain ⟨rfl, _⟩ := HBod.out (by omega)
        obtain ⟨a, ha⟩ : ∃ a : Addr, a = ⟨ga, 0, none⟩ := ⟨_, rfl⟩
        rw [← ha]
        obtain ⟨q, hq⟩ : ∃ q : Addr, a.add (k * 3) = q := ⟨_, rfl⟩
        have hqe : q = ⟨ga, k * 3, none⟩ := by rw [← hq, ha]; unfold Addr.add; split <;> simp_all
        obtain ⟨g, ln, cb, A1, A2, A3, A4, A5⟩ := (HBr.out (by omega)).2 k hlt
        have HA1 := Lib.hid A1
        have HA2 := Lib.hid A2
        have HA := Lib.hid ha
        have HQ := Lib.hid hqe
        obtain ⟨b, hb⟩ : ∃ b : Addr, b = ⟨g, 0, none⟩ := ⟨_, rfl⟩
        have HBE := Lib.hid hb
        have hcell : ∀ W : World, Bodies W w1.heap.size ga rs.length cur → W.cell? ⟨q.block, q.off + 2, none⟩ = some (.slice (some b) ln cb) := fun W hW => by
          rw [hqe, hb]; simp [World.cell?, hW.1, HA1.out]
        have HC := Lib.hid hcell
        have hu8 : ∀ W : World, Bodies W w1.heap.size ga rs.length cur → U8 W g ln := fun W hW => by
          obtain ⟨g', ln', cb', a1, a2, a3, a4, a5⟩ := hW.2 k hlt
          have := HA1.out
          rw [a1] at this
          cases this
          exact a3
        have HU := Lib.hid hu8
        clear A1 A2 A3 ha hqe hb hcell hu8
        go_wp2_with fail
        go_loopg [11] ln (fun gh2 i wr2 => ∃ j : Nat, j ≤ ln ∧ ln - j ≤ gh2 ∧ i = .int .i64 (j : Int) ∧ w.grownBy wr2 none ∧ w1.grownBy wr2 none ∧ Bodies wr2 w1.heap.size ga rs.length cur)
        case atStart => exact ⟨0, Nat.zero_le _, Nat.le_refl _, rfl, HGw.out, HGr.out, HBr.out (by omega)⟩
        case round =>
          obtain ⟨j, hj, hgh2, rfl, hGw2, hG2, hB2⟩ := hrel
          have C0 := HC.out _ hB2
          have HGw2 := Lib.hid hGw2
          have HGr2 := Lib.hid hG2
          have HBr2 := Lib.hid hB2
          clear hGw2 hG2 hB2
          by_cases hjl : j < ln
          · have f2 : decide ((j : Int) < (ln : Int)) = true := decide_eq_true (by omega)
            obtain ⟨y, hy⟩ : ∃ y : Addr, b.add j = y := ⟨_, rfl⟩
            have hye : y = ⟨g, j, none⟩ := by rw [← hy, HBE.out]; unfold Addr.add; split <;> simp_all
            obtain ⟨x, hx, D0, D1⟩ : ∃ x : Nat, x < 256 ∧ wr.cell? y = some (.int .u8 (x : Int)) ∧ wr.frozen? y = false := by
              obtain ⟨cs, h1, h2⟩ := HU.out _ HBr2.out
              obtain ⟨x, hx, hc⟩ := h2 j hjl
              exact ⟨x, hx, by rw [hye]; simp [World.cell?, h1, hc], by rw [hye]; simp [World.frozen?, h1]⟩
            have HYE := Lib.hid hye
            clear hye
            have hxx := xor255 x hx
            go_wp2_with fail
            go_roundg (ln - (j + 1))
            case measure => omega
            case rel =>
              go_light
              refine ⟨j + 1, by omega, Nat.le_refl _, by go_num, ?_, ?_, ?_⟩
              · rw [HYE.out]; exact grown_put HGw2.out (Nat.le_trans HG1.out.size HA2.out) _ _
              · rw [HYE.out]; exact grown_put HGr2.out HA2.out _ _
              · rw [HYE.out]; exact HBr2.out.set (HU.out _ HBr2.out) (xor255_lt x hx)
          · have f2 : decide ((j : Int) < (ln : Int)) = false := decide_eq_false (by omega)
            go_wp2_with fail
            have eHA := HA.out
            subst eHA
            go_roundg (rs.length - (k + 1))
            case measure => omega
            case rel =>
              go_light
              exact ⟨k + 1, by omega, Nat.le_refl _, by go_num, HGw2.out, HGr2.out, fun _ => HBr2.out⟩
      · have f1 : decide ((k : Int) < (rs.length : Int)) = false := decide_eq_false (by omega)
        have m1 := conv_by wr s n cap ll hln (HB1.out.kept HGr.out)
        have m2 := conv_by wr _ n cc ll hln (HC1.out.kept HGr.out)
        go_wp2_with (simp only [m1, m2])
        go_ret
        exact ⟨rfl, HGw.out⟩
end Go.Proofs.Yteienakimdpfhaa
