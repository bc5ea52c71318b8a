/- What the laws lean on, part 26. -/
import Derived.Deep.RegionHeld3
import Derived.Deep.CutRange
import Derived.ChangeOld
import Derived.Deep.Strs
import Derived.WideKeyArgs
import Derived.ChangeSlices
import Derived.Test.YtldkddogadmpbaaDoorMa24
import Derived.Test.YtldkddogadmpbaaDoorMa25
import Derived.Test.YtldkddogadmpbaaDoorMa21
import Derived.Test.YtldkddogadmpbaaDoorMa13
namespace Go.Proofs.YtldkddogadmpbaaDoor
open Go.RowKit Mat
set_option maxRecDepth 100000
set_option linter.unusedVariables false
set_option linter.unusedSimpArgs false
theorem RIntV.nat {w : World} {g : Int} {s : Option Addr} {l c : Nat} {z : Int} (h : RIntV w (.agg #[.int .i64 g, .slice s l c]) z) : RefV w (.agg #[.slice s l c]) z.natAbs ∧ Hid (g = z.sign) := by
  obtain ⟨g', s', l', c', e, h1, h2⟩ := h
  cases e
  exact ⟨h2, h1⟩
theorem natAbs_ediv_dvd {x : Int} {G : Nat} (h : G ∣ x.natAbs) (hG : 0 < G) : (x / (G : Int)).natAbs = x.natAbs / G := by
  obtain ⟨k, hk⟩ := Int.ofNat_dvd_left.2 h
  rw [hk, Int.mul_ediv_cancel_left _ (by omega), Int.natAbs_mul, Int.natAbs_natCast, Nat.mul_div_cancel_left _ hG]
theorem rq_low {n d : Int} {r : Rat} (hd : 0 < d) (h : Rat.divInt n d = r) : r.num.natAbs = n.natAbs / Nat.gcd n.natAbs d.natAbs ∧ ((r.den : Nat) : Int).natAbs = d.natAbs / Nat.gcd n.natAbs d.natAbs ∧ r.num.sign = n.sign ∧ 0 < Nat.gcd n.natAbs d.natAbs := by
  have hp : 0 < Nat.gcd n.natAbs d.natAbs := Nat.gcd_pos_of_pos_right _ (by omega)
  have h1 := fmake_pos n d hd
  rw [h] at h1
  refine ⟨?_, ?_, (rq_sign hd h).symm, hp⟩
  · rw [h1.1]; exact natAbs_ediv_dvd (Nat.gcd_dvd_left _ _) hp
  · rw [h1.2]; exact natAbs_ediv_dvd (Nat.gcd_dvd_right _ _) hp
theorem rq_nle {n d : Int} {r : Rat} {E : Nat} (hd : 0 < d) (h : Rat.divInt n d = r) (hn : n.natAbs < D ^ E) : r.num.natAbs < D ^ E := by
  rw [(rq_low hd h).1]; exact Nat.lt_of_le_of_lt (Nat.div_le_self _ _) hn
theorem rq_dle {n d : Int} {r : Rat} {E : Nat} (hd : 0 < d) (h : Rat.divInt n d = r) (hn : d.natAbs < D ^ E) : ((r.den : Nat) : Int).natAbs < D ^ E := by
  rw [(rq_low hd h).2.1]; exact Nat.lt_of_le_of_lt (Nat.div_le_self _ _) hn
theorem ztext_lenD {s : ByteArray} {z : Int} {E : Nat} (h : ZTextOf s z) (hz : z.natAbs < D ^ E) (hE : 1 ≤ E) : s.size ≤ 4 * E + 1 := by
  obtain ⟨l, hl, vl, el⟩ := h
  have h1 := dlen hl vl hz hE
  have h2 := congrArg List.length el
  rw [bts_len] at h2
  rw [h2]
  split
  · rw [List.length_cons]; omega
  · omega
set_option maxHeartbeats 16000000 in
theorem rQLow_any (w : World) (va : Value) (r : Rat) (E : Nat) (Ha : RQ w va r E) (hE : 1 ≤ E ∧ E ≤ 200000) :
    Calls Tryd.prog 34 #[va] w (RetRInt2 w r.num (r.den : Int)) := by
  have HE : Hid (1 ≤ E ∧ E ≤ 200000) := hE
  clear hE
  obtain ⟨ga, sa, la, ca, ga', sa', la', ca', na, da, rfl, ha, ha', ua⟩ := Ha
  have hG : w.grownBy (((w.alloc (.cells #[.int .i64 ga, .slice sa la ca, .int .i64 ga', .slice sa' la' ca'] 40)).alloc (.cells #[.int .i64 0, .slice none 0 0] 38)).alloc (.cells #[.int .i64 0, .slice none 0 0] 38)) none := (grown_alloc (grown_alloc (World.grownBy_alloc _ _ _) _) _)
  have Ba := heap_kept (grown_alloc (World.grownBy_alloc _ (.cells #[.int .i64 0, .slice none 0 0] 38) none) (.cells #[.int .i64 0, .slice none 0 0] 38)) (heap_new w (.cells #[.int .i64 ga, .slice sa la ca, .int .i64 ga', .slice sa' la' ca'] 40) (w.heap.size) rfl)
  have Bq := heap_kept (World.grownBy_alloc _ (.cells #[.int .i64 0, .slice none 0 0] 38) none) (heap_new (w.alloc (.cells #[.int .i64 ga, .slice sa la ca, .int .i64 ga', .slice sa' la' ca'] 40)) (.cells #[.int .i64 0, .slice none 0 0] 38) (w.heap.size + 1) (by simp))
  have Bp := (heap_new ((w.alloc (.cells #[.int .i64 ga, .slice sa la ca, .int .i64 ga', .slice sa' la' ca'] 40)).alloc (.cells #[.int .i64 0, .slice none 0 0] 38)) (.cells #[.int .i64 0, .slice none 0 0] 38) (w.heap.size + 1 + 1) (by simp))
  have ya : RQ (((w.alloc (.cells #[.int .i64 ga, .slice sa la ca, .int .i64 ga', .slice sa' la' ca'] 40)).alloc (.cells #[.int .i64 0, .slice none 0 0] 38)).alloc (.cells #[.int .i64 0, .slice none 0 0] 38)) (.agg #[.int .i64 ga, .slice sa la ca, .int .i64 ga', .slice sa' la' ca']) r E := ⟨ga, sa, la, ca, ga', sa', la', ca', na, da, rfl, ha.kept hG, ha'.kept hG, ua⟩
  have ra : RIntV (((w.alloc (.cells #[.int .i64 ga, .slice sa la ca, .int .i64 ga', .slice sa' la' ca'] 40)).alloc (.cells #[.int .i64 0, .slice none 0 0] 38)).alloc (.cells #[.int .i64 0, .slice none 0 0] 38)) (.agg #[.int .i64 ga, .slice sa la ca]) na := ha.kept hG
  have ra' : RIntV (((w.alloc (.cells #[.int .i64 ga, .slice sa la ca, .int .i64 ga', .slice sa' la' ca'] 40)).alloc (.cells #[.int .i64 0, .slice none 0 0] 38)).alloc (.cells #[.int .i64 0, .slice none 0 0] 38)) (.agg #[.int .i64 ga', .slice sa' la' ca']) da := ha'.kept hG
  have oa : RQ w (.agg #[.int .i64 ga, .slice sa la ca, .int .i64 ga', .slice sa' la' ca']) r E := ⟨ga, sa, la, ca, ga', sa', la', ca', na, da, rfl, ha, ha', ua⟩
  clear ha ha'
  go_enter Tryd.func34, Tryd.ntmps34
  have ma := ra.nat.1
  have HGA := ra.nat.2
  have ma2 := ra'.nat.1
  obtain ⟨G9, hG9⟩ : ∃ G, Nat.gcd na.natAbs da.natAbs = G := ⟨_, rfl⟩
  have hl := rq_low ua.out.1 ua.out.2.1
  rw [hG9] at hl
  have HL : Hid (r.num.natAbs = na.natAbs / G9 ∧ ((r.den : Nat) : Int).natAbs = da.natAbs / G9 ∧ r.num.sign = ga ∧ 0 < G9 ∧ G9 < D ^ 400000) := ⟨hl.1, hl.2.1, hl.2.2.1.trans HGA.out.symm, hl.2.2.2, by
    rw [← hG9]
    exact Nat.lt_of_le_of_lt (Nat.gcd_le_right _ (by have := ua.out.1; omega)) (dp4 ua.out.2.2.2 (by have := HE.out; omega))⟩
  have HSD : Hid (((r.den : Nat) : Int).sign = 1) := Int.sign_eq_one_of_pos (by have := r.den_pos; omega)
  have HN4 : Hid (na.natAbs < D ^ 400000 ∧ da.natAbs < D ^ 400000) := ⟨dp4 ua.out.2.2.1 (by have := HE.out; omega), dp4 ua.out.2.2.2 (by have := HE.out; omega)⟩
  have HG9 := Lib.hid hG9
  clear hl hG9
  obtain ⟨Ca0, Ca1, Ca2, Ca3, Fa0, Fa1, Fa2, Fa3⟩ := box_cells4 Ba
  obtain ⟨Cq0, Cq1, Fq0, Fq1⟩ := box_cells Bq
  obtain ⟨Cp0, Cp1, Fp0, Fp1⟩ := box_cells Bp
  go_wp2_with fail
  generalize (((w.alloc (.cells #[.int .i64 ga, .slice sa la ca, .int .i64 ga', .slice sa' la' ca'] 40)).alloc (.cells #[.int .i64 0, .slice none 0 0] 38)).alloc (.cells #[.int .i64 0, .slice none 0 0] 38)) = w0 at *
  clear Ca0 Fa0 Ca1 Fa1 Ca2 Fa2 Ca3 Fa3 Cq0 Fq0 Cq1 Fq1 Cp0 Fp0 Cp1 Fp1
  refine (rGcd_any w0 _ _ na.natAbs da.natAbs ma ma2 HN4.out.1 HN4.out.2).mono ?_
  rintro e w1 ⟨_, rfl, ⟨sk, lk, ck, yk, rfl, hk⟩, gw1⟩
  rw [HG9.out] at hk
  have mk : RefV w1 (.agg #[.slice sk lk ck]) (G9) := ⟨sk, lk, ck, yk, rfl, hk⟩
  replace Ba := heap_kept gw1 Ba
  replace Bq := heap_kept gw1 Bq
  replace Bp := heap_kept gw1 Bp
  replace ya := ya.kept gw1
  replace ra := ra.kept gw1
  replace ra' := ra'.kept gw1
  replace ma := ma.kept gw1
  replace ma2 := ma2.kept gw1
  replace hG := grown_trans hG gw1
  clear gw1
  clear hk
  obtain ⟨Ca0, Ca1, Ca2, Ca3, Fa0, Fa1, Fa2, Fa3⟩ := box_cells4 Ba
  obtain ⟨Cq0, Cq1, Fq0, Fq1⟩ := box_cells Bq
  obtain ⟨Cp0, Cp1, Fp0, Fp1⟩ := box_cells Bp
  have gbw1 := (World.grownBy_alloc w1 (.cells #[.slice sk lk ck] 36) none)
  have Bk := (heap_new w1 (.cells #[.slice sk lk ck] 36) (w1.heap.size) rfl)
  have hzw1 : Hid (w.heap.size ≤ w1.heap.size) := Lib.hid hG.size
  have hlaw1 : Hid (w.heap.size < w1.heap.size) := Lib.hid (Array.getElem?_eq_some_iff.1 Ba).1
  have hlqw1 : Hid (w.heap.size + 1 < w1.heap.size) := Lib.hid (Array.getElem?_eq_some_iff.1 Bq).1
  have hlpw1 : Hid (w.heap.size + 1 + 1 < w1.heap.size) := Lib.hid (Array.getElem?_eq_some_iff.1 Bp).1
  clear Ca0 Fa0 Ca1 Fa1 Ca2 Fa2 Ca3 Fa3 Cq0 Fq0 Cq1 Fq1 Cp0 Fp0 Cp1 Fp1
  replace Ba := heap_kept gbw1 Ba
  replace Bq := heap_kept gbw1 Bq
  replace Bp := heap_kept gbw1 Bp
  replace ya := ya.kept gbw1
  replace ra := ra.kept gbw1
  replace ra' := ra'.kept gbw1
  replace ma := ma.kept gbw1
  replace ma2 := ma2.kept gbw1
  replace mk := mk.kept gbw1
  replace hG := grown_trans hG gbw1
  clear gbw1
  obtain ⟨Ca0, Ca1, Ca2, Ca3, Fa0, Fa1, Fa2, Fa3⟩ := box_cells4 Ba
  obtain ⟨Cq0, Cq1, Fq0, Fq1⟩ := box_cells Bq
  obtain ⟨Cp0, Cp1, Fp0, Fp1⟩ := box_cells Bp
  obtain ⟨Ck0, Fk0⟩ := box_cell Bk
  go_wp2_with fail
  generalize (w1.alloc (.cells #[.slice sk lk ck] 36)) = w2 at *
  generalize w1.heap.size = aw1 at *
  replace hzw1 := hzw1.out
  replace hlaw1 := hlaw1.out
  replace hlqw1 := hlqw1.out
  replace hlpw1 := hlpw1.out
  clear Ca0 Fa0 Ca1 Fa1 Ca2 Fa2 Ca3 Fa3 Cq0 Fq0 Cq1 Fq1 Cp0 Fp0 Cp1 Fp1 Ck0 Fk0
  refine (rDiv_any w2 _ _ na.natAbs G9 ma mk HN4.out.1 HL.out.2.2.2.2 HL.out.2.2.2.1).mono ?_
  rintro e w3 ⟨_, _, rfl, ⟨se, le, ce, ye, rfl, he⟩, ⟨sf, lf, cf, yf, rfl, hf⟩, gw3⟩
  rw [← HL.out.1] at he
  have me : RefV w3 (.agg #[.slice se le ce]) (r.num.natAbs) := ⟨se, le, ce, ye, rfl, he⟩
  have mf : RefV w3 (.agg #[.slice sf lf cf]) (na.natAbs % G9) := ⟨sf, lf, cf, yf, rfl, hf⟩
  replace Ba := heap_kept gw3 Ba
  replace Bq := heap_kept gw3 Bq
  replace Bp := heap_kept gw3 Bp
  replace Bk := heap_kept gw3 Bk
  replace ya := ya.kept gw3
  replace ra := ra.kept gw3
  replace ra' := ra'.kept gw3
  replace ma := ma.kept gw3
  replace ma2 := ma2.kept gw3
  replace mk := mk.kept gw3
  replace hG := grown_trans hG gw3
  clear gw3
  clear he
  clear hf
  obtain ⟨Ca0, Ca1, Ca2, Ca3, Fa0, Fa1, Fa2, Fa3⟩ := box_cells4 Ba
  obtain ⟨Cq0, Cq1, Fq0, Fq1⟩ := box_cells Bq
  obtain ⟨Cp0, Cp1, Fp0, Fp1⟩ := box_cells Bp
  obtain ⟨Ck0, Fk0⟩ := box_cell Bk
  have gbw3 := (grown_alloc (World.grownBy_alloc w3 (.cells #[.slice se le ce] 36) none) (.cells #[.slice sf lf cf] 36))
  have Be := heap_kept (World.grownBy_alloc _ (.cells #[.slice sf lf cf] 36) none) (heap_new w3 (.cells #[.slice se le ce] 36) (w3.heap.size) rfl)
  have Bf := (heap_new (w3.alloc (.cells #[.slice se le ce] 36)) (.cells #[.slice sf lf cf] 36) (w3.heap.size + 1) (by simp))
  have hzw3 : Hid (w.heap.size ≤ w3.heap.size) := Lib.hid hG.size
  have hlaw3 : Hid (w.heap.size < w3.heap.size) := Lib.hid (Array.getElem?_eq_some_iff.1 Ba).1
  have hlqw3 : Hid (w.heap.size + 1 < w3.heap.size) := Lib.hid (Array.getElem?_eq_some_iff.1 Bq).1
  have hlpw3 : Hid (w.heap.size + 1 + 1 < w3.heap.size) := Lib.hid (Array.getElem?_eq_some_iff.1 Bp).1
  have hlkw3 : Hid (aw1 < w3.heap.size) := Lib.hid (Array.getElem?_eq_some_iff.1 Bk).1
  clear Ca0 Fa0 Ca1 Fa1 Ca2 Fa2 Ca3 Fa3 Cq0 Fq0 Cq1 Fq1 Cp0 Fp0 Cp1 Fp1 Ck0 Fk0
  replace Ba := heap_kept gbw3 Ba
  replace Bq := heap_kept gbw3 Bq
  replace Bp := heap_kept gbw3 Bp
  replace Bk := heap_kept gbw3 Bk
  replace ya := ya.kept gbw3
  replace ra := ra.kept gbw3
  replace ra' := ra'.kept gbw3
  replace ma := ma.kept gbw3
  replace ma2 := ma2.kept gbw3
  replace mk := mk.kept gbw3
  replace me := me.kept gbw3
  replace mf := mf.kept gbw3
  replace hG := grown_trans hG gbw3
  clear gbw3
  obtain ⟨Ca0, Ca1, Ca2, Ca3, Fa0, Fa1, Fa2, Fa3⟩ := box_cells4 Ba
  obtain ⟨Cq0, Cq1, Fq0, Fq1⟩ := box_cells Bq
  obtain ⟨Cp0, Cp1, Fp0, Fp1⟩ := box_cells Bp
  obtain ⟨Ck0, Fk0⟩ := box_cell Bk
  obtain ⟨Ce0, Fe0⟩ := box_cell Be
  obtain ⟨Cf0, Ff0⟩ := box_cell Bf
  go_wp2_with fail
  generalize ((w3.alloc (.cells #[.slice se le ce] 36)).alloc (.cells #[.slice sf lf cf] 36)) = w4 at *
  generalize w3.heap.size = aw3 at *
  replace hzw3 := hzw3.out
  replace hlaw3 := hlaw3.out
  replace hlqw3 := hlqw3.out
  replace hlpw3 := hlpw3.out
  replace hlkw3 := hlkw3.out
  clear Ca0 Fa0 Ca1 Fa1 Ca2 Fa2 Ca3 Fa3 Cq0 Fq0 Cq1 Fq1 Cp0 Fp0 Cp1 Fp1 Ck0 Fk0 Ce0 Fe0 Cf0 Ff0
  refine (rDiv_any w4 _ _ da.natAbs G9 ma2 mk HN4.out.2 HL.out.2.2.2.2 HL.out.2.2.2.1).mono ?_
  rintro e w5 ⟨_, _, rfl, ⟨sh, lh, ch, yh, rfl, hh⟩, ⟨si, li, ci, yi, rfl, hi⟩, gw5⟩
  rw [← HL.out.2.1] at hh
  have mh : RefV w5 (.agg #[.slice sh lh ch]) (((r.den : Nat) : Int).natAbs) := ⟨sh, lh, ch, yh, rfl, hh⟩
  have mi : RefV w5 (.agg #[.slice si li ci]) (da.natAbs % G9) := ⟨si, li, ci, yi, rfl, hi⟩
  replace Ba := heap_kept gw5 Ba
  replace Bq := heap_kept gw5 Bq
  replace Bp := heap_kept gw5 Bp
  replace Bk := heap_kept gw5 Bk
  replace Be := heap_kept gw5 Be
  replace Bf := heap_kept gw5 Bf
  replace ya := ya.kept gw5
  replace ra := ra.kept gw5
  replace ra' := ra'.kept gw5
  replace ma := ma.kept gw5
  replace ma2 := ma2.kept gw5
  replace mk := mk.kept gw5
  replace me := me.kept gw5
  replace mf := mf.kept gw5
  replace hG := grown_trans hG gw5
  clear gw5
  clear hh
  clear hi
  obtain ⟨Ca0, Ca1, Ca2, Ca3, Fa0, Fa1, Fa2, Fa3⟩ := box_cells4 Ba
  obtain ⟨Cq0, Cq1, Fq0, Fq1⟩ := box_cells Bq
  obtain ⟨Cp0, Cp1, Fp0, Fp1⟩ := box_cells Bp
  obtain ⟨Ck0, Fk0⟩ := box_cell Bk
  obtain ⟨Ce0, Fe0⟩ := box_cell Be
  obtain ⟨Cf0, Ff0⟩ := box_cell Bf
  have gbw5 := (grown_alloc (World.grownBy_alloc w5 (.cells #[.slice sh lh ch] 36) none) (.cells #[.slice si li ci] 36))
  have Bh := heap_kept (World.grownBy_alloc _ (.cells #[.slice si li ci] 36) none) (heap_new w5 (.cells #[.slice sh lh ch] 36) (w5.heap.size) rfl)
  have Bi := (heap_new (w5.alloc (.cells #[.slice sh lh ch] 36)) (.cells #[.slice si li ci] 36) (w5.heap.size + 1) (by simp))
  have hzw5 : Hid (w.heap.size ≤ w5.heap.size) := Lib.hid hG.size
  have hlaw5 : Hid (w.heap.size < w5.heap.size) := Lib.hid (Array.getElem?_eq_some_iff.1 Ba).1
  have hlqw5 : Hid (w.heap.size + 1 < w5.heap.size) := Lib.hid (Array.getElem?_eq_some_iff.1 Bq).1
  have hlpw5 : Hid (w.heap.size + 1 + 1 < w5.heap.size) := Lib.hid (Array.getElem?_eq_some_iff.1 Bp).1
  have hlkw5 : Hid (aw1 < w5.heap.size) := Lib.hid (Array.getElem?_eq_some_iff.1 Bk).1
  have hlew5 : Hid (aw3 < w5.heap.size) := Lib.hid (Array.getElem?_eq_some_iff.1 Be).1
  have hlfw5 : Hid (aw3 + 1 < w5.heap.size) := Lib.hid (Array.getElem?_eq_some_iff.1 Bf).1
  clear Ca0 Fa0 Ca1 Fa1 Ca2 Fa2 Ca3 Fa3 Cq0 Fq0 Cq1 Fq1 Cp0 Fp0 Cp1 Fp1 Ck0 Fk0 Ce0 Fe0 Cf0 Ff0
  replace Ba := heap_kept gbw5 Ba
  replace Bq := heap_kept gbw5 Bq
  replace Bp := heap_kept gbw5 Bp
  replace Bk := heap_kept gbw5 Bk
  replace Be := heap_kept gbw5 Be
  replace Bf := heap_kept gbw5 Bf
  replace ya := ya.kept gbw5
  replace ra := ra.kept gbw5
  replace ra' := ra'.kept gbw5
  replace ma := ma.kept gbw5
  replace ma2 := ma2.kept gbw5
  replace mk := mk.kept gbw5
  replace me := me.kept gbw5
  replace mf := mf.kept gbw5
  replace mh := mh.kept gbw5
  replace mi := mi.kept gbw5
  replace hG := grown_trans hG gbw5
  clear gbw5
  obtain ⟨Ca0, Ca1, Ca2, Ca3, Fa0, Fa1, Fa2, Fa3⟩ := box_cells4 Ba
  obtain ⟨Cq0, Cq1, Fq0, Fq1⟩ := box_cells Bq
  obtain ⟨Cp0, Cp1, Fp0, Fp1⟩ := box_cells Bp
  obtain ⟨Ck0, Fk0⟩ := box_cell Bk
  obtain ⟨Ce0, Fe0⟩ := box_cell Be
  obtain ⟨Cf0, Ff0⟩ := box_cell Bf
  obtain ⟨Ch0, Fh0⟩ := box_cell Bh
  obtain ⟨Ci0, Fi0⟩ := box_cell Bi
  go_wp2_with fail
  generalize ((w5.alloc (.cells #[.slice sh lh ch] 36)).alloc (.cells #[.slice si li ci] 36)) = w6 at *
  generalize w5.heap.size = aw5 at *
  replace hzw5 := hzw5.out
  replace hlaw5 := hlaw5.out
  replace hlqw5 := hlqw5.out
  replace hlpw5 := hlpw5.out
  replace hlkw5 := hlkw5.out
  replace hlew5 := hlew5.out
  replace hlfw5 := hlfw5.out
  go_region_held3 (fun w' => w'.cell? ⟨w.heap.size, 0, none⟩ = some (.int .i64 ga) ∧ w'.cell? ⟨w.heap.size, 1, none⟩ = some (.slice sa la ca) ∧ w'.cell? ⟨w.heap.size, 2, none⟩ = some (.int .i64 ga') ∧ w'.cell? ⟨w.heap.size, 3, none⟩ = some (.slice sa' la' ca') ∧ w'.cell? ⟨aw3, 0, none⟩ = some (.slice se le ce) ∧ w'.cell? ⟨aw5, 0, none⟩ = some (.slice sh lh ch))
    (first | assumption | exact ⟨Ca0, Ca1, Ca2, Ca3, Ce0, Ch0⟩ | exact HSw7_20 | exact HSw7_21 | go_keep)
    (first
      | (go_at_call 27; (with_reducible refine (rMade_any w6.drew _ ga r.num.natAbs r.num (me.kept (grown_drew (grown_refl _ _))) rfl (Or.inr HL.out.2.2.1)).mono ?_); rintro e w7_1 ⟨_, rfl, ⟨gt, st, lt, ct, rfl, ht, mt⟩, gw7_1⟩; have hGw7_1 := grown_pre w6 gw7_1 rfl rfl rfl rfl; have rt : RIntV w7_1 (.agg #[.int .i64 gt, .slice st lt ct]) (r.num) := ⟨gt, st, lt, ct, rfl, ht, mt⟩; have hSw7_1 := (And.intro (hGw7_1.cell Ca0 (by simp)) (And.intro (hGw7_1.cell Ca1 (by simp)) (And.intro (hGw7_1.cell Ca2 (by simp)) (And.intro (hGw7_1.cell Ca3 (by simp)) (And.intro (hGw7_1.cell Ce0 (by simp)) (hGw7_1.cell Ch0 (by simp))))))); clear gw7_1; clear mt)
      | (go_at_call 27; (with_reducible refine (rMade_any w7_1 _ 1 ((r.den : Nat) : Int).natAbs ((r.den : Nat) : Int) (mh.kept hGw7_1) rfl (Or.inr HSD.out)).mono ?_); rintro e w7_2 ⟨_, rfl, ⟨gu9, su9, lu9, cu9, rfl, hu9, mu9⟩, gw7_2⟩; have hGw7_2 := grown_trans hGw7_1 gw7_2; replace rt := rt.kept gw7_2; have ru9 : RIntV w7_2 (.agg #[.int .i64 gu9, .slice su9 lu9 cu9]) (((r.den : Nat) : Int)) := ⟨gu9, su9, lu9, cu9, rfl, hu9, mu9⟩; have hSw7_2 := (And.intro (hGw7_2.cell Ca0 (by simp)) (And.intro (hGw7_2.cell Ca1 (by simp)) (And.intro (hGw7_2.cell Ca2 (by simp)) (And.intro (hGw7_2.cell Ca3 (by simp)) (And.intro (hGw7_2.cell Ce0 (by simp)) (hGw7_2.cell Ch0 (by simp))))))); clear gw7_2; clear mu9; (obtain ⟨dq0, dq1, dq2, dq3⟩ := box_cells (heap_kept hGw7_2 Bq)); have HSw7_20 := (And.intro ((box_cells4 (heap_unset2 (heap_kept hGw7_2 Ba) (show w.heap.size ≠ w.heap.size + 1 by omega) (.int .i64 gt) (.slice st lt ct))).1) (And.intro ((box_cells4 (heap_unset2 (heap_kept hGw7_2 Ba) (show w.heap.size ≠ w.heap.size + 1 by omega) (.int .i64 gt) (.slice st lt ct))).2.1) (And.intro ((box_cells4 (heap_unset2 (heap_kept hGw7_2 Ba) (show w.heap.size ≠ w.heap.size + 1 by omega) (.int .i64 gt) (.slice st lt ct))).2.2.1) (And.intro ((box_cells4 (heap_unset2 (heap_kept hGw7_2 Ba) (show w.heap.size ≠ w.heap.size + 1 by omega) (.int .i64 gt) (.slice st lt ct))).2.2.2.1) (And.intro ((box_cell (heap_unset2 (heap_kept hGw7_2 Be) (show aw3 ≠ w.heap.size + 1 by omega) (.int .i64 gt) (.slice st lt ct))).1) ((box_cell (heap_unset2 (heap_kept hGw7_2 Bh) (show aw5 ≠ w.heap.size + 1 by omega) (.int .i64 gt) (.slice st lt ct))).1)))))); (obtain ⟨dp0, dp1, dp2, dp3⟩ := box_cells (heap_unset2 (heap_kept hGw7_2 Bp) (show w.heap.size + 1 + 1 ≠ w.heap.size + 1 by omega) (.int .i64 gt) (.slice st lt ct))); have HSw7_21 := (And.intro ((box_cells4 (heap_unset2 (heap_unset2 (heap_kept hGw7_2 Ba) (show w.heap.size ≠ w.heap.size + 1 by omega) (.int .i64 gt) (.slice st lt ct)) (show w.heap.size ≠ w.heap.size + 1 + 1 by omega) (.int .i64 gu9) (.slice su9 lu9 cu9))).1) (And.intro ((box_cells4 (heap_unset2 (heap_unset2 (heap_kept hGw7_2 Ba) (show w.heap.size ≠ w.heap.size + 1 by omega) (.int .i64 gt) (.slice st lt ct)) (show w.heap.size ≠ w.heap.size + 1 + 1 by omega) (.int .i64 gu9) (.slice su9 lu9 cu9))).2.1) (And.intro ((box_cells4 (heap_unset2 (heap_unset2 (heap_kept hGw7_2 Ba) (show w.heap.size ≠ w.heap.size + 1 by omega) (.int .i64 gt) (.slice st lt ct)) (show w.heap.size ≠ w.heap.size + 1 + 1 by omega) (.int .i64 gu9) (.slice su9 lu9 cu9))).2.2.1) (And.intro ((box_cells4 (heap_unset2 (heap_unset2 (heap_kept hGw7_2 Ba) (show w.heap.size ≠ w.heap.size + 1 by omega) (.int .i64 gt) (.slice st lt ct)) (show w.heap.size ≠ w.heap.size + 1 + 1 by omega) (.int .i64 gu9) (.slice su9 lu9 cu9))).2.2.2.1) (And.intro ((box_cell (heap_unset2 (heap_unset2 (heap_kept hGw7_2 Be) (show aw3 ≠ w.heap.size + 1 by omega) (.int .i64 gt) (.slice st lt ct)) (show aw3 ≠ w.heap.size + 1 + 1 by omega) (.int .i64 gu9) (.slice su9 lu9 cu9))).1) ((box_cell (heap_unset2 (heap_unset2 (heap_kept hGw7_2 Bh) (show aw5 ≠ w.heap.size + 1 by omega) (.int .i64 gt) (.slice st lt ct)) (show aw5 ≠ w.heap.size + 1 + 1 by omega) (.int .i64 gu9) (.slice su9 lu9 cu9))).1))))))))
  replace Ba := heap_kept hGw7_2 Ba
  replace Bq := heap_kept hGw7_2 Bq
  replace Bp := heap_kept hGw7_2 Bp
  replace Bk := heap_kept hGw7_2 Bk
  replace Be := heap_kept hGw7_2 Be
  replace Bf := heap_kept hGw7_2 Bf
  replace Bh := heap_kept hGw7_2 Bh
  replace Bi := heap_kept hGw7_2 Bi
  replace ya := ya.kept hGw7_2
  replace ra := ra.kept hGw7_2
  replace ra' := ra'.kept hGw7_2
  replace ma := ma.kept hGw7_2
  replace ma2 := ma2.kept hGw7_2
  replace mk := mk.kept hGw7_2
  replace me := me.kept hGw7_2
  replace mf := mf.kept hGw7_2
  replace mh := mh.kept hGw7_2
  replace mi := mi.kept hGw7_2
  replace hG := grown_trans hG hGw7_2
  clear Ca0 Fa0 Ca1 Fa1 Ca2 Fa2 Ca3 Fa3 Cq0 Fq0 Cq1 Fq1 Cp0 Fp0 Cp1 Fp1 Ck0 Fk0 Ce0 Fe0 Cf0 Ff0 Ch0 Fh0 Ci0 Fi0
  have hF : Hid (RetRInt2 w r.num ((r.den : Nat) : Int) _ _) := ret_rint2 hG Bq (show w7_2.heap[w.heap.size + 1 + 1]? = _ from Bp) (by omega) rt ru9
  obtain ⟨o0, o1, _, _⟩ := box_cells (heap_unset2 (heap_set2 Bq (.int .i64 gt) (.slice st lt ct)) (show w.heap.size + 1 ≠ w.heap.size + 1 + 1 by omega) (.int .i64 gu9) (.slice su9 lu9 cu9))
  obtain ⟨o2, o3, _, _⟩ := box_cells (heap_set2 (heap_unset2 Bp (show w.heap.size + 1 + 1 ≠ w.heap.size + 1 by omega) (.int .i64 gt) (.slice st lt ct)) (.int .i64 gu9) (.slice su9 lu9 cu9))
  clear ya ra ra' ma ma2 mk me mf mh mi rt ru9
  go_wp2_with fail
  exact bodyPost_ret (v := .tuple #[.agg #[.int .i64 gt, .slice st lt ct], .agg #[.int .i64 gu9, .slice su9 lu9 cu9]]) (by simp [results, Tryd.results34, go_sem, o0, o1, o2, o3]) rfl hF.out
set_option maxHeartbeats 16000000 in
theorem rQText_any (w : World) (va : Value) (r : Rat) (E : Nat) (Ha : RQ w va r E) (hE : 1 ≤ E ∧ E ≤ 200000) :
    Calls Tryd.prog 13 #[va] w (RetRText w r) := by
  have HE : Hid (1 ≤ E ∧ E ≤ 200000) := hE
  have hE2 := hE.2
  clear hE
  obtain ⟨n0, d0, hnd⟩ : ∃ n d : Int, 0 < d ∧ Rat.divInt n d = r ∧ n.natAbs < D ^ E ∧ d.natAbs < D ^ E := by
    obtain ⟨_, _, _, _, _, _, _, _, n, d, _, _, _, h⟩ := Ha
    exact ⟨n, d, h.out⟩
  have HB : Hid (r.num.natAbs < D ^ E ∧ ((r.den : Nat) : Int).natAbs < D ^ E ∧ r.num.natAbs < D ^ 1000000 ∧ ((r.den : Nat) : Int).natAbs < D ^ 1000000 ∧ 1 ≤ E) := ⟨rq_nle hnd.1 hnd.2.1 hnd.2.2.1, rq_dle hnd.1 hnd.2.1 hnd.2.2.2, dp6 (rq_nle hnd.1 hnd.2.1 hnd.2.2.1) (by omega), dp6 (rq_dle hnd.1 hnd.2.1 hnd.2.2.2) (by omega), HE.out.1⟩
  have HL1 : Hid ((1 : Int).natAbs < D ^ 1000000) := Lib.hid (lt_D1 (show 1 < B by unfold B; omega))
  clear hnd
  have hc : (zcmp (r.den : Int) 1 = 0 ∧ Hid (r.den = 1)) ∨ (zcmp (r.den : Int) 1 = 1 ∧ Hid (r.den ≠ 1)) := by
    have hp := r.den_pos
    by_cases h : r.den = 1
    · left; exact ⟨by rw [h]; rfl, h⟩
    · right; exact ⟨by unfold zcmp; rw [if_neg (by omega), if_neg (by omega)], h⟩
  rcases hc with ⟨hc, H1⟩ | ⟨hc, H1⟩
  · skip
    have HC := Lib.hid hc
    clear hc
    obtain ⟨ga, sa, la, ca, ga', sa', la', ca', na, da, rfl, ha, ha', ua⟩ := Ha
    have hG : w.grownBy (w.alloc (.cells #[.int .i64 ga, .slice sa la ca, .int .i64 ga', .slice sa' la' ca'] 40)) none := (World.grownBy_alloc _ _ _)
    have Ba := (heap_new w (.cells #[.int .i64 ga, .slice sa la ca, .int .i64 ga', .slice sa' la' ca'] 40) (w.heap.size) rfl)
    have ya : RQ (w.alloc (.cells #[.int .i64 ga, .slice sa la ca, .int .i64 ga', .slice sa' la' ca'] 40)) (.agg #[.int .i64 ga, .slice sa la ca, .int .i64 ga', .slice sa' la' ca']) r E := ⟨ga, sa, la, ca, ga', sa', la', ca', na, da, rfl, ha.kept hG, ha'.kept hG, ua⟩
    have oa : RQ w (.agg #[.int .i64 ga, .slice sa la ca, .int .i64 ga', .slice sa' la' ca']) r E := ⟨ga, sa, la, ca, ga', sa', la', ca', na, da, rfl, ha, ha', ua⟩
    clear ha ha'
    go_enter Tryd.func13, Tryd.ntmps13
    obtain ⟨Ca0, Ca1, Ca2, Ca3, Fa0, Fa1, Fa2, Fa3⟩ := box_cells4 Ba
    go_wp2_with fail
    generalize (w.alloc (.cells #[.int .i64 ga, .slice sa la ca, .int .i64 ga', .slice sa' la' ca'] 40)) = w0 at *
    clear Ca0 Fa0 Ca1 Fa1 Ca2 Fa2 Ca3 Fa3
    refine (rQLow_any w0 _ r E ya HE.out).mono ?_
    rintro e t1w1 ⟨_, _, rfl, ⟨gd, sd, ld, cd, rfl, hd, md⟩, ⟨ge, se, le, ce, rfl, he, me⟩, gt1w1⟩
    have rd : RIntV t1w1 (.agg #[.int .i64 gd, .slice sd ld cd]) (r.num) := ⟨gd, sd, ld, cd, rfl, hd, md⟩
    have re : RIntV t1w1 (.agg #[.int .i64 ge, .slice se le ce]) ((r.den : Int)) := ⟨ge, se, le, ce, rfl, he, me⟩
    replace Ba := heap_kept gt1w1 Ba
    replace ya := ya.kept gt1w1
    replace hG := grown_trans hG gt1w1
    clear gt1w1
    clear md
    clear me
    obtain ⟨Ca0, Ca1, Ca2, Ca3, Fa0, Fa1, Fa2, Fa3⟩ := box_cells4 Ba
    have gbt1w1 := (grown_alloc (World.grownBy_alloc t1w1 (.cells #[.int .i64 gd, .slice sd ld cd] 38) none) (.cells #[.int .i64 ge, .slice se le ce] 38))
    have Bd := heap_kept (World.grownBy_alloc _ (.cells #[.int .i64 ge, .slice se le ce] 38) none) (heap_new t1w1 (.cells #[.int .i64 gd, .slice sd ld cd] 38) (t1w1.heap.size) rfl)
    have Be := (heap_new (t1w1.alloc (.cells #[.int .i64 gd, .slice sd ld cd] 38)) (.cells #[.int .i64 ge, .slice se le ce] 38) (t1w1.heap.size + 1) (by simp))
    have hzt1w1 : Hid (w.heap.size ≤ t1w1.heap.size) := Lib.hid hG.size
    have hlat1w1 : Hid (w.heap.size < t1w1.heap.size) := Lib.hid (Array.getElem?_eq_some_iff.1 Ba).1
    clear Ca0 Fa0 Ca1 Fa1 Ca2 Fa2 Ca3 Fa3
    replace Ba := heap_kept gbt1w1 Ba
    replace ya := ya.kept gbt1w1
    replace rd := rd.kept gbt1w1
    replace re := re.kept gbt1w1
    replace hG := grown_trans hG gbt1w1
    clear gbt1w1
    obtain ⟨Ca0, Ca1, Ca2, Ca3, Fa0, Fa1, Fa2, Fa3⟩ := box_cells4 Ba
    obtain ⟨Cd0, Cd1, Fd0, Fd1⟩ := box_cells Bd
    obtain ⟨Ce0, Ce1, Fe0, Fe1⟩ := box_cells Be
    go_wp2_with fail
    generalize ((t1w1.alloc (.cells #[.int .i64 gd, .slice sd ld cd] 38)).alloc (.cells #[.int .i64 ge, .slice se le ce] 38)) = t1w2 at *
    generalize t1w1.heap.size = at1w1 at *
    replace hzt1w1 := hzt1w1.out
    replace hlat1w1 := hlat1w1.out
    clear Ca0 Fa0 Ca1 Fa1 Ca2 Fa2 Ca3 Fa3 Cd0 Fd0 Cd1 Fd1 Ce0 Fe0 Ce1 Fe1
    refine (rZText_any t1w2 _ r.num rd HB.out.2.2.1).mono ?_
    rintro e t1w3 ⟨s, rfl, hs, gt1w3⟩
    have HS := Lib.hid hs
    have hz := ztext_lenD hs HB.out.1 HB.out.2.2.2.2
    clear hs
    replace Ba := heap_kept gt1w3 Ba
    replace Bd := heap_kept gt1w3 Bd
    replace Be := heap_kept gt1w3 Be
    replace ya := ya.kept gt1w3
    replace rd := rd.kept gt1w3
    replace re := re.kept gt1w3
    replace hG := grown_trans hG gt1w3
    clear gt1w3
    obtain ⟨Ca0, Ca1, Ca2, Ca3, Fa0, Fa1, Fa2, Fa3⟩ := box_cells4 Ba
    obtain ⟨Cd0, Cd1, Fd0, Fd1⟩ := box_cells Bd
    obtain ⟨Ce0, Ce1, Fe0, Fe1⟩ := box_cells Be
    go_wp2_with fail
    go_region_held3 (fun w' => w'.cell? ⟨at1w1 + 1, 0, none⟩ = some (.int .i64 ge) ∧ w'.cell? ⟨at1w1 + 1, 1, none⟩ = some (.slice se le ce))
      (first | assumption | exact ⟨Ce0, Ce1⟩ | go_keep)
      (first
        | (go_at_call 29; (with_reducible refine (rZOf_any t1w3.drew 1 (by omega) (by omega)).mono ?_); rintro e t1w4_1 ⟨v1, rfl, k1, gt1w4_1⟩; have hGt1w4_1 := grown_pre t1w3 gt1w4_1 rfl rfl rfl rfl; have hSt1w4_1 := (And.intro (hGt1w4_1.cell Ce0 (by simp)) (hGt1w4_1.cell Ce1 (by simp))); clear gt1w4_1)
        | (go_at_call 36; (with_reducible refine (rZCmp_any t1w4_1 _ _ (r.den : Int) 1 (re.kept hGt1w4_1) k1 HB.out.2.2.2.1 HL1.out).mono ?_); rintro e t1w4_2 ⟨rfl, gt1w4_2⟩; rw [HC.out]; have hGt1w4_2 := grown_trans hGt1w4_1 gt1w4_2; replace k1 := k1.kept gt1w4_2; have hSt1w4_2 := (And.intro (hGt1w4_2.cell Ce0 (by simp)) (hGt1w4_2.cell Ce1 (by simp))); clear gt1w4_2))
    replace Ba := heap_kept hGt1w4_2 Ba
    replace Bd := heap_kept hGt1w4_2 Bd
    replace Be := heap_kept hGt1w4_2 Be
    replace ya := ya.kept hGt1w4_2
    replace rd := rd.kept hGt1w4_2
    replace re := re.kept hGt1w4_2
    replace hG := grown_trans hG hGt1w4_2
    clear Ca0 Fa0 Ca1 Fa1 Ca2 Fa2 Ca3 Fa3 Cd0 Fd0 Cd1 Fd1 Ce0 Fe0 Ce1 Fe1
    obtain ⟨Ca0, Ca1, Ca2, Ca3, Fa0, Fa1, Fa2, Fa3⟩ := box_cells4 Ba
    obtain ⟨Cd0, Cd1, Fd0, Fd1⟩ := box_cells Bd
    obtain ⟨Ce0, Ce1, Fe0, Fe1⟩ := box_cells Be
    go_wp2_with fail
    go_ret
    exact ⟨_, rfl, Or.inl ⟨H1.out, HS.out⟩, hG⟩
  · skip
    have HC := Lib.hid hc
    clear hc
    obtain ⟨ga, sa, la, ca, ga', sa', la', ca', na, da, rfl, ha, ha', ua⟩ := Ha
    have hG : w.grownBy (w.alloc (.cells #[.int .i64 ga, .slice sa la ca, .int .i64 ga', .slice sa' la' ca'] 40)) none := (World.grownBy_alloc _ _ _)
    have Ba := (heap_new w (.cells #[.int .i64 ga, .slice sa la ca, .int .i64 ga', .slice sa' la' ca'] 40) (w.heap.size) rfl)
    have ya : RQ (w.alloc (.cells #[.int .i64 ga, .slice sa la ca, .int .i64 ga', .slice sa' la' ca'] 40)) (.agg #[.int .i64 ga, .slice sa la ca, .int .i64 ga', .slice sa' la' ca']) r E := ⟨ga, sa, la, ca, ga', sa', la', ca', na, da, rfl, ha.kept hG, ha'.kept hG, ua⟩
    have oa : RQ w (.agg #[.int .i64 ga, .slice sa la ca, .int .i64 ga', .slice sa' la' ca']) r E := ⟨ga, sa, la, ca, ga', sa', la', ca', na, da, rfl, ha, ha', ua⟩
    clear ha ha'
    go_enter Tryd.func13, Tryd.ntmps13
    obtain ⟨Ca0, Ca1, Ca2, Ca3, Fa0, Fa1, Fa2, Fa3⟩ := box_cells4 Ba
    go_wp2_with fail
    generalize (w.alloc (.cells #[.int .i64 ga, .slice sa la ca, .int .i64 ga', .slice sa' la' ca'] 40)) = w0 at *
    clear Ca0 Fa0 Ca1 Fa1 Ca2 Fa2 Ca3 Fa3
    refine (rQLow_any w0 _ r E ya HE.out).mono ?_
    rintro e t0w1 ⟨_, _, rfl, ⟨gd, sd, ld, cd, rfl, hd, md⟩, ⟨ge, se, le, ce, rfl, he, me⟩, gt0w1⟩
    have rd : RIntV t0w1 (.agg #[.int .i64 gd, .slice sd ld cd]) (r.num) := ⟨gd, sd, ld, cd, rfl, hd, md⟩
    have re : RIntV t0w1 (.agg #[.int .i64 ge, .slice se le ce]) ((r.den : Int)) := ⟨ge, se, le, ce, rfl, he, me⟩
    replace Ba := heap_kept gt0w1 Ba
    replace ya := ya.kept gt0w1
    replace hG := grown_trans hG gt0w1
    clear gt0w1
    clear md
    clear me
    obtain ⟨Ca0, Ca1, Ca2, Ca3, Fa0, Fa1, Fa2, Fa3⟩ := box_cells4 Ba
    have gbt0w1 := (grown_alloc (World.grownBy_alloc t0w1 (.cells #[.int .i64 gd, .slice sd ld cd] 38) none) (.cells #[.int .i64 ge, .slice se le ce] 38))
    have Bd := heap_kept (World.grownBy_alloc _ (.cells #[.int .i64 ge, .slice se le ce] 38) none) (heap_new t0w1 (.cells #[.int .i64 gd, .slice sd ld cd] 38) (t0w1.heap.size) rfl)
    have Be := (heap_new (t0w1.alloc (.cells #[.int .i64 gd, .slice sd ld cd] 38)) (.cells #[.int .i64 ge, .slice se le ce] 38) (t0w1.heap.size + 1) (by simp))
    have hzt0w1 : Hid (w.heap.size ≤ t0w1.heap.size) := Lib.hid hG.size
    have hlat0w1 : Hid (w.heap.size < t0w1.heap.size) := Lib.hid (Array.getElem?_eq_some_iff.1 Ba).1
    clear Ca0 Fa0 Ca1 Fa1 Ca2 Fa2 Ca3 Fa3
    replace Ba := heap_kept gbt0w1 Ba
    replace ya := ya.kept gbt0w1
    replace rd := rd.kept gbt0w1
    replace re := re.kept gbt0w1
    replace hG := grown_trans hG gbt0w1
    clear gbt0w1
    obtain ⟨Ca0, Ca1, Ca2, Ca3, Fa0, Fa1, Fa2, Fa3⟩ := box_cells4 Ba
    obtain ⟨Cd0, Cd1, Fd0, Fd1⟩ := box_cells Bd
    obtain ⟨Ce0, Ce1, Fe0, Fe1⟩ := box_cells Be
    go_wp2_with fail
    generalize ((t0w1.alloc (.cells #[.int .i64 gd, .slice sd ld cd] 38)).alloc (.cells #[.int .i64 ge, .slice se le ce] 38)) = t0w2 at *
    generalize t0w1.heap.size = at0w1 at *
    replace hzt0w1 := hzt0w1.out
    replace hlat0w1 := hlat0w1.out
    clear Ca0 Fa0 Ca1 Fa1 Ca2 Fa2 Ca3 Fa3 Cd0 Fd0 Cd1 Fd1 Ce0 Fe0 Ce1 Fe1
    refine (rZText_any t0w2 _ r.num rd HB.out.2.2.1).mono ?_
    rintro e t0w3 ⟨s, rfl, hs, gt0w3⟩
    have HS := Lib.hid hs
    have hz := ztext_lenD hs HB.out.1 HB.out.2.2.2.2
    clear hs
    replace Ba := heap_kept gt0w3 Ba
    replace Bd := heap_kept gt0w3 Bd
    replace Be := heap_kept gt0w3 Be
    replace ya := ya.kept gt0w3
    replace rd := rd.kept gt0w3
    replace re := re.kept gt0w3
    replace hG := grown_trans hG gt0w3
    clear gt0w3
    obtain ⟨Ca0, Ca1, Ca2, Ca3, Fa0, Fa1, Fa2, Fa3⟩ := box_cells4 Ba
    obtain ⟨Cd0, Cd1, Fd0, Fd1⟩ := box_cells Bd
    obtain ⟨Ce0, Ce1, Fe0, Fe1⟩ := box_cells Be
    go_wp2_with fail
    go_region_held3 (fun w' => w'.cell? ⟨at0w1 + 1, 0, none⟩ = some (.int .i64 ge) ∧ w'.cell? ⟨at0w1 + 1, 1, none⟩ = some (.slice se le ce))
      (first | assumption | exact ⟨Ce0, Ce1⟩ | go_keep)
      (first
        | (go_at_call 29; (with_reducible refine (rZOf_any t0w3.drew 1 (by omega) (by omega)).mono ?_); rintro e t0w4_1 ⟨v1, rfl, k1, gt0w4_1⟩; have hGt0w4_1 := grown_pre t0w3 gt0w4_1 rfl rfl rfl rfl; have hSt0w4_1 := (And.intro (hGt0w4_1.cell Ce0 (by simp)) (hGt0w4_1.cell Ce1 (by simp))); clear gt0w4_1)
        | (go_at_call 36; (with_reducible refine (rZCmp_any t0w4_1 _ _ (r.den : Int) 1 (re.kept hGt0w4_1) k1 HB.out.2.2.2.1 HL1.out).mono ?_); rintro e t0w4_2 ⟨rfl, gt0w4_2⟩; rw [HC.out]; have hGt0w4_2 := grown_trans hGt0w4_1 gt0w4_2; replace k1 := k1.kept gt0w4_2; have hSt0w4_2 := (And.intro (hGt0w4_2.cell Ce0 (by simp)) (hGt0w4_2.cell Ce1 (by simp))); clear gt0w4_2))
    replace Ba := heap_kept hGt0w4_2 Ba
    replace Bd := heap_kept hGt0w4_2 Bd
    replace Be := heap_kept hGt0w4_2 Be
    replace ya := ya.kept hGt0w4_2
    replace rd := rd.kept hGt0w4_2
    replace re := re.kept hGt0w4_2
    replace hG := grown_trans hG hGt0w4_2
    clear Ca0 Fa0 Ca1 Fa1 Ca2 Fa2 Ca3 Fa3 Cd0 Fd0 Cd1 Fd1 Ce0 Fe0 Ce1 Fe1
    obtain ⟨Ca0, Ca1, Ca2, Ca3, Fa0, Fa1, Fa2, Fa3⟩ := box_cells4 Ba
    obtain ⟨Cd0, Cd1, Fd0, Fd1⟩ := box_cells Bd
    obtain ⟨Ce0, Ce1, Fe0, Fe1⟩ := box_cells Be
    go_wp2_with fail
    clear Ca0 Fa0 Ca1 Fa1 Ca2 Fa2 Ca3 Fa3 Cd0 Fd0 Cd1 Fd1 Ce0 Fe0 Ce1 Fe1
    refine (rZText_any t0w4_2 _ (r.den : Int) re HB.out.2.2.2.1).mono ?_
    rintro e t0w5 ⟨t, rfl, ht, gt0w5⟩
    have HT := Lib.hid ht
    have hy := ztext_lenD ht HB.out.2.1 HB.out.2.2.2.2
    have hxx : (({ data := #[47] } : ByteArray).size) = 1 := rfl
    clear ht
    replace Ba := heap_kept gt0w5 Ba
    replace Bd := heap_kept gt0w5 Bd
    replace Be := heap_kept gt0w5 Be
    replace ya := ya.kept gt0w5
    replace rd := rd.kept gt0w5
    replace re := re.kept gt0w5
    replace k1 := k1.kept gt0w5
    replace hG := grown_trans hG gt0w5
    clear gt0w5
    obtain ⟨Ca0, Ca1, Ca2, Ca3, Fa0, Fa1, Fa2, Fa3⟩ := box_cells4 Ba
    obtain ⟨Cd0, Cd1, Fd0, Fd1⟩ := box_cells Bd
    obtain ⟨Ce0, Ce1, Fe0, Fe1⟩ := box_cells Be
    go_wp2_with fail
    go_ret
    exact ⟨_, rfl, Or.inr ⟨H1.out, _, _, HS.out, HT.out, by first | rfl | simp⟩, hG⟩
end Go.Proofs.YtldkddogadmpbaaDoor
namespace Go.Proofs.YtldkddogadmpbaaDoor
open Go.ChangeShapes Go.WideShapes Go.ChangeAt Go.RowKit Go.ChangeMaps
set_option linter.unusedVariables false
theorem grown_same {W W' : World} (h : W.grownBy W' none) {p : MemPlace} (hp : p.block < W.heap.size) : W.sameAt W' p := by
  cases p with
  | cell b o => exact World.cell?_of_block (w := W) (h.block b hp (by simp))
  | map b => exact h.block b hp (by simp)
theorem grown_frozen {W W' : World} (h : W.grownBy W' none) {b off : Nat} (hp : b < W.heap.size) : W'.frozen? ⟨b, off, none⟩ = W.frozen? ⟨b, off, none⟩ := by
  unfold World.frozen?
  rw [h.block b hp (by simp)]
theorem post_places {H : Type} {enc : TypeId × Value → H} {P : Program} {f : Func} {s : ChangeSpec} {apart fresh handsOn again : Bool} {W W' : World} {args : Array Value} {v : Value} {ds gs : List (DataW H)} {before : List MemPlace}
    (hW : DataW.Whole enc P f.params.toList s.vars apart W args.toList ds gs before)
    (hlt : ∀ p ∈ before, p.block < W.heap.size)
    (hres : ∀ (b : Nat) (sp : Nat → Bool) (hd : Bool), DataW.TrodAll enc P W' b sp hd f.resultTypes.toList (v.resultList f.resultTypes.size) (s.fn H (ds ++ gs)).results [])
    (hargs : ∀ sp : Nat → Bool, (∀ p ∈ before, sp p.block = true) → DataW.TrodAll enc P W' 0 sp true f.params.toList args.toList (s.fn H (ds ++ gs)).args before)
    (hvars : ∀ sp : Nat → Bool, DataW.TrodVars enc P W' sp s.vars (s.fn H (ds ++ gs)).vars [])
    (hg : W.grownBy W' none)
    (hok : ∀ (j : Nat) (t : TypeId) (r : Value), f.resultTypes[j]? = some t → (v.resultList f.resultTypes.size)[j]? = some r → Value.okWide P W' .any 0 t r) :
    s.post enc P f apart fresh handsOn again W args v W' := by
  have hW2 := hW
  obtain ⟨_, _, _, _, _, hfz, hnd⟩ := hW2
  have hA := hargs (fun b => decide (b < W.heap.size)) (fun p hp => decide_eq_true (hlt p hp))
  refine ⟨ds, gs, before, [], before, [], hW, hres _ _ _, hA, hvars _, World.keptBut_mono (fun p hp => hp.elim) (kept_of_grown hg), fun _ => ?_⟩
  refine ⟨hok, _, _, before, ⟨before, [], trodAll_append (hargs (fun _ => true) (fun _ _ => rfl)) (hres _ _ _), hvars _, (List.append_nil _).symm, ?_, hnd⟩, fun p hp _ => hp⟩
  intro b off hp
  rw [grown_frozen hg (show b < W.heap.size from hlt _ hp)]
  exact hfz b off hp
end Go.Proofs.YtldkddogadmpbaaDoor
namespace Go.Proofs.YtldkddogadmpbaaDoor
open Go.ChangeShapes Go.WideShapes Go.ChangeAt Go.RowKit Go.ChangeMaps Go.Deep
set_option linter.unusedVariables false
set_option linter.unusedSimpArgs false
set_option maxRecDepth 100000
theorem open_by {H : Type} {enc : TypeId × Value → H} {W : World} {sp : Nat → Bool} {a0 : Option Addr} {len cap : Nat} {d : DataW H} {p : List MemPlace} (h : DataW.Trod enc Tryd.prog W 0 sp true 22 (.slice a0 len cap) d p) :
    ∃ l : List Nat, l.length = len ∧ BySl W a0 l ∧ (a0 = none → len = 0 ∧ cap = 0) ∧ len ≤ cap ∧ cap ≤ 9223372036854775807 := by
  obtain ⟨n, hn⟩ := h
  rcases open_ints Tryd.underlying22 Tryd.underlying5 (by kernel_rfl) hn with ⟨hcs, _⟩ | ⟨a, len', cap', zs, hcs, _, hl, hm, hz, _, hcell, hwf⟩
  · simp [Value.cells] at hcs
    obtain ⟨rfl, rfl, rfl⟩ := hcs
    exact ⟨[], rfl, BySl.nil _ _, fun _ => ⟨rfl, rfl⟩, Nat.le_refl _, by omega⟩
  · simp [Value.cells] at hcs
    obtain ⟨rfl, rfl, rfl⟩ := hcs
    have hzl : len ≤ zs.length := by rw [hz]; split <;> omega
    have hw : ∀ x ∈ zs, 0 ≤ x ∧ x < 256 := fun x hx => by
      have := hwf x hx
      have h2 : IntKind.u8.min ≤ x ∧ x ≤ IntKind.u8.max := by simpa [Lit.wf] using this
      have e1 : IntKind.u8.min = 0 := by decide
      have e2 : IntKind.u8.max = 255 := by decide
      omega
    refine ⟨(zs.take len).map Int.toNat, by rw [List.length_map, List.length_take]; omega, ⟨Or.inr ⟨a, rfl, fun i hi => ?_⟩, fun x hx => ?_⟩, fun e => (by cases e), hl, by unfold maxLen at hm; exact hm⟩
    · rw [List.length_map, List.length_take] at hi
      rw [hcell i (by omega)]
      have h0 := hw zs[i] (List.getElem_mem (by omega))
      rw [List.getElem_map, List.getElem_take, List.getD_eq_getElem?_getD, List.getElem?_eq_getElem (by omega), Option.getD_some, Int.toNat_of_nonneg h0.1]
    · rw [List.mem_map] at hx
      obtain ⟨y, hy, rfl⟩ := hx
      have := hw y (List.mem_of_mem_take hy)
      omega
end Go.Proofs.YtldkddogadmpbaaDoor
