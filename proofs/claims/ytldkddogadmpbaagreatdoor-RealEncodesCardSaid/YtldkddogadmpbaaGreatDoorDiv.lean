/- Quotients of numbers: divide, Div. -/
import Derived.Test.YtldkddogadmpbaaGreatDoorLong
namespace Go.Proofs.YtldkddogadmpbaaGreatDoor
open Go.RowKit Mat
set_option maxRecDepth 100000
set_option linter.unusedVariables false
set_option linter.unusedSimpArgs false

set_option maxHeartbeats 2000000 in
theorem divide_any (w : World) (sa sb : Option Addr) (n ca m cb : Nat) (xs ys : List Nat) (hx : Lm w sa xs) (hy : Lm w sb ys) (hn : xs.length = n) (hm : ys.length = m) (hm0 : 0 < m) (hc0 : n = 0 → ca = 0) (hca : n ≤ ca) (bn : n ≤ 1073741000) (bm : m ≤ 1073741000) :
    Calls Tryz.prog 92 #[.slice sa n ca, .slice sb m cb] w (DividedLong w (val B xs) (val B ys) n) := by
  have Hn := Lib.hid hn
  have Hm := Lib.hid hm
  by_cases hlt : n < m
  · have hv := val_lt_of_length B B_pos xs ys hx.dig hy.top (by omega)
    have hq : Hid (0 = val B xs / val B ys) := (Nat.div_eq_of_lt hv).symm
    have hr : Hid (val B xs = val B xs % val B ys) := (Nat.mod_eq_of_lt hv).symm
    clear hv hn hm
    by_cases h0 : n = 0
    · subst h0
      obtain rfl : xs = [] := List.length_eq_zero_iff.1 Hn.out
      obtain rfl := hx.nil rfl
      obtain rfl := hc0 rfl
      clear hc0
      go_enter Tryz.func92, Tryz.ntmps92
      go_wp2_with fail
      refine (Clone_nil _).mono ?_
      rintro e w' ⟨rfl, rfl⟩
      go_wp2_with fail
      go_ret2
      exact ⟨none, none, 0, 0, 0, 0, [], [], rfl, rfl, by omega, by omega, rfl, by omega, by omega, Or.inl rfl, Or.inl rfl, Dig.nil _, Dig.nil _, hq.out, hr.out, grown_refl _ _, FreshAt.none _⟩
    · obtain ⟨b1, o1, cs1, rfl, hb1, hat1⟩ := hx.rd.get 0 (by rw [Hn.out]; omega)
      clear hc0
      go_enter Tryz.func92, Tryz.ntmps92
      go_wp2_with fail
      refine (Clone_at _ b1 o1 n _ cs1 xs Hn.out hb1 hat1 (by omega) (by omega)).mono ?_
      rintro e w2 ⟨g, cap, cs2, rfl, hge, hb2, hat2, hcap, hg2⟩
      rw [Hn.out] at hcap ⊢
      have HF : Hid (DividedLong w (val B xs) (val B ys) n (.returned (.tuple #[.slice none 0 0, .slice (some ⟨g, 0, none⟩) n cap])) w2) :=
        ⟨none, _, 0, 0, n, cap, [], xs, rfl, rfl, by omega, by omega, Hn.out, hcap, by omega, Or.inl rfl, Rdo.of hb2 hat2, Dig.nil _, hx.dig, hq.out, hr.out, hg2, FreshAt.some hge⟩
      clear hge hb2 hat2 hg2 hb1 hat1
      go_wp2_with fail
      go_ret2
      exact HF
  · by_cases h1 : m = 1
    · subst h1
      obtain ⟨b1, o1, cs1, rfl, hb1, hat1⟩ := hx.rd.get 0 (by omega)
      obtain ⟨b2, o2, rfl, cy⟩ := hy.rd.cell (by omega)
      have c0 := cy 0 (by omega)
      obtain ⟨y, rfl⟩ : ∃ y, ys = [y] := List.length_eq_one_iff.1 hm
      have hyB : y < B := hy.dig y (by simp)
      have hy0 : 0 < y := by
        have := hy.top y (by simp)
        omega
      simp only [List.getElem_cons_zero, Nat.add_zero] at c0
      clear hn hm hc0 cy
      go_enter Tryz.func92, Tryz.ntmps92
      go_wp2_with fail
      refine (Clone_at _ b1 o1 n _ cs1 xs Hn.out hb1 hat1 (by omega) (by omega)).mono ?_
      rintro e w2 ⟨g, cap, cs2, rfl, hge, hbk2, hat2, hcap, hg2⟩
      rw [Hn.out] at hcap ⊢
      have c02 : w2.cell? ⟨b2, o2, none⟩ = some (.int .u64 (y : Int)) := hg2.cell c0 (by simp)
      clear c0 hb1 hat1
      go_wp2_with fail
      refine (divideWord_any _ g 0 n _ xs cs2 y Hn.out hbk2 hat2 (by omega) hx.dig hyB hy0).mono ?_
      rintro e w3 ⟨zs, cs3, rfl, hb3, hw3, hg3, hl3, hd3, hv3⟩
      have hgw3 := grown_new hg2 hg3 hge
      have hrB : val B xs % y < B := Nat.lt_trans (Nat.mod_lt _ hy0) hyB
      obtain ⟨r, hr⟩ : ∃ r, val B xs % y = r := ⟨_, rfl⟩
      rw [hr] at hrB ⊢
      have hat4 : At #[.int .u64 (r : Int)] 0 [r] := fun i hi => by
        obtain rfl : i = 0 := by simpa using hi
        rfl
      have HF : Hid (DividedLong w (val B xs) (val B [y]) n (.returned (.tuple #[.slice (some ⟨g, 0, none⟩) n cap, .slice (some ⟨w3.heap.size, 0, none⟩) 1 1])) (w3.alloc (.cells #[.int .u64 (r : Int)] 71))) := by
        refine ⟨_, _, n, cap, 1, 1, zs, [r], rfl, by rw [hl3, Hn.out], hcap, by omega, rfl, by omega, by omega, Rdo.of (hb3.alloc _) hw3.lies, Rdo.of (blk_alloc _ _) hat4, hd3, Dig.cons hrB (Dig.nil _), ?_, ?_, grown_alloc hgw3 _, FreshAt.some hgw3.size⟩
        · rw [hv3]; simp [val]
        · simp [val, hr]
      clear hge hbk2 hat2 hg2 hgw3 hb3 hw3 hg3 hl3 hv3 c02 hr
      go_wp2_with fail
      go_ret2
      exact HF
    · obtain ⟨m', rfl⟩ : ∃ m', m = m' + 2 := ⟨m - 2, by omega⟩
      obtain ⟨d, rfl⟩ : ∃ d, n = m' + 2 + d := ⟨n - (m' + 2), by omega⟩
      have f1 : ((m' : Int) + 2 == 1) = false := beq_eq_false_iff_ne.2 (by omega)
      clear hc0 h1
      go_enter Tryz.func92, Tryz.ntmps92
      go_wp2_with fail
      refine (divideLong_any _ sa sb ca cb xs ys m' d hx hy hm hn bn).mono ?_
      rintro e w' ⟨sq, sr, nq, cq, nr, cr, qs, rs, rfl, h⟩
      have HF : Hid (DividedLong w (val B xs) (val B ys) (m' + 2 + d) (.returned (.tuple #[.slice sq nq cq, .slice sr nr cr])) w') := ⟨sq, sr, nq, cq, nr, cr, qs, rs, rfl, h⟩
      clear h hn hm
      go_wp2_with fail
      go_ret2
      exact HF

/-- Two numbers and an error are answered. -/
def RetNat2E (w : World) (n k : Nat) (code : Int) (e : Ending) (w' : World) : Prop := ∃ v u, e = .returned (.tuple #[v, u, .int .i64 code]) ∧ NatV w' v n ∧ NatV w' u k ∧ w.grownBy w' none

set_option maxHeartbeats 2000000 in
theorem Div_zero (w : World) (va vb : Value) (a : Nat) (ha : NatV w va a) (hb : NatV w vb 0) :
    Calls Tryz.prog 95 #[va, vb] w (RetNat2E w 0 0 5) := by
  obtain ⟨sa, xs, rfl, hx, rfl⟩ := ha
  obtain ⟨sb, ys, rfl, hy, h0⟩ := hb
  obtain rfl := (val_zero_iff B B_pos ys hy.top).1 h0
  clear h0
  simp only [List.length_nil]
  go_enter Tryz.func95, Tryz.ntmps95
  go_wp2_with fail
  exact bodyPost_ret (v := .tuple #[.agg #[.slice none 0 0], .agg #[.slice none 0 0], .int .i64 5]) (by simp [results, Tryz.results95, go_sem]) rfl ⟨_, _, rfl, NatV.zero _, NatV.zero _, by repeat (first | exact World.grownBy_alloc _ _ _ | refine grown_alloc ?_ _ | refine grown_new (g := w.heap.size + 1 + 1 + 1) ?_ (grown_set (grown_refl _ _) _ _) (by omega) | refine grown_new (g := w.heap.size + 1 + 1) ?_ (grown_set (grown_refl _ _) _ _) (by omega))⟩

set_option maxHeartbeats 2000000 in
theorem Div_some (w : World) (va vb : Value) (a b K : Nat) (ha : NatV w va a) (hb : NatV w vb b) (hK : K ≤ 1073741000) (la : a < B ^ K) (lb : b < B ^ K) (h0 : 0 < b) :
    Calls Tryz.prog 95 #[va, vb] w (RetNat2E w (a / b) (a % b) 0) := by
  obtain ⟨sa, xs, rfl, hx, rfl⟩ := ha
  obtain ⟨sb, ys, rfl, hy, rfl⟩ := hb
  have h1 := hx.len la
  have h2 := hy.len lb
  have h3 := val_pos_of hy h0
  clear la lb h0
  have hgw : w.grownBy ((((w.alloc (.cells #[.slice sa xs.length xs.length] 24)).alloc (.cells #[.slice sb ys.length ys.length] 24)).alloc (.cells #[.slice none 0 0] 24)).alloc (.cells #[.slice none 0 0] 24)) none := grown_alloc (grown_alloc (grown_alloc (World.grownBy_alloc _ _ _) _) _) _
  have hbox1 := (Below.heap_alloc _ (.cells #[.slice none 0 0] 24) (w.heap.size + 1 + 1) (by simp)).trans (heap_new ((w.alloc (.cells #[.slice sa xs.length xs.length] 24)).alloc (.cells #[.slice sb ys.length ys.length] 24)) (.cells #[.slice none 0 0] 24) (w.heap.size + 1 + 1) (by simp))
  have hbox2 := heap_new (((w.alloc (.cells #[.slice sa xs.length xs.length] 24)).alloc (.cells #[.slice sb ys.length ys.length] 24)).alloc (.cells #[.slice none 0 0] 24)) (.cells #[.slice none 0 0] 24) (w.heap.size + 1 + 1 + 1) (by simp)
  have f1 : ((ys.length : Int) == 0) = false := beq_eq_false_iff_ne.2 (by omega)
  go_enter Tryz.func95, Tryz.ntmps95
  go_wp2_with fail
  refine (divide_any _ sa sb _ _ _ _ xs ys (hx.kept hgw) (hy.kept hgw) rfl rfl h3 (fun h => h) (Nat.le_refl _) (by omega) (by omega)).mono ?_
  rintro e w2 ⟨sq, sr, nq, cq, nr, cr, qs, rs, rfl, hlq, hcq, hnq, hlr, hcr, hnr, hrq, hrr, hdq, hdr, hvq, hvr, hg2, _⟩
  have hgw2 := grown_trans hgw hg2
  have hb1 := heap_kept hg2 hbox1
  have hb2 := heap_kept hg2 hbox2
  have HLQ := Lib.hid hlq
  have HLR := Lib.hid hlr
  have HVQ := Lib.hid hvq
  have HVR := Lib.hid hvr
  clear hlq hlr hvq hvr hg2 hgw hbox1 hbox2
  go_wp2_with fail
  refine (own_at _ sq nq cq qs HLQ.out hrq (by omega) hcq hdq).mono ?_
  rintro e w3 ⟨v, rfl, ⟨s1, q1, rfl, hl3, hv3⟩, hg3⟩
  have hgw3 := grown_trans hgw2 hg3
  have hb13 := heap_kept hg3 hb1
  have hb23 := heap_kept hg3 hb2
  have hrr3 := hrr.kept hg3
  have HV3 := Lib.hid (hv3.trans HVQ.out)
  clear hv3 hg3 hgw2 hb1 hb2 hrr hrq
  go_wp2_with fail
  refine (own_at _ sr nr cr rs HLR.out hrr3 (by omega) hcr hdr).mono ?_
  rintro e w4 ⟨v, rfl, ⟨s2, q2, rfl, hl4, hv4⟩, hg4⟩
  have hgw4 := grown_trans hgw3 hg4
  have hb14 := heap_kept hg4 hb13
  have hb24 := heap_kept hg4 hb23
  have hl34 := hl3.kept hg4
  have HV4 := Lib.hid (hv4.trans HVR.out)
  obtain ⟨hc1, hf1⟩ := box_cell hb14
  obtain ⟨hc2, hf2⟩ := box_cell hb24
  have HF : Hid (∀ u1 u2, RetNat2E w (val B xs / val B ys) (val B xs % val B ys) 0 (.returned (.tuple #[.agg #[.slice s1 q1.length q1.length], .agg #[.slice s2 q2.length q2.length], .int .i64 0])) ((w4.setCell ⟨w.heap.size + 1 + 1, 0, none⟩ u1).setCell ⟨w.heap.size + 1 + 1 + 1, 0, none⟩ u2)) := by
    intro u1 u2
    have hb5 : (w4.setCell ⟨w.heap.size + 1 + 1, 0, none⟩ u1).heap[w.heap.size + 1 + 1 + 1]? = some (.cells #[.slice none 0 0] 24 (0, 0)) := by
      rw [Below.heap_setCell _ _ _ _ (by simp)]; exact hb24
    exact ⟨_, _, rfl, ⟨s1, q1, rfl, (hl34.set_other hb14 (by decide) 0 u1).set_other hb5 (by decide) 0 u2, HV3.out⟩, ⟨s2, q2, rfl, (hl4.set_other hb14 (by decide) 0 u1).set_other hb5 (by decide) 0 u2, HV4.out⟩,
      grown_new (grown_new hgw4 (grown_set (grown_refl _ _) _ _) (by omega)) (grown_set (grown_refl _ _) _ _) (by omega)⟩
  clear hv4 hg4 hgw3 hgw4 hb13 hb23 hb14 hb24 hrr3
  go_wp2_with fail
  exact bodyPost_ret (v := .tuple #[.agg #[.slice s1 q1.length q1.length], .agg #[.slice s2 q2.length q2.length], .int .i64 0]) (by simp [results, Tryz.results95, go_sem, hc1, hc2]) rfl (HF.out _ _)
end Go.Proofs.YtldkddogadmpbaaGreatDoor
