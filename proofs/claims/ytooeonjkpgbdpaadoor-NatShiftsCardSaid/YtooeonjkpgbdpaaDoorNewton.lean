/- The root of a number: Newton's steps down, till they stop falling. -/
import Derived.Test.YtooeonjkpgbdpaaDoorRoot
import Derived.Deep.LoopGhost
import Derived.Deep.DeepCutAuto
namespace Go.Proofs.YtooeonjkpgbdpaaDoor
open Go.RowKit Mat
set_option maxRecDepth 100000
set_option linter.unusedVariables false
set_option linter.unusedSimpArgs false

theorem above_any (w : World) (va : Value) (a K : Nat) (ha : NatV w va a) (h0 : 0 < a) (la : a < B ^ K) (hK1 : 1 ≤ K) (hK : K ≤ 536870912) (ih : ∀ a', a' < a → RootAt a') :
    Calls Tryd.prog 70 #[va] w (RetAbove w a K) := by
  rcases Nat.lt_or_ge 64 (nb a) with h | h
  · exact above_big w va a K ha h0 la hK1 hK h ih
  · exact above_small w va a K ha h0 la hK1 hK h

/-- What the sum's statement leaves: a box with a number whose limbs lie in new memory. -/
def Summed (w : World) (n : Nat) (s6 : Value) (wx : World) : Prop :=
  ∃ (g6 bs os : Nat) (zs : List Nat) (cs : Array Value), s6 = .pointer (some ⟨g6, 0, none⟩) ∧ wx.heap[g6]? = some (.cells #[.slice (some ⟨bs, os, none⟩) zs.length zs.length] 24 (0, 0)) ∧ Blk wx bs cs ∧ At cs os zs ∧ Lm wx (some ⟨bs, os, none⟩) zs ∧ val B zs = n ∧ w.heap.size ≤ bs ∧ w.heap.size ≤ g6 ∧ w.grownBy wx none
theorem summed_alloc {w3 w4 w5 : World} {n : Nat} {s5 : Option Addr} {zs : List Nat} (hG : w3.grownBy w5 none) (hl : Lm w5 s5 zs) (hv : val B zs = n) (hf : ∀ ad, s5 = some ad → w4.heap.size ≤ ad.block) (h34 : w3.grownBy w4 none) (h0 : 0 < n) (g : Nat) (hg : g = w5.heap.size) :
    Summed w3 n (.pointer (some ⟨g, 0, none⟩)) (w5.alloc (.cells #[.slice s5 zs.length zs.length] 24)) := by
  subst hg
  have hp := val_pos_of hl (by rw [hv]; exact h0)
  obtain ⟨b, o, cs, rfl, hb, ha⟩ := hl.rd.get 0 hp
  have := hf _ rfl
  have h1 := h34.size
  exact ⟨_, b, o, zs, cs, rfl, heap_new _ _ _ rfl, hb.alloc _, ha, hl.kept (World.grownBy_alloc _ _ _), hv, by simp only at this; omega, hG.size, grown_alloc hG _⟩
theorem summed_set {w3 w4 w5 : World} {n : Nat} {s5 : Option Addr} {zs : List Nat} (hG : w3.grownBy w5 none) (hl : Lm w5 s5 zs) (hv : val B zs = n) (hf : ∀ ad, s5 = some ad → w4.heap.size ≤ ad.block) (h34 : w3.grownBy w4 none) (h0 : 0 < n) (g : Nat) (hg : w3.heap.size ≤ g) {v : Value} (hb : w5.heap[g]? = some (.cells #[v] 24 (0, 0))) :
    Summed w3 n (.pointer (some ⟨g, 0, none⟩)) (w5.setCell ⟨g, 0, none⟩ (.slice s5 zs.length zs.length)) := by
  have hp := val_pos_of hl (by rw [hv]; exact h0)
  obtain ⟨b, o, cs, rfl, hk, ha⟩ := hl.rd.get 0 hp
  have := hf _ rfl
  have h1 := h34.size
  refine ⟨_, b, o, zs, cs, rfl, ?_, hk.set_other hb (by decide) 0 _, ha, hl.set_other hb (by decide) 0 _, hv, by simp only at this; omega, hg, grown_new hG (grown_set (grown_refl _ _) _ _) hg⟩
  simp [World.setCell, Array.getElem?_modify, hb]
theorem half_lt {R q X : Nat} (hR : R < X) (hq : q ≤ X) : (R + q) / 2 < X := by omega

set_option maxHeartbeats 8000000 in
theorem rootOf_step (a : Nat) (ih : ∀ a', a' < a → RootAt a') : RootAt a := by
  intro w va K ha h0 la hK1 hK
  obtain ⟨sa, xs, rfl, hx, rfl⟩ := ha
  have hlen := hx.len la
  have hgw0 : w.grownBy ((w.alloc (.cells #[.slice sa xs.length xs.length] 24)).alloc (.cells #[.slice none 0 0] 24)) none := grown_alloc (World.grownBy_alloc _ _ _) _
  have hbox0 := heap_new (w.alloc (.cells #[.slice sa xs.length xs.length] 24)) (.cells #[.slice none 0 0] 24) (w.heap.size + 1) (by simp)
  have hboxa0 := (Below.heap_alloc _ (.cells #[.slice none 0 0] 24) w.heap.size (by simp)).trans (heap_new w (.cells #[.slice sa xs.length xs.length] 24) w.heap.size rfl)
  have hAb := Lib.hid (above_any _ _ (val B xs) K ⟨sa, xs, rfl, hx.kept hgw0, rfl⟩ h0 la hK1 hK ih)
  have H0 := Lib.hid h0
  have Hla := Lib.hid la
  have hfld := run_field
  clear h0 la ih
  go_enter Tryd.func62, Tryd.ntmps62
  go_wp2_with fail
  refine hAb.out.mono ?_
  rintro e w1 ⟨_, R, rfl, ⟨sr, rs, rfl, hlr, hvr⟩, hR0, hRK, hRa, hg1⟩
  have hbox1 := heap_kept hg1 hbox0
  have hboxa1 := heap_kept hg1 hboxa0
  have hgw1 := grown_trans hgw0 hg1
  obtain ⟨hca, hfa⟩ := box_cell hboxa1
  have hsz1 : w.heap.size + 1 < w1.heap.size := (Array.getElem?_eq_some_iff.1 hbox1).1
  have HVR := Lib.hid hvr
  have HRK := Lib.hid hRK
  have HRa := Lib.hid hRa
  clear hAb hg1 hgw0 hbox0 hboxa0 hvr hRK hRa
  go_wp2_with fail
  have hl2 := hlr.kept (World.grownBy_alloc w1 (.cells #[.slice sr rs.length rs.length] 24) none)
  have hgw2 := grown_alloc hgw1 (.cells #[.slice sr rs.length rs.length] 24)
  have hbox2 := heap_kept (World.grownBy_alloc w1 (.cells #[.slice sr rs.length rs.length] 24) none) hbox1
  have hboxa2 := heap_kept (World.grownBy_alloc w1 (.cells #[.slice sr rs.length rs.length] 24) none) hboxa1
  have hboxr2 := heap_new w1 (.cells #[.slice sr rs.length rs.length] 24) w1.heap.size rfl
  generalize (w1.alloc (.cells #[.slice sr rs.length rs.length] 24)) = w2 at *
  generalize w1.heap.size = g3 at *
  clear hbox1 hboxa1 hgw1 hlr hca hfa
  have hHR : Hid (val B xs < (R + 1) * (R + 1)) := HRa
  clear HRa
  go_loopg [4] R (fun gh _ wr => ∃ (R : Nat) (sr : Option Addr) (rs : List Nat), Lm wr sr rs ∧ Hid (val B rs = R) ∧ 0 < R ∧ Hid (R < B ^ (K + 1)) ∧ Hid (val B xs < (R + 1) * (R + 1)) ∧ R ≤ gh ∧ wr.heap[w.heap.size]? = some (.cells #[.slice sa xs.length xs.length] 24 (0, 0)) ∧ wr.heap[w.heap.size + 1]? = some (.cells #[.slice none 0 0] 24 (0, 0)) ∧ wr.heap[g3]? = some (.cells #[.slice sr rs.length rs.length] 24 (0, 0)) ∧ w.grownBy wr none)
  case atStart => exact ⟨R, sr, rs, hl2, HVR, hR0, HRK, hHR, Nat.le_refl _, hboxa2, hbox2, hboxr2, hgw2⟩
  case round =>
    clear hl2 HVR hR0 HRK hHR hboxa2 hbox2 hboxr2 hgw2
    obtain ⟨R, sr, rs, hlr, hvr, hR0, hRK, hRa, hgh, hboxa, hbox, hboxr, hgw⟩ := hrel
    obtain ⟨ca, fa⟩ := box_cell hboxa
    obtain ⟨cr, fr⟩ := box_cell hboxr
    have hrp := val_pos_of hlr (by rw [hvr.out]; exact hR0)
    have hrlen := hlr.len (K := K + 1) (by rw [hvr.out]; exact hRK.out)
    go_wp2_with fail
    refine (divide_any _ sa sr _ _ _ _ xs rs (hx.kept hgw) hlr rfl rfl hrp (fun h => h) (Nat.le_refl _) (by omega) (by omega)).mono ?_
    rintro e w3 ⟨sq, sm, nq, cq, nm, cm, qs, ms, rfl, hlq, hcq, hnq, hlm, hcm, hnm, hrq, hrm, hdq, hdm, hvq, hvm, hg3, _⟩
    have ha3 := heap_kept hg3 hboxa
    have hb3 := heap_kept hg3 hbox
    have hr3 := heap_kept hg3 hboxr
    have hl3 := hlr.kept hg3
    have hgw3 := grown_trans hgw hg3
    have HLQ := Lib.hid hlq
    have HVQ := Lib.hid hvq
    clear hlq hvq hvm hlm hrm hdm hg3 hboxa hbox hboxr hlr hgw ca fa cr fr
    obtain ⟨cr, fr⟩ := box_cell hr3
    have hKK : B ^ (K + 1) ≤ B ^ (K + 2) := Nat.pow_le_pow_right B_pos (by omega)
    have hK0 : B ^ K ≤ B ^ (K + 1) := Nat.pow_le_pow_right B_pos (by omega)
    have hqX : val B xs / R ≤ val B xs := Nat.div_le_self ..
    have hqK : Hid (val B qs < B ^ (K + 2)) := by show _ < _; have := Hla.out; rw [HVQ.out, hvr.out]; omega
    have hRK2 : Hid (R < B ^ (K + 2)) := by show _ < _; have := hRK.out; omega
    have hsK : Hid (R + val B xs / R < B ^ (K + 2)) := by
      show _ < _
      have h1 := hRK.out; have h2 := Hla.out
      have h3 : B ^ (K + 1) * 2 ≤ B ^ (K + 2) := by rw [Nat.pow_succ B (K + 1)]; exact Nat.mul_le_mul_left _ (by unfold B; omega)
      omega
    have H3 : Hid (∀ W, w3.grownBy W none → NatV W (.agg #[.slice sr rs.length rs.length]) R) := fun W hW => ⟨sr, rs, rfl, hl3.kept hW, hvr.out⟩
    have hrqp : Hid (∀ W, w3.grownBy W none → Rdo W sq qs) := fun W hW => hrq.kept hW
    clear hKK hK0 hqX hrq
    go_wp2_with fail
    have HR3 : ∀ W, w3.grownBy W none → W.cell? ⟨g3, 0, none⟩ = some (.slice sr rs.length rs.length) := fun W hW => hW.cell cr (by simp)
    have HR3 := Lib.hid HR3
    go_cut [6] (fun s6 wx => Summed w3 (R + val B xs / R) s6 wx)
    case first =>
      go_region_held3 (fun w' => w'.cell? ⟨g3, 0, none⟩ = some (.slice sr rs.length rs.length))
        (first | go_keep | exact HR3.out _ hG5 | exact HR3.out _ hG4 | exact HR3.out _ (grown_alloc hG5 _) | exact HR3.out _ (grown_alloc hG4 _) | exact HR3.out _ (World.grownBy_alloc _ _ _) | exact HR3.out _ (grown_drew (World.grownBy_alloc _ _ _)) | exact HR3.out _ (grown_new hG5 (grown_set (grown_refl _ _) _ _) hG4.size) | exact HR3.out _ (grown_new hG5 (grown_set (grown_refl _ _) _ _) (Nat.le_refl _)))
        (first
          | (go_at_call 46; (with_reducible refine (own_at w3.drew sq nq cq qs HLQ.out (hrqp.out w3.drew (grown_heap rfl rfl rfl rfl)) (by omega) hcq hdq).mono ?_); rintro e w4 ⟨v4, rfl, hN4, hg4⟩; have hG4 : w3.grownBy w4 none := grown_pre w3 hg4 rfl rfl rfl rfl)
          | (go_at_call 46; (with_reducible refine (own_at (w3.alloc (.cells #[.slice none 0 0] 24)).drew sq nq cq qs HLQ.out (hrqp.out (w3.alloc (.cells #[.slice none 0 0] 24)).drew (grown_drew (World.grownBy_alloc _ _ _))) (by omega) hcq hdq).mono ?_); rintro e w4 ⟨v4, rfl, hN4, hg4⟩; have hG4 : w3.grownBy w4 none := grown_trans (grown_drew (World.grownBy_alloc w3 _ _)) hg4; have q4b := heap_kept hg4 (show ((w3.alloc (.cells #[.slice none 0 0] 24)).drew).heap[w3.heap.size]? = _ from heap_new w3 (.cells #[.slice none 0 0] 24) _ rfl); obtain ⟨q4c, q4f⟩ := box_cell q4b)
          | (go_at_call 30; (with_reducible refine (Add_fresh w4 _ _ R (val B qs) (K + 2) (H3.out _ hG4) hN4 (by omega) hRK2.out hqK.out).mono ?_); rintro e w5 ⟨s5, zs5, rfl, hl5, hv5, hf5, hg5⟩; have q5b := heap_kept hg5 q4b; obtain ⟨q5c, q5f⟩ := box_cell q5b; have hG5 := grown_trans hG4 hg5)
          | (go_at_call 30; (with_reducible refine (Add_fresh w4 _ _ R (val B qs) (K + 2) (H3.out _ hG4) hN4 (by omega) hRK2.out hqK.out).mono ?_); rintro e w5 ⟨s5, zs5, rfl, hl5, hv5, hf5, hg5⟩; have hG5 := grown_trans hG4 hg5)
          | (go_at_call 30; (with_reducible refine (Add_fresh (w4.alloc (.cells #[.slice none 0 0] 24)) _ _ R (val B qs) (K + 2) (H3.out _ (grown_alloc hG4 _)) (hN4.kept (World.grownBy_alloc _ _ _)) (by omega) hRK2.out hqK.out).mono ?_); rintro e w5 ⟨s5, zs5, rfl, hl5, hv5, hf5, hg5⟩; have q5b := heap_kept hg5 (heap_new w4 (.cells #[.slice none 0 0] 24) _ rfl); obtain ⟨q5c, q5f⟩ := box_cell q5b; have hG5 := grown_trans (grown_alloc hG4 _) hg5))
      · go_wp2_with fail; go_meet; exact summed_alloc hG5 hl5 (by rw [hv5, HVQ.out, hvr.out]) hf5 hG4 (Nat.add_pos_left hR0 _) _ rfl
      · go_wp2_with fail; go_meet; exact summed_set hG5 hl5 (by rw [hv5, HVQ.out, hvr.out]) hf5 (grown_alloc hG4 _) (Nat.add_pos_left hR0 _) _ hG4.size q5b
      · go_wp2_with fail; go_meet; exact summed_set hG5 hl5 (by rw [hv5, HVQ.out, hvr.out]) hf5 hG4 (Nat.add_pos_left hR0 _) _ (Nat.le_refl _) q5b
    case rest =>
      obtain ⟨g6, bs, os, zs, cs, rfl, h6, hb6, ha6, hl6, hv6, hbs, hg6, hgx⟩ := hcut
      obtain ⟨c6, f6⟩ := box_cell h6
      have hzl := hl6.len (K := K + 2) (by rw [hv6]; exact hsK.out)
      have HV6 := Lib.hid hv6
      have hs3 : w.heap.size + 1 < w3.heap.size := (Array.getElem?_eq_some_iff.1 hb3).1
      have hs3r : g3 < w3.heap.size := (Array.getElem?_eq_some_iff.1 hr3).1
      clear hv6 HLQ HVQ hqK H3 hrqp HR3 cr fr hcq hnq hcm hnm hdq
      go_wp2_with fail
      refine (lower_any _ bs os _ _ zs cs 1 rfl hb6 ha6 hl6.dig (Nat.le_refl _) (by omega) (by omega)).mono ?_
      rintro e w7 ⟨sc, m, cap7, cs7, zs7, rfl, hm7, hl7, hlx7, hd7, hv7, hs7, _, hb7, hat7, hg7⟩
      have hg37 := grown_new hgx hg7 hbs
      have hb7' := heap_kept hg37 hb3
      have ha7 := heap_kept hg37 ha3
      have hr7 := heap_kept hg37 hr3
      have hgw7 := grown_trans hgw3 hg37
      have hlr7 := hl3.kept hg37
      have HV7 := Lib.hid hv7
      have HL7 := Lib.hid hl7
      have hrr := Lowered.rdo hl7 hs7 hb7 hat7
      clear hv7 hl7 hs7 hg7 hg37 hgx hb3 ha3 hr3 hgw3 hl3 hb6 ha6 hb7 hat7 c6 f6 h6 hl6
      go_wp2_with fail
      refine (own_at _ _ m _ zs7 HL7.out hrr (by omega) hm7 hd7).mono ?_
      rintro e w8 ⟨v8, rfl, hN8, hg8⟩
      obtain ⟨hb8, ha8, hr8, hgw8, hlr8⟩ := And.intro (heap_kept hg8 hb7') (And.intro (heap_kept hg8 ha7) (And.intro (heap_kept hg8 hr7) (And.intro (grown_trans hgw7 hg8) (hlr7.kept hg8))))
      obtain ⟨cr, fr⟩ := box_cell hr8
      rw [HV7.out, HV6.out] at hN8
      have hN8' : NatV w8 v8 ((R + val B xs / R) / 2) := hN8
      obtain ⟨s8, zs8, rfl, hl8, hv8⟩ := hN8'
      have HV8 := Lib.hid hv8
      have hz8 : val B zs8 < B ^ (K + 2) := by rw [HV8.out]; have := hsK.out; omega
      have HZ8 := Lib.hid hz8
      clear hb7' ha7 hr7 hgw7 hlr7 hrr hg8 hN8 hv8 hz8
      have hgA := World.grownBy_alloc w8 (.cells #[.slice s8 zs8.length zs8.length] 24) none
      have hb9 := heap_kept hgA hb8
      have ha9 := heap_kept hgA ha8
      have hr9 := heap_kept hgA hr8
      have hn9 := heap_new w8 (.cells #[.slice s8 zs8.length zs8.length] 24) _ rfl
      have hgw9 := grown_trans hgw8 hgA
      have hlr9 := hlr8.kept hgA
      have hl9 := hl8.kept hgA
      have hsz8 : g3 < w8.heap.size := (Array.getElem?_eq_some_iff.1 hr8).1
      obtain ⟨cr9, fr9⟩ := box_cell hr9
      clear hb8 ha8 hr8 hgw8 hlr8 hl8 cr fr hgA
      go_wp2_with fail
      generalize (w8.alloc (.cells #[.slice s8 zs8.length zs8.length] 24)) = w9 at *
      generalize w8.heap.size = g9 at *
      refine (Cmp_any w9 _ _ ((R + val B xs / R) / 2) R (K + 2) ⟨s8, zs8, rfl, hl9, HV8.out⟩ ⟨sr, rs, rfl, hlr9, hvr.out⟩ (by omega) (by have := HZ8.out; rw [HV8.out] at this; exact this) hRK2.out).mono ?_
      rintro e w10 ⟨rfl, hg10⟩
      have hb10 := heap_kept hg10 hb9
      have ha10 := heap_kept hg10 ha9
      have hr10 := heap_kept hg10 hr9
      have hn10 := heap_kept hg10 hn9
      have hgw10 := grown_trans hgw9 hg10
      have hlr10 := hlr9.kept hg10
      have hl10 := hl9.kept hg10
      clear hb9 ha9 hr9 hn9 hgw9 hlr9 hl9 cr9 fr9 hg10
      obtain ⟨cr, fr⟩ := box_cell hr10
      obtain ⟨cb, fb⟩ := box_cell hb10
      obtain ⟨cn, fn⟩ := box_cell hn10
      have hgg : w.heap.size ≤ g3 := by omega
      by_cases hlt : (R + val B xs / R) / 2 < R
      · have t : decide (0 ≤ cmpInt ((R + val B xs / R) / 2) R) = false := by rw [cmpInt_lt hlt]; rfl
        have hge := newton_ge (a := val B xs) hR0
        have hpos : 0 < (R + val B xs / R) / 2 := by
          rcases Nat.eq_zero_or_pos ((R + val B xs / R) / 2) with h | h
          · rw [h] at hge; have := H0.out; omega
          · exact h
        have hlt2 : Hid ((R + val B xs / R) / 2 < gk) := Nat.lt_of_lt_of_le hlt hgh
        have hltK : Hid ((R + val B xs / R) / 2 < B ^ (K + 1)) := Nat.lt_trans hlt hRK.out
        have HGE : Hid (val B xs < ((R + val B xs / R) / 2 + 1) * ((R + val B xs / R) / 2 + 1)) := hge
        clear hge hlt
        go_wp2_with fail
        go_roundg ((R + val B xs / R) / 2)
        case measure => exact hlt2.out
        case rel =>
          refine ⟨(R + val B xs / R) / 2, s8, zs8, hl10.set_other hr10 (by decide) 0 _, HV8, hpos, hltK, HGE, Nat.le_refl _, ?_, ?_, ?_, grown_new hgw10 (grown_set (grown_refl _ _) _ _) hgg⟩
          · exact (Below.heap_setCell _ _ _ _ (by simp only; omega)).trans ha10
          · exact (Below.heap_setCell _ _ _ _ (by simp only; omega)).trans hb10
          · simp [World.setCell, Array.getElem?_modify, hr10]
      · have t : decide (0 ≤ cmpInt ((R + val B xs / R) / 2) R) = true := by
          rcases Nat.lt_or_ge R ((R + val B xs / R) / 2) with h | h
          · rw [cmpInt_gt h]; rfl
          · rw [cmpInt_eq (by omega)]; rfl
        have hst := newton_stop (a := val B xs) hR0 (Nat.le_of_not_lt hlt)
        have hF : Hid (∀ u, RetRoot w (val B xs) K (.returned (.agg #[.slice sr rs.length rs.length])) (w10.setCell ⟨w.heap.size + 1, 0, none⟩ u)) := by
          intro u
          exact ⟨_, R, rfl, ⟨sr, rs, rfl, hlr10.set_other hb10 (by decide) 0 u, hvr.out⟩, ⟨hst, hRa.out⟩, grown_new hgw10 (grown_set (grown_refl _ _) _ _) (by omega)⟩
        clear hst hlt
        go_wp2_with fail
        exact bodyPost_ret (v := .agg #[.slice sr rs.length rs.length]) (by simp [results, Tryd.results62, go_sem, cb]) rfl (hF.out _)

theorem rootOf_any (a : Nat) : RootAt a := Nat.strongRecOn a (fun a ih => rootOf_step a ih)
end Go.Proofs.YtooeonjkpgbdpaaDoor
