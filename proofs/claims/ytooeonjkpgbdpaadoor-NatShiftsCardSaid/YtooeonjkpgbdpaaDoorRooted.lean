/- Roots and rests. -/
import Derived.Test.YtooeonjkpgbdpaaDoorNewton
import Derived.Deep.DeepCutAuto
namespace Go.Proofs.YtooeonjkpgbdpaaDoor
open Go.RowKit Mat
set_option maxRecDepth 100000
set_option linter.unusedVariables false
set_option linter.unusedSimpArgs false

/-- Two numbers are answered. -/
def RetNat2 (w : World) (n k : Nat) (e : Ending) (w' : World) : Prop := ∃ v u, e = .returned (.tuple #[v, u]) ∧ NatV w' v n ∧ NatV w' u k ∧ w.grownBy w' none
/-- A root, and the rest. -/
def RetRooted (w : World) (a : Nat) (e : Ending) (w' : World) : Prop := ∃ r, IsRoot a r ∧ RetNat2 w r (a - r * r) e w'

theorem IsRoot.le {a r : Nat} (h : IsRoot a r) : r ≤ a := by
  have := h.1
  rcases Nat.eq_zero_or_pos r with h0 | h0
  · omega
  · exact Nat.le_trans (Nat.le_mul_of_pos_left r h0) this

/-- Two numbers stand in the call's own results. -/
def PairIn (w : World) (g1 g2 : Nat) (s1 : Option Addr) (q1 : List Nat) (n2 : Nat) (w' : World) : Prop :=
  ∃ (s2 : Option Addr) (q2 : List Nat), w'.heap[g1]? = some (.cells #[.slice s1 q1.length q1.length] 24 (0, 0)) ∧ w'.heap[g2]? = some (.cells #[.slice s2 q2.length q2.length] 24 (0, 0)) ∧ Lm w' s1 q1 ∧ Lm w' s2 q2 ∧ val B q2 = n2 ∧ w.grownBy w' none
theorem heap_set {w : World} {g : Nat} {v0 : Value} {t : TypeId} (h : w.heap[g]? = some (.cells #[v0] t (0, 0))) (v : Value) : (w.setCell ⟨g, 0, none⟩ v).heap[g]? = some (.cells #[v] t (0, 0)) := by
  simp [World.setCell, Array.getElem?_modify, h]
theorem heap_unset {w : World} {g k : Nat} {o : Obj} (h : w.heap[k]? = some o) (hk : k ≠ g) (v : Value) : (w.setCell ⟨g, 0, none⟩ v).heap[k]? = some o := (Below.heap_setCell _ _ _ _ (by simpa using hk)).trans h
theorem pair_12 {w w' : World} {g1 g2 n2 : Nat} {s1 s2 : Option Addr} {q1 q2 : List Nat} {u1 u2 : Value} (hne : g1 ≠ g2) (h1 : w'.heap[g1]? = some (.cells #[u1] 24 (0, 0))) (h2 : w'.heap[g2]? = some (.cells #[u2] 24 (0, 0))) (l1 : Lm w' s1 q1) (l2 : Lm w' s2 q2) (hv : val B q2 = n2) (hg : w.grownBy w' none) (k1 : w.heap.size ≤ g1) (k2 : w.heap.size ≤ g2) :
    PairIn w g1 g2 s1 q1 n2 ((w'.setCell ⟨g1, 0, none⟩ (.slice s1 q1.length q1.length)).setCell ⟨g2, 0, none⟩ (.slice s2 q2.length q2.length)) := by
  have e1 := heap_set h1 (.slice s1 q1.length q1.length)
  have e2 := heap_unset h2 (Ne.symm hne) (.slice s1 q1.length q1.length)
  exact ⟨s2, q2, heap_unset e1 hne _, heap_set e2 _, (l1.set_other h1 (by decide) 0 _).set_other e2 (by decide) 0 _, (l2.set_other h1 (by decide) 0 _).set_other e2 (by decide) 0 _, hv, grown_new (grown_new hg (grown_set (grown_refl _ _) _ _) k1) (grown_set (grown_refl _ _) _ _) k2⟩
theorem pair_21 {w w' : World} {g1 g2 n2 : Nat} {s1 s2 : Option Addr} {q1 q2 : List Nat} {u1 u2 : Value} (hne : g1 ≠ g2) (h1 : w'.heap[g1]? = some (.cells #[u1] 24 (0, 0))) (h2 : w'.heap[g2]? = some (.cells #[u2] 24 (0, 0))) (l1 : Lm w' s1 q1) (l2 : Lm w' s2 q2) (hv : val B q2 = n2) (hg : w.grownBy w' none) (k1 : w.heap.size ≤ g1) (k2 : w.heap.size ≤ g2) :
    PairIn w g1 g2 s1 q1 n2 ((w'.setCell ⟨g2, 0, none⟩ (.slice s2 q2.length q2.length)).setCell ⟨g1, 0, none⟩ (.slice s1 q1.length q1.length)) := by
  have e2 := heap_set h2 (.slice s2 q2.length q2.length)
  have e1 := heap_unset h1 hne (.slice s2 q2.length q2.length)
  exact ⟨s2, q2, heap_set e1 _, heap_unset e2 (Ne.symm hne) _, (l1.set_other h2 (by decide) 0 _).set_other e1 (by decide) 0 _, (l2.set_other h2 (by decide) 0 _).set_other e1 (by decide) 0 _, hv, grown_new (grown_new hg (grown_set (grown_refl _ _) _ _) k2) (grown_set (grown_refl _ _) _ _) k1⟩
theorem pair_2 {w w' : World} {g1 g2 n2 : Nat} {s1 s2 : Option Addr} {q1 q2 : List Nat} {u2 : Value} (hne : g1 ≠ g2) (h1 : w'.heap[g1]? = some (.cells #[.slice s1 q1.length q1.length] 24 (0, 0))) (h2 : w'.heap[g2]? = some (.cells #[u2] 24 (0, 0))) (l1 : Lm w' s1 q1) (l2 : Lm w' s2 q2) (hv : val B q2 = n2) (hg : w.grownBy w' none) (k2 : w.heap.size ≤ g2) :
    PairIn w g1 g2 s1 q1 n2 (w'.setCell ⟨g2, 0, none⟩ (.slice s2 q2.length q2.length)) :=
  ⟨s2, q2, heap_unset h1 hne _, heap_set h2 _, l1.set_other h2 (by decide) 0 _, l2.set_other h2 (by decide) 0 _, hv, grown_new hg (grown_set (grown_refl _ _) _ _) k2⟩

set_option maxHeartbeats 2000000 in
theorem Root_zero (w : World) (va : Value) (ha : NatV w va 0) :
    Calls Tryd.prog 39 #[va] w (RetRooted w 0) := by
  obtain ⟨sa, xs, rfl, hx, h0⟩ := ha
  obtain rfl := (val_zero_iff B B_pos xs hx.top).1 h0
  clear h0
  simp only [List.length_nil]
  go_enter Tryd.func39, Tryd.ntmps39
  go_wp2_with fail
  exact bodyPost_ret (v := .tuple #[.agg #[.slice none 0 0], .agg #[.slice none 0 0]]) (by simp [results, Tryd.results39, go_sem]) rfl ⟨0, ⟨by omega, by omega⟩, _, _, rfl, NatV.zero _, NatV.zero _, by repeat (first | exact World.grownBy_alloc _ _ _ | refine grown_alloc ?_ _ | refine grown_new (g := w.heap.size + 1 + 1) ?_ (grown_set (grown_refl _ _) _ _) (by omega) | refine grown_new (g := w.heap.size + 1) ?_ (grown_set (grown_refl _ _) _ _) (by omega))⟩

set_option maxHeartbeats 4000000 in
theorem Root_some (w : World) (va : Value) (a K : Nat) (ha : NatV w va a) (h0 : 0 < a) (la : a < B ^ K) (hK1 : 1 ≤ K) (hK : K ≤ 536870912) :
    Calls Tryd.prog 39 #[va] w (RetRooted w a) := by
  obtain ⟨sa, xs, rfl, hx, rfl⟩ := ha
  have hlen := hx.len la
  have hxp := val_pos_of hx h0
  obtain ⟨b1, o1, cs1, rfl, hb1, hat1⟩ := hx.rd.get 0 (by omega)
  have H0 := Lib.hid h0
  have Hla := Lib.hid la
  have f1 : ((xs.length : Int) == 0) = false := beq_eq_false_iff_ne.2 (by omega)
  clear h0 la
  have hgw0 : w.grownBy (((w.alloc (.cells #[.slice (some ⟨b1, o1, none⟩) xs.length xs.length] 24)).alloc (.cells #[.slice none 0 0] 24)).alloc (.cells #[.slice none 0 0] 24)) none := grown_alloc (grown_alloc (World.grownBy_alloc _ _ _) _) _
  have hboxa0 := ((Below.heap_alloc _ (.cells #[.slice none 0 0] 24) w.heap.size (by simp; omega)).trans (Below.heap_alloc _ (.cells #[.slice none 0 0] 24) w.heap.size (by simp))).trans (heap_new w (.cells #[.slice (some ⟨b1, o1, none⟩) xs.length xs.length] 24) w.heap.size rfl)
  have hbox10 := (Below.heap_alloc _ (.cells #[.slice none 0 0] 24) (w.heap.size + 1) (by simp)).trans (heap_new (w.alloc (.cells #[.slice (some ⟨b1, o1, none⟩) xs.length xs.length] 24)) (.cells #[.slice none 0 0] 24) (w.heap.size + 1) (by simp))
  have hbox20 := heap_new ((w.alloc (.cells #[.slice (some ⟨b1, o1, none⟩) xs.length xs.length] 24)).alloc (.cells #[.slice none 0 0] 24)) (.cells #[.slice none 0 0] 24) (w.heap.size + 1 + 1) (by simp)
  go_enter Tryd.func39, Tryd.ntmps39
  go_wp2_with fail
  refine (rootOf_any _ _ _ K ⟨_, xs, rfl, hx.kept hgw0, rfl⟩ H0.out Hla.out hK1 hK).mono ?_
  rintro e w1 ⟨v, r, rfl, hN1, hR, hg1⟩
  have hR := Lib.hid hR
  obtain ⟨sr, rs, rfl, hl1, hv1⟩ := hN1
  have hgw1 := grown_trans hgw0 hg1
  have hboxa1 := heap_kept hg1 hboxa0
  have hbox11 := heap_kept hg1 hbox10
  have hbox21 := heap_kept hg1 hbox20
  have HV1 := Lib.hid hv1
  have hgA := World.grownBy_alloc w1 (.cells #[.slice sr rs.length rs.length] 24) none
  have hgw2 := grown_trans hgw1 hgA
  have hboxa2 := heap_kept hgA hboxa1
  have hbox12 := heap_kept hgA hbox11
  have hbox22 := heap_kept hgA hbox21
  have hboxr2 := heap_new w1 (.cells #[.slice sr rs.length rs.length] 24) _ rfl
  have hl2 := hl1.kept hgA
  have hsz1 : w.heap.size + 1 + 1 < w1.heap.size := (Array.getElem?_eq_some_iff.1 hbox21).1
  obtain ⟨ca2, fa2⟩ := box_cell hboxa2
  clear hg1 hgw0 hboxa0 hbox10 hbox20 hv1 hboxa1 hbox11 hbox21 hgw1 hl1 hgA
  go_wp2_with fail
  generalize (w1.alloc (.cells #[.slice sr rs.length rs.length] 24)) = w2 at *
  generalize w1.heap.size = g2 at *
  refine (Clone_at _ b1 o1 _ _ cs1 xs rfl (hb1.kept hgw2 (by simp)) hat1 hxp (by omega)).mono ?_
  rintro e w3 ⟨g, cap, cs3, rfl, hge, hb3, hat3, hcap, hg3⟩
  have hgw3 := grown_trans hgw2 hg3
  have hbox13 := heap_kept hg3 hbox12
  have hbox23 := heap_kept hg3 hbox22
  have hboxr3 := heap_kept hg3 hboxr2
  have hl3 := hl2.kept hg3
  have hsz2 : g2 < w2.heap.size := (Array.getElem?_eq_some_iff.1 hboxr2).1
  have hgne : g2 < g := by omega
  obtain ⟨cr3, fr3⟩ := box_cell hboxr3
  have hfld := run_field
  have HG3 := Lib.hid hg3
  have HGE := Lib.hid hge
  have HL2 := Lib.hid hl2
  have hrK : Hid (r < B ^ K) := Nat.lt_of_le_of_lt hR.out.le Hla.out
  clear hg3 hgw2 hboxa2 hbox12 hbox22 hboxr2 hl2 ca2 fa2 hsz2 hge
  go_wp2_with fail
  refine (Mul_fresh w3 _ _ r r K ⟨sr, rs, rfl, hl3, HV1.out⟩ ⟨sr, rs, rfl, hl3, HV1.out⟩ (by omega) hrK.out hrK.out).mono ?_
  rintro e w4 ⟨sp, ps, rfl, hl4, hv4, hf4, hg4⟩
  have hlp : Rd w4 sp ps g := by
    rcases hl4.rd with h | ⟨b, off, cs, e, h1, h2⟩
    · exact Or.inl h
    · exact Or.inr ⟨b, off, cs, e, by have := hf4 _ e; have := hb3.lt; simp only at *; omega, h1, h2⟩
  have hgw4 := grown_trans hgw3 hg4
  have hbox14 := heap_kept hg4 hbox13
  have hbox24 := heap_kept hg4 hbox23
  have hboxr4 := heap_kept hg4 hboxr3
  have hl34 := hl3.kept hg4
  have hb4 := hb3.kept hg4 (by simp)
  have hple : Hid (val B ps ≤ val B xs) := by show _ ≤ _; rw [hv4]; exact hR.out.1
  have hplen : ps.length ≤ xs.length := len_le_of hl4 (hx.kept hgw4) hple.out
  have HV4 := Lib.hid hv4
  have HG4 := Lib.hid hg4
  clear hg4 hgw3 hbox13 hbox23 hboxr3 hl3 hb3 cr3 fr3 hv4
  go_wp2_with fail
  refine (takeFrom_at w4 g 0 _ _ xs cs3 sp _ _ ps rfl rfl hb4 hat3 hlp hplen (by omega) hx.dig hl4.dig hple.out).mono ?_
  rintro e w5 ⟨zs, cs5, rfl, hb5, hw5, hg5, hl5, hd5, hv5⟩
  have hbox15 := heap_row hg5 hbox14 (by omega)
  have hbox25 := heap_row hg5 hbox24 (by omega)
  have hboxr5 := heap_row hg5 hboxr4 (by omega)
  have hgw5 := grown_new hgw4 hg5 (by omega)
  have hlr5 : Lm w5 sr rs := HL2.out.kept (grown_new (grown_trans HG3.out HG4.out) hg5 HGE.out)
  have HV5 : Hid (val B zs = val B xs - r * r) := by show _ = _; rw [← HV4.out]; omega
  have HL5 := Lib.hid hl5
  have hr5 := Rdo.of hb5 hw5.lies
  obtain ⟨cr5, fr5⟩ := box_cell hboxr5
  obtain ⟨cb15, fb15⟩ := box_cell hbox15
  obtain ⟨cb25, fb25⟩ := box_cell hbox25
  have hlr5' : Hid (∀ W, w5.grownBy W none → Lm W sr rs) := fun W hW => hlr5.kept hW
  clear hv5 hl5 hg5 hgw4 hbox14 hbox24 hboxr4 hl34 HG3 HG4 HL2 HGE hb4 hlp hl4 hw5 hat3
  go_wp2_with fail
  go_cut [] (fun wx => PairIn w (w.heap.size + 1) (w.heap.size + 1 + 1) sr rs (val B xs - r * r) wx)
  case first =>
    go_region_held3 (fun w' => w'.cell? ⟨g2, 0, none⟩ = some (.slice sr rs.length rs.length))
      (first | go_keep | (rw [World.cell?_setCell_other _ _ _ _ (by simp only [ne_eq, Addr.mk.injEq]; omega)]; assumption) | (rw [World.cell?_setCell_other _ _ _ _ (by simp only [ne_eq, Addr.mk.injEq]; omega), World.cell?_setCell_other _ _ _ _ (by simp only [ne_eq, Addr.mk.injEq]; omega)]; assumption) | exact (grown_pre w5 hg6 rfl rfl rfl rfl).cell cr5 (by simp) | exact hg6.cell (by assumption) (by simp))
      (first
        | (go_at_call 46; (with_reducible refine (own_at (w5.setCell ⟨w.heap.size + 1, 0, none⟩ (.slice sr rs.length rs.length)).drew _ _ _ zs HL5.out ((hr5.set_other hbox15 (by decide) 0 _).kept (grown_drew (grown_refl _ _))) (by omega) (by omega) hd5).mono ?_); rintro e w6 ⟨_, rfl, ⟨s6, q6, rfl, hl6, hv6⟩, hg6⟩; have q1 := heap_kept hg6 (show ((w5.setCell ⟨w.heap.size + 1, 0, none⟩ (.slice sr rs.length rs.length)).drew).heap[w.heap.size + 1]? = _ from heap_set hbox15 _); have q2 := heap_kept hg6 (show ((w5.setCell ⟨w.heap.size + 1, 0, none⟩ (.slice sr rs.length rs.length)).drew).heap[w.heap.size + 1 + 1]? = _ from heap_unset hbox25 (by omega) _); obtain ⟨q1c, q1f⟩ := box_cell q1; obtain ⟨q2c, q2f⟩ := box_cell q2)
        | (go_at_call 46; (with_reducible refine (own_at w5.drew _ _ _ zs HL5.out (hr5.kept (grown_drew (grown_refl _ _))) (by omega) (by omega) hd5).mono ?_); rintro e w6 ⟨_, rfl, ⟨s6, q6, rfl, hl6, hv6⟩, hg6⟩; have hG6 := grown_pre w5 hg6 rfl rfl rfl rfl; have q1 := heap_kept hG6 hbox15; have q2 := heap_kept hG6 hbox25; obtain ⟨q1c, q1f⟩ := box_cell q1; obtain ⟨q2c, q2f⟩ := box_cell q2))
    go_wp2_with fail
    go_meet
    exact pair_12 (by omega) q1 q2 (hlr5'.out _ hG6) hl6 (hv6.trans HV5.out) (grown_trans hgw5 hG6) (by omega) (by omega)
  case rest =>
    obtain ⟨s2, q2, h1, h2, l1, l2, hv, hg⟩ := hcut
    obtain ⟨c1, f1⟩ := box_cell h1
    obtain ⟨c2, f2⟩ := box_cell h2
    have HF : Hid (RetRooted w (val B xs) (.returned (.tuple #[.agg #[.slice sr rs.length rs.length], .agg #[.slice s2 q2.length q2.length]])) wc) := ⟨r, hR.out, _, _, rfl, ⟨sr, rs, rfl, l1, HV1.out⟩, ⟨s2, q2, rfl, l2, hv⟩, hg⟩
    go_wp2_with fail
    exact bodyPost_ret (v := .tuple #[.agg #[.slice sr rs.length rs.length], .agg #[.slice s2 q2.length q2.length]]) (by simp [results, Tryd.results39, go_sem, c1, c2]) rfl HF.out
end Go.Proofs.YtooeonjkpgbdpaaDoor
