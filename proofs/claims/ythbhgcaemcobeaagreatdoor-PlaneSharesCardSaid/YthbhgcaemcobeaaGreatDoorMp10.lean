/- What the laws lean on, part 10. -/
import Derived.Test.YthbhgcaemcobeaaGreatDoorMp9
import Derived.Test.YthbhgcaemcobeaaGreatDoorMp5
namespace Go.Proofs.YthbhgcaemcobeaaGreatDoor
open Go.RowKit Mat
set_option maxRecDepth 100000
set_option linter.unusedVariables false
set_option linter.unusedSimpArgs false
theorem zfl {x y q r : Int} (h0 : 0 ≤ r) (h1 : r < y.natAbs) (h : r + y * q = x) : q = x / y ∧ r = x % y := by
  rcases Int.lt_trichotomy y 0 with hy | hy | hy
  · have t : x / (-y) = -q ∧ x % (-y) = r := (Int.ediv_emod_unique (by omega)).2 ⟨by rw [Int.neg_mul_neg]; exact h, h0, by omega⟩
    rw [Int.ediv_neg, Int.emod_neg] at t
    exact ⟨by omega, t.2.symm⟩
  · subst hy; simp at h1; omega
  · have t : x / y = q ∧ x % y = r := (Int.ediv_emod_unique hy).2 ⟨h, h0, by omega⟩
    exact ⟨t.1.symm, t.2.symm⟩
theorem floor_far {x y : Int} {za zb : Bool} (ha : za = true ↔ x < 0) (hb : zb = true ↔ y < 0) (k r : Nat) (hr : r < y.natAbs) (h : (¬ x < 0 ∧ y.natAbs * k + r = x.natAbs) ∨ (x < 0 ∧ y.natAbs * k = x.natAbs + r)) :
    (if (za != zb) = true then -(k : Int) else k) = x / y ∧ (r : Int) = x % y := by
  refine zfl (by omega) (by omega) ?_
  have e : ((y.natAbs * k : Nat) : Int) = (y.natAbs : Int) * (k : Int) := Int.natCast_mul _ _
  have e1 := side_abs ha
  have e2 := side_abs hb
  obtain ⟨m, hm⟩ : ∃ m : Int, (y.natAbs : Int) = m := ⟨_, rfl⟩
  have f1 : m * -(k : Int) = -(m * k) := Int.mul_neg _ _
  have f2 : -m * (k : Int) = -(m * k) := Int.neg_mul _ _
  have f3 : -m * -(k : Int) = m * k := Int.neg_mul_neg _ _
  rw [hm] at e e2
  generalize y.natAbs * k = p at *
  cases za <;> cases zb <;> simp at e1 e2 ha hb ⊢
  · rw [← e2]; omega
  · rw [← e2, f3]; omega
  · rw [← e2, f1]; omega
  · rw [← e2, f2]; omega
def RetInt2E (w : World) (n k : Int) (code : Int) (e : Ending) (w' : World) : Prop := ∃ v u, e = .returned (.tuple #[v, u, .int .i64 code]) ∧ IntV w' v n ∧ IntV w' u k ∧ w.grownBy w' none
theorem IntV.zero (w : World) : IntV w (.agg #[.slice none 0 0, .bool false]) 0 := ⟨none, [], false, rfl, ⟨Or.inl rfl, fun _ => rfl, by intro x hx; simp at hx, Dig.nil _⟩, rfl, by simp⟩
theorem IntV.set_other {w : World} {v : Value} {n : Int} {g : Nat} {c : Array Value} {t : TypeId} (h : IntV w v n) (hbox : w.heap[g]? = some (.cells c t (0, 0))) (ht : t ≠ 80) (o : Nat) (u : Value) : IntV (w.setCell ⟨g, o, none⟩ u) v n := by
  obtain ⟨sa, xs, b, e, h1, h2⟩ := h
  exact ⟨sa, xs, b, e, h1.set_other hbox ht o u, h2⟩
theorem heap_set_fst {w : World} {g : Nat} {a0 a1 : Value} {t : TypeId} (h : w.heap[g]? = some (.cells #[a0, a1] t (0, 0))) (v0 : Value) : (w.setCell ⟨g, 0, none⟩ v0).heap[g]? = some (.cells #[v0, a1] t (0, 0)) := by
  simp [World.setCell, Array.getElem?_modify, h]
theorem IntV.set2 {w : World} {v : Value} {n : Int} {g : Nat} {a0 a1 : Value} (h : IntV w v n) (hbox : w.heap[g]? = some (.cells #[a0, a1] 30 (0, 0))) (v0 v1 : Value) : IntV ((w.setCell ⟨g, 0, none⟩ v0).setCell ⟨g, 1, none⟩ v1) v n :=
  (h.set_other hbox (by decide) 0 v0).set_other (heap_set_fst hbox v0) (by decide) 1 v1
theorem grown_set2 {w w' : World} {g : Nat} (hg : w.grownBy w' none) (hl : w.heap.size ≤ g) (v0 v1 : Value) : w.grownBy ((w'.setCell ⟨g, 0, none⟩ v0).setCell ⟨g, 1, none⟩ v1) none :=
  grown_new (grown_new hg (grown_set (grown_refl _ _) _ _) hl) (grown_set (grown_refl _ _) _ _) hl
theorem ret_int2 {w w' : World} {x y : Int} {g : Nat} {c0 c1 d0 d1 u0 u1 t0 t1 : Value} {code : Int} (hg : w.grownBy w' none) (hb1 : w'.heap[g]? = some (.cells #[c0, c1] 30 (0, 0))) (hb2 : w'.heap[g + 1]? = some (.cells #[d0, d1] 30 (0, 0))) (hl : w.heap.size ≤ g) (h1 : IntV w' (.agg #[u0, u1]) x) (h2 : IntV w' (.agg #[t0, t1]) y) :
    RetInt2E w x y code (.returned (.tuple #[.agg #[u0, u1], .agg #[t0, t1], .int .i64 code])) ((((w'.setCell ⟨g, 0, none⟩ u0).setCell ⟨g, 1, none⟩ u1).setCell ⟨g + 1, 0, none⟩ t0).setCell ⟨g + 1, 1, none⟩ t1) := by
  have hb2' := heap_unset2 hb2 (show g + 1 ≠ g by omega) u0 u1
  exact ⟨_, _, rfl, (h1.set2 hb1 u0 u1).set2 hb2' t0 t1, (h2.set2 hb1 u0 u1).set2 hb2' t0 t1, grown_set2 (grown_set2 hg hl u0 u1) (by omega) t0 t1⟩
theorem cells_int2 {w : World} {g : Nat} {c0 c1 d0 d1 : Value} {t t' : TypeId} (hb1 : w.heap[g]? = some (.cells #[c0, c1] t (0, 0))) (hb2 : w.heap[g + 1]? = some (.cells #[d0, d1] t' (0, 0))) (u0 u1 t0 t1 : Value) :
    let W := (((w.setCell ⟨g, 0, none⟩ u0).setCell ⟨g, 1, none⟩ u1).setCell ⟨g + 1, 0, none⟩ t0).setCell ⟨g + 1, 1, none⟩ t1
    W.cell? ⟨g, 0, none⟩ = some u0 ∧ W.cell? ⟨g, 1, none⟩ = some u1 ∧ W.cell? ⟨g + 1, 0, none⟩ = some t0 ∧ W.cell? ⟨g + 1, 1, none⟩ = some t1 := by
  intro W
  have e1 := box_cells (heap_unset2 (heap_set2 hb1 u0 u1) (show g ≠ g + 1 by omega) t0 t1)
  have e2 := box_cells (heap_set2 (heap_unset2 hb2 (show g + 1 ≠ g by omega) u0 u1) t0 t1)
  exact ⟨e1.1, e1.2.1, e2.1, e2.2.1⟩
set_option maxHeartbeats 4000000 in
theorem ZFloor_zero (w : World) (va vb : Value) (x : Int) (ha : IntV w va x) (hb : IntV w vb 0) :
    Calls Tryz.prog 125 #[va, vb] w (RetInt2E w 0 0 5) := by
  obtain ⟨sa, xs, za, rfl, hx, hv, hza⟩ := ha
  obtain ⟨sb, ys, zb, rfl, hy, hvy, hzb⟩ := hb
  have hgw0 : w.grownBy ((((w.alloc (.cells #[.slice sa xs.length xs.length, .bool za] 30)).alloc (.cells #[.slice sb ys.length ys.length, .bool zb] 30)).alloc (.cells #[.slice none 0 0, .bool false] 30)).alloc (.cells #[.slice none 0 0, .bool false] 30)) none := grown_alloc (grown_alloc (grown_alloc (World.grownBy_alloc _ _ _) _) _) _
  have na : NatV ((((w.alloc (.cells #[.slice sa xs.length xs.length, .bool za] 30)).alloc (.cells #[.slice sb ys.length ys.length, .bool zb] 30)).alloc (.cells #[.slice none 0 0, .bool false] 30)).alloc (.cells #[.slice none 0 0, .bool false] 30)) (.agg #[.slice sa xs.length xs.length]) x.natAbs := ⟨sa, xs, rfl, hx.kept hgw0, hv⟩
  have nn : NatV ((((w.alloc (.cells #[.slice sa xs.length xs.length, .bool za] 30)).alloc (.cells #[.slice sb ys.length ys.length, .bool zb] 30)).alloc (.cells #[.slice none 0 0, .bool false] 30)).alloc (.cells #[.slice none 0 0, .bool false] 30)) (.agg #[.slice sb ys.length ys.length]) 0 := ⟨sb, ys, rfl, hy.kept hgw0, hvy⟩
  have hr1 := heap_kept (World.grownBy_alloc _ (.cells #[.slice none 0 0, .bool false] 30) none) (heap_new ((w.alloc (.cells #[.slice sa xs.length xs.length, .bool za] 30)).alloc (.cells #[.slice sb ys.length ys.length, .bool zb] 30)) (.cells #[.slice none 0 0, .bool false] 30) (w.heap.size + 1 + 1) (by simp))
  have hr2 := heap_new (((w.alloc (.cells #[.slice sa xs.length xs.length, .bool za] 30)).alloc (.cells #[.slice sb ys.length ys.length, .bool zb] 30)).alloc (.cells #[.slice none 0 0, .bool false] 30)) (.cells #[.slice none 0 0, .bool false] 30) (w.heap.size + 1 + 1 + 1) (by simp)
  clear hx hv hza hy hvy hzb
  go_enter Tryz.func125, Tryz.ntmps125
  go_wp2_with fail
  refine (Div_zero _ _ _ x.natAbs na nn).mono ?_
  rintro e w1 ⟨v1, v2, rfl, ⟨s1, x1, rfl, h1, vv1⟩, ⟨s2, x2, rfl, h2, vv2⟩, g1⟩
  have g2 := grown_alloc (grown_alloc g1 (.cells #[.slice s1 x1.length x1.length] 28)) (.cells #[.slice s2 x2.length x2.length] 28)
  have hgw := grown_trans hgw0 g2
  have hr12 := heap_kept g2 hr1
  have hr22 := heap_kept g2 hr2
  obtain ⟨c0, c1, f0, f1⟩ := box_cells hr12
  obtain ⟨d0, d1, k0, k1⟩ := box_cells hr22
  have hF : Hid (RetInt2E w 0 0 5 _ _) := ret_int2 hgw hr12 hr22 (by omega) (IntV.zero _) (IntV.zero _)
  have hQ := cells_int2 hr12 hr22 (.slice none 0 0) (.bool false) (.slice none 0 0) (.bool false)
  obtain ⟨q0, q1, q2, q3⟩ := hQ
  clear g1 g2 hgw0 na nn hr1 hr2 h1 vv1 h2 vv2
  go_wp2_with fail
  exact bodyPost_ret (v := .tuple #[.agg #[.slice none 0 0, .bool false], .agg #[.slice none 0 0, .bool false], .int .i64 5]) (by simp [results, Tryz.results125, go_sem, q0, q1, q2, q3]) rfl hF.out
end Go.Proofs.YthbhgcaemcobeaaGreatDoor
