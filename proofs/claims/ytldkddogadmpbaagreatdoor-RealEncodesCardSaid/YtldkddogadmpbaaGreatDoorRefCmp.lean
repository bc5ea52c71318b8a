/- Which of two of the document's own numbers is greater. -/
import Derived.Test.YtldkddogadmpbaaGreatDoorRefOf
namespace Go.Proofs.YtldkddogadmpbaaGreatDoor
open Go.RowKit Mat
set_option maxRecDepth 100000
set_option linter.unusedVariables false
set_option linter.unusedSimpArgs false

def RetCmp (w : World) (a b : Nat) (e : Ending) (w' : World) : Prop := e = .returned (.int .i64 (cmpInt a b)) ∧ w.grownBy w' none

theorem rlen {xs : List Nat} {n K : Nat} (ht : Top xs) (hn : xs.length = n) (h : val D xs < D ^ K) : n ≤ K := by
  rcases Nat.lt_or_ge K n with h1 | h1
  · have h2 := val_ge D xs (by rintro rfl; simp at hn; omega) ht
    have h3 : D ^ K ≤ D ^ (xs.length - 1) := Nat.pow_le_pow_right D_pos (by omega)
    omega
  · exact h1

set_option maxHeartbeats 4000000 in
theorem rCmp_any (w : World) (va vb : Value) (a b : Nat) (ha : RefV w va a) (hb : RefV w vb b) (ba : a < D ^ 1000000) (bb : b < D ^ 1000000) :
    Calls Tryz.prog 32 #[va, vb] w (RetCmp w a b) := by
  obtain ⟨sa, n, cx, xs, rfl, hn, hnc, hx, tx, dx, rfl⟩ := ha
  obtain ⟨sb, m, cy, ys, rfl, hm, hmc, hy, ty, dy, rfl⟩ := hb
  have Hn := Lib.hid hn
  have Hm := Lib.hid hm
  have hn6 : n ≤ 1000000 := rlen tx hn ba
  have hm6 : m ≤ 1000000 := rlen ty hm bb
  have hgw0 : w.grownBy ((w.alloc (.cells #[.slice sa n cx] 34)).alloc (.cells #[.slice sb m cy] 34)) none := grown_alloc (World.grownBy_alloc _ _ _) _
  have hboxb := heap_new (w.alloc (.cells #[.slice sa n cx] 34)) (.cells #[.slice sb m cy] 34) (w.heap.size + 1) (by simp)
  have hboxa := (Below.heap_alloc _ (.cells #[.slice sb m cy] 34) w.heap.size (by simp)).trans (heap_new w (.cells #[.slice sa n cx] 34) w.heap.size rfl)
  obtain ⟨ca, fa⟩ := box_cell hboxa
  obtain ⟨cb, fb⟩ := box_cell hboxb
  have hx0 := hx.kept hgw0
  have hy0 := hy.kept hgw0
  clear hn hm hboxa hboxb hx hy ba bb
  rcases Nat.lt_trichotomy n m with h | h | h
  · have hF : Hid (cmpInt (val D xs) (val D ys) = -1) := cmpInt_lt (val_lt_of_length D D_pos xs ys dx ty (by rw [Hn.out, Hm.out]; exact h))
    have f1 : decide ((n : Int) < (m : Int)) = true := decide_eq_true (by omega)
    go_enter Tryz.func32, Tryz.ntmps32
    go_wp2_with fail
    go_ret
    exact ⟨by rw [hF.out]; rfl, hgw0⟩
  · subst h
    go_enter Tryz.func32, Tryz.ntmps32
    go_wp2_with fail
    generalize ((w.alloc (.cells #[.slice sa n cx] 34)).alloc (.cells #[.slice sb n cy] 34)) = w0 at *
    go_loopw [5] (fun i wr => ∃ (k q : Nat), k ≤ n ∧ i = .int .i64 ((k : Int) - 1) ∧ wr = w0.drewN q ∧ Hid (xs.drop k = ys.drop k)) (fun i _ => (intOf i + 1).toNat)
    case atStart => exact ⟨n, 0, Nat.le_refl _, rfl, rfl, by show _ = _; rw [List.drop_eq_nil_of_le (by rw [Hn.out]; omega), List.drop_eq_nil_of_le (by rw [Hm.out]; omega)]⟩
    case round =>
      obtain ⟨k, q, hk, rfl, rfl, hd⟩ := hrel
      by_cases h0 : k = 0
      · subst h0
        go_wp2_with fail
        go_ret
        exact ⟨by rw [cmpInt_eq (by have := hd.out; simp at this; rw [this])]; rfl, grown_trans hgw0 (grown_drewN _ _ _)⟩
      · obtain ⟨j, rfl⟩ : ∃ j, k = j + 1 := ⟨k - 1, by omega⟩
        clear h0
        obtain ⟨b1, o1, cs1, rfl, hb1, hat1⟩ := hx0.get j (by rw [Hn.out]; omega)
        obtain ⟨b2, o2, cs2, rfl, hb2, hat2⟩ := hy0.get j (by rw [Hm.out]; omega)
        obtain ⟨x, ex⟩ : ∃ x, xs[j]'(by rw [Hn.out]; omega) = x := ⟨_, rfl⟩
        obtain ⟨y, ey⟩ : ∃ y, ys[j]'(by rw [Hm.out]; omega) = y := ⟨_, rfl⟩
        have c1 : w0.cell? ⟨b1, o1 + j, none⟩ = some (.int .i64 (x : Int)) := by
          rw [hb1.cell, hat1 j (by rw [Hn.out]; omega), ex]; rfl
        have c2 : w0.cell? ⟨b2, o2 + j, none⟩ = some (.int .i64 (y : Int)) := by
          rw [hb2.cell, hat2 j (by rw [Hm.out]; omega), ey]; rfl
        have e1 : ((j + 1 : Nat) : Int) - 1 = (j : Int) := by omega
        rw [e1]
        clear e1
        have EX := Lib.hid ex
        have EY := Lib.hid ey
        clear ex ey
        rcases Nat.lt_trichotomy x y with hxy | hxy | hxy
        · have t1 : decide ((x : Int) < (y : Int)) = true := decide_eq_true (by omega)
          have hC := Lib.hid (cmpInt_lt (val_lt_at D xs ys j (by rw [Hn.out, Hm.out]) (by rw [Hn.out]; omega) dx hd.out (by rw [EX.out, EY.out]; exact hxy)))
          go_wp2_with fail
          go_quiet (fail)
          go_wp2_with fail
          go_ret
          exact ⟨by rw [hC.out]; rfl, grown_trans hgw0 (grown_trans (grown_drewN _ _ _) (grown_drewN _ _ _))⟩
        · subst hxy
          have t1 : decide ((x : Int) < (x : Int)) = false := decide_eq_false (by omega)
          go_wp2_with fail
          go_quiet (fail)
          go_wp2_with fail
          go_quiet (fail)
          go_wp2_with fail
          go_roundw
          case rel => exact ⟨j, _, by omega, by go_num, rfl, by
            show _ = _; rw [List.drop_eq_getElem_cons (by rw [Hn.out]; omega), List.drop_eq_getElem_cons (l := ys) (by rw [Hm.out]; omega), EX.out, EY.out, hd.out]⟩
          case measure => simp [intOf]
        · have t1 : decide ((x : Int) < (y : Int)) = false := decide_eq_false (by omega)
          have t2 : decide ((y : Int) < (x : Int)) = true := decide_eq_true (by omega)
          have hC := Lib.hid (cmpInt_gt (val_lt_at D ys xs j (by rw [Hn.out, Hm.out]) (by rw [Hm.out]; omega) dy hd.out.symm (by rw [EX.out, EY.out]; exact hxy)))
          go_wp2_with fail
          go_quiet (fail)
          go_wp2_with fail
          go_quiet (fail)
          go_wp2_with fail
          go_ret
          exact ⟨by rw [hC.out]; rfl, grown_trans hgw0 (grown_trans (grown_trans (grown_drewN _ _ _) (grown_drewN _ _ _)) (grown_drewN _ _ _))⟩
  · have hF : Hid (cmpInt (val D xs) (val D ys) = 1) := cmpInt_gt (val_lt_of_length D D_pos ys xs dy tx (by rw [Hn.out, Hm.out]; exact h))
    have f1 : decide ((n : Int) < (m : Int)) = false := decide_eq_false (by omega)
    have f2 : decide ((m : Int) < (n : Int)) = true := decide_eq_true (by omega)
    go_enter Tryz.func32, Tryz.ntmps32
    go_wp2_with fail
    go_ret
    exact ⟨by rw [hF.out]; rfl, hgw0⟩
end Go.Proofs.YtldkddogadmpbaaGreatDoor
