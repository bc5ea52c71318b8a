/- What the laws lean on, part 20. -/
import Derived.BigQuiet
import Derived.BigRegion
import Derived.Deep.AppendLies
import Derived.Deep.CutBlock
import Derived.Deep.CutRange
import Derived.Deep.DeepCutAuto
import Derived.Deep.LoopGhost
import Derived.Deep.QuietTactic
import Derived.Deep.RegionHeld3
import Derived.Laws.CopyOwn
import Derived.Laws.Externs
import Derived.Laws.IdiomStrings
import Derived.Lib.BitFns
import Derived.Lib.Hide
import Derived.Lib.Slices
import Derived.Lib.Small
import Derived.Lib.Strings
import Derived.Lib.Walk
import Derived.Outline
import Derived.OwnWalk
import Derived.Shelf.Bits.Mul64
import Derived.Shelf.Spec.TrailingZeros
import Derived.StillTailTactics
import Derived.WalkKit
import Derived.WalkLawsBesides
import Derived.WalkSpells
import Derived.Test.YtoaepibannfbdaaGreatDoorProg
import Derived.Test.YtoaepibannfbdaaGreatDoorMr14
namespace Go.Proofs.YtoaepibannfbdaaGreatDoor
open Go.RowKit Mat
set_option maxRecDepth 100000
set_option linter.unusedVariables false
set_option linter.unusedSimpArgs false
set_option maxHeartbeats 2000000 in
theorem rcut_any (w : World) (s : Option Addr) (n cap : Nat) (xs : List Nat) (hn : xs.length = n) (hx : RRdo w s xs) (hnc : n ≤ cap) (bn : n ≤ 1099511627776) (dx : Dig D xs) :
    Calls Tryz.prog 135 #[.slice s n cap] w (RetRef w (val D xs)) := by
  have Hn := Lib.hid hn
  have hgw0 := World.grownBy_alloc w (.cells #[.slice none 0 0] 39) none
  have hbox0 := heap_new w (.cells #[.slice none 0 0] 39) w.heap.size rfl
  obtain ⟨cb, fb⟩ := box_cell hbox0
  have hx0 := hx.kept hgw0
  clear hn
  go_enter Tryz.func135, Tryz.ntmps135
  go_wp2_with fail
  generalize (w.alloc (.cells #[.slice none 0 0] 39)) = w0 at *
  go_loopw [3] (fun i wr => ∃ (k : Nat), k ≤ n ∧ i = .int .i64 k ∧ w0 = wr ∧ Hid (val D (xs.take k) = val D xs)) (fun i _ => (intOf i).toNat)
  case atStart => exact ⟨n, Nat.le_refl _, rfl, rfl, by show _ = _; rw [← Hn.out, List.take_length]⟩
  case round =>
    obtain ⟨k, hk, rfl, rfl, hv⟩ := hrel
    have hF : Hid (Top (xs.take k) → RetRef w (val D xs) (.returned (.agg #[.slice s k cap])) (w0.setCell ⟨w.heap.size, 0, none⟩ (.slice s k cap))) := by
      intro ht
      exact ⟨_, rfl, ⟨s, k, cap, xs.take k, rfl, by rw [List.length_take, Hn.out]; omega, by omega, (hx0.take k).set_other hbox0 (by decide) 0 _, ht, dx.take k, hv.out⟩, grown_new hgw0 (grown_set (grown_refl _ _) _ _) (Nat.le_refl _)⟩
    by_cases h0 : k = 0
    · subst h0
      have hF2 := Lib.hid (hF.out (by intro x hx; simp at hx))
      clear hF
      go_wp2_with fail
      exact bodyPost_ret (v := .agg #[.slice s 0 cap]) (by simp [results, Tryz.results135, go_sem, cb]) rfl hF2.out
    · obtain ⟨j, rfl⟩ : ∃ j, k = j + 1 := ⟨k - 1, by omega⟩
      clear h0
      obtain ⟨b1, o1, cs1, rfl, hb1, hat1⟩ := hx0.get j (by rw [Hn.out]; omega)
      obtain ⟨x, ex⟩ : ∃ x, xs[j]'(by rw [Hn.out]; omega) = x := ⟨_, rfl⟩
      have c1 : w0.cell? ⟨b1, o1 + j, none⟩ = some (.int .i64 (x : Int)) := by
        rw [hb1.cell, hat1 j (by rw [Hn.out]; omega), ex]; rfl
      have EX := Lib.hid ex
      clear ex
      by_cases hz : x = 0
      · subst hz
        clear hF
        go_wp2_with fail
        go_roundw
        case rel => exact ⟨j, by omega, by go_num, by trivial, by show _ = _; rw [← hv.out, val_take_succ D xs j (by rw [Hn.out]; omega), EX.out]; omega⟩
        case measure => simp [intOf]
      · have t : ((x : Int) == 0) = false := beq_eq_false_iff_ne.2 (by omega)
        have hF2 := Lib.hid (hF.out (top_take xs j (by rw [Hn.out]; omega) (by rw [EX.out]; exact hz)))
        clear hF
        go_wp2_with fail
        exact bodyPost_ret (v := .agg #[.slice (some ⟨b1, o1, none⟩) (j + 1) cap]) (by simp [results, Tryz.results135, go_sem, cb]) rfl hF2.out
end Go.Proofs.YtoaepibannfbdaaGreatDoor
namespace Go.Proofs.YtoaepibannfbdaaGreatDoor
open Go.RowKit Mat
set_option maxRecDepth 100000
set_option linter.unusedVariables false
set_option linter.unusedSimpArgs false
def RetCmp (w : World) (a b : Nat) (e : Ending) (w' : World) : Prop := e = .returned (.int .i64 (cmpInt a b)) ∧ w.grownBy w' none
set_option maxHeartbeats 4000000 in
theorem rCmp_any (w : World) (va vb : Value) (a b : Nat) (ha : RefV w va a) (hb : RefV w vb b) (ba : a < D ^ 1000000) (bb : b < D ^ 1000000) :
    Calls Tryz.prog 101 #[va, vb] w (RetCmp w a b) := by
  obtain ⟨sa, n, cx, xs, rfl, hn, hnc, hx, tx, dx, rfl⟩ := ha
  obtain ⟨sb, m, cy, ys, rfl, hm, hmc, hy, ty, dy, rfl⟩ := hb
  have Hn := Lib.hid hn
  have Hm := Lib.hid hm
  have hn6 : n ≤ 1000000 := rlen tx hn ba
  have hm6 : m ≤ 1000000 := rlen ty hm bb
  have hgw0 : w.grownBy ((w.alloc (.cells #[.slice sa n cx] 39)).alloc (.cells #[.slice sb m cy] 39)) none := grown_alloc (World.grownBy_alloc _ _ _) _
  have hboxb := heap_new (w.alloc (.cells #[.slice sa n cx] 39)) (.cells #[.slice sb m cy] 39) (w.heap.size + 1) (by simp)
  have hboxa := (Below.heap_alloc _ (.cells #[.slice sb m cy] 39) w.heap.size (by simp)).trans (heap_new w (.cells #[.slice sa n cx] 39) w.heap.size rfl)
  obtain ⟨ca, fa⟩ := box_cell hboxa
  obtain ⟨cb, fb⟩ := box_cell hboxb
  have hx0 := hx.kept hgw0
  have hy0 := hy.kept hgw0
  clear hn hm hboxa hboxb hx hy ba bb
  rcases Nat.lt_trichotomy n m with h | h | h
  · have hF : Hid (cmpInt (val D xs) (val D ys) = -1) := cmpInt_lt (val_lt_of_length D D_pos xs ys dx ty (by rw [Hn.out, Hm.out]; exact h))
    have f1 : decide ((n : Int) < (m : Int)) = true := decide_eq_true (by omega)
    go_enter Tryz.func101, Tryz.ntmps101
    go_wp2_with fail
    go_ret
    exact ⟨by rw [hF.out]; rfl, hgw0⟩
  · subst h
    go_enter Tryz.func101, Tryz.ntmps101
    go_wp2_with fail
    generalize ((w.alloc (.cells #[.slice sa n cx] 39)).alloc (.cells #[.slice sb n cy] 39)) = w0 at *
    go_loopw [5] (fun i wr => ∃ (k q : Nat), k ≤ n ∧ i = .int .i64 ((k : Int) - 1) ∧ wr = w0.drewN q ∧ Hid (xs.drop k = ys.drop k)) (fun i _ => (intOf i + 1).toNat)
    case atStart => exact ⟨n, 0, Nat.le_refl _, rfl, rfl, by show _ = _; rw [List.drop_eq_nil_of_le (by rw [Hn.out]; omega), List.drop_eq_nil_of_le (by rw [Hm.out]; omega)]⟩
    case round =>
      obtain ⟨k, q, hk, rfl, rfl, hd⟩ := hrel
      by_cases h0 : k = 0
      · subst h0
        go_wp2_with fail
        go_ret
        exact ⟨by rw [cmpInt_eq (by have := hd.out; simp at this; rw [this])]; rfl, grown_trans hgw0 (grown_drewN _ _ _)⟩
      · obtain ⟨j, rfl⟩ : ∃ j, k = j + 1 := ⟨k - 1, by omega⟩
        clear h0
        obtain ⟨b1, o1, cs1, rfl, hb1, hat1⟩ := hx0.get j (by rw [Hn.out]; omega)
        obtain ⟨b2, o2, cs2, rfl, hb2, hat2⟩ := hy0.get j (by rw [Hm.out]; omega)
        obtain ⟨x, ex⟩ : ∃ x, xs[j]'(by rw [Hn.out]; omega) = x := ⟨_, rfl⟩
        obtain ⟨y, ey⟩ : ∃ y, ys[j]'(by rw [Hm.out]; omega) = y := ⟨_, rfl⟩
        have c1 : w0.cell? ⟨b1, o1 + j, none⟩ = some (.int .i64 (x : Int)) := by
          rw [hb1.cell, hat1 j (by rw [Hn.out]; omega), ex]; rfl
        have c2 : w0.cell? ⟨b2, o2 + j, none⟩ = some (.int .i64 (y : Int)) := by
          rw [hb2.cell, hat2 j (by rw [Hm.out]; omega), ey]; rfl
        have e1 : ((j + 1 : Nat) : Int) - 1 = (j : Int) := by omega
        rw [e1]
        clear e1
        have EX := Lib.hid ex
        have EY := Lib.hid ey
        clear ex ey
        rcases Nat.lt_trichotomy x y with hxy | hxy | hxy
        · have t1 : decide ((x : Int) < (y : Int)) = true := decide_eq_true (by omega)
          have hC := Lib.hid (cmpInt_lt (val_lt_at D xs ys j (by rw [Hn.out, Hm.out]) (by rw [Hn.out]; omega) dx hd.out (by rw [EX.out, EY.out]; exact hxy)))
          go_wp2_with fail
          go_quiet (fail)
          go_wp2_with fail
          go_ret
          exact ⟨by rw [hC.out]; rfl, grown_trans hgw0 (grown_trans (grown_drewN _ _ _) (grown_drewN _ _ _))⟩
        · subst hxy
          have t1 : decide ((x : Int) < (x : Int)) = false := decide_eq_false (by omega)
          go_wp2_with fail
          go_quiet (fail)
          go_wp2_with fail
          go_quiet (fail)
          go_wp2_with fail
          go_roundw
          case rel => exact ⟨j, _, by omega, by go_num, rfl, by
            show _ = _; rw [List.drop_eq_getElem_cons (by rw [Hn.out]; omega), List.drop_eq_getElem_cons (l := ys) (by rw [Hm.out]; omega), EX.out, EY.out, hd.out]⟩
          case measure => simp [intOf]
        · have t1 : decide ((x : Int) < (y : Int)) = false := decide_eq_false (by omega)
          have t2 : decide ((y : Int) < (x : Int)) = true := decide_eq_true (by omega)
          have hC := Lib.hid (cmpInt_gt (val_lt_at D ys xs j (by rw [Hn.out, Hm.out]) (by rw [Hm.out]; omega) dy hd.out.symm (by rw [EX.out, EY.out]; exact hxy)))
          go_wp2_with fail
          go_quiet (fail)
          go_wp2_with fail
          go_quiet (fail)
          go_wp2_with fail
          go_ret
          exact ⟨by rw [hC.out]; rfl, grown_trans hgw0 (grown_trans (grown_trans (grown_drewN _ _ _) (grown_drewN _ _ _)) (grown_drewN _ _ _))⟩
  · have hF : Hid (cmpInt (val D xs) (val D ys) = 1) := cmpInt_gt (val_lt_of_length D D_pos ys xs dy tx (by rw [Hn.out, Hm.out]; exact h))
    have f1 : decide ((n : Int) < (m : Int)) = false := decide_eq_false (by omega)
    have f2 : decide ((m : Int) < (n : Int)) = true := decide_eq_true (by omega)
    go_enter Tryz.func101, Tryz.ntmps101
    go_wp2_with fail
    go_ret
    exact ⟨by rw [hF.out]; rfl, hgw0⟩
end Go.Proofs.YtoaepibannfbdaaGreatDoor
namespace Go.Proofs.YtoaepibannfbdaaGreatDoor
open Go.RowKit Mat
set_option maxRecDepth 100000
set_option linter.unusedVariables false
set_option linter.unusedSimpArgs false
theorem rret {w w' : World} {v : Value} {n g : Nat} {c : Array Value} {t : TypeId} (hg : w.grownBy w' none) (hbox : w'.heap[g]? = some (.cells c t (0, 0))) (ht : t ≠ 3) (hl : w.heap.size ≤ g) (h : RefV w' v n) (u : Value) :
    RetRef w n (.returned v) (w'.setCell ⟨g, 0, none⟩ u) := ⟨v, rfl, h.set_other hbox ht 0 u, grown_new hg (grown_set (grown_refl _ _) _ _) hl⟩
end Go.Proofs.YtoaepibannfbdaaGreatDoor
namespace Go.Proofs.YtoaepibannfbdaaGreatDoor
open Go.RowKit Mat
set_option maxRecDepth 100000
set_option linter.unusedVariables false
set_option linter.unusedSimpArgs false
theorem rcmp_divInt {n m d e : Int} (hd : 0 < d) (he : 0 < e) : rcmp (Rat.divInt n d) (Rat.divInt m e) = zcmp (n * e) (m * d) := by
  rw [rcmp_sub, Rat.divInt_sub_divInt _ _ (by omega) (by omega), rsg_divInt (Int.mul_pos hd he), zcmp_subE]
end Go.Proofs.YtoaepibannfbdaaGreatDoor
namespace Go.Proofs.YtoaepibannfbdaaGreatDoor
open Go.RowKit Mat
set_option maxRecDepth 100000
set_option linter.unusedVariables false
set_option linter.unusedSimpArgs false
theorem rless_step {v t s c x y d c' p : Nat} (h : v + t = s + c * p) (hd : d + y + c = x + c' * D) : v + p * d + (t + p * y) = s + p * x + c' * (p * D) := by
  have h2 : p * (d + y + c) = p * (x + c' * D) := by rw [hd]
  rw [Nat.mul_add, Nat.mul_add, Nat.mul_add] at h2
  have h3 : p * (c' * D) = c' * (p * D) := by grind
  have h4 : p * c = c * p := Nat.mul_comm _ _
  omega
set_option maxHeartbeats 8000000 in
theorem rLess_any (w : World) (va vb : Value) (a b : Nat) (ha : RefV w va a) (hb : RefV w vb b) (hle : b ≤ a) (ba : a < D ^ 1000000) :
    Calls Tryz.prog 137 #[va, vb] w (RetRef w (a - b)) := by
  have bb : b < D ^ 1000000 := Nat.lt_of_le_of_lt hle ba
  obtain ⟨sa, n, cx, xs, rfl, hn, hnc, hx, tx, dx, rfl⟩ := ha
  obtain ⟨sb, m, cy, ys, rfl, hm, hmc, hy, ty, dy, rfl⟩ := hb
  have Hn := Lib.hid hn
  have Hm := Lib.hid hm
  have Hle := Lib.hid hle
  have hn6 : n ≤ 1000000 := rlen tx hn ba
  have hm6 : m ≤ 1000000 := rlen ty hm bb
  have hmn : m ≤ n := by
    rcases Nat.lt_or_ge n m with h | h
    · have := val_lt_of_length D D_pos xs ys dx ty (by rw [hn, hm]; exact h)
      omega
    · exact h
  obtain ⟨i1, hi, hz0, hz1, hz2⟩ := info_partsI
  have hgw0 : w.grownBy (((w.alloc (.cells #[.slice sa n cx] 39)).alloc (.cells #[.slice sb m cy] 39)).alloc (.cells #[.slice none 0 0] 39)) none := grown_alloc (grown_alloc (World.grownBy_alloc _ _ _) _) _
  have hboxr := heap_new ((w.alloc (.cells #[.slice sa n cx] 39)).alloc (.cells #[.slice sb m cy] 39)) (.cells #[.slice none 0 0] 39) (w.heap.size + 1 + 1) (by simp)
  have hboxb := (Below.heap_alloc _ (.cells #[.slice none 0 0] 39) (w.heap.size + 1) (by simp)).trans (heap_new (w.alloc (.cells #[.slice sa n cx] 39)) (.cells #[.slice sb m cy] 39) (w.heap.size + 1) (by simp))
  have hboxa := ((Below.heap_alloc _ (.cells #[.slice none 0 0] 39) w.heap.size (by simp; omega)).trans (Below.heap_alloc _ (.cells #[.slice sb m cy] 39) w.heap.size (by simp))).trans (heap_new w (.cells #[.slice sa n cx] 39) w.heap.size rfl)
  have hs0 : (((w.alloc (.cells #[.slice sa n cx] 39)).alloc (.cells #[.slice sb m cy] 39)).alloc (.cells #[.slice none 0 0] 39)).heap.size = w.heap.size + 1 + 1 + 1 := by simp
  obtain ⟨N, hN⟩ : ∃ N, N = w.heap.size + 1 + 1 + 1 := ⟨_, rfl⟩
  have hx0 := hx.kept hgw0
  have hy0 := hy.kept hgw0
  clear hn hm ba bb hx hy hle
  go_enter Tryz.func137, Tryz.ntmps137
  go_wp2_with fail
  generalize (((w.alloc (.cells #[.slice sa n cx] 39)).alloc (.cells #[.slice sb m cy] 39)).alloc (.cells #[.slice none 0 0] 39)) = w0 at *
  go_loopg [5, 6, 7] n (fun gh s c i wr => ∃ (k bo : Nat) (sl : Option Addr) (cl : Nat) (ds : List Nat), s = .slice sl k cl ∧ c = .int .i64 bo ∧ i = .int .i64 k ∧ bo ≤ 1 ∧ k ≤ n ∧ n - k ≤ gh ∧ wr.ownsRow N 3 1 (.slice sl k cl) k (ds.map iv) ∧ Hid (ds.length = k) ∧ Dig D ds ∧ Hid (val D ds + val D (ys.take k) = val D (xs.take k) + bo * D ^ k) ∧ Below N w0 wr)
  case atStart => exact ⟨0, 0, none, 0, [], rfl, rfl, rfl, by omega, by omega, by omega, ⟨rfl, Or.inl ⟨rfl, rfl⟩⟩, rfl, Dig.nil _, by show _ = _; simp [val], Below.refl _ _⟩
  case round =>
    obtain ⟨k, bo, sl, cl, ds, rfl, rfl, rfl, hc1, hkn, hgh, hown, hdl, hdd, hv, hbl⟩ := hrel
    obtain ⟨ca, fa⟩ := box_cell (heap_below hbl hboxa (by omega))
    obtain ⟨cb, fb⟩ := box_cell (heap_below hbl hboxb (by omega))
    have hboxr1 := heap_below hbl hboxr (by omega)
    obtain ⟨cr, fr⟩ := box_cell hboxr1
    have hsr : N ≤ wr.heap.size := by have := hbl.size; omega
    have hxr : RRdo wr sa xs := hx0.below hbl (by omega)
    have hyr : RRdo wr sb ys := hy0.below hbl (by omega)
    by_cases hend : k < n
    · have f1 : decide ((k : Int) < (n : Int)) = true := decide_eq_true (by omega)
      obtain ⟨x, hxk⟩ : ∃ x, xs.getD k 0 = x := ⟨_, rfl⟩
      obtain ⟨y, hyk⟩ : ∃ y, ys.getD k 0 = y := ⟨_, rfl⟩
      have hx4 : x < 10000 := hxk ▸ getD_lt dx k
      have hy4 : y < 10000 := hyk ▸ getD_lt dy k
      have HX := Lib.hid hxk
      have HY := Lib.hid hyk
      obtain ⟨b1, o1, rfl, cx1⟩ := rcell hxr Hn.out k hend
      rw [hxk] at cx1
      clear hxk hyk hboxr1
      rcases Nat.lt_or_ge k m with hkm | hkm
      · obtain ⟨b2, o2, rfl, cy2⟩ := rcell hyr Hm.out k hkm
        rw [HY.out] at cy2
        have f2 : decide ((k : Int) < (m : Int)) = true := decide_eq_true (by omega)
        by_cases hs : x < bo + y
        · have t1 : decide ((x : Int) - (bo : Int) - (y : Int) < 0) = true := decide_eq_true (by omega)
          obtain ⟨d, hd⟩ : ∃ d : Nat, (x : Int) - (bo : Int) - (y : Int) + 10000 = (d : Int) := ⟨((x : Int) - (bo : Int) - (y : Int) + 10000).toNat, by omega⟩
          obtain ⟨c2', hc2⟩ : ∃ c, c = 1 := ⟨_, rfl⟩
          have hd4 : d < 10000 := by omega
          have hvn : Hid (val D (ds ++ [d]) + val D (ys.take (k + 1)) = val D (xs.take (k + 1)) + c2' * D ^ (k + 1)) := by
            show _ = _
            rw [val_snoc, hdl.out, Nat.pow_succ, take_getD xs, take_getD ys, HX.out, HY.out]
            exact rless_step hv.out (by unfold D; omega)
          have hownA := own_allocI hown (.cells #[iv d] 3)
          have hnews : ∀ j u, ([iv d] : List Value)[j]? = some u → (wr.alloc (.cells #[iv d] 3)).cell? ((⟨wr.heap.size, 0, none⟩ : Addr).add j) = some u := World.news_of_block (heap_alloc_new wr _)
          have hsi : N ≤ (wr.alloc (.cells #[iv d] 3)).heap.size := by simp; omega
          have hblA : Below N w0 (wr.alloc (.cells #[iv d] 3)) := hbl.trans (below_none (World.grownBy_alloc _ _ _) hsr)
          subst hc2
          clear hown hbl hv
          go_wp2_with (at_builtin; refine wpList_append_lies _ rfl _ _ _ rfl N 3 i1 (.int .i64 0) 1 8 Tryz.underlying37 hi hz0 hz1 hz2 rfl (by omega) (.slice sl k cl) k (ds.map iv) rfl hownA ⟨wr.heap.size, 0, none⟩ 1 1 [iv d] rfl rfl hnews one_iv (by omega) (by unfold maxLen; omega) (by omega) hsi (wr.heap.size + 1) (by simp) ?_; intro g2 cap2 w5 hown5 hgrow hat9 hlt9)
          have hbl5 := hblA.trans (below_own hownA hgrow hsi)
          have hmap : ds.map iv ++ [iv d] = (ds ++ [d]).map iv := by rw [List.map_append]; rfl
          rw [hmap] at hown5
          have hl5 : Hid ((ds ++ [d]).length = k + 1) := by show _ = _; rw [List.length_append, hdl.out]; rfl
          clear hgrow hownA hnews hblA hmap
          go_roundg (n - (k + 1))
          case measure => omega
          case rel => exact ⟨k + 1, 1, _, cap2, ds ++ [d], rfl, rfl, by go_num, (by omega), by omega, by omega, hown5, hl5, hdd.snoc hd4, hvn, hbl5⟩
        · obtain ⟨d, hd⟩ : ∃ d : Nat, (x : Int) - (bo : Int) - (y : Int) = (d : Int) := ⟨((x : Int) - (bo : Int) - (y : Int)).toNat, by omega⟩
          have t1 : decide ((x : Int) - (bo : Int) - (y : Int) < 0) = false := decide_eq_false (by omega)
          have t2 : decide ((d : Int) < 0) = false := decide_eq_false (by omega)
          obtain ⟨c2', hc2⟩ : ∃ c, c = 0 := ⟨_, rfl⟩
          have hd4 : d < 10000 := by omega
          have hvn : Hid (val D (ds ++ [d]) + val D (ys.take (k + 1)) = val D (xs.take (k + 1)) + c2' * D ^ (k + 1)) := by
            show _ = _
            rw [val_snoc, hdl.out, Nat.pow_succ, take_getD xs, take_getD ys, HX.out, HY.out]
            exact rless_step hv.out (by unfold D; omega)
          have hownA := own_allocI hown (.cells #[iv d] 3)
          have hnews : ∀ j u, ([iv d] : List Value)[j]? = some u → (wr.alloc (.cells #[iv d] 3)).cell? ((⟨wr.heap.size, 0, none⟩ : Addr).add j) = some u := World.news_of_block (heap_alloc_new wr _)
          have hsi : N ≤ (wr.alloc (.cells #[iv d] 3)).heap.size := by simp; omega
          have hblA : Below N w0 (wr.alloc (.cells #[iv d] 3)) := hbl.trans (below_none (World.grownBy_alloc _ _ _) hsr)
          subst hc2
          clear hown hbl hv
          go_wp2_with (at_builtin; refine wpList_append_lies _ rfl _ _ _ rfl N 3 i1 (.int .i64 0) 1 8 Tryz.underlying37 hi hz0 hz1 hz2 rfl (by omega) (.slice sl k cl) k (ds.map iv) rfl hownA ⟨wr.heap.size, 0, none⟩ 1 1 [iv d] rfl rfl hnews one_iv (by omega) (by unfold maxLen; omega) (by omega) hsi (wr.heap.size + 1) (by simp) ?_; intro g2 cap2 w5 hown5 hgrow hat9 hlt9)
          have hbl5 := hblA.trans (below_own hownA hgrow hsi)
          have hmap : ds.map iv ++ [iv d] = (ds ++ [d]).map iv := by rw [List.map_append]; rfl
          rw [hmap] at hown5
          have hl5 : Hid ((ds ++ [d]).length = k + 1) := by show _ = _; rw [List.length_append, hdl.out]; rfl
          clear hgrow hownA hnews hblA hmap
          go_roundg (n - (k + 1))
          case measure => omega
          case rel => exact ⟨k + 1, 0, _, cap2, ds ++ [d], rfl, rfl, by go_num, (by omega), by omega, by omega, hown5, hl5, hdd.snoc hd4, hvn, hbl5⟩
      · have y0 : y = 0 := by rw [← HY.out]; exact getD_out Hm.out hkm
        have f2 : decide ((k : Int) < (m : Int)) = false := decide_eq_false (by omega)
        by_cases hs : x < bo + y
        · have t1 : decide ((x : Int) - (bo : Int) < 0) = true := decide_eq_true (by omega)
          obtain ⟨d, hd⟩ : ∃ d : Nat, (x : Int) - (bo : Int) + 10000 = (d : Int) := ⟨((x : Int) - (bo : Int) + 10000).toNat, by omega⟩
          obtain ⟨c2', hc2⟩ : ∃ c, c = 1 := ⟨_, rfl⟩
          have hd4 : d < 10000 := by omega
          have hvn : Hid (val D (ds ++ [d]) + val D (ys.take (k + 1)) = val D (xs.take (k + 1)) + c2' * D ^ (k + 1)) := by
            show _ = _
            rw [val_snoc, hdl.out, Nat.pow_succ, take_getD xs, take_getD ys, HX.out, HY.out]
            exact rless_step hv.out (by unfold D; omega)
          have hownA := own_allocI hown (.cells #[iv d] 3)
          have hnews : ∀ j u, ([iv d] : List Value)[j]? = some u → (wr.alloc (.cells #[iv d] 3)).cell? ((⟨wr.heap.size, 0, none⟩ : Addr).add j) = some u := World.news_of_block (heap_alloc_new wr _)
          have hsi : N ≤ (wr.alloc (.cells #[iv d] 3)).heap.size := by simp; omega
          have hblA : Below N w0 (wr.alloc (.cells #[iv d] 3)) := hbl.trans (below_none (World.grownBy_alloc _ _ _) hsr)
          subst hc2
          clear hown hbl hv
          go_wp2_with (at_builtin; refine wpList_append_lies _ rfl _ _ _ rfl N 3 i1 (.int .i64 0) 1 8 Tryz.underlying37 hi hz0 hz1 hz2 rfl (by omega) (.slice sl k cl) k (ds.map iv) rfl hownA ⟨wr.heap.size, 0, none⟩ 1 1 [iv d] rfl rfl hnews one_iv (by omega) (by unfold maxLen; omega) (by omega) hsi (wr.heap.size + 1) (by simp) ?_; intro g2 cap2 w5 hown5 hgrow hat9 hlt9)
          have hbl5 := hblA.trans (below_own hownA hgrow hsi)
          have hmap : ds.map iv ++ [iv d] = (ds ++ [d]).map iv := by rw [List.map_append]; rfl
          rw [hmap] at hown5
          have hl5 : Hid ((ds ++ [d]).length = k + 1) := by show _ = _; rw [List.length_append, hdl.out]; rfl
          clear hgrow hownA hnews hblA hmap
          go_roundg (n - (k + 1))
          case measure => omega
          case rel => exact ⟨k + 1, 1, _, cap2, ds ++ [d], rfl, rfl, by go_num, (by omega), by omega, by omega, hown5, hl5, hdd.snoc hd4, hvn, hbl5⟩
        · obtain ⟨d, hd⟩ : ∃ d : Nat, (x : Int) - (bo : Int) = (d : Int) := ⟨((x : Int) - (bo : Int)).toNat, by omega⟩
          have t1 : decide ((x : Int) - (bo : Int) < 0) = false := decide_eq_false (by omega)
          have t2 : decide ((d : Int) < 0) = false := decide_eq_false (by omega)
          obtain ⟨c2', hc2⟩ : ∃ c, c = 0 := ⟨_, rfl⟩
          have hd4 : d < 10000 := by omega
          have hvn : Hid (val D (ds ++ [d]) + val D (ys.take (k + 1)) = val D (xs.take (k + 1)) + c2' * D ^ (k + 1)) := by
            show _ = _
            rw [val_snoc, hdl.out, Nat.pow_succ, take_getD xs, take_getD ys, HX.out, HY.out]
            exact rless_step hv.out (by unfold D; omega)
          have hownA := own_allocI hown (.cells #[iv d] 3)
          have hnews : ∀ j u, ([iv d] : List Value)[j]? = some u → (wr.alloc (.cells #[iv d] 3)).cell? ((⟨wr.heap.size, 0, none⟩ : Addr).add j) = some u := World.news_of_block (heap_alloc_new wr _)
          have hsi : N ≤ (wr.alloc (.cells #[iv d] 3)).heap.size := by simp; omega
          have hblA : Below N w0 (wr.alloc (.cells #[iv d] 3)) := hbl.trans (below_none (World.grownBy_alloc _ _ _) hsr)
          subst hc2
          clear hown hbl hv
          go_wp2_with (at_builtin; refine wpList_append_lies _ rfl _ _ _ rfl N 3 i1 (.int .i64 0) 1 8 Tryz.underlying37 hi hz0 hz1 hz2 rfl (by omega) (.slice sl k cl) k (ds.map iv) rfl hownA ⟨wr.heap.size, 0, none⟩ 1 1 [iv d] rfl rfl hnews one_iv (by omega) (by unfold maxLen; omega) (by omega) hsi (wr.heap.size + 1) (by simp) ?_; intro g2 cap2 w5 hown5 hgrow hat9 hlt9)
          have hbl5 := hblA.trans (below_own hownA hgrow hsi)
          have hmap : ds.map iv ++ [iv d] = (ds ++ [d]).map iv := by rw [List.map_append]; rfl
          rw [hmap] at hown5
          have hl5 : Hid ((ds ++ [d]).length = k + 1) := by show _ = _; rw [List.length_append, hdl.out]; rfl
          clear hgrow hownA hnews hblA hmap
          go_roundg (n - (k + 1))
          case measure => omega
          case rel => exact ⟨k + 1, 0, _, cap2, ds ++ [d], rfl, rfl, by go_num, (by omega), by omega, by omega, hown5, hl5, hdd.snoc hd4, hvn, hbl5⟩
    · obtain rfl : k = n := by omega
      have f1 : decide ((k : Int) < (k : Int)) = false := decide_eq_false (by omega)
      obtain ⟨hrd, hcap, _⟩ := own_rdoI hown
      have hgw := grown_then_below hgw0 hbl (by omega)
      have HV : Hid (val D ds = val D xs - val D ys) := by
        show _ = _
        have h1 := hv.out
        rw [List.take_of_length_le (l := ys) (by rw [Hm.out]; exact hmn), List.take_of_length_le (l := xs) (by rw [Hn.out]; exact Nat.le_refl _)] at h1
        have h2 := val_lt D ds hdd
        rw [hdl.out] at h2
        have h3 := Hle.out
        rcases (show bo = 0 ∨ bo = 1 by omega) with h4 | h4
        · rw [h4] at h1; omega
        · rw [h4, Nat.one_mul] at h1; omega
      clear hown hbl hv
      go_wp2_with fail
      refine (rcut_any wr sl k cl ds hdl.out hrd hcap (by omega) hdd).mono ?_
      rintro e w4 ⟨v, rfl, hv4, hg4⟩
      have hbox4 := heap_kept hg4 hboxr1
      obtain ⟨hc4, hf4⟩ := box_cell hbox4
      rw [HV.out] at hv4
      obtain ⟨s4, k4, c4, zs4, rfl, hz4⟩ := hv4
      have hF := Lib.hid (rret (grown_trans hgw hg4) hbox4 (by decide) (by omega) ⟨s4, k4, c4, zs4, rfl, hz4⟩ (.slice s4 k4 c4))
      clear hz4 hbox4 hg4 hgw hgw0 hboxr1 hboxr cr fr
      go_wp2_with fail
      exact bodyPost_ret (v := .agg #[.slice s4 k4 c4]) (by simp [results, Tryz.results137, go_sem, hc4]) rfl hF.out
end Go.Proofs.YtoaepibannfbdaaGreatDoor
namespace Go.Proofs.YtoaepibannfbdaaGreatDoor
open Go.RowKit Mat
set_option maxRecDepth 100000
set_option linter.unusedVariables false
set_option linter.unusedSimpArgs false
theorem made_ints {w : World} {g n : Nat} (h : w.ownsRow g 3 1 (.slice (some ⟨g, 0, none⟩) n n) n (madeCells #[.int .i64 0] (n * 1)).toList) : Ints w g (List.replicate n 0) := by
  obtain ⟨_, ⟨h, _⟩ | ⟨g', cap, cur, hv, hg, hh, hle, hm, hs, ht⟩⟩ := h
  · cases h
  · simp only [Value.slice.injEq, Option.some.injEq, Addr.mk.injEq] at hv
    obtain ⟨⟨rfl, _⟩, _, rfl⟩ := hv
    have e : cur = ((List.replicate n 0).map iv).toArray := by
      apply Array.ext'
      rw [List.take_of_length_le (by rw [Array.length_toList]; omega)] at ht
      rw [ht]
      apply List.ext_getElem?
      intro i
      rw [Array.getElem?_toList]
      by_cases hi : i < n
      · simp [madeCells, hi, iv]
        rw [Nat.mod_one]; rfl
      · simp [madeCells, hi]
    rw [e] at hh
    exact hh
theorem RRdo.kept_row {w w' : World} {s : Option Addr} {xs : List Nat} {g : Nat} (h : RRdo w s xs) (hg : w.grownBy w' (some g)) (hge : w.heap.size ≤ g) : RRdo w' s xs := by
  rcases h with h | ⟨b, off, cs, e, h1, h2⟩
  · exact Or.inl h
  · exact Or.inr ⟨b, off, cs, e, h1.kept hg (by have := h1.lt; simp; omega), h2⟩
theorem val_set (zs : List Nat) : ∀ (j d : Nat), j < zs.length → val D (zs.set j d) + D ^ j * zs.getD j 0 = val D zs + D ^ j * d := by
  induction zs with
  | nil => intro j d h; simp at h
  | cons z t ih =>
    intro j d h
    cases j with
    | zero => simp [val]; omega
    | succ j =>
      have := ih j d (by simpa using h)
      simp only [List.set_cons_succ, val, List.getD_cons_succ]
      have h2 : D * (val D (t.set j d) + D ^ j * t.getD j 0) = D * (val D t + D ^ j * d) := by rw [this]
      rw [Nat.mul_add, Nat.mul_add, ← Nat.mul_assoc, ← Nat.mul_assoc, show D * D ^ j = D ^ (j + 1) from by rw [Nat.pow_succ, Nat.mul_comm]] at h2
      omega
theorem rmul_step {v v' z d q c p x y V S : Nat} (h : v + c * p = V + S) (hs : v' + p * z = v + p * d) (hd : d + q * D = c + z + x * y) : v' + q * (p * D) = V + (S + p * (x * y)) := by
  have h2 : p * (d + q * D) = p * (c + z + x * y) := by rw [hd]
  rw [Nat.mul_add, Nat.mul_add, Nat.mul_add] at h2
  have h3 : p * (q * D) = q * (p * D) := by grind
  have h4 : p * c = c * p := Nat.mul_comm _ _
  omega
theorem rcarry_step {v v' z d q c p T : Nat} (h : v + c * p = T) (hs : v' + p * z = v + p * d) (hd : d + q * D = c + z) : v' + q * (p * D) = T := by
  have h2 : p * (d + q * D) = p * (c + z) := by rw [hd]
  rw [Nat.mul_add, Nat.mul_add] at h2
  have h3 : p * (q * D) = q * (p * D) := by grind
  have h4 : p * c = c * p := Nat.mul_comm _ _
  omega
theorem rcarry_at {v c t T k : Nat} (h : v + c * D ^ t = T) (hc : 0 < c) (hT : T < D ^ k) : t < k := by
  rcases Nat.lt_or_ge t k with h1 | h1
  · exact h1
  · have h2 : D ^ k ≤ D ^ t := Nat.pow_le_pow_right D_pos h1
    have h3 : D ^ t ≤ c * D ^ t := Nat.le_mul_of_pos_left _ hc
    omega
set_option maxHeartbeats 8000000 in
theorem rMul_any (w : World) (va vb : Value) (a b : Nat) (ha : RefV w va a) (hb : RefV w vb b) (ba : a < D ^ 1000000) (bb : b < D ^ 1000000) :
    Calls Tryz.prog 138 #[va, vb] w (RetRef w (a * b)) := by
  obtain ⟨sa, n, cx, xs, rfl, hn, hnc, hx, tx, dx, rfl⟩ := ha
  obtain ⟨sb, m, cy, ys, rfl, hm, hmc, hy, ty, dy, rfl⟩ := hb
  have Hn := Lib.hid hn
  have Hm := Lib.hid hm
  have hn6 : n ≤ 1000000 := rlen tx hn ba
  have hm6 : m ≤ 1000000 := rlen ty hm bb
  obtain ⟨i0, hi, hz0, hz1, hz2⟩ := info_partsI
  have hgw0 : w.grownBy (((w.alloc (.cells #[.slice sa n cx] 39)).alloc (.cells #[.slice sb m cy] 39)).alloc (.cells #[.slice none 0 0] 39)) none := grown_alloc (grown_alloc (World.grownBy_alloc _ _ _) _) _
  have hboxr := heap_new ((w.alloc (.cells #[.slice sa n cx] 39)).alloc (.cells #[.slice sb m cy] 39)) (.cells #[.slice none 0 0] 39) (w.heap.size + 1 + 1) (by simp)
  have hboxb := (Below.heap_alloc _ (.cells #[.slice none 0 0] 39) (w.heap.size + 1) (by simp)).trans (heap_new (w.alloc (.cells #[.slice sa n cx] 39)) (.cells #[.slice sb m cy] 39) (w.heap.size + 1) (by simp))
  have hboxa := ((Below.heap_alloc _ (.cells #[.slice none 0 0] 39) w.heap.size (by simp; omega)).trans (Below.heap_alloc _ (.cells #[.slice sb m cy] 39) w.heap.size (by simp))).trans (heap_new w (.cells #[.slice sa n cx] 39) w.heap.size rfl)
  have hs0 : (((w.alloc (.cells #[.slice sa n cx] 39)).alloc (.cells #[.slice sb m cy] 39)).alloc (.cells #[.slice none 0 0] 39)).heap.size = w.heap.size + 1 + 1 + 1 := by simp
  clear hn hm ba bb
  obtain ⟨L, hL⟩ : ∃ L, n + m + 1 = L := ⟨_, rfl⟩
  have eL : (n : Int) + (m : Int) + 1 = (L : Int) := by omega
  have hL6 : L ≤ 2000001 := by omega
  go_enter Tryz.func138, Tryz.ntmps138
  go_wp2_with (at_make; refine wpList_make_full _ rfl _ _ 37 rfl _ 3 i0 (.int .i64 0) 1 Tryz.underlying37 hi hz0 hz1 .i64 .i64 _ _ L rfl rfl (by omega) (by omega) (by rw [hz2]; omega) (by unfold maxLen; omega) (Nat.le_refl _) ?_; intro w1 hown hg1; have hI1 := made_ints hown; have HS0 := Lib.hid hs0; rw [hs0] at hI1; clear hs0 hown; have hgw := grown_trans hgw0 hg1; have hboxr1 := heap_kept hg1 hboxr; have hboxb1 := heap_kept hg1 hboxb; have hboxa1 := heap_kept hg1 hboxa; clear hg1 hgw0 hboxr hboxb hboxa)
  obtain ⟨g, hgE⟩ : ∃ g, w.heap.size + 1 + 1 + 1 = g := ⟨_, rfl⟩
  rw [hgE] at hI1
  have hgs : w.heap.size ≤ g := by omega
  go_wp2_with fail
  rw [hgE]
  go_loopw [6] (fun i wr => ∃ (k : Nat) (zs : List Nat), k ≤ n ∧ i = .int .i64 k ∧ Hid (zs.length = L) ∧ Dig D zs ∧ Ints wr g zs ∧ w1.grownBy wr (some g) ∧ Hid (val D zs = val D (xs.take k) * val D ys)) (fun i _ => n - (intOf i).toNat)
  case atStart => exact ⟨0, List.replicate L 0, Nat.zero_le _, rfl, by show _ = _; simp, Dig.replicate D_pos _, hI1, grown_refl _ _, by show _ = _; rw [val_replicate]; simp [val]⟩
  case round =>
    clear hI1
    obtain ⟨k, zs, hk, rfl, hzl, hzd, hI, hg, hv⟩ := hrel
    by_cases hlt : k < n
    · obtain ⟨x, ex⟩ : ∃ x, xs.getD k 0 = x := ⟨_, rfl⟩
      have hx4 : x < 10000 := ex ▸ getD_lt dx k
      have EX := Lib.hid ex
      clear ex
      have f1 : decide ((k : Int) < (n : Int)) = true := decide_eq_true (by omega)
      obtain ⟨hca, hfa⟩ := box_cell (heap_row hg hboxa1 (by omega))
      go_wp2_with fail
      go_loopw [7, 8] (fun c j wi => ∃ (q r : Nat) (us : List Nat), q ≤ m ∧ j = .int .i64 q ∧ c = .int .i64 r ∧ r < 10000 ∧ Hid (us.length = L) ∧ Dig D us ∧ Ints wi g us ∧ wr.grownBy wi (some g) ∧ Hid (val D us + r * D ^ (k + q) = val D zs + x * val D (ys.take q) * D ^ k)) (fun _ j _ => m - (intOf j).toNat)
      case atStart => exact ⟨0, 0, zs, Nat.zero_le _, rfl, rfl, by omega, hzl, hzd, hI, grown_refl _ _, by show _ = _; simp [val]⟩
      case round =>
        obtain ⟨q, r, us, hq, rfl, rfl, hr, hul, hud, hIu, hgu, hvu⟩ := hrel
        have hgx := grown_trans hg hgu
        obtain ⟨hcb, hfb⟩ := box_cell (heap_row hgx hboxb1 (by omega))
        by_cases hlt2 : q < m
        · obtain ⟨y, ey⟩ : ∃ y, ys.getD q 0 = y := ⟨_, rfl⟩
          have hy4 : y < 10000 := ey ▸ getD_lt dy q
          obtain ⟨z, ez⟩ : ∃ z, us.getD (k + q) 0 = z := ⟨_, rfl⟩
          have hz4 : z < 10000 := ez ▸ getD_lt hud (k + q)
          have EY := Lib.hid ey
          have EZ := Lib.hid ez
          obtain ⟨p, hp⟩ : ∃ p, x * y = p := ⟨_, rfl⟩
          have hp9 : p ≤ 99980001 := by
            rw [← hp]; exact Nat.mul_le_mul (show x ≤ 9999 by omega) (show y ≤ 9999 by omega)
          have hpI : (x : Int) * (y : Int) = (p : Int) := by rw [← hp]; rfl
          obtain ⟨j, hj⟩ : ∃ j, k + q = j := ⟨_, rfl⟩
          have hjI : (k : Int) + (q : Int) = (j : Int) := by omega
          have hjL : j < L := by omega
          obtain ⟨d, hd⟩ : ∃ d, (r + z + p) % 10000 = d := ⟨_, rfl⟩
          obtain ⟨r2, hr2⟩ : ∃ r2, (r + z + p) / 10000 = r2 := ⟨_, rfl⟩
          have e1 : ((r : Int) + (z : Int) + (p : Int)) % 10000 = (d : Int) := by omega
          have e2 : ((r : Int) + (z : Int) + (p : Int)) / 10000 = (r2 : Int) := by omega
          have hd4 : d < 10000 := by omega
          have hr4 : r2 < 10000 := by omega
          have hvn : Hid (val D (us.set j d) + r2 * D ^ (k + (q + 1)) = val D zs + x * val D (ys.take (q + 1)) * D ^ k) := by
            show _ = _
            have h1 := val_set us j d (by rw [hul.out]; exact hjL)
            rw [← hj] at h1 ⊢
            rw [EZ.out] at h1
            rw [take_getD ys, EY.out, ← Nat.add_assoc, Nat.pow_succ, rmul_step (x := x) (y := y) (q := r2) (d := d) hvu.out h1 (by rw [hp]; unfold D; omega)]
            rw [Nat.pow_add]
            grind
          obtain ⟨b1, o1, rfl, c1⟩ := rcell (hx.kept_row (grown_trans (grown_any hgw) hgx) hgs) Hn.out k hlt
          obtain ⟨b2, o2, rfl, c2⟩ := rcell (hy.kept_row (grown_trans (grown_any hgw) hgx) hgs) Hm.out q hlt2
          rw [EX.out] at c1
          rw [EY.out] at c2
          have c3 := hIu.cell hul.out j hjL
          rw [← hj, EZ.out, hj] at c3
          have fr3 := hIu.frozen j
          obtain ⟨hca3, hfa3⟩ := box_cell (heap_row hgx hboxa1 (by omega))
          have hu2 : Hid ((us.set j d).length = L) := by show _ = _; rw [List.length_set]; exact hul.out
          clear ey ez hp hj hd hr2
          go_wp2_with fail
          go_quiet (fail)
          go_wp2_with fail
          go_roundw
          case rel => exact ⟨q + 1, r2, us.set j d, by omega, by go_num, by go_num, hr4, hu2, hud.set hd4 j, (hIu.drewN _).set j d, grown_set (grown_trans hgu (grown_drewN _ _ _)) _ _, hvn⟩
          case measure => simp [intOf]; omega
        · obtain rfl : q = m := by omega
          obtain ⟨T, hT⟩ : ∃ T, val D (xs.take (k + 1)) * val D ys = T := ⟨_, rfl⟩
          have hvt : Hid (val D us + r * D ^ (k + q) = T) := by
            show _ = _
            rw [hvu.out, hv.out, List.take_of_length_le (l := ys) (by rw [Hm.out]; exact Nat.le_refl _), ← hT, take_getD xs, EX.out, Nat.add_mul]; grind
          have hTb : Hid (T < D ^ (n + q)) := by
            show _ < _
            rw [← hT]
            have h1 := val_lt D _ (dx.take (k + 1))
            have h2 := val_lt D ys dy
            rw [Hm.out] at h2
            rw [List.length_take, Hn.out, Nat.min_eq_left (by omega)] at h1
            have h3 : D ^ (k + 1) * D ^ q ≤ D ^ n * D ^ q := Nat.mul_le_mul_right _ (Nat.pow_le_pow_right D_pos (by omega))
            rw [Nat.pow_add]
            exact Nat.lt_of_lt_of_le (Nat.mul_lt_mul'' h1 h2) h3
          obtain ⟨j0, hj0⟩ : ∃ j0, k + q = j0 := ⟨_, rfl⟩
          have hjI : (k : Int) + (q : Int) = (j0 : Int) := by omega
          have hj0L : j0 ≤ L := by omega
          rw [hj0] at hvt
          clear hj0
          have f7 : decide ((q : Int) < (q : Int)) = false := decide_eq_false (by omega)
          clear hvu hv
          go_wp2_with fail
          go_loopw [7, 9] (fun c t wi2 => ∃ (t' r' : Nat) (us' : List Nat), t = .int .i64 t' ∧ c = .int .i64 r' ∧ r' < 10000 ∧ t' ≤ L ∧ Hid (us'.length = L) ∧ Dig D us' ∧ Ints wi2 g us' ∧ wr.grownBy wi2 (some g) ∧ Hid (val D us' + r' * D ^ t' = T)) (fun _ t _ => L - (intOf t).toNat)
          case atStart => exact ⟨j0, r, us, rfl, rfl, hr, hj0L, hul, hud, hIu, grown_refl _ _, hvt⟩
          case round =>
            clear hul hud hIu hvt hr
            obtain ⟨j, r, us, rfl, rfl, hr, hjL', hul, hud, hIu, hgu2, hvu⟩ := hrel
            by_cases h0 : r = 0
            · subst h0
              go_wp2_with fail
              go_roundw
              case rel => exact ⟨k + 1, us, by omega, by go_num, hul, hud, hIu, grown_trans hgx hgu2, by show _ = _; rw [hT]; have := hvu.out; omega⟩
              case measure => simp [intOf]; omega
            · have f3 : decide ((0 : Int) < (r : Int)) = true := decide_eq_true (by omega)
              have hjn := rcarry_at hvu.out (by omega) hTb.out
              have hjL : j < L := by omega
              obtain ⟨z, ez⟩ : ∃ z, us.getD j 0 = z := ⟨_, rfl⟩
              have hz4 : z < 10000 := ez ▸ getD_lt hud j
              obtain ⟨d, hd⟩ : ∃ d, (r + z) % 10000 = d := ⟨_, rfl⟩
              obtain ⟨r2, hr2⟩ : ∃ r2, (r + z) / 10000 = r2 := ⟨_, rfl⟩
              have e1 : ((r : Int) + (z : Int)) % 10000 = (d : Int) := by omega
              have e2 : ((r : Int) + (z : Int)) / 10000 = (r2 : Int) := by omega
              have hd4 : d < 10000 := by omega
              have hr4 : r2 < 10000 := by omega
              have hvn : Hid (val D (us.set j d) + r2 * D ^ (j + 1) = T) := by
                show _ = _
                have h1 := val_set us j d (by rw [hul.out]; exact hjL)
                rw [ez] at h1
                rw [Nat.pow_succ]
                exact rcarry_step hvu.out h1 (by unfold D; omega)
              have c3 := hIu.cell hul.out j hjL
              rw [ez] at c3
              have fr3 := hIu.frozen j
              have hu2 : Hid ((us.set j d).length = L) := by show _ = _; rw [List.length_set]; exact hul.out
              clear ez hd hr2 hvu
              go_wp2_with fail
              go_roundw
              case rel => exact ⟨j + 1, r2, us.set j d, by go_num, by go_num, hr4, by omega, hu2, hud.set hd4 j, hIu.set j d, grown_set hgu2 _ _, hvn⟩
              case measure => simp [intOf]; omega
    · obtain rfl : k = n := by omega
      have f1 : decide ((k : Int) < (k : Int)) = false := decide_eq_false (by omega)
      have hbox2 := heap_row hg hboxr1 (by omega)
      have hgw2 := grown_new hgw hg (by omega)
      have HV : Hid (val D zs = val D xs * val D ys) := by show _ = _; rw [hv.out, List.take_of_length_le (by rw [Hn.out]; exact Nat.le_refl _)]
      obtain ⟨hca, hfa⟩ := box_cell (heap_row hg hboxa1 (by omega))
      have hrd := hI.rd
      clear hboxr1 hboxb1 hboxa1 hv hg hgw hI
      go_wp2_with fail
      refine (rcut_any wr (some ⟨g, 0, none⟩) L L zs hzl.out hrd (Nat.le_refl _) (by omega) hzd).mono ?_
      rintro e w4 ⟨v, rfl, hv4, hg4⟩
      have hbox4 := heap_kept hg4 hbox2
      obtain ⟨hc4, hf4⟩ := box_cell hbox4
      rw [HV.out] at hv4
      obtain ⟨s4, k4, c4, zs4, rfl, hz4⟩ := hv4
      have hF := Lib.hid (rret (grown_trans hgw2 hg4) hbox4 (by decide) (by omega) ⟨s4, k4, c4, zs4, rfl, hz4⟩ (.slice s4 k4 c4))
      clear hz4 hbox4 hbox2 hg4 hgw2
      go_wp2_with fail
      exact bodyPost_ret (v := .agg #[.slice s4 k4 c4]) (by simp [results, Tryz.results138, go_sem, hc4]) rfl hF.out
end Go.Proofs.YtoaepibannfbdaaGreatDoor
namespace Go.Proofs.YtoaepibannfbdaaGreatDoor
open Go.RowKit Mat
set_option maxRecDepth 100000
set_option linter.unusedVariables false
set_option linter.unusedSimpArgs false
theorem sign_bd (z : Int) : -1 ≤ z.sign ∧ z.sign ≤ 1 := by
  rcases zsign z with ⟨_, e⟩ | ⟨_, e⟩ | ⟨_, e⟩ <;> omega
set_option maxHeartbeats 4000000 in
theorem rNeg_any (w : World) (va : Value) (x : Int) (Ha : RIntV w va x) :
    Calls Tryz.prog 115 #[va] w (RetRInt w (-x)) := by
  obtain ⟨ga, sa, la, ca, rfl, ha, ma⟩ := Ha
  have hG : w.grownBy ((w.alloc (.cells #[.int .i64 ga, .slice sa la ca] 41)).alloc (.cells #[.int .i64 0, .slice none 0 0] 41)) none := (grown_alloc (World.grownBy_alloc _ _ _) _)
  have Ba := heap_kept (World.grownBy_alloc _ (.cells #[.int .i64 0, .slice none 0 0] 41) none) (heap_new w (.cells #[.int .i64 ga, .slice sa la ca] 41) (w.heap.size) rfl)
  have Bq := (heap_new (w.alloc (.cells #[.int .i64 ga, .slice sa la ca] 41)) (.cells #[.int .i64 0, .slice none 0 0] 41) (w.heap.size + 1) (by simp))
  have ra : RIntV ((w.alloc (.cells #[.int .i64 ga, .slice sa la ca] 41)).alloc (.cells #[.int .i64 0, .slice none 0 0] 41)) (.agg #[.int .i64 ga, .slice sa la ca]) (x) := ⟨ga, sa, la, ca, rfl, ha, ma.kept hG⟩
  have ma' : RefV ((w.alloc (.cells #[.int .i64 ga, .slice sa la ca] 41)).alloc (.cells #[.int .i64 0, .slice none 0 0] 41)) (.agg #[.slice sa la ca]) (x).natAbs := ma.kept hG
  have oa : RIntV w (.agg #[.int .i64 ga, .slice sa la ca]) (x) := ⟨ga, sa, la, ca, rfl, ha, ma⟩
  clear ma
  go_enter Tryz.func115, Tryz.ntmps115
  have hb := sign_bd x
  rw [← ha.out] at hb
  obtain ⟨hb1, hb2⟩ := hb
  obtain ⟨Ca0, Ca1, Fa0, Fa1⟩ := box_cells Ba
  obtain ⟨Cq0, Cq1, Fq0, Fq1⟩ := box_cells Bq
  go_wp2_with fail
  generalize ((w.alloc (.cells #[.int .i64 ga, .slice sa la ca] 41)).alloc (.cells #[.int .i64 0, .slice none 0 0] 41)) = w0 at *
  clear Ca0 Fa0 Ca1 Fa1 Cq0 Fq0 Cq1 Fq1
  refine (rMade_any w0 _ (-ga) x.natAbs (-x) ma' (by omega) (Or.inr (by rw [Int.sign_neg, ha.out]))).mono ?_
  rintro e w1 ⟨_, rfl, ⟨gd, sd, ld, cd, rfl, hd, md⟩, gw1⟩
  have rd : RIntV w1 (.agg #[.int .i64 gd, .slice sd ld cd]) (-x) := ⟨gd, sd, ld, cd, rfl, hd, md⟩
  replace Ba := heap_kept gw1 Ba
  replace Bq := heap_kept gw1 Bq
  replace ra := ra.kept gw1
  replace ma' := ma'.kept gw1
  replace hG := grown_trans hG gw1
  clear gw1
  clear md
  obtain ⟨Ca0, Ca1, Fa0, Fa1⟩ := box_cells Ba
  obtain ⟨Cq0, Cq1, Fq0, Fq1⟩ := box_cells Bq
  clear Ca0 Fa0 Ca1 Fa1 Cq0 Fq0 Cq1 Fq1
  obtain ⟨k90, k91, k92, k93⟩ := box_cells Bq
  obtain ⟨q90, q91, q92, q93⟩ := box_cells (heap_set2 Bq (.int .i64 gd) (.slice sd ld cd))
  have hF : Hid (RetRInt w (-x) (.returned (.agg #[.int .i64 gd, .slice sd ld cd])) ((w1.setCell ⟨w.heap.size + 1, 0, none⟩ (.int .i64 gd)).setCell ⟨w.heap.size + 1, 1, none⟩ (.slice sd ld cd))) := ret_rintv hG Bq (by omega) rd
  clear ra ma' rd
  go_wp2_with fail
  exact bodyPost_ret (v := .agg #[.int .i64 gd, .slice sd ld cd]) (by simp [results, Tryz.results115, go_sem, q90, q91]) rfl hF.out
theorem cmp_bd (a b : Nat) : cmpInt a b = -1 ∨ cmpInt a b = 0 ∨ cmpInt a b = 1 := by
  unfold cmpInt; split
  · left; rfl
  · split
    · right; left; rfl
    · right; right; rfl
theorem rcmp_mul {x y : Int} (h : x.sign = y.sign) : x.sign * cmpInt x.natAbs y.natAbs = zcmp x y := by
  rcases zsign x with ⟨h1, e1⟩ | ⟨h1, e1⟩ | ⟨h1, e1⟩ <;> rcases zsign y with ⟨h2, e2⟩ | ⟨h2, e2⟩ | ⟨h2, e2⟩ <;> rw [e1, e2] at h <;> first | omega | skip
  · rw [e1]; unfold cmpInt zcmp
    rcases Int.lt_trichotomy x y with h3 | h3 | h3
    · rw [if_neg (by omega), if_neg (by omega), if_pos h3]; rfl
    · rw [if_neg (by omega), if_pos (by omega), if_neg (by omega), if_pos h3]; rfl
    · rw [if_pos (by omega), if_neg (by omega), if_neg (by omega)]; rfl
  · rw [e1, h1, h2]; rfl
  · rw [e1, zcmp_pos (by omega) (by omega)]; omega
def RetZ (w : World) (k : Int) (e : Ending) (w' : World) : Prop := e = .returned (.int .i64 k) ∧ w.grownBy w' none
set_option maxHeartbeats 8000000 in
theorem rZCmp_any (w : World) (va vb : Value) (x y : Int) (Ha : RIntV w va x) (Hb : RIntV w vb y) (la' : x.natAbs < D ^ 1000000) (lb' : y.natAbs < D ^ 1000000) :
    Calls Tryz.prog 55 #[va, vb] w (RetZ w (zcmp x y)) := by
  have Hla := Lib.hid la'
  have Hlb := Lib.hid lb'
  clear la' lb'
  obtain ⟨ga, sa, la, ca, rfl, ha, ma⟩ := Ha
  obtain ⟨gb, sb, lb, cb, rfl, hb, mb⟩ := Hb
  have hG : w.grownBy ((w.alloc (.cells #[.int .i64 ga, .slice sa la ca] 41)).alloc (.cells #[.int .i64 gb, .slice sb lb cb] 41)) none := (grown_alloc (World.grownBy_alloc _ _ _) _)
  have Ba := heap_kept (World.grownBy_alloc _ (.cells #[.int .i64 gb, .slice sb lb cb] 41) none) (heap_new w (.cells #[.int .i64 ga, .slice sa la ca] 41) (w.heap.size) rfl)
  have Bb := (heap_new (w.alloc (.cells #[.int .i64 ga, .slice sa la ca] 41)) (.cells #[.int .i64 gb, .slice sb lb cb] 41) (w.heap.size + 1) (by simp))
  have ra : RIntV ((w.alloc (.cells #[.int .i64 ga, .slice sa la ca] 41)).alloc (.cells #[.int .i64 gb, .slice sb lb cb] 41)) (.agg #[.int .i64 ga, .slice sa la ca]) (x) := ⟨ga, sa, la, ca, rfl, ha, ma.kept hG⟩
  have ma' : RefV ((w.alloc (.cells #[.int .i64 ga, .slice sa la ca] 41)).alloc (.cells #[.int .i64 gb, .slice sb lb cb] 41)) (.agg #[.slice sa la ca]) (x).natAbs := ma.kept hG
  have rb : RIntV ((w.alloc (.cells #[.int .i64 ga, .slice sa la ca] 41)).alloc (.cells #[.int .i64 gb, .slice sb lb cb] 41)) (.agg #[.int .i64 gb, .slice sb lb cb]) (y) := ⟨gb, sb, lb, cb, rfl, hb, mb.kept hG⟩
  have mb' : RefV ((w.alloc (.cells #[.int .i64 ga, .slice sa la ca] 41)).alloc (.cells #[.int .i64 gb, .slice sb lb cb] 41)) (.agg #[.slice sb lb cb]) (y).natAbs := mb.kept hG
  have oa : RIntV w (.agg #[.int .i64 ga, .slice sa la ca]) (x) := ⟨ga, sa, la, ca, rfl, ha, ma⟩
  clear ma
  have ob : RIntV w (.agg #[.int .i64 gb, .slice sb lb cb]) (y) := ⟨gb, sb, lb, cb, rfl, hb, mb⟩
  clear mb
  go_enter Tryz.func55, Tryz.ntmps55
  have hc := zcmp_cases x y
  rw [← ha.out, ← hb.out] at hc
  have hc4 : (decide (ga < gb) = true ∧ Hid (zcmp x y = -1)) ∨ (decide (ga < gb) = false ∧ decide (gb < ga) = true ∧ Hid (zcmp x y = 1)) ∨ (decide (ga < gb) = false ∧ decide (gb < ga) = false ∧ Hid (ga * cmpInt x.natAbs y.natAbs = zcmp x y)) := by
    have key : ga = gb → ga * cmpInt x.natAbs y.natAbs = zcmp x y := fun h => by rw [ha.out]; exact rcmp_mul (by rw [← ha.out, ← hb.out, h])
    rcases hc with ⟨q, r⟩ | ⟨q, r⟩ | ⟨q, r, t, u⟩ | ⟨q, r, t, u⟩
    · left; exact ⟨decide_eq_true q, r⟩
    · right; left; exact ⟨decide_eq_false (by omega), decide_eq_true q, r⟩
    · right; right; exact ⟨decide_eq_false (by omega), decide_eq_false (by omega), key q⟩
    · right; right; exact ⟨decide_eq_false (by omega), decide_eq_false (by omega), key q⟩
  clear hc
  have hbd := sign_bd x
  rw [← ha.out] at hbd
  have hcb := cmp_bd x.natAbs y.natAbs
  obtain ⟨cc, hcc⟩ : ∃ cc, cmpInt x.natAbs y.natAbs = cc := ⟨_, rfl⟩
  rw [hcc] at hc4 hcb
  have HCC := Lib.hid hcc
  obtain ⟨zz, hzz⟩ : ∃ zz, zcmp x y = zz := ⟨_, rfl⟩
  rw [hzz] at hc4 ⊢
  clear hcc hzz
  rcases hc4 with ⟨f1, hz⟩ | ⟨f1, f2, hz⟩ | ⟨f1, f2, hz⟩
  · skip
    obtain ⟨Ca0, Ca1, Fa0, Fa1⟩ := box_cells Ba
    obtain ⟨Cb0, Cb1, Fb0, Fb1⟩ := box_cells Bb
    go_wp2_with fail
    go_ret
    exact ⟨by rw [hz.out]; rfl, hG⟩
  · skip
    obtain ⟨Ca0, Ca1, Fa0, Fa1⟩ := box_cells Ba
    obtain ⟨Cb0, Cb1, Fb0, Fb1⟩ := box_cells Bb
    go_wp2_with fail
    go_ret
    exact ⟨by rw [hz.out]; rfl, hG⟩
  · skip
    have hw : IntKind.i64.wrap (ga * cc) = zz := by rw [← hz.out, IntKind.wrap_i64]; obtain ⟨u1, u2⟩ := hbd; rcases hcb with h | h | h <;> rw [h] <;> omega
    clear hz hbd hcb
    obtain ⟨Ca0, Ca1, Fa0, Fa1⟩ := box_cells Ba
    obtain ⟨Cb0, Cb1, Fb0, Fb1⟩ := box_cells Bb
    go_wp2_with fail
    generalize ((w.alloc (.cells #[.int .i64 ga, .slice sa la ca] 41)).alloc (.cells #[.int .i64 gb, .slice sb lb cb] 41)) = w0 at *
    go_region_held3 (fun w' => w'.cell? ⟨w.heap.size, 0, none⟩ = some (.int .i64 ga) ∧ w'.cell? ⟨w.heap.size, 1, none⟩ = some (.slice sa la ca) ∧ w'.cell? ⟨w.heap.size + 1, 0, none⟩ = some (.int .i64 gb) ∧ w'.cell? ⟨w.heap.size + 1, 1, none⟩ = some (.slice sb lb cb))
      (first | assumption | exact ⟨Ca0, Ca1, Cb0, Cb1⟩ | go_keep)
      (first
        | (go_at_call 101; (with_reducible refine (rCmp_any w0.drew _ _ x.natAbs y.natAbs (ma'.kept (grown_drew (grown_refl _ _))) (mb'.kept (grown_drew (grown_refl _ _))) Hla.out Hlb.out).mono ?_); rintro e w1_1 ⟨rfl, gw1_1⟩; rw [HCC.out]; have hGw1_1 := grown_pre w0 gw1_1 rfl rfl rfl rfl; have hSw1_1 := (And.intro (hGw1_1.cell Ca0 (by simp)) (And.intro (hGw1_1.cell Ca1 (by simp)) (And.intro (hGw1_1.cell Cb0 (by simp)) (hGw1_1.cell Cb1 (by simp))))); clear gw1_1))
    replace Ba := heap_kept hGw1_1 Ba
    replace Bb := heap_kept hGw1_1 Bb
    replace ra := ra.kept hGw1_1
    replace ma' := ma'.kept hGw1_1
    replace rb := rb.kept hGw1_1
    replace mb' := mb'.kept hGw1_1
    replace hG := grown_trans hG hGw1_1
    clear Ca0 Fa0 Ca1 Fa1 Cb0 Fb0 Cb1 Fb1
    obtain ⟨Ca0, Ca1, Fa0, Fa1⟩ := box_cells Ba
    obtain ⟨Cb0, Cb1, Fb0, Fb1⟩ := box_cells Bb
    go_wp2_with fail
    go_ret
    exact ⟨by first | rfl | (rw [hw]; rfl), hG⟩
end Go.Proofs.YtoaepibannfbdaaGreatDoor
