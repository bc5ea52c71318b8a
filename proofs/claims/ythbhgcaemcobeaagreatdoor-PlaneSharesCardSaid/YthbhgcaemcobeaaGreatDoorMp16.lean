/- What the laws lean on, part 16. -/
import Derived.Deep.RegionHeld3
import Derived.Test.YthbhgcaemcobeaaGreatDoorMp11
import Derived.Test.YthbhgcaemcobeaaGreatDoorMp6
import Derived.Test.YthbhgcaemcobeaaGreatDoorMp9
namespace Go.Proofs.YthbhgcaemcobeaaGreatDoor
open Go.RowKit Mat
set_option maxRecDepth 100000
set_option linter.unusedVariables false
set_option linter.unusedSimpArgs false
def decB (l : List Nat) : Bool := l.all (fun d => Nat.ble 48 d && Nat.ble d 57) && (l == [48] || (!l.isEmpty && l.head? != some 48))
theorem dec_of {l : List Nat} (h : decB l = true) : DecL l := by
  unfold decB at h
  simp only [Bool.and_eq_true, Bool.or_eq_true, List.all_eq_true] at h
  obtain ⟨h1, h2⟩ := h
  refine ⟨fun k hk => ?_, ?_⟩
  · have := h1 _ (List.getElem_mem hk)
    simpa using this
  · rcases h2 with h2 | h2
    · left; simpa using h2
    · right; simpa using h2
theorem dec_not {l : List Nat} (h : decB l = false) : ¬ DecL l := by
  intro hd
  have : decB l = true := by
    unfold decB
    simp only [Bool.and_eq_true, Bool.or_eq_true, List.all_eq_true]
    refine ⟨fun x hx => ?_, ?_⟩
    · obtain ⟨k, hk, rfl⟩ := List.getElem_of_mem hx
      simpa using hd.1 k hk
    · rcases hd.2 with h2 | h2
      · left; simpa using h2
      · right; simpa using h2
  rw [h] at this; cases this
theorem dec_iff (l : List Nat) : decB l = true ↔ DecL l := by
  constructor
  · exact dec_of
  · intro h
    cases e : decB l
    · exact absurd h (dec_not e)
    · rfl
theorem dval_lt {l : List Nat} (h : decB l = true) : dval l < 10 ^ l.length := by
  have hd := (dec_of h).1
  rw [dig_val hd]
  have := val_lt 10 _ (dig_dig hd)
  rw [List.length_reverse, List.length_map] at this; exact this
theorem toD {a k : Nat} (h : a < B ^ k) (hk : k ≤ 200000) : a < D ^ 1000000 := by
  obtain ⟨E, hE⟩ : ∃ E, E = 1000000 := ⟨_, rfl⟩
  rw [← hE]
  refine Nat.lt_of_lt_of_le h ?_
  have h1 : B ^ k ≤ (D ^ 5) ^ k := Nat.pow_le_pow_left (by decide) k
  rw [← Nat.pow_mul] at h1
  exact Nat.le_trans h1 (Nat.pow_le_pow_right D_pos (by omega))
theorem toD4 {a k : Nat} (h : a < B ^ k) (hk : k ≤ 80000) : a < D ^ 400000 := by
  obtain ⟨E, hE⟩ : ∃ E, E = 400000 := ⟨_, rfl⟩
  rw [← hE]
  refine Nat.lt_of_lt_of_le h ?_
  have h1 : B ^ k ≤ (D ^ 5) ^ k := Nat.pow_le_pow_left (by decide) k
  rw [← Nat.pow_mul] at h1
  exact Nat.le_trans h1 (Nat.pow_le_pow_right D_pos (by omega))
theorem dval_bdE {l : List Nat} {E : Nat} (h : DecL l) (hl : l.length ≤ 19 * E) : dval l < B ^ E := by
  refine Nat.lt_of_lt_of_le (dval_lt ((dec_iff l).2 h)) ?_
  refine Nat.le_trans (Nat.pow_le_pow_right (by omega) hl) ?_
  rw [Nat.pow_mul]
  exact Nat.pow_le_pow_left (by unfold B; decide) E
theorem dval_bd {l : List Nat} (h : DecL l) (hl : l.length ≤ 4097) : dval l < B ^ 216 := dval_bdE h (by omega)
def zneg (l : List Nat) : Bool := l.head? == some 45
def zdig (l : List Nat) : List Nat := if zneg l = true then l.tail else l
def zok (l : List Nat) : Bool := decB (zdig l) && !(zneg l && zdig l == [48])
def znum (l : List Nat) : Int := if zneg l = true then -(dval (zdig l) : Int) else dval (zdig l)
def zcod (s : ByteArray) : Int := if 4097 < s.size then 2 else if zok (bts s) = false then 3 else if 4096 < (zdig (bts s)).length then 2 else 0
def zval (s : ByteArray) : Int := if zcod s = 0 then znum (bts s) else 0
theorem zdig_neg {l : List Nat} (h : zneg l = true) : zdig l = l.tail := by unfold zdig; rw [if_pos h]
theorem zdig_pos {l : List Nat} (h : zneg l = false) : zdig l = l := by unfold zdig; rw [h]; rfl
theorem zok_iff (l : List Nat) : zok l = true ↔ (DecL (zdig l) ∧ ¬ (zneg l = true ∧ dval (zdig l) = 0)) := by
  unfold zok
  rw [Bool.and_eq_true, dec_iff]
  constructor
  · rintro ⟨h1, h2⟩
    refine ⟨h1, ?_⟩
    rintro ⟨h3, h4⟩
    have : zdig l = [48] := dec_uniqL h1 (dec_of (by decide +kernel)) (h4.trans (by decide +kernel))
    rw [h3, this] at h2; simp at h2
  · rintro ⟨h1, h2⟩
    refine ⟨h1, ?_⟩
    cases e : zneg l
    · rfl
    · cases e2 : (zdig l == [48])
      · rfl
      · exact absurd ⟨e, by rw [beq_iff_eq.1 e2]; decide +kernel⟩ h2
theorem zc_long {s : ByteArray} (h : 4097 < s.size) : zcod s = 2 ∧ zval s = 0 := by
  have : zcod s = 2 := by unfold zcod; rw [if_pos h]
  exact ⟨this, by unfold zval; rw [this]; rfl⟩
theorem zc_form {s : ByteArray} (h : s.size ≤ 4097) (h1 : ¬ zok (bts s) = true) : zcod s = 3 ∧ zval s = 0 := by
  have : zcod s = 3 := by unfold zcod; rw [if_neg (by omega), if_pos (by simpa using h1)]
  exact ⟨this, by unfold zval; rw [this]; rfl⟩
theorem zc_many {s : ByteArray} (h : s.size ≤ 4097) (h1 : zok (bts s) = true) (h2 : 4096 < (zdig (bts s)).length) : zcod s = 2 ∧ zval s = 0 := by
  have : zcod s = 2 := by unfold zcod; rw [if_neg (by omega), if_neg (by rw [h1]; simp), if_pos h2]
  exact ⟨this, by unfold zval; rw [this]; rfl⟩
theorem zc_num {s : ByteArray} (h : s.size ≤ 4097) (h1 : zok (bts s) = true) (h2 : (zdig (bts s)).length ≤ 4096) : zcod s = 0 ∧ zval s = znum (bts s) := by
  have : zcod s = 0 := by unfold zcod; rw [if_neg (by omega), if_neg (by rw [h1]; simp), if_neg (by omega)]
  exact ⟨this, by unfold zval; rw [if_pos this]⟩
def pfx (s p : ByteArray) : Bool := decide (p.size ≤ s.size) && ((s.extract 0 p.size).toList == p.toList)
theorem pfx_dash (s : ByteArray) : pfx s { data := #[45] } = zneg (bts s) := by
  have e1 : (s.extract 0 1).toList = s.data.toList.take 1 := by
    obtain ⟨⟨l⟩⟩ := s
    rw [ByteArray.extract_mk, ByteArray.toList_eq]
    simp
  have e2 : s.size = s.data.toList.length := by simp only [Array.length_toList]; rfl
  unfold pfx zneg bts
  show (decide (1 ≤ s.size) && ((s.extract 0 1).toList == (⟨#[45]⟩ : ByteArray).toList)) = _
  rw [e1, e2, ByteArray.toList_eq]
  generalize s.data.toList = l
  cases l with
  | nil => rfl
  | cons x t =>
    simp only [List.length_cons, List.take_succ_cons, List.take_zero, List.map_cons, List.head?_cons]
    by_cases h : x = 45
    · subst h; simp
    · have : x.toNat ≠ 45 := fun e => h (UInt8.toNat_inj.1 e)
      have hx1 : (x == 45) = false := beq_eq_false_iff_ne.2 h
      have hx2 : (x.toNat == 45) = false := beq_eq_false_iff_ne.2 this
      simp [hx1, hx2]
end Go.Proofs.YthbhgcaemcobeaaGreatDoor
namespace Go.Proofs.YthbhgcaemcobeaaGreatDoor
open Go.RowKit Mat
set_option maxRecDepth 100000
set_option linter.unusedVariables false
set_option linter.unusedSimpArgs false
def RetIntE (w : World) (z : Int) (code : Int) (e : Ending) (w' : World) : Prop := ∃ v, e = .returned (.tuple #[v, .int .i64 code]) ∧ IntV w' v z ∧ w.grownBy w' none
theorem ret_intv {w w' : World} {z : Int} {g : Nat} {a0 a1 v0 v1 : Value} (hg : w.grownBy w' none) (hbox : w'.heap[g]? = some (.cells #[a0, a1] 30 (0, 0))) (hl : w.heap.size ≤ g) (h : IntV w' (.agg #[v0, v1]) z) :
    RetInt w z (.returned (.agg #[v0, v1])) ((w'.setCell ⟨g, 0, none⟩ v0).setCell ⟨g, 1, none⟩ v1) :=
  ⟨_, rfl, h.set2 hbox v0 v1, grown_set2 hg hl v0 v1⟩
theorem ret_intvE {w w' : World} {z code : Int} {g : Nat} {a0 a1 v0 v1 : Value} (hg : w.grownBy w' none) (hbox : w'.heap[g]? = some (.cells #[a0, a1] 30 (0, 0))) (hl : w.heap.size ≤ g) (h : IntV w' (.agg #[v0, v1]) z) :
    RetIntE w z code (.returned (.tuple #[.agg #[v0, v1], .int .i64 code])) ((w'.setCell ⟨g, 0, none⟩ v0).setCell ⟨g, 1, none⟩ v1) :=
  ⟨_, rfl, h.set2 hbox v0 v1, grown_set2 hg hl v0 v1⟩
theorem intv_of_nat {w : World} {s : Option Addr} {k c m : Nat} (h : NatV w (.agg #[.slice s k c]) m) : IntV w (.agg #[.slice s k c, .bool false]) (m : Int) := by
  obtain ⟨s', xs, e, h1, hv⟩ := h
  cases e
  exact ⟨_, xs, false, rfl, h1, by simpa using hv, by constructor <;> intro h <;> first | cases h | omega⟩
theorem intv_of_neg {w : World} {s : Option Addr} {k c m : Nat} (h : NatV w (.agg #[.slice s k c]) m) (hm : 0 < m) : IntV w (.agg #[.slice s k c, .bool true]) (-(m : Int)) := by
  obtain ⟨s', xs, e, h1, hv⟩ := h
  cases e
  exact ⟨_, xs, true, rfl, h1, by omega, by constructor <;> intro h <;> first | rfl | omega⟩
end Go.Proofs.YthbhgcaemcobeaaGreatDoor
namespace Go.Proofs.YthbhgcaemcobeaaGreatDoor
open Go.RowKit Mat
set_option maxRecDepth 100000
set_option linter.unusedVariables false
set_option linter.unusedSimpArgs false
theorem rless_step {v t s c x y d c' p : Nat} (h : v + t = s + c * p) (hd : d + y + c = x + c' * D) : v + p * d + (t + p * y) = s + p * x + c' * (p * D) := by
  have h2 : p * (d + y + c) = p * (x + c' * D) := by rw [hd]
  rw [Nat.mul_add, Nat.mul_add, Nat.mul_add] at h2
  have h3 : p * (c' * D) = c' * (p * D) := by grind
  have h4 : p * c = c * p := Nat.mul_comm _ _
  omega
set_option maxHeartbeats 8000000 in
theorem rLess_any (w : World) (va vb : Value) (a b : Nat) (ha : RefV w va a) (hb : RefV w vb b) (hle : b ≤ a) (ba : a < D ^ 1000000) :
    Calls Tryz.prog 120 #[va, vb] w (RetRef w (a - b)) := by
  have bb : b < D ^ 1000000 := Nat.lt_of_le_of_lt hle ba
  obtain ⟨sa, n, cx, xs, rfl, hn, hnc, hx, tx, dx, rfl⟩ := ha
  obtain ⟨sb, m, cy, ys, rfl, hm, hmc, hy, ty, dy, rfl⟩ := hb
  have Hn := Lib.hid hn
  have Hm := Lib.hid hm
  have Hle := Lib.hid hle
  have hn6 : n ≤ 1000000 := rlen tx hn ba
  have hm6 : m ≤ 1000000 := rlen ty hm bb
  have hmn : m ≤ n := by
    rcases Nat.lt_or_ge n m with h | h
    · have := val_lt_of_length D D_pos xs ys dx ty (by rw [hn, hm]; exact h)
      omega
    · exact h
  obtain ⟨i1, hi, hz0, hz1, hz2⟩ := info_partsI
  have hgw0 : w.grownBy (((w.alloc (.cells #[.slice sa n cx] 38)).alloc (.cells #[.slice sb m cy] 38)).alloc (.cells #[.slice none 0 0] 38)) none := grown_alloc (grown_alloc (World.grownBy_alloc _ _ _) _) _
  have hboxr := heap_new ((w.alloc (.cells #[.slice sa n cx] 38)).alloc (.cells #[.slice sb m cy] 38)) (.cells #[.slice none 0 0] 38) (w.heap.size + 1 + 1) (by simp)
  have hboxb := (Below.heap_alloc _ (.cells #[.slice none 0 0] 38) (w.heap.size + 1) (by simp)).trans (heap_new (w.alloc (.cells #[.slice sa n cx] 38)) (.cells #[.slice sb m cy] 38) (w.heap.size + 1) (by simp))
  have hboxa := ((Below.heap_alloc _ (.cells #[.slice none 0 0] 38) w.heap.size (by simp; omega)).trans (Below.heap_alloc _ (.cells #[.slice sb m cy] 38) w.heap.size (by simp))).trans (heap_new w (.cells #[.slice sa n cx] 38) w.heap.size rfl)
  have hs0 : (((w.alloc (.cells #[.slice sa n cx] 38)).alloc (.cells #[.slice sb m cy] 38)).alloc (.cells #[.slice none 0 0] 38)).heap.size = w.heap.size + 1 + 1 + 1 := by simp
  obtain ⟨N, hN⟩ : ∃ N, N = w.heap.size + 1 + 1 + 1 := ⟨_, rfl⟩
  have hx0 := hx.kept hgw0
  have hy0 := hy.kept hgw0
  clear hn hm ba bb hx hy hle
  go_enter Tryz.func120, Tryz.ntmps120
  go_wp2_with fail
  generalize (((w.alloc (.cells #[.slice sa n cx] 38)).alloc (.cells #[.slice sb m cy] 38)).alloc (.cells #[.slice none 0 0] 38)) = w0 at *
  go_loopg [5, 6, 7] n (fun gh s c i wr => ∃ (k bo : Nat) (sl : Option Addr) (cl : Nat) (ds : List Nat), s = .slice sl k cl ∧ c = .int .i64 bo ∧ i = .int .i64 k ∧ bo ≤ 1 ∧ k ≤ n ∧ n - k ≤ gh ∧ wr.ownsRow N 3 1 (.slice sl k cl) k (ds.map iv) ∧ Hid (ds.length = k) ∧ Dig D ds ∧ Hid (val D ds + val D (ys.take k) = val D (xs.take k) + bo * D ^ k) ∧ Below N w0 wr)
  case atStart => exact ⟨0, 0, none, 0, [], rfl, rfl, rfl, by omega, by omega, by omega, ⟨rfl, Or.inl ⟨rfl, rfl⟩⟩, rfl, Dig.nil _, by show _ = _; simp [val], Below.refl _ _⟩
  case round =>
    obtain ⟨k, bo, sl, cl, ds, rfl, rfl, rfl, hc1, hkn, hgh, hown, hdl, hdd, hv, hbl⟩ := hrel
    obtain ⟨ca, fa⟩ := box_cell (heap_below hbl hboxa (by omega))
    obtain ⟨cb, fb⟩ := box_cell (heap_below hbl hboxb (by omega))
    have hboxr1 := heap_below hbl hboxr (by omega)
    obtain ⟨cr, fr⟩ := box_cell hboxr1
    have hsr : N ≤ wr.heap.size := by have := hbl.size; omega
    have hxr : RRdo wr sa xs := hx0.below hbl (by omega)
    have hyr : RRdo wr sb ys := hy0.below hbl (by omega)
    by_cases hend : k < n
    · have f1 : decide ((k : Int) < (n : Int)) = true := decide_eq_true (by omega)
      obtain ⟨x, hxk⟩ : ∃ x, xs.getD k 0 = x := ⟨_, rfl⟩
      obtain ⟨y, hyk⟩ : ∃ y, ys.getD k 0 = y := ⟨_, rfl⟩
      have hx4 : x < 10000 := hxk ▸ getD_lt dx k
      have hy4 : y < 10000 := hyk ▸ getD_lt dy k
      have HX := Lib.hid hxk
      have HY := Lib.hid hyk
      obtain ⟨b1, o1, rfl, cx1⟩ := rcell hxr Hn.out k hend
      rw [hxk] at cx1
      clear hxk hyk hboxr1
      rcases Nat.lt_or_ge k m with hkm | hkm
      · obtain ⟨b2, o2, rfl, cy2⟩ := rcell hyr Hm.out k hkm
        rw [HY.out] at cy2
        have f2 : decide ((k : Int) < (m : Int)) = true := decide_eq_true (by omega)
        by_cases hs : x < bo + y
        · have t1 : decide ((x : Int) - (bo : Int) - (y : Int) < 0) = true := decide_eq_true (by omega)
          obtain ⟨d, hd⟩ : ∃ d : Nat, (x : Int) - (bo : Int) - (y : Int) + 10000 = (d : Int) := ⟨((x : Int) - (bo : Int) - (y : Int) + 10000).toNat, by omega⟩
          obtain ⟨c2', hc2⟩ : ∃ c, c = 1 := ⟨_, rfl⟩
          have hd4 : d < 10000 := by omega
          have hvn : Hid (val D (ds ++ [d]) + val D (ys.take (k + 1)) = val D (xs.take (k + 1)) + c2' * D ^ (k + 1)) := by
            show _ = _
            rw [val_snoc, hdl.out, Nat.pow_succ, take_getD xs, take_getD ys, HX.out, HY.out]
            exact rless_step hv.out (by unfold D; omega)
          have hownA := own_allocI hown (.cells #[iv d] 3)
          have hnews : ∀ j u, ([iv d] : List Value)[j]? = some u → (wr.alloc (.cells #[iv d] 3)).cell? ((⟨wr.heap.size, 0, none⟩ : Addr).add j) = some u := World.news_of_block (heap_alloc_new wr _)
          have hsi : N ≤ (wr.alloc (.cells #[iv d] 3)).heap.size := by simp; omega
          have hblA : Below N w0 (wr.alloc (.cells #[iv d] 3)) := hbl.trans (below_none (World.grownBy_alloc _ _ _) hsr)
          subst hc2
          clear hown hbl hv
          go_wp2_with (at_builtin; refine wpList_append_lies _ rfl _ _ _ rfl N 3 i1 (.int .i64 0) 1 8 Tryz.underlying36 hi hz0 hz1 hz2 rfl (by omega) (.slice sl k cl) k (ds.map iv) rfl hownA ⟨wr.heap.size, 0, none⟩ 1 1 [iv d] rfl rfl hnews one_iv (by omega) (by unfold maxLen; omega) (by omega) hsi (wr.heap.size + 1) (by simp) ?_; intro g2 cap2 w5 hown5 hgrow hat9 hlt9)
          have hbl5 := hblA.trans (below_own hownA hgrow hsi)
          have hmap : ds.map iv ++ [iv d] = (ds ++ [d]).map iv := by rw [List.map_append]; rfl
          rw [hmap] at hown5
          have hl5 : Hid ((ds ++ [d]).length = k + 1) := by show _ = _; rw [List.length_append, hdl.out]; rfl
          clear hgrow hownA hnews hblA hmap
          go_roundg (n - (k + 1))
          case measure => omega
          case rel => exact ⟨k + 1, 1, _, cap2, ds ++ [d], rfl, rfl, by go_num, (by omega), by omega, by omega, hown5, hl5, hdd.snoc hd4, hvn, hbl5⟩
        · obtain ⟨d, hd⟩ : ∃ d : Nat, (x : Int) - (bo : Int) - (y : Int) = (d : Int) := ⟨((x : Int) - (bo : Int) - (y : Int)).toNat, by omega⟩
          have t1 : decide ((x : Int) - (bo : Int) - (y : Int) < 0) = false := decide_eq_false (by omega)
          have t2 : decide ((d : Int) < 0) = false := decide_eq_false (by omega)
          obtain ⟨c2', hc2⟩ : ∃ c, c = 0 := ⟨_, rfl⟩
          have hd4 : d < 10000 := by omega
          have hvn : Hid (val D (ds ++ [d]) + val D (ys.take (k + 1)) = val D (xs.take (k + 1)) + c2' * D ^ (k + 1)) := by
            show _ = _
            rw [val_snoc, hdl.out, Nat.pow_succ, take_getD xs, take_getD ys, HX.out, HY.out]
            exact rless_step hv.out (by unfold D; omega)
          have hownA := own_allocI hown (.cells #[iv d] 3)
          have hnews : ∀ j u, ([iv d] : List Value)[j]? = some u → (wr.alloc (.cells #[iv d] 3)).cell? ((⟨wr.heap.size, 0, none⟩ : Addr).add j) = some u := World.news_of_block (heap_alloc_new wr _)
          have hsi : N ≤ (wr.alloc (.cells #[iv d] 3)).heap.size := by simp; omega
          have hblA : Below N w0 (wr.alloc (.cells #[iv d] 3)) := hbl.trans (below_none (World.grownBy_alloc _ _ _) hsr)
          subst hc2
          clear hown hbl hv
          go_wp2_with (at_builtin; refine wpList_append_lies _ rfl _ _ _ rfl N 3 i1 (.int .i64 0) 1 8 Tryz.underlying36 hi hz0 hz1 hz2 rfl (by omega) (.slice sl k cl) k (ds.map iv) rfl hownA ⟨wr.heap.size, 0, none⟩ 1 1 [iv d] rfl rfl hnews one_iv (by omega) (by unfold maxLen; omega) (by omega) hsi (wr.heap.size + 1) (by simp) ?_; intro g2 cap2 w5 hown5 hgrow hat9 hlt9)
          have hbl5 := hblA.trans (below_own hownA hgrow hsi)
          have hmap : ds.map iv ++ [iv d] = (ds ++ [d]).map iv := by rw [List.map_append]; rfl
          rw [hmap] at hown5
          have hl5 : Hid ((ds ++ [d]).length = k + 1) := by show _ = _; rw [List.length_append, hdl.out]; rfl
          clear hgrow hownA hnews hblA hmap
          go_roundg (n - (k + 1))
          case measure => omega
          case rel => exact ⟨k + 1, 0, _, cap2, ds ++ [d], rfl, rfl, by go_num, (by omega), by omega, by omega, hown5, hl5, hdd.snoc hd4, hvn, hbl5⟩
      · have y0 : y = 0 := by rw [← HY.out]; exact getD_out Hm.out hkm
        have f2 : decide ((k : Int) < (m : Int)) = false := decide_eq_false (by omega)
        by_cases hs : x < bo + y
        · have t1 : decide ((x : Int) - (bo : Int) < 0) = true := decide_eq_true (by omega)
          obtain ⟨d, hd⟩ : ∃ d : Nat, (x : Int) - (bo : Int) + 10000 = (d : Int) := ⟨((x : Int) - (bo : Int) + 10000).toNat, by omega⟩
          obtain ⟨c2', hc2⟩ : ∃ c, c = 1 := ⟨_, rfl⟩
          have hd4 : d < 10000 := by omega
          have hvn : Hid (val D (ds ++ [d]) + val D (ys.take (k + 1)) = val D (xs.take (k + 1)) + c2' * D ^ (k + 1)) := by
            show _ = _
            rw [val_snoc, hdl.out, Nat.pow_succ, take_getD xs, take_getD ys, HX.out, HY.out]
            exact rless_step hv.out (by unfold D; omega)
          have hownA := own_allocI hown (.cells #[iv d] 3)
          have hnews : ∀ j u, ([iv d] : List Value)[j]? = some u → (wr.alloc (.cells #[iv d] 3)).cell? ((⟨wr.heap.size, 0, none⟩ : Addr).add j) = some u := World.news_of_block (heap_alloc_new wr _)
          have hsi : N ≤ (wr.alloc (.cells #[iv d] 3)).heap.size := by simp; omega
          have hblA : Below N w0 (wr.alloc (.cells #[iv d] 3)) := hbl.trans (below_none (World.grownBy_alloc _ _ _) hsr)
          subst hc2
          clear hown hbl hv
          go_wp2_with (at_builtin; refine wpList_append_lies _ rfl _ _ _ rfl N 3 i1 (.int .i64 0) 1 8 Tryz.underlying36 hi hz0 hz1 hz2 rfl (by omega) (.slice sl k cl) k (ds.map iv) rfl hownA ⟨wr.heap.size, 0, none⟩ 1 1 [iv d] rfl rfl hnews one_iv (by omega) (by unfold maxLen; omega) (by omega) hsi (wr.heap.size + 1) (by simp) ?_; intro g2 cap2 w5 hown5 hgrow hat9 hlt9)
          have hbl5 := hblA.trans (below_own hownA hgrow hsi)
          have hmap : ds.map iv ++ [iv d] = (ds ++ [d]).map iv := by rw [List.map_append]; rfl
          rw [hmap] at hown5
          have hl5 : Hid ((ds ++ [d]).length = k + 1) := by show _ = _; rw [List.length_append, hdl.out]; rfl
          clear hgrow hownA hnews hblA hmap
          go_roundg (n - (k + 1))
          case measure => omega
          case rel => exact ⟨k + 1, 1, _, cap2, ds ++ [d], rfl, rfl, by go_num, (by omega), by omega, by omega, hown5, hl5, hdd.snoc hd4, hvn, hbl5⟩
        · obtain ⟨d, hd⟩ : ∃ d : Nat, (x : Int) - (bo : Int) = (d : Int) := ⟨((x : Int) - (bo : Int)).toNat, by omega⟩
          have t1 : decide ((x : Int) - (bo : Int) < 0) = false := decide_eq_false (by omega)
          have t2 : decide ((d : Int) < 0) = false := decide_eq_false (by omega)
          obtain ⟨c2', hc2⟩ : ∃ c, c = 0 := ⟨_, rfl⟩
          have hd4 : d < 10000 := by omega
          have hvn : Hid (val D (ds ++ [d]) + val D (ys.take (k + 1)) = val D (xs.take (k + 1)) + c2' * D ^ (k + 1)) := by
            show _ = _
            rw [val_snoc, hdl.out, Nat.pow_succ, take_getD xs, take_getD ys, HX.out, HY.out]
            exact rless_step hv.out (by unfold D; omega)
          have hownA := own_allocI hown (.cells #[iv d] 3)
          have hnews : ∀ j u, ([iv d] : List Value)[j]? = some u → (wr.alloc (.cells #[iv d] 3)).cell? ((⟨wr.heap.size, 0, none⟩ : Addr).add j) = some u := World.news_of_block (heap_alloc_new wr _)
          have hsi : N ≤ (wr.alloc (.cells #[iv d] 3)).heap.size := by simp; omega
          have hblA : Below N w0 (wr.alloc (.cells #[iv d] 3)) := hbl.trans (below_none (World.grownBy_alloc _ _ _) hsr)
          subst hc2
          clear hown hbl hv
          go_wp2_with (at_builtin; refine wpList_append_lies _ rfl _ _ _ rfl N 3 i1 (.int .i64 0) 1 8 Tryz.underlying36 hi hz0 hz1 hz2 rfl (by omega) (.slice sl k cl) k (ds.map iv) rfl hownA ⟨wr.heap.size, 0, none⟩ 1 1 [iv d] rfl rfl hnews one_iv (by omega) (by unfold maxLen; omega) (by omega) hsi (wr.heap.size + 1) (by simp) ?_; intro g2 cap2 w5 hown5 hgrow hat9 hlt9)
          have hbl5 := hblA.trans (below_own hownA hgrow hsi)
          have hmap : ds.map iv ++ [iv d] = (ds ++ [d]).map iv := by rw [List.map_append]; rfl
          rw [hmap] at hown5
          have hl5 : Hid ((ds ++ [d]).length = k + 1) := by show _ = _; rw [List.length_append, hdl.out]; rfl
          clear hgrow hownA hnews hblA hmap
          go_roundg (n - (k + 1))
          case measure => omega
          case rel => exact ⟨k + 1, 0, _, cap2, ds ++ [d], rfl, rfl, by go_num, (by omega), by omega, by omega, hown5, hl5, hdd.snoc hd4, hvn, hbl5⟩
    · obtain rfl : k = n := by omega
      have f1 : decide ((k : Int) < (k : Int)) = false := decide_eq_false (by omega)
      obtain ⟨hrd, hcap, _⟩ := own_rdoI hown
      have hgw := grown_then_below hgw0 hbl (by omega)
      have HV : Hid (val D ds = val D xs - val D ys) := by
        show _ = _
        have h1 := hv.out
        rw [List.take_of_length_le (l := ys) (by rw [Hm.out]; exact hmn), List.take_of_length_le (l := xs) (by rw [Hn.out]; exact Nat.le_refl _)] at h1
        have h2 := val_lt D ds hdd
        rw [hdl.out] at h2
        have h3 := Hle.out
        rcases (show bo = 0 ∨ bo = 1 by omega) with h4 | h4
        · rw [h4] at h1; omega
        · rw [h4, Nat.one_mul] at h1; omega
      clear hown hbl hv
      go_wp2_with fail
      refine (rcut_any wr sl k cl ds hdl.out hrd hcap (by omega) hdd).mono ?_
      rintro e w4 ⟨v, rfl, hv4, hg4⟩
      have hbox4 := heap_kept hg4 hboxr1
      obtain ⟨hc4, hf4⟩ := box_cell hbox4
      rw [HV.out] at hv4
      obtain ⟨s4, k4, c4, zs4, rfl, hz4⟩ := hv4
      have hF := Lib.hid (rret (grown_trans hgw hg4) hbox4 (by decide) (by omega) ⟨s4, k4, c4, zs4, rfl, hz4⟩ (.slice s4 k4 c4))
      clear hz4 hbox4 hg4 hgw hgw0 hboxr1 hboxr cr fr
      go_wp2_with fail
      exact bodyPost_ret (v := .agg #[.slice s4 k4 c4]) (by simp [results, Tryz.results120, go_sem, hc4]) rfl hF.out
end Go.Proofs.YthbhgcaemcobeaaGreatDoor
namespace Go.Proofs.YthbhgcaemcobeaaGreatDoor
open Go.RowKit Mat
set_option maxRecDepth 100000
set_option linter.unusedVariables false
set_option linter.unusedSimpArgs false
def Ints (w : World) (g : Nat) (zs : List Nat) : Prop := RBlk w g (zs.map iv).toArray
theorem heap_setv {w : World} {g o : Nat} {cs : Array Value} {v : Value} {t : TypeId} (h : w.heap[g]? = some (.cells cs t (0, 0))) : (w.setCell ⟨g, o, none⟩ v).heap[g]? = some (.cells (cs.setIfInBounds o v) t (0, 0)) := by
  simp [World.setCell, Array.getElem?_modify, h]
theorem Ints.set {w : World} {g : Nat} {zs : List Nat} (h : Ints w g zs) (j d : Nat) : Ints (w.setCell ⟨g, j, none⟩ (.int .i64 (d : Int))) g (zs.set j d) := by
  unfold Ints RBlk at h ⊢
  have := heap_setv (w := w) (g := g) (v := .int .i64 (d : Int)) (o := j) h
  rw [this]
  congr 2
  rw [List.map_set]
  simp [iv]
theorem Ints.drewN {w : World} {g : Nat} {zs : List Nat} (h : Ints w g zs) (q : Nat) : Ints (w.drewN q) g zs := h
theorem Ints.cell {w : World} {g : Nat} {zs : List Nat} {n : Nat} (h : Ints w g zs) (hn : zs.length = n) (j : Nat) (hj : j < n) : w.cell? ⟨g, j, none⟩ = some (.int .i64 (zs.getD j 0 : Int)) := by
  rw [RBlk.cell h, List.getElem?_toArray, List.getElem?_map, List.getD_eq_getElem?_getD, List.getElem?_eq_getElem (by omega)]; rfl
theorem Ints.frozen {w : World} {g : Nat} {zs : List Nat} (h : Ints w g zs) (j : Nat) : w.frozen? ⟨g, j, none⟩ = false := RBlk.frozen h j
theorem Ints.rd {w : World} {g : Nat} {zs : List Nat} (h : Ints w g zs) : RRdo w (some ⟨g, 0, none⟩) zs := by
  refine Or.inr ⟨g, 0, _, rfl, h, fun i hi => ?_⟩
  rw [Nat.zero_add, List.getElem?_toArray, List.getElem?_map, List.getElem?_eq_getElem hi]; rfl
theorem made_ints {w : World} {g n : Nat} (h : w.ownsRow g 3 1 (.slice (some ⟨g, 0, none⟩) n n) n (madeCells #[.int .i64 0] (n * 1)).toList) : Ints w g (List.replicate n 0) := by
  obtain ⟨_, ⟨h, _⟩ | ⟨g', cap, cur, hv, hg, hh, hle, hm, hs, ht⟩⟩ := h
  · cases h
  · simp only [Value.slice.injEq, Option.some.injEq, Addr.mk.injEq] at hv
    obtain ⟨⟨rfl, _⟩, _, rfl⟩ := hv
    have e : cur = ((List.replicate n 0).map iv).toArray := by
      apply Array.ext'
      rw [List.take_of_length_le (by rw [Array.length_toList]; omega)] at ht
      rw [ht]
      apply List.ext_getElem?
      intro i
      rw [Array.getElem?_toList]
      by_cases hi : i < n
      · simp [madeCells, hi, iv]
        rw [Nat.mod_one]; rfl
      · simp [madeCells, hi]
    rw [e] at hh
    exact hh
theorem RRdo.kept_row {w w' : World} {s : Option Addr} {xs : List Nat} {g : Nat} (h : RRdo w s xs) (hg : w.grownBy w' (some g)) (hge : w.heap.size ≤ g) : RRdo w' s xs := by
  rcases h with h | ⟨b, off, cs, e, h1, h2⟩
  · exact Or.inl h
  · exact Or.inr ⟨b, off, cs, e, h1.kept hg (by have := h1.lt; simp; omega), h2⟩
theorem val_set (zs : List Nat) : ∀ (j d : Nat), j < zs.length → val D (zs.set j d) + D ^ j * zs.getD j 0 = val D zs + D ^ j * d := by
  induction zs with
  | nil => intro j d h; simp at h
  | cons z t ih =>
    intro j d h
    cases j with
    | zero => simp [val]; omega
    | succ j =>
      have := ih j d (by simpa using h)
      simp only [List.set_cons_succ, val, List.getD_cons_succ]
      have h2 : D * (val D (t.set j d) + D ^ j * t.getD j 0) = D * (val D t + D ^ j * d) := by rw [this]
      rw [Nat.mul_add, Nat.mul_add, ← Nat.mul_assoc, ← Nat.mul_assoc, show D * D ^ j = D ^ (j + 1) from by rw [Nat.pow_succ, Nat.mul_comm]] at h2
      omega
theorem Mat.Dig.set {m : Nat} {xs : List Nat} (h : Dig m xs) {d : Nat} (hd : d < m) (j : Nat) : Dig m (xs.set j d) := by
  intro x hx
  rcases List.mem_or_eq_of_mem_set hx with h1 | h1
  · exact h x h1
  · rw [h1]; exact hd
theorem rmul_step {v v' z d q c p x y V S : Nat} (h : v + c * p = V + S) (hs : v' + p * z = v + p * d) (hd : d + q * D = c + z + x * y) : v' + q * (p * D) = V + (S + p * (x * y)) := by
  have h2 : p * (d + q * D) = p * (c + z + x * y) := by rw [hd]
  rw [Nat.mul_add, Nat.mul_add, Nat.mul_add] at h2
  have h3 : p * (q * D) = q * (p * D) := by grind
  have h4 : p * c = c * p := Nat.mul_comm _ _
  omega
theorem rcarry_step {v v' z d q c p T : Nat} (h : v + c * p = T) (hs : v' + p * z = v + p * d) (hd : d + q * D = c + z) : v' + q * (p * D) = T := by
  have h2 : p * (d + q * D) = p * (c + z) := by rw [hd]
  rw [Nat.mul_add, Nat.mul_add] at h2
  have h3 : p * (q * D) = q * (p * D) := by grind
  have h4 : p * c = c * p := Nat.mul_comm _ _
  omega
theorem rcarry_at {v c t T k : Nat} (h : v + c * D ^ t = T) (hc : 0 < c) (hT : T < D ^ k) : t < k := by
  rcases Nat.lt_or_ge t k with h1 | h1
  · exact h1
  · have h2 : D ^ k ≤ D ^ t := Nat.pow_le_pow_right D_pos h1
    have h3 : D ^ t ≤ c * D ^ t := Nat.le_mul_of_pos_left _ hc
    omega
set_option maxHeartbeats 8000000 in
theorem rMul_any (w : World) (va vb : Value) (a b : Nat) (ha : RefV w va a) (hb : RefV w vb b) (ba : a < D ^ 1000000) (bb : b < D ^ 1000000) :
    Calls Tryz.prog 112 #[va, vb] w (RetRef w (a * b)) := by
  obtain ⟨sa, n, cx, xs, rfl, hn, hnc, hx, tx, dx, rfl⟩ := ha
  obtain ⟨sb, m, cy, ys, rfl, hm, hmc, hy, ty, dy, rfl⟩ := hb
  have Hn := Lib.hid hn
  have Hm := Lib.hid hm
  have hn6 : n ≤ 1000000 := rlen tx hn ba
  have hm6 : m ≤ 1000000 := rlen ty hm bb
  obtain ⟨i0, hi, hz0, hz1, hz2⟩ := info_partsI
  have hgw0 : w.grownBy (((w.alloc (.cells #[.slice sa n cx] 38)).alloc (.cells #[.slice sb m cy] 38)).alloc (.cells #[.slice none 0 0] 38)) none := grown_alloc (grown_alloc (World.grownBy_alloc _ _ _) _) _
  have hboxr := heap_new ((w.alloc (.cells #[.slice sa n cx] 38)).alloc (.cells #[.slice sb m cy] 38)) (.cells #[.slice none 0 0] 38) (w.heap.size + 1 + 1) (by simp)
  have hboxb := (Below.heap_alloc _ (.cells #[.slice none 0 0] 38) (w.heap.size + 1) (by simp)).trans (heap_new (w.alloc (.cells #[.slice sa n cx] 38)) (.cells #[.slice sb m cy] 38) (w.heap.size + 1) (by simp))
  have hboxa := ((Below.heap_alloc _ (.cells #[.slice none 0 0] 38) w.heap.size (by simp; omega)).trans (Below.heap_alloc _ (.cells #[.slice sb m cy] 38) w.heap.size (by simp))).trans (heap_new w (.cells #[.slice sa n cx] 38) w.heap.size rfl)
  have hs0 : (((w.alloc (.cells #[.slice sa n cx] 38)).alloc (.cells #[.slice sb m cy] 38)).alloc (.cells #[.slice none 0 0] 38)).heap.size = w.heap.size + 1 + 1 + 1 := by simp
  clear hn hm ba bb
  obtain ⟨L, hL⟩ : ∃ L, n + m + 1 = L := ⟨_, rfl⟩
  have eL : (n : Int) + (m : Int) + 1 = (L : Int) := by omega
  have hL6 : L ≤ 2000001 := by omega
  go_enter Tryz.func112, Tryz.ntmps112
  go_wp2_with (at_make; refine wpList_make_full _ rfl _ _ 36 rfl _ 3 i0 (.int .i64 0) 1 Tryz.underlying36 hi hz0 hz1 .i64 .i64 _ _ L rfl rfl (by omega) (by omega) (by rw [hz2]; omega) (by unfold maxLen; omega) (Nat.le_refl _) ?_; intro w1 hown hg1; have hI1 := made_ints hown; have HS0 := Lib.hid hs0; rw [hs0] at hI1; clear hs0 hown; have hgw := grown_trans hgw0 hg1; have hboxr1 := heap_kept hg1 hboxr; have hboxb1 := heap_kept hg1 hboxb; have hboxa1 := heap_kept hg1 hboxa; clear hg1 hgw0 hboxr hboxb hboxa)
  obtain ⟨g, hgE⟩ : ∃ g, w.heap.size + 1 + 1 + 1 = g := ⟨_, rfl⟩
  rw [hgE] at hI1
  have hgs : w.heap.size ≤ g := by omega
  go_wp2_with fail
  rw [hgE]
  go_loopw [6] (fun i wr => ∃ (k : Nat) (zs : List Nat), k ≤ n ∧ i = .int .i64 k ∧ Hid (zs.length = L) ∧ Dig D zs ∧ Ints wr g zs ∧ w1.grownBy wr (some g) ∧ Hid (val D zs = val D (xs.take k) * val D ys)) (fun i _ => n - (intOf i).toNat)
  case atStart => exact ⟨0, List.replicate L 0, Nat.zero_le _, rfl, by show _ = _; simp, Dig.replicate D_pos _, hI1, grown_refl _ _, by show _ = _; rw [val_replicate]; simp [val]⟩
  case round =>
    clear hI1
    obtain ⟨k, zs, hk, rfl, hzl, hzd, hI, hg, hv⟩ := hrel
    by_cases hlt : k < n
    · obtain ⟨x, ex⟩ : ∃ x, xs.getD k 0 = x := ⟨_, rfl⟩
      have hx4 : x < 10000 := ex ▸ getD_lt dx k
      have EX := Lib.hid ex
      clear ex
      have f1 : decide ((k : Int) < (n : Int)) = true := decide_eq_true (by omega)
      obtain ⟨hca, hfa⟩ := box_cell (heap_row hg hboxa1 (by omega))
      go_wp2_with fail
      go_loopw [7, 8] (fun c j wi => ∃ (q r : Nat) (us : List Nat), q ≤ m ∧ j = .int .i64 q ∧ c = .int .i64 r ∧ r < 10000 ∧ Hid (us.length = L) ∧ Dig D us ∧ Ints wi g us ∧ wr.grownBy wi (some g) ∧ Hid (val D us + r * D ^ (k + q) = val D zs + x * val D (ys.take q) * D ^ k)) (fun _ j _ => m - (intOf j).toNat)
      case atStart => exact ⟨0, 0, zs, Nat.zero_le _, rfl, rfl, by omega, hzl, hzd, hI, grown_refl _ _, by show _ = _; simp [val]⟩
      case round =>
        obtain ⟨q, r, us, hq, rfl, rfl, hr, hul, hud, hIu, hgu, hvu⟩ := hrel
        have hgx := grown_trans hg hgu
        obtain ⟨hcb, hfb⟩ := box_cell (heap_row hgx hboxb1 (by omega))
        by_cases hlt2 : q < m
        · obtain ⟨y, ey⟩ : ∃ y, ys.getD q 0 = y := ⟨_, rfl⟩
          have hy4 : y < 10000 := ey ▸ getD_lt dy q
          obtain ⟨z, ez⟩ : ∃ z, us.getD (k + q) 0 = z := ⟨_, rfl⟩
          have hz4 : z < 10000 := ez ▸ getD_lt hud (k + q)
          have EY := Lib.hid ey
          have EZ := Lib.hid ez
          obtain ⟨p, hp⟩ : ∃ p, x * y = p := ⟨_, rfl⟩
          have hp9 : p ≤ 99980001 := by
            rw [← hp]; exact Nat.mul_le_mul (show x ≤ 9999 by omega) (show y ≤ 9999 by omega)
          have hpI : (x : Int) * (y : Int) = (p : Int) := by rw [← hp]; rfl
          obtain ⟨j, hj⟩ : ∃ j, k + q = j := ⟨_, rfl⟩
          have hjI : (k : Int) + (q : Int) = (j : Int) := by omega
          have hjL : j < L := by omega
          obtain ⟨d, hd⟩ : ∃ d, (r + z + p) % 10000 = d := ⟨_, rfl⟩
          obtain ⟨r2, hr2⟩ : ∃ r2, (r + z + p) / 10000 = r2 := ⟨_, rfl⟩
          have e1 : ((r : Int) + (z : Int) + (p : Int)) % 10000 = (d : Int) := by omega
          have e2 : ((r : Int) + (z : Int) + (p : Int)) / 10000 = (r2 : Int) := by omega
          have hd4 : d < 10000 := by omega
          have hr4 : r2 < 10000 := by omega
          have hvn : Hid (val D (us.set j d) + r2 * D ^ (k + (q + 1)) = val D zs + x * val D (ys.take (q + 1)) * D ^ k) := by
            show _ = _
            have h1 := val_set us j d (by rw [hul.out]; exact hjL)
            rw [← hj] at h1 ⊢
            rw [EZ.out] at h1
            rw [take_getD ys, EY.out, ← Nat.add_assoc, Nat.pow_succ, rmul_step (x := x) (y := y) (q := r2) (d := d) hvu.out h1 (by rw [hp]; unfold D; omega)]
            rw [Nat.pow_add]
            grind
          obtain ⟨b1, o1, rfl, c1⟩ := rcell (hx.kept_row (grown_trans (grown_any hgw) hgx) hgs) Hn.out k hlt
          obtain ⟨b2, o2, rfl, c2⟩ := rcell (hy.kept_row (grown_trans (grown_any hgw) hgx) hgs) Hm.out q hlt2
          rw [EX.out] at c1
          rw [EY.out] at c2
          have c3 := hIu.cell hul.out j hjL
          rw [← hj, EZ.out, hj] at c3
          have fr3 := hIu.frozen j
          obtain ⟨hca3, hfa3⟩ := box_cell (heap_row hgx hboxa1 (by omega))
          have hu2 : Hid ((us.set j d).length = L) := by show _ = _; rw [List.length_set]; exact hul.out
          clear ey ez hp hj hd hr2
          go_wp2_with fail
          go_quiet (fail)
          go_wp2_with fail
          go_roundw
          case rel => exact ⟨q + 1, r2, us.set j d, by omega, by go_num, by go_num, hr4, hu2, hud.set hd4 j, (hIu.drewN _).set j d, grown_set (grown_trans hgu (grown_drewN _ _ _)) _ _, hvn⟩
          case measure => simp [intOf]; omega
        · obtain rfl : q = m := by omega
          obtain ⟨T, hT⟩ : ∃ T, val D (xs.take (k + 1)) * val D ys = T := ⟨_, rfl⟩
          have hvt : Hid (val D us + r * D ^ (k + q) = T) := by
            show _ = _
            rw [hvu.out, hv.out, List.take_of_length_le (l := ys) (by rw [Hm.out]; exact Nat.le_refl _), ← hT, take_getD xs, EX.out, Nat.add_mul]; grind
          have hTb : Hid (T < D ^ (n + q)) := by
            show _ < _
            rw [← hT]
            have h1 := val_lt D _ (dx.take (k + 1))
            have h2 := val_lt D ys dy
            rw [Hm.out] at h2
            rw [List.length_take, Hn.out, Nat.min_eq_left (by omega)] at h1
            have h3 : D ^ (k + 1) * D ^ q ≤ D ^ n * D ^ q := Nat.mul_le_mul_right _ (Nat.pow_le_pow_right D_pos (by omega))
            rw [Nat.pow_add]
            exact Nat.lt_of_lt_of_le (Nat.mul_lt_mul'' h1 h2) h3
          obtain ⟨j0, hj0⟩ : ∃ j0, k + q = j0 := ⟨_, rfl⟩
          have hjI : (k : Int) + (q : Int) = (j0 : Int) := by omega
          have hj0L : j0 ≤ L := by omega
          rw [hj0] at hvt
          clear hj0
          have f7 : decide ((q : Int) < (q : Int)) = false := decide_eq_false (by omega)
          clear hvu hv
          go_wp2_with fail
          go_loopw [7, 9] (fun c t wi2 => ∃ (t' r' : Nat) (us' : List Nat), t = .int .i64 t' ∧ c = .int .i64 r' ∧ r' < 10000 ∧ t' ≤ L ∧ Hid (us'.length = L) ∧ Dig D us' ∧ Ints wi2 g us' ∧ wr.grownBy wi2 (some g) ∧ Hid (val D us' + r' * D ^ t' = T)) (fun _ t _ => L - (intOf t).toNat)
          case atStart => exact ⟨j0, r, us, rfl, rfl, hr, hj0L, hul, hud, hIu, grown_refl _ _, hvt⟩
          case round =>
            clear hul hud hIu hvt hr
            obtain ⟨j, r, us, rfl, rfl, hr, hjL', hul, hud, hIu, hgu2, hvu⟩ := hrel
            by_cases h0 : r = 0
            · subst h0
              go_wp2_with fail
              go_roundw
              case rel => exact ⟨k + 1, us, by omega, by go_num, hul, hud, hIu, grown_trans hgx hgu2, by show _ = _; rw [hT]; have := hvu.out; omega⟩
              case measure => simp [intOf]; omega
            · have f3 : decide ((0 : Int) < (r : Int)) = true := decide_eq_true (by omega)
              have hjn := rcarry_at hvu.out (by omega) hTb.out
              have hjL : j < L := by omega
              obtain ⟨z, ez⟩ : ∃ z, us.getD j 0 = z := ⟨_, rfl⟩
              have hz4 : z < 10000 := ez ▸ getD_lt hud j
              obtain ⟨d, hd⟩ : ∃ d, (r + z) % 10000 = d := ⟨_, rfl⟩
              obtain ⟨r2, hr2⟩ : ∃ r2, (r + z) / 10000 = r2 := ⟨_, rfl⟩
              have e1 : ((r : Int) + (z : Int)) % 10000 = (d : Int) := by omega
              have e2 : ((r : Int) + (z : Int)) / 10000 = (r2 : Int) := by omega
              have hd4 : d < 10000 := by omega
              have hr4 : r2 < 10000 := by omega
              have hvn : Hid (val D (us.set j d) + r2 * D ^ (j + 1) = T) := by
                show _ = _
                have h1 := val_set us j d (by rw [hul.out]; exact hjL)
                rw [ez] at h1
                rw [Nat.pow_succ]
                exact rcarry_step hvu.out h1 (by unfold D; omega)
              have c3 := hIu.cell hul.out j hjL
              rw [ez] at c3
              have fr3 := hIu.frozen j
              have hu2 : Hid ((us.set j d).length = L) := by show _ = _; rw [List.length_set]; exact hul.out
              clear ez hd hr2 hvu
              go_wp2_with fail
              go_roundw
              case rel => exact ⟨j + 1, r2, us.set j d, by go_num, by go_num, hr4, by omega, hu2, hud.set hd4 j, hIu.set j d, grown_set hgu2 _ _, hvn⟩
              case measure => simp [intOf]; omega
    · obtain rfl : k = n := by omega
      have f1 : decide ((k : Int) < (k : Int)) = false := decide_eq_false (by omega)
      have hbox2 := heap_row hg hboxr1 (by omega)
      have hgw2 := grown_new hgw hg (by omega)
      have HV : Hid (val D zs = val D xs * val D ys) := by show _ = _; rw [hv.out, List.take_of_length_le (by rw [Hn.out]; exact Nat.le_refl _)]
      obtain ⟨hca, hfa⟩ := box_cell (heap_row hg hboxa1 (by omega))
      have hrd := hI.rd
      clear hboxr1 hboxb1 hboxa1 hv hg hgw hI
      go_wp2_with fail
      refine (rcut_any wr (some ⟨g, 0, none⟩) L L zs hzl.out hrd (Nat.le_refl _) (by omega) hzd).mono ?_
      rintro e w4 ⟨v, rfl, hv4, hg4⟩
      have hbox4 := heap_kept hg4 hbox2
      obtain ⟨hc4, hf4⟩ := box_cell hbox4
      rw [HV.out] at hv4
      obtain ⟨s4, k4, c4, zs4, rfl, hz4⟩ := hv4
      have hF := Lib.hid (rret (grown_trans hgw2 hg4) hbox4 (by decide) (by omega) ⟨s4, k4, c4, zs4, rfl, hz4⟩ (.slice s4 k4 c4))
      clear hz4 hbox4 hbox2 hg4 hgw2
      go_wp2_with fail
      exact bodyPost_ret (v := .agg #[.slice s4 k4 c4]) (by simp [results, Tryz.results112, go_sem, hc4]) rfl hF.out
end Go.Proofs.YthbhgcaemcobeaaGreatDoor
