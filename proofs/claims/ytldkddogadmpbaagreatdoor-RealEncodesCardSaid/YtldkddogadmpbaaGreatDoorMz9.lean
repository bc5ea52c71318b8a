/- What the laws lean on, part 9. -/
import Derived.Deep.RegionHeld3
import Derived.OwnWalk
import Derived.Deep.LoopGhost
import Derived.Deep.QuietTactic
import Derived.BigQuiet
import Derived.Deep.CutRange
import Derived.Test.YtldkddogadmpbaaGreatDoorMz5
import Derived.Test.YtldkddogadmpbaaGreatDoorMz8
import Derived.Test.YtldkddogadmpbaaGreatDoorMz6
namespace Go.Proofs.YtldkddogadmpbaaGreatDoor
open Go.RowKit Mat
set_option maxRecDepth 100000
set_option linter.unusedVariables false
set_option linter.unusedSimpArgs false
def ByBlk (w : World) (g : Nat) (l : List Nat) : Prop := (∃ cur, w.heap[g]? = some (.cells cur 5 (0, 0)) ∧ ∀ i (h : i < l.length), cur[i]? = some (.int .u8 (l[i] : Int))) ∧ ∀ x ∈ l, x < 256
theorem ByBlk.kept {w W : World} {g : Nat} {l : List Nat} (h : ByBlk w g l) (hg : w.grownBy W none) : ByBlk W g l :=
  ⟨h.1.imp fun cur hc => ⟨heap_kept hg hc.1, hc.2⟩, h.2⟩
theorem ByBlk.cell {w : World} {g : Nat} {l : List Nat} (h : ByBlk w g l) (i : Nat) (hi : i < l.length) : w.cell? ⟨g, i, none⟩ = some (.int .u8 (l[i] : Int)) := by
  obtain ⟨⟨cur, h1, h2⟩, _⟩ := h
  simp [World.cell?, h1, h2 i hi]
theorem ByBlk.free {w : World} {g : Nat} {l : List Nat} (h : ByBlk w g l) (i : Nat) : w.frozen? ⟨g, i, none⟩ = false := by
  obtain ⟨⟨cur, h1, h2⟩, _⟩ := h
  simp [World.frozen?, h1]
theorem ByBlk.sl {w : World} {g : Nat} {l : List Nat} (h : ByBlk w g l) : BySl w (some ⟨g, 0, none⟩) l := by
  refine ⟨Or.inr ⟨_, rfl, fun i hi => ?_⟩, h.2⟩
  have e : (⟨g, 0, none⟩ : Addr).add i = ⟨g, i, none⟩ := by unfold Addr.add; split <;> simp_all
  rw [e]; exact h.cell i hi
theorem ByBlk.lt {w : World} {g : Nat} {l : List Nat} (h : ByBlk w g l) : g < w.heap.size := by
  obtain ⟨⟨cur, h1, h2⟩, _⟩ := h
  exact (Array.getElem?_eq_some_iff.1 h1).1
theorem ByBlk.set {w : World} {g : Nat} {x y : Nat} {t : List Nat} (h : ByBlk w g (x :: t)) (hy : y < 256) : ByBlk (w.setCell ⟨g, 0, none⟩ (.int .u8 (y : Int))) g (y :: t) := by
  obtain ⟨⟨cur, h1, h2⟩, h3⟩ := h
  refine ⟨⟨cur.setIfInBounds 0 (.int .u8 (y : Int)), by simp [World.setCell, Array.getElem?_modify, h1], fun i hi => ?_⟩, fun z hz => ?_⟩
  · have h0 := h2 0 (by simp)
    have hl := (Array.getElem?_eq_some_iff.1 h0).1
    cases i with
    | zero => rw [Array.getElem?_setIfInBounds_self_of_lt hl]; rfl
    | succ i => rw [Array.getElem?_setIfInBounds_ne (by omega)]; exact h2 (i + 1) hi
  · rcases List.mem_cons.1 hz with rfl | hz
    · exact hy
    · exact h3 z (List.mem_cons_of_mem _ hz)
theorem ByBlk.unset {w : World} {g k : Nat} {l : List Nat} (h : ByBlk w g l) (hne : g ≠ k) (v : Value) : ByBlk (w.setCell ⟨k, 0, none⟩ v) g l :=
  ⟨h.1.imp fun cur hc => ⟨heap_unset hc.1 hne v, hc.2⟩, h.2⟩
theorem own_blk {w : World} {base g n cap : Nat} {l : List Nat} (h : w.ownsRow base 5 1 (.slice (some ⟨g, 0, none⟩) n cap) n (bvs l)) (hn : l.length = n) (hd : ∀ x ∈ l, x < 256) : ByBlk w g l := by
  obtain ⟨_, h⟩ := h
  rcases h with ⟨e, _⟩ | ⟨g', c1, cur, e, hb, hc, hc1, hc2, hsz, htk⟩
  · cases e
  · cases e
    refine ⟨⟨cur, hc, fun i hi => ?_⟩, hd⟩
    have h1 : (bvs l)[i]? = some (.int .u8 (l[i] : Int)) := by simp [bvs, List.getElem?_eq_getElem hi]
    rw [← htk, List.getElem?_take_of_lt (by omega)] at h1
    simpa using h1
theorem ByBlk.setAt {w : World} {g : Nat} {l : List Nat} (h : ByBlk w g l) (i y : Nat) (hi : i < l.length) (hy : y < 256) : ByBlk (w.setCell ⟨g, i, none⟩ (.int .u8 (y : Int))) g (l.set i y) := by
  obtain ⟨⟨cur, h1, h2⟩, h3⟩ := h
  have hl := (Array.getElem?_eq_some_iff.1 (h2 i hi)).1
  refine ⟨⟨cur.setIfInBounds i (.int .u8 (y : Int)), by simp [World.setCell, Array.getElem?_modify, h1], fun k hk => ?_⟩, fun z hz => ?_⟩
  · rw [List.length_set] at hk
    by_cases e : k = i
    · subst e; rw [Array.getElem?_setIfInBounds_self_of_lt hl, List.getElem_set_self]
    · rw [Array.getElem?_setIfInBounds_ne (by omega), List.getElem_set_ne (by omega)]; exact h2 k hk
  · rcases List.mem_or_eq_of_mem_set hz with h | rfl
    · exact h3 z h
    · exact hy
theorem made_blk {w : World} {base g : Nat} (h : w.ownsRow base 5 1 (.slice (some ⟨g, 0, none⟩) 8 8) 8 (madeCells (Value.int .u8 0).cells (8 * 1)).toList) : ByBlk w g [0, 0, 0, 0, 0, 0, 0, 0] := by
  have e : (madeCells (Value.int .u8 0).cells (8 * 1)).toList = bvs [0, 0, 0, 0, 0, 0, 0, 0] := by kernel_rfl
  rw [e] at h
  exact own_blk h rfl (by decide)
theorem RIntV.sg {w : World} {g : Int} {s : Option Addr} {l c : Nat} {z : Int} (h : RIntV w (.agg #[.int .i64 g, .slice s l c]) z) : g = z.sign := by
  obtain ⟨g', s', l', c', e, h1, h2⟩ := h
  cases e; exact h1.out
theorem rq_num {n d : Int} {r : Rat} (hd : 0 < d) (h : Rat.divInt n d = r) : r.num = 0 ↔ n = 0 := by
  have h1 : Rat.divInt r.num (r.den : Int) = r := Rat.num_divInt_den r
  have hp := r.den_pos
  rw [← h1, Rat.divInt_eq_divInt_iff (by omega) (by omega)] at h
  constructor
  · intro e; rw [e, Int.zero_mul] at h
    rcases Int.mul_eq_zero.1 h with h | h <;> omega
  · intro e; rw [e, Int.zero_mul] at h
    rcases Int.mul_eq_zero.1 h.symm with h | h <;> omega
theorem enc_zero {r : Rat} (h : r.num = 0) : EncIs r (some (0, 0)) :=
  Or.inl ⟨0, 0, rfl, by omega, by omega, by unfold EQ; rw [h]; simp, fun e' _ he => by omega⟩
set_option maxHeartbeats 16000000 in
theorem rEnc_zero (w : World) (va : Value) (r : Rat) (E : Nat) (Ha : RQ w va r E) (h0 : r.num = 0) :
    Calls Tryz.prog 8 #[va] w (RetEnc w r) := by
  obtain ⟨P, hP⟩ : ∃ P, RetEnc w r = P := ⟨_, rfl⟩
  have yes : ∀ W g, w.grownBy W none → ByBlk W g [0, 0, 0, 0, 0, 0, 0, 0] → P (.returned (.tuple #[.slice (some ⟨g, 0, none⟩) 8 8, .int .i64 0])) W := fun W g hg hb => by
    rw [← hP]
    have e : encL r (some (0, 0)) = [0, 0, 0, 0, 0, 0, 0, 0] := by unfold encL; rw [h0]; decide
    exact ⟨some (0, 0), _, 8, 8, rfl, enc_zero h0, by rw [e]; rfl, by rw [e]; exact hb.sl, Nat.le_refl _, Nat.le_refl _, hg⟩
  have HYES := Lib.hid yes
  rw [hP]
  clear hP yes
  obtain ⟨ga, sa, la, ca, ga', sa', la', ca', na, da, rfl, ha, ha', ua⟩ := Ha
  have hz : ga = 0 := by
    obtain ⟨u1, u2, u3, u4⟩ := ua.out
    rw [ha.sg, (rq_num u1 u2).1 h0]; rfl
  subst hz
  have hG := World.grownBy_alloc w (.cells #[.int .i64 0, .slice sa la ca, .int .i64 ga', .slice sa' la' ca'] 38) none
  have Ba := heap_new w (.cells #[.int .i64 0, .slice sa la ca, .int .i64 ga', .slice sa' la' ca'] 38) w.heap.size rfl
  clear ha ha' ua h0
  obtain ⟨i1, hi, hz0, hz1, hz2⟩ := info_partsU
  obtain ⟨Ca0, Ca1, Ca2, Ca3, Fa0, Fa1, Fa2, Fa3⟩ := box_cells4 Ba
  go_enter Tryz.func8, Tryz.ntmps8
  go_wp2_with (at_make; refine wpList_make_full _ rfl _ _ 42 rfl _ 5 i1 (.int .u8 0) 1 Tryz.underlying42 hi hz0 hz1 .i64 .i64 _ _ 8 rfl rfl (by omega) (by omega) (by rw [hz2]; omega) (by unfold maxLen; omega) (Nat.le_refl _) ?_; intro w1 hown hg1)
  exact HYES.out _ _ (grown_trans hG hg1) (by have h := made_blk hown; rw [World.size_alloc] at h; exact h)
end Go.Proofs.YtldkddogadmpbaaGreatDoor
namespace Go.Proofs.YtldkddogadmpbaaGreatDoor
open Go.RowKit Mat
set_option maxRecDepth 100000
set_option linter.unusedVariables false
set_option linter.unusedSimpArgs false
def BoxP (W : World) (p : Nat) (r : Rat) (E : Nat) : Prop := ∃ (g : Int) (s : Option Addr) (l c : Nat) (g' : Int) (s' : Option Addr) (l' c' : Nat), W.heap[p]? = some (.cells #[.int .i64 g, .slice s l c, .int .i64 g', .slice s' l' c'] 38 (0, 0)) ∧ RQ W (.agg #[.int .i64 g, .slice s l c, .int .i64 g', .slice s' l' c']) r E
def BoxM (W : World) (p n : Nat) : Prop := ∃ (s : Option Addr) (l c : Nat), W.heap[p]? = some (.cells #[.slice s l c] 34 (0, 0)) ∧ RefV W (.agg #[.slice s l c]) n
def tailL (m k : Nat) : List Nat := (List.range 7).map fun j => if k ≤ j then m / 256 ^ (6 - j) % 256 else 0
theorem tailL_len (m k : Nat) : (tailL m k).length = 7 := by simp [tailL]
theorem tailL_seven (m : Nat) : tailL m 7 = [0, 0, 0, 0, 0, 0, 0] := by
  have : ∀ j, j < 7 → ¬ 7 ≤ j := fun j h => by omega
  simp [tailL, List.range_succ]
theorem tailL_zero (m : Nat) : tailL m 0 = [m / 2 ^ 48 % 256, m / 2 ^ 40 % 256, m / 2 ^ 32 % 256, m / 2 ^ 24 % 256, m / 2 ^ 16 % 256, m / 2 ^ 8 % 256, m % 256] := by
  simp [tailL, List.range_succ]
theorem tailL_set (m j : Nat) (hj : j < 7) : (tailL m (j + 1)).set j (m / 256 ^ (6 - j) % 256) = tailL m j := by
  apply List.ext_getElem
  · simp [tailL_len]
  · intro i h1 h2
    rw [List.getElem_set]
    simp only [tailL, List.getElem_map, List.getElem_range]
    by_cases e : j = i
    · subst e; rw [if_pos rfl, if_pos (Nat.le_refl _)]
    · rw [if_neg e]
      by_cases g : j ≤ i
      · rw [if_pos (by omega), if_pos g]
      · rw [if_neg (by omega), if_neg g]
theorem tailL_same (m j : Nat) (hj : j < 7) (h0 : m / 256 ^ (6 - j) % 256 = 0) : tailL m (j + 1) = tailL m j := by
  rw [← tailL_set m j hj]
  apply List.ext_getElem
  · simp
  · intro i h1 h2
    rw [List.getElem_set]
    by_cases e : j = i
    · subst e
      rw [if_pos rfl, h0]
      simp [tailL]
      intro h; omega
    · rw [if_neg e]
theorem tailL_dig (m k : Nat) : ∀ x ∈ tailL m k, x < 256 := fun x hx => by
  unfold tailL at hx
  rw [List.mem_map] at hx
  obtain ⟨j, _, rfl⟩ := hx
  split <;> omega
theorem ref_small {w : World} {s : Option Addr} {l c n : Nat} (h : RefV w (.agg #[.slice s l c]) n) (hn : n < 10000) : (n = 0 ∧ l = 0) ∨ (0 < n ∧ l = 1 ∧ ∃ a, s = some a ∧ w.cell? a = some (.int .i64 (n : Int))) := by
  obtain ⟨s', k, cap, xs, e, h1, h2, h3, h4, h5, h6⟩ := h
  cases e
  match xs, h1 with
  | [], h1 => left; exact ⟨by rw [← h6]; rfl, h1.symm⟩
  | [x], h1 =>
    right
    have hx : x = n := by rw [← h6]; simp [val]
    have h0 : x ≠ 0 := h4 x rfl
    refine ⟨by omega, h1.symm, ?_⟩
    rcases h3 with e | ⟨b, off, cs, rfl, hb, hat⟩
    · cases e
    · refine ⟨_, rfl, ?_⟩
      have := hat 0 (by simp)
      simp only [RBlk] at hb
      subst hx
      simp [World.cell?, hb, iv] at this ⊢
      exact this
  | x :: y :: t, h1 =>
    exfalso
    have hp := h4
    have hl : (x :: y :: t).length ≠ 0 := by simp
    have hv := val_ge D (x :: y :: t) (by simp) h4
    rw [h6] at hv
    have : D ^ 1 ≤ D ^ ((x :: y :: t).length - 1) := Nat.pow_le_pow_right D_pos (by simp)
    unfold D at *
    omega
theorem RefV.setu {w : World} {v : Value} {n g : Nat} {l : List Nat} (h : RefV w v n) (hb : ByBlk w g l) (o : Nat) (u : Value) : RefV (w.setCell ⟨g, o, none⟩ u) v n := by
  obtain ⟨⟨cur, h1, _⟩, _⟩ := hb
  exact h.set_other h1 (by decide) o u
theorem RefV.set1 {w : World} {v : Value} {n g : Nat} {a0 : Value} (h : RefV w v n) (hbox : w.heap[g]? = some (.cells #[a0] 34 (0, 0))) (v0 : Value) : RefV (w.setCell ⟨g, 0, none⟩ v0) v n := h.set_other hbox (by decide) 0 v0
theorem ByBlk.set1 {w : World} {b g : Nat} {l : List Nat} {a0 : Value} (h : ByBlk w b l) (hbox : w.heap[g]? = some (.cells #[a0] 34 (0, 0))) (v0 : Value) : ByBlk (w.setCell ⟨g, 0, none⟩ v0) b l :=
  h.unset (fun e => by
    subst e
    obtain ⟨⟨cur, h1, _⟩, _⟩ := h
    rw [h1] at hbox
    cases hbox) v0
theorem heap_unsetAt {w : World} {g k o : Nat} {x : Obj} (h : w.heap[k]? = some x) (hk : k ≠ g) (v : Value) : (w.setCell ⟨g, o, none⟩ v).heap[k]? = some x := (Below.heap_setCell _ _ _ _ (by simpa using hk)).trans h
theorem grown_setAt {w w' : World} {g o : Nat} (hg : w.grownBy w' none) (hl : w.heap.size ≤ g) (v0 : Value) : w.grownBy (w'.setCell ⟨g, o, none⟩ v0) none :=
  grown_new (g := g) hg (grown_set (grown_refl _ _) _ _) hl
theorem ref_nil {w : World} {s : Option Addr} {l c n : Nat} (h : RefV w (.agg #[.slice s l c]) n) : (n = 0 → l = 0) ∧ (n ≠ 0 → 0 < l) := by
  obtain ⟨s', k, cap, xs, e, h1, h2, h3, h4, h5, h6⟩ := h
  cases e
  constructor
  · intro h; rw [h] at h6
    rw [← h1, (val_zero_iff D D_pos xs h4).1 h6]; rfl
  · intro h
    rcases Nat.eq_zero_or_pos l with e | e
    · have : xs = [] := List.length_eq_zero_iff.1 (by omega)
      rw [this] at h6; exact absurd h6.symm h
    · exact e
theorem rOf_256 (w : World) : Calls Tryz.prog 34 #[.int .u64 256] w (RetRef w 256) := rOf_any w 256 (by decide)
theorem rSix78 (w : World) (k : Int) (e : Nat) (h : k = 78 - (e : Int)) (he : e < 128) : Calls Tryz.prog 30 #[.int .i64 k] w (RetRQ w (six (78 - e) (e - 78)) 25) := rSix_any w k (78 - e) (e - 78) (by omega) (by omega) (by omega)
set_option maxHeartbeats 16000000 in
theorem rEnc_some (w : World) (va : Value) (r : Rat) (E : Nat) (Ha : RQ w va r E) (hE : 1 ≤ E ∧ E ≤ 100) (h0 : r.num ≠ 0) :
    Calls Tryz.prog 8 #[va] w (RetEnc w r) := by
  obtain ⟨P, hP⟩ : ∃ P, RetEnc w r = P := ⟨_, rfl⟩
  have no : ∀ W, w.grownBy W none → Hid (∀ e' m, e' < 128 → m < 2 ^ 56 → ¬ EQ r e' m) → P (.returned (.tuple #[.slice none 0 0, .int .i64 4])) W := fun W hg h => by
    rw [← hP]; exact ⟨none, none, 0, 0, rfl, Or.inr ⟨rfl, h.out⟩, rfl, BySl.nil _ _, Nat.le_refl _, by omega, hg⟩
  have yes : ∀ W g (e m : Nat), w.grownBy W none → e < 128 → Hid (m < 2 ^ 56 ∧ EQ r e m ∧ ∀ e' m', e' < e → m' < 2 ^ 56 → ¬ EQ r e' m') → ByBlk W g ((e + if decide (r.num < 0) = true then 128 else 0) :: tailL m 0) → P (.returned (.tuple #[.slice (some ⟨g, 0, none⟩) 8 8, .int .i64 0])) W := fun W g e m hg he h hb => by
    rw [← hP]
    have hb2 := hb.sl
    rw [tailL_zero] at hb2
    exact ⟨some (e, m), _, 8, 8, rfl, Or.inl ⟨e, m, rfl, he, h.out.1, h.out.2.1, h.out.2.2⟩, rfl, hb2, Nat.le_refl _, Nat.le_refl _, hg⟩
  have HNO := Lib.hid no
  have HYES := Lib.hid yes
  rw [hP]
  clear hP no yes
  obtain ⟨ga, sa, la, ca, ga', sa', la', ca', na, da, rfl, ha, ha', ua⟩ := Ha
  have hsg : ga = na.sign := ha.sg
  have hn0 : na ≠ 0 := fun e => h0 ((rq_num ua.out.1 ua.out.2.1).2 e)
  have hneg : decide (r.num < 0) = decide (na < 0) := by
    have h1 : Rat.divInt r.num (r.den : Int) = r := Rat.num_divInt_den r
    have h2 := ua.out.2.1
    have hp := r.den_pos
    have hd := ua.out.1
    rw [← h1, Rat.divInt_eq_divInt_iff (by omega) (by omega)] at h2
    have hpi : (0 : Int) < (r.den : Int) := by omega
    rw [Bool.eq_iff_iff, decide_eq_true_iff, decide_eq_true_iff]
    constructor
    · intro g
      rcases Int.lt_or_le na 0 with k | k
      · exact k
      · have := Int.mul_nonneg k (Int.le_of_lt hpi); have := Int.mul_neg_of_neg_of_pos g hd; omega
    · intro g
      rcases Int.lt_or_le r.num 0 with k | k
      · exact k
      · have := Int.mul_nonneg k (Int.le_of_lt hd); have := Int.mul_neg_of_neg_of_pos g hpi; omega
  obtain ⟨ng, hng⟩ : ∃ b, decide (r.num < 0) = b := ⟨_, rfl⟩
  have hga : (ga == 0) = false ∧ decide (ga < 0) = ng := by
    rw [hsg, ← hng, hneg]
    refine ⟨beq_eq_false_iff_ne.2 (by rw [Ne, Int.sign_eq_zero_iff_zero]; exact hn0), ?_⟩
    rw [Bool.eq_iff_iff, decide_eq_true_iff, decide_eq_true_iff, Int.sign_neg_iff]
  rw [hng] at HYES
  have HGA := Lib.hid hga
  have HE : Hid (1 ≤ E ∧ E ≤ 100) := hE
  clear hga hsg hn0 hneg hng h0 hE
  have hG := World.grownBy_alloc w (.cells #[.int .i64 ga, .slice sa la ca, .int .i64 ga', .slice sa' la' ca'] 38) none
  have Ba := heap_new w (.cells #[.int .i64 ga, .slice sa la ca, .int .i64 ga', .slice sa' la' ca'] 38) w.heap.size rfl
  have ya : RQ _ (.agg #[.int .i64 ga, .slice sa la ca, .int .i64 ga', .slice sa' la' ca']) r E := RQ.kept (w := w) ⟨ga, sa, la, ca, ga', sa', la', ca', na, da, rfl, ha, ha', ua⟩ hG
  clear ha ha' ua
  obtain ⟨i1, hi, hz0, hz1, hz2⟩ := info_partsU
  obtain ⟨f1, f2⟩ := HGA.out
  obtain ⟨Ca0, Ca1, Ca2, Ca3, Fa0, Fa1, Fa2, Fa3⟩ := box_cells4 Ba
  go_enter Tryz.func8, Tryz.ntmps8
  go_wp2_with fail
  generalize (w.alloc (.cells #[.int .i64 ga, .slice sa la ca, .int .i64 ga', .slice sa' la' ca'] 38)) = w0 at *
  clear Ca0 Ca1 Ca2 Ca3 Fa0 Fa1 Fa2 Fa3 f1 f2
  have HB0 := Lib.hid Ba; have HY0 := Lib.hid ya; have HG0 := Lib.hid hG; have HGZ := Lib.hid hG.size; clear Ba ya hG
  go_loopw [4] (fun i wr => ∃ e : Nat, e ≤ 128 ∧ i = .int .i64 (e : Int) ∧ Hid (∀ e' m, e' < e → m < 2 ^ 56 → ¬ EQ r e' m) ∧ w0.grownBy wr none) (fun i _ => 128 - (intOf i).toNat)
  case atStart => exact ⟨0, by omega, rfl, Lib.hid (fun e' _ h => by omega), grown_refl _ _⟩
  case round =>
    obtain ⟨e, he, rfl, HL, hX⟩ := hrel
    by_cases hlt : e < 128
    · skip
      have hG := grown_trans HG0.out hX
      have Ba := heap_kept hX HB0.out
      have ya := HY0.out.kept hX
      obtain ⟨x, hx⟩ : ∃ x, r * six (78 - e) (e - 78) = x := ⟨_, rfl⟩
      have HX9 := Lib.hid hx; clear hx
      go_wp2_with fail
      have hX1 : wr.grownBy wr none := grown_refl _ _
      have HX0 := Lib.hid hX
      go_cut [5] (fun p wx => ∃ px, p = .pointer (some ⟨px, 0, none⟩) ∧ BoxP wx px x (E + 25) ∧ wr.grownBy wx none)
      case first =>
       obtain ⟨Ca0, Ca1, Ca2, Ca3, Fa0, Fa1, Fa2, Fa3⟩ := box_cells4 Ba
       refine wp_region_held_drew (S := fun w' => w'.cell? ⟨w.heap.size, 0, none⟩ = some (.int .i64 ga) ∧ w'.cell? ⟨w.heap.size, 1, none⟩ = some (.slice sa la ca) ∧ w'.cell? ⟨w.heap.size, 2, none⟩ = some (.int .i64 ga') ∧ w'.cell? ⟨w.heap.size, 3, none⟩ = some (.slice sa' la' ca')) (by kernel_rfl) (by exact ⟨Ca0, Ca1, Ca2, Ca3⟩) (fun hHeld => ?_)
       have gd : wr.grownBy wr.drew none := grown_drew (grown_refl _ _)
       clear Ca0 Ca1 Ca2 Ca3 Fa0 Fa1 Fa2 Fa3
       replace Ba := heap_kept gd Ba
       replace ya := ya.kept gd
       replace hG := grown_trans hG gd
       replace hX1 := grown_trans hX1 gd
       clear gd
       generalize wr.drew = tw1 at *
       refine wpAnyH_take (i := 0) (v := ?_) rfl (by kernel_rfl) (by kernel_rfl) (by kernel_rfl) (fun _ _ _ h => h) (Or.inl ⟨by rfl, ?_⟩) (by assumption) ?_
       rotate_left
       · (intro w hSw; (try dsimp only at hSw); go_simp; (try with_reducible rfl))
       try simp only [Act.put, List.getElem_toArray, List.getElem_cons_zero, List.getElem_cons_succ, List.setIfInBounds_toArray, List.set_cons_zero, List.set_cons_succ]
       refine wpAnyH_take (i := 1) (v := ?_) rfl (by kernel_rfl) (by kernel_rfl) (by kernel_rfl) (fun _ _ _ h => h) (Or.inl ⟨by rfl, ?_⟩) (by assumption) ?_
       rotate_left
       · (intro w hSw; (try dsimp only at hSw); go_simp; (try with_reducible rfl))
       try simp only [Act.put, List.getElem_toArray, List.getElem_cons_zero, List.getElem_cons_succ, List.setIfInBounds_toArray, List.set_cons_zero, List.set_cons_succ]
       refine wpAnyH_take (i := 2) (v := ?_) rfl (by kernel_rfl) (by kernel_rfl) (by kernel_rfl) (fun _ _ _ h => h) (Or.inl ⟨by rfl, ?_⟩) (by assumption) ?_
       rotate_left
       · (intro w hSw; (try dsimp only at hSw); go_simp; (try with_reducible rfl))
       try simp only [Act.put, List.getElem_toArray, List.getElem_cons_zero, List.getElem_cons_succ, List.setIfInBounds_toArray, List.set_cons_zero, List.set_cons_succ]
       refine wpAnyH_ready (rs := [3, 5]) (by kernel_rfl) (by simp) ?_
       refine AllReadyH.cons rfl (fun KQ hKQ => ?_) (AllReadyH.cons rfl (fun KQ hKQ => ?_) AllReadyH.nil)
       focus
        go_simp
        go_at_call 30
        refine (rSix78 tw1 _ e (by simp only [IntKind.wrap_i64]; omega) (by omega)).mono ?_
        rintro e tw2 ⟨v5, rfl, j5, gtw2⟩
        replace Ba := heap_kept gtw2 Ba
        replace ya := ya.kept gtw2
        replace hG := grown_trans hG gtw2
        replace hX1 := grown_trans hX1 gtw2
        clear gtw2
        (try go_wp2_with fail)
        refine hKQ.out _ _ (by exact ⟨(box_cells4 Ba).1, (box_cells4 Ba).2.1, (box_cells4 Ba).2.2.1, (box_cells4 Ba).2.2.2.1⟩) (fun hHeld => ?_)
        clear hKQ KQ
        try simp only [Act.put, List.getElem_toArray, List.getElem_cons_zero, List.getElem_cons_succ, List.setIfInBounds_toArray, List.set_cons_zero, List.set_cons_succ]
        refine wpAnyH_ready (rs := [4, 5]) (by kernel_rfl) (by simp) ?_
        refine AllReadyH.cons rfl (fun KQ hKQ => ?_) (AllReadyH.cons rfl (fun KQ hKQ => ?_) AllReadyH.nil)
        focus
         go_simp
         go_at_call 29
         refine (rQMul_any tw2 _ _ _ _ E 25 ya j5 (by have := HE.out; omega)).mono ?_
         rintro e tw3 ⟨_, rfl, ⟨gd, sd, ld, cd, gd', sd', ld', cd', nd, dd, rfl, hd, hd', ud⟩, gtw3⟩
         rw [HX9.out] at ud
         have yd : RQ tw3 (.agg #[.int .i64 gd, .slice sd ld cd, .int .i64 gd', .slice sd' ld' cd']) x (E + 25) := ⟨gd, sd, ld, cd, gd', sd', ld', cd', nd, dd, rfl, hd, hd', ud⟩
         replace Ba := heap_kept gtw3 Ba
         replace ya := ya.kept gtw3
         replace j5 := j5.kept gtw3
         replace hG := grown_trans hG gtw3
         replace hX1 := grown_trans hX1 gtw3
         clear gtw3
         clear hd hd'
         (try go_wp2_with fail)
         refine hKQ.out _ _ (by exact ⟨(box_cells4 Ba).1, (box_cells4 Ba).2.1, (box_cells4 Ba).2.2.1, (box_cells4 Ba).2.2.2.1⟩) (fun hHeld => ?_)
         clear hKQ KQ
         try simp only [Act.put, List.getElem_toArray, List.getElem_cons_zero, List.getElem_cons_succ, List.setIfInBounds_toArray, List.set_cons_zero, List.set_cons_succ]
         refine wpAnyH_ready (rs := [5]) (by kernel_rfl) (by simp) ?_
         refine AllReadyH.cons rfl (fun KQ hKQ => ?_) AllReadyH.nil
         have gA := World.grownBy_alloc tw3 (.cells #[.int .i64 0, .slice none 0 0, .int .i64 0, .slice none 0 0] 38) none
         have lohGx : w.heap.size ≤ tw3.heap.size := hG.size
         have lohX1x : wr.heap.size ≤ tw3.heap.size := hX1.size
         have ltax : w.heap.size < tw3.heap.size := heap_lt Ba
         have Bx_ := heap_new tw3 (.cells #[.int .i64 0, .slice none 0 0, .int .i64 0, .slice none 0 0] 38) tw3.heap.size rfl
         replace Ba := heap_kept gA Ba
         replace ya := ya.kept gA
         replace j5 := j5.kept gA
         replace yd := yd.kept gA
         replace hG := grown_trans hG gA
         replace hX1 := grown_trans hX1 gA
         clear gA
         go_simp
         generalize (tw3.alloc (.cells #[.int .i64 0, .slice none 0 0, .int .i64 0, .slice none 0 0] 38)) = tw4 at *
         generalize tw3.heap.size = px at *
         have Bx := Bx_
         clear Bx_
         refine hKQ.out _ _ (by exact ⟨(box_cells4 Ba).1, (box_cells4 Ba).2.1, (box_cells4 Ba).2.2.1, (box_cells4 Ba).2.2.2.1⟩) (fun hHeld => ?_)
         clear hKQ KQ
         try simp only [Act.put, List.getElem_toArray, List.getElem_cons_zero, List.getElem_cons_succ, List.setIfInBounds_toArray, List.set_cons_zero, List.set_cons_succ]
        rotate_left 1
        focus
         have gA := World.grownBy_alloc tw2 (.cells #[.int .i64 0, .slice none 0 0, .int .i64 0, .slice none 0 0] 38) none
         have lohGx : w.heap.size ≤ tw2.heap.size := hG.size
         have lohX1x : wr.heap.size ≤ tw2.heap.size := hX1.size
         have ltax : w.heap.size < tw2.heap.size := heap_lt Ba
         have Bx_ := heap_new tw2 (.cells #[.int .i64 0, .slice none 0 0, .int .i64 0, .slice none 0 0] 38) tw2.heap.size rfl
         replace Ba := heap_kept gA Ba
         replace ya := ya.kept gA
         replace j5 := j5.kept gA
         replace hG := grown_trans hG gA
         replace hX1 := grown_trans hX1 gA
         clear gA
         go_simp
         generalize (tw2.alloc (.cells #[.int .i64 0, .slice none 0 0, .int .i64 0, .slice none 0 0] 38)) = tw3 at *
         generalize tw2.heap.size = px at *
         have Bx := Bx_
         clear Bx_
         refine hKQ.out _ _ (by exact ⟨(box_cells4 Ba).1, (box_cells4 Ba).2.1, (box_cells4 Ba).2.2.1, (box_cells4 Ba).2.2.2.1⟩) (fun hHeld => ?_)
         clear hKQ KQ
         try simp only [Act.put, List.getElem_toArray, List.getElem_cons_zero, List.getElem_cons_succ, List.setIfInBounds_toArray, List.set_cons_zero, List.set_cons_succ]
         refine wpAnyH_ready (rs := [4]) (by kernel_rfl) (by simp) ?_
         refine AllReadyH.cons rfl (fun KQ hKQ => ?_) AllReadyH.nil
         go_simp
         go_at_call 29
         refine (rQMul_any tw3 _ _ _ _ E 25 ya j5 (by have := HE.out; omega)).mono ?_
         rintro e tw4 ⟨_, rfl, ⟨gd, sd, ld, cd, gd', sd', ld', cd', nd, dd, rfl, hd, hd', ud⟩, gtw4⟩
         rw [HX9.out] at ud
         have yd : RQ tw4 (.agg #[.int .i64 gd, .slice sd ld cd, .int .i64 gd', .slice sd' ld' cd']) x (E + 25) := ⟨gd, sd, ld, cd, gd', sd', ld', cd', nd, dd, rfl, hd, hd', ud⟩
         replace Ba := heap_kept gtw4 Ba
         replace Bx := heap_kept gtw4 Bx
         replace ya := ya.kept gtw4
         replace j5 := j5.kept gtw4
         replace hG := grown_trans hG gtw4
         replace hX1 := grown_trans hX1 gtw4
         clear gtw4
         clear hd hd'
         (try go_wp2_with fail)
         refine hKQ.out _ _ (by exact ⟨(box_cells4 Ba).1, (box_cells4 Ba).2.1, (box_cells4 Ba).2.2.1, (box_cells4 Ba).2.2.2.1⟩) (fun hHeld => ?_)
         clear hKQ KQ
         try simp only [Act.put, List.getElem_toArray, List.getElem_cons_zero, List.getElem_cons_succ, List.setIfInBounds_toArray, List.set_cons_zero, List.set_cons_succ]
        rotate_left 1
       rotate_left 2
       focus
        have gA := World.grownBy_alloc tw1 (.cells #[.int .i64 0, .slice none 0 0, .int .i64 0, .slice none 0 0] 38) none
        have lohGx : w.heap.size ≤ tw1.heap.size := hG.size
        have lohX1x : wr.heap.size ≤ tw1.heap.size := hX1.size
        have ltax : w.heap.size < tw1.heap.size := heap_lt Ba
        have Bx_ := heap_new tw1 (.cells #[.int .i64 0, .slice none 0 0, .int .i64 0, .slice none 0 0] 38) tw1.heap.size rfl
        replace Ba := heap_kept gA Ba
        replace ya := ya.kept gA
        replace hG := grown_trans hG gA
        replace hX1 := grown_trans hX1 gA
        clear gA
        go_simp
        generalize (tw1.alloc (.cells #[.int .i64 0, .slice none 0 0, .int .i64 0, .slice none 0 0] 38)) = tw2 at *
        generalize tw1.heap.size = px at *
        have Bx := Bx_
        clear Bx_
        refine hKQ.out _ _ (by exact ⟨(box_cells4 Ba).1, (box_cells4 Ba).2.1, (box_cells4 Ba).2.2.1, (box_cells4 Ba).2.2.2.1⟩) (fun hHeld => ?_)
        clear hKQ KQ
        try simp only [Act.put, List.getElem_toArray, List.getElem_cons_zero, List.getElem_cons_succ, List.setIfInBounds_toArray, List.set_cons_zero, List.set_cons_succ]
        refine wpAnyH_ready (rs := [3]) (by kernel_rfl) (by simp) ?_
        refine AllReadyH.cons rfl (fun KQ hKQ => ?_) AllReadyH.nil
        go_simp
        go_at_call 30
        refine (rSix78 tw2 _ e (by simp only [IntKind.wrap_i64]; omega) (by omega)).mono ?_
        rintro e tw3 ⟨v5, rfl, j5, gtw3⟩
        replace Ba := heap_kept gtw3 Ba
        replace Bx := heap_kept gtw3 Bx
        replace ya := ya.kept gtw3
        replace hG := grown_trans hG gtw3
        replace hX1 := grown_trans hX1 gtw3
        clear gtw3
        (try go_wp2_with fail)
        refine hKQ.out _ _ (by exact ⟨(box_cells4 Ba).1, (box_cells4 Ba).2.1, (box_cells4 Ba).2.2.1, (box_cells4 Ba).2.2.2.1⟩) (fun hHeld => ?_)
        clear hKQ KQ
        try simp only [Act.put, List.getElem_toArray, List.getElem_cons_zero, List.getElem_cons_succ, List.setIfInBounds_toArray, List.set_cons_zero, List.set_cons_succ]
        refine wpAnyH_ready (rs := [4]) (by kernel_rfl) (by simp) ?_
        refine AllReadyH.cons rfl (fun KQ hKQ => ?_) AllReadyH.nil
        go_simp
        go_at_call 29
        refine (rQMul_any tw3 _ _ _ _ E 25 ya j5 (by have := HE.out; omega)).mono ?_
        rintro e tw4 ⟨_, rfl, ⟨gd, sd, ld, cd, gd', sd', ld', cd', nd, dd, rfl, hd, hd', ud⟩, gtw4⟩
        rw [HX9.out] at ud
        have yd : RQ tw4 (.agg #[.int .i64 gd, .slice sd ld cd, .int .i64 gd', .slice sd' ld' cd']) x (E + 25) := ⟨gd, sd, ld, cd, gd', sd', ld', cd', nd, dd, rfl, hd, hd', ud⟩
        replace Ba := heap_kept gtw4 Ba
        replace Bx := heap_kept gtw4 Bx
        replace ya := ya.kept gtw4
        replace j5 := j5.kept gtw4
        replace hG := grown_trans hG gtw4
        replace hX1 := grown_trans hX1 gtw4
        clear gtw4
        clear hd hd'
        (try go_wp2_with fail)
        refine hKQ.out _ _ (by exact ⟨(box_cells4 Ba).1, (box_cells4 Ba).2.1, (box_cells4 Ba).2.2.1, (box_cells4 Ba).2.2.2.1⟩) (fun hHeld => ?_)
        clear hKQ KQ
        try simp only [Act.put, List.getElem_toArray, List.getElem_cons_zero, List.getElem_cons_succ, List.setIfInBounds_toArray, List.set_cons_zero, List.set_cons_succ]
       rotate_left 1
       all_goals (
        refine wpAnyH_ready (rs := [6]) (by kernel_rfl) (by simp) ?_
        refine AllReadyH.cons rfl (fun KQ hKQ => ?_) AllReadyH.nil
        obtain ⟨c0', c1', c2', c3', c4', c5', c6', c7'⟩ := box_cells4 Bx
        go_simp
        clear c0' c1' c2' c3' c4' c5' c6' c7'
        replace ya := ya.set4 Bx (.int .i64 gd) (.slice sd ld cd) (.int .i64 gd') (.slice sd' ld' cd')
        replace j5 := j5.set4 Bx (.int .i64 gd) (.slice sd ld cd) (.int .i64 gd') (.slice sd' ld' cd')
        replace yd := yd.set4 Bx (.int .i64 gd) (.slice sd ld cd) (.int .i64 gd') (.slice sd' ld' cd')
        replace hG := grown_set4 (g := px) hG (by omega) (.int .i64 gd) (.slice sd ld cd) (.int .i64 gd') (.slice sd' ld' cd')
        replace hX1 := grown_set4 (g := px) hX1 (by omega) (.int .i64 gd) (.slice sd ld cd) (.int .i64 gd') (.slice sd' ld' cd')
        replace Ba := heap_unset4 Ba (show w.heap.size ≠ px by omega) (.int .i64 gd) (.slice sd ld cd) (.int .i64 gd') (.slice sd' ld' cd')
        replace Bx := heap_set4 Bx (.int .i64 gd) (.slice sd ld cd) (.int .i64 gd') (.slice sd' ld' cd')
        generalize ((((tw4.setCell ⟨px, 0, none⟩ (.int .i64 gd)).setCell ⟨px, 1, none⟩ (.slice sd ld cd)).setCell ⟨px, 2, none⟩ (.int .i64 gd')).setCell ⟨px, 3, none⟩ (.slice sd' ld' cd')) = tw5 at *
        refine hKQ.out _ _ (by exact ⟨(box_cells4 Ba).1, (box_cells4 Ba).2.1, (box_cells4 Ba).2.2.1, (box_cells4 Ba).2.2.2.1⟩) (fun hHeld => ?_)
        clear hKQ KQ
        try simp only [Act.put, List.getElem_toArray, List.getElem_cons_zero, List.getElem_cons_succ, List.setIfInBounds_toArray, List.set_cons_zero, List.set_cons_succ]
        refine wpAnyH_done (by kernel_rfl) ?_ _
        go_wp2_with fail
        go_meet
        exact ⟨px, rfl, ⟨_, _, _, _, _, _, _, _, Bx, yd⟩, hX1⟩)
      case rest =>
       clear hG hX hX1 ya Ba
       obtain ⟨px, rfl, Kx, hX1⟩ := hcut
       have hX := grown_trans HX0.out hX1
       have hG := grown_trans HG0.out hX
       have Ba := heap_kept hX HB0.out
       have ya := HY0.out.kept hX
       clear hX1
       obtain ⟨gx, sx, lx, cx, gx', sx', lx', cx', Bx, gx2, sx2, lx2, cx2, gx3, sx3, lx3, cx3, nx, dx, ex2, hx, hx', ux⟩ := Kx
       cases ex2
       obtain ⟨N, hN⟩ : ∃ N, nx.natAbs = N := ⟨_, rfl⟩; obtain ⟨D', hD⟩ : ∃ N, dx.natAbs = N := ⟨_, rfl⟩
       have m1 : RefV wc (.agg #[.slice sx lx cx]) N := by rw [← hN]; obtain ⟨_, _, _, _, e, _, h⟩ := hx; cases e; exact h
       have m2 : RefV wc (.agg #[.slice sx' lx' cx']) D' := by rw [← hD]; obtain ⟨_, _, _, _, e, _, h⟩ := hx'; cases e; exact h
       have HEQ : Hid (∀ m, EQ r e m ↔ N = m * D') := Lib.hid fun m => by rw [← hN, ← hD]; exact EQ_doc ux.out.1 (by rw [ux.out.2.1, ← HX9.out]; rfl) m
       have HDP : Hid (0 < D') := Lib.hid (by rw [← hD]; have := ux.out.1; omega)
       have HND : Hid (N < D ^ (E + 25) ∧ D' < D ^ (E + 25)) := Lib.hid (by rw [← hN, ← hD]; exact ux.out.2.2)
       clear hx hx' ux hN hD HX9
       obtain ⟨Ca0, Ca1, Ca2, Ca3, Fa0, Fa1, Fa2, Fa3⟩ := box_cells4 Ba
       obtain ⟨Cx0, Cx1, Cx2, Cx3, Fx0, Fx1, Fx2, Fx3⟩ := box_cells4 Bx
       go_wp2_with fail
       clear Ca0 Ca1 Ca2 Ca3 Fa0 Fa1 Fa2 Fa3 Cx0 Cx1 Cx2 Cx3 Fx0 Fx1 Fx2 Fx3
       refine (rDiv_any wc _ _ N D' m1 m2 (dp4 HND.out.1 (by have := HE.out; omega)) (dp4 HND.out.2 (by have := HE.out; omega)) HDP.out).mono ?_
       rintro e w1 ⟨_, _, rfl, ⟨sk, lk, ck, yk, rfl, hk⟩, ⟨sl, ll, cl, yl, rfl, hl⟩, gw1⟩
       have mk : RefV w1 (.agg #[.slice sk lk ck]) ((N / D')) := ⟨sk, lk, ck, yk, rfl, hk⟩
       have ml : RefV w1 (.agg #[.slice sl ll cl]) ((N % D')) := ⟨sl, ll, cl, yl, rfl, hl⟩
       replace Ba := heap_kept gw1 Ba
       replace Bx := heap_kept gw1 Bx
       replace ya := ya.kept gw1
       replace m1 := m1.kept gw1
       replace m2 := m2.kept gw1
       replace hG := grown_trans hG gw1
       replace hX := grown_trans hX gw1
       clear gw1
       clear hk
       clear hl
       obtain ⟨Ca0, Ca1, Ca2, Ca3, Fa0, Fa1, Fa2, Fa3⟩ := box_cells4 Ba
       obtain ⟨Cx0, Cx1, Cx2, Cx3, Fx0, Fx1, Fx2, Fx3⟩ := box_cells4 Bx
       have gbw1 := (grown_alloc (World.grownBy_alloc w1 (.cells #[.slice sk lk ck] 34) none) (.cells #[.slice sl ll cl] 34))
       have Bk := heap_kept (World.grownBy_alloc _ (.cells #[.slice sl ll cl] 34) none) (heap_new w1 (.cells #[.slice sk lk ck] 34) (w1.heap.size) rfl)
       have Bl := (heap_new (w1.alloc (.cells #[.slice sk lk ck] 34)) (.cells #[.slice sl ll cl] 34) (w1.heap.size + 1) (by simp))
       have hzw1 : Hid (w.heap.size ≤ w1.heap.size) := Lib.hid hG.size
       have hlaw1 : Hid (w.heap.size < w1.heap.size) := Lib.hid (Array.getElem?_eq_some_iff.1 Ba).1
       have hlxw1 : Hid (px < w1.heap.size) := Lib.hid (Array.getElem?_eq_some_iff.1 Bx).1
       clear Ca0 Ca1 Ca2 Ca3 Fa0 Fa1 Fa2 Fa3 Cx0 Cx1 Cx2 Cx3 Fx0 Fx1 Fx2 Fx3
       replace Ba := heap_kept gbw1 Ba
       replace Bx := heap_kept gbw1 Bx
       replace ya := ya.kept gbw1
       replace m1 := m1.kept gbw1
       replace m2 := m2.kept gbw1
       replace mk := mk.kept gbw1
       replace ml := ml.kept gbw1
       replace hG := grown_trans hG gbw1
       replace hX := grown_trans hX gbw1
       clear gbw1
       obtain ⟨Ca0, Ca1, Ca2, Ca3, Fa0, Fa1, Fa2, Fa3⟩ := box_cells4 Ba
       obtain ⟨Cx0, Cx1, Cx2, Cx3, Fx0, Fx1, Fx2, Fx3⟩ := box_cells4 Bx
       obtain ⟨Ck0, Fk0⟩ := box_cell Bk
       obtain ⟨Cl0, Fl0⟩ := box_cell Bl
       have hnl := ref_nil ml
       obtain ⟨c9, hc9⟩ : ∃ c, cmpInt (N / D') (2 ^ 56) = c := ⟨_, rfl⟩
       have hcs : (N % D' ≠ 0) ∨ (N % D' = 0 ∧ c9 = 0 ∧ ¬ N / D' < 2 ^ 56) ∨ (N % D' = 0 ∧ c9 = 1 ∧ ¬ N / D' < 2 ^ 56) ∨ (N % D' = 0 ∧ c9 = -1 ∧ N / D' < 2 ^ 56) := by
         by_cases h : N % D' = 0
         · right
           rcases Nat.lt_trichotomy (N / D') (2 ^ 56) with g | g | g
           · right; right; exact ⟨h, by rw [← hc9, cmpInt_lt g], g⟩
           · left; exact ⟨h, by rw [← hc9, cmpInt_eq g], by omega⟩
           · right; left; exact ⟨h, by rw [← hc9, cmpInt_gt g], by omega⟩
         · exact Or.inl h
       have HC9 := Lib.hid hc9
       have HSTEP : Hid ((N % D' ≠ 0 ∨ ¬ N / D' < 2 ^ 56) → ∀ e' m, e' < e + 1 → m < 2 ^ 56 → ¬ EQ r e' m) := Lib.hid fun h e' m he' hm hq => by
         rcases Nat.lt_or_ge e' e with g | g
         · exact HL.out e' m g hm hq
         · obtain rfl : e' = e := by omega
           have h1 := (HEQ.out m).1 hq
           rcases h with h | h
           · exact h (by rw [h1]; exact Nat.mul_mod_left _ _)
           · apply h; rw [h1, Nat.mul_div_cancel _ HDP.out]; exact hm
       clear hc9
       go_wp2_with fail
       generalize ((w1.alloc (.cells #[.slice sk lk ck] 34)).alloc (.cells #[.slice sl ll cl] 34)) = w2 at *
       generalize w1.heap.size = aw1 at *
       replace hzw1 := hzw1.out
       replace hlaw1 := hlaw1.out
       replace hlxw1 := hlxw1.out
       rcases hcs with h1 | ⟨h1, rfl, h2⟩ | ⟨h1, rfl, h2⟩ | ⟨h1, rfl, h2⟩
       · skip
         have f3 : decide (0 < (ll : Int)) = true := decide_eq_true (by have := hnl.2 h1; omega)
         have f4 : decide (0 < ll) = true := decide_eq_true (hnl.2 h1)
         have H1 := Lib.hid h1; clear hnl h1
         go_quiet (fail)
         go_wp2_with fail
         exact ⟨⟨e + 1, by omega, by go_num, Lib.hid (HSTEP.out (Or.inl H1.out)), grown_trans hX (grown_drewN _ _ _)⟩, by simp [intOf]; omega⟩
       · skip
         obtain rfl : ll = 0 := hnl.1 h1
         have H1 := Lib.hid h1; have H2 := Lib.hid h2; clear hnl h1 h2
         go_region_held3 (fun w' => w'.cell? ⟨aw1 + 1, 0, none⟩ = some (.slice sl 0 cl) ∧ w'.cell? ⟨aw1, 0, none⟩ = some (.slice sk lk ck))
           (first | assumption | exact ⟨Cl0, Ck0⟩ | go_keep)
           (first
             | (go_at_call 33; (with_reducible refine (rTwo_of w2.drew 56 56 rfl (by omega)).mono ?_); rintro e aw3_1 ⟨v7, rfl, j7, gaw3_1⟩; have hGaw3_1 := grown_pre w2 gaw3_1 rfl rfl rfl rfl; have hSaw3_1 := (And.intro (hGaw3_1.cell Cl0 (by simp)) (hGaw3_1.cell Ck0 (by simp))); clear gaw3_1)
             | (go_at_call 32; (with_reducible refine (rCmp_any aw3_1 _ _ (N / D') (2 ^ 56) (mk.kept hGaw3_1) j7 (dp6 (Nat.lt_of_le_of_lt (Nat.div_le_self _ _) HND.out.1) (by have := HE.out; omega)) (dp6 (two_D 56 (by omega)) (by omega))).mono ?_); rintro e aw3_2 ⟨rfl, gaw3_2⟩; rw [HC9.out]; have hGaw3_2 := grown_trans hGaw3_1 gaw3_2; replace j7 := j7.kept gaw3_2; have hSaw3_2 := (And.intro (hGaw3_2.cell Cl0 (by simp)) (hGaw3_2.cell Ck0 (by simp))); clear gaw3_2))
         replace Ba := heap_kept hGaw3_2 Ba
         replace Bx := heap_kept hGaw3_2 Bx
         replace Bk := heap_kept hGaw3_2 Bk
         replace Bl := heap_kept hGaw3_2 Bl
         replace ya := ya.kept hGaw3_2
         replace m1 := m1.kept hGaw3_2
         replace m2 := m2.kept hGaw3_2
         replace mk := mk.kept hGaw3_2
         replace ml := ml.kept hGaw3_2
         replace hG := grown_trans hG hGaw3_2
         clear Ca0 Ca1 Ca2 Ca3 Fa0 Fa1 Fa2 Fa3 Cx0 Cx1 Cx2 Cx3 Fx0 Fx1 Fx2 Fx3 Ck0 Fk0 Cl0 Fl0
         replace hX := grown_trans hX hGaw3_2
         go_wp2_with fail
         exact ⟨⟨e + 1, by omega, by go_num, Lib.hid (HSTEP.out (Or.inr H2.out)), hX⟩, by simp [intOf]; omega⟩
       · skip
         obtain rfl : ll = 0 := hnl.1 h1
         have H1 := Lib.hid h1; have H2 := Lib.hid h2; clear hnl h1 h2
         go_region_held3 (fun w' => w'.cell? ⟨aw1 + 1, 0, none⟩ = some (.slice sl 0 cl) ∧ w'.cell? ⟨aw1, 0, none⟩ = some (.slice sk lk ck))
           (first | assumption | exact ⟨Cl0, Ck0⟩ | go_keep)
           (first
             | (go_at_call 33; (with_reducible refine (rTwo_of w2.drew 56 56 rfl (by omega)).mono ?_); rintro e bw3_1 ⟨v7, rfl, j7, gbw3_1⟩; have hGbw3_1 := grown_pre w2 gbw3_1 rfl rfl rfl rfl; have hSbw3_1 := (And.intro (hGbw3_1.cell Cl0 (by simp)) (hGbw3_1.cell Ck0 (by simp))); clear gbw3_1)
             | (go_at_call 32; (with_reducible refine (rCmp_any bw3_1 _ _ (N / D') (2 ^ 56) (mk.kept hGbw3_1) j7 (dp6 (Nat.lt_of_le_of_lt (Nat.div_le_self _ _) HND.out.1) (by have := HE.out; omega)) (dp6 (two_D 56 (by omega)) (by omega))).mono ?_); rintro e bw3_2 ⟨rfl, gbw3_2⟩; rw [HC9.out]; have hGbw3_2 := grown_trans hGbw3_1 gbw3_2; replace j7 := j7.kept gbw3_2; have hSbw3_2 := (And.intro (hGbw3_2.cell Cl0 (by simp)) (hGbw3_2.cell Ck0 (by simp))); clear gbw3_2))
         replace Ba := heap_kept hGbw3_2 Ba
         replace Bx := heap_kept hGbw3_2 Bx
         replace Bk := heap_kept hGbw3_2 Bk
         replace Bl := heap_kept hGbw3_2 Bl
         replace ya := ya.kept hGbw3_2
         replace m1 := m1.kept hGbw3_2
         replace m2 := m2.kept hGbw3_2
         replace mk := mk.kept hGbw3_2
         replace ml := ml.kept hGbw3_2
         replace hG := grown_trans hG hGbw3_2
         clear Ca0 Ca1 Ca2 Ca3 Fa0 Fa1 Fa2 Fa3 Cx0 Cx1 Cx2 Cx3 Fx0 Fx1 Fx2 Fx3 Ck0 Fk0 Cl0 Fl0
         replace hX := grown_trans hX hGbw3_2
         go_wp2_with fail
         exact ⟨⟨e + 1, by omega, by go_num, Lib.hid (HSTEP.out (Or.inr H2.out)), hX⟩, by simp [intOf]; omega⟩
       · skip
         obtain rfl : ll = 0 := hnl.1 h1
         have H1 := Lib.hid h1; have H2 := Lib.hid h2; clear hnl h1 h2
         go_region_held3 (fun w' => w'.cell? ⟨aw1 + 1, 0, none⟩ = some (.slice sl 0 cl) ∧ w'.cell? ⟨aw1, 0, none⟩ = some (.slice sk lk ck))
           (first | assumption | exact ⟨Cl0, Ck0⟩ | go_keep)
           (first
             | (go_at_call 33; (with_reducible refine (rTwo_of w2.drew 56 56 rfl (by omega)).mono ?_); rintro e cw3_1 ⟨v7, rfl, j7, gcw3_1⟩; have hGcw3_1 := grown_pre w2 gcw3_1 rfl rfl rfl rfl; have hScw3_1 := (And.intro (hGcw3_1.cell Cl0 (by simp)) (hGcw3_1.cell Ck0 (by simp))); clear gcw3_1)
             | (go_at_call 32; (with_reducible refine (rCmp_any cw3_1 _ _ (N / D') (2 ^ 56) (mk.kept hGcw3_1) j7 (dp6 (Nat.lt_of_le_of_lt (Nat.div_le_self _ _) HND.out.1) (by have := HE.out; omega)) (dp6 (two_D 56 (by omega)) (by omega))).mono ?_); rintro e cw3_2 ⟨rfl, gcw3_2⟩; rw [HC9.out]; have hGcw3_2 := grown_trans hGcw3_1 gcw3_2; replace j7 := j7.kept gcw3_2; have hScw3_2 := (And.intro (hGcw3_2.cell Cl0 (by simp)) (hGcw3_2.cell Ck0 (by simp))); clear gcw3_2))
         replace Ba := heap_kept hGcw3_2 Ba
         replace Bx := heap_kept hGcw3_2 Bx
         replace Bk := heap_kept hGcw3_2 Bk
         replace Bl := heap_kept hGcw3_2 Bl
         replace ya := ya.kept hGcw3_2
         replace m1 := m1.kept hGcw3_2
         replace m2 := m2.kept hGcw3_2
         replace mk := mk.kept hGcw3_2
         replace ml := ml.kept hGcw3_2
         replace hG := grown_trans hG hGcw3_2
         clear Ca0 Ca1 Ca2 Ca3 Fa0 Fa1 Fa2 Fa3 Cx0 Cx1 Cx2 Cx3 Fx0 Fx1 Fx2 Fx3 Ck0 Fk0 Cl0 Fl0
         replace hX := grown_trans hX hGcw3_2
         have f2 := HGA.out.2
         have hmE := (HEQ.out (N / D')).2 (by have := Nat.div_add_mod' N D'; rw [H1.out] at this; omega)
         have HF : Hid (N / D' < 2 ^ 56 ∧ EQ r e (N / D') ∧ ∀ e' m', e' < e → m' < 2 ^ 56 → ¬ EQ r e' m') := ⟨H2.out, hmE, HL.out⟩
         obtain ⟨m0, hm0⟩ : ∃ m, N / D' = m := ⟨_, rfl⟩
         rw [hm0] at HF mk
         clear hmE hm0 H1 H2 HSTEP HEQ HC9 HND HDP HL hX j7 ml m1 m2 ya
         have hpk : w.heap.size ≤ aw1 := by omega
         have HBK := Lib.hid Bk; have HMK := Lib.hid mk; have HBA := Lib.hid Ba; have HG2 := Lib.hid hG; have hgo := hG.size; have hpk2 := heap_lt Bk; have hpa2 := heap_lt Ba
         clear Bk mk Ba Bl Bx hG
         cases ng
         · skip
           go_wp2_with (at_make; refine wpList_make_full _ rfl _ _ 42 rfl _ 5 i1 (.int .u8 0) 1 Tryz.underlying42 hi hz0 hz1 .i64 .i64 _ _ 8 rfl rfl (by omega) (by omega) (by rw [hz2]; omega) (by unfold maxLen; omega) (Nat.le_refl _) ?_; intro w9 hown hg9; have hbl := made_blk hown; have cO : w9.cell? ⟨cw3_2.heap.size, 0, none⟩ = some (.int .u8 0) := hbl.cell 0 (by simp); have fO := hbl.free 0; (obtain ⟨Ca0, Ca1, Ca2, Ca3, Fa0, Fa1, Fa2, Fa3⟩ := box_cells4 (heap_kept hg9 HBA.out)); clear hown)
           have hk9 := heap_kept hg9 HBK.out; have mk9 := HMK.out.kept hg9; have hG9 := grown_trans HG2.out hg9
           replace hk9 := heap_unset hk9 (show aw1 ≠ cw3_2.heap.size by omega) (.int .u8 (e : Int)); replace mk9 := mk9.setu hbl 0 (.int .u8 (e : Int)); replace hG9 := grown_set1 (g := cw3_2.heap.size) hG9 hgo (.int .u8 (e : Int)); replace hbl := ByBlk.set (y := e) hbl (by omega)
           clear cO fO Ca0 Ca1 Ca2 Ca3 Fa0 Fa1 Fa2 Fa3
           obtain ⟨x0, hx0⟩ : ∃ x, e + (if false = true then 128 else 0) = x := ⟨_, rfl⟩
           have hb9 : ByBlk (w9.setCell ⟨cw3_2.heap.size, 0, none⟩ (.int .u8 (e : Int))) cw3_2.heap.size (x0 :: tailL m0 7) := by rw [← hx0, tailL_seven]; exact hbl
           have HX0 := Lib.hid hx0; clear hx0 hbl
           generalize (w9.setCell ⟨cw3_2.heap.size, 0, none⟩ (.int .u8 (e : Int))) = wI at *
           generalize cw3_2.heap.size = gO at *
           have HB9 := Lib.hid hb9; have HK9 := Lib.hid hk9; have HM9 := Lib.hid mk9; have HG9 := Lib.hid hG9; clear hb9 hk9 mk9 hG9
           have hkg : aw1 ≠ gO := by omega
           have hgo9 : w.heap.size ≤ gO := by omega
           go_loopw [9] (fun i wi => ∃ k : Nat, k ≤ 7 ∧ i = .int .i64 (k : Int) ∧ BoxM wi aw1 (m0 / 256 ^ (7 - k)) ∧ ByBlk wi gO (x0 :: tailL m0 k) ∧ w.grownBy wi none) (fun i _ => (intOf i).toNat)
           case atStart => exact ⟨7, by omega, rfl, ⟨_, _, _, HK9.out, by rw [Nat.sub_self, Nat.pow_zero, Nat.div_one]; exact HM9.out⟩, HB9.out, HG9.out⟩
           case round =>
             obtain ⟨k, hk, rfl, ⟨sq, lq, cq, Bk, mk⟩, hb, hG⟩ := hrel
             by_cases h0 : 0 < k
             · skip
               obtain ⟨j, rfl⟩ : ∃ j, k = j + 1 := ⟨k - 1, by omega⟩
               have hpow : m0 / 256 ^ (7 - (j + 1)) / 256 = m0 / 256 ^ (7 - j) := by rw [show 7 - j = (7 - (j + 1)) + 1 by omega, Nat.pow_succ, Nat.div_div_eq_div_mul]
               have htl : m0 / 256 ^ (7 - (j + 1)) = m0 / 256 ^ (6 - j) := by rw [show 7 - (j + 1) = 6 - j by omega]
               have hts := tailL_set m0 j (by omega); have htz := tailL_same m0 j (by omega)
               have hqd : m0 / 256 ^ (7 - (j + 1)) < D ^ 25 := Nat.lt_of_le_of_lt (Nat.div_le_self _ _) (Nat.lt_trans HF.out.1 (two_D 56 (by omega)))
               rw [← htl] at hts htz
               obtain ⟨q0, hq0⟩ : ∃ q, m0 / 256 ^ (7 - (j + 1)) = q := ⟨_, rfl⟩
               rw [hq0] at hpow hts htz hqd mk
               have HPW := Lib.hid hpow; have HTS := Lib.hid hts; have HTZ := Lib.hid htz; have HQD := Lib.hid hqd; clear hpow htl hts htz hqd hq0
               have gbwr := (World.grownBy_alloc wr (.cells #[.slice none 0 0] 34) none)
               have Bt := (heap_new wr (.cells #[.slice none 0 0] 34) (wr.heap.size) rfl)
               have hzwr : Hid (w.heap.size ≤ wr.heap.size) := Lib.hid hG.size
               have hlkwr : Hid (aw1 < wr.heap.size) := Lib.hid (Array.getElem?_eq_some_iff.1 Bk).1
               replace Bk := heap_kept gbwr Bk
               replace mk := mk.kept gbwr
               replace hb := hb.kept gbwr
               replace hG := grown_trans hG gbwr
               clear gbwr
               obtain ⟨Ck0, Fk0⟩ := box_cell Bk
               obtain ⟨Ct0, Ft0⟩ := box_cell Bt
               go_wp2_with fail
               generalize (wr.alloc (.cells #[.slice none 0 0] 34)) = cfrw4 at *
               generalize wr.heap.size = awr at *
               replace hzwr := hzwr.out
               replace hlkwr := hlkwr.out
               obtain ⟨Ck0, Fk0⟩ := box_cell Bk
               obtain ⟨Ct0, Ft0⟩ := box_cell Bt
               go_region_with (first
                 | (go_at_call 34; (with_reducible refine (rOf_256 cfrw4.drew).mono ?_); rintro e9 w5 ⟨v5, rfl, n5, g5⟩; have hG5 := grown_pre cfrw4 g5 rfl rfl rfl rfl; (obtain ⟨ck5, fk5⟩ := box_cell (heap_kept hG5 Bk)); (obtain ⟨ct5, ft5⟩ := box_cell (heap_kept hG5 Bt)))
                 | (go_at_call 31; (with_reducible refine (rDiv_any w5 _ _ q0 256 (mk.kept hG5) n5 (dp4 HQD.out (by omega)) (dp4 (E := 25) (Nat.lt_trans (show 256 < 2 ^ 9 by decide) (two_D 9 (by omega))) (by omega)) (by omega)).mono ?_); rintro e9 w6 ⟨_, _, rfl, ⟨su, lu, cu, yu, rfl, hu⟩, ⟨sr, lr, cr, yr, rfl, hr⟩, g6⟩; have hG6 := grown_trans hG5 g6; (obtain ⟨ck6, fk6⟩ := box_cell (heap_kept hG6 Bk)); (obtain ⟨ct6, ft6⟩ := box_cell (heap_kept hG6 Bt))))
               all_goals (
                 have mu : RefV w6 (.agg #[.slice su lu cu]) (q0 / 256) := ⟨su, lu, cu, yu, rfl, hu⟩; have mr : RefV w6 (.agg #[.slice sr lr cr]) (q0 % 256) := ⟨sr, lr, cr, yr, rfl, hr⟩
                 have hkt : aw1 ≠ awr := by omega
                 have bk := heap_kept hG6 Bk; have bt := heap_kept hG6 Bt; have bb := hb.kept hG6; have hg := grown_trans hG hG6
                 have htw : w.heap.size ≤ awr := by omega
                 replace mu := mu.set1 bk (.slice su lu cu); replace mr := mr.set1 bk (.slice su lu cu); replace bb := bb.set1 bk (.slice su lu cu); replace bt := heap_unset bt (show awr ≠ aw1 by omega) (.slice su lu cu); replace bk := heap_set bk (.slice su lu cu); replace hg := grown_set1 (g := aw1) hg (by omega) (.slice su lu cu)
                 replace mu := mu.set1 bt (.slice sr lr cr); replace mr := mr.set1 bt (.slice sr lr cr); replace bb := bb.set1 bt (.slice sr lr cr); replace bk := heap_unset bk (show aw1 ≠ awr by omega) (.slice sr lr cr); replace bt := heap_set bt (.slice sr lr cr); replace hg := grown_set1 (g := awr) hg (by omega) (.slice sr lr cr)
                 clear Ck0 Fk0 Ct0 Ft0 ck5 fk5 ct5 ft5 ck6 fk6 ct6 ft6 n5 g5 hG5 g6 hG6 hu hr mk hb hG Bk Bt
                 skip
                 generalize ((w6.setCell ⟨aw1, 0, none⟩ (.slice su lu cu)).setCell ⟨awr, 0, none⟩ (.slice sr lr cr)) = W7 at *
                 rw [HPW.out] at mu
                 have hr9 : q0 % 256 < 256 := Nat.mod_lt _ (by omega)
                 obtain ⟨r0, hr0⟩ : ∃ r, q0 % 256 = r := ⟨_, rfl⟩
                 have hts := HTS.out; have htz := HTZ.out
                 rw [hr0] at hr9 mr hts htz
                 clear hr0
                 have hts9 := Lib.hid hts; have htz9 := Lib.hid htz; clear hts htz
                 rcases ref_small mr (by omega) with ⟨hz9, rfl⟩ | ⟨hp9, rfl, ar, rfl, cR⟩
                 · obtain ⟨Ct9, Ft9⟩ := box_cell bt
                   go_wp2_with fail
                   exact ⟨⟨j, by omega, rfl, ⟨_, _, _, bk, mu⟩, by rw [← htz9.out hz9]; exact bb, hg⟩, by simp [intOf]⟩
                 · obtain ⟨Ct9, Ft9⟩ := box_cell bt
                   have hj9 : j + 1 < (x0 :: tailL m0 (j + 1)).length := by simp [tailL_len]; omega
                   obtain ⟨v8, cO⟩ : ∃ v, W7.cell? ⟨gO, j + 1, none⟩ = some v := ⟨_, bb.cell (j + 1) hj9⟩
                   have fO := bb.free (j + 1)
                   have hnb : ByBlk (W7.setCell ⟨gO, j + 1, none⟩ (.int .u8 (r0 : Int))) gO (x0 :: tailL m0 j) := by have h := bb.setAt (j + 1) r0 hj9 hr9; rw [List.set_cons_succ, hts9.out] at h; exact h
                   have hnm := mu.setu bb (j + 1) (.int .u8 (r0 : Int)); have hnk := heap_unsetAt (o := j + 1) bk hkg (.int .u8 (r0 : Int)); have hng := grown_setAt (g := gO) (o := j + 1) hg hgo9 (.int .u8 (r0 : Int))
                   have HNB := Lib.hid hnb; have HNM := Lib.hid hnm; have HNK := Lib.hid hnk; have HNG := Lib.hid hng; clear hnb hnm hnk hng mu bb bk hg hj9 mr
                   go_wp2_with fail
                   exact ⟨⟨j, by omega, rfl, ⟨_, _, _, HNK.out, HNM.out⟩, HNB.out, HNG.out⟩, by simp [intOf]⟩)
             · obtain rfl : k = 0 := by omega
               go_wp2_with fail
               have hY := HYES.out _ gO e m0 hG (by omega) HF (by rw [HX0.out]; exact hb)
               exact hY
         · skip
           go_wp2_with (at_make; refine wpList_make_full _ rfl _ _ 42 rfl _ 5 i1 (.int .u8 0) 1 Tryz.underlying42 hi hz0 hz1 .i64 .i64 _ _ 8 rfl rfl (by omega) (by omega) (by rw [hz2]; omega) (by unfold maxLen; omega) (Nat.le_refl _) ?_; intro w9 hown hg9; have hbl := made_blk hown; have cO : w9.cell? ⟨cw3_2.heap.size, 0, none⟩ = some (.int .u8 0) := hbl.cell 0 (by simp); have fO := hbl.free 0; (obtain ⟨Ca0, Ca1, Ca2, Ca3, Fa0, Fa1, Fa2, Fa3⟩ := box_cells4 (heap_kept hg9 HBA.out)); clear hown)
           have hk9 := heap_kept hg9 HBK.out; have mk9 := HMK.out.kept hg9; have hG9 := grown_trans HG2.out hg9
           replace hk9 := heap_unset hk9 (show aw1 ≠ cw3_2.heap.size by omega) (.int .u8 (e : Int)); replace mk9 := mk9.setu hbl 0 (.int .u8 (e : Int)); replace hG9 := grown_set1 (g := cw3_2.heap.size) hG9 hgo (.int .u8 (e : Int)); replace hbl := ByBlk.set (y := e) hbl (by omega)
           replace hk9 := heap_unset hk9 (show aw1 ≠ cw3_2.heap.size by omega) (.int .u8 ((e : Int) + 128)); replace mk9 := mk9.setu hbl 0 (.int .u8 ((e : Int) + 128)); replace hG9 := grown_set1 (g := cw3_2.heap.size) hG9 hgo (.int .u8 ((e : Int) + 128)); replace hbl := ByBlk.set (y := e + 128) hbl (by omega)
           rw [show ((e + 128 : Nat) : Int) = (e : Int) + 128 by omega] at hbl
           clear cO fO Ca0 Ca1 Ca2 Ca3 Fa0 Fa1 Fa2 Fa3
           obtain ⟨x0, hx0⟩ : ∃ x, e + (if true = true then 128 else 0) = x := ⟨_, rfl⟩
           have hb9 : ByBlk ((w9.setCell ⟨cw3_2.heap.size, 0, none⟩ (.int .u8 (e : Int))).setCell ⟨cw3_2.heap.size, 0, none⟩ (.int .u8 ((e : Int) + 128))) cw3_2.heap.size (x0 :: tailL m0 7) := by rw [← hx0, tailL_seven]; exact hbl
           have HX0 := Lib.hid hx0; clear hx0 hbl
           generalize ((w9.setCell ⟨cw3_2.heap.size, 0, none⟩ (.int .u8 (e : Int))).setCell ⟨cw3_2.heap.size, 0, none⟩ (.int .u8 ((e : Int) + 128))) = wI at *
           generalize cw3_2.heap.size = gO at *
           have HB9 := Lib.hid hb9; have HK9 := Lib.hid hk9; have HM9 := Lib.hid mk9; have HG9 := Lib.hid hG9; clear hb9 hk9 mk9 hG9
           have hkg : aw1 ≠ gO := by omega
           have hgo9 : w.heap.size ≤ gO := by omega
           go_loopw [9] (fun i wi => ∃ k : Nat, k ≤ 7 ∧ i = .int .i64 (k : Int) ∧ BoxM wi aw1 (m0 / 256 ^ (7 - k)) ∧ ByBlk wi gO (x0 :: tailL m0 k) ∧ w.grownBy wi none) (fun i _ => (intOf i).toNat)
           case atStart => exact ⟨7, by omega, rfl, ⟨_, _, _, HK9.out, by rw [Nat.sub_self, Nat.pow_zero, Nat.div_one]; exact HM9.out⟩, HB9.out, HG9.out⟩
           case round =>
             obtain ⟨k, hk, rfl, ⟨sq, lq, cq, Bk, mk⟩, hb, hG⟩ := hrel
             by_cases h0 : 0 < k
             · skip
               obtain ⟨j, rfl⟩ : ∃ j, k = j + 1 := ⟨k - 1, by omega⟩
               have hpow : m0 / 256 ^ (7 - (j + 1)) / 256 = m0 / 256 ^ (7 - j) := by rw [show 7 - j = (7 - (j + 1)) + 1 by omega, Nat.pow_succ, Nat.div_div_eq_div_mul]
               have htl : m0 / 256 ^ (7 - (j + 1)) = m0 / 256 ^ (6 - j) := by rw [show 7 - (j + 1) = 6 - j by omega]
               have hts := tailL_set m0 j (by omega); have htz := tailL_same m0 j (by omega)
               have hqd : m0 / 256 ^ (7 - (j + 1)) < D ^ 25 := Nat.lt_of_le_of_lt (Nat.div_le_self _ _) (Nat.lt_trans HF.out.1 (two_D 56 (by omega)))
               rw [← htl] at hts htz
               obtain ⟨q0, hq0⟩ : ∃ q, m0 / 256 ^ (7 - (j + 1)) = q := ⟨_, rfl⟩
               rw [hq0] at hpow hts htz hqd mk
               have HPW := Lib.hid hpow; have HTS := Lib.hid hts; have HTZ := Lib.hid htz; have HQD := Lib.hid hqd; clear hpow htl hts htz hqd hq0
               have gbwr := (World.grownBy_alloc wr (.cells #[.slice none 0 0] 34) none)
               have Bt := (heap_new wr (.cells #[.slice none 0 0] 34) (wr.heap.size) rfl)
               have hzwr : Hid (w.heap.size ≤ wr.heap.size) := Lib.hid hG.size
               have hlkwr : Hid (aw1 < wr.heap.size) := Lib.hid (Array.getElem?_eq_some_iff.1 Bk).1
               replace Bk := heap_kept gbwr Bk
               replace mk := mk.kept gbwr
               replace hb := hb.kept gbwr
               replace hG := grown_trans hG gbwr
               clear gbwr
               obtain ⟨Ck0, Fk0⟩ := box_cell Bk
               obtain ⟨Ct0, Ft0⟩ := box_cell Bt
               go_wp2_with fail
               generalize (wr.alloc (.cells #[.slice none 0 0] 34)) = ctrw4 at *
               generalize wr.heap.size = awr at *
               replace hzwr := hzwr.out
               replace hlkwr := hlkwr.out
               obtain ⟨Ck0, Fk0⟩ := box_cell Bk
               obtain ⟨Ct0, Ft0⟩ := box_cell Bt
               go_region_with (first
                 | (go_at_call 34; (with_reducible refine (rOf_256 ctrw4.drew).mono ?_); rintro e9 w5 ⟨v5, rfl, n5, g5⟩; have hG5 := grown_pre ctrw4 g5 rfl rfl rfl rfl; (obtain ⟨ck5, fk5⟩ := box_cell (heap_kept hG5 Bk)); (obtain ⟨ct5, ft5⟩ := box_cell (heap_kept hG5 Bt)))
                 | (go_at_call 31; (with_reducible refine (rDiv_any w5 _ _ q0 256 (mk.kept hG5) n5 (dp4 HQD.out (by omega)) (dp4 (E := 25) (Nat.lt_trans (show 256 < 2 ^ 9 by decide) (two_D 9 (by omega))) (by omega)) (by omega)).mono ?_); rintro e9 w6 ⟨_, _, rfl, ⟨su, lu, cu, yu, rfl, hu⟩, ⟨sr, lr, cr, yr, rfl, hr⟩, g6⟩; have hG6 := grown_trans hG5 g6; (obtain ⟨ck6, fk6⟩ := box_cell (heap_kept hG6 Bk)); (obtain ⟨ct6, ft6⟩ := box_cell (heap_kept hG6 Bt))))
               all_goals (
                 have mu : RefV w6 (.agg #[.slice su lu cu]) (q0 / 256) := ⟨su, lu, cu, yu, rfl, hu⟩; have mr : RefV w6 (.agg #[.slice sr lr cr]) (q0 % 256) := ⟨sr, lr, cr, yr, rfl, hr⟩
                 have hkt : aw1 ≠ awr := by omega
                 have bk := heap_kept hG6 Bk; have bt := heap_kept hG6 Bt; have bb := hb.kept hG6; have hg := grown_trans hG hG6
                 have htw : w.heap.size ≤ awr := by omega
                 replace mu := mu.set1 bk (.slice su lu cu); replace mr := mr.set1 bk (.slice su lu cu); replace bb := bb.set1 bk (.slice su lu cu); replace bt := heap_unset bt (show awr ≠ aw1 by omega) (.slice su lu cu); replace bk := heap_set bk (.slice su lu cu); replace hg := grown_set1 (g := aw1) hg (by omega) (.slice su lu cu)
                 replace mu := mu.set1 bt (.slice sr lr cr); replace mr := mr.set1 bt (.slice sr lr cr); replace bb := bb.set1 bt (.slice sr lr cr); replace bk := heap_unset bk (show aw1 ≠ awr by omega) (.slice sr lr cr); replace bt := heap_set bt (.slice sr lr cr); replace hg := grown_set1 (g := awr) hg (by omega) (.slice sr lr cr)
                 clear Ck0 Fk0 Ct0 Ft0 ck5 fk5 ct5 ft5 ck6 fk6 ct6 ft6 n5 g5 hG5 g6 hG6 hu hr mk hb hG Bk Bt
                 skip
                 generalize ((w6.setCell ⟨aw1, 0, none⟩ (.slice su lu cu)).setCell ⟨awr, 0, none⟩ (.slice sr lr cr)) = W7 at *
                 rw [HPW.out] at mu
                 have hr9 : q0 % 256 < 256 := Nat.mod_lt _ (by omega)
                 obtain ⟨r0, hr0⟩ : ∃ r, q0 % 256 = r := ⟨_, rfl⟩
                 have hts := HTS.out; have htz := HTZ.out
                 rw [hr0] at hr9 mr hts htz
                 clear hr0
                 have hts9 := Lib.hid hts; have htz9 := Lib.hid htz; clear hts htz
                 rcases ref_small mr (by omega) with ⟨hz9, rfl⟩ | ⟨hp9, rfl, ar, rfl, cR⟩
                 · obtain ⟨Ct9, Ft9⟩ := box_cell bt
                   go_wp2_with fail
                   exact ⟨⟨j, by omega, rfl, ⟨_, _, _, bk, mu⟩, by rw [← htz9.out hz9]; exact bb, hg⟩, by simp [intOf]⟩
                 · obtain ⟨Ct9, Ft9⟩ := box_cell bt
                   have hj9 : j + 1 < (x0 :: tailL m0 (j + 1)).length := by simp [tailL_len]; omega
                   obtain ⟨v8, cO⟩ : ∃ v, W7.cell? ⟨gO, j + 1, none⟩ = some v := ⟨_, bb.cell (j + 1) hj9⟩
                   have fO := bb.free (j + 1)
                   have hnb : ByBlk (W7.setCell ⟨gO, j + 1, none⟩ (.int .u8 (r0 : Int))) gO (x0 :: tailL m0 j) := by have h := bb.setAt (j + 1) r0 hj9 hr9; rw [List.set_cons_succ, hts9.out] at h; exact h
                   have hnm := mu.setu bb (j + 1) (.int .u8 (r0 : Int)); have hnk := heap_unsetAt (o := j + 1) bk hkg (.int .u8 (r0 : Int)); have hng := grown_setAt (g := gO) (o := j + 1) hg hgo9 (.int .u8 (r0 : Int))
                   have HNB := Lib.hid hnb; have HNM := Lib.hid hnm; have HNK := Lib.hid hnk; have HNG := Lib.hid hng; clear hnb hnm hnk hng mu bb bk hg hj9 mr
                   go_wp2_with fail
                   exact ⟨⟨j, by omega, rfl, ⟨_, _, _, HNK.out, HNM.out⟩, HNB.out, HNG.out⟩, by simp [intOf]⟩)
             · obtain rfl : k = 0 := by omega
               go_wp2_with fail
               have hY := HYES.out _ gO e m0 hG (by omega) HF (by rw [HX0.out]; exact hb)
               exact hY
    · skip
      obtain rfl : e = 128 := by omega
      have hG := grown_trans HG0.out hX
      go_wp2_with fail
      exact HNO.out _ hG HL
theorem rEnc_any (w : World) (va : Value) (r : Rat) (E : Nat) (Ha : RQ w va r E) (hE : 1 ≤ E ∧ E ≤ 100) : Calls Tryz.prog 8 #[va] w (RetEnc w r) := by
  by_cases h : r.num = 0
  · exact rEnc_zero w va r E Ha h
  · exact rEnc_some w va r E Ha hE h
end Go.Proofs.YtldkddogadmpbaaGreatDoor
namespace Go.Proofs.YtldkddogadmpbaaGreatDoor
open Go.RowKit Mat
set_option maxRecDepth 100000
set_option linter.unusedVariables false
set_option linter.unusedSimpArgs false
end Go.Proofs.YtldkddogadmpbaaGreatDoor
namespace Go.Proofs.YtldkddogadmpbaaGreatDoor
open Go.RowKit Mat
set_option maxRecDepth 100000
set_option linter.unusedVariables false
set_option linter.unusedSimpArgs false
theorem RIntV.nat {w : World} {g : Int} {s : Option Addr} {l c : Nat} {z : Int} (h : RIntV w (.agg #[.int .i64 g, .slice s l c]) z) : RefV w (.agg #[.slice s l c]) z.natAbs ∧ Hid (g = z.sign) := by
  obtain ⟨g', s', l', c', e, h1, h2⟩ := h
  cases e
  exact ⟨h2, h1⟩
theorem natAbs_ediv_dvd {x : Int} {G : Nat} (h : G ∣ x.natAbs) (hG : 0 < G) : (x / (G : Int)).natAbs = x.natAbs / G := by
  obtain ⟨k, hk⟩ := Int.ofNat_dvd_left.2 h
  rw [hk, Int.mul_ediv_cancel_left _ (by omega), Int.natAbs_mul, Int.natAbs_natCast, Nat.mul_div_cancel_left _ hG]
theorem rq_low {n d : Int} {r : Rat} (hd : 0 < d) (h : Rat.divInt n d = r) : r.num.natAbs = n.natAbs / Nat.gcd n.natAbs d.natAbs ∧ ((r.den : Nat) : Int).natAbs = d.natAbs / Nat.gcd n.natAbs d.natAbs ∧ r.num.sign = n.sign ∧ 0 < Nat.gcd n.natAbs d.natAbs := by
  have hp : 0 < Nat.gcd n.natAbs d.natAbs := Nat.gcd_pos_of_pos_right _ (by omega)
  have h1 := fmake_pos n d hd
  rw [h] at h1
  refine ⟨?_, ?_, (rq_sign hd h).symm, hp⟩
  · rw [h1.1]; exact natAbs_ediv_dvd (Nat.gcd_dvd_left _ _) hp
  · rw [h1.2]; exact natAbs_ediv_dvd (Nat.gcd_dvd_right _ _) hp
theorem rq_nle {n d : Int} {r : Rat} {E : Nat} (hd : 0 < d) (h : Rat.divInt n d = r) (hn : n.natAbs < D ^ E) : r.num.natAbs < D ^ E := by
  rw [(rq_low hd h).1]; exact Nat.lt_of_le_of_lt (Nat.div_le_self _ _) hn
theorem rq_dle {n d : Int} {r : Rat} {E : Nat} (hd : 0 < d) (h : Rat.divInt n d = r) (hn : d.natAbs < D ^ E) : ((r.den : Nat) : Int).natAbs < D ^ E := by
  rw [(rq_low hd h).2.1]; exact Nat.lt_of_le_of_lt (Nat.div_le_self _ _) hn
theorem ztext_lenD {s : ByteArray} {z : Int} {E : Nat} (h : ZTextOf s z) (hz : z.natAbs < D ^ E) (hE : 1 ≤ E) : s.size ≤ 4 * E + 1 := by
  obtain ⟨l, hl, vl, el⟩ := h
  have h1 := dlen hl vl hz hE
  have h2 := congrArg List.length el
  rw [bts_len] at h2
  rw [h2]
  split
  · rw [List.length_cons]; omega
  · omega
end Go.Proofs.YtldkddogadmpbaaGreatDoor
