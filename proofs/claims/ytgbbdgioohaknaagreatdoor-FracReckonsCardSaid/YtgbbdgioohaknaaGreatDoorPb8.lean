/- What the laws lean on, part 8. -/
import Derived.Test.YtgbbdgioohaknaaGreatDoorPb7
namespace Go.Proofs.YtgbbdgioohaknaaGreatDoor
open Go.RowKit Mat
set_option maxRecDepth 100000
set_option linter.unusedVariables false
set_option linter.unusedSimpArgs false
theorem cM_ {z : Int} {b : Bool} (h : b = true ↔ z < 0) : (if b = true then -(z.natAbs : Int) else z.natAbs) = z := by
 cases b
 · have : ¬ z < 0 := fun q => by have := h.2 q; cases this
   simp; omega
 · have := h.1 rfl
   simp; omega
theorem gL_ {z : Int} {b : Bool} (h : b = true ↔ z < 0) : (if (!b) = true then -(z.natAbs : Int) else z.natAbs) = -z := by
 cases b
 · have : ¬ z < 0 := fun q => by have := h.2 q; cases this
   simp; omega
 · have := h.1 rfl
   simp; omega
set_option maxHeartbeats 4000000 in
theorem aP_ (w : World) (va vb : Value) (x y : Int) (K : Nat) (ha : IntV w va x) (hb : IntV w vb y) (hK : K ≤ 900000) (la : x.natAbs < B ^ K) (lb : y.natAbs < B ^ K) :
    Calls Tryz.prog 49 #[va, vb] w (x_ w (x + y)) := by
 obtain ⟨sa, xs, za, rfl, hx, hv, hza⟩ := ha
 obtain ⟨sb, ys, zb, rfl, hy, hvy, hzb⟩ := hb
 have hgw0 : w.grownBy (((w.alloc (.cells #[.slice sa xs.length xs.length, .bool za] 26)).alloc (.cells #[.slice sb ys.length ys.length, .bool zb] 26)).alloc (.cells #[.slice none 0 0, .bool false] 26)) none := l_ (l_ (wg_ _ _ _) _) _
 have hr := f_ ((w.alloc (.cells #[.slice sa xs.length xs.length, .bool za] 26)).alloc (.cells #[.slice sb ys.length ys.length, .bool zb] 26)) (.cells #[.slice none 0 0, .bool false] 26) (w.heap.size + 1 + 1) (by simp)
 have hbb := a_ (wg_ _ (.cells #[.slice none 0 0, .bool false] 26) none) (f_ (w.alloc (.cells #[.slice sa xs.length xs.length, .bool za] 26)) (.cells #[.slice sb ys.length ys.length, .bool zb] 26) (w.heap.size + 1) (by simp))
 have hba := a_ (l_ (wg_ _ (.cells #[.slice sb ys.length ys.length, .bool zb] 26) none) (.cells #[.slice none 0 0, .bool false] 26)) (f_ w (.cells #[.slice sa xs.length xs.length, .bool za] 26) w.heap.size rfl)
 have na : IntV (((w.alloc (.cells #[.slice sa xs.length xs.length, .bool za] 26)).alloc (.cells #[.slice sb ys.length ys.length, .bool zb] 26)).alloc (.cells #[.slice none 0 0, .bool false] 26)) (.agg #[.slice sa xs.length xs.length, .bool za]) x := ⟨sa, xs, za, rfl, hx.kept hgw0, hv, hza⟩
 have nn : NatV (((w.alloc (.cells #[.slice sa xs.length xs.length, .bool za] 26)).alloc (.cells #[.slice sb ys.length ys.length, .bool zb] 26)).alloc (.cells #[.slice none 0 0, .bool false] 26)) (.agg #[.slice sb ys.length ys.length]) y.natAbs := ⟨sb, ys, rfl, hy.kept hgw0, hvy⟩
 have Hla := H_ la
 have Hlb := H_ lb
 have HE : Hid (x + (if (zb) = true then -(y.natAbs : Int) else y.natAbs) = x + y) := by show _ = _; rw [cM_ hzb]
 clear hx hv hy hvy la lb hza hzb
 go_enter Tryz.func49, Tryz.ntmps49
 obtain ⟨ca0, ca1, fa0, fa1⟩ := c_ hba
 obtain ⟨cb0, cb1, fb0, fb1⟩ := c_ hbb
 go_wp2_with fail
 refine (du_ _ _ _ x y.natAbs K (zb) na nn hK Hla.out Hlb.out).mono ?_
 rintro e w2 ⟨v2, rfl, ⟨s2, x2, fl2, rfl, h2, vv2, hb2⟩, g2⟩
 rw [HE.out] at vv2 hb2
 have hgw := d_ hgw0 g2
 have hrr := a_ g2 hr
 clear na nn g2
 have hb9 := hrr
 obtain ⟨c90, c91, f90, f91⟩ := c_ hb9
 obtain ⟨q90, q91, r90, r91⟩ := c_ (m_ hb9 (.slice s2 x2.length x2.length) (.bool fl2))
 have hF : Hid (x_ w (x + y) (.returned (.agg #[.slice s2 x2.length x2.length, .bool fl2])) ((w2.setCell ⟨w.heap.size + 1 + 1, 0, none⟩ (.slice s2 x2.length x2.length)).setCell ⟨w.heap.size + 1 + 1, 1, none⟩ (.bool fl2))) := ap_ hgw hb9 (by omega) h2 vv2 hb2
 clear h2 vv2 hb2
 go_wp2_with fail
 exact bodyPost_ret (v := .agg #[.slice s2 x2.length x2.length, .bool fl2]) (by simp [results, Tryz.results49, go_sem, q90, q91]) rfl hF.out
set_option maxHeartbeats 4000000 in
theorem as_ (w : World) (va : Value) (x : Int) (K : Nat) (ha : IntV w va x) (hK : K ≤ 900000) (la : x.natAbs < B ^ K) :
    Calls Tryz.prog 67 #[va] w (x_ w (-x)) := by
 obtain ⟨sa, xs, za, rfl, hx, hv, hza⟩ := ha
 have hgw0 : w.grownBy ((w.alloc (.cells #[.slice sa xs.length xs.length, .bool za] 26)).alloc (.cells #[.slice none 0 0, .bool false] 26)) none := l_ (wg_ _ _ _) _
 have hr := f_ (w.alloc (.cells #[.slice sa xs.length xs.length, .bool za] 26)) (.cells #[.slice none 0 0, .bool false] 26) (w.heap.size + 1) (by simp)
 have hba := a_ (wg_ _ (.cells #[.slice none 0 0, .bool false] 26) none) (f_ w (.cells #[.slice sa xs.length xs.length, .bool za] 26) w.heap.size rfl)
 have na : NatV ((w.alloc (.cells #[.slice sa xs.length xs.length, .bool za] 26)).alloc (.cells #[.slice none 0 0, .bool false] 26)) (.agg #[.slice sa xs.length xs.length]) x.natAbs := ⟨sa, xs, rfl, hx.kept hgw0, hv⟩
 have Hla := H_ la
 have HE := H_ (gL_ hza)
 clear hx hv la hza
 go_enter Tryz.func67, Tryz.ntmps67
 go_wp2_with fail
 generalize ((w.alloc (.cells #[.slice sa xs.length xs.length, .bool za] 26)).alloc (.cells #[.slice none 0 0, .bool false] 26)) = w0 at *
 obtain ⟨ca0, ca1, fa0, fa1⟩ := c_ hba
 go_region_held3 (fun w' => w'.cell? ⟨w.heap.size, 0, none⟩ = some (.slice sa xs.length xs.length) ∧ w'.cell? ⟨w.heap.size, 1, none⟩ = some (.bool za))
  (first | assumption | exact ⟨ca0, ca1⟩ | exact HS3 | go_keep)
  (first
    | (go_at_call 96; (with_reducible refine (eh_ w0.drew _ x.natAbs K (na.kept (k_ (h_ _ _))) (by omega) Hla.out).mono ?_); rintro e w1 ⟨v1, rfl, n1, g1⟩; have hG1 := o_ w0 g1 rfl rfl rfl rfl; have hS1 := n_ (hG1.cell ca0 (by simp)) (hG1.cell ca1 (by simp)))
    | (go_at_call 105; (with_reducible refine (J_ w1 _ x.natAbs K (!za) n1 (by omega) Hla.out).mono ?_); rintro e w2 ⟨v2, rfl, ⟨s2, x2, fl2, rfl, h2, vv2, hb2⟩, g2⟩; have hG2 := d_ hG1 g2; have hS2 := n_ (hG2.cell ca0 (by simp)) (hG2.cell ca1 (by simp)); have hr2 := a_ hG2 hr; (obtain ⟨d0, d1, k0, k1⟩ := c_ hr2); have HS3 := n_ (c_ (e_ (a_ hG2 hba) (show w.heap.size ≠ w.heap.size + 1 by omega) (.slice s2 x2.length x2.length) (.bool fl2))).1 (c_ (e_ (a_ hG2 hba) (show w.heap.size ≠ w.heap.size + 1 by omega) (.slice s2 x2.length x2.length) (.bool fl2))).2.1))
 rw [HE.out] at vv2 hb2
 have hgw := d_ hgw0 hG2
 clear n1 g1 g2 na
 have hb9 := hr2
 obtain ⟨c90, c91, f90, f91⟩ := c_ hb9
 obtain ⟨q90, q91, r90, r91⟩ := c_ (m_ hb9 (.slice s2 x2.length x2.length) (.bool fl2))
 have hF : Hid (x_ w (-x) (.returned (.agg #[.slice s2 x2.length x2.length, .bool fl2])) ((w2.setCell ⟨w.heap.size + 1, 0, none⟩ (.slice s2 x2.length x2.length)).setCell ⟨w.heap.size + 1, 1, none⟩ (.bool fl2))) := ap_ hgw hb9 (by omega) h2 vv2 hb2
 clear h2 vv2 hb2
 go_wp2_with fail
 exact bodyPost_ret (v := .agg #[.slice s2 x2.length x2.length, .bool fl2]) (by simp [results, Tryz.results67, go_sem, q90, q91]) rfl hF.out
def D : Nat := 10000
theorem bi_ : 0 < D := by unfold D; omega
def iv (x : Nat) : Value := .int .i64 (x : Int)
def RAt (cs : Array Value) (off : Nat) (xs : List Nat) : Prop := ∀ i (h : i < xs.length), cs[off + i]? = some (iv xs[i])
def RBlk (w : World) (b : Nat) (cs : Array Value) : Prop := w.heap[b]? = some (.cells cs 3 (0, 0))
theorem RBlk.cell {w : World} {b : Nat} {cs : Array Value} (h : RBlk w b cs) (o : Nat) : w.cell? ⟨b, o, none⟩ = cs[o]? := by
 unfold RBlk at h; simp [World.cell?, h]
theorem RBlk.frozen {w : World} {b : Nat} {cs : Array Value} (h : RBlk w b cs) (o : Nat) : w.frozen? ⟨b, o, none⟩ = false := by
 unfold RBlk at h; simp [World.frozen?, h]
theorem RBlk.lt {w : World} {b : Nat} {cs : Array Value} (h : RBlk w b cs) : b < w.heap.size := (Array.getElem?_eq_some_iff.1 h).1
theorem RBlk.kept {w w' : World} {b : Nat} {cs : Array Value} {row : Option Nat} (h : RBlk w b cs) (hg : w.grownBy w' row) (hr : some b ≠ row) : RBlk w' b cs := (hg.block b h.lt hr).trans h
theorem RAt.take {cs : Array Value} {off : Nat} {xs : List Nat} (h : RAt cs off xs) (k : Nat) : RAt cs off (xs.take k) := by
 intro i hi
 rw [List.length_take] at hi
 rw [h i (by omega), List.getElem_take]
def RRdo (w : World) (s : Option Addr) (xs : List Nat) : Prop := xs = [] ∨ ∃ (b off : Nat) (cs : Array Value), s = some ⟨b, off, none⟩ ∧ RBlk w b cs ∧ RAt cs off xs
theorem RRdo.kept {w w' : World} {s : Option Addr} {xs : List Nat} (h : RRdo w s xs) (hg : w.grownBy w' none) : RRdo w' s xs := by
 rcases h with h | ⟨b, off, cs, e, h1, h2⟩
 · exact Or.inl h
 · exact Or.inr ⟨b, off, cs, e, h1.kept hg (by simp), h2⟩
theorem RRdo.take {w : World} {s : Option Addr} {xs : List Nat} (h : RRdo w s xs) (k : Nat) : RRdo w s (xs.take k) := by
 rcases h with h | ⟨b, off, cs, e, h1, h2⟩
 · exact Or.inl (by rw [h]; simp)
 · exact Or.inr ⟨b, off, cs, e, h1, h2.take k⟩
theorem RRdo.get {w : World} {s : Option Addr} {xs : List Nat} (h : RRdo w s xs) (k : Nat) (hk : k < xs.length) : ∃ (b off : Nat) (cs : Array Value), s = some ⟨b, off, none⟩ ∧ RBlk w b cs ∧ RAt cs off xs := by
 rcases h with h | h
 · rw [h] at hk; simp at hk
 · exact h
def RefV (w : World) (v : Value) (n : Nat) : Prop := ∃ (s : Option Addr) (k cap : Nat) (xs : List Nat), v = .agg #[.slice s k cap] ∧ xs.length = k ∧ k ≤ cap ∧ RRdo w s xs ∧ Top xs ∧ Dig D xs ∧ val D xs = n
theorem RefV.kept {w w' : World} {v : Value} {n : Nat} (h : RefV w v n) (hg : w.grownBy w' none) : RefV w' v n := by
 obtain ⟨s, k, cap, xs, e, h1, h2, h3, h4⟩ := h
 exact ⟨s, k, cap, xs, e, h1, h2, h3.kept hg, h4⟩
def bJ_ (w : World) (n : Nat) (e : Ending) (w' : World) : Prop := ∃ v, e = .returned v ∧ RefV w' v n ∧ w.grownBy w' none
theorem RRdo.set_other {w : World} {s : Option Addr} {xs : List Nat} {g : Nat} {c : Array Value} {t : TypeId} (h : RRdo w s xs) (hbox : w.heap[g]? = some (.cells c t (0, 0))) (ht : t ≠ 3) (o : Nat) (u : Value) : RRdo (w.setCell ⟨g, o, none⟩ u) s xs := by
 rcases h with h | ⟨b, off, cs, e, h1, h2⟩
 · exact Or.inl h
 · refine Or.inr ⟨b, off, cs, e, (Below.heap_setCell _ _ _ _ ?_).trans h1, h2⟩
   intro e2
   simp only at e2
   unfold RBlk at h1
   subst e2
   rw [hbox] at h1
   simp at h1
   exact ht h1.2
set_option maxHeartbeats 2000000 in
theorem dI_ (w : World) (s : Option Addr) (n cap : Nat) (xs : List Nat) (hn : xs.length = n) (hx : RRdo w s xs) (hnc : n ≤ cap) (bn : n ≤ 1099511627776) (dx : Dig D xs) :
    Calls Tryz.prog 97 #[.slice s n cap] w (bJ_ w (val D xs)) := by
 have Hn := H_ hn
 have hgw0 := wg_ w (.cells #[.slice none 0 0] 34) none
 have hbox0 := f_ w (.cells #[.slice none 0 0] 34) w.heap.size rfl
 obtain ⟨cb, fb⟩ := j_ hbox0
 have hx0 := hx.kept hgw0
 clear hn
 go_enter Tryz.func97, Tryz.ntmps97
 go_wp2_with fail
 generalize (w.alloc (.cells #[.slice none 0 0] 34)) = w0 at *
 go_loopw [3] (fun i wr => ∃ (k : Nat), k ≤ n ∧ i = .int .i64 k ∧ w0 = wr ∧ Hid (val D (xs.take k) = val D xs)) (fun i _ => (intOf i).toNat)
 case atStart => exact ⟨n, Nat.le_refl _, rfl, rfl, by show _ = _; rw [← Hn.out, List.take_length]⟩
 case round =>
  obtain ⟨k, hk, rfl, rfl, hv⟩ := hrel
  have hF : Hid (Top (xs.take k) → bJ_ w (val D xs) (.returned (.agg #[.slice s k cap])) (w0.setCell ⟨w.heap.size, 0, none⟩ (.slice s k cap))) := by
   intro ht
   exact ⟨_, rfl, ⟨s, k, cap, xs.take k, rfl, by rw [List.length_take, Hn.out]; omega, by omega, (hx0.take k).set_other hbox0 (by decide) 0 _, ht, dx.take k, hv.out⟩, s_ hgw0 (q_ (h_ _ _) _ _) (Nat.le_refl _)⟩
  by_cases h0 : k = 0
  · subst h0
    have hF2 := H_ (hF.out (by intro x hx; simp at hx))
    clear hF
    go_wp2_with fail
    exact bodyPost_ret (v := .agg #[.slice s 0 cap]) (by simp [results, Tryz.results97, go_sem, cb]) rfl hF2.out
  · obtain ⟨j, rfl⟩ : ∃ j, k = j + 1 := ⟨k - 1, by omega⟩
    clear h0
    obtain ⟨b1, o1, cs1, rfl, hb1, hat1⟩ := hx0.get j (by rw [Hn.out]; omega)
    obtain ⟨x, ex⟩ : ∃ x, xs[j]'(by rw [Hn.out]; omega) = x := ⟨_, rfl⟩
    have c1 : w0.cell? ⟨b1, o1 + j, none⟩ = some (.int .i64 (x : Int)) := by
     rw [hb1.cell, hat1 j (by rw [Hn.out]; omega), ex]; rfl
    have EX := H_ ex
    clear ex
    by_cases hz : x = 0
    · subst hz
      clear hF
      go_wp2_with fail
      go_roundw
      case rel => exact ⟨j, by omega, by go_num, by trivial, by show _ = _; rw [← hv.out, w_ D xs j (by rw [Hn.out]; omega), EX.out]; omega⟩
      case measure => simp [intOf]
    · have t : ((x : Int) == 0) = false := beq_eq_false_iff_ne.2 (by omega)
      have hF2 := H_ (hF.out (fa_ xs j (by rw [Hn.out]; omega) (by rw [EX.out]; exact hz)))
      clear hF
      go_wp2_with fail
      exact bodyPost_ret (v := .agg #[.slice (some ⟨b1, o1, none⟩) (j + 1) cap]) (by simp [results, Tryz.results97, go_sem, cb]) rfl hF2.out
theorem Tryz.infoI64 : (Tryz.prog.info? 3).map (fun i => (i.zero, i.size, i.bytes)) = some (some (.int .i64 0), 1, 8) := by kernel_rfl
theorem aI_ : ∃ i, Tryz.prog.info? 3 = some i ∧ i.zero = some (.int .i64 0) ∧ i.size = 1 ∧ i.bytes = 8 := by
 obtain ⟨i, hi, he⟩ := Option.map_eq_some_iff.1 Tryz.infoI64
 exact ⟨i, hi, congrArg Prod.fst he, congrArg (fun x => x.2.1) he, congrArg (fun x => x.2.2) he⟩
theorem cw_ {d : Nat} : ∀ u ∈ ([iv d] : List Value), u.oneCell' = true := by intro u hu; simp at hu; subst hu; rfl
theorem be_ {w : World} {base : Nat} {s : Option Addr} {n cap : Nat} {xs : List Nat} (h : w.ownsRow base 3 1 (.slice s n cap) n (xs.map iv)) : RRdo w s xs ∧ n ≤ cap ∧ xs.length = n := by
 obtain ⟨h1, ⟨e, h2⟩ | ⟨g, cap', cur, e, hg, hb, hc, hm, hs, ht⟩⟩ := h
 · cases e
   rw [List.length_map] at h1
   exact ⟨Or.inl (List.length_eq_zero_iff.1 (by omega)), by omega, by omega⟩
 · cases e
   rw [List.length_map, Nat.mul_one] at h1
   refine ⟨Or.inr ⟨g, 0, cur, rfl, hb, fun i hi => ?_⟩, hc, h1⟩
   have h3 : (cur.toList.take (n * 1))[i]? = (xs.map iv)[i]? := by rw [ht]
   rw [Nat.mul_one, List.getElem?_take, if_pos (by omega), Array.getElem?_toList, List.getElem?_map, List.getElem?_eq_getElem hi] at h3
   rw [Nat.zero_add]; exact h3
theorem aU_ {w : World} {base : Nat} {v : Value} {n : Nat} {xs : List Value} {t : TypeId} (h : w.ownsRow base t 1 v n xs) (o : Obj) : (w.alloc o).ownsRow base t 1 v n xs := by
 obtain ⟨h1, h2 | ⟨g, cap', cur, e, hg, hb, hr⟩⟩ := h
 · exact ⟨h1, Or.inl h2⟩
 · exact ⟨h1, Or.inr ⟨g, cap', cur, e, hg, (Below.heap_alloc w o g (Array.getElem?_eq_some_iff.1 hb).1).trans hb, hr⟩⟩
theorem aG_ {w w' : World} {base n : Nat} {v : Value} {xs : List Value} {t : TypeId} (h : w.ownsRow base t 1 v n xs) (hg : w.grownBy w' v.ownBlock) (hs : base ≤ w.heap.size) : Below base w w' := by
 obtain ⟨h1, ⟨e, _⟩ | ⟨g, cap', cur, e, hg', hb, hr⟩⟩ := h
 · subst e; exact L_ hg hs
 · subst e; exact aF_ (g := g) hg hg' hs
theorem jV_ {v x n k : Nat} (h : v + x * D ^ k = n) (hx : 0 < x) (hn : n < B) : k < 64 := by
 have h1 : D ^ k ≤ x * D ^ k := Nat.le_mul_of_pos_left _ hx
 have h2 : 2 ^ k ≤ D ^ k := Nat.pow_le_pow_left (by unfold D; omega) k
 rcases Nat.lt_or_ge k 64 with h3 | h3
 · exact h3
 · have : 2 ^ 64 ≤ 2 ^ k := Nat.pow_le_pow_right (by omega) h3
   have : B = 2 ^ 64 := by decide
   omega
theorem ld_ {v x p d q : Nat} (hd : x % 10000 = d) (hq : x / 10000 = q) : v + p * d + q * (p * D) = v + x * p := by
 have := Nat.div_add_mod x 10000
 rw [hd, hq] at this
 rw [← this]
 unfold D
 grind
theorem fb_ {ds : List Nat} {d : Nat} (h : d ≠ 0) : Top (ds ++ [d]) := by
 intro x hx
 rw [List.getLast?_append] at hx
 simp at hx
 omega
set_option maxHeartbeats 4000000 in
theorem fe_ (w : World) (n : Nat) (hn : n < B) :
    Calls Tryz.prog 74 #[.int .u64 (n : Int)] w (bJ_ w n) := by
 obtain ⟨i1, hi, hz0, hz1, hz2⟩ := aI_
 have HN := H_ hn
 have hgw0 := wg_ w (.cells #[.slice none 0 0] 34) none
 have hbox0 := f_ w (.cells #[.slice none 0 0] 34) w.heap.size rfl
 have hs0 : w.heap.size + 1 ≤ (w.alloc (.cells #[.slice none 0 0] 34)).heap.size := by simp
 go_enter Tryz.func74, Tryz.ntmps74
 go_wp2_with fail
 generalize (w.alloc (.cells #[.slice none 0 0] 34)) = w0 at *
 go_loopg [0, 3] n (fun gh a b wr => ∃ (x : Nat) (sl : Option Addr) (nl cl : Nat) (ds : List Nat), a = .int .u64 x ∧ b = .slice sl nl cl ∧ x ≤ gh ∧ Hid (x < B) ∧ wr.ownsRow (w.heap.size + 1) 3 1 (.slice sl nl cl) nl (ds.map iv) ∧ Hid (ds.length = nl) ∧ Dig D ds ∧ Hid (x = 0 → Top ds) ∧ Hid (val D ds + x * D ^ nl = n) ∧ Below (w.heap.size + 1) w0 wr)
 case atStart => exact ⟨n, none, 0, 0, [], rfl, rfl, Nat.le_refl _, HN, ⟨rfl, Or.inl ⟨rfl, rfl⟩⟩, rfl, Dig.nil _, fun _ x hx => by simp at hx, by show _ = _; simp [val], Below.refl _ _⟩
 case round =>
  obtain ⟨x, sl, nl, cl, ds, rfl, rfl, hgh, hxB, hown, hdl, hdd, htp, hv, hbl⟩ := hrel
  by_cases h0 : x = 0
  · subst h0
    obtain ⟨hrd, hcap, _⟩ := be_ hown
    have hbox := am_ hbl hbox0 (by omega)
    obtain ⟨cb, fb⟩ := j_ hbox
    have hF : Hid (bJ_ w n (.returned (.agg #[.slice sl nl cl])) (wr.setCell ⟨w.heap.size, 0, none⟩ (.slice sl nl cl))) :=
     ⟨_, rfl, ⟨sl, nl, cl, ds, rfl, hdl.out, hcap, hrd.set_other hbox (by decide) 0 _, htp.out rfl, hdd, by have := hv.out; omega⟩, s_ (M_ hgw0 hbl (by omega)) (q_ (h_ _ _) _ _) (Nat.le_refl _)⟩
    clear hown hbl hbox hv htp
    go_wp2_with fail
    exact bodyPost_ret (v := .agg #[.slice sl nl cl]) (by simp [results, Tryz.results74, go_sem, cb]) rfl hF.out
  · have f1 : decide ((0 : Int) < (x : Int)) = true := decide_eq_true (by omega)
    have hk := jV_ hv.out (by omega) HN.out
    obtain ⟨d, hd⟩ : ∃ d, x % 10000 = d := ⟨_, rfl⟩
    obtain ⟨q, hq⟩ : ∃ q, x / 10000 = q := ⟨_, rfl⟩
    have hd1 : d < 10000 := by omega
    have hqx : q < x := by omega
    have e1 : (x : Int) % 10000 = (d : Int) := by omega
    have e2 : (x : Int) / 10000 = (q : Int) := by omega
    have hqB : Hid (q < B) := Nat.lt_trans hqx hxB.out
    have htp2 : Hid (q = 0 → Top (ds ++ [d])) := fun e => fb_ (by omega)
    have hvn : Hid (val D (ds ++ [d]) + q * D ^ (nl + 1) = n) := by
     show _ = _
     rw [G_, hdl.out, Nat.pow_succ, ld_ hd hq]; exact hv.out
    have hownA := aU_ hown (.cells #[iv d] 3)
    have hnews : ∀ j u, ([iv d] : List Value)[j]? = some u → (wr.alloc (.cells #[iv d] 3)).cell? ((⟨wr.heap.size, 0, none⟩ : Addr).add j) = some u := World.news_of_block (heap_alloc_new wr _)
    have hsr : w.heap.size + 1 ≤ wr.heap.size := by have := hbl.size; omega
    have hsi : w.heap.size + 1 ≤ (wr.alloc (.cells #[iv d] 3)).heap.size := by simp; omega
    have hblA : Below (w.heap.size + 1) w0 (wr.alloc (.cells #[iv d] 3)) := hbl.trans (L_ (wg_ _ _ _) hsr)
    clear hd hq hown hbl htp hv
    go_wp2_with (at_builtin; refine wpList_append_lies _ rfl _ _ _ rfl (w.heap.size + 1) 3 i1 (.int .i64 0) 1 8 Tryz.underlying32 hi hz0 hz1 hz2 rfl (by omega) (.slice sl nl cl) nl (ds.map iv) rfl hownA ⟨wr.heap.size, 0, none⟩ 1 1 [iv d] rfl rfl hnews cw_ (by omega) (by unfold maxLen; omega) (by omega) hsi (wr.heap.size + 1) (by simp) ?_; intro g2 cap2 w5 hown5 hgrow hat9 hlt9)
    have hbl5 := hblA.trans (aG_ hownA hgrow hsi)
    have hmap : ds.map iv ++ [iv d] = (ds ++ [d]).map iv := by rw [List.map_append]; rfl
    rw [hmap] at hown5
    have hl5 : Hid ((ds ++ [d]).length = nl + 1) := by show _ = _; rw [List.length_append, hdl.out]; rfl
    clear hgrow hownA hnews hblA hmap
    go_roundg q
    case measure => omega
    case rel => exact ⟨q, _, nl + 1, cap2, ds ++ [d], (by first | rfl | rw [Mul64.wrapN q hqB.out]), rfl, Nat.le_refl _, hqB, hown5, hl5, hdd.snoc hd1, htp2, hvn, hbl5⟩
theorem ip_ {xs : List Nat} {n K : Nat} (ht : Top xs) (hn : xs.length = n) (h : val D xs < D ^ K) : n ≤ K := by
 rcases Nat.lt_or_ge K n with h1 | h1
 · have h2 := eH_ D xs (by rintro rfl; simp at hn; omega) ht
   have h3 : D ^ K ≤ D ^ (xs.length - 1) := Nat.pow_le_pow_right bi_ (by omega)
   omega
 · exact h1
theorem ir_ {v c x y p d q s : Nat} (h : v + c * p = s) (hd : (c + x + y) % 10000 = d) (hq : (c + x + y) / 10000 = q) : v + p * d + q * (p * D) = s + p * x + p * y := by
 have := Nat.div_add_mod (c + x + y) 10000
 rw [hd, hq] at this
 rw [← h]
 have h2 : p * d + q * (p * D) = p * (c + x + y) := by rw [← this]; unfold D; grind
 have h3 : p * (c + x + y) = c * p + p * x + p * y := by grind
 omega
theorem at_ (xs : List Nat) (k : Nat) : val D (xs.take (k + 1)) = val D (xs.take k) + D ^ k * xs.getD k 0 := by
 rcases Nat.lt_or_ge k xs.length with h | h
 · rw [w_ D xs k h, List.getD_eq_getElem?_getD, List.getElem?_eq_getElem h]; rfl
 · rw [List.take_of_length_le (by omega), List.take_of_length_le (by omega), List.getD_eq_getElem?_getD, List.getElem?_eq_none (by omega)]; simp
theorem gX_ {xs : List Nat} {k : Nat} (ht : Top xs) (h : xs.length = k + 1) : xs.getD k 0 ≠ 0 := by
 rw [List.getD_eq_getElem?_getD, List.getElem?_eq_getElem (by omega)]
 refine ht _ ?_
 have e : xs.length - 1 = k := by omega
 rw [List.getLast?_eq_getElem?, e, List.getElem?_eq_getElem (by omega)]; rfl
theorem bz_ {xs : List Nat} (hd : Dig D xs) (k : Nat) : xs.getD k 0 < 10000 := hd.getD bi_ k
theorem fj_ {xs : List Nat} {k n : Nat} (hn : xs.length = n) (h : n ≤ k) : xs.getD k 0 = 0 := by
 rw [List.getD_eq_getElem?_getD, List.getElem?_eq_none (by omega)]; rfl
theorem ev_ {w : World} {s : Option Addr} {xs : List Nat} {n : Nat} (h : RRdo w s xs) (hn : xs.length = n) (k : Nat) (hk : k < n) : ∃ b o, s = some ⟨b, o, none⟩ ∧ w.cell? ⟨b, o + k, none⟩ = some (.int .i64 (xs.getD k 0 : Int)) := by
 obtain ⟨b, o, cs, e, h1, h2⟩ := h.get k (by omega)
 refine ⟨b, o, e, ?_⟩
 rw [h1.cell, h2 k (by omega), List.getD_eq_getElem?_getD, List.getElem?_eq_getElem (by omega)]; rfl
theorem RRdo.below {w w' : World} {N : Nat} {s : Option Addr} {xs : List Nat} (h : RRdo w s xs) (hb : Below N w w') (hN : w.heap.size ≤ N) : RRdo w' s xs := by
 rcases h with h | ⟨b, off, cs, e, h1, h2⟩
 · exact Or.inl h
 · exact Or.inr ⟨b, off, cs, e, (hb.block b (Nat.lt_of_lt_of_le h1.lt hN)).trans h1, h2⟩
set_option maxHeartbeats 8000000 in
theorem fg_ (w : World) (va vb : Value) (a b : Nat) (ha : RefV w va a) (hb : RefV w vb b) (ba : a < D ^ 1000000) (bb : b < D ^ 1000000) :
    Calls Tryz.prog 73 #[va, vb] w (bJ_ w (a + b)) := by
 obtain ⟨sa, n, cx, xs, rfl, hn, hnc, hx, tx, dx, rfl⟩ := ha
 obtain ⟨sb, m, cy, ys, rfl, hm, hmc, hy, ty, dy, rfl⟩ := hb
 have Hn := H_ hn
 have Hm := H_ hm
 have hn6 : n ≤ 1000000 := ip_ tx hn ba
 have hm6 : m ≤ 1000000 := ip_ ty hm bb
 obtain ⟨i1, hi, hz0, hz1, hz2⟩ := aI_
 have hgw0 : w.grownBy (((w.alloc (.cells #[.slice sa n cx] 34)).alloc (.cells #[.slice sb m cy] 34)).alloc (.cells #[.slice none 0 0] 34)) none := l_ (l_ (wg_ _ _ _) _) _
 have hboxr := f_ ((w.alloc (.cells #[.slice sa n cx] 34)).alloc (.cells #[.slice sb m cy] 34)) (.cells #[.slice none 0 0] 34) (w.heap.size + 1 + 1) (by simp)
 have hboxb := (Below.heap_alloc _ (.cells #[.slice none 0 0] 34) (w.heap.size + 1) (by simp)).trans (f_ (w.alloc (.cells #[.slice sa n cx] 34)) (.cells #[.slice sb m cy] 34) (w.heap.size + 1) (by simp))
 have hboxa := ((Below.heap_alloc _ (.cells #[.slice none 0 0] 34) w.heap.size (by simp; omega)).trans (Below.heap_alloc _ (.cells #[.slice sb m cy] 34) w.heap.size (by simp))).trans (f_ w (.cells #[.slice sa n cx] 34) w.heap.size rfl)
 have hs0 : (((w.alloc (.cells #[.slice sa n cx] 34)).alloc (.cells #[.slice sb m cy] 34)).alloc (.cells #[.slice none 0 0] 34)).heap.size = w.heap.size + 1 + 1 + 1 := by simp
 obtain ⟨N, hN⟩ : ∃ N, N = w.heap.size + 1 + 1 + 1 := ⟨_, rfl⟩
 have hx0 := hx.kept hgw0
 have hy0 := hy.kept hgw0
 clear hn hm ba bb hx hy
 go_enter Tryz.func73, Tryz.ntmps73
 go_wp2_with fail
 generalize (((w.alloc (.cells #[.slice sa n cx] 34)).alloc (.cells #[.slice sb m cy] 34)).alloc (.cells #[.slice none 0 0] 34)) = w0 at *
 go_loopg [5, 6, 7] (max n m + 1) (fun gh s c i wr => ∃ (k cc : Nat) (sl : Option Addr) (cl : Nat) (ds : List Nat), s = .slice sl k cl ∧ c = .int .i64 cc ∧ i = .int .i64 k ∧ cc ≤ 1 ∧ k ≤ max n m + 1 ∧ (k = max n m + 1 → cc = 0) ∧ max n m + 1 - k ≤ gh ∧ wr.ownsRow N 3 1 (.slice sl k cl) k (ds.map iv) ∧ Hid (ds.length = k) ∧ Dig D ds ∧ Hid (n ≤ k → m ≤ k → cc = 0 → Top ds) ∧ Hid (val D ds + cc * D ^ k = val D (xs.take k) + val D (ys.take k)) ∧ Below N w0 wr)
 case atStart => exact ⟨0, 0, none, 0, [], rfl, rfl, rfl, by omega, by omega, by omega, by omega, ⟨rfl, Or.inl ⟨rfl, rfl⟩⟩, rfl, Dig.nil _, fun _ _ _ x hx => by simp at hx, by show _ = _; simp [val], Below.refl _ _⟩
 case round =>
  obtain ⟨k, cc, sl, cl, ds, rfl, rfl, rfl, hc1, hkm, hkc, hgh, hown, hdl, hdd, htp, hv, hbl⟩ := hrel
  obtain ⟨ca, fa⟩ := j_ (am_ hbl hboxa (by omega))
  obtain ⟨cb, fb⟩ := j_ (am_ hbl hboxb (by omega))
  have hboxr1 := am_ hbl hboxr (by omega)
  obtain ⟨cr, fr⟩ := j_ hboxr1
  have hsr : N ≤ wr.heap.size := by have := hbl.size; omega
  have hxr : RRdo wr sa xs := hx0.below hbl (by omega)
  have hyr : RRdo wr sb ys := hy0.below hbl (by omega)
  by_cases hend : n ≤ k ∧ m ≤ k ∧ cc = 0
  · obtain ⟨hnk, hmk, rfl⟩ := hend
    have f1 : decide ((k : Int) < (n : Int)) = false := decide_eq_false (by omega)
    have f2 : decide ((k : Int) < (m : Int)) = false := decide_eq_false (by omega)
    obtain ⟨hrd, hcap, _⟩ := be_ hown
    have hF : Hid (bJ_ w (val D xs + val D ys) (.returned (.agg #[.slice sl k cl])) (wr.setCell ⟨w.heap.size + 1 + 1, 0, none⟩ (.slice sl k cl))) := by
     refine ⟨_, rfl, ⟨sl, k, cl, ds, rfl, hdl.out, hcap, hrd.set_other hboxr1 (by decide) 0 _, htp.out hnk hmk rfl, hdd, ?_⟩, s_ (M_ hgw0 hbl (by omega)) (q_ (h_ _ _) _ _) (by omega)⟩
     have := hv.out
     rw [List.take_of_length_le (by rw [Hn.out]; exact hnk), List.take_of_length_le (by rw [Hm.out]; exact hmk)] at this
     omega
    clear hown hbl hboxr1 hv htp hxr hyr
    go_wp2_with fail
    exact bodyPost_ret (v := .agg #[.slice sl k cl]) (by simp [results, Tryz.results73, go_sem, cr]) rfl hF.out
  · obtain ⟨x, hxk⟩ : ∃ x, xs.getD k 0 = x := ⟨_, rfl⟩
    obtain ⟨y, hyk⟩ : ∃ y, ys.getD k 0 = y := ⟨_, rfl⟩
    have hx4 : x < 10000 := hxk ▸ bz_ dx k
    have hy4 : y < 10000 := hyk ▸ bz_ dy k
    obtain ⟨d, hd⟩ : ∃ d, (cc + x + y) % 10000 = d := ⟨_, rfl⟩
    obtain ⟨q, hq⟩ : ∃ q, (cc + x + y) / 10000 = q := ⟨_, rfl⟩
    have hvn : Hid (val D (ds ++ [d]) + q * D ^ (k + 1) = val D (xs.take (k + 1)) + val D (ys.take (k + 1))) := by
     show _ = _
     rw [G_, hdl.out, Nat.pow_succ, ir_ hv.out hd hq, at_, at_, hxk, hyk]; omega
    have hxo : n ≤ k → x = 0 := fun h => by rw [← hxk]; exact fj_ Hn.out h
    have hyo : m ≤ k → y = 0 := fun h => by rw [← hyk]; exact fj_ Hm.out h
    have hxt : n = k + 1 → x ≠ 0 := fun h => by rw [← hxk]; exact gX_ tx (by rw [Hn.out]; exact h)
    have hyt : m = k + 1 → y ≠ 0 := fun h => by rw [← hyk]; exact gX_ ty (by rw [Hm.out]; exact h)
    have htp2 : Hid (n ≤ k + 1 → m ≤ k + 1 → q = 0 → Top (ds ++ [d])) := fun h1 h2 h3 => fb_ (by omega)
    have hk2 : k < max n m + 1 := by omega
    have hk3 : k + 1 = max n m + 1 → q = 0 := by omega
    have hd4 : d < 10000 := by omega
    have hq1 : q ≤ 1 := by omega
    have hownA := aU_ hown (.cells #[iv d] 3)
    have hnews : ∀ j u, ([iv d] : List Value)[j]? = some u → (wr.alloc (.cells #[iv d] 3)).cell? ((⟨wr.heap.size, 0, none⟩ : Addr).add j) = some u := World.news_of_block (heap_alloc_new wr _)
    have hsi : N ≤ (wr.alloc (.cells #[iv d] 3)).heap.size := by simp; omega
    have hblA : Below N w0 (wr.alloc (.cells #[iv d] 3)) := hbl.trans (L_ (wg_ _ _ _) hsr)
    have HX := H_ hxk
    have HY := H_ hyk
    clear hxk hyk hxt hyt hown hbl hv htp hboxr1 hkc
    by_cases hkn : k < n <;> by_cases hkm2 : k < m
    ·
     obtain ⟨b1, o1, rfl, c1⟩ := ev_ hxr Hn.out k (by omega); rw [HX.out] at c1; have f1 : decide ((k : Int) < (n : Int)) = true := decide_eq_true (by omega)
     obtain ⟨b2, o2, rfl, c2⟩ := ev_ hyr Hm.out k (by omega); rw [HY.out] at c2; have f2 : decide ((k : Int) < (m : Int)) = true := decide_eq_true (by omega)
     have e1 : ((cc : Int) + (x : Int) + (y : Int)) % 10000 = (d : Int) := by omega
     have e2 : ((cc : Int) + (x : Int) + (y : Int)) / 10000 = (q : Int) := by omega
     clear hd hq hxo hyo
     go_wp2_with (at_builtin; refine wpList_append_lies _ rfl _ _ _ rfl N 3 i1 (.int .i64 0) 1 8 Tryz.underlying32 hi hz0 hz1 hz2 rfl (by omega) (.slice sl k cl) k (ds.map iv) rfl hownA ⟨wr.heap.size, 0, none⟩ 1 1 [iv d] rfl rfl hnews cw_ (by omega) (by unfold maxLen; omega) (by omega) hsi (wr.heap.size + 1) (by simp) ?_; intro g2 cap2 w5 hown5 hgrow hat9 hlt9)
     have hbl5 := hblA.trans (aG_ hownA hgrow hsi)
     have hmap : ds.map iv ++ [iv d] = (ds ++ [d]).map iv := by rw [List.map_append]; rfl
     rw [hmap] at hown5
     have hl5 : Hid ((ds ++ [d]).length = k + 1) := by show _ = _; rw [List.length_append, hdl.out]; rfl
     clear hgrow hownA hnews hblA hmap
     go_roundg (max n m - k)
     case measure => omega
     case rel => exact ⟨k + 1, q, _, cap2, ds ++ [d], rfl, (by first | rfl | rw [e2]), by go_num, hq1, by omega, hk3, by omega, hown5, hl5, hdd.snoc hd4, htp2, hvn, hbl5⟩
    ·
     obtain ⟨b1, o1, rfl, c1⟩ := ev_ hxr Hn.out k (by omega); rw [HX.out] at c1; have f1 : decide ((k : Int) < (n : Int)) = true := decide_eq_true (by omega)
     have f2 : decide ((k : Int) < (m : Int)) = false := decide_eq_false (by omega)
     have y00 := hyo (by omega)
     have e1 : ((cc : Int) + (x : Int)) % 10000 = (d : Int) := by omega
     have e2 : ((cc : Int) + (x : Int)) / 10000 = (q : Int) := by omega
     clear hd hq hxo hyo
     go_wp2_with (at_builtin; refine wpList_append_lies _ rfl _ _ _ rfl N 3 i1 (.int .i64 0) 1 8 Tryz.underlying32 hi hz0 hz1 hz2 rfl (by omega) (.slice sl k cl) k (ds.map iv) rfl hownA ⟨wr.heap.size, 0, none⟩ 1 1 [iv d] rfl rfl hnews cw_ (by omega) (by unfold maxLen; omega) (by omega) hsi (wr.heap.size + 1) (by simp) ?_; intro g2 cap2 w5 hown5 hgrow hat9 hlt9)
     have hbl5 := hblA.trans (aG_ hownA hgrow hsi)
     have hmap : ds.map iv ++ [iv d] = (ds ++ [d]).map iv := by rw [List.map_append]; rfl
     rw [hmap] at hown5
     have hl5 : Hid ((ds ++ [d]).length = k + 1) := by show _ = _; rw [List.length_append, hdl.out]; rfl
     clear hgrow hownA hnews hblA hmap
     go_roundg (max n m - k)
     case measure => omega
     case rel => exact ⟨k + 1, q, _, cap2, ds ++ [d], rfl, (by first | rfl | rw [e2]), by go_num, hq1, by omega, hk3, by omega, hown5, hl5, hdd.snoc hd4, htp2, hvn, hbl5⟩
    ·
     have f1 : decide ((k : Int) < (n : Int)) = false := decide_eq_false (by omega)
     obtain ⟨b2, o2, rfl, c2⟩ := ev_ hyr Hm.out k (by omega); rw [HY.out] at c2; have f2 : decide ((k : Int) < (m : Int)) = true := decide_eq_true (by omega)
     have x00 := hxo (by omega)
     have e1 : ((cc : Int) + (y : Int)) % 10000 = (d : Int) := by omega
     have e2 : ((cc : Int) + (y : Int)) / 10000 = (q : Int) := by omega
     clear hd hq hxo hyo
     go_wp2_with (at_builtin; refine wpList_append_lies _ rfl _ _ _ rfl N 3 i1 (.int .i64 0) 1 8 Tryz.underlying32 hi hz0 hz1 hz2 rfl (by omega) (.slice sl k cl) k (ds.map iv) rfl hownA ⟨wr.heap.size, 0, none⟩ 1 1 [iv d] rfl rfl hnews cw_ (by omega) (by unfold maxLen; omega) (by omega) hsi (wr.heap.size + 1) (by simp) ?_; intro g2 cap2 w5 hown5 hgrow hat9 hlt9)
     have hbl5 := hblA.trans (aG_ hownA hgrow hsi)
     have hmap : ds.map iv ++ [iv d] = (ds ++ [d]).map iv := by rw [List.map_append]; rfl
     rw [hmap] at hown5
     have hl5 : Hid ((ds ++ [d]).length = k + 1) := by show _ = _; rw [List.length_append, hdl.out]; rfl
     clear hgrow hownA hnews hblA hmap
     go_roundg (max n m - k)
     case measure => omega
     case rel => exact ⟨k + 1, q, _, cap2, ds ++ [d], rfl, (by first | rfl | rw [e2]), by go_num, hq1, by omega, hk3, by omega, hown5, hl5, hdd.snoc hd4, htp2, hvn, hbl5⟩
    ·
     have f1 : decide ((k : Int) < (n : Int)) = false := decide_eq_false (by omega)
     have f2 : decide ((k : Int) < (m : Int)) = false := decide_eq_false (by omega)
     have y00 := hyo (by omega)
     have x00 := hxo (by omega)
     obtain rfl : cc = 1 := by omega
     subst x00
     subst y00
     obtain rfl : d = 1 := by omega
     obtain rfl : q = 0 := by omega
     have e0 : iv 1 = .int .i64 1 := rfl
     rw [e0] at hownA hnews hblA hsi
     clear hd hq hxo hyo
     go_wp2_with (at_builtin; refine wpList_append_lies _ rfl _ _ _ rfl N 3 i1 (.int .i64 0) 1 8 Tryz.underlying32 hi hz0 hz1 hz2 rfl (by omega) (.slice sl k cl) k (ds.map iv) rfl hownA ⟨wr.heap.size, 0, none⟩ 1 1 [Value.int .i64 1] rfl rfl hnews cw_ (by omega) (by unfold maxLen; omega) (by omega) hsi (wr.heap.size + 1) (by simp) ?_; intro g2 cap2 w5 hown5 hgrow hat9 hlt9)
     have hbl5 := hblA.trans (aG_ hownA hgrow hsi)
     have hmap : ds.map iv ++ [Value.int .i64 1] = (ds ++ [1]).map iv := by rw [List.map_append]; rfl
     rw [hmap] at hown5
     have hl5 : Hid ((ds ++ [1]).length = k + 1) := by show _ = _; rw [List.length_append, hdl.out]; rfl
     clear hgrow hownA hnews hblA hmap
     go_roundg (max n m - k)
     case measure => omega
     case rel => exact ⟨k + 1, 0, _, cap2, ds ++ [1], rfl, (by first | rfl | rw [e2]), by go_num, hq1, by omega, fun _ => rfl, by omega, hown5, hl5, hdd.snoc hd4, fun a b _ => (show Top (ds ++ [1]) from fb_ (by omega)), hvn, hbl5⟩
end Go.Proofs.YtgbbdgioohaknaaGreatDoor
