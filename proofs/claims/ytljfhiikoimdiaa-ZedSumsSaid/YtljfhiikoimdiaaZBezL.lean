/- Boxes of numbers; what Bezout answers. -/
import Derived.Test.YtljfhiikoimdiaaZBezM
import Derived.Deep.RegionHeld3
namespace Go.Proofs.Ytljfhiikoimdiaa
open Go.RowKit Mat
set_option maxRecDepth 100000
set_option linter.unusedVariables false
set_option linter.unusedSimpArgs false

theorem heap_lt {w : World} {g : Nat} {o : Obj} (h : w.heap[g]? = some o) : g < w.heap.size := (Array.getElem?_eq_some_iff.1 h).1
/-- A box that holds a number. -/
def BoxI (W : World) (p : Nat) (z : Int) : Prop := ∃ u0 u1, W.heap[p]? = some (.cells #[u0, u1] 26 (0, 0)) ∧ IntV W (.agg #[u0, u1]) z
theorem BoxI.lt {W : World} {p : Nat} {z : Int} (h : BoxI W p z) : p < W.heap.size := by
  obtain ⟨u0, u1, h1, _⟩ := h
  exact heap_lt h1
theorem BoxI.kept {W W' : World} {p : Nat} {z : Int} (h : BoxI W p z) (hg : W.grownBy W' none) : BoxI W' p z := by
  obtain ⟨u0, u1, h1, h2⟩ := h
  exact ⟨u0, u1, heap_kept hg h1, h2.kept hg⟩
theorem BoxI.open {W : World} {p : Nat} {z : Int} (h : BoxI W p z) : ∃ (s : Option Addr) (xs : List Nat) (b : Bool), W.heap[p]? = some (.cells #[.slice s xs.length xs.length, .bool b] 26 (0, 0)) ∧ IntV W (.agg #[.slice s xs.length xs.length, .bool b]) z := by
  obtain ⟨u0, u1, h1, h2⟩ := h
  obtain ⟨s, xs, b, e, h3⟩ := h2
  cases e
  exact ⟨s, xs, b, h1, s, xs, b, rfl, h3⟩
theorem NatV.set2 {w : World} {v : Value} {n : Nat} {g : Nat} {a0 a1 : Value} (h : NatV w v n) (hbox : w.heap[g]? = some (.cells #[a0, a1] 26 (0, 0))) (v0 v1 : Value) : NatV ((w.setCell ⟨g, 0, none⟩ v0).setCell ⟨g, 1, none⟩ v1) v n := by
  obtain ⟨s, xs, e, h1, h2⟩ := h
  exact ⟨s, xs, e, (h1.set_other hbox (by decide) 0 v0).set_other (heap_set_fst hbox v0) (by decide) 1 v1, h2⟩
/-- Two numbers laid into two boxes. -/
theorem lay_two {W : World} {p q : Nat} {u0 u1 v0 v1 a0 a1 b0 b1 : Value} (h1 : W.heap[p]? = some (.cells #[u0, u1] 26 (0, 0))) (h2 : W.heap[q]? = some (.cells #[v0, v1] 26 (0, 0))) (hn : p ≠ q) {S : World}
    (hS : S = ((((W.setCell ⟨p, 0, none⟩ a0).setCell ⟨p, 1, none⟩ a1).setCell ⟨q, 0, none⟩ b0).setCell ⟨q, 1, none⟩ b1).drew) :
    S.heap[p]? = some (.cells #[a0, a1] 26 (0, 0)) ∧ S.heap[q]? = some (.cells #[b0, b1] 26 (0, 0)) ∧
    (∀ k o, k ≠ p → k ≠ q → W.heap[k]? = some o → S.heap[k]? = some o) ∧ (∀ v n, IntV W v n → IntV S v n) ∧ (∀ w : World, w.grownBy W none → w.heap.size ≤ p → w.heap.size ≤ q → w.grownBy S none) := by
  subst hS
  have gd : ∀ X : World, X.grownBy X.drew none := fun X => grown_drew (grown_refl _ _)
  have k2 := heap_unset2 h2 (show q ≠ p by omega) a0 a1
  have k1 := heap_unset2 (heap_set2 h1 a0 a1) hn b0 b1
  refine ⟨heap_kept (gd _) k1, heap_kept (gd _) (heap_set2 k2 b0 b1), fun k o h3 h4 h5 => ?_, fun v n h => ?_, fun w hg hw hv => ?_⟩
  · exact heap_kept (gd _) (heap_unset2 (heap_unset2 h5 h3 a0 a1) h4 b0 b1)
  · exact ((h.set2 h1 a0 a1).set2 k2 b0 b1).kept (gd _)
  · exact grown_drew (grown_set2 (grown_set2 hg hw a0 a1) hv b0 b1)
def RetBez (w : World) (x y : Int) (e : Ending) (w' : World) : Prop := ∃ u v a b c, e = .returned (.tuple #[a, b, c]) ∧ IntV w' a (Nat.gcd x.natAbs y.natAbs : Nat) ∧ IntV w' b u ∧ IntV w' c v ∧ Hid (BGood x y (Nat.gcd x.natAbs y.natAbs : Nat) u v) ∧ w.grownBy w' none
/-- Three numbers laid into the boxes of the results. -/
theorem lay_three {w W : World} {g : Nat} {z1 z2 z3 : Int} {u0 u1 v0 v1 t0 t1 a0 a1 b0 b1 c0 c1 : Value} (hg : w.grownBy W none) (hl : w.heap.size ≤ g) (h1 : W.heap[g]? = some (.cells #[u0, u1] 26 (0, 0))) (h2 : W.heap[g + 1]? = some (.cells #[v0, v1] 26 (0, 0))) (h3 : W.heap[g + 1 + 1]? = some (.cells #[t0, t1] 26 (0, 0)))
    (i1 : IntV W (.agg #[a0, a1]) z1) (i2 : IntV W (.agg #[b0, b1]) z2) (i3 : IntV W (.agg #[c0, c1]) z3) {S : World}
    (hS : S = ((((((W.setCell ⟨g, 0, none⟩ a0).setCell ⟨g, 1, none⟩ a1).setCell ⟨g + 1, 0, none⟩ b0).setCell ⟨g + 1, 1, none⟩ b1).setCell ⟨g + 1 + 1, 0, none⟩ c0).setCell ⟨g + 1 + 1, 1, none⟩ c1).drew) :
    S.heap[g]? = some (.cells #[a0, a1] 26 (0, 0)) ∧ S.heap[g + 1]? = some (.cells #[b0, b1] 26 (0, 0)) ∧ S.heap[g + 1 + 1]? = some (.cells #[c0, c1] 26 (0, 0)) ∧
    IntV S (.agg #[a0, a1]) z1 ∧ IntV S (.agg #[b0, b1]) z2 ∧ IntV S (.agg #[c0, c1]) z3 ∧ w.grownBy S none := by
  subst hS
  have gd : ∀ X : World, X.grownBy X.drew none := fun X => grown_drew (grown_refl _ _)
  have j2 := heap_unset2 h2 (show g + 1 ≠ g by omega) a0 a1
  have j3 := heap_unset2 (heap_unset2 h3 (show g + 1 + 1 ≠ g by omega) a0 a1) (show g + 1 + 1 ≠ g + 1 by omega) b0 b1
  have j1 := heap_unset2 (heap_unset2 (heap_set2 h1 a0 a1) (show g ≠ g + 1 by omega) b0 b1) (show g ≠ g + 1 + 1 by omega) c0 c1
  have k2 := heap_unset2 (heap_set2 j2 b0 b1) (show g + 1 ≠ g + 1 + 1 by omega) c0 c1
  have all : ∀ v n, IntV W v n → IntV _ v n := fun v n h => (((h.set2 h1 a0 a1).set2 j2 b0 b1).set2 j3 c0 c1).kept (gd _)
  exact ⟨heap_kept (gd _) j1, heap_kept (gd _) k2, heap_kept (gd _) (heap_set2 j3 c0 c1), all _ _ i1, all _ _ i2, all _ _ i3, grown_drew (grown_set2 (grown_set2 (grown_set2 hg hl a0 a1) (by omega) b0 b1) (by omega) c0 c1)⟩
theorem ZFloor_nat (w : World) (va vb : Value) (G N K : Nat) (ha : IntV w va (G : Int)) (hb : IntV w vb (N : Int)) (hK : K ≤ 900000) (la : G < B ^ K) (lb : N < B ^ K) (h0 : 0 < N) :
    Calls Try.prog 38 #[va, vb] w (RetInt2E w ((G / N : Nat) : Int) ((G % N : Nat) : Int) 0) := by
  have h := ZFloor_some w va vb G N K ha hb hK (by rw [Int.natAbs_natCast]; exact la) (by rw [Int.natAbs_natCast]; exact lb) (by omega)
  rw [← Int.natCast_ediv, ← Int.natCast_emod] at h
  exact h
theorem floor_or (S y : Int) (K : Nat) (hK : K ≤ 900000) (la : S.natAbs < B ^ K) (lb : y.natAbs < B ^ K) : ∃ (r c : Int), ∀ (W : World) (va vb : Value), IntV W va S → IntV W vb y →
    Calls Try.prog 38 #[va, vb] W (RetInt2E W (if y = 0 then 0 else S / y) r c) := by
  by_cases h : y = 0
  · subst h; exact ⟨0, 5, fun W va vb h1 h2 => ZFloor_zero W va vb S h1 h2⟩
  · rw [if_neg h]; exact ⟨S % y, 0, fun W va vb h1 h2 => ZFloor_some W va vb S y K h1 h2 hK la lb h⟩
theorem BInv.end_good {x y : Int} {G : Nat} {X Y P Q : Int} (h : BInv x.natAbs y.natAbs G 0 X Y P Q) :
    (G : Int) = (Nat.gcd x.natAbs y.natAbs : Nat) ∧ BGood x y G (X * x.sign) (if y = 0 then 0 else ((G : Int) - x * (X * x.sign)) / y) := by
  obtain ⟨h1, h2, h3⟩ := h.last
  refine ⟨h1, ?_⟩
  split
  · next e => exact h2 e
  · next e => exact h3 e
end Go.Proofs.Ytljfhiikoimdiaa
