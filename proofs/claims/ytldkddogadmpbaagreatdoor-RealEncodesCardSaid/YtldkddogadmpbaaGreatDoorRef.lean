/- The document's own numbers: digits to the base of ten thousand, in slices of int. -/
import Derived.Test.YtldkddogadmpbaaGreatDoorText
namespace Go.Proofs.YtldkddogadmpbaaGreatDoor
open Go.RowKit Mat
set_option maxRecDepth 100000
set_option linter.unusedVariables false
set_option linter.unusedSimpArgs false

/-- The base of the document's own limbs. -/
def D : Nat := 10000
theorem D_pos : 0 < D := by unfold D; omega
def iv (x : Nat) : Value := .int .i64 (x : Int)
def RAt (cs : Array Value) (off : Nat) (xs : List Nat) : Prop := ∀ i (h : i < xs.length), cs[off + i]? = some (iv xs[i])
def RBlk (w : World) (b : Nat) (cs : Array Value) : Prop := w.heap[b]? = some (.cells cs 3 (0, 0))
theorem RBlk.cell {w : World} {b : Nat} {cs : Array Value} (h : RBlk w b cs) (o : Nat) : w.cell? ⟨b, o, none⟩ = cs[o]? := by
  unfold RBlk at h; simp [World.cell?, h]
theorem RBlk.frozen {w : World} {b : Nat} {cs : Array Value} (h : RBlk w b cs) (o : Nat) : w.frozen? ⟨b, o, none⟩ = false := by
  unfold RBlk at h; simp [World.frozen?, h]
theorem RBlk.lt {w : World} {b : Nat} {cs : Array Value} (h : RBlk w b cs) : b < w.heap.size := (Array.getElem?_eq_some_iff.1 h).1
theorem RBlk.kept {w w' : World} {b : Nat} {cs : Array Value} {row : Option Nat} (h : RBlk w b cs) (hg : w.grownBy w' row) (hr : some b ≠ row) : RBlk w' b cs := (hg.block b h.lt hr).trans h
theorem RAt.take {cs : Array Value} {off : Nat} {xs : List Nat} (h : RAt cs off xs) (k : Nat) : RAt cs off (xs.take k) := by
  intro i hi
  rw [List.length_take] at hi
  rw [h i (by omega), List.getElem_take]
def RRdo (w : World) (s : Option Addr) (xs : List Nat) : Prop := xs = [] ∨ ∃ (b off : Nat) (cs : Array Value), s = some ⟨b, off, none⟩ ∧ RBlk w b cs ∧ RAt cs off xs
theorem RRdo.kept {w w' : World} {s : Option Addr} {xs : List Nat} (h : RRdo w s xs) (hg : w.grownBy w' none) : RRdo w' s xs := by
  rcases h with h | ⟨b, off, cs, e, h1, h2⟩
  · exact Or.inl h
  · exact Or.inr ⟨b, off, cs, e, h1.kept hg (by simp), h2⟩
theorem RRdo.take {w : World} {s : Option Addr} {xs : List Nat} (h : RRdo w s xs) (k : Nat) : RRdo w s (xs.take k) := by
  rcases h with h | ⟨b, off, cs, e, h1, h2⟩
  · exact Or.inl (by rw [h]; simp)
  · exact Or.inr ⟨b, off, cs, e, h1, h2.take k⟩
theorem RRdo.get {w : World} {s : Option Addr} {xs : List Nat} (h : RRdo w s xs) (k : Nat) (hk : k < xs.length) : ∃ (b off : Nat) (cs : Array Value), s = some ⟨b, off, none⟩ ∧ RBlk w b cs ∧ RAt cs off xs := by
  rcases h with h | h
  · rw [h] at hk; simp at hk
  · exact h
/-- A number of the document's own. -/
def RefV (w : World) (v : Value) (n : Nat) : Prop := ∃ (s : Option Addr) (k cap : Nat) (xs : List Nat), v = .agg #[.slice s k cap] ∧ xs.length = k ∧ k ≤ cap ∧ RRdo w s xs ∧ Top xs ∧ Dig D xs ∧ val D xs = n
theorem RefV.kept {w w' : World} {v : Value} {n : Nat} (h : RefV w v n) (hg : w.grownBy w' none) : RefV w' v n := by
  obtain ⟨s, k, cap, xs, e, h1, h2, h3, h4⟩ := h
  exact ⟨s, k, cap, xs, e, h1, h2, h3.kept hg, h4⟩
def RetRef (w : World) (n : Nat) (e : Ending) (w' : World) : Prop := ∃ v, e = .returned v ∧ RefV w' v n ∧ w.grownBy w' none
theorem RRdo.set_other {w : World} {s : Option Addr} {xs : List Nat} {g : Nat} {c : Array Value} {t : TypeId} (h : RRdo w s xs) (hbox : w.heap[g]? = some (.cells c t (0, 0))) (ht : t ≠ 3) (o : Nat) (u : Value) : RRdo (w.setCell ⟨g, o, none⟩ u) s xs := by
  rcases h with h | ⟨b, off, cs, e, h1, h2⟩
  · exact Or.inl h
  · refine Or.inr ⟨b, off, cs, e, (Below.heap_setCell _ _ _ _ ?_).trans h1, h2⟩
    intro e2
    simp only at e2
    unfold RBlk at h1
    subst e2
    rw [hbox] at h1
    simp at h1
    exact ht h1.2

set_option maxHeartbeats 2000000 in
theorem rcut_any (w : World) (s : Option Addr) (n cap : Nat) (xs : List Nat) (hn : xs.length = n) (hx : RRdo w s xs) (hnc : n ≤ cap) (bn : n ≤ 1099511627776) (dx : Dig D xs) :
    Calls Tryz.prog 51 #[.slice s n cap] w (RetRef w (val D xs)) := by
  have Hn := Lib.hid hn
  have hgw0 := World.grownBy_alloc w (.cells #[.slice none 0 0] 34) none
  have hbox0 := heap_new w (.cells #[.slice none 0 0] 34) w.heap.size rfl
  obtain ⟨cb, fb⟩ := box_cell hbox0
  have hx0 := hx.kept hgw0
  clear hn
  go_enter Tryz.func51, Tryz.ntmps51
  go_wp2_with fail
  generalize (w.alloc (.cells #[.slice none 0 0] 34)) = w0 at *
  go_loopw [3] (fun i wr => ∃ (k : Nat), k ≤ n ∧ i = .int .i64 k ∧ w0 = wr ∧ Hid (val D (xs.take k) = val D xs)) (fun i _ => (intOf i).toNat)
  case atStart => exact ⟨n, Nat.le_refl _, rfl, rfl, by show _ = _; rw [← Hn.out, List.take_length]⟩
  case round =>
    obtain ⟨k, hk, rfl, rfl, hv⟩ := hrel
    have hF : Hid (Top (xs.take k) → RetRef w (val D xs) (.returned (.agg #[.slice s k cap])) (w0.setCell ⟨w.heap.size, 0, none⟩ (.slice s k cap))) := by
      intro ht
      exact ⟨_, rfl, ⟨s, k, cap, xs.take k, rfl, by rw [List.length_take, Hn.out]; omega, by omega, (hx0.take k).set_other hbox0 (by decide) 0 _, ht, dx.take k, hv.out⟩, grown_new hgw0 (grown_set (grown_refl _ _) _ _) (Nat.le_refl _)⟩
    by_cases h0 : k = 0
    · subst h0
      have hF2 := Lib.hid (hF.out (by intro x hx; simp at hx))
      clear hF
      go_wp2_with fail
      exact bodyPost_ret (v := .agg #[.slice s 0 cap]) (by simp [results, Tryz.results51, go_sem, cb]) rfl hF2.out
    · obtain ⟨j, rfl⟩ : ∃ j, k = j + 1 := ⟨k - 1, by omega⟩
      clear h0
      obtain ⟨b1, o1, cs1, rfl, hb1, hat1⟩ := hx0.get j (by rw [Hn.out]; omega)
      obtain ⟨x, ex⟩ : ∃ x, xs[j]'(by rw [Hn.out]; omega) = x := ⟨_, rfl⟩
      have c1 : w0.cell? ⟨b1, o1 + j, none⟩ = some (.int .i64 (x : Int)) := by
        rw [hb1.cell, hat1 j (by rw [Hn.out]; omega), ex]; rfl
      have EX := Lib.hid ex
      clear ex
      by_cases hz : x = 0
      · subst hz
        clear hF
        go_wp2_with fail
        go_roundw
        case rel => exact ⟨j, by omega, by go_num, by trivial, by show _ = _; rw [← hv.out, val_take_succ D xs j (by rw [Hn.out]; omega), EX.out]; omega⟩
        case measure => simp [intOf]
      · have t : ((x : Int) == 0) = false := beq_eq_false_iff_ne.2 (by omega)
        have hF2 := Lib.hid (hF.out (top_take xs j (by rw [Hn.out]; omega) (by rw [EX.out]; exact hz)))
        clear hF
        go_wp2_with fail
        exact bodyPost_ret (v := .agg #[.slice (some ⟨b1, o1, none⟩) (j + 1) cap]) (by simp [results, Tryz.results51, go_sem, cb]) rfl hF2.out
end Go.Proofs.YtldkddogadmpbaaGreatDoor
