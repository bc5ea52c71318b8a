/- Short forms of the library's steps. -/
import Derived.WalkKit
import Derived.Deep.RegionHeld3
import Derived.Lib.Hide
import Derived.Laws.AppendOwn
namespace Go.Proofs.YtgbbdgioohaknaaGreatDoor
open Go.RowKit
set_option maxRecDepth 100000
theorem n_ {a b : Prop} (x : a) (y : b) : a ∧ b := And.intro x y
theorem H_ {a : Prop} (x : a) : Hid a := Lib.hid x
theorem wg_ (w : World) (o : Obj) (row : Option Nat) : w.grownBy (w.alloc o) row := World.grownBy_alloc w o row
theorem ga_' {a b : World} (h : a.grownBy b none) (o : Obj) : a.grownBy (b.alloc o) none :=
  ⟨(World.grownBy_alloc b o none).os.trans h.os, (World.grownBy_alloc b o none).tape.trans h.tape, (World.grownBy_alloc b o none).output.trans h.output, Nat.le_trans h.size (World.grownBy_alloc b o none).size, fun i hi hr => ((World.grownBy_alloc b o none).block i (Nat.lt_of_lt_of_le hi h.size) hr).trans (h.block i hi hr)⟩
theorem hk_' {w : World} {g : Nat} {x : Obj} (h : w.heap[g]? = some x) (o : Obj) : (w.alloc o).heap[g]? = some x := by
  have hl : g < w.heap.size := (Array.getElem?_eq_some_iff.1 h).1
  show (w.heap.push o)[g]? = _
  rw [Array.getElem?_push_lt hl, ← h, Array.getElem?_eq_getElem hl]
theorem sz_' (w : World) (o : Obj) : (w.alloc o).heap.size = w.heap.size + 1 := by show (w.heap.push o).size = _; simp
theorem hn_' (w : World) (o : Obj) (g : Nat) (h : w.heap.size = g) : (w.alloc o).heap[g]? = some o := by
  subst h; show (w.heap.push o)[w.heap.size]? = _; simp
theorem en1_ (w : World) (o1 : Obj) : w.grownBy (w.alloc o1) none ∧ (w.alloc o1).heap[w.heap.size]? = some o1 :=
  ⟨World.grownBy_alloc _ _ none, hn_' _ _ _ rfl⟩
theorem en2_ (w : World) (o1 o2 : Obj) : w.grownBy ((w.alloc o1).alloc o2) none ∧ ((w.alloc o1).alloc o2).heap[w.heap.size]? = some o1 ∧ ((w.alloc o1).alloc o2).heap[w.heap.size + 1]? = some o2 :=
  ⟨ga_' (en1_ w o1).1 _, hk_' (en1_ w o1).2 _, hn_' _ _ _ (by simp only [sz_'])⟩
theorem en3_ (w : World) (o1 o2 o3 : Obj) : w.grownBy (((w.alloc o1).alloc o2).alloc o3) none ∧ (((w.alloc o1).alloc o2).alloc o3).heap[w.heap.size]? = some o1 ∧ (((w.alloc o1).alloc o2).alloc o3).heap[w.heap.size + 1]? = some o2 ∧ (((w.alloc o1).alloc o2).alloc o3).heap[w.heap.size + 1 + 1]? = some o3 :=
  ⟨ga_' (en2_ w o1 o2).1 _, hk_' (en2_ w o1 o2).2.1 _, hk_' (en2_ w o1 o2).2.2 _, hn_' _ _ _ (by simp only [sz_'])⟩
theorem en4_ (w : World) (o1 o2 o3 o4 : Obj) : w.grownBy ((((w.alloc o1).alloc o2).alloc o3).alloc o4) none ∧ ((((w.alloc o1).alloc o2).alloc o3).alloc o4).heap[w.heap.size]? = some o1 ∧ ((((w.alloc o1).alloc o2).alloc o3).alloc o4).heap[w.heap.size + 1]? = some o2 ∧ ((((w.alloc o1).alloc o2).alloc o3).alloc o4).heap[w.heap.size + 1 + 1]? = some o3 ∧ ((((w.alloc o1).alloc o2).alloc o3).alloc o4).heap[w.heap.size + 1 + 1 + 1]? = some o4 :=
  ⟨ga_' (en3_ w o1 o2 o3).1 _, hk_' (en3_ w o1 o2 o3).2.1 _, hk_' (en3_ w o1 o2 o3).2.2.1 _, hk_' (en3_ w o1 o2 o3).2.2.2 _, hn_' _ _ _ (by simp only [sz_'])⟩
theorem en5_ (w : World) (o1 o2 o3 o4 o5 : Obj) : w.grownBy (((((w.alloc o1).alloc o2).alloc o3).alloc o4).alloc o5) none ∧ (((((w.alloc o1).alloc o2).alloc o3).alloc o4).alloc o5).heap[w.heap.size]? = some o1 ∧ (((((w.alloc o1).alloc o2).alloc o3).alloc o4).alloc o5).heap[w.heap.size + 1]? = some o2 ∧ (((((w.alloc o1).alloc o2).alloc o3).alloc o4).alloc o5).heap[w.heap.size + 1 + 1]? = some o3 ∧ (((((w.alloc o1).alloc o2).alloc o3).alloc o4).alloc o5).heap[w.heap.size + 1 + 1 + 1]? = some o4 ∧ (((((w.alloc o1).alloc o2).alloc o3).alloc o4).alloc o5).heap[w.heap.size + 1 + 1 + 1 + 1]? = some o5 :=
  ⟨ga_' (en4_ w o1 o2 o3 o4).1 _, hk_' (en4_ w o1 o2 o3 o4).2.1 _, hk_' (en4_ w o1 o2 o3 o4).2.2.1 _, hk_' (en4_ w o1 o2 o3 o4).2.2.2.1 _, hk_' (en4_ w o1 o2 o3 o4).2.2.2.2 _, hn_' _ _ _ (by simp only [sz_'])⟩
theorem ly_ : (∀ (a : Act) (d : Tmp) (v : Value), a.put (some d) v = { a with tmps := a.tmps.setIfInBounds d v }) ∧ (∀ (a : Act) (v : Value), a.put none v = a) ∧ (∀ {α : Type} (l : List α) (i : Nat) (h : i < l.toArray.size), l.toArray[i] = l[i]'(by simpa using h)) ∧ (∀ {α : Type} (a : α) (l : List α) (h : 0 < (a :: l).length), (a :: l)[0] = a) ∧ (∀ {α : Type} (a : α) (l : List α) (i : Nat) (h : i + 1 < (a :: l).length), (a :: l)[i + 1] = l[i]'(Nat.lt_of_succ_lt_succ h)) ∧ (∀ {α : Type} (l : List α) (i : Nat) (a : α), l.toArray.setIfInBounds i a = (l.set i a).toArray) ∧ (∀ {α : Type} (x a : α) (l : List α), (x :: l).set 0 a = a :: l) ∧ (∀ {α : Type} (x a : α) (l : List α) (n : Nat), (x :: l).set (n + 1) a = x :: l.set n a) :=
  ⟨fun _ _ _ => rfl, fun _ _ => rfl, fun l i h => by simp, fun _ _ _ => rfl, fun _ _ _ _ => rfl, fun l i a => by simp, fun _ _ _ => rfl, fun _ _ _ _ => rfl⟩
section
variable {P : Program} {ops : Array Oper} {Q : Exit → Act → World → Prop} {md : Region.Mode} {S : World → Prop}
theorem tk_ (i : Nat) {oi : Oper} (v : Value) {fuel : Nat} {listed : Array Bool} {a : Act} {w : World} (hi : ops[i]? = some oi) (hy : ∀ w, S w → (execOp a.eval oi).run P w = .ok (.value v) w) (h : wpAnyH P md ops Q S fuel (listed.setIfInBounds i true) (a.put oi.dst v) w) (hs : Region.noSelect ops = true := by kernel_rfl) (hf : Region.free md ops listed i = true := by kernel_rfl) (hr : (Region.ready md ops listed).contains i = true := by kernel_rfl) (hQ : ∀ c a w, Q (.panic c) (a.put oi.dst v) w → Q (.panic c) a w := by exact fun _ _ _ h => h) (hw : Region.wanted oi (yielded ops a.tmps) = true := by rfl) (hS : S w := by assumption) : wpAnyH P md ops Q S (fuel + 1) listed a w :=
  wpAnyH_take hi hs hf hr hQ (Or.inl ⟨hw, hy⟩) hS h
theorem o1_ (i : Nat) {oi : Oper} {fuel : Nat} {listed : Array Bool} {a : Act} {w : World} (hi : ops[i]? = some oi) (h : ∀ K' : Act → World → Prop, Shut (∀ a w, S w → (S w → wpAnyH P md ops Q S fuel (listed.setIfInBounds i true) a w) → K' a w) → if Region.wanted oi (yielded ops a.tmps) = true then Oper.wp P oi a w K' Q else K' (a.put oi.dst undef) w) (hr : Region.ready md ops listed = [i] := by kernel_rfl) : wpAnyH P md ops Q S (fuel + 1) listed a w :=
  wpAnyH_ready hr (List.cons_ne_nil _ _) (AllReadyH.cons hi h AllReadyH.nil)
end
end Go.Proofs.YtgbbdgioohaknaaGreatDoor
