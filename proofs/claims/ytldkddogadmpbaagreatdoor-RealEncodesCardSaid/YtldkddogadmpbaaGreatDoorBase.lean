/- Limbs in memory: what a block's cells hold, behind stores too; the calls that the model itself answers (sums and differences with a carry). -/
import Derived.Test.YtldkddogadmpbaaGreatDoorMat
import Derived.Test.YtldkddogadmpbaaGreatDoorProg
import Derived.WalkKit
import Derived.WalkLawsBesides
import Derived.WalkSpells
import Derived.Outline
import Derived.Lib.Hide
import Derived.Laws.Externs
import Derived.Deep.LoopGhost
import Derived.Deep.QuietTactic
import Derived.BigQuiet
import Derived.StillTailTactics
import Derived.Deep.RegionHeld3
namespace Go.Proofs.YtldkddogadmpbaaGreatDoor
open Go.RowKit Mat

/-- The base of the limbs. -/
def B : Nat := 18446744073709551616
theorem B_pos : 0 < B := by unfold B; omega

/-- From off on the cells hold these limbs. -/
def At (cs : Array Value) (off : Nat) (xs : List Nat) : Prop := ∀ i (h : i < xs.length), cs[off + i]? = some (.int .u64 (xs[i] : Int))

/-- The cells with limbs stored from off on. -/
def Put (cs : Array Value) (off : Nat) : List Nat → Array Value
  | [] => cs
  | y :: ys => Put (cs.setIfInBounds off (.int .u64 (y : Int))) (off + 1) ys

theorem Put_snoc (ys : List Nat) : ∀ (cs : Array Value) (off y : Nat), Put cs off (ys ++ [y]) = (Put cs off ys).setIfInBounds (off + ys.length) (.int .u64 (y : Int)) := by
  induction ys with
  | nil => intro cs off y; rfl
  | cons z ys ih => intro cs off y; show Put _ _ (ys ++ [y]) = _; rw [ih]; simp only [Put, List.length_cons]; congr 1; omega

theorem size_Put (ys : List Nat) : ∀ (cs : Array Value) (off : Nat), (Put cs off ys).size = cs.size := by
  induction ys with
  | nil => intro cs off; rfl
  | cons z ys ih => intro cs off; show (Put _ _ ys).size = _; rw [ih]; simp

theorem Put_out (ys : List Nat) : ∀ (cs : Array Value) (off j : Nat), j < off ∨ off + ys.length ≤ j → (Put cs off ys)[j]? = cs[j]? := by
  induction ys with
  | nil => intro cs off j _; rfl
  | cons z ys ih =>
    intro cs off j h
    simp only [List.length_cons] at h
    show (Put _ _ ys)[j]? = _
    rw [ih _ _ _ (by omega), Array.getElem?_setIfInBounds_ne (by omega)]

theorem Put_in (ys : List Nat) : ∀ (cs : Array Value) (off : Nat), off + ys.length ≤ cs.size → At (Put cs off ys) off ys := by
  induction ys with
  | nil => intro cs off _ i h; simp at h
  | cons z ys ih =>
    intro cs off h i hi
    simp only [List.length_cons] at h hi
    show (Put _ _ ys)[_]? = _
    cases i with
    | zero =>
      rw [Put_out _ _ _ _ (by omega)]
      simp only [Nat.add_zero, List.getElem_cons_zero]
      rw [Array.getElem?_setIfInBounds_self_of_lt (by omega)]
    | succ i =>
      have := ih (cs.setIfInBounds off (.int .u64 (z : Int))) (off + 1) (by simp; omega) i (by omega)
      rw [show off + (i + 1) = off + 1 + i from by omega]
      simpa using this

theorem At.nil (cs : Array Value) (off : Nat) : At cs off [] := fun _ h => by simp at h
theorem At.get {cs : Array Value} {off : Nat} {xs : List Nat} (h : At cs off xs) (i : Nat) (hi : i < xs.length) : cs[off + i]? = some (.int .u64 (xs[i] : Int)) := h i hi
theorem At.take {cs : Array Value} {off : Nat} {xs : List Nat} (h : At cs off xs) (k : Nat) : At cs off (xs.take k) := by
  intro i hi
  rw [List.length_take] at hi
  rw [h i (by omega), List.getElem_take]
theorem At.drop {cs : Array Value} {off : Nat} {xs : List Nat} (h : At cs off xs) (k : Nat) : At cs (off + k) (xs.drop k) := by
  intro i hi
  rw [List.length_drop] at hi
  rw [Nat.add_assoc, h (k + i) (by omega), List.getElem_drop]
theorem At.append {cs : Array Value} {off : Nat} {xs ys : List Nat} (h : At cs off xs) (k : At cs (off + xs.length) ys) : At cs off (xs ++ ys) := by
  intro i hi
  rw [List.length_append] at hi
  by_cases hx : i < xs.length
  · rw [h i hx, List.getElem_append_left hx]
  · have := k (i - xs.length) (by omega)
    rw [show off + xs.length + (i - xs.length) = off + i from by omega] at this
    rw [this, List.getElem_append_right (by omega)]
theorem At.le {cs : Array Value} {off : Nat} {xs : List Nat} (h : At cs off xs) : xs = [] ∨ off + xs.length ≤ cs.size := by
  cases e : xs with
  | nil => exact Or.inl rfl
  | cons x t =>
    right
    have := h (xs.length - 1) (by simp [e])
    have hl := (Array.getElem?_eq_some_iff.1 this).1
    simp [e] at hl ⊢; omega
theorem At.put_out {cs : Array Value} {off o : Nat} {xs ys : List Nat} (h : At cs off xs) (hd : off + xs.length ≤ o ∨ o + ys.length ≤ off) : At (Put cs o ys) off xs := by
  intro i hi
  rw [Put_out _ _ _ _ (by omega), h i hi]

/-- A block of limbs of the call's own. -/
def Blk (w : World) (b : Nat) (cs : Array Value) : Prop := w.heap[b]? = some (.cells cs 71 (0, 0))

theorem Blk.cell {w : World} {b : Nat} {cs : Array Value} (h : Blk w b cs) (o : Nat) : w.cell? ⟨b, o, none⟩ = cs[o]? := by
  unfold Blk at h; simp [World.cell?, h]
theorem Blk.frozen {w : World} {b : Nat} {cs : Array Value} (h : Blk w b cs) (o : Nat) : w.frozen? ⟨b, o, none⟩ = false := by
  unfold Blk at h; simp [World.frozen?, h]
theorem Blk.lt {w : World} {b : Nat} {cs : Array Value} (h : Blk w b cs) : b < w.heap.size := (Array.getElem?_eq_some_iff.1 h).1
theorem Blk.at {w : World} {b off : Nat} {cs : Array Value} {xs : List Nat} (h : Blk w b cs) (k : At cs off xs) (i : Nat) (hi : i < xs.length) : w.cell? ⟨b, off + i, none⟩ = some (.int .u64 (xs[i] : Int)) := by
  rw [h.cell, k i hi]
theorem Blk.setCell {w : World} {b : Nat} {cs : Array Value} (h : Blk w b cs) (o : Nat) (v : Value) : Blk (w.setCell ⟨b, o, none⟩ v) b (cs.setIfInBounds o v) := by
  unfold Blk at *
  simp [World.setCell, Array.getElem?_modify, h]
theorem Blk.kept {w w' : World} {b : Nat} {cs : Array Value} {row : Option Nat} (h : Blk w b cs) (hg : w.grownBy w' row) (hr : some b ≠ row) : Blk w' b cs := (hg.block b h.lt hr).trans h
theorem Blk.alloc {w : World} {b : Nat} {cs : Array Value} (h : Blk w b cs) (o : Obj) : Blk (w.alloc o) b cs := (Below.heap_alloc w o b h.lt).trans h
theorem Blk.drew {w : World} {b : Nat} {cs : Array Value} (h : Blk w b cs) : Blk w.drew b cs := h

theorem grown_refl (w : World) (row : Option Nat) : w.grownBy w row := ⟨rfl, rfl, rfl, Nat.le_refl _, fun _ _ _ => rfl⟩
theorem grown_trans {a b c : World} {row : Option Nat} (h : a.grownBy b row) (k : b.grownBy c row) : a.grownBy c row :=
  ⟨k.os.trans h.os, k.tape.trans h.tape, k.output.trans h.output, Nat.le_trans h.size k.size, fun i hi hr => (k.block i (Nat.lt_of_lt_of_le hi h.size) hr).trans (h.block i hi hr)⟩
/-- Writes to a block that the call itself has made are no writes to what was there. -/
theorem grown_new {a b c : World} {row : Option Nat} {g : Nat} (h : a.grownBy b row) (k : b.grownBy c (some g)) (hg : a.heap.size ≤ g) : a.grownBy c row :=
  ⟨k.os.trans h.os, k.tape.trans h.tape, k.output.trans h.output, Nat.le_trans h.size k.size, fun i hi hr => (k.block i (Nat.lt_of_lt_of_le hi h.size) (by intro e; cases e; omega)).trans (h.block i hi hr)⟩
theorem grown_any {a b : World} {row : Option Nat} (h : a.grownBy b none) : a.grownBy b row := ⟨h.os, h.tape, h.output, h.size, fun i hi _ => h.block i hi (by simp)⟩
theorem grown_alloc {a b : World} {row : Option Nat} (h : a.grownBy b row) (o : Obj) : a.grownBy (b.alloc o) row := grown_trans h (World.grownBy_alloc b o row)
theorem grown_set {a b : World} {g : Nat} (h : a.grownBy b (some g)) (o : Nat) (v : Value) : a.grownBy (b.setCell ⟨g, o, none⟩ v) (some g) :=
  grown_trans h ⟨rfl, rfl, rfl, by simp [World.setCell], fun i _ hr => Below.heap_setCell _ _ _ _ (by intro e; exact hr (by rw [e]))⟩
theorem grown_drew {a b : World} {row : Option Nat} (h : a.grownBy b row) : a.grownBy b.drew row := ⟨h.os, h.tape, h.output, h.size, h.block⟩
theorem grown_drewN (w : World) (n : Nat) (row : Option Nat) : w.grownBy (w.drewN n) row := ⟨rfl, rfl, rfl, Nat.le_refl _, fun _ _ _ => rfl⟩
theorem grown_below {a b : World} (h : a.grownBy b none) : Below a.heap.size a b := ⟨h.os, h.tape, h.output, h.size, fun k hk => h.block k hk (by simp)⟩
theorem below_grown {a b : World} (h : Below a.heap.size a b) : a.grownBy b none := ⟨h.os, h.tape, h.output, h.size, fun k hk _ => h.block k hk⟩

/-- A limb of a sum, and its carry; of a difference, and its borrow. -/
def addLo (x y c : Nat) : Nat := (x + y + c) % B
def addHi (x y c : Nat) : Nat := (x + y + c) / B
def subLo (x y c : Nat) : Nat := (x + B - y - c) % B
def subHi (x y c : Nat) : Nat := if x < y + c then 1 else 0
theorem addLo_lt (x y c : Nat) : addLo x y c < B := Nat.mod_lt _ B_pos
theorem addHi_le {x y c : Nat} (hx : x < B) (hy : y < B) (hc : c ≤ 1) : addHi x y c ≤ 1 := by
  unfold addHi; unfold B at *; omega
theorem subLo_lt (x y c : Nat) : subLo x y c < B := Nat.mod_lt _ B_pos
theorem subHi_le (x y c : Nat) : subHi x y c ≤ 1 := by unfold subHi; split <;> omega

/-- The model's entry for math/bits.Sub64. -/
def sub64Row : Array Value → Sem Value := fun args => do
  let (x, y, b) ← Extern.MathBitsCarry.three "Sub64" args
  pure (Extern.MathBitsCarry.pair ((x + Extern.MathBitsCarry.m64 - y - b) % Extern.MathBitsCarry.m64) (if x < y + b then 1 else 0))
theorem run_sub64Row {P : Program} (x y b : Nat) (hb : b ≤ 1) (w : World) :
    (sub64Row #[.int .u64 x, .int .u64 y, .int .u64 b]).run P w = .ok (.tuple #[.int .u64 (subLo x y b : Int), .int .u64 (subHi x y b : Int)]) w := by
  have : b = 0 ∨ b = 1 := by omega
  rcases this with rfl | rfl <;> rfl
theorem add64 (x y c : Nat) (hc : c ≤ 1) (w : World) :
    (callFunc 72 #[.int .u64 (x : Int), .int .u64 (y : Int), .int .u64 (c : Int)]).run Tryz.prog w = .ok (.value (.tuple #[.int .u64 (addLo x y c : Int), .int .u64 (addHi x y c : Int)])) w := by
  rw [run_callFunc_extern Tryz.func72 (by kernel_rfl) (by kernel_rfl) (by kernel_rfl) (e := add64Entry) (by kernel_rfl), run_add64 x y c (by omega) (by omega) (by omega) (by omega)]
  simp only [Result.andThen, addLo, addHi, B]
  congr 5
theorem sub64 (x y c : Nat) (hc : c ≤ 1) (w : World) :
    (callFunc 110 #[.int .u64 (x : Int), .int .u64 (y : Int), .int .u64 (c : Int)]).run Tryz.prog w = .ok (.value (.tuple #[.int .u64 (subLo x y c : Int), .int .u64 (subHi x y c : Int)])) w := by
  rw [run_callFunc_extern Tryz.func110 (by kernel_rfl) (by kernel_rfl) (by kernel_rfl) (e := sub64Row) (by kernel_rfl), run_sub64Row x y c hc]
  rfl

end Go.Proofs.YtldkddogadmpbaaGreatDoor
