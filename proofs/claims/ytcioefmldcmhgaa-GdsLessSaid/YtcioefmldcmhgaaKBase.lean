/- Records: what lies in memory (bytes, rows of records), and that worlds grow. -/
import Derived.Test.YtcioefmldcmhgaaProg
import Derived.WalkKit
import Derived.WalkLawsBesides
import Derived.WalkSpells
import Derived.Outline
import Derived.Lib.Hide
import Derived.Deep.LoopGhost
import Derived.Deep.QuietTactic
import Derived.BigQuiet
import Derived.StillTailTactics
import Derived.Deep.RegionHeld3
import Derived.OwnWalk
import Derived.LoopN
import Derived.Laws.AppendOwn
import Derived.Laws.AppendOwnNone
import Derived.Laws.BytesString
import Derived.Laws.BytesArg
import Derived.Laws.Cells
import Derived.Laws.BitsAllLaws
import Derived.Deep.CutRange
import Derived.Deep.AppendLies
import Derived.BigRegion
namespace Go.Proofs.Ytcioefmldcmhgaa
open Go.RowKit
set_option maxRecDepth 100000
set_option linter.unusedVariables false
set_option linter.unusedSimpArgs false

theorem grown_refl (w : World) (row : Option Nat) : w.grownBy w row := ⟨rfl, rfl, rfl, Nat.le_refl _, fun _ _ _ => rfl⟩
theorem grown_trans {a b c : World} {row : Option Nat} (h : a.grownBy b row) (k : b.grownBy c row) : a.grownBy c row :=
  ⟨k.os.trans h.os, k.tape.trans h.tape, k.output.trans h.output, Nat.le_trans h.size k.size, fun i hi hr => (k.block i (Nat.lt_of_lt_of_le hi h.size) hr).trans (h.block i hi hr)⟩
/-- Writes to a block that the call itself has made are no writes to what was there. -/
theorem grown_new {a b c : World} {row : Option Nat} {g : Nat} (h : a.grownBy b row) (k : b.grownBy c (some g)) (hg : a.heap.size ≤ g) : a.grownBy c row :=
  ⟨k.os.trans h.os, k.tape.trans h.tape, k.output.trans h.output, Nat.le_trans h.size k.size, fun i hi hr => (k.block i (Nat.lt_of_lt_of_le hi h.size) (by intro e; cases e; omega)).trans (h.block i hi hr)⟩
theorem grown_any {a b : World} {row : Option Nat} (h : a.grownBy b none) : a.grownBy b row := ⟨h.os, h.tape, h.output, h.size, fun i hi _ => h.block i hi (by simp)⟩
theorem grown_alloc {a b : World} {row : Option Nat} (h : a.grownBy b row) (o : Obj) : a.grownBy (b.alloc o) row := grown_trans h (World.grownBy_alloc b o row)
theorem grown_set {a b : World} {g : Nat} (h : a.grownBy b (some g)) (o : Nat) (v : Value) : a.grownBy (b.setCell ⟨g, o, none⟩ v) (some g) :=
  grown_trans h ⟨rfl, rfl, rfl, by simp [World.setCell], fun i _ hr => Below.heap_setCell _ _ _ _ (by intro e; exact hr (by rw [e]))⟩
theorem grown_drew {a b : World} {row : Option Nat} (h : a.grownBy b row) : a.grownBy b.drew row := ⟨h.os, h.tape, h.output, h.size, h.block⟩
theorem grown_drewN (w : World) (n : Nat) (row : Option Nat) : w.grownBy (w.drewN n) row := ⟨rfl, rfl, rfl, Nat.le_refl _, fun _ _ _ => rfl⟩
theorem grown_below {a b : World} (h : a.grownBy b none) : Below a.heap.size a b := ⟨h.os, h.tape, h.output, h.size, fun k hk => h.block k hk (by simp)⟩
theorem below_grown {a b : World} (h : Below a.heap.size a b) : a.grownBy b none := ⟨h.os, h.tape, h.output, h.size, fun k hk _ => h.block k hk⟩
theorem grown_put {w w' : World} {g : Nat} (hg : w.grownBy w' none) (hl : w.heap.size ≤ g) (o : Nat) (v0 : Value) : w.grownBy (w'.setCell ⟨g, o, none⟩ v0) none :=
  grown_new (g := g) hg (grown_set (grown_refl _ _) _ _) hl
theorem heap_kept {w w' : World} {g : Nat} {o : Obj} (hg : w.grownBy w' none) (h : w.heap[g]? = some o) : w'.heap[g]? = some o :=
  (hg.block g (Array.getElem?_eq_some_iff.1 h).1 (by simp)).trans h
theorem heap_new (w : World) (o : Obj) (g : Nat) (h : g = w.heap.size) : (w.alloc o).heap[g]? = some o := by
  subst h; show (w.heap.push o)[w.heap.size]? = _; simp
theorem heap_lt {w : World} {g : Nat} {o : Obj} (h : w.heap[g]? = some o) : g < w.heap.size := (Array.getElem?_eq_some_iff.1 h).1
theorem heap_row {w w' : World} {g b : Nat} {o : Obj} (k : w.grownBy w' (some g)) (h : w.heap[b]? = some o) (hb : b ≠ g) : w'.heap[b]? = some o := (k.block b (Array.getElem?_eq_some_iff.1 h).1 (by simpa using hb)).trans h
theorem heap_off {w w' : World} {row : Option Nat} {b : Nat} {o : Obj} (k : w.grownBy w' row) (h : w.heap[b]? = some o) (hb : some b ≠ row) : w'.heap[b]? = some o := (k.block b (Array.getElem?_eq_some_iff.1 h).1 hb).trans h
theorem box_cell {w : World} {g : Nat} {v : Value} {t : TypeId} (h : w.heap[g]? = some (.cells #[v] t (0, 0))) : w.cell? ⟨g, 0, none⟩ = some v ∧ w.frozen? ⟨g, 0, none⟩ = false := by
  constructor <;> simp [World.cell?, World.frozen?, h]
theorem heap_set {w : World} {g : Nat} {v0 : Value} {t : TypeId} (h : w.heap[g]? = some (.cells #[v0] t (0, 0))) (v : Value) : (w.setCell ⟨g, 0, none⟩ v).heap[g]? = some (.cells #[v] t (0, 0)) := by
  simp [World.setCell, Array.getElem?_modify, h]
theorem heap_unset {w : World} {g k o : Nat} {x : Obj} (h : w.heap[k]? = some x) (hk : k ≠ g) (v : Value) : (w.setCell ⟨g, o, none⟩ v).heap[k]? = some x := (Below.heap_setCell _ _ _ _ (by simpa using hk)).trans h
theorem box_cells3 {w : World} {g : Nat} {v0 v1 v2 : Value} {t : TypeId} (h : w.heap[g]? = some (.cells #[v0, v1, v2] t (0, 0))) :
    w.cell? ⟨g, 0, none⟩ = some v0 ∧ w.cell? ⟨g, 1, none⟩ = some v1 ∧ w.cell? ⟨g, 2, none⟩ = some v2 ∧ w.frozen? ⟨g, 0, none⟩ = false ∧ w.frozen? ⟨g, 1, none⟩ = false ∧ w.frozen? ⟨g, 2, none⟩ = false := by
  simp [World.cell?, World.frozen?, h]
theorem heap_set3 {w : World} {g : Nat} {a0 a1 a2 : Value} {t : TypeId} (h : w.heap[g]? = some (.cells #[a0, a1, a2] t (0, 0))) (v0 v1 v2 : Value) : (((w.setCell ⟨g, 0, none⟩ v0).setCell ⟨g, 1, none⟩ v1).setCell ⟨g, 2, none⟩ v2).heap[g]? = some (.cells #[v0, v1, v2] t (0, 0)) := by
  simp [World.setCell, Array.getElem?_modify, h]
theorem heap_unset3 {w : World} {g k : Nat} {o : Obj} (h : w.heap[k]? = some o) (hk : k ≠ g) (v0 v1 v2 : Value) : (((w.setCell ⟨g, 0, none⟩ v0).setCell ⟨g, 1, none⟩ v1).setCell ⟨g, 2, none⟩ v2).heap[k]? = some o :=
  heap_unset (heap_unset (heap_unset h hk v0) hk v1) hk v2
theorem grown_put3 {w w' : World} {g : Nat} (hg : w.grownBy w' none) (hl : w.heap.size ≤ g) (v0 v1 v2 : Value) : w.grownBy (((w'.setCell ⟨g, 0, none⟩ v0).setCell ⟨g, 1, none⟩ v1).setCell ⟨g, 2, none⟩ v2) none :=
  grown_put (grown_put (grown_put hg hl 0 v0) hl 1 v1) hl 2 v2

/-- A slice of bytes that reads so. -/
def BySl (w : World) (s : Option Addr) (l : List Nat) : Prop := (l = [] ∨ ∃ a, s = some a ∧ ∀ i (h : i < l.length), w.cell? (a.add i) = some (.int .u8 (l[i] : Int))) ∧ ∀ x ∈ l, x < 256
theorem BySl.kept {w W : World} {s : Option Addr} {l : List Nat} (h : BySl w s l) (g : w.grownBy W none) : BySl W s l :=
  ⟨h.1.imp id fun ⟨a, e, hc⟩ => ⟨a, e, fun i hi => g.cell (hc i hi) (by simp)⟩, h.2⟩
theorem BySl.nil (w : World) (s : Option Addr) : BySl w s [] := ⟨Or.inl rfl, fun _ h => by cases h⟩
theorem BySl.get {w : World} {a : Addr} {l : List Nat} (h : BySl w (some a) l) (i : Nat) (hi : i < l.length) : w.cell? (a.add i) = some (.int .u8 ((l.getD i 0 : Nat) : Int)) := by
  rcases h.1 with rfl | ⟨a', e, hc⟩
  · simp at hi
  · cases e
    rw [hc i hi, List.getD_eq_getElem?_getD, List.getElem?_eq_getElem hi]; rfl
theorem BySl.lt {w : World} {s : Option Addr} {l : List Nat} (h : BySl w s l) (i : Nat) : l.getD i 0 < 256 := by
  rw [List.getD_eq_getElem?_getD]
  rcases Nat.lt_or_ge i l.length with hi | hi
  · rw [List.getElem?_eq_getElem hi]; exact h.2 _ (List.getElem_mem hi)
  · rw [List.getElem?_eq_none hi]; decide
theorem BySl.drop {w : World} {a : Addr} {l : List Nat} (h : BySl w (some a) l) (k : Nat) : BySl w (some (a.add k)) (l.drop k) := by
  refine ⟨?_, fun x hx => h.2 x (List.mem_of_mem_drop hx)⟩
  by_cases hk : l.drop k = []
  · exact Or.inl hk
  · refine Or.inr ⟨_, rfl, fun i hi => ?_⟩
    rw [List.length_drop] at hi
    rw [Addr.add_add, h.get (k + i) (by omega), List.getElem_drop, List.getD_eq_getElem?_getD, List.getElem?_eq_getElem (by omega)]; rfl
theorem BySl.take {w : World} {s : Option Addr} {l : List Nat} (h : BySl w s l) (k : Nat) : BySl w s (l.take k) := by
  refine ⟨?_, fun x hx => h.2 x (List.mem_of_mem_take hx)⟩
  rcases h.1 with rfl | ⟨a, e, hc⟩
  · exact Or.inl (by simp)
  · refine Or.inr ⟨a, e, fun i hi => ?_⟩
    rw [List.length_take] at hi
    rw [hc i (by omega), List.getElem_take]
/-- A slice of a slice, by the walk's words: where nothing of the room is left, its address stays. -/
def cutAt (c : Prop) [Decidable c] (a p : Addr) : Option Addr := if c then some a else some p
theorem BySl.cut {w : World} {a p : Addr} {l : List Nat} {c : Prop} [Decidable c] (h : BySl w (some p) l) (hc : c → l = []) : BySl w (if c then some a else some p) l := by
  split
  · rename_i h0; rw [hc h0]; exact BySl.nil _ _
  · exact h
theorem cut_some {w : World} {a p : Addr} {l : List Nat} {c : Prop} [Decidable c] (h : BySl w (some p) l) (hc : c → l = []) : ∃ q : Addr, (if c then some a else some p) = some q ∧ BySl w (some q) l := by
  split
  · rename_i h0; exact ⟨a, rfl, by rw [hc h0]; exact BySl.nil _ _⟩
  · exact ⟨p, rfl, h⟩
theorem cut_ne {a p : Addr} {c : Prop} [Decidable c] : (if c then some a else some p) ≠ none := by split <;> simp
/-- A block of bytes of the call's own. -/
def ByBlk (w : World) (g : Nat) (l : List Nat) : Prop := (∃ cur, w.heap[g]? = some (.cells cur 5 (0, 0)) ∧ ∀ i (h : i < l.length), cur[i]? = some (.int .u8 (l[i] : Int))) ∧ ∀ x ∈ l, x < 256
theorem ByBlk.kept {w W : World} {g : Nat} {l : List Nat} (h : ByBlk w g l) (hg : w.grownBy W none) : ByBlk W g l :=
  ⟨h.1.imp fun cur hc => ⟨heap_kept hg hc.1, hc.2⟩, h.2⟩
theorem ByBlk.off {w W : World} {g : Nat} {l : List Nat} {row : Option Nat} (h : ByBlk w g l) (hg : w.grownBy W row) (hne : some g ≠ row) : ByBlk W g l :=
  ⟨h.1.imp fun cur hc => ⟨heap_off hg hc.1 hne, hc.2⟩, h.2⟩
theorem ByBlk.cell {w : World} {g : Nat} {l : List Nat} (h : ByBlk w g l) (i : Nat) (hi : i < l.length) : w.cell? ⟨g, i, none⟩ = some (.int .u8 (l[i] : Int)) := by
  obtain ⟨⟨cur, h1, h2⟩, _⟩ := h
  simp [World.cell?, h1, h2 i hi]
theorem ByBlk.free {w : World} {g : Nat} {l : List Nat} (h : ByBlk w g l) (i : Nat) : w.frozen? ⟨g, i, none⟩ = false := by
  obtain ⟨⟨cur, h1, h2⟩, _⟩ := h
  simp [World.frozen?, h1]
theorem ByBlk.sl {w : World} {g : Nat} {l : List Nat} (h : ByBlk w g l) : BySl w (some ⟨g, 0, none⟩) l := by
  refine ⟨Or.inr ⟨_, rfl, fun i hi => ?_⟩, h.2⟩
  have e : (⟨g, 0, none⟩ : Addr).add i = ⟨g, i, none⟩ := by unfold Addr.add; split <;> simp_all
  rw [e]; exact h.cell i hi
theorem ByBlk.lt {w : World} {g : Nat} {l : List Nat} (h : ByBlk w g l) : g < w.heap.size := by
  obtain ⟨⟨cur, h1, h2⟩, _⟩ := h
  exact (Array.getElem?_eq_some_iff.1 h1).1
theorem ByBlk.unset {w : World} {g k o : Nat} {l : List Nat} (h : ByBlk w g l) (hne : g ≠ k) (v : Value) : ByBlk (w.setCell ⟨k, o, none⟩ v) g l :=
  ⟨h.1.imp fun cur hc => ⟨heap_unset hc.1 hne v, hc.2⟩, h.2⟩
def bvs (l : List Nat) : List Value := l.map fun x : Nat => .int .u8 (x : Int)
theorem bvs_one (l : List Nat) : ∀ u ∈ bvs l, u.oneCell' = true := fun u hu => by
  unfold bvs at hu
  rw [List.mem_map] at hu
  obtain ⟨x, _, rfl⟩ := hu
  rfl
theorem bvs_len (l : List Nat) : (bvs l).length = l.length := by simp [bvs]
theorem bvs_append (l m : List Nat) : bvs l ++ bvs m = bvs (l ++ m) := by simp [bvs]
theorem BySl.news {w : World} {a : Addr} {l : List Nat} (h : BySl w (some a) l) : ∀ j u, (bvs l)[j]? = some u → w.cell? (a.add j) = some u := fun j u hj => by
  have hj2 : j < l.length := by
    rcases Nat.lt_or_ge j l.length with h | h
    · exact h
    · rw [List.getElem?_eq_none (by simpa [bvs] using h)] at hj; cases hj
  rcases h.1 with rfl | ⟨a', e, hc⟩
  · simp at hj2
  · cases e
    simp [bvs, List.getElem?_eq_getElem hj2] at hj
    rw [hc j hj2, hj]
theorem own_empty (w : World) : (w.alloc (.cells #[] 5)).ownsRow w.heap.size 5 1 (.slice (some ⟨w.heap.size, 0, none⟩) 0 0) 0 [] :=
  ⟨rfl, Or.inr ⟨w.heap.size, 0, #[], rfl, Nat.le_refl _, heap_new w (.cells #[] 5) w.heap.size rfl, Nat.le_refl _, Nat.zero_le _, rfl, rfl⟩⟩
theorem own_blk {w : World} {base g n cap : Nat} {l : List Nat} (h : w.ownsRow base 5 1 (.slice (some ⟨g, 0, none⟩) n cap) n (bvs l)) (hn : l.length = n) (hd : ∀ x ∈ l, x < 256) : ByBlk w g l := by
  obtain ⟨_, h⟩ := h
  rcases h with ⟨e, _⟩ | ⟨g', c1, cur, e, hb, hc, hc1, hc2, hsz, htk⟩
  · cases e
  · cases e
    refine ⟨⟨cur, hc, fun i hi => ?_⟩, hd⟩
    have h1 : (bvs l)[i]? = some (.int .u8 (l[i] : Int)) := by simp [bvs, List.getElem?_eq_getElem hi]
    rw [← htk, List.getElem?_take_of_lt (by omega)] at h1
    simpa using h1
theorem info_partsU : ∃ i, Try.prog.info? 5 = some i ∧ i.zero = some (.int .u8 0) ∧ i.size = 1 ∧ i.bytes = 1 := by
  have h : (Try.prog.info? 5).map (fun i => (i.zero, i.size, i.bytes)) = some (some (.int .u8 0), 1, 1) := by kernel_rfl
  obtain ⟨i, hi, he⟩ := Option.map_eq_some_iff.1 h
  exact ⟨i, hi, congrArg Prod.fst he, congrArg (fun x => x.2.1) he, congrArg (fun x => x.2.2) he⟩
theorem info_partsR : ∃ i, Try.prog.info? 45 = some i ∧ i.zero = some (.agg #[.int .u8 0, .int .u8 0, .slice none 0 0]) ∧ i.size = 3 ∧ i.bytes = 32 := by
  have h : (Try.prog.info? 45).map (fun i => (i.zero, i.size, i.bytes)) = some (some (.agg #[.int .u8 0, .int .u8 0, .slice none 0 0]), 3, 32) := by kernel_rfl
  obtain ⟨i, hi, he⟩ := Option.map_eq_some_iff.1 h
  exact ⟨i, hi, congrArg Prod.fst he, congrArg (fun x => x.2.1) he, congrArg (fun x => x.2.2) he⟩
/-- A row of bytes in new memory. -/
def RetBlk (w : World) (l : List Nat) (e : Ending) (w' : World) : Prop := ∃ g cap, e = .returned (.slice (some ⟨g, 0, none⟩) l.length cap) ∧ ByBlk w' g l ∧ w.heap.size ≤ g ∧ l.length ≤ cap ∧ cap ≤ 9223372036854775807 ∧ w.grownBy w' none
/-- The text of bytes. -/
def strOf (l : List Nat) : ByteArray := ⟨(l.map UInt8.ofNat).toArray⟩
theorem conv_by (w : World) (s : Option Addr) (n cap : Nat) (l : List Nat) (hn : l.length = n) (hl : BySl w s l) : (convert 22 9 (.slice s n cap)).run Try.prog w = .ok (.string (strOf l)) w := by
  subst hn
  cases s with
  | none =>
    have : l = [] := hl.1.resolve_right (fun ⟨a, e, _⟩ => by cases e)
    subst this
    exact run_convert_bytes_nil w 22 5 Try.underlying22 Try.underlying5 _ cap 9 Try.underlying9
  | some a =>
    have hload : (loadCells a l.length).run Try.prog w = .ok ((l.map fun x : Nat => (x : Int)).map (Value.int .u8)).toArray w := by
      have := run_loadCells_list (P := Try.prog) w a (bvs l) hl.news
      simpa [bvs, Function.comp_def] using this
    rw [run_convert_bytes_string w 22 9 5 _ l.length cap Try.underlying22 Try.underlying5 Try.underlying9, run_bytesToString w _ l.length cap _ hload, foldl_push_bytes]
    simp [strOf, ByteArray.empty, ByteArray.emptyWithCapacity, Function.comp_def]
    rfl
theorem strOf_inj {l m : List Nat} (hl : ∀ x ∈ l, x < 256) (hm : ∀ x ∈ m, x < 256) (h : strOf l = strOf m) : l = m := by
  have h1 : (l.map UInt8.ofNat) = (m.map UInt8.ofNat) := by
    have h2 := congrArg (fun b : ByteArray => b.data.toList) h
    simpa [strOf] using h2
  have h2 := congrArg (List.map UInt8.toNat) h1
  rw [List.map_map, List.map_map] at h2
  have f : ∀ (k : List Nat), (∀ x ∈ k, x < 256) → k.map (UInt8.toNat ∘ UInt8.ofNat) = k := fun k hk => by
    conv => rhs; rw [← List.map_id k]
    refine List.map_congr_left fun x hx => ?_
    have := hk x hx
    simp [Function.comp_def, Nat.mod_eq_of_lt this]
  rwa [f l hl, f m hm] at h2
theorem strOf_size (l : List Nat) : (strOf l).size = l.length := by simp [strOf, ByteArray.size]
end Go.Proofs.Ytcioefmldcmhgaa
