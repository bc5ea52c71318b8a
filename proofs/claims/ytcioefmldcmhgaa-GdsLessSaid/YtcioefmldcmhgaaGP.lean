/- Streams as trees: the cursor. -/
import Derived.Test.YtcioefmldcmhgaaGM
import Derived.Test.YtcioefmldcmhgaaKRight
namespace Go.Proofs.Ytcioefmldcmhgaa
open Go.RowKit
set_option maxRecDepth 100000
set_option linter.unusedVariables false
set_option linter.unusedSimpArgs false

theorem box_cells2 {w : World} {g : Nat} {v0 v1 : Value} {t : TypeId} (h : w.heap[g]? = some (.cells #[v0, v1] t (0, 0))) :
    w.cell? ⟨g, 0, none⟩ = some v0 ∧ w.cell? ⟨g, 1, none⟩ = some v1 ∧ w.frozen? ⟨g, 0, none⟩ = false ∧ w.frozen? ⟨g, 1, none⟩ = false := by
  simp [World.cell?, World.frozen?, h]
theorem heap_set2b {w : World} {g : Nat} {v0 v1 : Value} {t : TypeId} (h : w.heap[g]? = some (.cells #[v0, v1] t (0, 0))) (v : Value) : (w.setCell ⟨g, 1, none⟩ v).heap[g]? = some (.cells #[v0, v] t (0, 0)) := by
  simp [World.setCell, Array.getElem?_modify, h]
abbrev mis : Ending := .panicked [{ v := .iface 80 (.agg #[]), recovered := false }]
/-- A list of records that lies in an elder world, and the block of its parser. -/
structure Lst where
  w0 : World
  s : Option Addr
  n : Nat
  cap : Nat
  rs : List KRec
def Lst.ok (c : Lst) : Prop := c.rs.length = c.n ∧ RcSl c.w0 c.s c.rs ∧ (∀ r ∈ c.rs, r.1 < 256 ∧ r.2.1 < 256) ∧ (c.s = none → c.n = 0 ∧ c.cap = 0) ∧ c.n ≤ c.cap ∧ c.cap ≤ 9223372036854775807
/-- The parser stands ahead of a list's rest. -/
def Ps (c : Lst) (g : Nat) (W : World) (l : List KRec) : Prop :=
  c.w0.grownBy W none ∧ c.w0.heap.size ≤ g ∧ l.length ≤ c.n ∧ c.rs.drop (c.n - l.length) = l ∧ W.heap[g]? = some (.cells #[.slice c.s c.n c.cap, .int .i64 ((c.n - l.length : Nat) : Int)] 85 (0, 0))
theorem Ps.kept {c : Lst} {g : Nat} {W W' : World} {l : List KRec} (h : Ps c g W l) (hg : W.grownBy W' none) : Ps c g W' l :=
  ⟨grown_trans h.1 hg, h.2.1, h.2.2.1, h.2.2.2.1, heap_kept hg h.2.2.2.2⟩
set_option maxHeartbeats 16000000 in
theorem Ended_any (w : World) (g n cap k : Nat) (s : Option Addr) (C0 : w.cell? ⟨g, 0, none⟩ = some (.slice s n cap)) (C1 : w.cell? ⟨g, 1, none⟩ = some (.int .i64 (k : Int))) (b : Bool) (hb : ((k : Int) == (n : Int)) = b) :
    Calls Try.prog 70 #[.pointer (some ⟨g, 0, none⟩)] w (RetB w b) := by
  go_enter Try.func70, Try.ntmps70
  go_wp2_with fail
  go_quiet (fail)
  go_wp2_with fail
  go_ret
  exact ⟨rfl, grown_drewN _ _ _⟩
set_option maxHeartbeats 16000000 in
theorem Sees_end (w : World) (g n cap kd : Nat) (s : Option Addr) (C0 : w.cell? ⟨g, 0, none⟩ = some (.slice s n cap)) (C1 : w.cell? ⟨g, 1, none⟩ = some (.int .i64 (n : Int))) :
    Calls Try.prog 50 #[.pointer (some ⟨g, 0, none⟩), .int .u8 (kd : Int)] w (RetB w false) := by
  have hG : w.grownBy w none := grown_refl _ _
  have E0 := Lib.hid ((grown_drew hG).cell C0 (by simp))
  have E1 := Lib.hid ((grown_drew hG).cell C1 (by simp))
  go_enter Try.func50, Try.ntmps50
  go_wp2_with fail
  refine wp_region_held_drew (S := fun w' => w'.cell? ⟨g, 0, none⟩ = some (.slice s n cap) ∧ w'.cell? ⟨g, 1, none⟩ = some (.int .i64 (n : Int))) (by kernel_rfl) (by exact ⟨C0, C1⟩) (fun hHeld => ?_)
  refine wpAnyH_take (i := 0) (v := ?_) rfl (by kernel_rfl) (by kernel_rfl) (by kernel_rfl) (fun _ _ _ h => h) (Or.inl ⟨by rfl, ?_⟩) (by assumption) ?_
  rotate_left
  · (intro w hSw; (try dsimp only at hSw); go_simp; (try with_reducible rfl))
  try simp only [Act.put, List.getElem_toArray, List.getElem_cons_zero, List.getElem_cons_succ, List.setIfInBounds_toArray, List.set_cons_zero, List.set_cons_succ]
  refine wpAnyH_ready (rs := [1]) (by kernel_rfl) (by simp) ?_
  refine AllReadyH.cons rfl (fun K hK => ?_) AllReadyH.nil
  go_simp
  (go_at_call 70; (with_reducible refine (Ended_any w.drew g n cap n s E0.out E1.out true (by simp)).mono ?_); rintro e w1 ⟨rfl, hg1⟩; have hG1 := grown_trans (grown_drew hG) hg1; have D0 := hg1.cell E0.out (by simp); have D1 := hg1.cell E1.out (by simp))
  (try go_wp2_with fail)
  refine hK.out _ _ (by exact ⟨D0, D1⟩) (fun hHeld => ?_)
  clear hK K
  try simp only [Act.put, List.getElem_toArray, List.getElem_cons_zero, List.getElem_cons_succ, List.setIfInBounds_toArray, List.set_cons_zero, List.set_cons_succ]
  refine wpAnyH_take (i := 2) (v := ?_) rfl (by kernel_rfl) (by kernel_rfl) (by kernel_rfl) (fun _ _ _ h => h) (Or.inl ⟨by rfl, ?_⟩) (by assumption) ?_
  rotate_left
  · (intro w hSw; (try dsimp only at hSw); go_simp; (try with_reducible rfl))
  try simp only [Act.put, List.getElem_toArray, List.getElem_cons_zero, List.getElem_cons_succ, List.setIfInBounds_toArray, List.set_cons_zero, List.set_cons_succ]
  refine wpAnyH_take (i := 3) (v := ?_) rfl (by kernel_rfl) (by kernel_rfl) (by kernel_rfl) (fun _ _ _ h => h) (Or.inl ⟨by rfl, ?_⟩) (by assumption) ?_
  rotate_left
  · (intro w hSw; (try dsimp only at hSw); go_simp; (try with_reducible rfl))
  try simp only [Act.put, List.getElem_toArray, List.getElem_cons_zero, List.getElem_cons_succ, List.setIfInBounds_toArray, List.set_cons_zero, List.set_cons_succ]
  refine wpAnyH_take (i := 4) (v := undef) rfl (by kernel_rfl) (by kernel_rfl) (by kernel_rfl) (fun _ _ _ h => h) (Or.inr ⟨by rfl, rfl⟩) (by assumption) ?_
  try simp only [Act.put, List.getElem_toArray, List.getElem_cons_zero, List.getElem_cons_succ, List.setIfInBounds_toArray, List.set_cons_zero, List.set_cons_succ]
  refine wpAnyH_take (i := 5) (v := undef) rfl (by kernel_rfl) (by kernel_rfl) (by kernel_rfl) (fun _ _ _ h => h) (Or.inr ⟨by rfl, rfl⟩) (by assumption) ?_
  try simp only [Act.put, List.getElem_toArray, List.getElem_cons_zero, List.getElem_cons_succ, List.setIfInBounds_toArray, List.set_cons_zero, List.set_cons_succ]
  refine wpAnyH_take (i := 6) (v := undef) rfl (by kernel_rfl) (by kernel_rfl) (by kernel_rfl) (fun _ _ _ h => h) (Or.inr ⟨by rfl, rfl⟩) (by assumption) ?_
  try simp only [Act.put, List.getElem_toArray, List.getElem_cons_zero, List.getElem_cons_succ, List.setIfInBounds_toArray, List.set_cons_zero, List.set_cons_succ]
  refine wpAnyH_take (i := 7) (v := undef) rfl (by kernel_rfl) (by kernel_rfl) (by kernel_rfl) (fun _ _ _ h => h) (Or.inr ⟨by rfl, rfl⟩) (by assumption) ?_
  try simp only [Act.put, List.getElem_toArray, List.getElem_cons_zero, List.getElem_cons_succ, List.setIfInBounds_toArray, List.set_cons_zero, List.set_cons_succ]
  refine wpAnyH_take (i := 8) (v := undef) rfl (by kernel_rfl) (by kernel_rfl) (by kernel_rfl) (fun _ _ _ h => h) (Or.inr ⟨by rfl, rfl⟩) (by assumption) ?_
  try simp only [Act.put, List.getElem_toArray, List.getElem_cons_zero, List.getElem_cons_succ, List.setIfInBounds_toArray, List.set_cons_zero, List.set_cons_succ]
  refine wpAnyH_take (i := 9) (v := undef) rfl (by kernel_rfl) (by kernel_rfl) (by kernel_rfl) (fun _ _ _ h => h) (Or.inr ⟨by rfl, rfl⟩) (by assumption) ?_
  try simp only [Act.put, List.getElem_toArray, List.getElem_cons_zero, List.getElem_cons_succ, List.setIfInBounds_toArray, List.set_cons_zero, List.set_cons_succ]
  refine wpAnyH_take (i := 10) (v := undef) rfl (by kernel_rfl) (by kernel_rfl) (by kernel_rfl) (fun _ _ _ h => h) (Or.inr ⟨by rfl, rfl⟩) (by assumption) ?_
  try simp only [Act.put, List.getElem_toArray, List.getElem_cons_zero, List.getElem_cons_succ, List.setIfInBounds_toArray, List.set_cons_zero, List.set_cons_succ]
  refine wpAnyH_take (i := 11) (v := undef) rfl (by kernel_rfl) (by kernel_rfl) (by kernel_rfl) (fun _ _ _ h => h) (Or.inr ⟨by rfl, rfl⟩) (by assumption) ?_
  try simp only [Act.put, List.getElem_toArray, List.getElem_cons_zero, List.getElem_cons_succ, List.setIfInBounds_toArray, List.set_cons_zero, List.set_cons_succ]
  refine wpAnyH_take (i := 12) (v := undef) rfl (by kernel_rfl) (by kernel_rfl) (by kernel_rfl) (fun _ _ _ h => h) (Or.inr ⟨by rfl, rfl⟩) (by assumption) ?_
  try simp only [Act.put, List.getElem_toArray, List.getElem_cons_zero, List.getElem_cons_succ, List.setIfInBounds_toArray, List.set_cons_zero, List.set_cons_succ]
  refine wpAnyH_take (i := 13) (v := undef) rfl (by kernel_rfl) (by kernel_rfl) (by kernel_rfl) (fun _ _ _ h => h) (Or.inr ⟨by rfl, rfl⟩) (by assumption) ?_
  try simp only [Act.put, List.getElem_toArray, List.getElem_cons_zero, List.getElem_cons_succ, List.setIfInBounds_toArray, List.set_cons_zero, List.set_cons_succ]
  refine wpAnyH_take (i := 14) (v := undef) rfl (by kernel_rfl) (by kernel_rfl) (by kernel_rfl) (fun _ _ _ h => h) (Or.inr ⟨by rfl, rfl⟩) (by assumption) ?_
  try simp only [Act.put, List.getElem_toArray, List.getElem_cons_zero, List.getElem_cons_succ, List.setIfInBounds_toArray, List.set_cons_zero, List.set_cons_succ]
  refine wpAnyH_take (i := 15) (v := undef) rfl (by kernel_rfl) (by kernel_rfl) (by kernel_rfl) (fun _ _ _ h => h) (Or.inr ⟨by rfl, rfl⟩) (by assumption) ?_
  try simp only [Act.put, List.getElem_toArray, List.getElem_cons_zero, List.getElem_cons_succ, List.setIfInBounds_toArray, List.set_cons_zero, List.set_cons_succ]
  refine wpAnyH_take (i := 16) (v := undef) rfl (by kernel_rfl) (by kernel_rfl) (by kernel_rfl) (fun _ _ _ h => h) (Or.inr ⟨by rfl, rfl⟩) (by assumption) ?_
  try simp only [Act.put, List.getElem_toArray, List.getElem_cons_zero, List.getElem_cons_succ, List.setIfInBounds_toArray, List.set_cons_zero, List.set_cons_succ]
  refine wpAnyH_take (i := 17) (v := ?_) rfl (by kernel_rfl) (by kernel_rfl) (by kernel_rfl) (fun _ _ _ h => h) (Or.inl ⟨by rfl, ?_⟩) (by assumption) ?_
  rotate_left
  · (intro w hSw; (try dsimp only at hSw); go_simp; (try with_reducible rfl))
  try simp only [Act.put, List.getElem_toArray, List.getElem_cons_zero, List.getElem_cons_succ, List.setIfInBounds_toArray, List.set_cons_zero, List.set_cons_succ]
  refine wpAnyH_take (i := 18) (v := ?_) rfl (by kernel_rfl) (by kernel_rfl) (by kernel_rfl) (fun _ _ _ h => h) (Or.inl ⟨by rfl, ?_⟩) (by assumption) ?_
  rotate_left
  · (intro w hSw; (try dsimp only at hSw); go_simp; (try with_reducible rfl))
  try simp only [Act.put, List.getElem_toArray, List.getElem_cons_zero, List.getElem_cons_succ, List.setIfInBounds_toArray, List.set_cons_zero, List.set_cons_succ]
  refine wpAnyH_done (by kernel_rfl) ?_ _
  go_wp2_with fail
  go_ret
  exact ⟨rfl, hG1⟩
set_option maxHeartbeats 16000000 in
theorem Sees_at (w : World) (g n cap kd k x : Nat) (a q : Addr) (hq : a.add (k * 3) = q) (hk : k < n) (C0 : w.cell? ⟨g, 0, none⟩ = some (.slice (some a) n cap)) (C1 : w.cell? ⟨g, 1, none⟩ = some (.int .i64 (k : Int))) (C2 : w.cell? q = some (.int .u8 (x : Int))) (b : Bool) (hb : ((x : Int) == (kd : Int)) = b) :
    Calls Try.prog 50 #[.pointer (some ⟨g, 0, none⟩), .int .u8 (kd : Int)] w (RetB w b) := by
  have hG : w.grownBy w none := grown_refl _ _
  have i0 : (0 : Int) ≤ (k : Int) ∧ (k : Int) < (n : Int) := by omega
  have hK : ((k : Int) == (n : Int)) = false := beq_eq_false_iff_ne.2 (by omega)
  have HK := Lib.hid hK
  clear hK hk
  have E0 := Lib.hid ((grown_drew hG).cell C0 (by simp))
  have E1 := Lib.hid ((grown_drew hG).cell C1 (by simp))
  have E2 := Lib.hid ((grown_drew hG).cell C2 (by simp))
  go_enter Try.func50, Try.ntmps50
  go_wp2_with fail
  go_region_held3 (fun w' => w'.cell? ⟨g, 0, none⟩ = some (.slice (some a) n cap) ∧ w'.cell? ⟨g, 1, none⟩ = some (.int .i64 (k : Int)) ∧ w'.cell? q = some (.int .u8 (x : Int)))
    (first | assumption | exact ⟨C0, C1, C2⟩ | exact ⟨D0, D1, D2⟩ | go_keep)
    (first
      | (go_at_call 70; (with_reducible refine (Ended_any w.drew g n cap k (some a) E0.out E1.out false HK.out).mono ?_); rintro e w1 ⟨rfl, hg1⟩; have hG1 := grown_trans (grown_drew hG) hg1; have D0 := hg1.cell E0.out (by simp); have D1 := hg1.cell E1.out (by simp); have D2 := hg1.cell E2.out (by simp)))
  go_wp2_with fail
  go_ret
  exact ⟨rfl, hG1⟩
def RetRec (w : World) (g : Nat) (kd dt : Nat) (sb : Option Addr) (nb cb : Nat) (s : Option Addr) (n cap k : Nat) (e : Ending) (w' : World) : Prop :=
  e = .returned (.agg #[.int .u8 (kd : Int), .int .u8 (dt : Int), .slice sb nb cb]) ∧ w.grownBy w' (some g) ∧ w'.heap[g]? = some (.cells #[.slice s n cap, .int .i64 ((k + 1 : Nat) : Int)] 85 (0, 0))
set_option maxHeartbeats 16000000 in
theorem Next_at (w : World) (g n cap k kd dt nb cb : Nat) (a q : Addr) (sb : Option Addr) (hq : a.add (k * 3) = q) (hk : k < n) (hn : n ≤ 9223372036854775807) (Bg : w.heap[g]? = some (.cells #[.slice (some a) n cap, .int .i64 (k : Int)] 85 (0, 0)))
    (C2 : w.cell? q = some (.int .u8 (kd : Int))) (C3 : w.cell? ⟨q.block, q.off + 1, none⟩ = some (.int .u8 (dt : Int))) (C4 : w.cell? ⟨q.block, q.off + 2, none⟩ = some (.slice sb nb cb)) :
    Calls Try.prog 80 #[.pointer (some ⟨g, 0, none⟩)] w (RetRec w g kd dt sb nb cb (some a) n cap k) := by
  have hG := World.grownBy_alloc w (.cells #[.int .u8 0, .int .u8 0, .slice none 0 0] 45) none
  have Br := heap_new w (.cells #[.int .u8 0, .int .u8 0, .slice none 0 0] 45) w.heap.size rfl
  have i0 : (0 : Int) ≤ (k : Int) ∧ (k : Int) < (n : Int) := by omega
  have i1 : (k : Int) + 1 ≤ 9223372036854775807 := by omega
  have HGW := Lib.hid (heap_lt Bg)
  replace Bg := heap_kept hG Bg
  replace C2 := hG.cell C2 (by simp)
  replace C3 := hG.cell C3 (by simp)
  replace C4 := hG.cell C4 (by simp)
  obtain ⟨C0, C1, F0, F1⟩ := box_cells2 Bg
  go_enter Try.func80, Try.ntmps80
  go_wp2_with fail
  generalize (w.alloc (.cells #[.int .u8 0, .int .u8 0, .slice none 0 0] 45)) = w0 at *
  go_region_held3 (fun w' => w'.cell? ⟨g, 0, none⟩ = some (.slice (some a) n cap) ∧ w'.cell? ⟨g, 1, none⟩ = some (.int .i64 (k : Int)) ∧ w'.cell? q = some (.int .u8 (kd : Int)) ∧ w'.cell? ⟨q.block, q.off + 1, none⟩ = some (.int .u8 (dt : Int)) ∧ w'.cell? ⟨q.block, q.off + 2, none⟩ = some (.slice sb nb cb))
    (first | assumption | exact ⟨C0, C1, C2, C3, C4⟩ | go_keep)
    (fail)
  have gA := grown_drew (World.grownBy_alloc w0 (.cells #[.int .u8 (kd : Int), .int .u8 (dt : Int), .slice sb nb cb] 45) none)
  have Bn : ((w0.alloc (.cells #[.int .u8 (kd : Int), .int .u8 (dt : Int), .slice sb nb cb] 45)).drew).heap[w0.heap.size]? = some (.cells #[.int .u8 (kd : Int), .int .u8 (dt : Int), .slice sb nb cb] 45 (0, 0)) := heap_new w0 _ w0.heap.size rfl
  have hgr : g < w.heap.size := HGW.out
  have hrs : w.heap.size < w0.heap.size := heap_lt Br
  replace hG := grown_trans hG gA
  replace Bg := heap_kept gA Bg
  replace Br := heap_kept gA Br
  clear gA C0 C1 F0 F1 C2 C3 C4
  generalize ((w0.alloc (.cells #[.int .u8 (kd : Int), .int .u8 (dt : Int), .slice sb nb cb] 45)).drew) = w1 at *
  generalize w0.heap.size = p at *
  obtain ⟨C0, C1, F0, F1⟩ := box_cells2 Bg
  have Bg2 := heap_set2b Bg (.int .i64 ((k : Int) + 1))
  have Br2 := heap_unset (g := g) (o := 1) Br (by omega) (.int .i64 ((k : Int) + 1))
  have Bn2 := heap_unset (g := g) (o := 1) Bn (by omega) (.int .i64 ((k : Int) + 1))
  have hG2 : w.grownBy (w1.setCell ⟨g, 1, none⟩ (.int .i64 ((k : Int) + 1))) (some g) := grown_set (grown_any hG) 1 _
  obtain ⟨Cn0, Cn1, Cn2, _, _, _⟩ := box_cells3 Bn2
  obtain ⟨_, _, _, Fr0, Fr1, Fr2⟩ := box_cells3 Br2
  have Br3 := heap_set3 Br2 (.int .u8 (kd : Int)) (.int .u8 (dt : Int)) (.slice sb nb cb)
  have Bg3 := heap_unset3 (g := w.heap.size) Bg2 (by omega) (.int .u8 (kd : Int)) (.int .u8 (dt : Int)) (.slice sb nb cb)
  have hG3 := grown_new (grown_new (grown_new hG2 (grown_set (grown_refl _ _) 0 (.int .u8 (kd : Int))) (Nat.le_refl w.heap.size)) (grown_set (grown_refl _ _) 1 (.int .u8 (dt : Int))) (Nat.le_refl w.heap.size)) (grown_set (grown_refl _ _) 2 (.slice sb nb cb)) (Nat.le_refl w.heap.size)
  obtain ⟨D0, D1, D2, _, _, _⟩ := box_cells3 Br3
  clear Bn Br Bg Bn2 Bg2 Br2 Br3 hG hG2
  go_wp2_with fail
  exact bodyPost_ret (v := .agg #[.int .u8 (kd : Int), .int .u8 (dt : Int), .slice sb nb cb]) (by simp [results, Try.results80, go_sem, D0, D1, D2]) rfl ⟨rfl, hG3, by rw [show ((k + 1 : Nat) : Int) = (k : Int) + 1 from by omega]; exact Bg3⟩
/-- What takes answers: nothing there; there, but not right; let go by. -/
def RetTk (c : Lst) (g : Nat) (w : World) (l : List KRec) (x : Option (Option (List KRec))) (e : Ending) (w' : World) : Prop :=
  (x = none ∧ e = mis ∧ w.grownBy w' (some g)) ∨ (x = some none ∧ e = .returned (.bool false) ∧ w.grownBy w' (some g) ∧ Ps c g w' l) ∨ (∃ t, x = some (some t) ∧ e = .returned (.bool true) ∧ w.grownBy w' (some g) ∧ Ps c g w' t)
theorem Ps.old {c : Lst} {g : Nat} {W W' : World} {l : List KRec} (h : Ps c g W l) (hg : W.grownBy W' (some g)) : c.w0.grownBy W' none := grown_new h.1 hg h.2.1
/-- The record that stands next. -/
theorem Ps.at {c : Lst} {g : Nat} {W : World} {r : KRec} {t : List KRec} (hc : c.ok) (h : Ps c g W (r :: t)) : ∃ (k kd dt : Nat) (bd : List Nat) (a q : Addr) (sb : Option Addr) (cb : Nat), r = (kd, dt, bd) ∧ k < c.n ∧ k = c.n - (r :: t).length ∧ c.s = some a ∧ a.add (k * 3) = q ∧ kd < 256 ∧ dt < 256 ∧
    W.heap[g]? = some (.cells #[.slice (some a) c.n c.cap, .int .i64 (k : Int)] 85 (0, 0)) ∧ c.w0.cell? q = some (.int .u8 (kd : Int)) ∧ c.w0.cell? ⟨q.block, q.off + 1, none⟩ = some (.int .u8 (dt : Int)) ∧ c.w0.cell? ⟨q.block, q.off + 2, none⟩ = some (.slice sb bd.length cb) ∧ BySl c.w0 sb bd ∧ (sb = none → bd.length = 0 ∧ cb = 0) ∧ bd.length ≤ cb ∧ cb ≤ 9223372036854775807 ∧
    (∀ W', c.w0.grownBy W' none → W'.heap[g]? = some (.cells #[.slice (some a) c.n c.cap, .int .i64 ((k + 1 : Nat) : Int)] 85 (0, 0)) → Ps c g W' t) := by
  obtain ⟨h1, h2, h3, h4, h5⟩ := h
  obtain ⟨c1, c2, c3, c4, c5, c6⟩ := hc
  rw [List.length_cons] at h3 h4 h5
  have hk : c.n - (t.length + 1) < c.rs.length := by omega
  rw [List.drop_eq_getElem_cons hk] at h4
  injection h4 with h4 h6
  obtain ⟨a, q, sb, cb, kd, dt, bd, e, hq, hr, A0, A1, A2, A3, A4, A5, A6⟩ := c2.at _ hk
  have hm := c3 _ (List.getElem_mem hk)
  rw [h4] at hr hm
  rw [e] at h5
  rw [hr] at hm
  refine ⟨_, kd, dt, bd, a, q, sb, cb, hr, by rw [List.length_cons]; omega, rfl, e, hq, hm.1, hm.2, h5, A0, A1, A2, A3, A4, A5, A6, fun W' hg hW => ⟨hg, h2, by omega, ?_, ?_⟩⟩
  · rw [show c.n - t.length = c.n - (t.length + 1) + 1 from by omega]; exact h6
  · rw [show c.n - t.length = c.n - (t.length + 1) + 1 from by omega, e]; exact hW
theorem Ps.fin {c : Lst} {g : Nat} {W : World} (h : Ps c g W []) : W.cell? ⟨g, 0, none⟩ = some (.slice c.s c.n c.cap) ∧ W.cell? ⟨g, 1, none⟩ = some (.int .i64 (c.n : Int)) := by
  obtain ⟨h1, h2, h3, h4, h5⟩ := h
  have := box_cells2 h5
  exact ⟨this.1, this.2.1⟩
set_option maxHeartbeats 16000000 in
theorem Takes_any (c : Lst) (hc : c.ok) (w : World) (g kd : Nat) (l : List KRec) (hp : Ps c g w l) :
    Calls Try.prog 68 #[.pointer (some ⟨g, 0, none⟩), .int .u8 (kd : Int)] w (RetTk c g w l (tkR kd l)) := by
  have HP := Lib.hid hp
  have HC := Lib.hid hc
  clear hc hp
  cases l with
  | nil =>
    obtain ⟨C0, C1⟩ := HP.out.fin
    have hF : Hid (∀ W, w.grownBy W none → RetTk c g w [] (tkR kd []) (.returned (.bool false)) W) := Lib.hid fun W hW => Or.inr (Or.inl ⟨rfl, rfl, grown_any hW, HP.out.kept hW⟩)
    go_enter Try.func68, Try.ntmps68
    go_wp2_with fail
    refine (Sees_end w g c.n c.cap kd c.s C0 C1).mono ?_
    rintro e w1 ⟨rfl, hg1⟩
    go_wp2_with fail
    go_ret
    exact hF.out _ hg1
  | cons r t =>
    obtain ⟨k, kr, dt, bd, a, q, sb, cb, rfl, hk, hkl, hs, hq, hkr, hdt, Bg, A0, A1, A2, A3, A4, A5, A6, hnx⟩ := HP.out.at HC.out
    obtain ⟨C0, C1, F0, F1⟩ := box_cells2 Bg
    have hw0 := HP.out.1
    have HN := Lib.hid hnx
    have HL := Lib.hid hkl
    have HS := Lib.hid hs
    have hcn : c.n ≤ 9223372036854775807 := by obtain ⟨_, _, _, _, h1, h2⟩ := HC.out; omega
    clear hnx hkl hs
    obtain ⟨b, hb⟩ : ∃ b, ((kr : Int) == (kd : Int)) = b := ⟨_, rfl⟩
    have HSE := Lib.hid (Sees_at w g c.n c.cap kd k kr a q hq hk C0 C1 (hw0.cell A0 (by simp)) b hb)
    cases b with
    | false =>
      have hF : Hid (∀ W, w.grownBy W none → RetTk c g w ((kr, dt, bd) :: t) (tkR kd ((kr, dt, bd) :: t)) (.returned (.bool false)) W) := Lib.hid fun W hW => by
        have hne : kr ≠ kd := by have := beq_eq_false_iff_ne.1 hb; omega
        exact Or.inr (Or.inl ⟨if_neg hne, rfl, grown_any hW, HP.out.kept hW⟩)
      clear hb A0 A1 A2 A3 A4 A5 A6 C0 C1 F0 F1 Bg hw0
      go_enter Try.func68, Try.ntmps68
      go_wp2_with fail
      refine HSE.out.mono ?_
      rintro e w1 ⟨rfl, hg1⟩
      go_wp2_with fail
      go_ret
      exact hF.out _ hg1
    | true =>
      obtain ⟨R, hR⟩ : ∃ R, rightB kr dt bd = R := ⟨_, rfl⟩
      have hF : Hid (∀ W, w.grownBy W (some g) → (R = true → Ps c g W t) → RetTk c g w ((kr, dt, bd) :: t) (tkR kd ((kr, dt, bd) :: t)) (if R = true then .returned (.bool true) else mis) W) := Lib.hid fun W hW hP => by
        have heq : kr = kd := by have := beq_iff_eq.1 hb; omega
        subst heq
        cases R with
        | false => exact Or.inl ⟨by simp [tkR, rt, hR], rfl, hW⟩
        | true => exact Or.inr (Or.inr ⟨t, by simp [tkR, rt, hR], rfl, hW, hP rfl⟩)
      have HR := Lib.hid hR
      have HW0 := Lib.hid hw0
      have HBG := Lib.hid Bg
      have HA := Lib.hid (And.intro A0 (And.intro A1 A2))
      have HA3 := Lib.hid A3
      have HA4 := Lib.hid A4
      clear hb A0 A1 A2 A3 A4 C0 C1 F0 F1 Bg hw0 hR
      go_enter Try.func68, Try.ntmps68
      go_wp2_with fail
      refine HSE.out.mono ?_
      rintro e w1 ⟨rfl, hg1⟩
      go_wp2_with fail
      have hw1 := grown_trans HW0.out hg1
      refine (Next_at w1 g c.n c.cap k kr dt bd.length cb a q sb hq hk hcn (heap_kept hg1 HBG.out) (hw1.cell HA.out.1 (by simp)) (hw1.cell HA.out.2.1 (by simp)) (hw1.cell HA.out.2.2 (by simp))).mono ?_
      rintro e w2 ⟨rfl, hg2, Bg2⟩
      have hgw : w.grownBy w2 (some g) := grown_trans (grown_any hg1) hg2
      have hw2 := HP.out.old hgw
      have HP2 := Lib.hid (HN.out _ hw2 Bg2)
      have HGW := Lib.hid hgw
      clear hg1 hw1 hg2 Bg2 hgw
      go_wp2_with fail
      refine (Right_any w2 sb kr dt bd.length cb bd rfl (HA3.out.kept hw2) HA4.out A5 A6).mono ?_
      rintro e w3 ⟨rfl, hg3⟩
      rw [HR.out]
      have HF3 := Lib.hid (hF.out w3 (grown_trans HGW.out (grown_any hg3)) (fun _ => HP2.out.kept hg3))
      clear hF hg3 hw2 HR HW0 HN
      cases R with
      | false =>
        go_wp2_with fail
        exact ⟨rfl, HF3.out⟩
      | true =>
        go_wp2_with fail
        go_ret
        exact HF3.out
end Go.Proofs.Ytcioefmldcmhgaa
