/- Records: the cursor. -/
import Derived.Test.YtcioefmldcmhgaaKFirst
namespace Go.Proofs.Ytcioefmldcmhgaa
open Go.RowKit
set_option maxRecDepth 100000
set_option linter.unusedVariables false
set_option linter.unusedSimpArgs false

def RetNext (w : World) (q k : Nat) (x : Nat × KRec × Nat) (e : Ending) (w' : World) : Prop :=
  ∃ vb, e = .returned (.tuple #[.agg #[.int .u8 (x.2.1.1 : Int), .int .u8 (x.2.1.2.1 : Int), vb], .int .i64 (x.1 : Int)]) ∧ BodyN w' w.heap.size x.1 vb x.2.1.2.2 ∧ w.grownBy w' (some q) ∧ w'.heap[q]? = some (.cells #[.int .i64 ((k + x.2.2 : Nat) : Int)] 3 (0, 0))
set_option maxHeartbeats 16000000 in
theorem Next_any (w : World) (p q : Nat) (a : Addr) (n cap k : Nat) (l : List Nat) (hn : l.length = n) (hl : BySl w (some a) l) (hc : n ≤ cap) (hm : cap ≤ 9223372036854775807) (hk : k ≤ n)
    (Bp : w.heap[p]? = some (.cells #[.slice (some a) n cap] 22 (0, 0))) (Bq : w.heap[q]? = some (.cells #[.int .i64 (k : Int)] 3 (0, 0))) :
    Calls Try.prog 45 #[.pointer (some ⟨p, 0, none⟩), .pointer (some ⟨q, 0, none⟩)] w (RetNext w q k (firstR (l.drop k))) := by
  have hpq : p ≠ q := by rintro rfl; rw [Bp] at Bq; cases Bq
  have hG := World.grownBy_alloc w (.cells #[.int .u8 0, .int .u8 0, .slice none 0 0] 45) none
  have Br := heap_new w (.cells #[.int .u8 0, .int .u8 0, .slice none 0 0] 45) w.heap.size rfl
  have i1 : (k : Int) ≤ (n : Int) := by omega
  have i2 : (k : Int) ≤ (cap : Int) := by omega
  obtain ⟨Cp, Fp⟩ := box_cell (heap_kept hG Bp)
  obtain ⟨Cq, Fq⟩ := box_cell (heap_kept hG Bq)
  obtain ⟨pp, hp, hpl⟩ : ∃ pp : Addr, (if cap = k then some a else some (a.add k)) = some pp ∧ BySl w (some pp) (l.drop k) := cut_some (hl.drop k) (fun e => List.drop_eq_nil_of_le (by omega))
  have hfl := first_len (l.drop k)
  rw [List.length_drop] at hfl
  obtain ⟨x, hx⟩ : ∃ x, firstR (l.drop k) = x := ⟨_, rfl⟩
  rw [hx] at hfl ⊢
  have HX := Lib.hid hx
  clear hx
  obtain ⟨c, ⟨kd, dt, bd⟩, m⟩ := x
  dsimp only at hfl
  go_enter Try.func45, Try.ntmps45
  go_wp2_with fail
  refine (First_any _ _ _ _ (l.drop k) (by rw [List.length_drop]; omega) (hpl.kept hG) (by omega) (by omega)).mono ?_
  rintro e w1 ⟨vb, rfl, hb, hg1⟩
  rw [HX.out] at hb ⊢
  dsimp only at hb ⊢
  have hb2 := hb
  obtain ⟨sb, cb, rfl⟩ := hb2.shape
  clear hb2 hpl hp hl
  have hsz : (w.alloc (.cells #[.int .u8 0, .int .u8 0, .slice none 0 0] 45)).heap.size = w.heap.size + 1 := by simp
  replace hb := hb.later (b2 := w.heap.size) (by rw [hsz]; omega)
  have hG1 := grown_trans hG hg1
  replace Br := heap_kept hg1 Br
  have Bp1 := heap_kept hG1 Bp
  have Bq1 := heap_kept hG1 Bq
  have hs1 := hg1.size
  rw [hsz] at hs1
  clear Cp Fp Cq Fq hG hg1 hsz
  have gA := World.grownBy_alloc w1 (.cells #[.int .u8 (kd : Int), .int .u8 (dt : Int), .slice sb bd.length cb] 45) none
  have Bn := heap_new w1 (.cells #[.int .u8 (kd : Int), .int .u8 (dt : Int), .slice sb bd.length cb] 45) w1.heap.size rfl
  have Br0 := Br
  have Bq0 := Bq1
  have hb0 := hb
  have hG0 := hG1
  replace Br := heap_kept gA Br
  replace Bp1 := heap_kept gA Bp1
  replace Bq1 := heap_kept gA Bq1
  replace hb := hb.kept gA
  replace hG1 := grown_trans hG1 gA
  obtain ⟨Cq, Fq⟩ := box_cell Bq1
  have im : (k : Int) + (m : Int) ≤ 9223372036854775807 := by omega
  have hqn : q < w1.heap.size := Nat.lt_of_lt_of_le (heap_lt Bq) (by omega)
  have hqr : q < w.heap.size := heap_lt Bq
  have gB := World.grownBy_alloc (w1.setCell ⟨q, 0, none⟩ (.int .i64 ((k : Int) + (m : Int)))) (.cells #[.int .u8 (kd : Int), .int .u8 (dt : Int), .slice sb bd.length cb] 45) none
  have Bn2 := heap_new (w1.setCell ⟨q, 0, none⟩ (.int .i64 ((k : Int) + (m : Int)))) (.cells #[.int .u8 (kd : Int), .int .u8 (dt : Int), .slice sb bd.length cb] 45) w1.heap.size (by simp [World.setCell])
  have Br2 := heap_kept gB (heap_unset (g := q) (o := 0) Br0 (by omega) (.int .i64 ((k : Int) + (m : Int))))
  have Bq2 := heap_kept gB (heap_set Bq0 (.int .i64 ((k : Int) + (m : Int))))
  have hb2 := (hb0.unset (k := q) (o := 0) (u := .int .i64 ((k : Int) + (m : Int))) hqr).kept gB
  have hG2 : w.grownBy ((w1.setCell ⟨q, 0, none⟩ (.int .i64 ((k : Int) + (m : Int)))).alloc (.cells #[.int .u8 (kd : Int), .int .u8 (dt : Int), .slice sb bd.length cb] 45)) (some q) := grown_trans (grown_set (grown_any hG0) 0 _) (grown_any gB)
  obtain ⟨Cn0, Cn1, Cn2, _, _, _⟩ := box_cells3 Bn2
  obtain ⟨Cr0, Cr1, Cr2, Fr0, Fr1, Fr2⟩ := box_cells3 Br2
  have Br3 := heap_set3 Br2 (.int .u8 (kd : Int)) (.int .u8 (dt : Int)) (.slice sb bd.length cb)
  have Bq3 := heap_unset3 (g := w.heap.size) Bq2 (by omega) (.int .u8 (kd : Int)) (.int .u8 (dt : Int)) (.slice sb bd.length cb)
  have hb3 := hb2.unset3 (k := w.heap.size) (u0 := .int .u8 (kd : Int)) (u1 := .int .u8 (dt : Int)) (u2 := .slice sb bd.length cb) (fun t cs e => by rw [Br2] at e; cases e; decide) ⟨_, _, Br2⟩
  have hG3 := grown_new (grown_new (grown_new hG2 (grown_set (grown_refl _ _) 0 (.int .u8 (kd : Int))) (Nat.le_refl w.heap.size)) (grown_set (grown_refl _ _) 1 (.int .u8 (dt : Int))) (Nat.le_refl w.heap.size)) (grown_set (grown_refl _ _) 2 (.slice sb bd.length cb)) (Nat.le_refl w.heap.size)
  obtain ⟨D0, D1, D2, _, _, _⟩ := box_cells3 Br3
  clear Bn2 gB gA Br2 Bq2 Br3 hb2 hG2 hb hb0 hG0 hG1
  go_wp2_with fail
  exact bodyPost_ret (v := .tuple #[.agg #[.int .u8 (kd : Int), .int .u8 (dt : Int), .slice sb bd.length cb], .int .i64 (c : Int)]) (by simp [results, Try.results45, go_sem, D0, D1, D2]) rfl ⟨_, rfl, hb3, hG3, by rw [show ((k + m : Nat) : Int) = (k : Int) + (m : Int) from by omega]; exact Bq3⟩
end Go.Proofs.Ytcioefmldcmhgaa
