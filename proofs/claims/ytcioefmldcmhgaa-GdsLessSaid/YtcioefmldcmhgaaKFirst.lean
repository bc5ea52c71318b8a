/- Records: the first of bytes. -/
import Derived.Test.YtcioefmldcmhgaaKMath
import Derived.Test.YtcioefmldcmhgaaKCopy
namespace Go.Proofs.Ytcioefmldcmhgaa
open Go.RowKit
set_option maxRecDepth 100000
set_option linter.unusedVariables false
set_option linter.unusedSimpArgs false

/-- A body in new memory; or none beside an error. -/
def BodyN (W : World) (base : Nat) (c : Nat) (v : Value) (l : List Nat) : Prop :=
  (c ≠ 0 ∧ l = [] ∧ v = .slice none 0 0) ∨ (c = 0 ∧ ∃ g cap, v = .slice (some ⟨g, 0, none⟩) l.length cap ∧ ByBlk W g l ∧ base ≤ g ∧ l.length ≤ cap ∧ cap ≤ 9223372036854775807)
theorem BodyN.kept {W W' : World} {base c : Nat} {v : Value} {l : List Nat} (h : BodyN W base c v l) (hg : W.grownBy W' none) : BodyN W' base c v l :=
  h.imp id fun ⟨h0, g, cap, e, h1, h2⟩ => ⟨h0, g, cap, e, h1.kept hg, h2⟩
theorem BodyN.shape {W : World} {base c : Nat} {v : Value} {l : List Nat} (h : BodyN W base c v l) : ∃ s cb, v = .slice s l.length cb := by
  rcases h with ⟨_, rfl, rfl⟩ | ⟨_, g, cap, rfl, _⟩
  · exact ⟨none, 0, rfl⟩
  · exact ⟨_, cap, rfl⟩
theorem BodyN.unset {W : World} {base c k o : Nat} {v u : Value} {l : List Nat} (h : BodyN W base c v l) (hk : k < base) : BodyN (W.setCell ⟨k, o, none⟩ u) base c v l :=
  h.imp id fun ⟨h0, g, cap, e, h1, h2, h3⟩ => ⟨h0, g, cap, e, h1.unset (by omega) _, h2, h3⟩
theorem BodyN.unset3 {W : World} {base c k : Nat} {v u0 u1 u2 : Value} {l : List Nat} (h : BodyN W base c v l) (hk : ∀ t cs, W.heap[k]? = some (.cells cs t (0, 0)) → t ≠ 5) (hk2 : ∃ t cs, W.heap[k]? = some (.cells cs t (0, 0))) : BodyN (((W.setCell ⟨k, 0, none⟩ u0).setCell ⟨k, 1, none⟩ u1).setCell ⟨k, 2, none⟩ u2) base c v l :=
  h.imp id fun ⟨h0, g, cap, e, h1, h2, h3⟩ => by
    have hne : g ≠ k := by
      rintro rfl
      obtain ⟨cur, hc, _⟩ := h1.1
      exact hk _ _ hc rfl
    exact ⟨h0, g, cap, e, ((h1.unset hne _).unset hne _).unset hne _, h2, h3⟩
theorem BodyN.later {W : World} {base b2 c : Nat} {v : Value} {l : List Nat} (h : BodyN W base c v l) (hb : b2 ≤ base) : BodyN W b2 c v l :=
  h.imp id fun ⟨h0, g, cap, e, h1, h2, h3⟩ => ⟨h0, g, cap, e, h1, by omega, h3⟩
def RetFirst (w : World) (x : Nat × KRec × Nat) (e : Ending) (w' : World) : Prop :=
  ∃ vb, e = .returned (.tuple #[.agg #[.int .u8 (x.2.1.1 : Int), .int .u8 (x.2.1.2.1 : Int), vb], .int .i64 (x.2.2 : Int), .int .i64 (x.1 : Int)]) ∧ BodyN w' w.heap.size x.1 vb x.2.1.2.2 ∧ w.grownBy w' none
set_option maxHeartbeats 16000000 in
theorem First_short (w : World) (s : Option Addr) (n cap : Nat) (hn : n < 2) :
    Calls Try.prog 46 #[.slice s n cap] w (RetFirst w (7, (0, 0, []), 0)) := by
  have hG := World.grownBy_alloc w (.cells #[.int .u8 0, .int .u8 0, .slice none 0 0] 45) none
  have Bq := heap_new w (.cells #[.int .u8 0, .int .u8 0, .slice none 0 0] 45) w.heap.size rfl
  go_enter Try.func46, Try.ntmps46
  go_wp2_with fail
  exact bodyPost_ret (v := .tuple #[.agg #[.int .u8 0, .int .u8 0, .slice none 0 0], .int .i64 0, .int .i64 7]) (by simp [results, Try.results46, go_sem]) rfl ⟨_, rfl, Or.inl ⟨by decide, rfl, rfl⟩, hG⟩
set_option maxHeartbeats 16000000 in
theorem First_form (w : World) (a : Addr) (n cap : Nat) (x0 x1 : Nat) (hn : 2 ≤ n) (hc : n ≤ cap) (hm : cap ≤ 9223372036854775807) (h0 : x0 < 256) (h1 : x1 < 256) (hk : x0 * 256 + x1 < 4 ∨ (x0 * 256 + x1) % 2 = 1)
    (c0 : w.cell? a = some (.int .u8 (x0 : Int))) (c1 : w.cell? ⟨a.block, a.off + 1, none⟩ = some (.int .u8 (x1 : Int))) :
    Calls Try.prog 46 #[.slice (some a) n cap] w (RetFirst w (3, (0, 0, []), 0)) := by
  have hG := World.grownBy_alloc w (.cells #[.int .u8 0, .int .u8 0, .slice none 0 0] 45) none
  have Bq := heap_new w (.cells #[.int .u8 0, .int .u8 0, .slice none 0 0] 45) w.heap.size rfl
  replace c0 := hG.cell c0 (by simp)
  replace c1 := hG.cell c1 (by simp)
  have g1 := bor_n64 x0 x1 h1 (by omega)
  have G1 := Lib.hid g1
  clear g1
  obtain ⟨N, hN⟩ : ∃ N, x0 * 256 + x1 = N := ⟨_, rfl⟩
  rw [hN] at hk G1
  have hNb : N < 65536 := by omega
  clear hN
  have ht : (decide ((N : Int) < 4) || ((N : Int) % 2 != 0)) = true := by
    rcases hk with h | h
    · rw [decide_eq_true (by omega)]; rfl
    · rw [show ((N : Int) % 2 != 0) = true from bne_iff_ne.2 (by omega), Bool.or_true]
  go_enter Try.func46, Try.ntmps46
  go_wp2_with fail
  generalize (w.alloc (.cells #[.int .u8 0, .int .u8 0, .slice none 0 0] 45)) = w0 at *
  obtain ⟨Cq0, Cq1, Cq2, Fq0, Fq1, Fq2⟩ := box_cells3 Bq
  have g1 := G1.out
  go_quiet (fail)
  go_wp2_with fail
  all_goals (
    have B2 := heap_set3 (w := w0.drewN nq) Bq (.int .u8 0) (.int .u8 0) (.slice none 0 0)
    have g2 := grown_put3 (grown_trans hG (grown_drewN w0 nq none)) (Nat.le_refl w.heap.size) (.int .u8 0) (.int .u8 0) (.slice none 0 0)
    obtain ⟨D0, D1, D2, _, _, _⟩ := box_cells3 B2
    exact bodyPost_ret (v := .tuple #[.agg #[.int .u8 0, .int .u8 0, .slice none 0 0], .int .i64 0, .int .i64 3]) (by simp [results, Try.results46, go_sem, D0, D1, D2]) rfl ⟨_, rfl, Or.inl ⟨by decide, rfl, rfl⟩, g2⟩)
set_option maxHeartbeats 16000000 in
theorem First_less (w : World) (a : Addr) (n cap : Nat) (x0 x1 : Nat) (hn : 2 ≤ n) (hc : n ≤ cap) (hm : cap ≤ 9223372036854775807) (h0 : x0 < 256) (h1 : x1 < 256) (hk : ¬ (x0 * 256 + x1 < 4 ∨ (x0 * 256 + x1) % 2 = 1)) (hlt : n < x0 * 256 + x1)
    (c0 : w.cell? a = some (.int .u8 (x0 : Int))) (c1 : w.cell? ⟨a.block, a.off + 1, none⟩ = some (.int .u8 (x1 : Int))) :
    Calls Try.prog 46 #[.slice (some a) n cap] w (RetFirst w (7, (0, 0, []), 0)) := by
  have hG := World.grownBy_alloc w (.cells #[.int .u8 0, .int .u8 0, .slice none 0 0] 45) none
  have Bq := heap_new w (.cells #[.int .u8 0, .int .u8 0, .slice none 0 0] 45) w.heap.size rfl
  replace c0 := hG.cell c0 (by simp)
  replace c1 := hG.cell c1 (by simp)
  have g1 := bor_n64 x0 x1 h1 (by omega)
  have G1 := Lib.hid g1
  clear g1
  obtain ⟨N, hN⟩ : ∃ N, x0 * 256 + x1 = N := ⟨_, rfl⟩
  rw [hN] at hk hlt G1
  have hNb : N < 65536 := by omega
  clear hN
  have ht : (decide ((N : Int) < 4) || ((N : Int) % 2 != 0)) = false := by
    rw [decide_eq_false (by omega), show ((N : Int) % 2 != 0) = false from bne_eq_false_iff_eq.2 (by omega)]; rfl
  go_enter Try.func46, Try.ntmps46
  go_wp2_with fail
  generalize (w.alloc (.cells #[.int .u8 0, .int .u8 0, .slice none 0 0] 45)) = w0 at *
  obtain ⟨Cq0, Cq1, Cq2, Fq0, Fq1, Fq2⟩ := box_cells3 Bq
  have g1 := G1.out
  go_quiet (fail)
  go_wp2_with fail
  have B2 := heap_set3 (w := w0.drewN nq) Bq (.int .u8 0) (.int .u8 0) (.slice none 0 0)
  have g2 := grown_put3 (grown_trans hG (grown_drewN w0 nq none)) (Nat.le_refl w.heap.size) (.int .u8 0) (.int .u8 0) (.slice none 0 0)
  obtain ⟨D0, D1, D2, _, _, _⟩ := box_cells3 B2
  exact bodyPost_ret (v := .tuple #[.agg #[.int .u8 0, .int .u8 0, .slice none 0 0], .int .i64 0, .int .i64 7]) (by simp [results, Try.results46, go_sem, D0, D1, D2]) rfl ⟨_, rfl, Or.inl ⟨by decide, rfl, rfl⟩, g2⟩
set_option maxHeartbeats 16000000 in
theorem First_ok (w : World) (a : Addr) (n cap : Nat) (x0 x1 : Nat) (hn : 2 ≤ n) (hc : n ≤ cap) (hm : cap ≤ 9223372036854775807) (h0 : x0 < 256) (h1 : x1 < 256) (hk : ¬ (x0 * 256 + x1 < 4 ∨ (x0 * 256 + x1) % 2 = 1)) (hge : x0 * 256 + x1 ≤ n) (x2 x3 : Nat) (l : List Nat) (hl : BySl w (some ⟨a.block, a.off + 4, none⟩) l) (hln : l.length + 4 = x0 * 256 + x1)
    (c2 : w.cell? ⟨a.block, a.off + 2, none⟩ = some (.int .u8 (x2 : Int))) (c3 : w.cell? ⟨a.block, a.off + 3, none⟩ = some (.int .u8 (x3 : Int)))
    (c0 : w.cell? a = some (.int .u8 (x0 : Int))) (c1 : w.cell? ⟨a.block, a.off + 1, none⟩ = some (.int .u8 (x1 : Int))) :
    Calls Try.prog 46 #[.slice (some a) n cap] w (RetFirst w (0, (x2, x3, l), x0 * 256 + x1)) := by
  have hG := World.grownBy_alloc w (.cells #[.int .u8 0, .int .u8 0, .slice none 0 0] 45) none
  have Bq := heap_new w (.cells #[.int .u8 0, .int .u8 0, .slice none 0 0] 45) w.heap.size rfl
  have O2 := Lib.hid c2
  have O3 := Lib.hid c3
  replace c0 := hG.cell c0 (by simp)
  replace c1 := hG.cell c1 (by simp)
  replace c2 := hG.cell c2 (by simp)
  replace c3 := hG.cell c3 (by simp)
  have hl0 := hl
  have g1 := bor_n64 x0 x1 h1 (by omega)
  have G1 := Lib.hid g1
  clear g1
  obtain ⟨N, hN⟩ : ∃ N, x0 * 256 + x1 = N := ⟨_, rfl⟩
  rw [hN] at hk hge hln G1 ⊢
  have hNb : N < 65536 := by omega
  clear hN
  have ht : (decide ((N : Int) < 4) || ((N : Int) % 2 != 0)) = false := by
    rw [decide_eq_false (by omega), show ((N : Int) % 2 != 0) = false from bne_eq_false_iff_eq.2 (by omega)]; rfl
  have i2 : (2 : Int) < (n : Int) := by omega
  have i3 : (3 : Int) < (n : Int) := by omega
  have i4 : (4 : Int) ≤ (N : Int) := by omega
  have i5 : (N : Int) ≤ (n : Int) := by omega
  have i6 : (N : Int) ≤ (cap : Int) := by omega
  obtain ⟨p, hp, hpl⟩ : ∃ p : Addr, (if cap = 4 then some a else some ⟨a.block, a.off + 4, none⟩) = some p ∧ BySl w (some p) l := cut_some hl0 (fun e => List.length_eq_zero_iff.1 (by omega))
  have HL : Hid (∀ W, w.grownBy W none → BySl W (some p) l) := Lib.hid fun W hW => hpl.kept hW
  clear hpl
  -- then some a else some ⟨a.block, a.off + 4, none⟩) l) := Lib.hid fun W hW => (hl0.kept hW).cut (fun e => List.length_eq_zero_iff.1 (by omega))
  have HLN : Hid (l.length = N - 4) := Lib.hid (by omega)
  have HB : Hid (N - 4 ≤ 140737488355328) := Lib.hid (by omega)
  clear hl hl0
  go_enter Try.func46, Try.ntmps46
  go_wp2_with fail
  generalize (w.alloc (.cells #[.int .u8 0, .int .u8 0, .slice none 0 0] 45)) = w0 at *
  obtain ⟨Cq0, Cq1, Cq2, Fq0, Fq1, Fq2⟩ := box_cells3 Bq
  have g1 := G1.out
  go_quiet (fail)
  go_wp2_with fail
  have gz := grown_drewN w0 nq none
  replace c2 := gz.cell c2 (by simp)
  replace c3 := gz.cell c3 (by simp)
  replace Bq := heap_kept gz Bq
  replace hG := grown_trans hG gz
  have hq := Lib.hid (heap_lt Bq)
  clear gz Cq0 Cq1 Cq2 Fq0 Fq1 Fq2 c0 c1 g1
  generalize w0.drewN nq = wz at *
  go_region_held3 (fun w' => w'.cell? ⟨a.block, a.off + 2, none⟩ = some (.int .u8 (x2 : Int)) ∧ w'.cell? ⟨a.block, a.off + 3, none⟩ = some (.int .u8 (x3 : Int)))
    (first | assumption | exact ⟨c2, c3⟩ | exact ⟨d2, d3⟩ | go_keep)
    (first
      | (go_at_call 44; (with_reducible refine (Clone_some _ _ _ _ _ HLN.out (HL.out _ (grown_drew hG)) HB.out).mono ?_); rintro e w1 ⟨g, c9, rfl, hb, hg0, hc9, hm9, hg1⟩; have hG1 := grown_trans (grown_drew hG) hg1; have c2 := hg1.cell (show wz.cell? _ = _ from c2) (by simp); have c3 := hg1.cell (show wz.cell? _ = _ from c3) (by simp); have Bq := heap_kept (w := wz) (grown_trans (grown_drew (grown_refl _ _)) hg1) Bq; obtain ⟨Cq0, Cq1, Cq2, Fq0, Fq1, Fq2⟩ := box_cells3 Bq; clear hg1; clear hp; have g2 := grown_put3 hG1 (Nat.le_refl w.heap.size) (.int .u8 (x2 : Int)) (.int .u8 (x3 : Int)) (.slice (some ⟨g, 0, none⟩) l.length c9); have d2 := g2.cell O2.out (by simp); have d3 := g2.cell O3.out (by simp)))
  have B2 := heap_set3 Bq (.int .u8 (x2 : Int)) (.int .u8 (x3 : Int)) (.slice (some ⟨g, 0, none⟩) l.length c9)
  obtain ⟨D0, D1, D2, _, _, _⟩ := box_cells3 B2
  have hgq : w.heap.size ≠ g := by have h1 := hq.out; have h2 : wz.heap.size ≤ g := hg0; omega
  have hbF := Lib.hid (((hb.unset hgq.symm (.int .u8 (x2 : Int)) (o := 0)).unset hgq.symm (.int .u8 (x3 : Int)) (o := 1)).unset hgq.symm (.slice (some ⟨g, 0, none⟩) l.length c9) (o := 2))
  have hg9 : w.heap.size ≤ g := by have h1 := hq.out; have h2 : wz.heap.size ≤ g := hg0; omega
  clear hb hgq d2 d3 c2 c3 Cq0 Cq1 Cq2 Fq0 Fq1 Fq2 Bq
  go_wp2_with fail
  exact bodyPost_ret (v := .tuple #[.agg #[.int .u8 (x2 : Int), .int .u8 (x3 : Int), .slice (some ⟨g, 0, none⟩) l.length c9], .int .i64 (N : Int), .int .i64 0]) (by simp [results, Try.results46, go_sem, D0, D1, D2]) rfl ⟨_, rfl, Or.inr ⟨rfl, g, c9, rfl, hbF.out, hg9, hc9, hm9⟩, g2⟩
theorem First_any (w : World) (s : Option Addr) (n cap : Nat) (l : List Nat) (hn : l.length = n) (hl : BySl w s l) (hc : n ≤ cap) (hm : cap ≤ 9223372036854775807) :
    Calls Try.prog 46 #[.slice s n cap] w (RetFirst w (firstR l)) := by
  rcases Nat.lt_or_ge n 2 with h | h
  · rw [first_short (by omega)]; exact First_short w s n cap h
  rcases hl.1 with rfl | ⟨a, rfl, _⟩
  · simp at hn; omega
  have cell : ∀ i, i < n → w.cell? (a.add i) = some (.int .u8 ((l.getD i 0 : Nat) : Int)) := fun i hi => hl.get i (by omega)
  have c0 := cell 0 (by omega)
  have c1 := cell 1 (by omega)
  rw [show a.add 0 = a from by simp [Addr.add]] at c0
  rw [show a.add 1 = ⟨a.block, a.off + 1, none⟩ from rfl] at c1
  by_cases hk : lenR l < 4 ∨ lenR l % 2 = 1
  · rw [first_form (by omega) hk]
    exact First_form w a n cap _ _ h hc hm (hl.lt 0) (hl.lt 1) hk c0 c1
  rcases Nat.lt_or_ge n (lenR l) with h2 | h2
  · rw [first_less (by omega) hk (by omega)]
    exact First_less w a n cap _ _ h hc hm (hl.lt 0) (hl.lt 1) hk h2 c0 c1
  · rw [first_ok (by omega) hk (by omega)]
    exact First_ok w a n cap _ _ h hc hm (hl.lt 0) (hl.lt 1) hk h2 _ _ _ ((hl.drop 4).take _) (by rw [List.length_take, List.length_drop]; unfold lenR at *; omega) (cell 2 (by unfold lenR at *; omega)) (cell 3 (by unfold lenR at *; omega)) c0 c1
end Go.Proofs.Ytcioefmldcmhgaa
