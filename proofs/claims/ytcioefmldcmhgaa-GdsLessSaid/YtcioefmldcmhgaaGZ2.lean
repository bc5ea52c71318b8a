/- Streams as trees: records, Write. -/
import Derived.Test.YtcioefmldcmhgaaGZ
namespace Go.Proofs.Ytcioefmldcmhgaa
open Go.RowKit
set_option maxRecDepth 100000
set_option linter.unusedVariables false
set_option linter.unusedSimpArgs false

/-- The records that have been handed on. -/
def RecSt (w0 : World) (q : Nat) (W : World) (rs : List KRec) : Prop := w0.grownBy W none ∧ w0.heap.size ≤ q ∧ ∃ v, W.heap[q]? = some (.cells #[v] 24 (0, 0)) ∧ OwnU w0 W v rs
theorem OwnU.off {w0 W W' : World} {v : Value} {rs : List KRec} {q : Nat} {cs : Array Value} {te : TypeId} {fz : Nat × Nat} (h : OwnU w0 W v rs) (hg : W.grownBy W' (some q)) (hq : W.heap[q]? = some (.cells cs te fz)) (ht : te ≠ 45) : OwnU w0 W' v rs := by
  obtain ⟨ys, h1, h2⟩ := h
  exact ⟨ys, own_offT h1 hg hq ht, h2⟩
theorem len_joinB (rs : List KRec) : 4 * rs.length ≤ (joinB rs).length := joinB_len4 rs
/-- Behind an append: the box. -/
theorem rec_put {w0 W W5 : World} {q : Nat} {v v' : Value} {ys : List Value} {rs ss : List KRec} (h0 : w0.grownBy W none) (hq : w0.heap.size ≤ q) (Bq : W.heap[q]? = some (.cells #[v] 24 (0, 0)))
    (hown : W.ownsRow w0.heap.size 45 3 v rs.length ys) (hg5 : W.grownBy W5 v.ownBlock) (hU : OwnU w0 W5 v' ss) :
    W5.heap[q]? = some (.cells #[v] 24 (0, 0)) ∧ Hid (RecSt w0 q (W5.setCell ⟨q, 0, none⟩ v') ss ∧ KeepT W (W5.setCell ⟨q, 0, none⟩ v')) := by
  have Bq5 := heap_rowT hown hg5 Bq (by decide)
  have gp : W5.grownBy (W5.setCell ⟨q, 0, none⟩ v') (some q) := grown_set (grown_refl _ _) 0 _
  have g5 := grown_own h0 hown hg5 (Nat.le_refl _)
  refine ⟨Bq5, Lib.hid ⟨⟨grown_new g5 gp hq, hq, v', heap_set Bq5 _, hU.off gp Bq5 (by decide)⟩, fun b cs te hb ht => ?_⟩⟩
  have h1 := heap_rowT hown hg5 hb (by rcases ht with h | h | h <;> rw [h] <;> decide)
  exact heap_off gp h1 (fun e => by
    cases e
    have := heap_types h1 Bq5
    rcases ht with h | h | h <;> rw [h] at this <;> exact absurd this (by decide))
set_option maxHeartbeats 16000000 in
theorem Rec1_any (w0 w : World) (q : Nat) (v : Value) (rs more : List KRec) (hs : RecSt w0 q w rs) (hm : RecsB w0 w v more) (hb : (joinB (rs ++ more)).length ≤ 1099511627776) :
    Calls Try.prog 58 #[v, .pointer (some ⟨q, 0, none⟩)] w (fun e w' => e = .returned (.tuple #[]) ∧ RecSt w0 q w' (rs ++ more) ∧ KeepT w w') := by
  obtain ⟨i1, hi, hz0, hz1, hz2⟩ := info_partsR
  obtain ⟨h0, hwq, u, Bq, hU⟩ := hs
  have hl4 := len_joinB (rs ++ more)
  rw [List.length_append] at hl4
  obtain ⟨su, cu, rfl, hoku⟩ := hU.shape
  obtain ⟨s, c, rfl, hok⟩ := hm.shape
  obtain ⟨xs, x1, x2, x3, x4⟩ := hm.vals
  have hsm : Small more := by obtain ⟨_, _, _, _, _, h, _⟩ := hm; exact h
  obtain ⟨ys, y1, y2, y3, y4⟩ := hU
  obtain ⟨Cq, Fq⟩ := box_cell Bq
  have HY1 := Lib.hid y1
  cases s with
  | none =>
    obtain ⟨e1, e2⟩ := hok.1 rfl
    subst e2
    have hmn : more = [] := List.length_eq_zero_iff.1 e1
    subst hmn
    obtain ⟨Bq5, HF⟩ := rec_put (ss := rs) h0 hwq Bq y1 (grown_refl w _) ⟨ys, y1, y2, y3, y4⟩
    clear hm hok hoku y1 y2 y3 y4 x1 x2 x3 x4 h0 Bq hl4 hb hsm e1
    go_enter Try.func58, Try.ntmps58
    go_wp2_with (at_builtin; refine wpList_append_own_none rfl (.tmp 3) (.tmp 4) 24 rfl w0.heap.size 45 i1 3 Try.underlying24 hi (.slice su rs.length cu) rs.length ys rfl HY1.out rfl ?_)
    go_wp2_with fail
    first | go_end0 | refine bodyPost_ret (results_none rfl _ _ _) rfl ?_
    exact ⟨rfl, by simpa using HF.out.1, HF.out.2⟩
  | some a =>
    obtain ⟨M, hM⟩ : ∃ M, more.length = M := ⟨_, rfl⟩
    obtain ⟨R, hR⟩ : ∃ R, rs.length = R := ⟨_, rfl⟩
    have HX1 : Hid (xs.length = M * 3) := Lib.hid (by rw [← hM]; exact x1)
    have HX2 := Lib.hid x2
    have HX3 := Lib.hid (x3 a c rfl)
    have HM1 : Hid (R + M ≤ maxLen) := Lib.hid (by unfold maxLen; omega)
    have HM2 : Hid ((R + M) * 32 ≤ 140737488355328) := Lib.hid (by omega)
    have HBS : Hid (w0.heap.size ≤ w.heap.size) := Lib.hid h0.size
    have HF : Hid (∀ v' w5, w5.ownsRow w0.heap.size 45 3 v' (R + M) (ys ++ xs) → w.grownBy w5 (Value.slice su rs.length cu).ownBlock → w5.heap[q]? = some (.cells #[.slice su rs.length cu] 24 (0, 0)) ∧ (∃ s5 c5, v' = .slice s5 (R + M) c5) ∧ Hid (RecSt w0 q (w5.setCell ⟨q, 0, none⟩ v') (rs ++ more) ∧ KeepT w (w5.setCell ⟨q, 0, none⟩ v'))) := Lib.hid fun v' w5 k1 k2 => by
      have hU5 : OwnU w0 w5 v' (rs ++ more) := OwnU.app y1.1 y2 x2 y3 hsm y4 x4 k1 (by omega)
      obtain ⟨b1, b2⟩ := rec_put h0 hwq Bq y1 k2 hU5
      obtain ⟨s5, c5, e5, _⟩ := hU5.shape
      rw [List.length_append, hM, hR] at e5
      exact ⟨b1, ⟨s5, c5, e5⟩, b2⟩
    rw [hR] at HF Cq HY1
    rw [hM]
    clear hm hok hoku y1 y2 y3 y4 x1 x2 x3 x4 h0 Bq hl4 hb hsm hM hR
    go_enter Try.func58, Try.ntmps58
    go_wp2_with (at_builtin; refine wpList_append_own _ rfl (.tmp 3) (.tmp 4) 24 rfl w0.heap.size 45 i1 (.agg #[.int .u8 0, .int .u8 0, .slice none 0 0]) 3 32 Try.underlying24 hi hz0 hz1 hz2 rfl (by decide) (.slice su R cu) R ys rfl HY1.out a M c xs rfl HX1.out HX3.out HX2.out HM1.out HM2.out HBS.out ?_)
    intro v' w5 k1 k2 k3
    obtain ⟨Bq5, ⟨s5, c5, rfl⟩, HF5⟩ := HF.out v' w5 k1 k2
    obtain ⟨Cq5, Fq5⟩ := box_cell Bq5
    clear k1 k2 k3 HF Bq5 Cq Fq
    go_wp2_with fail
    first | go_end0 | refine bodyPost_ret (results_none rfl _ _ _) rfl ?_
    exact ⟨rfl, HF5.out⟩
theorem rec_fed (w0 : World) (T : List KRec) (q : Nat) (hT : (joinB T).length ≤ 1099511627776) : Fed w0 T 58 q (RecSt w0 q) :=
  ⟨fun _ _ h => h.1, fun _ _ _ h hg => ⟨grown_trans h.1 hg, h.2.1, by obtain ⟨v, h1, h2⟩ := h.2.2; exact ⟨v, heap_kept hg h1, h2.kept hg⟩⟩, fun W rs v more hs hm ⟨rest, e⟩ =>
    Rec1_any w0 W q v rs more hs hm (by
      have := joinB_le_cat rs more rest
      rw [← e] at this; omega)⟩
end Go.Proofs.Ytcioefmldcmhgaa
