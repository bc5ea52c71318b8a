/- What divides both, of the document's own numbers. -/
import Derived.Test.YtljfhiikoimdiaaRefDiv
namespace Go.Proofs.Ytljfhiikoimdiaa
open Go.RowKit Mat
set_option maxRecDepth 100000
set_option linter.unusedVariables false
set_option linter.unusedSimpArgs false

set_option maxHeartbeats 8000000 in
theorem rGcd_any (w : World) (va vb : Value) (a b : Nat) (ha : RefV w va a) (hb : RefV w vb b) (ba : a < D ^ 400000) (bb : b < D ^ 400000) :
    Calls Try.prog 45 #[va, vb] w (RetRef w (Nat.gcd a b)) := by
  obtain ⟨E, hE⟩ : ∃ E, E = 400000 := ⟨_, rfl⟩
  rw [← hE] at ba bb
  obtain ⟨sa, n, cx, xs, rfl, ha'⟩ := ha
  obtain ⟨sb, m, cy, ys, rfl, hb'⟩ := hb
  have na : RefV w (.agg #[.slice sa n cx]) a := ⟨sa, n, cx, xs, rfl, ha'⟩
  have nb : RefV w (.agg #[.slice sb m cy]) b := ⟨sb, m, cy, ys, rfl, hb'⟩
  have hgw0 : w.grownBy (((w.alloc (.cells #[.slice sa n cx] 32)).alloc (.cells #[.slice sb m cy] 32)).alloc (.cells #[.slice none 0 0] 32)) none := grown_alloc (grown_alloc (World.grownBy_alloc _ _ _) _) _
  have hb3 := heap_new ((w.alloc (.cells #[.slice sa n cx] 32)).alloc (.cells #[.slice sb m cy] 32)) (.cells #[.slice none 0 0] 32) (w.heap.size + 1 + 1) (by simp)
  have hb2 := heap_kept (World.grownBy_alloc _ (.cells #[.slice none 0 0] 32) none) (heap_new (w.alloc (.cells #[.slice sa n cx] 32)) (.cells #[.slice sb m cy] 32) (w.heap.size + 1) (by simp))
  have hb1 := heap_kept (grown_alloc (World.grownBy_alloc _ (.cells #[.slice sb m cy] 32) none) (.cells #[.slice none 0 0] 32)) (heap_new w (.cells #[.slice sa n cx] 32) w.heap.size rfl)
  have B1 : Boxed _ w.heap.size a := ⟨_, _, _, hb1, na.kept hgw0⟩
  have B2 : Boxed _ (w.heap.size + 1) b := ⟨_, _, _, hb2, nb.kept hgw0⟩
  have HBA := Lib.hid ba
  have HBB := Lib.hid bb
  have HE := Lib.hid hE
  clear ha' hb' na nb hb1 hb2 ba bb hE
  go_enter Try.func45, Try.ntmps45
  go_wp2_with fail
  generalize (((w.alloc (.cells #[.slice sa n cx] 32)).alloc (.cells #[.slice sb m cy] 32)).alloc (.cells #[.slice none 0 0] 32)) = w0 at *
  go_loopg [5, 6] b (fun gh u5 u6 wr => ∃ (x y : Nat), Hid (y ≤ gh) ∧ Boxed wr w.heap.size x ∧ Boxed wr (w.heap.size + 1) y ∧ Hid (Nat.gcd x y = Nat.gcd a b) ∧ Hid (x < D ^ E ∧ y < D ^ E) ∧ wr.heap[w.heap.size + 1 + 1]? = some (.cells #[.slice none 0 0] 32 (0, 0)) ∧ w.grownBy wr none)
  case atStart => exact ⟨a, b, Nat.le_refl _, B1, B2, rfl, ⟨HBA.out, HBB.out⟩, hb3, hgw0⟩
  case round =>
    clear B1 B2 hb3 hgw0
    obtain ⟨x, y, hgh, hX, hY, hgc, hbd, hr, hG⟩ := hrel
    obtain ⟨sX, kX, cX, hbX, nX⟩ := hX
    obtain ⟨sY, kY, cY, hbY, nY⟩ := hY
    obtain ⟨cX1, fX1⟩ := box_cell hbX
    obtain ⟨cY1, fY1⟩ := box_cell hbY
    obtain ⟨cr, fr⟩ := box_cell hr
    obtain ⟨sY', kY', cY', rs, eY, hyl, hyc, hyr, tys, dys, hyv⟩ := nY
    cases eY
    rcases Nat.eq_zero_or_pos kY with h0 | h0
    · subst h0
      have hy0 : y = 0 := by rw [List.length_eq_zero_iff.1 hyl] at hyv; simpa [val] using hyv.symm
      have hF : Hid (RetRef w (Nat.gcd a b) (.returned (.agg #[.slice sX kX cX])) (wr.setCell ⟨w.heap.size + 1 + 1, 0, none⟩ (.slice sX kX cX))) := by
        rw [← hgc.out, hy0, Nat.gcd_zero_right]
        exact rret hG hr (by decide) (by omega) nX _
      clear nX hyl hyv hgh hgc hbd
      go_wp2_with fail
      exact bodyPost_ret (v := .agg #[.slice sX kX cX]) (by simp [results, Try.results45, go_sem, cr]) rfl hF.out
    · have f0 : decide ((0 : Int) < (kY : Int)) = true := decide_eq_true (by omega)
      have hy0 : 0 < y := by
        rw [← hyv]
        refine val_pos D D_pos rs ?_ tys
        intro e
        rw [e] at hyl; simp at hyl; omega
      have nY : RefV wr (.agg #[.slice sY kY cY]) y := ⟨sY, kY, cY, rs, rfl, hyl, hyc, hyr, tys, dys, hyv⟩
      have hxE : x < D ^ 400000 := by rw [← HE.out]; exact hbd.out.1
      have hyE : y < D ^ 400000 := by rw [← HE.out]; exact hbd.out.2
      have HX := Lib.hid hxE
      have HY := Lib.hid hyE
      have H0 := Lib.hid hy0
      clear hxE hyE hy0 hyl hyv hyr tys dys hyc
      go_wp2_with fail
      refine (rDiv_any wr _ _ x y nX nY HX.out HY.out H0.out).mono ?_
      rintro e w5 ⟨v, u, rfl, ⟨s5, k5, c5, z5, rfl, n5⟩, ⟨s6, k6, c6, z6, rfl, n6⟩, g5⟩
      have hG6 : wr.grownBy ((w5.alloc (.cells #[.slice s5 k5 c5] 32)).alloc (.cells #[.slice s6 k6 c6] 32)) none := grown_alloc (grown_alloc g5 _) _
      have hbX6 := heap_kept hG6 hbX
      have hbY6 := heap_kept hG6 hbY
      have hr6 := heap_kept hG6 hr
      have nY6 := nY.kept hG6
      have n66 : RefV ((w5.alloc (.cells #[.slice s5 k5 c5] 32)).alloc (.cells #[.slice s6 k6 c6] 32)) (.agg #[.slice s6 k6 c6]) (x % y) := RefV.kept ⟨s6, k6, c6, z6, rfl, n6⟩ (grown_alloc (World.grownBy_alloc _ _ _) _)
      have hb66 := heap_new (w5.alloc (.cells #[.slice s5 k5 c5] 32)) (.cells #[.slice s6 k6 c6] 32) (w5.heap.size + 1) (by simp)
      have hlo5 : w.heap.size + 1 + 1 < w5.heap.size := by have h1 := (Array.getElem?_eq_some_iff.1 hr).1; have := g5.size; omega
      obtain ⟨cX6, fX6⟩ := box_cell hbX6
      obtain ⟨cY6, fY6⟩ := box_cell hbY6
      obtain ⟨c66, f66⟩ := box_cell hb66
      have hbX7 := heap_set hbX6 (.slice sY kY cY)
      have hbY7 := heap_unset (g := w.heap.size) hbY6 (by omega) (.slice sY kY cY)
      have hb67 := heap_unset (g := w.heap.size) hb66 (by omega) (.slice sY kY cY)
      have hr7 := heap_unset (g := w.heap.size) hr6 (by omega) (.slice sY kY cY)
      have nY7 := nY6.set_other hbX6 (by decide) 0 (.slice sY kY cY)
      have n67 := n66.set_other hbX6 (by decide) 0 (.slice sY kY cY)
      obtain ⟨c67, f67⟩ := box_cell hb67
      obtain ⟨cY7, fY7⟩ := box_cell hbY7
      have hbX8 := heap_unset (g := w.heap.size + 1) hbX7 (by omega) (.slice s6 k6 c6)
      have hbY8 := heap_set hbY7 (.slice s6 k6 c6)
      have hr8 := heap_unset (g := w.heap.size + 1) hr7 (by omega) (.slice s6 k6 c6)
      have nY8 := nY7.set_other hbY7 (by decide) 0 (.slice s6 k6 c6)
      have n68 := n67.set_other hbY7 (by decide) 0 (.slice s6 k6 c6)
      have hG8 := grown_new (grown_new (grown_trans hG hG6) (grown_set (grown_refl _ (some w.heap.size)) 0 (.slice sY kY cY)) (Nat.le_refl _)) (grown_set (grown_refl _ (some (w.heap.size + 1))) 0 (.slice s6 k6 c6)) (by omega)
      have hgn : Hid (Nat.gcd y (x % y) = Nat.gcd a b) := by
        show _ = _
        rw [← hgc.out, Nat.gcd_comm x y, Nat.gcd_rec y x, Nat.gcd_comm]
      have hlt : Hid (x % y < gk) := by
        show _ < _
        exact Nat.lt_of_lt_of_le (Nat.mod_lt _ H0.out) hgh.out
      have hbn : Hid (y < D ^ E ∧ x % y < D ^ E) := ⟨hbd.out.2, Nat.lt_of_le_of_lt (Nat.mod_le _ _) hbd.out.1⟩
      clear g5 n5 n6 hG6 nY6 n66 nY7 n67 hbX7 hr6 hr7 nX nY hgc hbd hgh hG
      go_wp2_with fail
      go_roundg (x % y)
      case measure => exact hlt.out
      case rel => exact ⟨y, x % y, Nat.le_refl _, ⟨sY, kY, cY, hbX8, nY8⟩, ⟨s6, k6, c6, hbY8, n68⟩, hgn, hbn, hr8, hG8⟩
end Go.Proofs.Ytljfhiikoimdiaa
