/-
  Records: the document's Join.
-/
import Derived.Test.YtcioefmldcmhgaaGZ3
import Derived.Lib.SlBytesConst
import Derived.Test.YtcioefmldcmhgaaKJoin
namespace Go.Proofs.Ytcioefmldcmhgaa
open Go.RowKit
set_option maxRecDepth 100000
set_option linter.unusedVariables false
set_option linter.unusedSimpArgs false

theorem zeros_own {w : World} {base g z : Nat} (h : w.ownsRow base 5 1 (.slice (some ⟨g, 0, none⟩) z z) z (madeCells #[.int .u8 0] z).toList) : BySl w (some ⟨g, 0, none⟩) (List.replicate z 0) := by
  refine ⟨Or.inr ⟨_, rfl, fun i hi => ?_⟩, fun x hx => by rw [List.eq_of_mem_replicate hx]; decide⟩
  rw [List.length_replicate] at hi
  rw [List.getElem_replicate]
  refine h.cells rfl i _ ?_
  have e : (madeCells #[.int .u8 0] z).toList = List.replicate z (.int .u8 0) := toList_madeCells_one _ _
  rw [e, List.getElem?_replicate, if_pos hi]; rfl
set_option maxHeartbeats 16000000 in
theorem Rec_any (w : World) (k d n : Nat) (hn : n ≤ 1000) :
    Calls Try.prog 55 #[.int .u8 (k : Int), .int .u8 (d : Int), .int .i64 (n : Int)] w (fun e w' => ∃ g, e = .returned (.agg #[.int .u8 (k : Int), .int .u8 (d : Int), .slice (some ⟨g, 0, none⟩) n n]) ∧ w.heap.size ≤ g ∧ BySl w' (some ⟨g, 0, none⟩) (List.replicate n 0) ∧ w.grownBy w' none) := by
  obtain ⟨i1, hi, hz0, hz1, hz2⟩ := info_partsU
  have hG := World.grownBy_alloc w (.cells #[.int .u8 0, .int .u8 0, .slice none 0 0] 45) none
  have Br := heap_new w (.cells #[.int .u8 0, .int .u8 0, .slice none 0 0] 45) w.heap.size rfl
  go_enter Try.func55, Try.ntmps55
  go_wp2_with (at_make; refine wpList_make_full _ rfl _ _ 22 rfl _ 5 i1 (.int .u8 0) 1 Try.underlying22 hi hz0 hz1 .i64 .i64 _ _ n rfl rfl (by first | omega | (unfold wrap64; omega)) (by first | omega | (unfold wrap64; omega)) (by rw [hz2]; omega) (by unfold maxLen; omega) (Nat.le_refl _) ?_)
  intro w1 hown hg1
  have HZ := Lib.hid (zeros_own hown)
  have hgA := grown_trans hG hg1
  have Br1 := heap_kept hg1 Br
  clear hown
  obtain ⟨C0, C1, C2, F0, F1, F2⟩ := box_cells3 Br1
  have B2 := heap_set3 Br1 (.int .u8 (k : Int)) (.int .u8 (d : Int)) (.slice (some ⟨w.heap.size + 1, 0, none⟩) n n)
  have g2 := grown_put3 hgA (Nat.le_refl w.heap.size) (.int .u8 (k : Int)) (.int .u8 (d : Int)) (.slice (some ⟨w.heap.size + 1, 0, none⟩) n n)
  have hz := World.grownBy
  obtain ⟨D0, D1, D2, _, _, _⟩ := box_cells3 B2
  have hZ2 : BySl (((w1.setCell ⟨w.heap.size, 0, none⟩ (.int .u8 (k : Int))).setCell ⟨w.heap.size, 1, none⟩ (.int .u8 (d : Int))).setCell ⟨w.heap.size, 2, none⟩ (.slice (some ⟨w.heap.size + 1, 0, none⟩) n n)) (some ⟨w.heap.size + 1, 0, none⟩) (List.replicate n 0) := by
    refine ⟨HZ.out.1.imp id fun ⟨a, e, hc⟩ => ⟨a, e, fun i hi => ?_⟩, HZ.out.2⟩
    have gp : w1.grownBy (((w1.setCell ⟨w.heap.size, 0, none⟩ (.int .u8 (k : Int))).setCell ⟨w.heap.size, 1, none⟩ (.int .u8 (d : Int))).setCell ⟨w.heap.size, 2, none⟩ (.slice (some ⟨w.heap.size + 1, 0, none⟩) n n)) (some w.heap.size) := grown_set (grown_set (grown_set (grown_refl _ _) 0 _) 1 _) 2 _
    refine gp.cell (hc i hi) ?_
    cases e
    have hb : ((⟨w.heap.size + 1, 0, none⟩ : Addr).add i).block = w.heap.size + 1 := by unfold Addr.add; split <;> rfl
    rw [hb]
    intro h; have := Option.some.inj h; omega
  have HF := Lib.hid (And.intro hZ2 g2)
  clear hG Br hg1 hgA Br1 B2 g2 hZ2 hz
  go_wp2_with fail
  exact bodyPost_ret (v := .agg #[.int .u8 (k : Int), .int .u8 (d : Int), .slice (some ⟨w.heap.size + 1, 0, none⟩) n n]) (by simp [results, Try.results55, go_sem, D0, D1, D2]) rfl ⟨_, rfl, by omega, HF.out⟩
theorem Rec_0 (w : World) : Calls Try.prog 55 #[.int .u8 0, .int .u8 2, .int .i64 2] w (fun e w' => ∃ g, e = .returned (.agg #[.int .u8 0, .int .u8 2, .slice (some ⟨g, 0, none⟩) 2 2]) ∧ w.heap.size ≤ g ∧ BySl w' (some ⟨g, 0, none⟩) (List.replicate 2 0) ∧ w.grownBy w' none) := Rec_any w 0 2 2 (by decide)
theorem Rec_1 (w : World) : Calls Try.prog 55 #[.int .u8 1, .int .u8 2, .int .i64 24] w (fun e w' => ∃ g, e = .returned (.agg #[.int .u8 1, .int .u8 2, .slice (some ⟨g, 0, none⟩) 24 24]) ∧ w.heap.size ≤ g ∧ BySl w' (some ⟨g, 0, none⟩) (List.replicate 24 0) ∧ w.grownBy w' none) := Rec_any w 1 2 24 (by decide)
theorem Rec_3 (w : World) : Calls Try.prog 55 #[.int .u8 3, .int .u8 5, .int .i64 16] w (fun e w' => ∃ g, e = .returned (.agg #[.int .u8 3, .int .u8 5, .slice (some ⟨g, 0, none⟩) 16 16]) ∧ w.heap.size ≤ g ∧ BySl w' (some ⟨g, 0, none⟩) (List.replicate 16 0) ∧ w.grownBy w' none) := Rec_any w 3 5 16 (by decide)
theorem BySl.offB {W W' : World} {g q : Nat} {l : List Nat} (h : BySl W (some ⟨g, 0, none⟩) l) (hg : W.grownBy W' (some q)) (hne : g ≠ q) : BySl W' (some ⟨g, 0, none⟩) l := by
  refine ⟨h.1.imp id fun ⟨a, e, hc⟩ => ⟨a, e, fun i hi => ?_⟩, h.2⟩
  refine hg.cell (hc i hi) ?_
  cases e
  have hb : ((⟨g, 0, none⟩ : Addr).add i).block = g := by unfold Addr.add; split <;> rfl
  rw [hb]
  intro h; exact hne (Option.some.inj h)
/-- Four records in a block of their own. -/
theorem four_recs {W : World} {p a1 a2 a3 a4 : Nat} (hb : W.heap[p]? = some (.cells #[.int .u8 0, .int .u8 2, .slice (some ⟨a1, 0, none⟩) 2 2, .int .u8 1, .int .u8 2, .slice (some ⟨a2, 0, none⟩) 24 24, .int .u8 2, .int .u8 6, .slice (some ⟨a3, 0, none⟩) 2 2, .int .u8 3, .int .u8 5, .slice (some ⟨a4, 0, none⟩) 16 16] 45 (0, 0)))
    (h1 : BySl W (some ⟨a1, 0, none⟩) (List.replicate 2 0)) (h2 : BySl W (some ⟨a2, 0, none⟩) (List.replicate 24 0)) (h3 : BySl W (some ⟨a3, 0, none⟩) [108, 98]) (h4 : BySl W (some ⟨a4, 0, none⟩) (List.replicate 16 0)) :
    RecsV W (.slice (some ⟨p, 0, none⟩) 4 4) [(0, 2, List.replicate 2 0), (1, 2, List.replicate 24 0), (2, 6, [108, 98]), (3, 5, List.replicate 16 0)] := by
  refine ⟨_, 4, rfl, fun i hi => ?_, ⟨(fun e => by cases e), by decide, by decide⟩, ?_⟩
  · match i, hi with
    | 0, _ => exact ⟨_, _, 2, rfl, cell_of hb rfl, cell_of hb rfl, cell_of hb rfl, h1, (fun e => by cases e), Nat.le_refl _, by decide⟩
    | 1, _ => exact ⟨_, _, 24, rfl, cell_of hb rfl, cell_of hb rfl, cell_of hb rfl, h2, (fun e => by cases e), Nat.le_refl _, by decide⟩
    | 2, _ => exact ⟨_, _, 2, rfl, cell_of hb rfl, cell_of hb rfl, cell_of hb rfl, h3, (fun e => by cases e), Nat.le_refl _, by decide⟩
    | 3, _ => exact ⟨_, _, 16, rfl, cell_of hb rfl, cell_of hb rfl, cell_of hb rfl, h4, (fun e => by cases e), Nat.le_refl _, by decide⟩
  · intro r hr
    simp at hr
    rcases hr with rfl | rfl | rfl | rfl <;> exact ⟨by decide, by decide⟩
def bareL : KLib := ([(0, 2, List.replicate 2 0), (1, 2, List.replicate 24 0), (2, 6, [108, 98]), (3, 5, List.replicate 16 0)], [])
set_option maxHeartbeats 16000000 in
theorem Bare7_any (w : World) : Calls Try.prog 33 #[] w (fun e w' => ∃ v, e = .returned v ∧ LibV w' v bareL ∧ w.grownBy w' none) := by
  have kc := Lib.run_convert_bytes_const (P := Try.prog) (w.alloc (.cells #[.slice none 0 0, .slice none 0 0] 27)) 22 5 #[.int .u8 108, .int .u8 98] 2 2 Try.underlying22 Try.underlying5
  have hsz : (w.alloc (.cells #[.slice none 0 0, .slice none 0 0] 27)).heap.size = w.heap.size + 1 := by simp
  rw [hsz] at kc
  have hG1 := World.grownBy_alloc w (.cells #[.slice none 0 0, .slice none 0 0] 27) none
  have Bl := heap_new w (.cells #[.slice none 0 0, .slice none 0 0] 27) w.heap.size rfl
  have gB := World.grownBy_alloc (w.alloc (.cells #[.slice none 0 0, .slice none 0 0] 27)) (.cells #[.int .u8 108, .int .u8 98] 5 (2, 3)) none
  have Bb := heap_new (w.alloc (.cells #[.slice none 0 0, .slice none 0 0] 27)) (.cells #[.int .u8 108, .int .u8 98] 5 (2, 3)) (w.heap.size + 1) (by simp)
  have gC := World.grownBy_alloc ((w.alloc (.cells #[.slice none 0 0, .slice none 0 0] 27)).alloc (.cells #[.int .u8 108, .int .u8 98] 5 (2, 3))) (.cells #[.int .u8 2, .int .u8 6, .slice (some ⟨w.heap.size + 1, 0, none⟩) 2 2] 45) none
  have Br := heap_new ((w.alloc (.cells #[.slice none 0 0, .slice none 0 0] 27)).alloc (.cells #[.int .u8 108, .int .u8 98] 5 (2, 3))) (.cells #[.int .u8 2, .int .u8 6, .slice (some ⟨w.heap.size + 1, 0, none⟩) 2 2] 45) (w.heap.size + 1 + 1) (by simp)
  have Bl2 := heap_kept gC (heap_kept gB Bl)
  have Bb2 := heap_kept gC Bb
  have hG := grown_trans (grown_trans hG1 gB) gC
  clear hG1 gB gC Bl Bb hsz
  go_enter Try.func33, Try.ntmps33
  go_wp2_with fail
  generalize (((w.alloc (.cells #[.slice none 0 0, .slice none 0 0] 27)).alloc (.cells #[.int .u8 108, .int .u8 98] 5 (2, 3))).alloc (.cells #[.int .u8 2, .int .u8 6, .slice (some ⟨w.heap.size + 1, 0, none⟩) 2 2] 45)) = w0 at *
  obtain ⟨C0, C1, C2, _, _, _⟩ := box_cells3 Br
  have HBR := Lib.hid Br
  have HBL := Lib.hid Bl2
  have HBB := Lib.hid Bb2
  clear Br Bl2 Bb2
  go_region_held3 (fun w' => w'.cell? ⟨w.heap.size + 1 + 1, 0, none⟩ = some (.int .u8 2) ∧ w'.cell? ⟨w.heap.size + 1 + 1, 1, none⟩ = some (.int .u8 6) ∧ w'.cell? ⟨w.heap.size + 1 + 1, 2, none⟩ = some (.slice (some ⟨w.heap.size + 1, 0, none⟩) 2 2))
    (first | assumption | exact ⟨C0, C1, C2⟩ | exact ⟨D0, D1, D2⟩ | exact ⟨E0, E1, E2⟩ | exact ⟨F0, F1, F2⟩ | exact ⟨G0, G1, G2⟩ | go_keep)
    (first
      | (go_at_call 55; (with_reducible refine (Rec_0 w0.drew).mono ?_); rintro e w1 ⟨g1, rfl, l1, b1, hg1⟩; have hG1 := grown_trans (grown_drew hG) hg1; obtain ⟨D0, D1, D2, _, _, _⟩ := box_cells3 (heap_kept (grown_trans (grown_drew (grown_refl w0 none)) hg1) HBR.out); have HL1 := Lib.hid (show w0.heap.size ≤ g1 from l1); clear l1; have HB1 := Lib.hid (And.intro b1 (grown_trans (grown_drew (grown_refl w0 none)) hg1)); clear b1 hg1)
      | (go_at_call 55; (with_reducible refine (Rec_1 w1).mono ?_); rintro e w2 ⟨g2, rfl, l2, b2, hg2⟩; have hG2 := grown_trans hG1 hg2; have HL2 := Lib.hid l2; clear l2; have HB2 := Lib.hid (And.intro b2 hg2); obtain ⟨E0, E1, E2, _, _, _⟩ := box_cells3 (heap_kept (grown_trans HB1.out.2 hg2) HBR.out); clear b2 hg2)
      | (go_at_call 55; (with_reducible refine (Rec_3 w2).mono ?_); rintro e w3 ⟨g3, rfl, l3, b3, hg3⟩; have hG3 := grown_trans hG2 hg3; have HL3 := Lib.hid l3; clear l3; have HB3 := Lib.hid (And.intro b3 hg3); obtain ⟨F0, F1, F2, _, _, _⟩ := box_cells3 (heap_kept (grown_trans (grown_trans HB1.out.2 HB2.out.2) hg3) HBR.out); have HBL3 := heap_kept (grown_trans (grown_trans HB1.out.2 HB2.out.2) hg3) HBL.out; have HBL4 := Lib.hid HBL3; have HGX := Lib.hid hG3; (have gX := World.grownBy_alloc w3 (.cells #[.int .u8 0, .int .u8 2, .slice (some ⟨g1, 0, none⟩) 2 2, .int .u8 1, .int .u8 2, .slice (some ⟨g2, 0, none⟩) 24 24, .int .u8 2, .int .u8 6, .slice (some ⟨w.heap.size + 1, 0, none⟩) 2 2, .int .u8 3, .int .u8 5, .slice (some ⟨g3, 0, none⟩) 16 16] 45) none); (obtain ⟨L0, L1, FL0, FL1⟩ := box_cells2 (heap_kept gX HBL3)); (obtain ⟨G0, G1, G2, _, _, _⟩ := box_cells3 (heap_unset2 (g := w.heap.size) (heap_kept gX (heap_kept (grown_trans (grown_trans HB1.out.2 HB2.out.2) hg3) HBR.out)) (by omega) (.slice (some ⟨w3.heap.size, 0, none⟩) 4 4) (.slice none 0 0))); clear b3 hg3 gX HBL3 hG3))
  have gX := World.grownBy_alloc w3 (.cells #[.int .u8 0, .int .u8 2, .slice (some ⟨g1, 0, none⟩) 2 2, .int .u8 1, .int .u8 2, .slice (some ⟨g2, 0, none⟩) 24 24, .int .u8 2, .int .u8 6, .slice (some ⟨w.heap.size + 1, 0, none⟩) 2 2, .int .u8 3, .int .u8 5, .slice (some ⟨g3, 0, none⟩) 16 16] 45) none
  have Bh := heap_new w3 (.cells #[.int .u8 0, .int .u8 2, .slice (some ⟨g1, 0, none⟩) 2 2, .int .u8 1, .int .u8 2, .slice (some ⟨g2, 0, none⟩) 24 24, .int .u8 2, .int .u8 6, .slice (some ⟨w.heap.size + 1, 0, none⟩) 2 2, .int .u8 3, .int .u8 5, .slice (some ⟨g3, 0, none⟩) 16 16] 45) w3.heap.size rfl
  have BL9 := heap_kept gX HBL4.out
  have gp := grown_put2b (W := w3.alloc (.cells #[.int .u8 0, .int .u8 2, .slice (some ⟨g1, 0, none⟩) 2 2, .int .u8 1, .int .u8 2, .slice (some ⟨g2, 0, none⟩) 24 24, .int .u8 2, .int .u8 6, .slice (some ⟨w.heap.size + 1, 0, none⟩) 2 2, .int .u8 3, .int .u8 5, .slice (some ⟨g3, 0, none⟩) 16 16] 45)) (g := w.heap.size) (.slice (some ⟨w3.heap.size, 0, none⟩) 4 4) (.slice none 0 0)
  have hs0 : w.heap.size + 1 + 1 < w0.heap.size := heap_lt HBR.out
  have hs1 := HB1.out.2.size
  have hs2 := HB2.out.2.size
  have hs3 := HB3.out.2.size
  have hl1 := HL1.out
  have hl2 := HL2.out
  have hl3 := HL3.out
  have b1 := ((HB1.out.1.kept (grown_trans HB2.out.2 HB3.out.2)).kept gX).offB gp (by omega)
  have b2 := ((HB2.out.1.kept HB3.out.2).kept gX).offB gp (by omega)
  have b3 := (HB3.out.1.kept gX).offB gp (by omega)
  have hBb := heap_kept gX (heap_kept (grown_trans (grown_trans HB1.out.2 HB2.out.2) HB3.out.2) HBB.out)
  have bb : BySl (w3.alloc (.cells #[.int .u8 0, .int .u8 2, .slice (some ⟨g1, 0, none⟩) 2 2, .int .u8 1, .int .u8 2, .slice (some ⟨g2, 0, none⟩) 24 24, .int .u8 2, .int .u8 6, .slice (some ⟨w.heap.size + 1, 0, none⟩) 2 2, .int .u8 3, .int .u8 5, .slice (some ⟨g3, 0, none⟩) 16 16] 45)) (some ⟨w.heap.size + 1, 0, none⟩) [108, 98] := ⟨Or.inr ⟨_, rfl, fun i hi => by
    match i, hi with
    | 0, _ => exact cell_of hBb rfl
    | 1, _ => exact cell_of hBb rfl⟩, by decide⟩
  have b4 := bb.offB gp (by omega)
  have BH9 := heap_off gp Bh (by intro e; have := Option.some.inj e; omega)
  have BL8 := heap_set2 BL9 (.slice (some ⟨w3.heap.size, 0, none⟩) 4 4) (.slice none 0 0)
  obtain ⟨N0, N1, _, _⟩ := box_cells2 BL8
  have hgF := grown_put2 (grown_trans HGX.out gX) (Nat.le_refl w.heap.size) (.slice (some ⟨w3.heap.size, 0, none⟩) 4 4) (.slice none 0 0)
  have hF : Hid (LibV (((w3.alloc (.cells #[.int .u8 0, .int .u8 2, .slice (some ⟨g1, 0, none⟩) 2 2, .int .u8 1, .int .u8 2, .slice (some ⟨g2, 0, none⟩) 24 24, .int .u8 2, .int .u8 6, .slice (some ⟨w.heap.size + 1, 0, none⟩) 2 2, .int .u8 3, .int .u8 5, .slice (some ⟨g3, 0, none⟩) 16 16] 45)).setCell ⟨w.heap.size, 0, none⟩ (.slice (some ⟨w3.heap.size, 0, none⟩) 4 4)).setCell ⟨w.heap.size, 1, none⟩ (.slice none 0 0)) (.agg #[.slice (some ⟨w3.heap.size, 0, none⟩) 4 4, .slice none 0 0]) bareL ∧ w.grownBy (((w3.alloc (.cells #[.int .u8 0, .int .u8 2, .slice (some ⟨g1, 0, none⟩) 2 2, .int .u8 1, .int .u8 2, .slice (some ⟨g2, 0, none⟩) 24 24, .int .u8 2, .int .u8 6, .slice (some ⟨w.heap.size + 1, 0, none⟩) 2 2, .int .u8 3, .int .u8 5, .slice (some ⟨g3, 0, none⟩) 16 16] 45)).setCell ⟨w.heap.size, 0, none⟩ (.slice (some ⟨w3.heap.size, 0, none⟩) 4 4)).setCell ⟨w.heap.size, 1, none⟩ (.slice none 0 0)) none) :=
    Lib.hid ⟨⟨_, _, rfl, four_recs BH9 b1 b2 b4 b3, none, 0, rfl, fun i hi => by simp [bareL] at hi, ⟨fun _ => ⟨rfl, rfl⟩, Nat.le_refl _, by decide⟩⟩, hgF⟩
  clear gX Bh BL9 gp hs0 hs1 hs2 hs3 hl1 hl2 hl3 b1 b2 b3 hBb bb b4 BH9 BL8 hgF
  go_wp2_with fail
  exact bodyPost_ret (v := .agg #[.slice (some ⟨w3.heap.size, 0, none⟩) 4 4, .slice none 0 0]) (by simp [results, Try.results33, go_sem, N0, N1]) rfl ⟨_, rfl, hF.out⟩
end Go.Proofs.Ytcioefmldcmhgaa
namespace Go.Proofs.Ytcioefmldcmhgaa
open Go.RowKit
set_option maxRecDepth 100000
set_option linter.unusedVariables false
set_option linter.unusedSimpArgs false

def bareB : List Nat := joinB (recT bareL)
theorem bare_ok : okL bareL = true := by decide +kernel
theorem bare_len : bareB.length = 64 := by decide +kernel
theorem bare_write : writeD bareL = (0, bareB) := by decide +kernel
theorem bare_parse : parseD bareB = (0, bareL, 64) := by kernel_rfl
def cutT : KLib := (bareL.1.take 3, [])
theorem cut_write : writeD cutT = (3, []) := by decide +kernel
theorem bare_size : (joinB (recT bareL)).length ≤ 1099511627776 := by decide +kernel
theorem cut_size : (joinB (recT cutT)).length ≤ 1099511627776 := by decide +kernel
theorem RecsV.cut {W : World} {s : Option Addr} {n c : Nat} {rs : List KRec} (h : RecsV W (.slice s n c) rs) (k : Nat) (hk : k ≤ n) : RecsV W (.slice s k c) (rs.take k) := by
  obtain ⟨s', c', e, h1, h2, h3⟩ := h
  cases e
  have hl : (rs.take k).length = k := by rw [List.length_take]; omega
  refine ⟨s, c, by rw [hl], fun i hi => ?_, ⟨fun e => ?_, by rw [hl]; exact Nat.le_trans hk h2.2.1, h2.2.2⟩, fun r hr => h3 r (List.mem_of_mem_take hr)⟩
  · rw [hl] at hi
    rw [List.getElem_take]
    exact h1 i (by omega)
  · have := h2.1 e; rw [hl]; exact ⟨by omega, this.2⟩
set_option maxHeartbeats 16000000 in
theorem GKnown_any (w : World) : Calls Try.prog 12 #[] w (RetYes w) := by
  go_enter Try.func12, Try.ntmps12
  go_wp2_with fail
  refine (Bare7_any w).mono ?_
  rintro e w1 ⟨v, rfl, hv, hg1⟩
  obtain ⟨sa, ca, sb, cb, rfl⟩ := hv.two
  rw [show bareL.1.length = 4 from rfl, show bareL.2.length = 0 from rfl] at hv ⊢
  have gA := World.grownBy_alloc w1 (.cells #[.slice sa 4 ca, .slice sb 0 cb] 27) none
  have Bt := heap_new w1 (.cells #[.slice sa 4 ca, .slice sb 0 cb] 27) w1.heap.size rfl
  obtain ⟨C0, C1, _, _⟩ := box_cells2 Bt
  have HV := Lib.hid (hv.kept gA)
  have HV1 := Lib.hid hv
  have HGA := Lib.hid gA
  have hG := grown_trans hg1 gA
  have hG1 := hg1
  clear hv hg1
  go_wp2_with fail
  generalize (w1.alloc (.cells #[.slice sa 4 ca, .slice sb 0 cb] 27)) = w2 at *
  refine (Write_any w2 _ bareL HV.out bare_size).mono ?_
  rw [bare_write]
  rintro e w3 ⟨vb, rfl, hb, hg3⟩
  obtain ⟨s3, c3, rfl, hs3, hz3, hc3, hm3⟩ := hb.shape
  rw [bare_len] at hz3 hc3 ⊢
  obtain ⟨a3, rfl⟩ : ∃ a, s3 = some a := by
    cases s3 with
    | none => have := (hz3 rfl).1; omega
    | some a => exact ⟨a, rfl⟩
  have hgx3 := hg3
  have Bt3 := heap_kept hg3 Bt
  have hG3 := grown_trans hG hg3
  have HV3 := Lib.hid (HV.out.kept hg3)
  have HS3 := Lib.hid hs3
  clear hb hg3 hs3 hz3 Bt hG C0 C1 gA HV
  go_wp2_with fail
  refine (Parse_some w3 a3 64 c3 bareB bare_len HS3.out hc3 hm3 (by decide)).mono ?_
  rw [bare_parse]
  rintro e w4 ⟨u, rfl, hu, hg4⟩
  obtain ⟨s4, c4, s5, c5, rfl⟩ := hu.v.two
  rw [show bareL.1.length = 4 from rfl, show bareL.2.length = 0 from rfl] at hu ⊢
  have gB := World.grownBy_alloc w4 (.cells #[.slice s4 4 c4, .slice s5 0 c5] 27) none
  have Bu := heap_new w4 (.cells #[.slice s4 4 c4, .slice s5 0 c5] 27) w4.heap.size rfl
  have Bt4 := heap_kept gB (heap_kept hg4 Bt3)
  have hG4 := grown_trans (grown_trans hG3 hg4) gB
  have HU := Lib.hid (hu.kept gB)
  have HV4 := Lib.hid ((HV3.out.kept hg4).kept gB)
  have hsz := heap_lt (heap_kept hg4 Bt3)
  have HG14 := Lib.hid (grown_trans (grown_trans (grown_trans HGA.out hgx3) hg4) gB)
  clear hu hg4 gB HV3 HS3 Bt3 hG3
  dsimp only
  obtain ⟨C0, C1, F0, _⟩ := box_cells2 Bt4
  have i3 : (3 : Int) ≤ (ca : Int) := by
    obtain ⟨_, _, e, ⟨_, _, e2, _, h, _⟩, _⟩ := HV4.out
    cases e; cases e2
    have := h.2.1
    have e4 : bareL.1.length = 4 := rfl
    omega
  have gp : (w4.alloc (.cells #[.slice s4 4 c4, .slice s5 0 c5] 27)).grownBy ((w4.alloc (.cells #[.slice s4 4 c4, .slice s5 0 c5] 27)).setCell ⟨w1.heap.size, 0, none⟩ (.slice sa 3 ca)) (some w1.heap.size) := grown_set (grown_refl _ _) 0 _
  have HX := Lib.hid (And.intro gp (And.intro Bt4 (And.intro Bu hsz)))
  clear gp Bt4 Bu hsz
  go_wp2_with fail
  have hG5 : w.grownBy ((w4.alloc (.cells #[.slice s4 4 c4, .slice s5 0 c5] 27)).setCell ⟨w1.heap.size, 0, none⟩ (.slice sa 3 ca)) none := grown_new hG4 HX.out.1 (by have := HGA.out.size; have := hG1.size; omega)
  have hv5 : LibV ((w4.alloc (.cells #[.slice s4 4 c4, .slice s5 0 c5] 27)).setCell ⟨w1.heap.size, 0, none⟩ (.slice sa 3 ca)) (.agg #[.slice sa 3 ca, .slice sb 0 cb]) cutT := by
    have h1 : w1.grownBy ((w4.alloc (.cells #[.slice s4 4 c4, .slice s5 0 c5] 27)).setCell ⟨w1.heap.size, 0, none⟩ (.slice sa 3 ca)) none := grown_new HG14.out HX.out.1 (Nat.le_refl _)
    obtain ⟨_, _, e, k1, k2⟩ := HV1.out.kept h1
    cases e
    exact ⟨_, _, rfl, k1.cut 3 (by decide), k2⟩
  have hu5 := Lib.hid (HU.out.off HX.out.1 HX.out.2.1 (by decide) (by decide) (by decide) (by decide))
  have Bu5 := heap_off HX.out.1 HX.out.2.2.1 (by intro e; have := Option.some.inj e; have := HX.out.2.2.2; omega)
  have HV5 := Lib.hid hv5
  clear hv5 HX C0 C1 F0 HG14 HU HV4 HV1 HGA
  generalize ((w4.alloc (.cells #[.slice s4 4 c4, .slice s5 0 c5] 27)).setCell ⟨w1.heap.size, 0, none⟩ (.slice sa 3 ca)) = w5 at *
  refine (Write_any w5 _ cutT HV5.out cut_size).mono ?_
  rw [cut_write]
  rintro e w6 ⟨vb, rfl, hb, hg6⟩
  obtain ⟨s6, c6, rfl, _⟩ := hb.shape
  have Bu6 := heap_kept hg6 Bu5
  have HU6 := Lib.hid (hu5.out.kept hg6).v
  have hG6 := grown_trans hG5 hg6
  obtain ⟨C0, C1, _, _⟩ := box_cells2 Bu6
  clear hb hg6 Bu5 Bu6 hu5 HV5 hG5
  go_wp2_with fail
  refine (Valid_any w6 _ bareL HU6.out).mono ?_
  rw [bare_ok]
  rintro e w7 ⟨rfl, hg7⟩
  have HG7 := Lib.hid (grown_trans hG6 hg7)
  clear hG6 hg7 C0 C1
  go_wp2_with fail
  go_ret
  exact ⟨rfl, HG7.out⟩
end Go.Proofs.Ytcioefmldcmhgaa
namespace Go.Proofs.Ytcioefmldcmhgaa
open Go.RowKit
set_option maxRecDepth 100000
set_option linter.unusedVariables false
set_option linter.unusedSimpArgs false

set_option maxHeartbeats 16000000 in
theorem Write_no (w : World) (v : Value) (t : KLib) (hv : LibV w v t) (hb : okL t = false) :
    Calls Try.prog 15 #[v] w (RetJoin w (3, [])) := by
  obtain ⟨sa, ca, sb, cb, rfl⟩ := hv.two
  have hG := World.grownBy_alloc w (.cells #[.slice sa t.1.length ca, .slice sb t.2.length cb] 27) none
  have Bt := heap_new w (.cells #[.slice sa t.1.length ca, .slice sb t.2.length cb] 27) w.heap.size rfl
  obtain ⟨C0, C1, _, _⟩ := box_cells2 Bt
  have HV := Lib.hid hv
  have HB := Lib.hid hb
  clear hv hb
  go_enter Try.func15, Try.ntmps15
  go_wp2_with fail
  generalize (w.alloc (.cells #[.slice sa t.1.length ca, .slice sb t.2.length cb] 27)) = wa at *
  refine (Valid_any wa _ t (HV.out.kept hG)).mono ?_
  rw [HB.out]
  rintro e w1 ⟨rfl, hg1⟩
  have Bt1 := heap_kept hg1 Bt
  have hG1 := grown_trans hG hg1
  clear C0 C1 hg1 hG Bt
  obtain ⟨C0, C1, _, _⟩ := box_cells2 Bt1
  have hF : Hid (RetJoin w (3, []) (.returned (.tuple #[.slice none 0 0, .int .i64 3])) w1) := Lib.hid (by
    exact ⟨_, rfl, OwnB.nil _ _, hG1⟩)
  clear hG1 Bt1
  go_wp2_with fail
  go_ret2
  exact hF.out
/-- Rows that are right are not long. -/
theorem rows_short {l : List KRec} (h : ∀ r ∈ l, okR r) : (joinB l).length ≤ 65534 * l.length := by
  induction l with
  | nil => simp [joinB]
  | cons r l ih =>
    have h1 := ih fun x hx => h x (List.mem_cons_of_mem _ hx)
    have h2 := (h r List.mem_cons_self).2
    rw [joinB_cons, List.length_append, recB_len, List.length_cons]
    omega
theorem few_short {t : KLib} (h : okL t = true) (hn : (recT t).length ≤ 400) : (joinB (recT t)).length ≤ 1099511627776 := by
  have := rows_short fun r hr => rt_okR (recT_rt ((okL_iff t).1 h) r hr)
  omega
theorem Write_few (w : World) (v : Value) (t : KLib) (hv : LibV w v t) (hn : (recT t).length ≤ 400) :
    Calls Try.prog 15 #[v] w (RetJoin w (writeD t)) := by
  cases hb : okL t with
  | false => rw [write_bad hb]; exact Write_no w v t hv hb
  | true => exact Write_any w v t hv (few_short hb hn)
end Go.Proofs.Ytcioefmldcmhgaa
namespace Go.Proofs.Ytcioefmldcmhgaa
open Go.RowKit
set_option maxRecDepth 100000
set_option linter.unusedVariables false
set_option linter.unusedSimpArgs false

def JoinP (w : World) (rs : List KRec) : Ending → World → Prop := RetJoin w (joinD rs)
set_option maxHeartbeats 32000000 in
theorem RJoin_any (w : World) (s : Option Addr) (n cap : Nat) (rs : List KRec) (hn : rs.length = n) (hl : RcSl w s rs) (hk : ∀ r ∈ rs, r.1 < 256 ∧ r.2.1 < 256) (hb : (joinB rs).length ≤ 1099511627776) (hm : n ≤ 9223372036854775807) :
    Calls Try.prog 20 #[.slice s n cap] w (RetJoin w (joinD rs)) := by
  obtain ⟨i1, hi, hz0, hz1, hz2⟩ := info_partsU
  have HR := Lib.hid hl
  have HN := Lib.hid hn
  have HK := Lib.hid hk
  have HB := Lib.hid hb
  have HQ : Hid (∀ x, x = joinD rs → ∀ W v, OwnB W w.heap.size v x.2 → w.grownBy W none → RetJoin w (joinD rs) (.returned (.tuple #[v, .int .i64 (x.1 : Int)])) W) := Lib.hid (fun x hx W v h1 h2 => by rw [← hx]; exact ⟨v, rfl, h1, h2⟩)
  obtain ⟨P, hP⟩ : ∃ P, RetJoin w (joinD rs) = P := ⟨_, rfl⟩
  rw [hP] at HQ ⊢
  clear hP hl hn hk hb
  have hG : w.grownBy w none := grown_refl _ _
  go_enter Try.func20, Try.ntmps20
  go_wp2_with fail
  go_loopg [4] n (fun gh i wr => ∃ k : Nat, k ≤ n ∧ n - k ≤ gh ∧ i = .int .i64 (k : Int) ∧ Hid (∀ j (hj : j < rs.length), j < k → okR rs[j]) ∧ w = wr)
  case atStart => exact ⟨0, Nat.zero_le _, Nat.le_refl _, rfl, Lib.hid (fun j _ h => by omega), rfl⟩
  case round =>
    obtain ⟨k, hk, hgh, rfl, HOK, rfl⟩ := hrel
    by_cases hlt : k < n
    · have f1 : decide ((k : Int) < (n : Int)) = true := decide_eq_true (by omega)
      have hkr : k < rs.length := by rw [HN.out]; exact hlt
      obtain ⟨a, q, sb, cb, kd, dt, bd, rfl, hq, hr, A0, A1, A2, HBY, hz, hcb, hmb⟩ := HR.out.at k hkr
      have HOKR : Hid (okR rs[k] ↔ (bd.length % 2 = 0 ∧ bd.length ≤ 65530)) := Lib.hid (by rw [hr]; exact Iff.rfl)
      clear hr HBY
      have q1 := tmod_nat bd.length 2
      have q2 : ((bd.length : Int) % 2) = ((bd.length % 2 : Nat) : Int) := by omega
      obtain ⟨R, hR⟩ : ∃ R, bd.length % 2 = R := ⟨_, rfl⟩
      have HRE := Lib.hid hR
      rw [hR] at q1 q2
      by_cases hodd : R = 1
      · have f2 : ((R : Int) == 1) = true := beq_iff_eq.2 (by omega)
        have hF := Lib.hid (HQ.out (3, []) (joinD_at hkr (fun h => by have := HOKR.out.1 h; have := HRE.out; omega)).symm w (.slice none 0 0) (OwnB.nil _ _) (grown_refl _ _))
        clear hR hodd
        go_wp2_with fail
        exact hF.out
      · have f2 : ((R : Int) == 1) = false := beq_eq_false_iff_ne.2 (by omega)
        by_cases hbig : 65530 < bd.length
        · have f3 : decide ((65530 : Int) < (bd.length : Int)) = true := decide_eq_true (by omega)
          have hF := Lib.hid (HQ.out (3, []) (joinD_at hkr (fun h => by have := HOKR.out.1 h; omega)).symm w (.slice none 0 0) (OwnB.nil _ _) (grown_refl _ _))
          clear hR hodd hbig
          go_wp2_with fail
          exact hF.out
        · have f3 : decide ((65530 : Int) < (bd.length : Int)) = false := decide_eq_false (by omega)
          have HOK2 : Hid (okR rs[k]) := Lib.hid (HOKR.out.2 (by omega))
          clear hR hodd hbig
          go_wp2_with fail
          go_roundg (n - (k + 1))
          case measure => omega
          case rel => exact ⟨k + 1, by omega, Nat.le_refl _, by go_num, Lib.hid (fun j hj h => by
              rcases Nat.lt_or_ge j k with h2 | h2
              · exact HOK.out j hj h2
              · obtain rfl : j = k := by omega
                exact HOK2.out), rfl⟩
    · have f1 : decide ((k : Int) < (n : Int)) = false := decide_eq_false (by omega)
      have HALL : Hid (∀ j (hj : j < rs.length), okR rs[j]) := Lib.hid (fun j hj => HOK.out j hj (by have := HN.out; omega))
      clear HOK hgh
      have hG : w.grownBy w none := grown_refl _ _
      go_wp2_with fail
      go_loopg [5, 6, 7] n (fun gh v i lst wr => ∃ k : Nat, k ≤ n ∧ n - k ≤ gh ∧ i = .int .i64 (k : Int) ∧ OwnB wr w.heap.size v (joinB (rs.take k)) ∧ w.grownBy wr none)
      case atStart => exact ⟨0, Nat.zero_le _, Nat.le_refl _, rfl, OwnB.nil _ _, hG⟩
      case round =>
        clear hG
        obtain ⟨k, hk, hgh, rfl, hO, hG⟩ := hrel
        by_cases hlt : k < n
        · have f1 : decide ((k : Int) < (n : Int)) = true := decide_eq_true (by omega)
          have hkr : k < rs.length := by rw [HN.out]; exact hlt
          obtain ⟨a, q, sb, cb, kd, dt, bd, rfl, hq, hr, A0, A1, A2, HBY, hz, hcb, hmb⟩ := HR.out.at k hkr
          have HOKR : Hid (okR rs[k] ↔ (bd.length % 2 = 0 ∧ bd.length ≤ 65530)) := Lib.hid (by rw [hr]; exact Iff.rfl)
          have hlb : bd.length ≤ 65530 := (HOKR.out.1 (HALL.out k hkr)).2
          have hk2 := HK.out _ (List.getElem_mem hkr)
          rw [hr] at hk2
          dsimp only at hk2
          obtain ⟨hkd, hdt⟩ := hk2
          have HAA := Lib.hid (And.intro A0 (And.intro A1 A2))
          replace A0 := hG.cell A0 (by simp)
          replace A1 := hG.cell A1 (by simp)
          replace A2 := hG.cell A2 (by simp)
          have HY := Lib.hid HBY
          have HG := Lib.hid hG
          have HO := Lib.hid hO
          obtain ⟨s0, c0, hv, _, _, _, _⟩ := hO.shape
          have hlen1 : (joinB (rs.take k)).length + 4 + bd.length ≤ 1099511627776 := by
            have h1 := joinB_take rs k hkr
            have h2 := joinB_len_take rs (k + 1)
            have h3 : (recB (kd, dt, bd)).length = bd.length + 4 := recB_len _
            rw [h1, List.length_append, hr, h3] at h2
            have := HB.out
            omega
          have HTK : Hid (joinB (rs.take (k + 1)) = joinB (rs.take k) ++ recB (kd, dt, bd)) := Lib.hid (by rw [joinB_take rs k hkr, hr])
          obtain ⟨L, hL⟩ : ∃ L, joinB (rs.take k) = L := ⟨_, rfl⟩
          rw [hL] at HO hv hlen1 HTK
          subst hv
          clear hr HBY hG hO hL
          obtain ⟨y0, hy0⟩ : ∃ y, (bd.length + 4) / 256 = y := ⟨_, rfl⟩
          obtain ⟨y1, hy1⟩ : ∃ y, (bd.length + 4) % 256 = y := ⟨_, rfl⟩
          have u0 : IntKind.i64.wrap ((bd.length : Int) + 4) = (bd.length : Int) + 4 := IntWalk.i64_in _ (by omega)
          have u1 : IntKind.i64.wrap (((bd.length : Int) + 4).tdiv 256) = (y0 : Int) := by
            rw [show (bd.length : Int) + 4 = ((bd.length + 4 : Nat) : Int) from by omega]
            rw [show (256 : Int) = ((256 : Nat) : Int) from rfl, ← Int.ofNat_tdiv, hy0]
            exact IntWalk.i64_in _ (by omega)
          have u2 : ((bd.length : Int) + 4).tmod 256 = (y1 : Int) := by
            rw [show (bd.length : Int) + 4 = ((bd.length + 4 : Nat) : Int) from by omega]
            have := tmod_nat (bd.length + 4) 256
            rw [hy1] at this
            exact this
          have u3 : ((bd.length : Int) + 4) / 256 = (y0 : Int) := by omega
          have u4 : ((bd.length : Int) + 4) % 256 = (y1 : Int) := by omega
          have u5 : IntKind.u8.wrap (y0 : Int) = (y0 : Int) := IntWalk.u8_in _ (by omega)
          have u6 : IntKind.u8.wrap (y1 : Int) = (y1 : Int) := IntWalk.u8_in _ (by omega)
          have u7 : (k : Int) < (n : Int) := by omega
          have HREC : Hid (recB (kd, dt, bd) = [y0, y1, kd, dt] ++ bd) := Lib.hid (by unfold recB; rw [hy0, hy1])
          have HY4 : Hid (∀ x ∈ [y0, y1, kd, dt], x < 256) := Lib.hid (by intro x hx; simp at hx; omega)
          clear hy0 hy1
          go_wp2_with fail
          have HOWN := Lib.hid HO.out.1
          have HL8 := Lib.hid HO.out.2
          have HB63 : Hid (L.length + 4 ≤ maxLen) := Lib.hid (by unfold maxLen; omega)
          have HBT : Hid ((L.length + 4) * 1 ≤ 140737488355328) := Lib.hid (by omega)
          have HBW : Hid (w.heap.size ≤ wr.heap.size) := Lib.hid HG.out.size
          have HGB : Hid (∀ W, wr.grownBy W none → w.grownBy W none) := Lib.hid (fun W h => grown_trans HG.out h)
          go_region_held3 (fun w' => w'.cell? q = some (.int .u8 (kd : Int)) ∧ w'.cell? ⟨q.block, q.off + 1, none⟩ = some (.int .u8 (dt : Int)))
            (first | assumption | exact ⟨A0, A1⟩ | go_keep)
            (first
              | (refine step_own_some rfl (.tmp 44) (.tmp 61) 22 rfl w.heap.size 5 i1 (.int .u8 0) 1 1 Try.underlying22 hi hz0 hz1 hz2 rfl (by decide) (.slice s0 L.length c0) L.length (bvs L) rfl (by first | exact own_kept HOWN.out (grown_drew (grown_alloc (grown_refl _ _) _)) | exact own_kept HOWN.out (grown_alloc (grown_drew (grown_refl _ _)) _) | exact own_kept HOWN.out (grown_alloc (grown_refl _ _) _)) ⟨wr.heap.size, 0, none⟩ 4 4 (bvs [y0, y1, kd, dt]) rfl rfl (World.news_of_block (cs := #[.int .u8 (y0 : Int), .int .u8 (y1 : Int), .int .u8 (kd : Int), .int .u8 (dt : Int)]) (heap_new wr _ _ rfl)) (bvs_one _) HB63.out HBT.out (by first | exact Nat.le_trans HBW.out (grown_drew (grown_alloc (grown_refl _ none) _)).size | exact Nat.le_trans HBW.out (grown_alloc (grown_drew (grown_refl _ none)) _).size | exact Nat.le_trans HBW.out (grown_alloc (grown_refl _ none) _).size) (Or.inr (by decide)) _ rfl ?_; intro g1 c1 w1 hown1 hgrow1 hb1 hc1 hm1; have HG1 := Lib.hid (grown_own (by first | exact HGB.out _ (grown_drew (grown_alloc (grown_refl _ _) _)) | exact HGB.out _ (grown_alloc (grown_drew (grown_refl _ _)) _) | exact HGB.out _ (grown_alloc (grown_refl _ _) _)) (by first | exact own_kept HOWN.out (grown_drew (grown_alloc (grown_refl _ _) _)) | exact own_kept HOWN.out (grown_alloc (grown_drew (grown_refl _ _)) _) | exact own_kept HOWN.out (grown_alloc (grown_refl _ _) _)) hgrow1 (Nat.le_refl _)); have HO1 := Lib.hid (OwnB.of (m := [y0, y1, kd, dt]) hown1 rfl HL8.out HY4.out); have A0 := HG1.out.cell HAA.out.1 (by simp); have A1 := HG1.out.cell HAA.out.2.1 (by simp); have A2 := HG1.out.cell HAA.out.2.2 (by simp); clear hown1 hgrow1))
          have HLN : Hid ((L ++ [y0, y1, kd, dt]).length = L.length + 4) := Lib.hid (by simp)
          have HOWN1 : Hid (w1.ownsRow w.heap.size 5 1 (.slice (some ⟨g1, 0, none⟩) (L.length + 4) c1) (L.length + 4) (bvs (L ++ [y0, y1, kd, dt]))) := Lib.hid (by
            have := HO1.out.1
            rwa [HLN.out] at this)
          have HB63b : Hid (L.length + 4 + bd.length ≤ maxLen) := Lib.hid (by unfold maxLen; omega)
          have HBASE1 := Lib.hid HG1.out.size
          have HYY := Lib.hid (HY.out.kept HG1.out)
          cases sb with
          | some ab =>
            have HNEW := Lib.hid HYY.out.news
            have HD8 := Lib.hid HYY.out.2
            go_wp2_with (at_builtin; refine wpList_own_some rfl (.tmp 63) (.tmp 68) 22 rfl w.heap.size 5 i1 (.int .u8 0) 1 1 Try.underlying22 hi hz0 hz1 hz2 rfl (by decide) (.slice (some ⟨g1, 0, none⟩) (L.length + 4) c1) (L.length + 4) (bvs (L ++ [y0, y1, kd, dt])) rfl HOWN1.out ab bd.length cb (bvs bd) rfl (by rw [bvs_len, Nat.mul_one]) HNEW.out (bvs_one _) HB63b.out (by omega) HBASE1.out (Or.inl (by simp)) _ rfl ?_)
            intro g2 c2 w2 hown2 hgrow2 hb2 hc2 hm2
            have HG2 := Lib.hid (grown_own HG1.out HOWN1.out hgrow2 (Nat.le_refl _))
            have HO2 := Lib.hid (OwnB.of (m := bd) hown2 (by rw [HLN.out]) HO1.out.2 HD8.out)
            clear hown2 hgrow2
            go_wp2_with fail
            go_roundg (n - (k + 1))
            case measure => omega
            case rel => exact ⟨k + 1, by omega, Nat.le_refl _, by go_num, by rw [HTK.out, HREC.out, ← List.append_assoc]; exact HO2.out, HG2.out⟩
          | none =>
            obtain ⟨hl0, rfl⟩ := hz rfl
            obtain rfl : bd = [] := List.length_eq_zero_iff.1 hl0
            go_wp2_with (at_builtin; refine wpList_append_own_none rfl (.tmp 63) (.tmp 68) 22 rfl w.heap.size 5 i1 1 Try.underlying22 hi (.slice (some ⟨g1, 0, none⟩) (L.length + 4) c1) (L.length + 4) (bvs (L ++ [y0, y1, kd, dt])) rfl HOWN1.out rfl ?_)
            go_wp2_with fail
            go_roundg (n - (k + 1))
            case measure => omega
            case rel => exact ⟨k + 1, by omega, Nat.le_refl _, by go_num, by rw [HTK.out, HREC.out, List.append_nil]; exact HO1.out, HG1.out⟩
        · have f1 : decide ((k : Int) < (n : Int)) = false := decide_eq_false (by omega)
          have hkn : k = n := by omega
          have hF := Lib.hid (HQ.out (0, joinB rs) (joinD_all HALL.out).symm wr)
          have hT : Hid (joinB (rs.take k) = joinB rs) := Lib.hid (by rw [hkn, ← HN.out, List.take_length])
          rw [hT.out] at hO
          obtain ⟨s0, c0, rfl, _, _, _, _⟩ := hO.shape
          have HO := Lib.hid hO
          have HG := Lib.hid hG
          clear hO hG hkn
          go_wp2_with fail
          exact hF.out _ HO.out HG.out
end Go.Proofs.Ytcioefmldcmhgaa
