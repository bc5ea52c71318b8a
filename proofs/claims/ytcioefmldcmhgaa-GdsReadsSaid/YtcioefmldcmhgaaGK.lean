/- Streams as trees: the chapter's examples: a library without cells. -/
import Derived.Test.YtcioefmldcmhgaaGZ3
import Derived.Lib.SlBytesConst
namespace Go.Proofs.Ytcioefmldcmhgaa
open Go.RowKit
set_option maxRecDepth 100000
set_option linter.unusedVariables false
set_option linter.unusedSimpArgs false

theorem zeros_own {w : World} {base g z : Nat} (h : w.ownsRow base 5 1 (.slice (some ⟨g, 0, none⟩) z z) z (madeCells #[.int .u8 0] z).toList) : BySl w (some ⟨g, 0, none⟩) (List.replicate z 0) := by
  refine ⟨Or.inr ⟨_, rfl, fun i hi => ?_⟩, fun x hx => by rw [List.eq_of_mem_replicate hx]; decide⟩
  rw [List.length_replicate] at hi
  rw [List.getElem_replicate]
  refine h.cells rfl i _ ?_
  have e : (madeCells #[.int .u8 0] z).toList = List.replicate z (.int .u8 0) := toList_madeCells_one _ _
  rw [e, List.getElem?_replicate, if_pos hi]; rfl
set_option maxHeartbeats 16000000 in
theorem Rec_any (w : World) (k d n : Nat) (hn : n ≤ 1000) :
    Calls Try.prog 55 #[.int .u8 (k : Int), .int .u8 (d : Int), .int .i64 (n : Int)] w (fun e w' => ∃ g, e = .returned (.agg #[.int .u8 (k : Int), .int .u8 (d : Int), .slice (some ⟨g, 0, none⟩) n n]) ∧ w.heap.size ≤ g ∧ BySl w' (some ⟨g, 0, none⟩) (List.replicate n 0) ∧ w.grownBy w' none) := by
  obtain ⟨i1, hi, hz0, hz1, hz2⟩ := info_partsU
  have hG := World.grownBy_alloc w (.cells #[.int .u8 0, .int .u8 0, .slice none 0 0] 45) none
  have Br := heap_new w (.cells #[.int .u8 0, .int .u8 0, .slice none 0 0] 45) w.heap.size rfl
  go_enter Try.func55, Try.ntmps55
  go_wp2_with (at_make; refine wpList_make_full _ rfl _ _ 22 rfl _ 5 i1 (.int .u8 0) 1 Try.underlying22 hi hz0 hz1 .i64 .i64 _ _ n rfl rfl (by first | omega | (unfold wrap64; omega)) (by first | omega | (unfold wrap64; omega)) (by rw [hz2]; omega) (by unfold maxLen; omega) (Nat.le_refl _) ?_)
  intro w1 hown hg1
  have HZ := Lib.hid (zeros_own hown)
  have hgA := grown_trans hG hg1
  have Br1 := heap_kept hg1 Br
  clear hown
  obtain ⟨C0, C1, C2, F0, F1, F2⟩ := box_cells3 Br1
  have B2 := heap_set3 Br1 (.int .u8 (k : Int)) (.int .u8 (d : Int)) (.slice (some ⟨w.heap.size + 1, 0, none⟩) n n)
  have g2 := grown_put3 hgA (Nat.le_refl w.heap.size) (.int .u8 (k : Int)) (.int .u8 (d : Int)) (.slice (some ⟨w.heap.size + 1, 0, none⟩) n n)
  have hz := World.grownBy
  obtain ⟨D0, D1, D2, _, _, _⟩ := box_cells3 B2
  have hZ2 : BySl (((w1.setCell ⟨w.heap.size, 0, none⟩ (.int .u8 (k : Int))).setCell ⟨w.heap.size, 1, none⟩ (.int .u8 (d : Int))).setCell ⟨w.heap.size, 2, none⟩ (.slice (some ⟨w.heap.size + 1, 0, none⟩) n n)) (some ⟨w.heap.size + 1, 0, none⟩) (List.replicate n 0) := by
    refine ⟨HZ.out.1.imp id fun ⟨a, e, hc⟩ => ⟨a, e, fun i hi => ?_⟩, HZ.out.2⟩
    have gp : w1.grownBy (((w1.setCell ⟨w.heap.size, 0, none⟩ (.int .u8 (k : Int))).setCell ⟨w.heap.size, 1, none⟩ (.int .u8 (d : Int))).setCell ⟨w.heap.size, 2, none⟩ (.slice (some ⟨w.heap.size + 1, 0, none⟩) n n)) (some w.heap.size) := grown_set (grown_set (grown_set (grown_refl _ _) 0 _) 1 _) 2 _
    refine gp.cell (hc i hi) ?_
    cases e
    have hb : ((⟨w.heap.size + 1, 0, none⟩ : Addr).add i).block = w.heap.size + 1 := by unfold Addr.add; split <;> rfl
    rw [hb]
    intro h; have := Option.some.inj h; omega
  have HF := Lib.hid (And.intro hZ2 g2)
  clear hG Br hg1 hgA Br1 B2 g2 hZ2 hz
  go_wp2_with fail
  exact bodyPost_ret (v := .agg #[.int .u8 (k : Int), .int .u8 (d : Int), .slice (some ⟨w.heap.size + 1, 0, none⟩) n n]) (by simp [results, Try.results55, go_sem, D0, D1, D2]) rfl ⟨_, rfl, by omega, HF.out⟩
theorem Rec_0 (w : World) : Calls Try.prog 55 #[.int .u8 0, .int .u8 2, .int .i64 2] w (fun e w' => ∃ g, e = .returned (.agg #[.int .u8 0, .int .u8 2, .slice (some ⟨g, 0, none⟩) 2 2]) ∧ w.heap.size ≤ g ∧ BySl w' (some ⟨g, 0, none⟩) (List.replicate 2 0) ∧ w.grownBy w' none) := Rec_any w 0 2 2 (by decide)
theorem Rec_1 (w : World) : Calls Try.prog 55 #[.int .u8 1, .int .u8 2, .int .i64 24] w (fun e w' => ∃ g, e = .returned (.agg #[.int .u8 1, .int .u8 2, .slice (some ⟨g, 0, none⟩) 24 24]) ∧ w.heap.size ≤ g ∧ BySl w' (some ⟨g, 0, none⟩) (List.replicate 24 0) ∧ w.grownBy w' none) := Rec_any w 1 2 24 (by decide)
theorem Rec_3 (w : World) : Calls Try.prog 55 #[.int .u8 3, .int .u8 5, .int .i64 16] w (fun e w' => ∃ g, e = .returned (.agg #[.int .u8 3, .int .u8 5, .slice (some ⟨g, 0, none⟩) 16 16]) ∧ w.heap.size ≤ g ∧ BySl w' (some ⟨g, 0, none⟩) (List.replicate 16 0) ∧ w.grownBy w' none) := Rec_any w 3 5 16 (by decide)
theorem BySl.offB {W W' : World} {g q : Nat} {l : List Nat} (h : BySl W (some ⟨g, 0, none⟩) l) (hg : W.grownBy W' (some q)) (hne : g ≠ q) : BySl W' (some ⟨g, 0, none⟩) l := by
  refine ⟨h.1.imp id fun ⟨a, e, hc⟩ => ⟨a, e, fun i hi => ?_⟩, h.2⟩
  refine hg.cell (hc i hi) ?_
  cases e
  have hb : ((⟨g, 0, none⟩ : Addr).add i).block = g := by unfold Addr.add; split <;> rfl
  rw [hb]
  intro h; exact hne (Option.some.inj h)
/-- Four records in a block of their own. -/
theorem four_recs {W : World} {p a1 a2 a3 a4 : Nat} (hb : W.heap[p]? = some (.cells #[.int .u8 0, .int .u8 2, .slice (some ⟨a1, 0, none⟩) 2 2, .int .u8 1, .int .u8 2, .slice (some ⟨a2, 0, none⟩) 24 24, .int .u8 2, .int .u8 6, .slice (some ⟨a3, 0, none⟩) 2 2, .int .u8 3, .int .u8 5, .slice (some ⟨a4, 0, none⟩) 16 16] 45 (0, 0)))
    (h1 : BySl W (some ⟨a1, 0, none⟩) (List.replicate 2 0)) (h2 : BySl W (some ⟨a2, 0, none⟩) (List.replicate 24 0)) (h3 : BySl W (some ⟨a3, 0, none⟩) [108, 98]) (h4 : BySl W (some ⟨a4, 0, none⟩) (List.replicate 16 0)) :
    RecsV W (.slice (some ⟨p, 0, none⟩) 4 4) [(0, 2, List.replicate 2 0), (1, 2, List.replicate 24 0), (2, 6, [108, 98]), (3, 5, List.replicate 16 0)] := by
  refine ⟨_, 4, rfl, fun i hi => ?_, ⟨(fun e => by cases e), by decide, by decide⟩, ?_⟩
  · match i, hi with
    | 0, _ => exact ⟨_, _, 2, rfl, cell_of hb rfl, cell_of hb rfl, cell_of hb rfl, h1, (fun e => by cases e), Nat.le_refl _, by decide⟩
    | 1, _ => exact ⟨_, _, 24, rfl, cell_of hb rfl, cell_of hb rfl, cell_of hb rfl, h2, (fun e => by cases e), Nat.le_refl _, by decide⟩
    | 2, _ => exact ⟨_, _, 2, rfl, cell_of hb rfl, cell_of hb rfl, cell_of hb rfl, h3, (fun e => by cases e), Nat.le_refl _, by decide⟩
    | 3, _ => exact ⟨_, _, 16, rfl, cell_of hb rfl, cell_of hb rfl, cell_of hb rfl, h4, (fun e => by cases e), Nat.le_refl _, by decide⟩
  · intro r hr
    simp at hr
    rcases hr with rfl | rfl | rfl | rfl <;> exact ⟨by decide, by decide⟩
def bareL : KLib := ([(0, 2, List.replicate 2 0), (1, 2, List.replicate 24 0), (2, 6, [108, 98]), (3, 5, List.replicate 16 0)], [])
set_option maxHeartbeats 16000000 in
theorem Bare7_any (w : World) : Calls Try.prog 33 #[] w (fun e w' => ∃ v, e = .returned v ∧ LibV w' v bareL ∧ w.grownBy w' none) := by
  have kc := Lib.run_convert_bytes_const (P := Try.prog) (w.alloc (.cells #[.slice none 0 0, .slice none 0 0] 27)) 22 5 #[.int .u8 108, .int .u8 98] 2 2 Try.underlying22 Try.underlying5
  have hsz : (w.alloc (.cells #[.slice none 0 0, .slice none 0 0] 27)).heap.size = w.heap.size + 1 := by simp
  rw [hsz] at kc
  have hG1 := World.grownBy_alloc w (.cells #[.slice none 0 0, .slice none 0 0] 27) none
  have Bl := heap_new w (.cells #[.slice none 0 0, .slice none 0 0] 27) w.heap.size rfl
  have gB := World.grownBy_alloc (w.alloc (.cells #[.slice none 0 0, .slice none 0 0] 27)) (.cells #[.int .u8 108, .int .u8 98] 5 (2, 3)) none
  have Bb := heap_new (w.alloc (.cells #[.slice none 0 0, .slice none 0 0] 27)) (.cells #[.int .u8 108, .int .u8 98] 5 (2, 3)) (w.heap.size + 1) (by simp)
  have gC := World.grownBy_alloc ((w.alloc (.cells #[.slice none 0 0, .slice none 0 0] 27)).alloc (.cells #[.int .u8 108, .int .u8 98] 5 (2, 3))) (.cells #[.int .u8 2, .int .u8 6, .slice (some ⟨w.heap.size + 1, 0, none⟩) 2 2] 45) none
  have Br := heap_new ((w.alloc (.cells #[.slice none 0 0, .slice none 0 0] 27)).alloc (.cells #[.int .u8 108, .int .u8 98] 5 (2, 3))) (.cells #[.int .u8 2, .int .u8 6, .slice (some ⟨w.heap.size + 1, 0, none⟩) 2 2] 45) (w.heap.size + 1 + 1) (by simp)
  have Bl2 := heap_kept gC (heap_kept gB Bl)
  have Bb2 := heap_kept gC Bb
  have hG := grown_trans (grown_trans hG1 gB) gC
  clear hG1 gB gC Bl Bb hsz
  go_enter Try.func33, Try.ntmps33
  go_wp2_with fail
  generalize (((w.alloc (.cells #[.slice none 0 0, .slice none 0 0] 27)).alloc (.cells #[.int .u8 108, .int .u8 98] 5 (2, 3))).alloc (.cells #[.int .u8 2, .int .u8 6, .slice (some ⟨w.heap.size + 1, 0, none⟩) 2 2] 45)) = w0 at *
  obtain ⟨C0, C1, C2, _, _, _⟩ := box_cells3 Br
  have HBR := Lib.hid Br
  have HBL := Lib.hid Bl2
  have HBB := Lib.hid Bb2
  clear Br Bl2 Bb2
  go_region_held3 (fun w' => w'.cell? ⟨w.heap.size + 1 + 1, 0, none⟩ = some (.int .u8 2) ∧ w'.cell? ⟨w.heap.size + 1 + 1, 1, none⟩ = some (.int .u8 6) ∧ w'.cell? ⟨w.heap.size + 1 + 1, 2, none⟩ = some (.slice (some ⟨w.heap.size + 1, 0, none⟩) 2 2))
    (first | assumption | exact ⟨C0, C1, C2⟩ | exact ⟨D0, D1, D2⟩ | exact ⟨E0, E1, E2⟩ | exact ⟨F0, F1, F2⟩ | exact ⟨G0, G1, G2⟩ | go_keep)
    (first
      | (go_at_call 55; (with_reducible refine (Rec_0 w0.drew).mono ?_); rintro e w1 ⟨g1, rfl, l1, b1, hg1⟩; have hG1 := grown_trans (grown_drew hG) hg1; obtain ⟨D0, D1, D2, _, _, _⟩ := box_cells3 (heap_kept (grown_trans (grown_drew (grown_refl w0 none)) hg1) HBR.out); have HL1 := Lib.hid (show w0.heap.size ≤ g1 from l1); clear l1; have HB1 := Lib.hid (And.intro b1 (grown_trans (grown_drew (grown_refl w0 none)) hg1)); clear b1 hg1)
      | (go_at_call 55; (with_reducible refine (Rec_1 w1).mono ?_); rintro e w2 ⟨g2, rfl, l2, b2, hg2⟩; have hG2 := grown_trans hG1 hg2; have HL2 := Lib.hid l2; clear l2; have HB2 := Lib.hid (And.intro b2 hg2); obtain ⟨E0, E1, E2, _, _, _⟩ := box_cells3 (heap_kept (grown_trans HB1.out.2 hg2) HBR.out); clear b2 hg2)
      | (go_at_call 55; (with_reducible refine (Rec_3 w2).mono ?_); rintro e w3 ⟨g3, rfl, l3, b3, hg3⟩; have hG3 := grown_trans hG2 hg3; have HL3 := Lib.hid l3; clear l3; have HB3 := Lib.hid (And.intro b3 hg3); obtain ⟨F0, F1, F2, _, _, _⟩ := box_cells3 (heap_kept (grown_trans (grown_trans HB1.out.2 HB2.out.2) hg3) HBR.out); have HBL3 := heap_kept (grown_trans (grown_trans HB1.out.2 HB2.out.2) hg3) HBL.out; have HBL4 := Lib.hid HBL3; have HGX := Lib.hid hG3; (have gX := World.grownBy_alloc w3 (.cells #[.int .u8 0, .int .u8 2, .slice (some ⟨g1, 0, none⟩) 2 2, .int .u8 1, .int .u8 2, .slice (some ⟨g2, 0, none⟩) 24 24, .int .u8 2, .int .u8 6, .slice (some ⟨w.heap.size + 1, 0, none⟩) 2 2, .int .u8 3, .int .u8 5, .slice (some ⟨g3, 0, none⟩) 16 16] 45) none); (obtain ⟨L0, L1, FL0, FL1⟩ := box_cells2 (heap_kept gX HBL3)); (obtain ⟨G0, G1, G2, _, _, _⟩ := box_cells3 (heap_unset2 (g := w.heap.size) (heap_kept gX (heap_kept (grown_trans (grown_trans HB1.out.2 HB2.out.2) hg3) HBR.out)) (by omega) (.slice (some ⟨w3.heap.size, 0, none⟩) 4 4) (.slice none 0 0))); clear b3 hg3 gX HBL3 hG3))
  have gX := World.grownBy_alloc w3 (.cells #[.int .u8 0, .int .u8 2, .slice (some ⟨g1, 0, none⟩) 2 2, .int .u8 1, .int .u8 2, .slice (some ⟨g2, 0, none⟩) 24 24, .int .u8 2, .int .u8 6, .slice (some ⟨w.heap.size + 1, 0, none⟩) 2 2, .int .u8 3, .int .u8 5, .slice (some ⟨g3, 0, none⟩) 16 16] 45) none
  have Bh := heap_new w3 (.cells #[.int .u8 0, .int .u8 2, .slice (some ⟨g1, 0, none⟩) 2 2, .int .u8 1, .int .u8 2, .slice (some ⟨g2, 0, none⟩) 24 24, .int .u8 2, .int .u8 6, .slice (some ⟨w.heap.size + 1, 0, none⟩) 2 2, .int .u8 3, .int .u8 5, .slice (some ⟨g3, 0, none⟩) 16 16] 45) w3.heap.size rfl
  have BL9 := heap_kept gX HBL4.out
  have gp := grown_put2b (W := w3.alloc (.cells #[.int .u8 0, .int .u8 2, .slice (some ⟨g1, 0, none⟩) 2 2, .int .u8 1, .int .u8 2, .slice (some ⟨g2, 0, none⟩) 24 24, .int .u8 2, .int .u8 6, .slice (some ⟨w.heap.size + 1, 0, none⟩) 2 2, .int .u8 3, .int .u8 5, .slice (some ⟨g3, 0, none⟩) 16 16] 45)) (g := w.heap.size) (.slice (some ⟨w3.heap.size, 0, none⟩) 4 4) (.slice none 0 0)
  have hs0 : w.heap.size + 1 + 1 < w0.heap.size := heap_lt HBR.out
  have hs1 := HB1.out.2.size
  have hs2 := HB2.out.2.size
  have hs3 := HB3.out.2.size
  have hl1 := HL1.out
  have hl2 := HL2.out
  have hl3 := HL3.out
  have b1 := ((HB1.out.1.kept (grown_trans HB2.out.2 HB3.out.2)).kept gX).offB gp (by omega)
  have b2 := ((HB2.out.1.kept HB3.out.2).kept gX).offB gp (by omega)
  have b3 := (HB3.out.1.kept gX).offB gp (by omega)
  have hBb := heap_kept gX (heap_kept (grown_trans (grown_trans HB1.out.2 HB2.out.2) HB3.out.2) HBB.out)
  have bb : BySl (w3.alloc (.cells #[.int .u8 0, .int .u8 2, .slice (some ⟨g1, 0, none⟩) 2 2, .int .u8 1, .int .u8 2, .slice (some ⟨g2, 0, none⟩) 24 24, .int .u8 2, .int .u8 6, .slice (some ⟨w.heap.size + 1, 0, none⟩) 2 2, .int .u8 3, .int .u8 5, .slice (some ⟨g3, 0, none⟩) 16 16] 45)) (some ⟨w.heap.size + 1, 0, none⟩) [108, 98] := ⟨Or.inr ⟨_, rfl, fun i hi => by
    match i, hi with
    | 0, _ => exact cell_of hBb rfl
    | 1, _ => exact cell_of hBb rfl⟩, by decide⟩
  have b4 := bb.offB gp (by omega)
  have BH9 := heap_off gp Bh (by intro e; have := Option.some.inj e; omega)
  have BL8 := heap_set2 BL9 (.slice (some ⟨w3.heap.size, 0, none⟩) 4 4) (.slice none 0 0)
  obtain ⟨N0, N1, _, _⟩ := box_cells2 BL8
  have hgF := grown_put2 (grown_trans HGX.out gX) (Nat.le_refl w.heap.size) (.slice (some ⟨w3.heap.size, 0, none⟩) 4 4) (.slice none 0 0)
  have hF : Hid (LibV (((w3.alloc (.cells #[.int .u8 0, .int .u8 2, .slice (some ⟨g1, 0, none⟩) 2 2, .int .u8 1, .int .u8 2, .slice (some ⟨g2, 0, none⟩) 24 24, .int .u8 2, .int .u8 6, .slice (some ⟨w.heap.size + 1, 0, none⟩) 2 2, .int .u8 3, .int .u8 5, .slice (some ⟨g3, 0, none⟩) 16 16] 45)).setCell ⟨w.heap.size, 0, none⟩ (.slice (some ⟨w3.heap.size, 0, none⟩) 4 4)).setCell ⟨w.heap.size, 1, none⟩ (.slice none 0 0)) (.agg #[.slice (some ⟨w3.heap.size, 0, none⟩) 4 4, .slice none 0 0]) bareL ∧ w.grownBy (((w3.alloc (.cells #[.int .u8 0, .int .u8 2, .slice (some ⟨g1, 0, none⟩) 2 2, .int .u8 1, .int .u8 2, .slice (some ⟨g2, 0, none⟩) 24 24, .int .u8 2, .int .u8 6, .slice (some ⟨w.heap.size + 1, 0, none⟩) 2 2, .int .u8 3, .int .u8 5, .slice (some ⟨g3, 0, none⟩) 16 16] 45)).setCell ⟨w.heap.size, 0, none⟩ (.slice (some ⟨w3.heap.size, 0, none⟩) 4 4)).setCell ⟨w.heap.size, 1, none⟩ (.slice none 0 0)) none) :=
    Lib.hid ⟨⟨_, _, rfl, four_recs BH9 b1 b2 b4 b3, none, 0, rfl, fun i hi => by simp [bareL] at hi, ⟨fun _ => ⟨rfl, rfl⟩, Nat.le_refl _, by decide⟩⟩, hgF⟩
  clear gX Bh BL9 gp hs0 hs1 hs2 hs3 hl1 hl2 hl3 b1 b2 b3 hBb bb b4 BH9 BL8 hgF
  go_wp2_with fail
  exact bodyPost_ret (v := .agg #[.slice (some ⟨w3.heap.size, 0, none⟩) 4 4, .slice none 0 0]) (by simp [results, Try.results33, go_sem, N0, N1]) rfl ⟨_, rfl, hF.out⟩
end Go.Proofs.Ytcioefmldcmhgaa
