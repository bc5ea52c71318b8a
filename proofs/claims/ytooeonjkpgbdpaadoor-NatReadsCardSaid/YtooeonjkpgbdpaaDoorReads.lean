/- NatReads: every text is read as the document reads it, and written as it was. -/
import Derived.Test.YtooeonjkpgbdpaaDoorKit3
import Derived.Deep.RegionHeld3
import Derived.Deep.RegionWith
import Derived.Deep.QuietTactic
import Derived.BigQuiet
namespace Go.Proofs.YtooeonjkpgbdpaaDoor
open Go.RowKit Mat
set_option maxRecDepth 100000
set_option linter.unusedVariables false
set_option linter.unusedSimpArgs false

theorem cmpInt_ge {a b : Nat} (h : b ≤ a) : ¬ cmpInt a b < 0 := by
  rcases Nat.lt_or_ge b a with h1 | h1
  · rw [cmpInt_gt h1]; decide
  · rw [cmpInt_eq (by omega)]; decide

set_option maxHeartbeats 8000000 in
theorem natReads_walk (w : World) (s : ByteArray) (hT : Tab w) :
    Calls Tryd.prog 3 #[.string s] w (fun e w' => e = .returned (.bool true) ∧ w.grownBy w' none) := by
  have hG : w.grownBy w none := grown_refl _ _
  rcases Nat.lt_or_ge 4096 s.size with hs | hs
  · skip
    go_enter Tryd.func3, Tryd.ntmps3
    go_wp2_with fail
    refine (Parse_long w s hs).mono ?_
    rintro e ulw1 ⟨_, rfl, ⟨sa, xa, rfl, ha, va⟩, gulw1⟩
    have na : NatV ulw1 (.agg #[.slice sa xa.length xa.length]) (0) := ⟨_, _, rfl, ha, va⟩
    replace hT := hT.kept gulw1 (by simp)
    replace hG := grown_trans hG gulw1
    clear gulw1 ha va
    have ba := (heap_new ulw1 (.cells #[.slice sa xa.length xa.length] 24) (ulw1.heap.size) rfl)
    have gbulw1 := (World.grownBy_alloc ulw1 (.cells #[.slice sa xa.length xa.length] 24) none)
    replace na := na.kept gbulw1
    replace hT := hT.kept gbulw1 (by simp)
    replace hG := grown_trans hG gbulw1
    clear gbulw1
    obtain ⟨cba, fba⟩ := box_cell ba
    go_wp2_with fail
    generalize (ulw1.alloc (.cells #[.slice sa xa.length xa.length] 24)) = lw2 at *
    generalize ulw1.heap.size = aulw1 at *
    clear cba fba
    refine (rParse_long lw2 s hs).mono ?_
    rintro e ulw3 ⟨_, rfl, ⟨sx, lx, cx, xx, rfl, hx⟩, gulw3⟩
    have nx : RefV ulw3 (.agg #[.slice sx lx cx]) (0) := ⟨_, _, _, _, rfl, hx⟩
    replace ba := heap_kept gulw3 ba
    replace na := na.kept gulw3
    replace hT := hT.kept gulw3 (by simp)
    replace hG := grown_trans hG gulw3
    clear gulw3 hx
    have bx := (heap_new ulw3 (.cells #[.slice sx lx cx] 30) (ulw3.heap.size) rfl)
    have gbulw3 := (World.grownBy_alloc ulw3 (.cells #[.slice sx lx cx] 30) none)
    replace ba := heap_kept gbulw3 ba
    replace na := na.kept gbulw3
    replace nx := nx.kept gbulw3
    replace hT := hT.kept gbulw3 (by simp)
    replace hG := grown_trans hG gbulw3
    clear gbulw3
    obtain ⟨cba, fba⟩ := box_cell ba
    obtain ⟨cbx, fbx⟩ := box_cell bx
    go_wp2_with fail
    generalize (ulw3.alloc (.cells #[.slice sx lx cx] 30)) = lw4 at *
    generalize ulw3.heap.size = aulw3 at *
    clear cba fba cbx fbx
    refine (known_any lw4 hT).mono ?_
    rintro e lw5 ⟨rfl, glw5⟩
    replace ba := heap_kept glw5 ba
    replace bx := heap_kept glw5 bx
    replace na := na.kept glw5
    replace nx := nx.kept glw5
    replace hT := hT.kept glw5 (by simp)
    replace hG := grown_trans hG glw5
    clear glw5
    obtain ⟨cba, fba⟩ := box_cell ba
    obtain ⟨cbx, fbx⟩ := box_cell bx
    go_wp2_with fail
    clear cba fba cbx fbx
    refine (Text_any lw5 _ _ 1 na (by omega) (by decide)).mono ?_
    rintro e lw6 ⟨zna, rfl, dzna, vzna, glw6⟩
    obtain rfl : zna = { data := #[48] } := dec_uniq dzna (dec_of (by decide +kernel)) (vzna.trans (by decide +kernel))
    replace ba := heap_kept glw6 ba
    replace bx := heap_kept glw6 bx
    replace na := na.kept glw6
    replace nx := nx.kept glw6
    replace hT := hT.kept glw6 (by simp)
    replace hG := grown_trans hG glw6
    clear glw6
    obtain ⟨cba, fba⟩ := box_cell ba
    obtain ⟨cbx, fbx⟩ := box_cell bx
    go_wp2_with fail
    go_ret
    exact ⟨rfl, hG⟩
  by_cases hd : decB (bts s) = true
  rotate_left
  · have hnd : ¬ DecL (bts s) := dec_not (by simpa using hd)
    go_enter Tryd.func3, Tryd.ntmps3
    go_wp2_with fail
    refine (Parse_form w s hs hnd).mono ?_
    rintro e ufw1 ⟨_, rfl, ⟨sa, xa, rfl, ha, va⟩, gufw1⟩
    have na : NatV ufw1 (.agg #[.slice sa xa.length xa.length]) (0) := ⟨_, _, rfl, ha, va⟩
    replace hT := hT.kept gufw1 (by simp)
    replace hG := grown_trans hG gufw1
    clear gufw1 ha va
    have ba := (heap_new ufw1 (.cells #[.slice sa xa.length xa.length] 24) (ufw1.heap.size) rfl)
    have gbufw1 := (World.grownBy_alloc ufw1 (.cells #[.slice sa xa.length xa.length] 24) none)
    replace na := na.kept gbufw1
    replace hT := hT.kept gbufw1 (by simp)
    replace hG := grown_trans hG gbufw1
    clear gbufw1
    obtain ⟨cba, fba⟩ := box_cell ba
    go_wp2_with fail
    generalize (ufw1.alloc (.cells #[.slice sa xa.length xa.length] 24)) = fw2 at *
    generalize ufw1.heap.size = aufw1 at *
    clear cba fba
    refine (rParse_form fw2 s hs hnd).mono ?_
    rintro e ufw3 ⟨_, rfl, ⟨sx, lx, cx, xx, rfl, hx⟩, gufw3⟩
    have nx : RefV ufw3 (.agg #[.slice sx lx cx]) (0) := ⟨_, _, _, _, rfl, hx⟩
    replace ba := heap_kept gufw3 ba
    replace na := na.kept gufw3
    replace hT := hT.kept gufw3 (by simp)
    replace hG := grown_trans hG gufw3
    clear gufw3 hx
    have bx := (heap_new ufw3 (.cells #[.slice sx lx cx] 30) (ufw3.heap.size) rfl)
    have gbufw3 := (World.grownBy_alloc ufw3 (.cells #[.slice sx lx cx] 30) none)
    replace ba := heap_kept gbufw3 ba
    replace na := na.kept gbufw3
    replace nx := nx.kept gbufw3
    replace hT := hT.kept gbufw3 (by simp)
    replace hG := grown_trans hG gbufw3
    clear gbufw3
    obtain ⟨cba, fba⟩ := box_cell ba
    obtain ⟨cbx, fbx⟩ := box_cell bx
    go_wp2_with fail
    generalize (ufw3.alloc (.cells #[.slice sx lx cx] 30)) = fw4 at *
    generalize ufw3.heap.size = aufw3 at *
    clear cba fba cbx fbx
    refine (known_any fw4 hT).mono ?_
    rintro e fw5 ⟨rfl, gfw5⟩
    replace ba := heap_kept gfw5 ba
    replace bx := heap_kept gfw5 bx
    replace na := na.kept gfw5
    replace nx := nx.kept gfw5
    replace hT := hT.kept gfw5 (by simp)
    replace hG := grown_trans hG gfw5
    clear gfw5
    obtain ⟨cba, fba⟩ := box_cell ba
    obtain ⟨cbx, fbx⟩ := box_cell bx
    go_wp2_with fail
    clear cba fba cbx fbx
    refine (Text_any fw5 _ _ 1 na (by omega) (by decide)).mono ?_
    rintro e fw6 ⟨zna, rfl, dzna, vzna, gfw6⟩
    obtain rfl : zna = { data := #[48] } := dec_uniq dzna (dec_of (by decide +kernel)) (vzna.trans (by decide +kernel))
    replace ba := heap_kept gfw6 ba
    replace bx := heap_kept gfw6 bx
    replace na := na.kept gfw6
    replace nx := nx.kept gfw6
    replace hT := hT.kept gfw6 (by simp)
    replace hG := grown_trans hG gfw6
    clear gfw6
    obtain ⟨cba, fba⟩ := box_cell ba
    obtain ⟨cbx, fbx⟩ := box_cell bx
    go_wp2_with fail
    go_ret
    exact ⟨rfl, hG⟩
  have hdec := dec_of hd
  obtain ⟨A, hA⟩ : ∃ A, dval (bts s) = A := ⟨_, rfl⟩
  have la : A < B ^ 213 := by rw [← hA]; have := num_bd_long s hs; unfold num at this; rw [if_pos hd] at this; exact this
  have HDEC := Lib.hid hdec
  have HA := Lib.hid hA
  have P1 : Hid (∀ W, Calls Tryd.prog 14 #[.string s] W (RetNatE W A 0)) := fun W => by rw [← hA]; exact Parse_some W s hs hdec
  have P2 : Hid (∀ W, Calls Tryd.prog 15 #[.string s] W (RetRefE W A 0)) := fun W => by rw [← hA]; exact rParse_some W s hs hdec
  clear hdec hA hd
  go_enter Tryd.func3, Tryd.ntmps3
  go_wp2_with fail
  refine (P1.out w).mono ?_
  rintro e uw1 ⟨_, rfl, ⟨sa, xa, rfl, ha, va⟩, guw1⟩
  have na : NatV uw1 (.agg #[.slice sa xa.length xa.length]) (A) := ⟨_, _, rfl, ha, va⟩
  replace hT := hT.kept guw1 (by simp)
  replace hG := grown_trans hG guw1
  clear guw1 ha va
  have ba := (heap_new uw1 (.cells #[.slice sa xa.length xa.length] 24) (uw1.heap.size) rfl)
  have gbuw1 := (World.grownBy_alloc uw1 (.cells #[.slice sa xa.length xa.length] 24) none)
  replace na := na.kept gbuw1
  replace hT := hT.kept gbuw1 (by simp)
  replace hG := grown_trans hG gbuw1
  clear gbuw1
  obtain ⟨cba, fba⟩ := box_cell ba
  go_wp2_with fail
  generalize (uw1.alloc (.cells #[.slice sa xa.length xa.length] 24)) = w2 at *
  generalize uw1.heap.size = auw1 at *
  clear cba fba
  refine (P2.out w2).mono ?_
  rintro e uw3 ⟨_, rfl, ⟨sx, lx, cx, xx, rfl, hx⟩, guw3⟩
  have nx : RefV uw3 (.agg #[.slice sx lx cx]) (A) := ⟨_, _, _, _, rfl, hx⟩
  replace ba := heap_kept guw3 ba
  replace na := na.kept guw3
  replace hT := hT.kept guw3 (by simp)
  replace hG := grown_trans hG guw3
  clear guw3 hx
  have bx := (heap_new uw3 (.cells #[.slice sx lx cx] 30) (uw3.heap.size) rfl)
  have gbuw3 := (World.grownBy_alloc uw3 (.cells #[.slice sx lx cx] 30) none)
  replace ba := heap_kept gbuw3 ba
  replace na := na.kept gbuw3
  replace nx := nx.kept gbuw3
  replace hT := hT.kept gbuw3 (by simp)
  replace hG := grown_trans hG gbuw3
  clear gbuw3
  obtain ⟨cba, fba⟩ := box_cell ba
  obtain ⟨cbx, fbx⟩ := box_cell bx
  go_wp2_with fail
  generalize (uw3.alloc (.cells #[.slice sx lx cx] 30)) = w4 at *
  generalize uw3.heap.size = auw3 at *
  clear cba fba cbx fbx
  refine (known_any w4 hT).mono ?_
  rintro e w5 ⟨rfl, gw5⟩
  replace ba := heap_kept gw5 ba
  replace bx := heap_kept gw5 bx
  replace na := na.kept gw5
  replace nx := nx.kept gw5
  replace hT := hT.kept gw5 (by simp)
  replace hG := grown_trans hG gw5
  clear gw5
  obtain ⟨cba, fba⟩ := box_cell ba
  obtain ⟨cbx, fbx⟩ := box_cell bx
  go_wp2_with fail
  rcases Nat.lt_or_ge A B with h0 | h0
  · skip
    clear cba fba cbx fbx
    refine (Word_any w5 _ _ 213 na (by omega) la).mono ?_
    rintro e ltw6 ⟨⟨y, rfl, hy, -⟩, gltw6⟩
    obtain rfl : y = A := hy h0; rw [decide_eq_true h0]
    replace ba := heap_kept gltw6 ba
    replace bx := heap_kept gltw6 bx
    replace na := na.kept gltw6
    replace nx := nx.kept gltw6
    replace hT := hT.kept gltw6 (by simp)
    replace hG := grown_trans hG gltw6
    clear gltw6
    obtain ⟨cba, fba⟩ := box_cell ba
    obtain ⟨cbx, fbx⟩ := box_cell bx
    go_wp2_with fail
    go_region_held3 (fun w' => w'.cell? ⟨auw3, 0, none⟩ = some (.slice sx lx cx))
      (first | assumption | exact cbx | go_keep)
      (first
        | (go_at_call 20; (with_reducible refine (rTwo_64 ltw6.drew).mono ?_); rintro e ltw7_1 ⟨_, rfl, nt, gltw7_1⟩; have hGltw7_1 := grown_pre ltw6 gltw7_1 rfl rfl rfl rfl; have hSltw7_1 := (hGltw7_1.cell cbx (by simp)); clear gltw7_1)
        | (go_at_call 19; (with_reducible refine (rCmp_any ltw7_1 _ _ _ _ (nx.kept hGltw7_1) nt (toD la (by omega)) B_lt_D).mono ?_); rintro e ltw7_2 ⟨rfl, gltw7_2⟩; rw [cmpInt_lt h0]; have hGltw7_2 := grown_trans hGltw7_1 gltw7_2; replace nt := nt.kept gltw7_2; have hSltw7_2 := (hGltw7_2.cell cbx (by simp)); clear gltw7_2; clear hGltw7_1 hSltw7_1))
    replace ba := heap_kept hGltw7_2 ba
    replace bx := heap_kept hGltw7_2 bx
    replace na := na.kept hGltw7_2
    replace nx := nx.kept hGltw7_2
    replace hT := hT.kept hGltw7_2 (by simp)
    replace hG := grown_trans hG hGltw7_2
    clear cba fba cbx fbx
    obtain ⟨cba, fba⟩ := box_cell ba
    obtain ⟨cbx, fbx⟩ := box_cell bx
    go_wp2_with fail
    refine wp_region_held_drew (S := fun w' => w'.cell? ⟨auw3, 0, none⟩ = some (.slice sx lx cx)) (by kernel_rfl) (by exact cbx) (fun hHeld => ?_)
    refine wpAnyH_take (i := 0) (v := ?_) rfl (by kernel_rfl) (by kernel_rfl) (by kernel_rfl) (fun _ _ _ h => h) (Or.inl ⟨by rfl, ?_⟩) (by assumption) ?_
    rotate_left
    · (intro w hSw; (try dsimp only at hSw); go_simp; (try with_reducible rfl))
    try simp only [Act.put, List.getElem_toArray, List.getElem_cons_zero, List.getElem_cons_succ, List.setIfInBounds_toArray, List.set_cons_zero, List.set_cons_succ]
    refine wpAnyH_take (i := 1) (v := ?_) rfl (by kernel_rfl) (by kernel_rfl) (by kernel_rfl) (fun _ _ _ h => h) (Or.inl ⟨by rfl, ?_⟩) (by assumption) ?_
    rotate_left
    · (intro w hSw; (try dsimp only at hSw); go_simp; (try with_reducible rfl))
    try simp only [Act.put, List.getElem_toArray, List.getElem_cons_zero, List.getElem_cons_succ, List.setIfInBounds_toArray, List.set_cons_zero, List.set_cons_succ]
    refine wpAnyH_take (i := 2) (v := ?_) rfl (by kernel_rfl) (by kernel_rfl) (by kernel_rfl) (fun _ _ _ h => h) (Or.inl ⟨by rfl, ?_⟩) (by assumption) ?_
    rotate_left
    · (intro w hSw; (try dsimp only at hSw); go_simp; (try with_reducible rfl))
    try simp only [Act.put, List.getElem_toArray, List.getElem_cons_zero, List.getElem_cons_succ, List.setIfInBounds_toArray, List.set_cons_zero, List.set_cons_succ]
    refine wpAnyH_take (i := 3) (v := ?_) rfl (by kernel_rfl) (by kernel_rfl) (by kernel_rfl) (fun _ _ _ h => h) (Or.inl ⟨by rfl, ?_⟩) (by assumption) ?_
    rotate_left
    · (intro w hSw; (try dsimp only at hSw); go_simp; (try with_reducible rfl))
    try simp only [Act.put, List.getElem_toArray, List.getElem_cons_zero, List.getElem_cons_succ, List.setIfInBounds_toArray, List.set_cons_zero, List.set_cons_succ]
    refine wpAnyH_take (i := 4) (v := ?_) rfl (by kernel_rfl) (by kernel_rfl) (by kernel_rfl) (fun _ _ _ h => h) (Or.inl ⟨by rfl, ?_⟩) (by assumption) ?_
    rotate_left
    · (intro w hSw; (try dsimp only at hSw); go_simp; (try with_reducible rfl))
    try simp only [Act.put, List.getElem_toArray, List.getElem_cons_zero, List.getElem_cons_succ, List.setIfInBounds_toArray, List.set_cons_zero, List.set_cons_succ]
    refine wpAnyH_take (i := 5) (v := ?_) rfl (by kernel_rfl) (by kernel_rfl) (by kernel_rfl) (fun _ _ _ h => h) (Or.inl ⟨by rfl, ?_⟩) (by assumption) ?_
    rotate_left
    · (intro w hSw; (try dsimp only at hSw); go_simp; (try with_reducible rfl))
    try simp only [Act.put, List.getElem_toArray, List.getElem_cons_zero, List.getElem_cons_succ, List.setIfInBounds_toArray, List.set_cons_zero, List.set_cons_succ]
    refine wpAnyH_take (i := 6) (v := ?_) rfl (by kernel_rfl) (by kernel_rfl) (by kernel_rfl) (fun _ _ _ h => h) (Or.inl ⟨by rfl, ?_⟩) (by assumption) ?_
    rotate_left
    · (intro w hSw; (try dsimp only at hSw); go_simp; (try with_reducible rfl))
    try simp only [Act.put, List.getElem_toArray, List.getElem_cons_zero, List.getElem_cons_succ, List.setIfInBounds_toArray, List.set_cons_zero, List.set_cons_succ]
    refine wpAnyH_take (i := 8) (v := ?_) rfl (by kernel_rfl) (by kernel_rfl) (by kernel_rfl) (fun _ _ _ h => h) (Or.inl ⟨by rfl, ?_⟩) (by assumption) ?_
    rotate_left
    · (intro w hSw; (try dsimp only at hSw); go_simp; (try with_reducible rfl))
    try simp only [Act.put, List.getElem_toArray, List.getElem_cons_zero, List.getElem_cons_succ, List.setIfInBounds_toArray, List.set_cons_zero, List.set_cons_succ]
    refine wpAnyH_ready (rs := [7]) (by kernel_rfl) (by simp) ?_
    refine AllReadyH.cons rfl (fun K hK => ?_) AllReadyH.nil
    go_simp
    (go_at_call 22; (with_reducible refine (Of_any ltw7_2.drew y h0).mono ?_); rintro e ltw8_1 ⟨_, rfl, no, gltw8_1⟩; have hGltw8_1 := grown_pre ltw7_2 gltw8_1 rfl rfl rfl rfl; have hSltw8_1 := (hGltw8_1.cell cbx (by simp)); clear gltw8_1)
    (try go_wp2_with fail)
    refine hK.out _ _ (by exact hSltw8_1) (fun hHeld => ?_)
    clear hK K
    try simp only [Act.put, List.getElem_toArray, List.getElem_cons_zero, List.getElem_cons_succ, List.setIfInBounds_toArray, List.set_cons_zero, List.set_cons_succ]
    refine wpAnyH_ready (rs := [9]) (by kernel_rfl) (by simp) ?_
    refine AllReadyH.cons rfl (fun K hK => ?_) AllReadyH.nil
    go_simp
    (go_at_call 21; (with_reducible refine (same_any ltw8_1 _ _ _ 1 no (nx.kept hGltw8_1) (by omega) (show y < B ^ 1 by simpa using h0) (toD (show y < B ^ 1 by simpa using h0) (by omega))).mono ?_); rintro e ltw8_2 ⟨rfl, gltw8_2⟩; have hGltw8_2 := grown_trans hGltw8_1 gltw8_2; replace no := no.kept gltw8_2; have hSltw8_2 := (hGltw8_2.cell cbx (by simp)); clear gltw8_2; clear hGltw8_1 hSltw8_1)
    (try go_wp2_with fail)
    refine hK.out _ _ (by exact hSltw8_2) (fun hHeld => ?_)
    clear hK K
    try simp only [Act.put, List.getElem_toArray, List.getElem_cons_zero, List.getElem_cons_succ, List.setIfInBounds_toArray, List.set_cons_zero, List.set_cons_succ]
    refine wpAnyH_take (i := 10) (v := ?_) rfl (by kernel_rfl) (by kernel_rfl) (by kernel_rfl) (fun _ _ _ h => h) (Or.inl ⟨by rfl, ?_⟩) (by assumption) ?_
    rotate_left
    · (intro w hSw; (try dsimp only at hSw); go_simp; (try with_reducible rfl))
    try simp only [Act.put, List.getElem_toArray, List.getElem_cons_zero, List.getElem_cons_succ, List.setIfInBounds_toArray, List.set_cons_zero, List.set_cons_succ]
    refine wpAnyH_take (i := 11) (v := ?_) rfl (by kernel_rfl) (by kernel_rfl) (by kernel_rfl) (fun _ _ _ h => h) (Or.inl ⟨by rfl, ?_⟩) (by assumption) ?_
    rotate_left
    · (intro w hSw; (try dsimp only at hSw); go_simp; (try with_reducible rfl))
    try simp only [Act.put, List.getElem_toArray, List.getElem_cons_zero, List.getElem_cons_succ, List.setIfInBounds_toArray, List.set_cons_zero, List.set_cons_succ]
    refine wpAnyH_take (i := 12) (v := ?_) rfl (by kernel_rfl) (by kernel_rfl) (by kernel_rfl) (fun _ _ _ h => h) (Or.inl ⟨by rfl, ?_⟩) (by assumption) ?_
    rotate_left
    · (intro w hSw; (try dsimp only at hSw); go_simp; (try with_reducible rfl))
    try simp only [Act.put, List.getElem_toArray, List.getElem_cons_zero, List.getElem_cons_succ, List.setIfInBounds_toArray, List.set_cons_zero, List.set_cons_succ]
    refine wpAnyH_take (i := 13) (v := ?_) rfl (by kernel_rfl) (by kernel_rfl) (by kernel_rfl) (fun _ _ _ h => h) (Or.inl ⟨by rfl, ?_⟩) (by assumption) ?_
    rotate_left
    · (intro w hSw; (try dsimp only at hSw); go_simp; (try with_reducible rfl))
    try simp only [Act.put, List.getElem_toArray, List.getElem_cons_zero, List.getElem_cons_succ, List.setIfInBounds_toArray, List.set_cons_zero, List.set_cons_succ]
    refine wpAnyH_take (i := 14) (v := ?_) rfl (by kernel_rfl) (by kernel_rfl) (by kernel_rfl) (fun _ _ _ h => h) (Or.inl ⟨by rfl, ?_⟩) (by assumption) ?_
    rotate_left
    · (intro w hSw; (try dsimp only at hSw); go_simp; (try with_reducible rfl))
    try simp only [Act.put, List.getElem_toArray, List.getElem_cons_zero, List.getElem_cons_succ, List.setIfInBounds_toArray, List.set_cons_zero, List.set_cons_succ]
    refine wpAnyH_take (i := 15) (v := ?_) rfl (by kernel_rfl) (by kernel_rfl) (by kernel_rfl) (fun _ _ _ h => h) (Or.inl ⟨by rfl, ?_⟩) (by assumption) ?_
    rotate_left
    · (intro w hSw; (try dsimp only at hSw); go_simp; (try with_reducible rfl))
    try simp only [Act.put, List.getElem_toArray, List.getElem_cons_zero, List.getElem_cons_succ, List.setIfInBounds_toArray, List.set_cons_zero, List.set_cons_succ]
    refine wpAnyH_take (i := 16) (v := ?_) rfl (by kernel_rfl) (by kernel_rfl) (by kernel_rfl) (fun _ _ _ h => h) (Or.inl ⟨by rfl, ?_⟩) (by assumption) ?_
    rotate_left
    · (intro w hSw; (try dsimp only at hSw); go_simp; (try with_reducible rfl))
    try simp only [Act.put, List.getElem_toArray, List.getElem_cons_zero, List.getElem_cons_succ, List.setIfInBounds_toArray, List.set_cons_zero, List.set_cons_succ]
    refine wpAnyH_take (i := 17) (v := undef) rfl (by kernel_rfl) (by kernel_rfl) (by kernel_rfl) (fun _ _ _ h => h) (Or.inr ⟨by rfl, rfl⟩) (by assumption) ?_
    try simp only [Act.put, List.getElem_toArray, List.getElem_cons_zero, List.getElem_cons_succ, List.setIfInBounds_toArray, List.set_cons_zero, List.set_cons_succ]
    refine wpAnyH_take (i := 18) (v := undef) rfl (by kernel_rfl) (by kernel_rfl) (by kernel_rfl) (fun _ _ _ h => h) (Or.inr ⟨by rfl, rfl⟩) (by assumption) ?_
    try simp only [Act.put, List.getElem_toArray, List.getElem_cons_zero, List.getElem_cons_succ, List.setIfInBounds_toArray, List.set_cons_zero, List.set_cons_succ]
    refine wpAnyH_take (i := 19) (v := ?_) rfl (by kernel_rfl) (by kernel_rfl) (by kernel_rfl) (fun _ _ _ h => h) (Or.inl ⟨by rfl, ?_⟩) (by assumption) ?_
    rotate_left
    · (intro w hSw; (try dsimp only at hSw); go_simp; (try with_reducible rfl))
    try simp only [Act.put, List.getElem_toArray, List.getElem_cons_zero, List.getElem_cons_succ, List.setIfInBounds_toArray, List.set_cons_zero, List.set_cons_succ]
    refine wpAnyH_take (i := 20) (v := ?_) rfl (by kernel_rfl) (by kernel_rfl) (by kernel_rfl) (fun _ _ _ h => h) (Or.inl ⟨by rfl, ?_⟩) (by assumption) ?_
    rotate_left
    · (intro w hSw; (try dsimp only at hSw); go_simp; (try with_reducible rfl))
    try simp only [Act.put, List.getElem_toArray, List.getElem_cons_zero, List.getElem_cons_succ, List.setIfInBounds_toArray, List.set_cons_zero, List.set_cons_succ]
    refine wpAnyH_done (by kernel_rfl) ?_ _
    replace ba := heap_kept hGltw8_2 ba
    replace bx := heap_kept hGltw8_2 bx
    replace na := na.kept hGltw8_2
    replace nx := nx.kept hGltw8_2
    replace hT := hT.kept hGltw8_2 (by simp)
    replace hG := grown_trans hG hGltw8_2
    clear cba fba cbx fbx
    obtain ⟨cba, fba⟩ := box_cell ba
    obtain ⟨cbx, fbx⟩ := box_cell bx
    go_wp2_with fail
    by_cases hlen : 1000 < s.size
    · skip
      have f1 : decide ((1000 : Int) < (s.size : Int)) = true := decide_eq_true (by omega)
      refine wp_region_held_drew (S := fun w' => w'.cell? ⟨auw1, 0, none⟩ = some (.slice sa xa.length xa.length) ∧ w'.cell? ⟨auw3, 0, none⟩ = some (.slice sx lx cx)) (by kernel_rfl) (by exact ⟨cba, cbx⟩) (fun hHeld => ?_)
      refine wpAnyH_take (i := 0) (v := ?_) rfl (by kernel_rfl) (by kernel_rfl) (by kernel_rfl) (fun _ _ _ h => h) (Or.inl ⟨by rfl, ?_⟩) (by assumption) ?_
      rotate_left
      · (intro w hSw; (try dsimp only at hSw); go_simp; (try with_reducible rfl))
      try simp only [Act.put, List.getElem_toArray, List.getElem_cons_zero, List.getElem_cons_succ, List.setIfInBounds_toArray, List.set_cons_zero, List.set_cons_succ]
      refine wpAnyH_take (i := 2) (v := ?_) rfl (by kernel_rfl) (by kernel_rfl) (by kernel_rfl) (fun _ _ _ h => h) (Or.inl ⟨by rfl, ?_⟩) (by assumption) ?_
      rotate_left
      · (intro w hSw; (try dsimp only at hSw); go_simp; (try with_reducible rfl))
      try simp only [Act.put, List.getElem_toArray, List.getElem_cons_zero, List.getElem_cons_succ, List.setIfInBounds_toArray, List.set_cons_zero, List.set_cons_succ]
      refine wpAnyH_ready (rs := [1]) (by kernel_rfl) (by simp) ?_
      refine AllReadyH.cons rfl (fun K hK => ?_) AllReadyH.nil
      go_simp
      (go_at_call 17; (with_reducible refine (Text_any ltw8_2.drew _ _ 213 (na.kept (grown_drew (grown_refl _ _))) (by omega) la).mono ?_); rintro e ltaw9_1 ⟨z, rfl, dz, vz, gltaw9_1⟩; (obtain rfl : z = s := dec_uniq dz HDEC.out (vz.trans HA.out.symm)); have hGltaw9_1 := grown_pre ltw8_2 gltaw9_1 rfl rfl rfl rfl; have hSltaw9_1 := (And.intro (hGltaw9_1.cell cba (by simp)) (hGltaw9_1.cell cbx (by simp))); clear gltaw9_1)
      (try go_wp2_with fail)
      refine hK.out _ _ (by exact hSltaw9_1) (fun hHeld => ?_)
      clear hK K
      try simp only [Act.put, List.getElem_toArray, List.getElem_cons_zero, List.getElem_cons_succ, List.setIfInBounds_toArray, List.set_cons_zero, List.set_cons_succ]
      refine wpAnyH_take (i := 3) (v := ?_) rfl (by kernel_rfl) (by kernel_rfl) (by kernel_rfl) (fun _ _ _ h => h) (Or.inl ⟨by rfl, ?_⟩) (by assumption) ?_
      rotate_left
      · (intro w hSw; (try dsimp only at hSw); go_simp; (try with_reducible rfl))
      try simp only [Act.put, List.getElem_toArray, List.getElem_cons_zero, List.getElem_cons_succ, List.setIfInBounds_toArray, List.set_cons_zero, List.set_cons_succ]
      refine wpAnyH_take (i := 4) (v := ?_) rfl (by kernel_rfl) (by kernel_rfl) (by kernel_rfl) (fun _ _ _ h => h) (Or.inl ⟨by rfl, ?_⟩) (by assumption) ?_
      rotate_left
      · (intro w hSw; (try dsimp only at hSw); go_simp; (try with_reducible rfl))
      try simp only [Act.put, List.getElem_toArray, List.getElem_cons_zero, List.getElem_cons_succ, List.setIfInBounds_toArray, List.set_cons_zero, List.set_cons_succ]
      refine wpAnyH_take (i := 5) (v := ?_) rfl (by kernel_rfl) (by kernel_rfl) (by kernel_rfl) (fun _ _ _ h => h) (Or.inl ⟨by rfl, ?_⟩) (by assumption) ?_
      rotate_left
      · (intro w hSw; (try dsimp only at hSw); go_simp; (try with_reducible rfl))
      try simp only [Act.put, List.getElem_toArray, List.getElem_cons_zero, List.getElem_cons_succ, List.setIfInBounds_toArray, List.set_cons_zero, List.set_cons_succ]
      refine wpAnyH_take (i := 6) (v := ?_) rfl (by kernel_rfl) (by kernel_rfl) (by kernel_rfl) (fun _ _ _ h => h) (Or.inl ⟨by rfl, ?_⟩) (by assumption) ?_
      rotate_left
      · (intro w hSw; (try dsimp only at hSw); go_simp; (try with_reducible rfl))
      try simp only [Act.put, List.getElem_toArray, List.getElem_cons_zero, List.getElem_cons_succ, List.setIfInBounds_toArray, List.set_cons_zero, List.set_cons_succ]
      refine wpAnyH_take (i := 7) (v := ?_) rfl (by kernel_rfl) (by kernel_rfl) (by kernel_rfl) (fun _ _ _ h => h) (Or.inl ⟨by rfl, ?_⟩) (by assumption) ?_
      rotate_left
      · (intro w hSw; (try dsimp only at hSw); go_simp; (try with_reducible rfl))
      try simp only [Act.put, List.getElem_toArray, List.getElem_cons_zero, List.getElem_cons_succ, List.setIfInBounds_toArray, List.set_cons_zero, List.set_cons_succ]
      refine wpAnyH_take (i := 8) (v := ?_) rfl (by kernel_rfl) (by kernel_rfl) (by kernel_rfl) (fun _ _ _ h => h) (Or.inl ⟨by rfl, ?_⟩) (by assumption) ?_
      rotate_left
      · (intro w hSw; (try dsimp only at hSw); go_simp; (try with_reducible rfl))
      try simp only [Act.put, List.getElem_toArray, List.getElem_cons_zero, List.getElem_cons_succ, List.setIfInBounds_toArray, List.set_cons_zero, List.set_cons_succ]
      refine wpAnyH_take (i := 9) (v := undef) rfl (by kernel_rfl) (by kernel_rfl) (by kernel_rfl) (fun _ _ _ h => h) (Or.inr ⟨by rfl, rfl⟩) (by assumption) ?_
      try simp only [Act.put, List.getElem_toArray, List.getElem_cons_zero, List.getElem_cons_succ, List.setIfInBounds_toArray, List.set_cons_zero, List.set_cons_succ]
      refine wpAnyH_take (i := 11) (v := undef) rfl (by kernel_rfl) (by kernel_rfl) (by kernel_rfl) (fun _ _ _ h => h) (Or.inr ⟨by rfl, rfl⟩) (by assumption) ?_
      try simp only [Act.put, List.getElem_toArray, List.getElem_cons_zero, List.getElem_cons_succ, List.setIfInBounds_toArray, List.set_cons_zero, List.set_cons_succ]
      refine wpAnyH_ready (rs := [10]) (by kernel_rfl) (by simp) ?_
      refine AllReadyH.cons rfl (fun K hK => ?_) AllReadyH.nil
      go_simp
      refine hK.out _ _ (by assumption) (fun hHeld => ?_)
      clear hK K
      try simp only [Act.put, List.getElem_toArray, List.getElem_cons_zero, List.getElem_cons_succ, List.setIfInBounds_toArray, List.set_cons_zero, List.set_cons_succ]
      refine wpAnyH_ready (rs := [12]) (by kernel_rfl) (by simp) ?_
      refine AllReadyH.cons rfl (fun K hK => ?_) AllReadyH.nil
      go_simp
      refine hK.out _ _ (by assumption) (fun hHeld => ?_)
      clear hK K
      try simp only [Act.put, List.getElem_toArray, List.getElem_cons_zero, List.getElem_cons_succ, List.setIfInBounds_toArray, List.set_cons_zero, List.set_cons_succ]
      refine wpAnyH_take (i := 13) (v := undef) rfl (by kernel_rfl) (by kernel_rfl) (by kernel_rfl) (fun _ _ _ h => h) (Or.inr ⟨by rfl, rfl⟩) (by assumption) ?_
      try simp only [Act.put, List.getElem_toArray, List.getElem_cons_zero, List.getElem_cons_succ, List.setIfInBounds_toArray, List.set_cons_zero, List.set_cons_succ]
      refine wpAnyH_take (i := 14) (v := ?_) rfl (by kernel_rfl) (by kernel_rfl) (by kernel_rfl) (fun _ _ _ h => h) (Or.inl ⟨by rfl, ?_⟩) (by assumption) ?_
      rotate_left
      · (intro w hSw; (try dsimp only at hSw); go_simp; (try with_reducible rfl))
      try simp only [Act.put, List.getElem_toArray, List.getElem_cons_zero, List.getElem_cons_succ, List.setIfInBounds_toArray, List.set_cons_zero, List.set_cons_succ]
      refine wpAnyH_take (i := 15) (v := ?_) rfl (by kernel_rfl) (by kernel_rfl) (by kernel_rfl) (fun _ _ _ h => h) (Or.inl ⟨by rfl, ?_⟩) (by assumption) ?_
      rotate_left
      · (intro w hSw; (try dsimp only at hSw); go_simp; (try with_reducible rfl))
      try simp only [Act.put, List.getElem_toArray, List.getElem_cons_zero, List.getElem_cons_succ, List.setIfInBounds_toArray, List.set_cons_zero, List.set_cons_succ]
      refine wpAnyH_take (i := 16) (v := ?_) rfl (by kernel_rfl) (by kernel_rfl) (by kernel_rfl) (fun _ _ _ h => h) (Or.inl ⟨by rfl, ?_⟩) (by assumption) ?_
      rotate_left
      · (intro w hSw; (try dsimp only at hSw); go_simp; (try with_reducible rfl))
      try simp only [Act.put, List.getElem_toArray, List.getElem_cons_zero, List.getElem_cons_succ, List.setIfInBounds_toArray, List.set_cons_zero, List.set_cons_succ]
      refine wpAnyH_done (by kernel_rfl) ?_ _
      replace ba := heap_kept hGltaw9_1 ba
      replace bx := heap_kept hGltaw9_1 bx
      replace na := na.kept hGltaw9_1
      replace nx := nx.kept hGltaw9_1
      replace hT := hT.kept hGltaw9_1 (by simp)
      replace hG := grown_trans hG hGltaw9_1
      clear cba fba cbx fbx
      obtain ⟨cba, fba⟩ := box_cell ba
      obtain ⟨cbx, fbx⟩ := box_cell bx
      go_wp2_with fail
      go_ret
      exact ⟨by first | rfl | simp, hG⟩
    · skip
      have f1 : decide ((1000 : Int) < (s.size : Int)) = false := decide_eq_false (by omega)
      refine wp_region_held_drew (S := fun w' => w'.cell? ⟨auw1, 0, none⟩ = some (.slice sa xa.length xa.length) ∧ w'.cell? ⟨auw3, 0, none⟩ = some (.slice sx lx cx)) (by kernel_rfl) (by exact ⟨cba, cbx⟩) (fun hHeld => ?_)
      refine wpAnyH_take (i := 0) (v := ?_) rfl (by kernel_rfl) (by kernel_rfl) (by kernel_rfl) (fun _ _ _ h => h) (Or.inl ⟨by rfl, ?_⟩) (by assumption) ?_
      rotate_left
      · (intro w hSw; (try dsimp only at hSw); go_simp; (try with_reducible rfl))
      try simp only [Act.put, List.getElem_toArray, List.getElem_cons_zero, List.getElem_cons_succ, List.setIfInBounds_toArray, List.set_cons_zero, List.set_cons_succ]
      refine wpAnyH_take (i := 2) (v := ?_) rfl (by kernel_rfl) (by kernel_rfl) (by kernel_rfl) (fun _ _ _ h => h) (Or.inl ⟨by rfl, ?_⟩) (by assumption) ?_
      rotate_left
      · (intro w hSw; (try dsimp only at hSw); go_simp; (try with_reducible rfl))
      try simp only [Act.put, List.getElem_toArray, List.getElem_cons_zero, List.getElem_cons_succ, List.setIfInBounds_toArray, List.set_cons_zero, List.set_cons_succ]
      refine wpAnyH_ready (rs := [1]) (by kernel_rfl) (by simp) ?_
      refine AllReadyH.cons rfl (fun K hK => ?_) AllReadyH.nil
      go_simp
      (go_at_call 17; (with_reducible refine (Text_any ltw8_2.drew _ _ 213 (na.kept (grown_drew (grown_refl _ _))) (by omega) la).mono ?_); rintro e ltbw9_1 ⟨z, rfl, dz, vz, gltbw9_1⟩; (obtain rfl : z = s := dec_uniq dz HDEC.out (vz.trans HA.out.symm)); have hGltbw9_1 := grown_pre ltw8_2 gltbw9_1 rfl rfl rfl rfl; have hSltbw9_1 := (And.intro (hGltbw9_1.cell cba (by simp)) (hGltbw9_1.cell cbx (by simp))); clear gltbw9_1)
      (try go_wp2_with fail)
      refine hK.out _ _ (by exact hSltbw9_1) (fun hHeld => ?_)
      clear hK K
      try simp only [Act.put, List.getElem_toArray, List.getElem_cons_zero, List.getElem_cons_succ, List.setIfInBounds_toArray, List.set_cons_zero, List.set_cons_succ]
      refine wpAnyH_take (i := 3) (v := ?_) rfl (by kernel_rfl) (by kernel_rfl) (by kernel_rfl) (fun _ _ _ h => h) (Or.inl ⟨by rfl, ?_⟩) (by assumption) ?_
      rotate_left
      · (intro w hSw; (try dsimp only at hSw); go_simp; (try with_reducible rfl))
      try simp only [Act.put, List.getElem_toArray, List.getElem_cons_zero, List.getElem_cons_succ, List.setIfInBounds_toArray, List.set_cons_zero, List.set_cons_succ]
      refine wpAnyH_take (i := 4) (v := ?_) rfl (by kernel_rfl) (by kernel_rfl) (by kernel_rfl) (fun _ _ _ h => h) (Or.inl ⟨by rfl, ?_⟩) (by assumption) ?_
      rotate_left
      · (intro w hSw; (try dsimp only at hSw); go_simp; (try with_reducible rfl))
      try simp only [Act.put, List.getElem_toArray, List.getElem_cons_zero, List.getElem_cons_succ, List.setIfInBounds_toArray, List.set_cons_zero, List.set_cons_succ]
      refine wpAnyH_take (i := 5) (v := ?_) rfl (by kernel_rfl) (by kernel_rfl) (by kernel_rfl) (fun _ _ _ h => h) (Or.inl ⟨by rfl, ?_⟩) (by assumption) ?_
      rotate_left
      · (intro w hSw; (try dsimp only at hSw); go_simp; (try with_reducible rfl))
      try simp only [Act.put, List.getElem_toArray, List.getElem_cons_zero, List.getElem_cons_succ, List.setIfInBounds_toArray, List.set_cons_zero, List.set_cons_succ]
      refine wpAnyH_take (i := 6) (v := ?_) rfl (by kernel_rfl) (by kernel_rfl) (by kernel_rfl) (fun _ _ _ h => h) (Or.inl ⟨by rfl, ?_⟩) (by assumption) ?_
      rotate_left
      · (intro w hSw; (try dsimp only at hSw); go_simp; (try with_reducible rfl))
      try simp only [Act.put, List.getElem_toArray, List.getElem_cons_zero, List.getElem_cons_succ, List.setIfInBounds_toArray, List.set_cons_zero, List.set_cons_succ]
      refine wpAnyH_take (i := 7) (v := ?_) rfl (by kernel_rfl) (by kernel_rfl) (by kernel_rfl) (fun _ _ _ h => h) (Or.inl ⟨by rfl, ?_⟩) (by assumption) ?_
      rotate_left
      · (intro w hSw; (try dsimp only at hSw); go_simp; (try with_reducible rfl))
      try simp only [Act.put, List.getElem_toArray, List.getElem_cons_zero, List.getElem_cons_succ, List.setIfInBounds_toArray, List.set_cons_zero, List.set_cons_succ]
      refine wpAnyH_take (i := 8) (v := ?_) rfl (by kernel_rfl) (by kernel_rfl) (by kernel_rfl) (fun _ _ _ h => h) (Or.inl ⟨by rfl, ?_⟩) (by assumption) ?_
      rotate_left
      · (intro w hSw; (try dsimp only at hSw); go_simp; (try with_reducible rfl))
      try simp only [Act.put, List.getElem_toArray, List.getElem_cons_zero, List.getElem_cons_succ, List.setIfInBounds_toArray, List.set_cons_zero, List.set_cons_succ]
      refine wpAnyH_take (i := 9) (v := ?_) rfl (by kernel_rfl) (by kernel_rfl) (by kernel_rfl) (fun _ _ _ h => h) (Or.inl ⟨by rfl, ?_⟩) (by assumption) ?_
      rotate_left
      · (intro w hSw; (try dsimp only at hSw); go_simp; (try with_reducible rfl))
      try simp only [Act.put, List.getElem_toArray, List.getElem_cons_zero, List.getElem_cons_succ, List.setIfInBounds_toArray, List.set_cons_zero, List.set_cons_succ]
      refine wpAnyH_take (i := 11) (v := ?_) rfl (by kernel_rfl) (by kernel_rfl) (by kernel_rfl) (fun _ _ _ h => h) (Or.inl ⟨by rfl, ?_⟩) (by assumption) ?_
      rotate_left
      · (intro w hSw; (try dsimp only at hSw); go_simp; (try with_reducible rfl))
      try simp only [Act.put, List.getElem_toArray, List.getElem_cons_zero, List.getElem_cons_succ, List.setIfInBounds_toArray, List.set_cons_zero, List.set_cons_succ]
      refine wpAnyH_ready (rs := [10]) (by kernel_rfl) (by simp) ?_
      refine AllReadyH.cons rfl (fun K hK => ?_) AllReadyH.nil
      go_simp
      (go_at_call 23; (with_reducible refine (Bits_any ltbw9_1 _ _ 213 (na.kept hGltbw9_1) (by omega) la).mono ?_); rintro e ltbw9_2 ⟨rfl, gltbw9_2⟩; have hGltbw9_2 := grown_trans hGltbw9_1 gltbw9_2; have hSltbw9_2 := (And.intro (hGltbw9_2.cell cba (by simp)) (hGltbw9_2.cell cbx (by simp))); clear gltbw9_2; clear hGltbw9_1 hSltbw9_1)
      (try go_wp2_with fail)
      refine hK.out _ _ (by exact hSltbw9_2) (fun hHeld => ?_)
      clear hK K
      try simp only [Act.put, List.getElem_toArray, List.getElem_cons_zero, List.getElem_cons_succ, List.setIfInBounds_toArray, List.set_cons_zero, List.set_cons_succ]
      refine wpAnyH_ready (rs := [12]) (by kernel_rfl) (by simp) ?_
      refine AllReadyH.cons rfl (fun K hK => ?_) AllReadyH.nil
      go_simp
      (go_at_call 24; (with_reducible refine (rBits_any ltbw9_2 _ _ (nx.kept hGltbw9_2) (toD la (by omega)) (nbB la (by omega))).mono ?_); rintro e ltbw9_3 ⟨rfl, gltbw9_3⟩; have hGltbw9_3 := grown_trans hGltbw9_2 gltbw9_3; have hSltbw9_3 := (And.intro (hGltbw9_3.cell cba (by simp)) (hGltbw9_3.cell cbx (by simp))); clear gltbw9_3; clear hGltbw9_2 hSltbw9_2)
      (try go_wp2_with fail)
      refine hK.out _ _ (by exact hSltbw9_3) (fun hHeld => ?_)
      clear hK K
      try simp only [Act.put, List.getElem_toArray, List.getElem_cons_zero, List.getElem_cons_succ, List.setIfInBounds_toArray, List.set_cons_zero, List.set_cons_succ]
      refine wpAnyH_take (i := 13) (v := ?_) rfl (by kernel_rfl) (by kernel_rfl) (by kernel_rfl) (fun _ _ _ h => h) (Or.inl ⟨by rfl, ?_⟩) (by assumption) ?_
      rotate_left
      · (intro w hSw; (try dsimp only at hSw); go_simp; (try with_reducible rfl))
      try simp only [Act.put, List.getElem_toArray, List.getElem_cons_zero, List.getElem_cons_succ, List.setIfInBounds_toArray, List.set_cons_zero, List.set_cons_succ]
      refine wpAnyH_take (i := 14) (v := ?_) rfl (by kernel_rfl) (by kernel_rfl) (by kernel_rfl) (fun _ _ _ h => h) (Or.inl ⟨by rfl, ?_⟩) (by assumption) ?_
      rotate_left
      · (intro w hSw; (try dsimp only at hSw); go_simp; (try with_reducible rfl))
      try simp only [Act.put, List.getElem_toArray, List.getElem_cons_zero, List.getElem_cons_succ, List.setIfInBounds_toArray, List.set_cons_zero, List.set_cons_succ]
      refine wpAnyH_take (i := 15) (v := ?_) rfl (by kernel_rfl) (by kernel_rfl) (by kernel_rfl) (fun _ _ _ h => h) (Or.inl ⟨by rfl, ?_⟩) (by assumption) ?_
      rotate_left
      · (intro w hSw; (try dsimp only at hSw); go_simp; (try with_reducible rfl))
      try simp only [Act.put, List.getElem_toArray, List.getElem_cons_zero, List.getElem_cons_succ, List.setIfInBounds_toArray, List.set_cons_zero, List.set_cons_succ]
      refine wpAnyH_take (i := 16) (v := ?_) rfl (by kernel_rfl) (by kernel_rfl) (by kernel_rfl) (fun _ _ _ h => h) (Or.inl ⟨by rfl, ?_⟩) (by assumption) ?_
      rotate_left
      · (intro w hSw; (try dsimp only at hSw); go_simp; (try with_reducible rfl))
      try simp only [Act.put, List.getElem_toArray, List.getElem_cons_zero, List.getElem_cons_succ, List.setIfInBounds_toArray, List.set_cons_zero, List.set_cons_succ]
      refine wpAnyH_done (by kernel_rfl) ?_ _
      replace ba := heap_kept hGltbw9_3 ba
      replace bx := heap_kept hGltbw9_3 bx
      replace na := na.kept hGltbw9_3
      replace nx := nx.kept hGltbw9_3
      replace hT := hT.kept hGltbw9_3 (by simp)
      replace hG := grown_trans hG hGltbw9_3
      clear cba fba cbx fbx
      obtain ⟨cba, fba⟩ := box_cell ba
      obtain ⟨cbx, fbx⟩ := box_cell bx
      go_wp2_with fail
      go_ret
      exact ⟨by first | rfl | simp, hG⟩
  · skip
    clear cba fba cbx fbx
    refine (Word_any w5 _ _ 213 na (by omega) la).mono ?_
    rintro e gew6 ⟨⟨y, rfl, -, hy⟩, ggew6⟩
    obtain rfl : y = 0 := hy (by omega); rw [decide_eq_false (by omega : ¬ A < B)]
    replace ba := heap_kept ggew6 ba
    replace bx := heap_kept ggew6 bx
    replace na := na.kept ggew6
    replace nx := nx.kept ggew6
    replace hT := hT.kept ggew6 (by simp)
    replace hG := grown_trans hG ggew6
    clear ggew6
    obtain ⟨cba, fba⟩ := box_cell ba
    obtain ⟨cbx, fbx⟩ := box_cell bx
    go_wp2_with fail
    go_region_held3 (fun w' => w'.cell? ⟨auw3, 0, none⟩ = some (.slice sx lx cx))
      (first | assumption | exact cbx | go_keep)
      (first
        | (go_at_call 20; (with_reducible refine (rTwo_64 gew6.drew).mono ?_); rintro e gew7_1 ⟨_, rfl, nt, ggew7_1⟩; have hGgew7_1 := grown_pre gew6 ggew7_1 rfl rfl rfl rfl; have hSgew7_1 := (hGgew7_1.cell cbx (by simp)); clear ggew7_1)
        | (go_at_call 19; (with_reducible refine (rCmp_any gew7_1 _ _ _ _ (nx.kept hGgew7_1) nt (toD la (by omega)) B_lt_D).mono ?_); rintro e gew7_2 ⟨rfl, ggew7_2⟩; (obtain ⟨cc, hcc⟩ : ∃ c, cmpInt A B = c := ⟨_, rfl⟩); rw [hcc]; have fcc : decide (cc < 0) = false := decide_eq_false (by rw [← hcc]; exact cmpInt_ge h0); have hGgew7_2 := grown_trans hGgew7_1 ggew7_2; replace nt := nt.kept ggew7_2; have hSgew7_2 := (hGgew7_2.cell cbx (by simp)); clear ggew7_2; clear hGgew7_1 hSgew7_1))
    replace ba := heap_kept hGgew7_2 ba
    replace bx := heap_kept hGgew7_2 bx
    replace na := na.kept hGgew7_2
    replace nx := nx.kept hGgew7_2
    replace hT := hT.kept hGgew7_2 (by simp)
    replace hG := grown_trans hG hGgew7_2
    clear cba fba cbx fbx
    obtain ⟨cba, fba⟩ := box_cell ba
    obtain ⟨cbx, fbx⟩ := box_cell bx
    go_wp2_with fail
    refine wp_region_held_drew (S := fun w' => w'.cell? ⟨auw3, 0, none⟩ = some (.slice sx lx cx)) (by kernel_rfl) (by exact cbx) (fun hHeld => ?_)
    refine wpAnyH_take (i := 0) (v := ?_) rfl (by kernel_rfl) (by kernel_rfl) (by kernel_rfl) (fun _ _ _ h => h) (Or.inl ⟨by rfl, ?_⟩) (by assumption) ?_
    rotate_left
    · (intro w hSw; (try dsimp only at hSw); go_simp; (try with_reducible rfl))
    try simp only [Act.put, List.getElem_toArray, List.getElem_cons_zero, List.getElem_cons_succ, List.setIfInBounds_toArray, List.set_cons_zero, List.set_cons_succ]
    refine wpAnyH_take (i := 1) (v := ?_) rfl (by kernel_rfl) (by kernel_rfl) (by kernel_rfl) (fun _ _ _ h => h) (Or.inl ⟨by rfl, ?_⟩) (by assumption) ?_
    rotate_left
    · (intro w hSw; (try dsimp only at hSw); go_simp; (try with_reducible rfl))
    try simp only [Act.put, List.getElem_toArray, List.getElem_cons_zero, List.getElem_cons_succ, List.setIfInBounds_toArray, List.set_cons_zero, List.set_cons_succ]
    refine wpAnyH_take (i := 2) (v := ?_) rfl (by kernel_rfl) (by kernel_rfl) (by kernel_rfl) (fun _ _ _ h => h) (Or.inl ⟨by rfl, ?_⟩) (by assumption) ?_
    rotate_left
    · (intro w hSw; (try dsimp only at hSw); go_simp; (try with_reducible rfl))
    try simp only [Act.put, List.getElem_toArray, List.getElem_cons_zero, List.getElem_cons_succ, List.setIfInBounds_toArray, List.set_cons_zero, List.set_cons_succ]
    refine wpAnyH_take (i := 3) (v := ?_) rfl (by kernel_rfl) (by kernel_rfl) (by kernel_rfl) (fun _ _ _ h => h) (Or.inl ⟨by rfl, ?_⟩) (by assumption) ?_
    rotate_left
    · (intro w hSw; (try dsimp only at hSw); go_simp; (try with_reducible rfl))
    try simp only [Act.put, List.getElem_toArray, List.getElem_cons_zero, List.getElem_cons_succ, List.setIfInBounds_toArray, List.set_cons_zero, List.set_cons_succ]
    refine wpAnyH_take (i := 4) (v := ?_) rfl (by kernel_rfl) (by kernel_rfl) (by kernel_rfl) (fun _ _ _ h => h) (Or.inl ⟨by rfl, ?_⟩) (by assumption) ?_
    rotate_left
    · (intro w hSw; (try dsimp only at hSw); go_simp; (try with_reducible rfl))
    try simp only [Act.put, List.getElem_toArray, List.getElem_cons_zero, List.getElem_cons_succ, List.setIfInBounds_toArray, List.set_cons_zero, List.set_cons_succ]
    refine wpAnyH_take (i := 5) (v := ?_) rfl (by kernel_rfl) (by kernel_rfl) (by kernel_rfl) (fun _ _ _ h => h) (Or.inl ⟨by rfl, ?_⟩) (by assumption) ?_
    rotate_left
    · (intro w hSw; (try dsimp only at hSw); go_simp; (try with_reducible rfl))
    try simp only [Act.put, List.getElem_toArray, List.getElem_cons_zero, List.getElem_cons_succ, List.setIfInBounds_toArray, List.set_cons_zero, List.set_cons_succ]
    refine wpAnyH_take (i := 6) (v := undef) rfl (by kernel_rfl) (by kernel_rfl) (by kernel_rfl) (fun _ _ _ h => h) (Or.inr ⟨by rfl, rfl⟩) (by assumption) ?_
    try simp only [Act.put, List.getElem_toArray, List.getElem_cons_zero, List.getElem_cons_succ, List.setIfInBounds_toArray, List.set_cons_zero, List.set_cons_succ]
    refine wpAnyH_take (i := 8) (v := undef) rfl (by kernel_rfl) (by kernel_rfl) (by kernel_rfl) (fun _ _ _ h => h) (Or.inr ⟨by rfl, rfl⟩) (by assumption) ?_
    try simp only [Act.put, List.getElem_toArray, List.getElem_cons_zero, List.getElem_cons_succ, List.setIfInBounds_toArray, List.set_cons_zero, List.set_cons_succ]
    refine wpAnyH_ready (rs := [7]) (by kernel_rfl) (by simp) ?_
    refine AllReadyH.cons rfl (fun K hK => ?_) AllReadyH.nil
    go_simp
    refine hK.out _ _ (by assumption) (fun hHeld => ?_)
    clear hK K
    try simp only [Act.put, List.getElem_toArray, List.getElem_cons_zero, List.getElem_cons_succ, List.setIfInBounds_toArray, List.set_cons_zero, List.set_cons_succ]
    refine wpAnyH_ready (rs := [9]) (by kernel_rfl) (by simp) ?_
    refine AllReadyH.cons rfl (fun K hK => ?_) AllReadyH.nil
    go_simp
    refine hK.out _ _ (by assumption) (fun hHeld => ?_)
    clear hK K
    try simp only [Act.put, List.getElem_toArray, List.getElem_cons_zero, List.getElem_cons_succ, List.setIfInBounds_toArray, List.set_cons_zero, List.set_cons_succ]
    refine wpAnyH_take (i := 10) (v := undef) rfl (by kernel_rfl) (by kernel_rfl) (by kernel_rfl) (fun _ _ _ h => h) (Or.inr ⟨by rfl, rfl⟩) (by assumption) ?_
    try simp only [Act.put, List.getElem_toArray, List.getElem_cons_zero, List.getElem_cons_succ, List.setIfInBounds_toArray, List.set_cons_zero, List.set_cons_succ]
    refine wpAnyH_take (i := 11) (v := ?_) rfl (by kernel_rfl) (by kernel_rfl) (by kernel_rfl) (fun _ _ _ h => h) (Or.inl ⟨by rfl, ?_⟩) (by assumption) ?_
    rotate_left
    · (intro w hSw; (try dsimp only at hSw); go_simp; (try with_reducible rfl))
    try simp only [Act.put, List.getElem_toArray, List.getElem_cons_zero, List.getElem_cons_succ, List.setIfInBounds_toArray, List.set_cons_zero, List.set_cons_succ]
    refine wpAnyH_take (i := 12) (v := ?_) rfl (by kernel_rfl) (by kernel_rfl) (by kernel_rfl) (fun _ _ _ h => h) (Or.inl ⟨by rfl, ?_⟩) (by assumption) ?_
    rotate_left
    · (intro w hSw; (try dsimp only at hSw); go_simp; (try with_reducible rfl))
    try simp only [Act.put, List.getElem_toArray, List.getElem_cons_zero, List.getElem_cons_succ, List.setIfInBounds_toArray, List.set_cons_zero, List.set_cons_succ]
    refine wpAnyH_take (i := 13) (v := ?_) rfl (by kernel_rfl) (by kernel_rfl) (by kernel_rfl) (fun _ _ _ h => h) (Or.inl ⟨by rfl, ?_⟩) (by assumption) ?_
    rotate_left
    · (intro w hSw; (try dsimp only at hSw); go_simp; (try with_reducible rfl))
    try simp only [Act.put, List.getElem_toArray, List.getElem_cons_zero, List.getElem_cons_succ, List.setIfInBounds_toArray, List.set_cons_zero, List.set_cons_succ]
    refine wpAnyH_take (i := 14) (v := ?_) rfl (by kernel_rfl) (by kernel_rfl) (by kernel_rfl) (fun _ _ _ h => h) (Or.inl ⟨by rfl, ?_⟩) (by assumption) ?_
    rotate_left
    · (intro w hSw; (try dsimp only at hSw); go_simp; (try with_reducible rfl))
    try simp only [Act.put, List.getElem_toArray, List.getElem_cons_zero, List.getElem_cons_succ, List.setIfInBounds_toArray, List.set_cons_zero, List.set_cons_succ]
    refine wpAnyH_take (i := 15) (v := ?_) rfl (by kernel_rfl) (by kernel_rfl) (by kernel_rfl) (fun _ _ _ h => h) (Or.inl ⟨by rfl, ?_⟩) (by assumption) ?_
    rotate_left
    · (intro w hSw; (try dsimp only at hSw); go_simp; (try with_reducible rfl))
    try simp only [Act.put, List.getElem_toArray, List.getElem_cons_zero, List.getElem_cons_succ, List.setIfInBounds_toArray, List.set_cons_zero, List.set_cons_succ]
    refine wpAnyH_take (i := 16) (v := ?_) rfl (by kernel_rfl) (by kernel_rfl) (by kernel_rfl) (fun _ _ _ h => h) (Or.inl ⟨by rfl, ?_⟩) (by assumption) ?_
    rotate_left
    · (intro w hSw; (try dsimp only at hSw); go_simp; (try with_reducible rfl))
    try simp only [Act.put, List.getElem_toArray, List.getElem_cons_zero, List.getElem_cons_succ, List.setIfInBounds_toArray, List.set_cons_zero, List.set_cons_succ]
    refine wpAnyH_take (i := 17) (v := ?_) rfl (by kernel_rfl) (by kernel_rfl) (by kernel_rfl) (fun _ _ _ h => h) (Or.inl ⟨by rfl, ?_⟩) (by assumption) ?_
    rotate_left
    · (intro w hSw; (try dsimp only at hSw); go_simp; (try with_reducible rfl))
    try simp only [Act.put, List.getElem_toArray, List.getElem_cons_zero, List.getElem_cons_succ, List.setIfInBounds_toArray, List.set_cons_zero, List.set_cons_succ]
    refine wpAnyH_take (i := 18) (v := ?_) rfl (by kernel_rfl) (by kernel_rfl) (by kernel_rfl) (fun _ _ _ h => h) (Or.inl ⟨by rfl, ?_⟩) (by assumption) ?_
    rotate_left
    · (intro w hSw; (try dsimp only at hSw); go_simp; (try with_reducible rfl))
    try simp only [Act.put, List.getElem_toArray, List.getElem_cons_zero, List.getElem_cons_succ, List.setIfInBounds_toArray, List.set_cons_zero, List.set_cons_succ]
    refine wpAnyH_take (i := 19) (v := ?_) rfl (by kernel_rfl) (by kernel_rfl) (by kernel_rfl) (fun _ _ _ h => h) (Or.inl ⟨by rfl, ?_⟩) (by assumption) ?_
    rotate_left
    · (intro w hSw; (try dsimp only at hSw); go_simp; (try with_reducible rfl))
    try simp only [Act.put, List.getElem_toArray, List.getElem_cons_zero, List.getElem_cons_succ, List.setIfInBounds_toArray, List.set_cons_zero, List.set_cons_succ]
    refine wpAnyH_take (i := 20) (v := ?_) rfl (by kernel_rfl) (by kernel_rfl) (by kernel_rfl) (fun _ _ _ h => h) (Or.inl ⟨by rfl, ?_⟩) (by assumption) ?_
    rotate_left
    · (intro w hSw; (try dsimp only at hSw); go_simp; (try with_reducible rfl))
    try simp only [Act.put, List.getElem_toArray, List.getElem_cons_zero, List.getElem_cons_succ, List.setIfInBounds_toArray, List.set_cons_zero, List.set_cons_succ]
    refine wpAnyH_done (by kernel_rfl) ?_ _
    clear cba fba cbx fbx
    have hGd : gew7_2.grownBy gew7_2.drew none := grown_drew (grown_refl _ _)
    replace ba := heap_kept hGd ba
    replace bx := heap_kept hGd bx
    replace na := na.kept hGd
    replace nx := nx.kept hGd
    replace hT := hT.kept hGd (by simp)
    replace hG := grown_trans hG hGd
    clear hGd
    generalize gew7_2.drew = gew9 at *
    obtain ⟨cba, fba⟩ := box_cell ba
    obtain ⟨cbx, fbx⟩ := box_cell bx
    go_wp2_with fail
    by_cases hlen : 1000 < s.size
    · skip
      have f1 : decide ((1000 : Int) < (s.size : Int)) = true := decide_eq_true (by omega)
      refine wp_region_held_drew (S := fun w' => w'.cell? ⟨auw1, 0, none⟩ = some (.slice sa xa.length xa.length) ∧ w'.cell? ⟨auw3, 0, none⟩ = some (.slice sx lx cx)) (by kernel_rfl) (by exact ⟨cba, cbx⟩) (fun hHeld => ?_)
      refine wpAnyH_take (i := 0) (v := ?_) rfl (by kernel_rfl) (by kernel_rfl) (by kernel_rfl) (fun _ _ _ h => h) (Or.inl ⟨by rfl, ?_⟩) (by assumption) ?_
      rotate_left
      · (intro w hSw; (try dsimp only at hSw); go_simp; (try with_reducible rfl))
      try simp only [Act.put, List.getElem_toArray, List.getElem_cons_zero, List.getElem_cons_succ, List.setIfInBounds_toArray, List.set_cons_zero, List.set_cons_succ]
      refine wpAnyH_take (i := 2) (v := ?_) rfl (by kernel_rfl) (by kernel_rfl) (by kernel_rfl) (fun _ _ _ h => h) (Or.inl ⟨by rfl, ?_⟩) (by assumption) ?_
      rotate_left
      · (intro w hSw; (try dsimp only at hSw); go_simp; (try with_reducible rfl))
      try simp only [Act.put, List.getElem_toArray, List.getElem_cons_zero, List.getElem_cons_succ, List.setIfInBounds_toArray, List.set_cons_zero, List.set_cons_succ]
      refine wpAnyH_ready (rs := [1]) (by kernel_rfl) (by simp) ?_
      refine AllReadyH.cons rfl (fun K hK => ?_) AllReadyH.nil
      go_simp
      (go_at_call 17; (with_reducible refine (Text_any gew9.drew _ _ 213 (na.kept (grown_drew (grown_refl _ _))) (by omega) la).mono ?_); rintro e geaw10_1 ⟨z, rfl, dz, vz, ggeaw10_1⟩; (obtain rfl : z = s := dec_uniq dz HDEC.out (vz.trans HA.out.symm)); have hGgeaw10_1 := grown_pre gew9 ggeaw10_1 rfl rfl rfl rfl; have hSgeaw10_1 := (And.intro (hGgeaw10_1.cell cba (by simp)) (hGgeaw10_1.cell cbx (by simp))); clear ggeaw10_1)
      (try go_wp2_with fail)
      refine hK.out _ _ (by exact hSgeaw10_1) (fun hHeld => ?_)
      clear hK K
      try simp only [Act.put, List.getElem_toArray, List.getElem_cons_zero, List.getElem_cons_succ, List.setIfInBounds_toArray, List.set_cons_zero, List.set_cons_succ]
      refine wpAnyH_take (i := 3) (v := ?_) rfl (by kernel_rfl) (by kernel_rfl) (by kernel_rfl) (fun _ _ _ h => h) (Or.inl ⟨by rfl, ?_⟩) (by assumption) ?_
      rotate_left
      · (intro w hSw; (try dsimp only at hSw); go_simp; (try with_reducible rfl))
      try simp only [Act.put, List.getElem_toArray, List.getElem_cons_zero, List.getElem_cons_succ, List.setIfInBounds_toArray, List.set_cons_zero, List.set_cons_succ]
      refine wpAnyH_take (i := 4) (v := ?_) rfl (by kernel_rfl) (by kernel_rfl) (by kernel_rfl) (fun _ _ _ h => h) (Or.inl ⟨by rfl, ?_⟩) (by assumption) ?_
      rotate_left
      · (intro w hSw; (try dsimp only at hSw); go_simp; (try with_reducible rfl))
      try simp only [Act.put, List.getElem_toArray, List.getElem_cons_zero, List.getElem_cons_succ, List.setIfInBounds_toArray, List.set_cons_zero, List.set_cons_succ]
      refine wpAnyH_take (i := 5) (v := ?_) rfl (by kernel_rfl) (by kernel_rfl) (by kernel_rfl) (fun _ _ _ h => h) (Or.inl ⟨by rfl, ?_⟩) (by assumption) ?_
      rotate_left
      · (intro w hSw; (try dsimp only at hSw); go_simp; (try with_reducible rfl))
      try simp only [Act.put, List.getElem_toArray, List.getElem_cons_zero, List.getElem_cons_succ, List.setIfInBounds_toArray, List.set_cons_zero, List.set_cons_succ]
      refine wpAnyH_take (i := 6) (v := ?_) rfl (by kernel_rfl) (by kernel_rfl) (by kernel_rfl) (fun _ _ _ h => h) (Or.inl ⟨by rfl, ?_⟩) (by assumption) ?_
      rotate_left
      · (intro w hSw; (try dsimp only at hSw); go_simp; (try with_reducible rfl))
      try simp only [Act.put, List.getElem_toArray, List.getElem_cons_zero, List.getElem_cons_succ, List.setIfInBounds_toArray, List.set_cons_zero, List.set_cons_succ]
      refine wpAnyH_take (i := 7) (v := ?_) rfl (by kernel_rfl) (by kernel_rfl) (by kernel_rfl) (fun _ _ _ h => h) (Or.inl ⟨by rfl, ?_⟩) (by assumption) ?_
      rotate_left
      · (intro w hSw; (try dsimp only at hSw); go_simp; (try with_reducible rfl))
      try simp only [Act.put, List.getElem_toArray, List.getElem_cons_zero, List.getElem_cons_succ, List.setIfInBounds_toArray, List.set_cons_zero, List.set_cons_succ]
      refine wpAnyH_take (i := 8) (v := ?_) rfl (by kernel_rfl) (by kernel_rfl) (by kernel_rfl) (fun _ _ _ h => h) (Or.inl ⟨by rfl, ?_⟩) (by assumption) ?_
      rotate_left
      · (intro w hSw; (try dsimp only at hSw); go_simp; (try with_reducible rfl))
      try simp only [Act.put, List.getElem_toArray, List.getElem_cons_zero, List.getElem_cons_succ, List.setIfInBounds_toArray, List.set_cons_zero, List.set_cons_succ]
      refine wpAnyH_take (i := 9) (v := undef) rfl (by kernel_rfl) (by kernel_rfl) (by kernel_rfl) (fun _ _ _ h => h) (Or.inr ⟨by rfl, rfl⟩) (by assumption) ?_
      try simp only [Act.put, List.getElem_toArray, List.getElem_cons_zero, List.getElem_cons_succ, List.setIfInBounds_toArray, List.set_cons_zero, List.set_cons_succ]
      refine wpAnyH_take (i := 11) (v := undef) rfl (by kernel_rfl) (by kernel_rfl) (by kernel_rfl) (fun _ _ _ h => h) (Or.inr ⟨by rfl, rfl⟩) (by assumption) ?_
      try simp only [Act.put, List.getElem_toArray, List.getElem_cons_zero, List.getElem_cons_succ, List.setIfInBounds_toArray, List.set_cons_zero, List.set_cons_succ]
      refine wpAnyH_ready (rs := [10]) (by kernel_rfl) (by simp) ?_
      refine AllReadyH.cons rfl (fun K hK => ?_) AllReadyH.nil
      go_simp
      refine hK.out _ _ (by assumption) (fun hHeld => ?_)
      clear hK K
      try simp only [Act.put, List.getElem_toArray, List.getElem_cons_zero, List.getElem_cons_succ, List.setIfInBounds_toArray, List.set_cons_zero, List.set_cons_succ]
      refine wpAnyH_ready (rs := [12]) (by kernel_rfl) (by simp) ?_
      refine AllReadyH.cons rfl (fun K hK => ?_) AllReadyH.nil
      go_simp
      refine hK.out _ _ (by assumption) (fun hHeld => ?_)
      clear hK K
      try simp only [Act.put, List.getElem_toArray, List.getElem_cons_zero, List.getElem_cons_succ, List.setIfInBounds_toArray, List.set_cons_zero, List.set_cons_succ]
      refine wpAnyH_take (i := 13) (v := undef) rfl (by kernel_rfl) (by kernel_rfl) (by kernel_rfl) (fun _ _ _ h => h) (Or.inr ⟨by rfl, rfl⟩) (by assumption) ?_
      try simp only [Act.put, List.getElem_toArray, List.getElem_cons_zero, List.getElem_cons_succ, List.setIfInBounds_toArray, List.set_cons_zero, List.set_cons_succ]
      refine wpAnyH_take (i := 14) (v := ?_) rfl (by kernel_rfl) (by kernel_rfl) (by kernel_rfl) (fun _ _ _ h => h) (Or.inl ⟨by rfl, ?_⟩) (by assumption) ?_
      rotate_left
      · (intro w hSw; (try dsimp only at hSw); go_simp; (try with_reducible rfl))
      try simp only [Act.put, List.getElem_toArray, List.getElem_cons_zero, List.getElem_cons_succ, List.setIfInBounds_toArray, List.set_cons_zero, List.set_cons_succ]
      refine wpAnyH_take (i := 15) (v := ?_) rfl (by kernel_rfl) (by kernel_rfl) (by kernel_rfl) (fun _ _ _ h => h) (Or.inl ⟨by rfl, ?_⟩) (by assumption) ?_
      rotate_left
      · (intro w hSw; (try dsimp only at hSw); go_simp; (try with_reducible rfl))
      try simp only [Act.put, List.getElem_toArray, List.getElem_cons_zero, List.getElem_cons_succ, List.setIfInBounds_toArray, List.set_cons_zero, List.set_cons_succ]
      refine wpAnyH_take (i := 16) (v := ?_) rfl (by kernel_rfl) (by kernel_rfl) (by kernel_rfl) (fun _ _ _ h => h) (Or.inl ⟨by rfl, ?_⟩) (by assumption) ?_
      rotate_left
      · (intro w hSw; (try dsimp only at hSw); go_simp; (try with_reducible rfl))
      try simp only [Act.put, List.getElem_toArray, List.getElem_cons_zero, List.getElem_cons_succ, List.setIfInBounds_toArray, List.set_cons_zero, List.set_cons_succ]
      refine wpAnyH_done (by kernel_rfl) ?_ _
      replace ba := heap_kept hGgeaw10_1 ba
      replace bx := heap_kept hGgeaw10_1 bx
      replace na := na.kept hGgeaw10_1
      replace nx := nx.kept hGgeaw10_1
      replace hT := hT.kept hGgeaw10_1 (by simp)
      replace hG := grown_trans hG hGgeaw10_1
      clear cba fba cbx fbx
      obtain ⟨cba, fba⟩ := box_cell ba
      obtain ⟨cbx, fbx⟩ := box_cell bx
      go_wp2_with fail
      go_ret
      exact ⟨by first | rfl | simp, hG⟩
    · skip
      have f1 : decide ((1000 : Int) < (s.size : Int)) = false := decide_eq_false (by omega)
      refine wp_region_held_drew (S := fun w' => w'.cell? ⟨auw1, 0, none⟩ = some (.slice sa xa.length xa.length) ∧ w'.cell? ⟨auw3, 0, none⟩ = some (.slice sx lx cx)) (by kernel_rfl) (by exact ⟨cba, cbx⟩) (fun hHeld => ?_)
      refine wpAnyH_take (i := 0) (v := ?_) rfl (by kernel_rfl) (by kernel_rfl) (by kernel_rfl) (fun _ _ _ h => h) (Or.inl ⟨by rfl, ?_⟩) (by assumption) ?_
      rotate_left
      · (intro w hSw; (try dsimp only at hSw); go_simp; (try with_reducible rfl))
      try simp only [Act.put, List.getElem_toArray, List.getElem_cons_zero, List.getElem_cons_succ, List.setIfInBounds_toArray, List.set_cons_zero, List.set_cons_succ]
      refine wpAnyH_take (i := 2) (v := ?_) rfl (by kernel_rfl) (by kernel_rfl) (by kernel_rfl) (fun _ _ _ h => h) (Or.inl ⟨by rfl, ?_⟩) (by assumption) ?_
      rotate_left
      · (intro w hSw; (try dsimp only at hSw); go_simp; (try with_reducible rfl))
      try simp only [Act.put, List.getElem_toArray, List.getElem_cons_zero, List.getElem_cons_succ, List.setIfInBounds_toArray, List.set_cons_zero, List.set_cons_succ]
      refine wpAnyH_ready (rs := [1]) (by kernel_rfl) (by simp) ?_
      refine AllReadyH.cons rfl (fun K hK => ?_) AllReadyH.nil
      go_simp
      (go_at_call 17; (with_reducible refine (Text_any gew9.drew _ _ 213 (na.kept (grown_drew (grown_refl _ _))) (by omega) la).mono ?_); rintro e gebw10_1 ⟨z, rfl, dz, vz, ggebw10_1⟩; (obtain rfl : z = s := dec_uniq dz HDEC.out (vz.trans HA.out.symm)); have hGgebw10_1 := grown_pre gew9 ggebw10_1 rfl rfl rfl rfl; have hSgebw10_1 := (And.intro (hGgebw10_1.cell cba (by simp)) (hGgebw10_1.cell cbx (by simp))); clear ggebw10_1)
      (try go_wp2_with fail)
      refine hK.out _ _ (by exact hSgebw10_1) (fun hHeld => ?_)
      clear hK K
      try simp only [Act.put, List.getElem_toArray, List.getElem_cons_zero, List.getElem_cons_succ, List.setIfInBounds_toArray, List.set_cons_zero, List.set_cons_succ]
      refine wpAnyH_take (i := 3) (v := ?_) rfl (by kernel_rfl) (by kernel_rfl) (by kernel_rfl) (fun _ _ _ h => h) (Or.inl ⟨by rfl, ?_⟩) (by assumption) ?_
      rotate_left
      · (intro w hSw; (try dsimp only at hSw); go_simp; (try with_reducible rfl))
      try simp only [Act.put, List.getElem_toArray, List.getElem_cons_zero, List.getElem_cons_succ, List.setIfInBounds_toArray, List.set_cons_zero, List.set_cons_succ]
      refine wpAnyH_take (i := 4) (v := ?_) rfl (by kernel_rfl) (by kernel_rfl) (by kernel_rfl) (fun _ _ _ h => h) (Or.inl ⟨by rfl, ?_⟩) (by assumption) ?_
      rotate_left
      · (intro w hSw; (try dsimp only at hSw); go_simp; (try with_reducible rfl))
      try simp only [Act.put, List.getElem_toArray, List.getElem_cons_zero, List.getElem_cons_succ, List.setIfInBounds_toArray, List.set_cons_zero, List.set_cons_succ]
      refine wpAnyH_take (i := 5) (v := ?_) rfl (by kernel_rfl) (by kernel_rfl) (by kernel_rfl) (fun _ _ _ h => h) (Or.inl ⟨by rfl, ?_⟩) (by assumption) ?_
      rotate_left
      · (intro w hSw; (try dsimp only at hSw); go_simp; (try with_reducible rfl))
      try simp only [Act.put, List.getElem_toArray, List.getElem_cons_zero, List.getElem_cons_succ, List.setIfInBounds_toArray, List.set_cons_zero, List.set_cons_succ]
      refine wpAnyH_take (i := 6) (v := ?_) rfl (by kernel_rfl) (by kernel_rfl) (by kernel_rfl) (fun _ _ _ h => h) (Or.inl ⟨by rfl, ?_⟩) (by assumption) ?_
      rotate_left
      · (intro w hSw; (try dsimp only at hSw); go_simp; (try with_reducible rfl))
      try simp only [Act.put, List.getElem_toArray, List.getElem_cons_zero, List.getElem_cons_succ, List.setIfInBounds_toArray, List.set_cons_zero, List.set_cons_succ]
      refine wpAnyH_take (i := 7) (v := ?_) rfl (by kernel_rfl) (by kernel_rfl) (by kernel_rfl) (fun _ _ _ h => h) (Or.inl ⟨by rfl, ?_⟩) (by assumption) ?_
      rotate_left
      · (intro w hSw; (try dsimp only at hSw); go_simp; (try with_reducible rfl))
      try simp only [Act.put, List.getElem_toArray, List.getElem_cons_zero, List.getElem_cons_succ, List.setIfInBounds_toArray, List.set_cons_zero, List.set_cons_succ]
      refine wpAnyH_take (i := 8) (v := ?_) rfl (by kernel_rfl) (by kernel_rfl) (by kernel_rfl) (fun _ _ _ h => h) (Or.inl ⟨by rfl, ?_⟩) (by assumption) ?_
      rotate_left
      · (intro w hSw; (try dsimp only at hSw); go_simp; (try with_reducible rfl))
      try simp only [Act.put, List.getElem_toArray, List.getElem_cons_zero, List.getElem_cons_succ, List.setIfInBounds_toArray, List.set_cons_zero, List.set_cons_succ]
      refine wpAnyH_take (i := 9) (v := ?_) rfl (by kernel_rfl) (by kernel_rfl) (by kernel_rfl) (fun _ _ _ h => h) (Or.inl ⟨by rfl, ?_⟩) (by assumption) ?_
      rotate_left
      · (intro w hSw; (try dsimp only at hSw); go_simp; (try with_reducible rfl))
      try simp only [Act.put, List.getElem_toArray, List.getElem_cons_zero, List.getElem_cons_succ, List.setIfInBounds_toArray, List.set_cons_zero, List.set_cons_succ]
      refine wpAnyH_take (i := 11) (v := ?_) rfl (by kernel_rfl) (by kernel_rfl) (by kernel_rfl) (fun _ _ _ h => h) (Or.inl ⟨by rfl, ?_⟩) (by assumption) ?_
      rotate_left
      · (intro w hSw; (try dsimp only at hSw); go_simp; (try with_reducible rfl))
      try simp only [Act.put, List.getElem_toArray, List.getElem_cons_zero, List.getElem_cons_succ, List.setIfInBounds_toArray, List.set_cons_zero, List.set_cons_succ]
      refine wpAnyH_ready (rs := [10]) (by kernel_rfl) (by simp) ?_
      refine AllReadyH.cons rfl (fun K hK => ?_) AllReadyH.nil
      go_simp
      (go_at_call 23; (with_reducible refine (Bits_any gebw10_1 _ _ 213 (na.kept hGgebw10_1) (by omega) la).mono ?_); rintro e gebw10_2 ⟨rfl, ggebw10_2⟩; have hGgebw10_2 := grown_trans hGgebw10_1 ggebw10_2; have hSgebw10_2 := (And.intro (hGgebw10_2.cell cba (by simp)) (hGgebw10_2.cell cbx (by simp))); clear ggebw10_2; clear hGgebw10_1 hSgebw10_1)
      (try go_wp2_with fail)
      refine hK.out _ _ (by exact hSgebw10_2) (fun hHeld => ?_)
      clear hK K
      try simp only [Act.put, List.getElem_toArray, List.getElem_cons_zero, List.getElem_cons_succ, List.setIfInBounds_toArray, List.set_cons_zero, List.set_cons_succ]
      refine wpAnyH_ready (rs := [12]) (by kernel_rfl) (by simp) ?_
      refine AllReadyH.cons rfl (fun K hK => ?_) AllReadyH.nil
      go_simp
      (go_at_call 24; (with_reducible refine (rBits_any gebw10_2 _ _ (nx.kept hGgebw10_2) (toD la (by omega)) (nbB la (by omega))).mono ?_); rintro e gebw10_3 ⟨rfl, ggebw10_3⟩; have hGgebw10_3 := grown_trans hGgebw10_2 ggebw10_3; have hSgebw10_3 := (And.intro (hGgebw10_3.cell cba (by simp)) (hGgebw10_3.cell cbx (by simp))); clear ggebw10_3; clear hGgebw10_2 hSgebw10_2)
      (try go_wp2_with fail)
      refine hK.out _ _ (by exact hSgebw10_3) (fun hHeld => ?_)
      clear hK K
      try simp only [Act.put, List.getElem_toArray, List.getElem_cons_zero, List.getElem_cons_succ, List.setIfInBounds_toArray, List.set_cons_zero, List.set_cons_succ]
      refine wpAnyH_take (i := 13) (v := ?_) rfl (by kernel_rfl) (by kernel_rfl) (by kernel_rfl) (fun _ _ _ h => h) (Or.inl ⟨by rfl, ?_⟩) (by assumption) ?_
      rotate_left
      · (intro w hSw; (try dsimp only at hSw); go_simp; (try with_reducible rfl))
      try simp only [Act.put, List.getElem_toArray, List.getElem_cons_zero, List.getElem_cons_succ, List.setIfInBounds_toArray, List.set_cons_zero, List.set_cons_succ]
      refine wpAnyH_take (i := 14) (v := ?_) rfl (by kernel_rfl) (by kernel_rfl) (by kernel_rfl) (fun _ _ _ h => h) (Or.inl ⟨by rfl, ?_⟩) (by assumption) ?_
      rotate_left
      · (intro w hSw; (try dsimp only at hSw); go_simp; (try with_reducible rfl))
      try simp only [Act.put, List.getElem_toArray, List.getElem_cons_zero, List.getElem_cons_succ, List.setIfInBounds_toArray, List.set_cons_zero, List.set_cons_succ]
      refine wpAnyH_take (i := 15) (v := ?_) rfl (by kernel_rfl) (by kernel_rfl) (by kernel_rfl) (fun _ _ _ h => h) (Or.inl ⟨by rfl, ?_⟩) (by assumption) ?_
      rotate_left
      · (intro w hSw; (try dsimp only at hSw); go_simp; (try with_reducible rfl))
      try simp only [Act.put, List.getElem_toArray, List.getElem_cons_zero, List.getElem_cons_succ, List.setIfInBounds_toArray, List.set_cons_zero, List.set_cons_succ]
      refine wpAnyH_take (i := 16) (v := ?_) rfl (by kernel_rfl) (by kernel_rfl) (by kernel_rfl) (fun _ _ _ h => h) (Or.inl ⟨by rfl, ?_⟩) (by assumption) ?_
      rotate_left
      · (intro w hSw; (try dsimp only at hSw); go_simp; (try with_reducible rfl))
      try simp only [Act.put, List.getElem_toArray, List.getElem_cons_zero, List.getElem_cons_succ, List.setIfInBounds_toArray, List.set_cons_zero, List.set_cons_succ]
      refine wpAnyH_done (by kernel_rfl) ?_ _
      replace ba := heap_kept hGgebw10_3 ba
      replace bx := heap_kept hGgebw10_3 bx
      replace na := na.kept hGgebw10_3
      replace nx := nx.kept hGgebw10_3
      replace hT := hT.kept hGgebw10_3 (by simp)
      replace hG := grown_trans hG hGgebw10_3
      clear cba fba cbx fbx
      obtain ⟨cba, fba⟩ := box_cell ba
      obtain ⟨cbx, fbx⟩ := box_cell bx
      go_wp2_with fail
      go_ret
      exact ⟨by first | rfl | simp, hG⟩
end Go.Proofs.YtooeonjkpgbdpaaDoor
