/- What the laws lean on, part 2. -/
import Derived.Deep.RegionHeld3
import Derived.Deep.CutRange
import Derived.Test.YtldkddogadmpbaaDoorMb1
import Derived.Test.YtldkddogadmpbaaDoorMa17
namespace Go.Proofs.YtldkddogadmpbaaDoor
open Go.RowKit Mat
set_option maxRecDepth 100000
set_option linter.unusedVariables false
set_option linter.unusedSimpArgs false
theorem fdiv_bd {x : Int} {g K : Nat} (hg : g ∣ x.natAbs) (h : x.natAbs < B ^ K) : (x / (g : Int)).natAbs < B ^ K := by
  exact Nat.lt_of_le_of_lt (Int.natAbs_ediv_le_natAbs _ _) h
set_option maxHeartbeats 16000000 in
theorem FProduct_any (w : World) (va vb vc vd : Value) (r t : Rat) (K : Nat) (Ha : IntV w va r.num) (Hb : IntV w vb (r.den : Int)) (Hc : IntV w vc t.num) (Hd : IntV w vd (t.den : Int)) (hK : K ≤ 300000) (ln : r.num.natAbs < B ^ K) (ld : r.den < B ^ K) (mn : t.num.natAbs < B ^ K) (md : t.den < B ^ K) (hTab : Tab w) :
    Calls Tryd.prog 46 #[va, vb, vc, vd] w (RetRat w (r * t)) := by
  have ldi : (r.den : Int).natAbs < B ^ K := by rw [Int.natAbs_natCast]; exact ld
  have mdi : (t.den : Int).natAbs < B ^ K := by rw [Int.natAbs_natCast]; exact md
  obtain ⟨G1, e1⟩ : ∃ G, Nat.gcd r.num.natAbs t.den = G := ⟨_, rfl⟩
  obtain ⟨G2, e2⟩ : ∃ G, Nat.gcd t.num.natAbs r.den = G := ⟨_, rfl⟩
  have g1p : 0 < G1 := by rw [← e1]; exact Nat.gcd_pos_of_pos_right _ t.den_pos
  have g2p : 0 < G2 := by rw [← e2]; exact Nat.gcd_pos_of_pos_right _ r.den_pos
  have g1d : G1 ∣ r.num.natAbs ∧ G1 ∣ t.den := by rw [← e1]; exact ⟨Nat.gcd_dvd_left _ _, Nat.gcd_dvd_right _ _⟩
  have g2d : G2 ∣ t.num.natAbs ∧ G2 ∣ r.den := by rw [← e2]; exact ⟨Nat.gcd_dvd_left _ _, Nat.gcd_dvd_right _ _⟩
  have g1b : (G1 : Int).natAbs < B ^ K := by rw [Int.natAbs_natCast, ← e1]; exact fgcd_bd ln md
  have g2b : (G2 : Int).natAbs < B ^ K := by rw [Int.natAbs_natCast, ← e2]; exact fgcd_bd mn ld
  have c1 : ∀ (W : World) (v u : Value), IntV W v r.num → IntV W u (t.den : Int) → Tab W → Calls Tryd.prog 51 #[v, u] W (RetInt W (G1 : Int)) := fun W v u h1 h2 h3 => by
    have h := FCommon_any W v u r.num (t.den : Int) K h1 h2 (by omega) ln mdi h3
    rw [Int.natAbs_natCast, e1] at h; exact h
  have c2 : ∀ (W : World) (v u : Value), IntV W v t.num → IntV W u (r.den : Int) → Tab W → Calls Tryd.prog 51 #[v, u] W (RetInt W (G2 : Int)) := fun W v u h1 h2 h3 => by
    have h := FCommon_any W v u t.num (r.den : Int) K h1 h2 (by omega) mn ldi h3
    rw [Int.natAbs_natCast, e2] at h; exact h
  obtain ⟨N1, q1⟩ : ∃ z, r.num / (G1 : Int) = z := ⟨_, rfl⟩
  obtain ⟨M1, q2⟩ : ∃ z, t.num / (G2 : Int) = z := ⟨_, rfl⟩
  obtain ⟨D1, q3⟩ : ∃ z, (r.den : Int) / (G2 : Int) = z := ⟨_, rfl⟩
  obtain ⟨F1, q4⟩ : ∃ z, (t.den : Int) / (G1 : Int) = z := ⟨_, rfl⟩
  have s1 : ∀ (W : World) (v u : Value), IntV W v r.num → IntV W u (G1 : Int) → Calls Tryd.prog 54 #[v, u] W (RetInt W N1) := fun W v u h1 h2 => q1 ▸ FShare_any W v u r.num (G1 : Int) K h1 h2 (by omega) ln g1b (by omega)
  have s2 : ∀ (W : World) (v u : Value), IntV W v t.num → IntV W u (G2 : Int) → Calls Tryd.prog 54 #[v, u] W (RetInt W M1) := fun W v u h1 h2 => q2 ▸ FShare_any W v u t.num (G2 : Int) K h1 h2 (by omega) mn g2b (by omega)
  have s3 : ∀ (W : World) (v u : Value), IntV W v (r.den : Int) → IntV W u (G2 : Int) → Calls Tryd.prog 54 #[v, u] W (RetInt W D1) := fun W v u h1 h2 => q3 ▸ FShare_any W v u (r.den : Int) (G2 : Int) K h1 h2 (by omega) ldi g2b (by omega)
  have s4 : ∀ (W : World) (v u : Value), IntV W v (t.den : Int) → IntV W u (G1 : Int) → Calls Tryd.prog 54 #[v, u] W (RetInt W F1) := fun W v u h1 h2 => q4 ▸ FShare_any W v u (t.den : Int) (G1 : Int) K h1 h2 (by omega) mdi g1b (by omega)
  have b1 : N1.natAbs < B ^ K := by rw [← q1]; exact fdiv_bd g1d.1 ln
  have b2 : M1.natAbs < B ^ K := by rw [← q2]; exact fdiv_bd g2d.1 mn
  have b3 : D1.natAbs < B ^ K := by rw [← q3]; exact fdiv_bd (by rw [Int.natAbs_natCast]; exact g2d.2) ldi
  have b4 : F1.natAbs < B ^ K := by rw [← q4]; exact fdiv_bd (by rw [Int.natAbs_natCast]; exact g1d.2) mdi
  have rn : (r * t).num = N1 * M1 := by rw [rmul_num, e1, e2, q1, q2]
  have rd : ((r * t).den : Int) = D1 * F1 := by rw [rmul_den, e1, e2, ← q3, ← q4, Int.natCast_mul]; rfl
  have rb : (r * t).den < B ^ (K + K) := by
    have h := fmul_bd b3 b4
    rw [← rd, Int.natAbs_natCast] at h; exact h
  obtain ⟨R, hR⟩ : ∃ R, r * t = R := ⟨_, rfl⟩
  rw [hR] at rn rd rb ⊢
  have HRN : Hid (R.num = N1 * M1 ∧ (R.den : Int) = D1 * F1 ∧ R.den < B ^ (K + K)) := ⟨rn, rd, rb⟩
  clear e1 e2 g1p g2p g1d g2d g1b g2b q1 q2 q3 q4 rn rd rb hR ldi mdi ln ld mn md
  have HC1 := Lib.hid c1
  have HC2 := Lib.hid c2
  have HS1 := Lib.hid s1
  have HS2 := Lib.hid s2
  have HS3 := Lib.hid s3
  have HS4 := Lib.hid s4
  have HB1 := Lib.hid b1
  have HB2 := Lib.hid b2
  have HB3 := Lib.hid b3
  have HB4 := Lib.hid b4
  clear c1 c2 s1 s2 s3 s4 b1 b2 b3 b4
  have HTB : Hid (∀ W, w.grownBy W none → Tab W) := fun W hW => hTab.kept hW (by simp)
  clear hTab
  obtain ⟨sa, xa, ba, rfl, ha, va, ta⟩ := Ha
  obtain ⟨sb, xb, bb, rfl, hb, vb, tb⟩ := Hb
  obtain ⟨sc, xc, bc, rfl, hc, vc, tc⟩ := Hc
  obtain ⟨sd, xd, bd, rfl, hd, vd, td⟩ := Hd
  have hG : w.grownBy (((((w.alloc (.cells #[.slice sa xa.length xa.length, .bool ba] 28)).alloc (.cells #[.slice sb xb.length xb.length, .bool bb] 28)).alloc (.cells #[.slice sc xc.length xc.length, .bool bc] 28)).alloc (.cells #[.slice sd xd.length xd.length, .bool bd] 28)).alloc (.cells #[.slice none 0 0, .bool false, .slice none 0 0, .bool false] 30)) none := (grown_alloc (grown_alloc (grown_alloc (grown_alloc (World.grownBy_alloc _ _ _) _) _) _) _)
  have Ba := heap_kept (grown_alloc (grown_alloc (grown_alloc (World.grownBy_alloc _ (.cells #[.slice sb xb.length xb.length, .bool bb] 28) none) (.cells #[.slice sc xc.length xc.length, .bool bc] 28)) (.cells #[.slice sd xd.length xd.length, .bool bd] 28)) (.cells #[.slice none 0 0, .bool false, .slice none 0 0, .bool false] 30)) (heap_new w (.cells #[.slice sa xa.length xa.length, .bool ba] 28) (w.heap.size) rfl)
  have Bb := heap_kept (grown_alloc (grown_alloc (World.grownBy_alloc _ (.cells #[.slice sc xc.length xc.length, .bool bc] 28) none) (.cells #[.slice sd xd.length xd.length, .bool bd] 28)) (.cells #[.slice none 0 0, .bool false, .slice none 0 0, .bool false] 30)) (heap_new (w.alloc (.cells #[.slice sa xa.length xa.length, .bool ba] 28)) (.cells #[.slice sb xb.length xb.length, .bool bb] 28) (w.heap.size + 1) (by simp))
  have Bc := heap_kept (grown_alloc (World.grownBy_alloc _ (.cells #[.slice sd xd.length xd.length, .bool bd] 28) none) (.cells #[.slice none 0 0, .bool false, .slice none 0 0, .bool false] 30)) (heap_new ((w.alloc (.cells #[.slice sa xa.length xa.length, .bool ba] 28)).alloc (.cells #[.slice sb xb.length xb.length, .bool bb] 28)) (.cells #[.slice sc xc.length xc.length, .bool bc] 28) (w.heap.size + 1 + 1) (by simp))
  have Bd := heap_kept (World.grownBy_alloc _ (.cells #[.slice none 0 0, .bool false, .slice none 0 0, .bool false] 30) none) (heap_new (((w.alloc (.cells #[.slice sa xa.length xa.length, .bool ba] 28)).alloc (.cells #[.slice sb xb.length xb.length, .bool bb] 28)).alloc (.cells #[.slice sc xc.length xc.length, .bool bc] 28)) (.cells #[.slice sd xd.length xd.length, .bool bd] 28) (w.heap.size + 1 + 1 + 1) (by simp))
  have Bq := (heap_new ((((w.alloc (.cells #[.slice sa xa.length xa.length, .bool ba] 28)).alloc (.cells #[.slice sb xb.length xb.length, .bool bb] 28)).alloc (.cells #[.slice sc xc.length xc.length, .bool bc] 28)).alloc (.cells #[.slice sd xd.length xd.length, .bool bd] 28)) (.cells #[.slice none 0 0, .bool false, .slice none 0 0, .bool false] 30) (w.heap.size + 1 + 1 + 1 + 1) (by simp))
  have ia : IntV (((((w.alloc (.cells #[.slice sa xa.length xa.length, .bool ba] 28)).alloc (.cells #[.slice sb xb.length xb.length, .bool bb] 28)).alloc (.cells #[.slice sc xc.length xc.length, .bool bc] 28)).alloc (.cells #[.slice sd xd.length xd.length, .bool bd] 28)).alloc (.cells #[.slice none 0 0, .bool false, .slice none 0 0, .bool false] 30)) (.agg #[.slice sa xa.length xa.length, .bool ba]) (r.num) := ⟨sa, xa, ba, rfl, ha.kept hG, va, ta⟩
  have ib : IntV (((((w.alloc (.cells #[.slice sa xa.length xa.length, .bool ba] 28)).alloc (.cells #[.slice sb xb.length xb.length, .bool bb] 28)).alloc (.cells #[.slice sc xc.length xc.length, .bool bc] 28)).alloc (.cells #[.slice sd xd.length xd.length, .bool bd] 28)).alloc (.cells #[.slice none 0 0, .bool false, .slice none 0 0, .bool false] 30)) (.agg #[.slice sb xb.length xb.length, .bool bb]) ((r.den : Int)) := ⟨sb, xb, bb, rfl, hb.kept hG, vb, tb⟩
  have ic : IntV (((((w.alloc (.cells #[.slice sa xa.length xa.length, .bool ba] 28)).alloc (.cells #[.slice sb xb.length xb.length, .bool bb] 28)).alloc (.cells #[.slice sc xc.length xc.length, .bool bc] 28)).alloc (.cells #[.slice sd xd.length xd.length, .bool bd] 28)).alloc (.cells #[.slice none 0 0, .bool false, .slice none 0 0, .bool false] 30)) (.agg #[.slice sc xc.length xc.length, .bool bc]) (t.num) := ⟨sc, xc, bc, rfl, hc.kept hG, vc, tc⟩
  have id : IntV (((((w.alloc (.cells #[.slice sa xa.length xa.length, .bool ba] 28)).alloc (.cells #[.slice sb xb.length xb.length, .bool bb] 28)).alloc (.cells #[.slice sc xc.length xc.length, .bool bc] 28)).alloc (.cells #[.slice sd xd.length xd.length, .bool bd] 28)).alloc (.cells #[.slice none 0 0, .bool false, .slice none 0 0, .bool false] 30)) (.agg #[.slice sd xd.length xd.length, .bool bd]) ((t.den : Int)) := ⟨sd, xd, bd, rfl, hd.kept hG, vd, td⟩
  have oa : IntV w (.agg #[.slice sa xa.length xa.length, .bool ba]) (r.num) := ⟨sa, xa, ba, rfl, ha, va, ta⟩
  clear ha va ta
  have ob : IntV w (.agg #[.slice sb xb.length xb.length, .bool bb]) ((r.den : Int)) := ⟨sb, xb, bb, rfl, hb, vb, tb⟩
  clear hb vb tb
  have oc : IntV w (.agg #[.slice sc xc.length xc.length, .bool bc]) (t.num) := ⟨sc, xc, bc, rfl, hc, vc, tc⟩
  clear hc vc tc
  have od : IntV w (.agg #[.slice sd xd.length xd.length, .bool bd]) ((t.den : Int)) := ⟨sd, xd, bd, rfl, hd, vd, td⟩
  clear hd vd td
  go_enter Tryd.func46, Tryd.ntmps46
  obtain ⟨Ca0, Ca1, Fa0, Fa1⟩ := box_cells Ba
  obtain ⟨Cb0, Cb1, Fb0, Fb1⟩ := box_cells Bb
  obtain ⟨Cc0, Cc1, Fc0, Fc1⟩ := box_cells Bc
  obtain ⟨Cd0, Cd1, Fd0, Fd1⟩ := box_cells Bd
  obtain ⟨Cq0, Cq1, Cq2, Cq3, Fq0, Fq1, Fq2, Fq3⟩ := box_cells4 Bq
  go_wp2_with fail
  generalize (((((w.alloc (.cells #[.slice sa xa.length xa.length, .bool ba] 28)).alloc (.cells #[.slice sb xb.length xb.length, .bool bb] 28)).alloc (.cells #[.slice sc xc.length xc.length, .bool bc] 28)).alloc (.cells #[.slice sd xd.length xd.length, .bool bd] 28)).alloc (.cells #[.slice none 0 0, .bool false, .slice none 0 0, .bool false] 30)) = w0 at *
  have hX : w0.grownBy w0 none := grown_refl _ _
  have HG9 := Lib.hid hG
  have Ha9 := Lib.hid Ba
  have Hb9 := Lib.hid Bb
  have Hc9 := Lib.hid Bc
  have Hd9 := Lib.hid Bd
  have Hq9 := Lib.hid Bq
  have Ia9 := Lib.hid ia
  have Ib9 := Lib.hid ib
  have Ic9 := Lib.hid ic
  have Id9 := Lib.hid id
  have hs0 : w.heap.size + 1 + 1 + 1 + 1 < w0.heap.size := (Array.getElem?_eq_some_iff.1 Bq).1
  have HS0 := Lib.hid hs0
  clear hs0
  go_cut [9, 10] (fun p q wx => ∃ pg ph, p = .pointer (some ⟨pg, 0, none⟩) ∧ q = .pointer (some ⟨ph, 0, none⟩) ∧ BoxZ wx pg (G1 : Int) ∧ BoxZ wx ph (G2 : Int) ∧ w0.heap.size ≤ pg ∧ w0.heap.size ≤ ph ∧ w0.grownBy wx none)
  case first =>
   have hs0 := HS0.out
   clear Ca0 Fa0 Ca1 Fa1 Cb0 Fb0 Cb1 Fb1 Cc0 Fc0 Cc1 Fc1 Cd0 Fd0 Cd1 Fd1 Cq0 Fq0 Cq1 Fq1 Cq2 Fq2 Cq3 Fq3
   clear Bq
   obtain ⟨Ca0, Ca1, Fa0, Fa1⟩ := box_cells Ba
   obtain ⟨Cb0, Cb1, Fb0, Fb1⟩ := box_cells Bb
   obtain ⟨Cc0, Cc1, Fc0, Fc1⟩ := box_cells Bc
   obtain ⟨Cd0, Cd1, Fd0, Fd1⟩ := box_cells Bd
   refine wp_region_held_drew (S := fun w' => w'.cell? ⟨w.heap.size, 0, none⟩ = some (.slice sa xa.length xa.length) ∧ w'.cell? ⟨w.heap.size, 1, none⟩ = some (.bool ba) ∧ w'.cell? ⟨w.heap.size + 1, 0, none⟩ = some (.slice sb xb.length xb.length) ∧ w'.cell? ⟨w.heap.size + 1, 1, none⟩ = some (.bool bb) ∧ w'.cell? ⟨w.heap.size + 1 + 1, 0, none⟩ = some (.slice sc xc.length xc.length) ∧ w'.cell? ⟨w.heap.size + 1 + 1, 1, none⟩ = some (.bool bc) ∧ w'.cell? ⟨w.heap.size + 1 + 1 + 1, 0, none⟩ = some (.slice sd xd.length xd.length) ∧ w'.cell? ⟨w.heap.size + 1 + 1 + 1, 1, none⟩ = some (.bool bd)) (by kernel_rfl) (by exact ⟨Ca0, Ca1, Cb0, Cb1, Cc0, Cc1, Cd0, Cd1⟩) (fun hHeld => ?_)
   have gd : w0.grownBy w0.drew none := grown_drew (grown_refl _ _)
   clear Ca0 Fa0 Ca1 Fa1 Cb0 Fb0 Cb1 Fb1 Cc0 Fc0 Cc1 Fc1 Cd0 Fd0 Cd1 Fd1
   replace Ba := heap_kept gd Ba
   replace Bb := heap_kept gd Bb
   replace Bc := heap_kept gd Bc
   replace Bd := heap_kept gd Bd
   replace ia := ia.kept gd
   replace ib := ib.kept gd
   replace ic := ic.kept gd
   replace id := id.kept gd
   replace hG := grown_trans hG gd
   replace hX := grown_trans hX gd
   clear gd
   generalize w0.drew = tw1 at *
   refine wpAnyH_take (i := 0) (v := ?_) rfl (by kernel_rfl) (by kernel_rfl) (by kernel_rfl) (fun _ _ _ h => h) (Or.inl ⟨by rfl, ?_⟩) (by assumption) ?_
   rotate_left
   · (intro w hSw; (try dsimp only at hSw); go_simp; (try with_reducible rfl))
   try simp only [Act.put, List.getElem_toArray, List.getElem_cons_zero, List.getElem_cons_succ, List.setIfInBounds_toArray, List.set_cons_zero, List.set_cons_succ]
   refine wpAnyH_take (i := 1) (v := ?_) rfl (by kernel_rfl) (by kernel_rfl) (by kernel_rfl) (fun _ _ _ h => h) (Or.inl ⟨by rfl, ?_⟩) (by assumption) ?_
   rotate_left
   · (intro w hSw; (try dsimp only at hSw); go_simp; (try with_reducible rfl))
   try simp only [Act.put, List.getElem_toArray, List.getElem_cons_zero, List.getElem_cons_succ, List.setIfInBounds_toArray, List.set_cons_zero, List.set_cons_succ]
   refine wpAnyH_take (i := 3) (v := ?_) rfl (by kernel_rfl) (by kernel_rfl) (by kernel_rfl) (fun _ _ _ h => h) (Or.inl ⟨by rfl, ?_⟩) (by assumption) ?_
   rotate_left
   · (intro w hSw; (try dsimp only at hSw); go_simp; (try with_reducible rfl))
   try simp only [Act.put, List.getElem_toArray, List.getElem_cons_zero, List.getElem_cons_succ, List.setIfInBounds_toArray, List.set_cons_zero, List.set_cons_succ]
   refine wpAnyH_take (i := 4) (v := ?_) rfl (by kernel_rfl) (by kernel_rfl) (by kernel_rfl) (fun _ _ _ h => h) (Or.inl ⟨by rfl, ?_⟩) (by assumption) ?_
   rotate_left
   · (intro w hSw; (try dsimp only at hSw); go_simp; (try with_reducible rfl))
   try simp only [Act.put, List.getElem_toArray, List.getElem_cons_zero, List.getElem_cons_succ, List.setIfInBounds_toArray, List.set_cons_zero, List.set_cons_succ]
   refine wpAnyH_ready (rs := [2, 6, 7]) (by kernel_rfl) (by simp) ?_
   refine AllReadyH.cons rfl (fun KQ hKQ => ?_) (AllReadyH.cons rfl (fun KQ hKQ => ?_) (AllReadyH.cons rfl (fun KQ hKQ => ?_) AllReadyH.nil))
   focus
    go_simp
    go_at_call 51
    refine (HC1.out tw1 _ _ ia id (HTB.out _ hG)).mono ?_
    rintro e tw2 ⟨_, rfl, ⟨sg, xg, bg, rfl, hg, vg, tg⟩, gtw2⟩
    have ig : IntV tw2 (.agg #[.slice sg xg.length xg.length, .bool bg]) ((G1 : Int)) := ⟨sg, xg, bg, rfl, hg, vg, tg⟩
    replace Ba := heap_kept gtw2 Ba
    replace Bb := heap_kept gtw2 Bb
    replace Bc := heap_kept gtw2 Bc
    replace Bd := heap_kept gtw2 Bd
    replace ia := ia.kept gtw2
    replace ib := ib.kept gtw2
    replace ic := ic.kept gtw2
    replace id := id.kept gtw2
    replace hG := grown_trans hG gtw2
    replace hX := grown_trans hX gtw2
    clear gtw2
    clear hg vg tg
    (try go_wp2_with fail)
    refine hKQ.out _ _ (by exact ⟨(box_cells Ba).1, (box_cells Ba).2.1, (box_cells Bb).1, (box_cells Bb).2.1, (box_cells Bc).1, (box_cells Bc).2.1, (box_cells Bd).1, (box_cells Bd).2.1⟩) (fun hHeld => ?_)
    clear hKQ KQ
    try simp only [Act.put, List.getElem_toArray, List.getElem_cons_zero, List.getElem_cons_succ, List.setIfInBounds_toArray, List.set_cons_zero, List.set_cons_succ]
    refine wpAnyH_ready (rs := [5, 6, 7]) (by kernel_rfl) (by simp) ?_
    refine AllReadyH.cons rfl (fun KQ hKQ => ?_) (AllReadyH.cons rfl (fun KQ hKQ => ?_) (AllReadyH.cons rfl (fun KQ hKQ => ?_) AllReadyH.nil))
    focus
     go_simp
     go_at_call 51
     refine (HC2.out tw2 _ _ ic ib (HTB.out _ hG)).mono ?_
     rintro e tw3 ⟨_, rfl, ⟨sh, xh, bh, rfl, hh, vh, th⟩, gtw3⟩
     have ih : IntV tw3 (.agg #[.slice sh xh.length xh.length, .bool bh]) ((G2 : Int)) := ⟨sh, xh, bh, rfl, hh, vh, th⟩
     replace Ba := heap_kept gtw3 Ba
     replace Bb := heap_kept gtw3 Bb
     replace Bc := heap_kept gtw3 Bc
     replace Bd := heap_kept gtw3 Bd
     replace ia := ia.kept gtw3
     replace ib := ib.kept gtw3
     replace ic := ic.kept gtw3
     replace id := id.kept gtw3
     replace ig := ig.kept gtw3
     replace hG := grown_trans hG gtw3
     replace hX := grown_trans hX gtw3
     clear gtw3
     clear hh vh th
     (try go_wp2_with fail)
     refine hKQ.out _ _ (by exact ⟨(box_cells Ba).1, (box_cells Ba).2.1, (box_cells Bb).1, (box_cells Bb).2.1, (box_cells Bc).1, (box_cells Bc).2.1, (box_cells Bd).1, (box_cells Bd).2.1⟩) (fun hHeld => ?_)
     clear hKQ KQ
     try simp only [Act.put, List.getElem_toArray, List.getElem_cons_zero, List.getElem_cons_succ, List.setIfInBounds_toArray, List.set_cons_zero, List.set_cons_succ]
     refine wpAnyH_ready (rs := [6, 7]) (by kernel_rfl) (by simp) ?_
     refine AllReadyH.cons rfl (fun KQ hKQ => ?_) (AllReadyH.cons rfl (fun KQ hKQ => ?_) AllReadyH.nil)
     focus
      have gA := World.grownBy_alloc tw3 (.cells #[.slice none 0 0, .bool false] 28) none
      have lohGe : w.heap.size ≤ tw3.heap.size := hG.size
      have lohXe : w0.heap.size ≤ tw3.heap.size := hX.size
      have ltae : w.heap.size < tw3.heap.size := heap_lt Ba
      have ltbe : w.heap.size + 1 < tw3.heap.size := heap_lt Bb
      have ltce : w.heap.size + 1 + 1 < tw3.heap.size := heap_lt Bc
      have ltde : w.heap.size + 1 + 1 + 1 < tw3.heap.size := heap_lt Bd
      have Be_ := heap_new tw3 (.cells #[.slice none 0 0, .bool false] 28) tw3.heap.size rfl
      replace Ba := heap_kept gA Ba
      replace Bb := heap_kept gA Bb
      replace Bc := heap_kept gA Bc
      replace Bd := heap_kept gA Bd
      replace ia := ia.kept gA
      replace ib := ib.kept gA
      replace ic := ic.kept gA
      replace id := id.kept gA
      replace ig := ig.kept gA
      replace ih := ih.kept gA
      replace hG := grown_trans hG gA
      replace hX := grown_trans hX gA
      clear gA
      go_simp
      generalize (tw3.alloc (.cells #[.slice none 0 0, .bool false] 28)) = tw4 at *
      generalize tw3.heap.size = pe at *
      have Be := Be_
      clear Be_
      refine hKQ.out _ _ (by exact ⟨(box_cells Ba).1, (box_cells Ba).2.1, (box_cells Bb).1, (box_cells Bb).2.1, (box_cells Bc).1, (box_cells Bc).2.1, (box_cells Bd).1, (box_cells Bd).2.1⟩) (fun hHeld => ?_)
      clear hKQ KQ
      try simp only [Act.put, List.getElem_toArray, List.getElem_cons_zero, List.getElem_cons_succ, List.setIfInBounds_toArray, List.set_cons_zero, List.set_cons_succ]
      refine wpAnyH_ready (rs := [7]) (by kernel_rfl) (by simp) ?_
      refine AllReadyH.cons rfl (fun KQ hKQ => ?_) AllReadyH.nil
      have gA := World.grownBy_alloc tw4 (.cells #[.slice none 0 0, .bool false] 28) none
      have lohGj : w.heap.size ≤ tw4.heap.size := hG.size
      have lohXj : w0.heap.size ≤ tw4.heap.size := hX.size
      have ltaj : w.heap.size < tw4.heap.size := heap_lt Ba
      have ltbj : w.heap.size + 1 < tw4.heap.size := heap_lt Bb
      have ltcj : w.heap.size + 1 + 1 < tw4.heap.size := heap_lt Bc
      have ltdj : w.heap.size + 1 + 1 + 1 < tw4.heap.size := heap_lt Bd
      have ltej : pe < tw4.heap.size := heap_lt Be
      have Bj_ := heap_new tw4 (.cells #[.slice none 0 0, .bool false] 28) tw4.heap.size rfl
      replace Ba := heap_kept gA Ba
      replace Bb := heap_kept gA Bb
      replace Bc := heap_kept gA Bc
      replace Bd := heap_kept gA Bd
      replace Be := heap_kept gA Be
      replace ia := ia.kept gA
      replace ib := ib.kept gA
      replace ic := ic.kept gA
      replace id := id.kept gA
      replace ig := ig.kept gA
      replace ih := ih.kept gA
      replace hG := grown_trans hG gA
      replace hX := grown_trans hX gA
      clear gA
      go_simp
      generalize (tw4.alloc (.cells #[.slice none 0 0, .bool false] 28)) = tw5 at *
      generalize tw4.heap.size = pj at *
      have Bj := Bj_
      clear Bj_
      refine hKQ.out _ _ (by exact ⟨(box_cells Ba).1, (box_cells Ba).2.1, (box_cells Bb).1, (box_cells Bb).2.1, (box_cells Bc).1, (box_cells Bc).2.1, (box_cells Bd).1, (box_cells Bd).2.1⟩) (fun hHeld => ?_)
      clear hKQ KQ
      try simp only [Act.put, List.getElem_toArray, List.getElem_cons_zero, List.getElem_cons_succ, List.setIfInBounds_toArray, List.set_cons_zero, List.set_cons_succ]
     rotate_left 1
     focus
      have gA := World.grownBy_alloc tw3 (.cells #[.slice none 0 0, .bool false] 28) none
      have lohGj : w.heap.size ≤ tw3.heap.size := hG.size
      have lohXj : w0.heap.size ≤ tw3.heap.size := hX.size
      have ltaj : w.heap.size < tw3.heap.size := heap_lt Ba
      have ltbj : w.heap.size + 1 < tw3.heap.size := heap_lt Bb
      have ltcj : w.heap.size + 1 + 1 < tw3.heap.size := heap_lt Bc
      have ltdj : w.heap.size + 1 + 1 + 1 < tw3.heap.size := heap_lt Bd
      have Bj_ := heap_new tw3 (.cells #[.slice none 0 0, .bool false] 28) tw3.heap.size rfl
      replace Ba := heap_kept gA Ba
      replace Bb := heap_kept gA Bb
      replace Bc := heap_kept gA Bc
      replace Bd := heap_kept gA Bd
      replace ia := ia.kept gA
      replace ib := ib.kept gA
      replace ic := ic.kept gA
      replace id := id.kept gA
      replace ig := ig.kept gA
      replace ih := ih.kept gA
      replace hG := grown_trans hG gA
      replace hX := grown_trans hX gA
      clear gA
      go_simp
      generalize (tw3.alloc (.cells #[.slice none 0 0, .bool false] 28)) = tw4 at *
      generalize tw3.heap.size = pj at *
      have Bj := Bj_
      clear Bj_
      refine hKQ.out _ _ (by exact ⟨(box_cells Ba).1, (box_cells Ba).2.1, (box_cells Bb).1, (box_cells Bb).2.1, (box_cells Bc).1, (box_cells Bc).2.1, (box_cells Bd).1, (box_cells Bd).2.1⟩) (fun hHeld => ?_)
      clear hKQ KQ
      try simp only [Act.put, List.getElem_toArray, List.getElem_cons_zero, List.getElem_cons_succ, List.setIfInBounds_toArray, List.set_cons_zero, List.set_cons_succ]
      refine wpAnyH_ready (rs := [6]) (by kernel_rfl) (by simp) ?_
      refine AllReadyH.cons rfl (fun KQ hKQ => ?_) AllReadyH.nil
      have gA := World.grownBy_alloc tw4 (.cells #[.slice none 0 0, .bool false] 28) none
      have lohGe : w.heap.size ≤ tw4.heap.size := hG.size
      have lohXe : w0.heap.size ≤ tw4.heap.size := hX.size
      have ltae : w.heap.size < tw4.heap.size := heap_lt Ba
      have ltbe : w.heap.size + 1 < tw4.heap.size := heap_lt Bb
      have ltce : w.heap.size + 1 + 1 < tw4.heap.size := heap_lt Bc
      have ltde : w.heap.size + 1 + 1 + 1 < tw4.heap.size := heap_lt Bd
      have ltje : pj < tw4.heap.size := heap_lt Bj
      have Be_ := heap_new tw4 (.cells #[.slice none 0 0, .bool false] 28) tw4.heap.size rfl
      replace Ba := heap_kept gA Ba
      replace Bb := heap_kept gA Bb
      replace Bc := heap_kept gA Bc
      replace Bd := heap_kept gA Bd
      replace Bj := heap_kept gA Bj
      replace ia := ia.kept gA
      replace ib := ib.kept gA
      replace ic := ic.kept gA
      replace id := id.kept gA
      replace ig := ig.kept gA
      replace ih := ih.kept gA
      replace hG := grown_trans hG gA
      replace hX := grown_trans hX gA
      clear gA
      go_simp
      generalize (tw4.alloc (.cells #[.slice none 0 0, .bool false] 28)) = tw5 at *
      generalize tw4.heap.size = pe at *
      have Be := Be_
      clear Be_
      refine hKQ.out _ _ (by exact ⟨(box_cells Ba).1, (box_cells Ba).2.1, (box_cells Bb).1, (box_cells Bb).2.1, (box_cells Bc).1, (box_cells Bc).2.1, (box_cells Bd).1, (box_cells Bd).2.1⟩) (fun hHeld => ?_)
      clear hKQ KQ
      try simp only [Act.put, List.getElem_toArray, List.getElem_cons_zero, List.getElem_cons_succ, List.setIfInBounds_toArray, List.set_cons_zero, List.set_cons_succ]
     rotate_left 1
    rotate_left 2
    focus
     have gA := World.grownBy_alloc tw2 (.cells #[.slice none 0 0, .bool false] 28) none
     have lohGe : w.heap.size ≤ tw2.heap.size := hG.size
     have lohXe : w0.heap.size ≤ tw2.heap.size := hX.size
     have ltae : w.heap.size < tw2.heap.size := heap_lt Ba
     have ltbe : w.heap.size + 1 < tw2.heap.size := heap_lt Bb
     have ltce : w.heap.size + 1 + 1 < tw2.heap.size := heap_lt Bc
     have ltde : w.heap.size + 1 + 1 + 1 < tw2.heap.size := heap_lt Bd
     have Be_ := heap_new tw2 (.cells #[.slice none 0 0, .bool false] 28) tw2.heap.size rfl
     replace Ba := heap_kept gA Ba
     replace Bb := heap_kept gA Bb
     replace Bc := heap_kept gA Bc
     replace Bd := heap_kept gA Bd
     replace ia := ia.kept gA
     replace ib := ib.kept gA
     replace ic := ic.kept gA
     replace id := id.kept gA
     replace ig := ig.kept gA
     replace hG := grown_trans hG gA
     replace hX := grown_trans hX gA
     clear gA
     go_simp
     generalize (tw2.alloc (.cells #[.slice none 0 0, .bool false] 28)) = tw3 at *
     generalize tw2.heap.size = pe at *
     have Be := Be_
     clear Be_
     refine hKQ.out _ _ (by exact ⟨(box_cells Ba).1, (box_cells Ba).2.1, (box_cells Bb).1, (box_cells Bb).2.1, (box_cells Bc).1, (box_cells Bc).2.1, (box_cells Bd).1, (box_cells Bd).2.1⟩) (fun hHeld => ?_)
     clear hKQ KQ
     try simp only [Act.put, List.getElem_toArray, List.getElem_cons_zero, List.getElem_cons_succ, List.setIfInBounds_toArray, List.set_cons_zero, List.set_cons_succ]
     refine wpAnyH_ready (rs := [5, 7]) (by kernel_rfl) (by simp) ?_
     refine AllReadyH.cons rfl (fun KQ hKQ => ?_) (AllReadyH.cons rfl (fun KQ hKQ => ?_) AllReadyH.nil)
     focus
      go_simp
      go_at_call 51
      refine (HC2.out tw3 _ _ ic ib (HTB.out _ hG)).mono ?_
      rintro e tw4 ⟨_, rfl, ⟨sh, xh, bh, rfl, hh, vh, th⟩, gtw4⟩
      have ih : IntV tw4 (.agg #[.slice sh xh.length xh.length, .bool bh]) ((G2 : Int)) := ⟨sh, xh, bh, rfl, hh, vh, th⟩
      replace Ba := heap_kept gtw4 Ba
      replace Bb := heap_kept gtw4 Bb
      replace Bc := heap_kept gtw4 Bc
      replace Bd := heap_kept gtw4 Bd
      replace Be := heap_kept gtw4 Be
      replace ia := ia.kept gtw4
      replace ib := ib.kept gtw4
      replace ic := ic.kept gtw4
      replace id := id.kept gtw4
      replace ig := ig.kept gtw4
      replace hG := grown_trans hG gtw4
      replace hX := grown_trans hX gtw4
      clear gtw4
      clear hh vh th
      (try go_wp2_with fail)
      refine hKQ.out _ _ (by exact ⟨(box_cells Ba).1, (box_cells Ba).2.1, (box_cells Bb).1, (box_cells Bb).2.1, (box_cells Bc).1, (box_cells Bc).2.1, (box_cells Bd).1, (box_cells Bd).2.1⟩) (fun hHeld => ?_)
      clear hKQ KQ
      try simp only [Act.put, List.getElem_toArray, List.getElem_cons_zero, List.getElem_cons_succ, List.setIfInBounds_toArray, List.set_cons_zero, List.set_cons_succ]
      refine wpAnyH_ready (rs := [7]) (by kernel_rfl) (by simp) ?_
      refine AllReadyH.cons rfl (fun KQ hKQ => ?_) AllReadyH.nil
      have gA := World.grownBy_alloc tw4 (.cells #[.slice none 0 0, .bool false] 28) none
      have lohGj : w.heap.size ≤ tw4.heap.size := hG.size
      have lohXj : w0.heap.size ≤ tw4.heap.size := hX.size
      have ltaj : w.heap.size < tw4.heap.size := heap_lt Ba
      have ltbj : w.heap.size + 1 < tw4.heap.size := heap_lt Bb
      have ltcj : w.heap.size + 1 + 1 < tw4.heap.size := heap_lt Bc
      have ltdj : w.heap.size + 1 + 1 + 1 < tw4.heap.size := heap_lt Bd
      have ltej : pe < tw4.heap.size := heap_lt Be
      have Bj_ := heap_new tw4 (.cells #[.slice none 0 0, .bool false] 28) tw4.heap.size rfl
      replace Ba := heap_kept gA Ba
      replace Bb := heap_kept gA Bb
      replace Bc := heap_kept gA Bc
      replace Bd := heap_kept gA Bd
      replace Be := heap_kept gA Be
      replace ia := ia.kept gA
      replace ib := ib.kept gA
      replace ic := ic.kept gA
      replace id := id.kept gA
      replace ig := ig.kept gA
      replace ih := ih.kept gA
      replace hG := grown_trans hG gA
      replace hX := grown_trans hX gA
      clear gA
      go_simp
      generalize (tw4.alloc (.cells #[.slice none 0 0, .bool false] 28)) = tw5 at *
      generalize tw4.heap.size = pj at *
      have Bj := Bj_
      clear Bj_
      refine hKQ.out _ _ (by exact ⟨(box_cells Ba).1, (box_cells Ba).2.1, (box_cells Bb).1, (box_cells Bb).2.1, (box_cells Bc).1, (box_cells Bc).2.1, (box_cells Bd).1, (box_cells Bd).2.1⟩) (fun hHeld => ?_)
      clear hKQ KQ
      try simp only [Act.put, List.getElem_toArray, List.getElem_cons_zero, List.getElem_cons_succ, List.setIfInBounds_toArray, List.set_cons_zero, List.set_cons_succ]
     rotate_left 1
     focus
      have gA := World.grownBy_alloc tw3 (.cells #[.slice none 0 0, .bool false] 28) none
      have lohGj : w.heap.size ≤ tw3.heap.size := hG.size
      have lohXj : w0.heap.size ≤ tw3.heap.size := hX.size
      have ltaj : w.heap.size < tw3.heap.size := heap_lt Ba
      have ltbj : w.heap.size + 1 < tw3.heap.size := heap_lt Bb
      have ltcj : w.heap.size + 1 + 1 < tw3.heap.size := heap_lt Bc
      have ltdj : w.heap.size + 1 + 1 + 1 < tw3.heap.size := heap_lt Bd
      have ltej : pe < tw3.heap.size := heap_lt Be
      have Bj_ := heap_new tw3 (.cells #[.slice none 0 0, .bool false] 28) tw3.heap.size rfl
      replace Ba := heap_kept gA Ba
      replace Bb := heap_kept gA Bb
      replace Bc := heap_kept gA Bc
      replace Bd := heap_kept gA Bd
      replace Be := heap_kept gA Be
      replace ia := ia.kept gA
      replace ib := ib.kept gA
      replace ic := ic.kept gA
      replace id := id.kept gA
      replace ig := ig.kept gA
      replace hG := grown_trans hG gA
      replace hX := grown_trans hX gA
      clear gA
      go_simp
      generalize (tw3.alloc (.cells #[.slice none 0 0, .bool false] 28)) = tw4 at *
      generalize tw3.heap.size = pj at *
      have Bj := Bj_
      clear Bj_
      refine hKQ.out _ _ (by exact ⟨(box_cells Ba).1, (box_cells Ba).2.1, (box_cells Bb).1, (box_cells Bb).2.1, (box_cells Bc).1, (box_cells Bc).2.1, (box_cells Bd).1, (box_cells Bd).2.1⟩) (fun hHeld => ?_)
      clear hKQ KQ
      try simp only [Act.put, List.getElem_toArray, List.getElem_cons_zero, List.getElem_cons_succ, List.setIfInBounds_toArray, List.set_cons_zero, List.set_cons_succ]
      refine wpAnyH_ready (rs := [5]) (by kernel_rfl) (by simp) ?_
      refine AllReadyH.cons rfl (fun KQ hKQ => ?_) AllReadyH.nil
      go_simp
      go_at_call 51
      refine (HC2.out tw4 _ _ ic ib (HTB.out _ hG)).mono ?_
      rintro e tw5 ⟨_, rfl, ⟨sh, xh, bh, rfl, hh, vh, th⟩, gtw5⟩
      have ih : IntV tw5 (.agg #[.slice sh xh.length xh.length, .bool bh]) ((G2 : Int)) := ⟨sh, xh, bh, rfl, hh, vh, th⟩
      replace Ba := heap_kept gtw5 Ba
      replace Bb := heap_kept gtw5 Bb
      replace Bc := heap_kept gtw5 Bc
      replace Bd := heap_kept gtw5 Bd
      replace Be := heap_kept gtw5 Be
      replace Bj := heap_kept gtw5 Bj
      replace ia := ia.kept gtw5
      replace ib := ib.kept gtw5
      replace ic := ic.kept gtw5
      replace id := id.kept gtw5
      replace ig := ig.kept gtw5
      replace hG := grown_trans hG gtw5
      replace hX := grown_trans hX gtw5
      clear gtw5
      clear hh vh th
      (try go_wp2_with fail)
      refine hKQ.out _ _ (by exact ⟨(box_cells Ba).1, (box_cells Ba).2.1, (box_cells Bb).1, (box_cells Bb).2.1, (box_cells Bc).1, (box_cells Bc).2.1, (box_cells Bd).1, (box_cells Bd).2.1⟩) (fun hHeld => ?_)
      clear hKQ KQ
      try simp only [Act.put, List.getElem_toArray, List.getElem_cons_zero, List.getElem_cons_succ, List.setIfInBounds_toArray, List.set_cons_zero, List.set_cons_succ]
     rotate_left 1
    rotate_left 2
    focus
     have gA := World.grownBy_alloc tw2 (.cells #[.slice none 0 0, .bool false] 28) none
     have lohGj : w.heap.size ≤ tw2.heap.size := hG.size
     have lohXj : w0.heap.size ≤ tw2.heap.size := hX.size
     have ltaj : w.heap.size < tw2.heap.size := heap_lt Ba
     have ltbj : w.heap.size + 1 < tw2.heap.size := heap_lt Bb
     have ltcj : w.heap.size + 1 + 1 < tw2.heap.size := heap_lt Bc
     have ltdj : w.heap.size + 1 + 1 + 1 < tw2.heap.size := heap_lt Bd
     have Bj_ := heap_new tw2 (.cells #[.slice none 0 0, .bool false] 28) tw2.heap.size rfl
     replace Ba := heap_kept gA Ba
     replace Bb := heap_kept gA Bb
     replace Bc := heap_kept gA Bc
     replace Bd := heap_kept gA Bd
     replace ia := ia.kept gA
     replace ib := ib.kept gA
     replace ic := ic.kept gA
     replace id := id.kept gA
     replace ig := ig.kept gA
     replace hG := grown_trans hG gA
     replace hX := grown_trans hX gA
     clear gA
     go_simp
     generalize (tw2.alloc (.cells #[.slice none 0 0, .bool false] 28)) = tw3 at *
     generalize tw2.heap.size = pj at *
     have Bj := Bj_
     clear Bj_
     refine hKQ.out _ _ (by exact ⟨(box_cells Ba).1, (box_cells Ba).2.1, (box_cells Bb).1, (box_cells Bb).2.1, (box_cells Bc).1, (box_cells Bc).2.1, (box_cells Bd).1, (box_cells Bd).2.1⟩) (fun hHeld => ?_)
     clear hKQ KQ
     try simp only [Act.put, List.getElem_toArray, List.getElem_cons_zero, List.getElem_cons_succ, List.setIfInBounds_toArray, List.set_cons_zero, List.set_cons_succ]
     refine wpAnyH_ready (rs := [5, 6]) (by kernel_rfl) (by simp) ?_
     refine AllReadyH.cons rfl (fun KQ hKQ => ?_) (AllReadyH.cons rfl (fun KQ hKQ => ?_) AllReadyH.nil)
     focus
      go_simp
      go_at_call 51
      refine (HC2.out tw3 _ _ ic ib (HTB.out _ hG)).mono ?_
      rintro e tw4 ⟨_, rfl, ⟨sh, xh, bh, rfl, hh, vh, th⟩, gtw4⟩
      have ih : IntV tw4 (.agg #[.slice sh xh.length xh.length, .bool bh]) ((G2 : Int)) := ⟨sh, xh, bh, rfl, hh, vh, th⟩
      replace Ba := heap_kept gtw4 Ba
      replace Bb := heap_kept gtw4 Bb
      replace Bc := heap_kept gtw4 Bc
      replace Bd := heap_kept gtw4 Bd
      replace Bj := heap_kept gtw4 Bj
      replace ia := ia.kept gtw4
      replace ib := ib.kept gtw4
      replace ic := ic.kept gtw4
      replace id := id.kept gtw4
      replace ig := ig.kept gtw4
      replace hG := grown_trans hG gtw4
      replace hX := grown_trans hX gtw4
      clear gtw4
      clear hh vh th
      (try go_wp2_with fail)
      refine hKQ.out _ _ (by exact ⟨(box_cells Ba).1, (box_cells Ba).2.1, (box_cells Bb).1, (box_cells Bb).2.1, (box_cells Bc).1, (box_cells Bc).2.1, (box_cells Bd).1, (box_cells Bd).2.1⟩) (fun hHeld => ?_)
      clear hKQ KQ
      try simp only [Act.put, List.getElem_toArray, List.getElem_cons_zero, List.getElem_cons_succ, List.setIfInBounds_toArray, List.set_cons_zero, List.set_cons_succ]
      refine wpAnyH_ready (rs := [6]) (by kernel_rfl) (by simp) ?_
      refine AllReadyH.cons rfl (fun KQ hKQ => ?_) AllReadyH.nil
      have gA := World.grownBy_alloc tw4 (.cells #[.slice none 0 0, .bool false] 28) none
      have lohGe : w.heap.size ≤ tw4.heap.size := hG.size
      have lohXe : w0.heap.size ≤ tw4.heap.size := hX.size
      have ltae : w.heap.size < tw4.heap.size := heap_lt Ba
      have ltbe : w.heap.size + 1 < tw4.heap.size := heap_lt Bb
      have ltce : w.heap.size + 1 + 1 < tw4.heap.size := heap_lt Bc
      have ltde : w.heap.size + 1 + 1 + 1 < tw4.heap.size := heap_lt Bd
      have ltje : pj < tw4.heap.size := heap_lt Bj
      have Be_ := heap_new tw4 (.cells #[.slice none 0 0, .bool false] 28) tw4.heap.size rfl
      replace Ba := heap_kept gA Ba
      replace Bb := heap_kept gA Bb
      replace Bc := heap_kept gA Bc
      replace Bd := heap_kept gA Bd
      replace Bj := heap_kept gA Bj
      replace ia := ia.kept gA
      replace ib := ib.kept gA
      replace ic := ic.kept gA
      replace id := id.kept gA
      replace ig := ig.kept gA
      replace ih := ih.kept gA
      replace hG := grown_trans hG gA
      replace hX := grown_trans hX gA
      clear gA
      go_simp
      generalize (tw4.alloc (.cells #[.slice none 0 0, .bool false] 28)) = tw5 at *
      generalize tw4.heap.size = pe at *
      have Be := Be_
      clear Be_
      refine hKQ.out _ _ (by exact ⟨(box_cells Ba).1, (box_cells Ba).2.1, (box_cells Bb).1, (box_cells Bb).2.1, (box_cells Bc).1, (box_cells Bc).2.1, (box_cells Bd).1, (box_cells Bd).2.1⟩) (fun hHeld => ?_)
      clear hKQ KQ
      try simp only [Act.put, List.getElem_toArray, List.getElem_cons_zero, List.getElem_cons_succ, List.setIfInBounds_toArray, List.set_cons_zero, List.set_cons_succ]
     rotate_left 1
     focus
      have gA := World.grownBy_alloc tw3 (.cells #[.slice none 0 0, .bool false] 28) none
      have lohGe : w.heap.size ≤ tw3.heap.size := hG.size
      have lohXe : w0.heap.size ≤ tw3.heap.size := hX.size
      have ltae : w.heap.size < tw3.heap.size := heap_lt Ba
      have ltbe : w.heap.size + 1 < tw3.heap.size := heap_lt Bb
      have ltce : w.heap.size + 1 + 1 < tw3.heap.size := heap_lt Bc
      have ltde : w.heap.size + 1 + 1 + 1 < tw3.heap.size := heap_lt Bd
      have ltje : pj < tw3.heap.size := heap_lt Bj
      have Be_ := heap_new tw3 (.cells #[.slice none 0 0, .bool false] 28) tw3.heap.size rfl
      replace Ba := heap_kept gA Ba
      replace Bb := heap_kept gA Bb
      replace Bc := heap_kept gA Bc
      replace Bd := heap_kept gA Bd
      replace Bj := heap_kept gA Bj
      replace ia := ia.kept gA
      replace ib := ib.kept gA
      replace ic := ic.kept gA
      replace id := id.kept gA
      replace ig := ig.kept gA
      replace hG := grown_trans hG gA
      replace hX := grown_trans hX gA
      clear gA
      go_simp
      generalize (tw3.alloc (.cells #[.slice none 0 0, .bool false] 28)) = tw4 at *
      generalize tw3.heap.size = pe at *
      have Be := Be_
      clear Be_
      refine hKQ.out _ _ (by exact ⟨(box_cells Ba).1, (box_cells Ba).2.1, (box_cells Bb).1, (box_cells Bb).2.1, (box_cells Bc).1, (box_cells Bc).2.1, (box_cells Bd).1, (box_cells Bd).2.1⟩) (fun hHeld => ?_)
      clear hKQ KQ
      try simp only [Act.put, List.getElem_toArray, List.getElem_cons_zero, List.getElem_cons_succ, List.setIfInBounds_toArray, List.set_cons_zero, List.set_cons_succ]
      refine wpAnyH_ready (rs := [5]) (by kernel_rfl) (by simp) ?_
      refine AllReadyH.cons rfl (fun KQ hKQ => ?_) AllReadyH.nil
      go_simp
      go_at_call 51
      refine (HC2.out tw4 _ _ ic ib (HTB.out _ hG)).mono ?_
      rintro e tw5 ⟨_, rfl, ⟨sh, xh, bh, rfl, hh, vh, th⟩, gtw5⟩
      have ih : IntV tw5 (.agg #[.slice sh xh.length xh.length, .bool bh]) ((G2 : Int)) := ⟨sh, xh, bh, rfl, hh, vh, th⟩
      replace Ba := heap_kept gtw5 Ba
      replace Bb := heap_kept gtw5 Bb
      replace Bc := heap_kept gtw5 Bc
      replace Bd := heap_kept gtw5 Bd
      replace Bj := heap_kept gtw5 Bj
      replace Be := heap_kept gtw5 Be
      replace ia := ia.kept gtw5
      replace ib := ib.kept gtw5
      replace ic := ic.kept gtw5
      replace id := id.kept gtw5
      replace ig := ig.kept gtw5
      replace hG := grown_trans hG gtw5
      replace hX := grown_trans hX gtw5
      clear gtw5
      clear hh vh th
      (try go_wp2_with fail)
      refine hKQ.out _ _ (by exact ⟨(box_cells Ba).1, (box_cells Ba).2.1, (box_cells Bb).1, (box_cells Bb).2.1, (box_cells Bc).1, (box_cells Bc).2.1, (box_cells Bd).1, (box_cells Bd).2.1⟩) (fun hHeld => ?_)
      clear hKQ KQ
      try simp only [Act.put, List.getElem_toArray, List.getElem_cons_zero, List.getElem_cons_succ, List.setIfInBounds_toArray, List.set_cons_zero, List.set_cons_succ]
     rotate_left 1
    rotate_left 2
   rotate_left 6
   focus
    have gA := World.grownBy_alloc tw1 (.cells #[.slice none 0 0, .bool false] 28) none
    have lohGe : w.heap.size ≤ tw1.heap.size := hG.size
    have lohXe : w0.heap.size ≤ tw1.heap.size := hX.size
    have ltae : w.heap.size < tw1.heap.size := heap_lt Ba
    have ltbe : w.heap.size + 1 < tw1.heap.size := heap_lt Bb
    have ltce : w.heap.size + 1 + 1 < tw1.heap.size := heap_lt Bc
    have ltde : w.heap.size + 1 + 1 + 1 < tw1.heap.size := heap_lt Bd
    have Be_ := heap_new tw1 (.cells #[.slice none 0 0, .bool false] 28) tw1.heap.size rfl
    replace Ba := heap_kept gA Ba
    replace Bb := heap_kept gA Bb
    replace Bc := heap_kept gA Bc
    replace Bd := heap_kept gA Bd
    replace ia := ia.kept gA
    replace ib := ib.kept gA
    replace ic := ic.kept gA
    replace id := id.kept gA
    replace hG := grown_trans hG gA
    replace hX := grown_trans hX gA
    clear gA
    go_simp
    generalize (tw1.alloc (.cells #[.slice none 0 0, .bool false] 28)) = tw2 at *
    generalize tw1.heap.size = pe at *
    have Be := Be_
    clear Be_
    refine hKQ.out _ _ (by exact ⟨(box_cells Ba).1, (box_cells Ba).2.1, (box_cells Bb).1, (box_cells Bb).2.1, (box_cells Bc).1, (box_cells Bc).2.1, (box_cells Bd).1, (box_cells Bd).2.1⟩) (fun hHeld => ?_)
    clear hKQ KQ
    try simp only [Act.put, List.getElem_toArray, List.getElem_cons_zero, List.getElem_cons_succ, List.setIfInBounds_toArray, List.set_cons_zero, List.set_cons_succ]
    refine wpAnyH_ready (rs := [2, 7]) (by kernel_rfl) (by simp) ?_
    refine AllReadyH.cons rfl (fun KQ hKQ => ?_) (AllReadyH.cons rfl (fun KQ hKQ => ?_) AllReadyH.nil)
    focus
     go_simp
     go_at_call 51
     refine (HC1.out tw2 _ _ ia id (HTB.out _ hG)).mono ?_
     rintro e tw3 ⟨_, rfl, ⟨sg, xg, bg, rfl, hg, vg, tg⟩, gtw3⟩
     have ig : IntV tw3 (.agg #[.slice sg xg.length xg.length, .bool bg]) ((G1 : Int)) := ⟨sg, xg, bg, rfl, hg, vg, tg⟩
     replace Ba := heap_kept gtw3 Ba
     replace Bb := heap_kept gtw3 Bb
     replace Bc := heap_kept gtw3 Bc
     replace Bd := heap_kept gtw3 Bd
     replace Be := heap_kept gtw3 Be
     replace ia := ia.kept gtw3
     replace ib := ib.kept gtw3
     replace ic := ic.kept gtw3
     replace id := id.kept gtw3
     replace hG := grown_trans hG gtw3
     replace hX := grown_trans hX gtw3
     clear gtw3
     clear hg vg tg
     (try go_wp2_with fail)
     refine hKQ.out _ _ (by exact ⟨(box_cells Ba).1, (box_cells Ba).2.1, (box_cells Bb).1, (box_cells Bb).2.1, (box_cells Bc).1, (box_cells Bc).2.1, (box_cells Bd).1, (box_cells Bd).2.1⟩) (fun hHeld => ?_)
     clear hKQ KQ
     try simp only [Act.put, List.getElem_toArray, List.getElem_cons_zero, List.getElem_cons_succ, List.setIfInBounds_toArray, List.set_cons_zero, List.set_cons_succ]
     refine wpAnyH_ready (rs := [5, 7]) (by kernel_rfl) (by simp) ?_
     refine AllReadyH.cons rfl (fun KQ hKQ => ?_) (AllReadyH.cons rfl (fun KQ hKQ => ?_) AllReadyH.nil)
     focus
      go_simp
      go_at_call 51
      refine (HC2.out tw3 _ _ ic ib (HTB.out _ hG)).mono ?_
      rintro e tw4 ⟨_, rfl, ⟨sh, xh, bh, rfl, hh, vh, th⟩, gtw4⟩
      have ih : IntV tw4 (.agg #[.slice sh xh.length xh.length, .bool bh]) ((G2 : Int)) := ⟨sh, xh, bh, rfl, hh, vh, th⟩
      replace Ba := heap_kept gtw4 Ba
      replace Bb := heap_kept gtw4 Bb
      replace Bc := heap_kept gtw4 Bc
      replace Bd := heap_kept gtw4 Bd
      replace Be := heap_kept gtw4 Be
      replace ia := ia.kept gtw4
      replace ib := ib.kept gtw4
      replace ic := ic.kept gtw4
      replace id := id.kept gtw4
      replace ig := ig.kept gtw4
      replace hG := grown_trans hG gtw4
      replace hX := grown_trans hX gtw4
      clear gtw4
      clear hh vh th
      (try go_wp2_with fail)
      refine hKQ.out _ _ (by exact ⟨(box_cells Ba).1, (box_cells Ba).2.1, (box_cells Bb).1, (box_cells Bb).2.1, (box_cells Bc).1, (box_cells Bc).2.1, (box_cells Bd).1, (box_cells Bd).2.1⟩) (fun hHeld => ?_)
      clear hKQ KQ
      try simp only [Act.put, List.getElem_toArray, List.getElem_cons_zero, List.getElem_cons_succ, List.setIfInBounds_toArray, List.set_cons_zero, List.set_cons_succ]
      refine wpAnyH_ready (rs := [7]) (by kernel_rfl) (by simp) ?_
      refine AllReadyH.cons rfl (fun KQ hKQ => ?_) AllReadyH.nil
      have gA := World.grownBy_alloc tw4 (.cells #[.slice none 0 0, .bool false] 28) none
      have lohGj : w.heap.size ≤ tw4.heap.size := hG.size
      have lohXj : w0.heap.size ≤ tw4.heap.size := hX.size
      have ltaj : w.heap.size < tw4.heap.size := heap_lt Ba
      have ltbj : w.heap.size + 1 < tw4.heap.size := heap_lt Bb
      have ltcj : w.heap.size + 1 + 1 < tw4.heap.size := heap_lt Bc
      have ltdj : w.heap.size + 1 + 1 + 1 < tw4.heap.size := heap_lt Bd
      have ltej : pe < tw4.heap.size := heap_lt Be
      have Bj_ := heap_new tw4 (.cells #[.slice none 0 0, .bool false] 28) tw4.heap.size rfl
      replace Ba := heap_kept gA Ba
      replace Bb := heap_kept gA Bb
      replace Bc := heap_kept gA Bc
      replace Bd := heap_kept gA Bd
      replace Be := heap_kept gA Be
      replace ia := ia.kept gA
      replace ib := ib.kept gA
      replace ic := ic.kept gA
      replace id := id.kept gA
      replace ig := ig.kept gA
      replace ih := ih.kept gA
      replace hG := grown_trans hG gA
      replace hX := grown_trans hX gA
      clear gA
      go_simp
      generalize (tw4.alloc (.cells #[.slice none 0 0, .bool false] 28)) = tw5 at *
      generalize tw4.heap.size = pj at *
      have Bj := Bj_
      clear Bj_
      refine hKQ.out _ _ (by exact ⟨(box_cells Ba).1, (box_cells Ba).2.1, (box_cells Bb).1, (box_cells Bb).2.1, (box_cells Bc).1, (box_cells Bc).2.1, (box_cells Bd).1, (box_cells Bd).2.1⟩) (fun hHeld => ?_)
      clear hKQ KQ
      try simp only [Act.put, List.getElem_toArray, List.getElem_cons_zero, List.getElem_cons_succ, List.setIfInBounds_toArray, List.set_cons_zero, List.set_cons_succ]
     rotate_left 1
     focus
      have gA := World.grownBy_alloc tw3 (.cells #[.slice none 0 0, .bool false] 28) none
      have lohGj : w.heap.size ≤ tw3.heap.size := hG.size
      have lohXj : w0.heap.size ≤ tw3.heap.size := hX.size
      have ltaj : w.heap.size < tw3.heap.size := heap_lt Ba
      have ltbj : w.heap.size + 1 < tw3.heap.size := heap_lt Bb
      have ltcj : w.heap.size + 1 + 1 < tw3.heap.size := heap_lt Bc
      have ltdj : w.heap.size + 1 + 1 + 1 < tw3.heap.size := heap_lt Bd
      have ltej : pe < tw3.heap.size := heap_lt Be
      have Bj_ := heap_new tw3 (.cells #[.slice none 0 0, .bool false] 28) tw3.heap.size rfl
      replace Ba := heap_kept gA Ba
      replace Bb := heap_kept gA Bb
      replace Bc := heap_kept gA Bc
      replace Bd := heap_kept gA Bd
      replace Be := heap_kept gA Be
      replace ia := ia.kept gA
      replace ib := ib.kept gA
      replace ic := ic.kept gA
      replace id := id.kept gA
      replace ig := ig.kept gA
      replace hG := grown_trans hG gA
      replace hX := grown_trans hX gA
      clear gA
      go_simp
      generalize (tw3.alloc (.cells #[.slice none 0 0, .bool false] 28)) = tw4 at *
      generalize tw3.heap.size = pj at *
      have Bj := Bj_
      clear Bj_
      refine hKQ.out _ _ (by exact ⟨(box_cells Ba).1, (box_cells Ba).2.1, (box_cells Bb).1, (box_cells Bb).2.1, (box_cells Bc).1, (box_cells Bc).2.1, (box_cells Bd).1, (box_cells Bd).2.1⟩) (fun hHeld => ?_)
      clear hKQ KQ
      try simp only [Act.put, List.getElem_toArray, List.getElem_cons_zero, List.getElem_cons_succ, List.setIfInBounds_toArray, List.set_cons_zero, List.set_cons_succ]
      refine wpAnyH_ready (rs := [5]) (by kernel_rfl) (by simp) ?_
      refine AllReadyH.cons rfl (fun KQ hKQ => ?_) AllReadyH.nil
      go_simp
      go_at_call 51
      refine (HC2.out tw4 _ _ ic ib (HTB.out _ hG)).mono ?_
      rintro e tw5 ⟨_, rfl, ⟨sh, xh, bh, rfl, hh, vh, th⟩, gtw5⟩
      have ih : IntV tw5 (.agg #[.slice sh xh.length xh.length, .bool bh]) ((G2 : Int)) := ⟨sh, xh, bh, rfl, hh, vh, th⟩
      replace Ba := heap_kept gtw5 Ba
      replace Bb := heap_kept gtw5 Bb
      replace Bc := heap_kept gtw5 Bc
      replace Bd := heap_kept gtw5 Bd
      replace Be := heap_kept gtw5 Be
      replace Bj := heap_kept gtw5 Bj
      replace ia := ia.kept gtw5
      replace ib := ib.kept gtw5
      replace ic := ic.kept gtw5
      replace id := id.kept gtw5
      replace ig := ig.kept gtw5
      replace hG := grown_trans hG gtw5
      replace hX := grown_trans hX gtw5
      clear gtw5
      clear hh vh th
      (try go_wp2_with fail)
      refine hKQ.out _ _ (by exact ⟨(box_cells Ba).1, (box_cells Ba).2.1, (box_cells Bb).1, (box_cells Bb).2.1, (box_cells Bc).1, (box_cells Bc).2.1, (box_cells Bd).1, (box_cells Bd).2.1⟩) (fun hHeld => ?_)
      clear hKQ KQ
      try simp only [Act.put, List.getElem_toArray, List.getElem_cons_zero, List.getElem_cons_succ, List.setIfInBounds_toArray, List.set_cons_zero, List.set_cons_succ]
     rotate_left 1
    rotate_left 2
    focus
     have gA := World.grownBy_alloc tw2 (.cells #[.slice none 0 0, .bool false] 28) none
     have lohGj : w.heap.size ≤ tw2.heap.size := hG.size
     have lohXj : w0.heap.size ≤ tw2.heap.size := hX.size
     have ltaj : w.heap.size < tw2.heap.size := heap_lt Ba
     have ltbj : w.heap.size + 1 < tw2.heap.size := heap_lt Bb
     have ltcj : w.heap.size + 1 + 1 < tw2.heap.size := heap_lt Bc
     have ltdj : w.heap.size + 1 + 1 + 1 < tw2.heap.size := heap_lt Bd
     have ltej : pe < tw2.heap.size := heap_lt Be
     have Bj_ := heap_new tw2 (.cells #[.slice none 0 0, .bool false] 28) tw2.heap.size rfl
     replace Ba := heap_kept gA Ba
     replace Bb := heap_kept gA Bb
     replace Bc := heap_kept gA Bc
     replace Bd := heap_kept gA Bd
     replace Be := heap_kept gA Be
     replace ia := ia.kept gA
     replace ib := ib.kept gA
     replace ic := ic.kept gA
     replace id := id.kept gA
     replace hG := grown_trans hG gA
     replace hX := grown_trans hX gA
     clear gA
     go_simp
     generalize (tw2.alloc (.cells #[.slice none 0 0, .bool false] 28)) = tw3 at *
     generalize tw2.heap.size = pj at *
     have Bj := Bj_
     clear Bj_
     refine hKQ.out _ _ (by exact ⟨(box_cells Ba).1, (box_cells Ba).2.1, (box_cells Bb).1, (box_cells Bb).2.1, (box_cells Bc).1, (box_cells Bc).2.1, (box_cells Bd).1, (box_cells Bd).2.1⟩) (fun hHeld => ?_)
     clear hKQ KQ
     try simp only [Act.put, List.getElem_toArray, List.getElem_cons_zero, List.getElem_cons_succ, List.setIfInBounds_toArray, List.set_cons_zero, List.set_cons_succ]
     refine wpAnyH_ready (rs := [2]) (by kernel_rfl) (by simp) ?_
     refine AllReadyH.cons rfl (fun KQ hKQ => ?_) AllReadyH.nil
     go_simp
     go_at_call 51
     refine (HC1.out tw3 _ _ ia id (HTB.out _ hG)).mono ?_
     rintro e tw4 ⟨_, rfl, ⟨sg, xg, bg, rfl, hg, vg, tg⟩, gtw4⟩
     have ig : IntV tw4 (.agg #[.slice sg xg.length xg.length, .bool bg]) ((G1 : Int)) := ⟨sg, xg, bg, rfl, hg, vg, tg⟩
     replace Ba := heap_kept gtw4 Ba
     replace Bb := heap_kept gtw4 Bb
     replace Bc := heap_kept gtw4 Bc
     replace Bd := heap_kept gtw4 Bd
     replace Be := heap_kept gtw4 Be
     replace Bj := heap_kept gtw4 Bj
     replace ia := ia.kept gtw4
     replace ib := ib.kept gtw4
     replace ic := ic.kept gtw4
     replace id := id.kept gtw4
     replace hG := grown_trans hG gtw4
     replace hX := grown_trans hX gtw4
     clear gtw4
     clear hg vg tg
     (try go_wp2_with fail)
     refine hKQ.out _ _ (by exact ⟨(box_cells Ba).1, (box_cells Ba).2.1, (box_cells Bb).1, (box_cells Bb).2.1, (box_cells Bc).1, (box_cells Bc).2.1, (box_cells Bd).1, (box_cells Bd).2.1⟩) (fun hHeld => ?_)
     clear hKQ KQ
     try simp only [Act.put, List.getElem_toArray, List.getElem_cons_zero, List.getElem_cons_succ, List.setIfInBounds_toArray, List.set_cons_zero, List.set_cons_succ]
     refine wpAnyH_ready (rs := [5]) (by kernel_rfl) (by simp) ?_
     refine AllReadyH.cons rfl (fun KQ hKQ => ?_) AllReadyH.nil
     go_simp
     go_at_call 51
     refine (HC2.out tw4 _ _ ic ib (HTB.out _ hG)).mono ?_
     rintro e tw5 ⟨_, rfl, ⟨sh, xh, bh, rfl, hh, vh, th⟩, gtw5⟩
     have ih : IntV tw5 (.agg #[.slice sh xh.length xh.length, .bool bh]) ((G2 : Int)) := ⟨sh, xh, bh, rfl, hh, vh, th⟩
     replace Ba := heap_kept gtw5 Ba
     replace Bb := heap_kept gtw5 Bb
     replace Bc := heap_kept gtw5 Bc
     replace Bd := heap_kept gtw5 Bd
     replace Be := heap_kept gtw5 Be
     replace Bj := heap_kept gtw5 Bj
     replace ia := ia.kept gtw5
     replace ib := ib.kept gtw5
     replace ic := ic.kept gtw5
     replace id := id.kept gtw5
     replace ig := ig.kept gtw5
     replace hG := grown_trans hG gtw5
     replace hX := grown_trans hX gtw5
     clear gtw5
     clear hh vh th
     (try go_wp2_with fail)
     refine hKQ.out _ _ (by exact ⟨(box_cells Ba).1, (box_cells Ba).2.1, (box_cells Bb).1, (box_cells Bb).2.1, (box_cells Bc).1, (box_cells Bc).2.1, (box_cells Bd).1, (box_cells Bd).2.1⟩) (fun hHeld => ?_)
     clear hKQ KQ
     try simp only [Act.put, List.getElem_toArray, List.getElem_cons_zero, List.getElem_cons_succ, List.setIfInBounds_toArray, List.set_cons_zero, List.set_cons_succ]
    rotate_left 1
   rotate_left 3
   focus
    have gA := World.grownBy_alloc tw1 (.cells #[.slice none 0 0, .bool false] 28) none
    have lohGj : w.heap.size ≤ tw1.heap.size := hG.size
    have lohXj : w0.heap.size ≤ tw1.heap.size := hX.size
    have ltaj : w.heap.size < tw1.heap.size := heap_lt Ba
    have ltbj : w.heap.size + 1 < tw1.heap.size := heap_lt Bb
    have ltcj : w.heap.size + 1 + 1 < tw1.heap.size := heap_lt Bc
    have ltdj : w.heap.size + 1 + 1 + 1 < tw1.heap.size := heap_lt Bd
    have Bj_ := heap_new tw1 (.cells #[.slice none 0 0, .bool false] 28) tw1.heap.size rfl
    replace Ba := heap_kept gA Ba
    replace Bb := heap_kept gA Bb
    replace Bc := heap_kept gA Bc
    replace Bd := heap_kept gA Bd
    replace ia := ia.kept gA
    replace ib := ib.kept gA
    replace ic := ic.kept gA
    replace id := id.kept gA
    replace hG := grown_trans hG gA
    replace hX := grown_trans hX gA
    clear gA
    go_simp
    generalize (tw1.alloc (.cells #[.slice none 0 0, .bool false] 28)) = tw2 at *
    generalize tw1.heap.size = pj at *
    have Bj := Bj_
    clear Bj_
    refine hKQ.out _ _ (by exact ⟨(box_cells Ba).1, (box_cells Ba).2.1, (box_cells Bb).1, (box_cells Bb).2.1, (box_cells Bc).1, (box_cells Bc).2.1, (box_cells Bd).1, (box_cells Bd).2.1⟩) (fun hHeld => ?_)
    clear hKQ KQ
    try simp only [Act.put, List.getElem_toArray, List.getElem_cons_zero, List.getElem_cons_succ, List.setIfInBounds_toArray, List.set_cons_zero, List.set_cons_succ]
    refine wpAnyH_ready (rs := [2, 6]) (by kernel_rfl) (by simp) ?_
    refine AllReadyH.cons rfl (fun KQ hKQ => ?_) (AllReadyH.cons rfl (fun KQ hKQ => ?_) AllReadyH.nil)
    focus
     go_simp
     go_at_call 51
     refine (HC1.out tw2 _ _ ia id (HTB.out _ hG)).mono ?_
     rintro e tw3 ⟨_, rfl, ⟨sg, xg, bg, rfl, hg, vg, tg⟩, gtw3⟩
     have ig : IntV tw3 (.agg #[.slice sg xg.length xg.length, .bool bg]) ((G1 : Int)) := ⟨sg, xg, bg, rfl, hg, vg, tg⟩
     replace Ba := heap_kept gtw3 Ba
     replace Bb := heap_kept gtw3 Bb
     replace Bc := heap_kept gtw3 Bc
     replace Bd := heap_kept gtw3 Bd
     replace Bj := heap_kept gtw3 Bj
     replace ia := ia.kept gtw3
     replace ib := ib.kept gtw3
     replace ic := ic.kept gtw3
     replace id := id.kept gtw3
     replace hG := grown_trans hG gtw3
     replace hX := grown_trans hX gtw3
     clear gtw3
     clear hg vg tg
     (try go_wp2_with fail)
     refine hKQ.out _ _ (by exact ⟨(box_cells Ba).1, (box_cells Ba).2.1, (box_cells Bb).1, (box_cells Bb).2.1, (box_cells Bc).1, (box_cells Bc).2.1, (box_cells Bd).1, (box_cells Bd).2.1⟩) (fun hHeld => ?_)
     clear hKQ KQ
     try simp only [Act.put, List.getElem_toArray, List.getElem_cons_zero, List.getElem_cons_succ, List.setIfInBounds_toArray, List.set_cons_zero, List.set_cons_succ]
     refine wpAnyH_ready (rs := [5, 6]) (by kernel_rfl) (by simp) ?_
     refine AllReadyH.cons rfl (fun KQ hKQ => ?_) (AllReadyH.cons rfl (fun KQ hKQ => ?_) AllReadyH.nil)
     focus
      go_simp
      go_at_call 51
      refine (HC2.out tw3 _ _ ic ib (HTB.out _ hG)).mono ?_
      rintro e tw4 ⟨_, rfl, ⟨sh, xh, bh, rfl, hh, vh, th⟩, gtw4⟩
      have ih : IntV tw4 (.agg #[.slice sh xh.length xh.length, .bool bh]) ((G2 : Int)) := ⟨sh, xh, bh, rfl, hh, vh, th⟩
      replace Ba := heap_kept gtw4 Ba
      replace Bb := heap_kept gtw4 Bb
      replace Bc := heap_kept gtw4 Bc
      replace Bd := heap_kept gtw4 Bd
      replace Bj := heap_kept gtw4 Bj
      replace ia := ia.kept gtw4
      replace ib := ib.kept gtw4
      replace ic := ic.kept gtw4
      replace id := id.kept gtw4
      replace ig := ig.kept gtw4
      replace hG := grown_trans hG gtw4
      replace hX := grown_trans hX gtw4
      clear gtw4
      clear hh vh th
      (try go_wp2_with fail)
      refine hKQ.out _ _ (by exact ⟨(box_cells Ba).1, (box_cells Ba).2.1, (box_cells Bb).1, (box_cells Bb).2.1, (box_cells Bc).1, (box_cells Bc).2.1, (box_cells Bd).1, (box_cells Bd).2.1⟩) (fun hHeld => ?_)
      clear hKQ KQ
      try simp only [Act.put, List.getElem_toArray, List.getElem_cons_zero, List.getElem_cons_succ, List.setIfInBounds_toArray, List.set_cons_zero, List.set_cons_succ]
      refine wpAnyH_ready (rs := [6]) (by kernel_rfl) (by simp) ?_
      refine AllReadyH.cons rfl (fun KQ hKQ => ?_) AllReadyH.nil
      have gA := World.grownBy_alloc tw4 (.cells #[.slice none 0 0, .bool false] 28) none
      have lohGe : w.heap.size ≤ tw4.heap.size := hG.size
      have lohXe : w0.heap.size ≤ tw4.heap.size := hX.size
      have ltae : w.heap.size < tw4.heap.size := heap_lt Ba
      have ltbe : w.heap.size + 1 < tw4.heap.size := heap_lt Bb
      have ltce : w.heap.size + 1 + 1 < tw4.heap.size := heap_lt Bc
      have ltde : w.heap.size + 1 + 1 + 1 < tw4.heap.size := heap_lt Bd
      have ltje : pj < tw4.heap.size := heap_lt Bj
      have Be_ := heap_new tw4 (.cells #[.slice none 0 0, .bool false] 28) tw4.heap.size rfl
      replace Ba := heap_kept gA Ba
      replace Bb := heap_kept gA Bb
      replace Bc := heap_kept gA Bc
      replace Bd := heap_kept gA Bd
      replace Bj := heap_kept gA Bj
      replace ia := ia.kept gA
      replace ib := ib.kept gA
      replace ic := ic.kept gA
      replace id := id.kept gA
      replace ig := ig.kept gA
      replace ih := ih.kept gA
      replace hG := grown_trans hG gA
      replace hX := grown_trans hX gA
      clear gA
      go_simp
      generalize (tw4.alloc (.cells #[.slice none 0 0, .bool false] 28)) = tw5 at *
      generalize tw4.heap.size = pe at *
      have Be := Be_
      clear Be_
      refine hKQ.out _ _ (by exact ⟨(box_cells Ba).1, (box_cells Ba).2.1, (box_cells Bb).1, (box_cells Bb).2.1, (box_cells Bc).1, (box_cells Bc).2.1, (box_cells Bd).1, (box_cells Bd).2.1⟩) (fun hHeld => ?_)
      clear hKQ KQ
      try simp only [Act.put, List.getElem_toArray, List.getElem_cons_zero, List.getElem_cons_succ, List.setIfInBounds_toArray, List.set_cons_zero, List.set_cons_succ]
     rotate_left 1
     focus
      have gA := World.grownBy_alloc tw3 (.cells #[.slice none 0 0, .bool false] 28) none
      have lohGe : w.heap.size ≤ tw3.heap.size := hG.size
      have lohXe : w0.heap.size ≤ tw3.heap.size := hX.size
      have ltae : w.heap.size < tw3.heap.size := heap_lt Ba
      have ltbe : w.heap.size + 1 < tw3.heap.size := heap_lt Bb
      have ltce : w.heap.size + 1 + 1 < tw3.heap.size := heap_lt Bc
      have ltde : w.heap.size + 1 + 1 + 1 < tw3.heap.size := heap_lt Bd
      have ltje : pj < tw3.heap.size := heap_lt Bj
      have Be_ := heap_new tw3 (.cells #[.slice none 0 0, .bool false] 28) tw3.heap.size rfl
      replace Ba := heap_kept gA Ba
      replace Bb := heap_kept gA Bb
      replace Bc := heap_kept gA Bc
      replace Bd := heap_kept gA Bd
      replace Bj := heap_kept gA Bj
      replace ia := ia.kept gA
      replace ib := ib.kept gA
      replace ic := ic.kept gA
      replace id := id.kept gA
      replace ig := ig.kept gA
      replace hG := grown_trans hG gA
      replace hX := grown_trans hX gA
      clear gA
      go_simp
      generalize (tw3.alloc (.cells #[.slice none 0 0, .bool false] 28)) = tw4 at *
      generalize tw3.heap.size = pe at *
      have Be := Be_
      clear Be_
      refine hKQ.out _ _ (by exact ⟨(box_cells Ba).1, (box_cells Ba).2.1, (box_cells Bb).1, (box_cells Bb).2.1, (box_cells Bc).1, (box_cells Bc).2.1, (box_cells Bd).1, (box_cells Bd).2.1⟩) (fun hHeld => ?_)
      clear hKQ KQ
      try simp only [Act.put, List.getElem_toArray, List.getElem_cons_zero, List.getElem_cons_succ, List.setIfInBounds_toArray, List.set_cons_zero, List.set_cons_succ]
      refine wpAnyH_ready (rs := [5]) (by kernel_rfl) (by simp) ?_
      refine AllReadyH.cons rfl (fun KQ hKQ => ?_) AllReadyH.nil
      go_simp
      go_at_call 51
      refine (HC2.out tw4 _ _ ic ib (HTB.out _ hG)).mono ?_
      rintro e tw5 ⟨_, rfl, ⟨sh, xh, bh, rfl, hh, vh, th⟩, gtw5⟩
      have ih : IntV tw5 (.agg #[.slice sh xh.length xh.length, .bool bh]) ((G2 : Int)) := ⟨sh, xh, bh, rfl, hh, vh, th⟩
      replace Ba := heap_kept gtw5 Ba
      replace Bb := heap_kept gtw5 Bb
      replace Bc := heap_kept gtw5 Bc
      replace Bd := heap_kept gtw5 Bd
      replace Bj := heap_kept gtw5 Bj
      replace Be := heap_kept gtw5 Be
      replace ia := ia.kept gtw5
      replace ib := ib.kept gtw5
      replace ic := ic.kept gtw5
      replace id := id.kept gtw5
      replace ig := ig.kept gtw5
      replace hG := grown_trans hG gtw5
      replace hX := grown_trans hX gtw5
      clear gtw5
      clear hh vh th
      (try go_wp2_with fail)
      refine hKQ.out _ _ (by exact ⟨(box_cells Ba).1, (box_cells Ba).2.1, (box_cells Bb).1, (box_cells Bb).2.1, (box_cells Bc).1, (box_cells Bc).2.1, (box_cells Bd).1, (box_cells Bd).2.1⟩) (fun hHeld => ?_)
      clear hKQ KQ
      try simp only [Act.put, List.getElem_toArray, List.getElem_cons_zero, List.getElem_cons_succ, List.setIfInBounds_toArray, List.set_cons_zero, List.set_cons_succ]
     rotate_left 1
    rotate_left 2
    focus
     have gA := World.grownBy_alloc tw2 (.cells #[.slice none 0 0, .bool false] 28) none
     have lohGe : w.heap.size ≤ tw2.heap.size := hG.size
     have lohXe : w0.heap.size ≤ tw2.heap.size := hX.size
     have ltae : w.heap.size < tw2.heap.size := heap_lt Ba
     have ltbe : w.heap.size + 1 < tw2.heap.size := heap_lt Bb
     have ltce : w.heap.size + 1 + 1 < tw2.heap.size := heap_lt Bc
     have ltde : w.heap.size + 1 + 1 + 1 < tw2.heap.size := heap_lt Bd
     have ltje : pj < tw2.heap.size := heap_lt Bj
     have Be_ := heap_new tw2 (.cells #[.slice none 0 0, .bool false] 28) tw2.heap.size rfl
     replace Ba := heap_kept gA Ba
     replace Bb := heap_kept gA Bb
     replace Bc := heap_kept gA Bc
     replace Bd := heap_kept gA Bd
     replace Bj := heap_kept gA Bj
     replace ia := ia.kept gA
     replace ib := ib.kept gA
     replace ic := ic.kept gA
     replace id := id.kept gA
     replace hG := grown_trans hG gA
     replace hX := grown_trans hX gA
     clear gA
     go_simp
     generalize (tw2.alloc (.cells #[.slice none 0 0, .bool false] 28)) = tw3 at *
     generalize tw2.heap.size = pe at *
     have Be := Be_
     clear Be_
     refine hKQ.out _ _ (by exact ⟨(box_cells Ba).1, (box_cells Ba).2.1, (box_cells Bb).1, (box_cells Bb).2.1, (box_cells Bc).1, (box_cells Bc).2.1, (box_cells Bd).1, (box_cells Bd).2.1⟩) (fun hHeld => ?_)
     clear hKQ KQ
     try simp only [Act.put, List.getElem_toArray, List.getElem_cons_zero, List.getElem_cons_succ, List.setIfInBounds_toArray, List.set_cons_zero, List.set_cons_succ]
     refine wpAnyH_ready (rs := [2]) (by kernel_rfl) (by simp) ?_
     refine AllReadyH.cons rfl (fun KQ hKQ => ?_) AllReadyH.nil
     go_simp
     go_at_call 51
     refine (HC1.out tw3 _ _ ia id (HTB.out _ hG)).mono ?_
     rintro e tw4 ⟨_, rfl, ⟨sg, xg, bg, rfl, hg, vg, tg⟩, gtw4⟩
     have ig : IntV tw4 (.agg #[.slice sg xg.length xg.length, .bool bg]) ((G1 : Int)) := ⟨sg, xg, bg, rfl, hg, vg, tg⟩
     replace Ba := heap_kept gtw4 Ba
     replace Bb := heap_kept gtw4 Bb
     replace Bc := heap_kept gtw4 Bc
     replace Bd := heap_kept gtw4 Bd
     replace Bj := heap_kept gtw4 Bj
     replace Be := heap_kept gtw4 Be
     replace ia := ia.kept gtw4
     replace ib := ib.kept gtw4
     replace ic := ic.kept gtw4
     replace id := id.kept gtw4
     replace hG := grown_trans hG gtw4
     replace hX := grown_trans hX gtw4
     clear gtw4
     clear hg vg tg
     (try go_wp2_with fail)
     refine hKQ.out _ _ (by exact ⟨(box_cells Ba).1, (box_cells Ba).2.1, (box_cells Bb).1, (box_cells Bb).2.1, (box_cells Bc).1, (box_cells Bc).2.1, (box_cells Bd).1, (box_cells Bd).2.1⟩) (fun hHeld => ?_)
     clear hKQ KQ
     try simp only [Act.put, List.getElem_toArray, List.getElem_cons_zero, List.getElem_cons_succ, List.setIfInBounds_toArray, List.set_cons_zero, List.set_cons_succ]
     refine wpAnyH_ready (rs := [5]) (by kernel_rfl) (by simp) ?_
     refine AllReadyH.cons rfl (fun KQ hKQ => ?_) AllReadyH.nil
     go_simp
     go_at_call 51
     refine (HC2.out tw4 _ _ ic ib (HTB.out _ hG)).mono ?_
     rintro e tw5 ⟨_, rfl, ⟨sh, xh, bh, rfl, hh, vh, th⟩, gtw5⟩
     have ih : IntV tw5 (.agg #[.slice sh xh.length xh.length, .bool bh]) ((G2 : Int)) := ⟨sh, xh, bh, rfl, hh, vh, th⟩
     replace Ba := heap_kept gtw5 Ba
     replace Bb := heap_kept gtw5 Bb
     replace Bc := heap_kept gtw5 Bc
     replace Bd := heap_kept gtw5 Bd
     replace Bj := heap_kept gtw5 Bj
     replace Be := heap_kept gtw5 Be
     replace ia := ia.kept gtw5
     replace ib := ib.kept gtw5
     replace ic := ic.kept gtw5
     replace id := id.kept gtw5
     replace ig := ig.kept gtw5
     replace hG := grown_trans hG gtw5
     replace hX := grown_trans hX gtw5
     clear gtw5
     clear hh vh th
     (try go_wp2_with fail)
     refine hKQ.out _ _ (by exact ⟨(box_cells Ba).1, (box_cells Ba).2.1, (box_cells Bb).1, (box_cells Bb).2.1, (box_cells Bc).1, (box_cells Bc).2.1, (box_cells Bd).1, (box_cells Bd).2.1⟩) (fun hHeld => ?_)
     clear hKQ KQ
     try simp only [Act.put, List.getElem_toArray, List.getElem_cons_zero, List.getElem_cons_succ, List.setIfInBounds_toArray, List.set_cons_zero, List.set_cons_succ]
    rotate_left 1
   rotate_left 3
   all_goals (
    refine wpAnyH_ready (rs := [8]) (by kernel_rfl) (by simp) ?_
    refine AllReadyH.cons rfl (fun KQ hKQ => ?_) AllReadyH.nil
    obtain ⟨c0', c1', c2', c3'⟩ := box_cells Be
    go_simp
    clear c0' c1' c2' c3'
    replace ia := ia.set2 Be (.slice sg xg.length xg.length) (.bool bg)
    replace ib := ib.set2 Be (.slice sg xg.length xg.length) (.bool bg)
    replace ic := ic.set2 Be (.slice sg xg.length xg.length) (.bool bg)
    replace id := id.set2 Be (.slice sg xg.length xg.length) (.bool bg)
    replace ig := ig.set2 Be (.slice sg xg.length xg.length) (.bool bg)
    replace ih := ih.set2 Be (.slice sg xg.length xg.length) (.bool bg)
    replace hG := grown_set2 (g := pe) hG (by omega) (.slice sg xg.length xg.length) (.bool bg)
    replace hX := grown_set2 (g := pe) hX (by omega) (.slice sg xg.length xg.length) (.bool bg)
    replace Ba := heap_unset2 Ba (show w.heap.size ≠ pe by omega) (.slice sg xg.length xg.length) (.bool bg)
    replace Bb := heap_unset2 Bb (show w.heap.size + 1 ≠ pe by omega) (.slice sg xg.length xg.length) (.bool bg)
    replace Bc := heap_unset2 Bc (show w.heap.size + 1 + 1 ≠ pe by omega) (.slice sg xg.length xg.length) (.bool bg)
    replace Bd := heap_unset2 Bd (show w.heap.size + 1 + 1 + 1 ≠ pe by omega) (.slice sg xg.length xg.length) (.bool bg)
    replace Bj := heap_unset2 Bj (show pj ≠ pe by omega) (.slice sg xg.length xg.length) (.bool bg)
    replace Be := heap_set2 Be (.slice sg xg.length xg.length) (.bool bg)
    generalize ((tw5.setCell ⟨pe, 0, none⟩ (.slice sg xg.length xg.length)).setCell ⟨pe, 1, none⟩ (.bool bg)) = tw6 at *
    refine hKQ.out _ _ (by exact ⟨(box_cells Ba).1, (box_cells Ba).2.1, (box_cells Bb).1, (box_cells Bb).2.1, (box_cells Bc).1, (box_cells Bc).2.1, (box_cells Bd).1, (box_cells Bd).2.1⟩) (fun hHeld => ?_)
    clear hKQ KQ
    try simp only [Act.put, List.getElem_toArray, List.getElem_cons_zero, List.getElem_cons_succ, List.setIfInBounds_toArray, List.set_cons_zero, List.set_cons_succ]
    refine wpAnyH_ready (rs := [9]) (by kernel_rfl) (by simp) ?_
    refine AllReadyH.cons rfl (fun KQ hKQ => ?_) AllReadyH.nil
    obtain ⟨c0', c1', c2', c3'⟩ := box_cells Bj
    go_simp
    clear c0' c1' c2' c3'
    replace ia := ia.set2 Bj (.slice sh xh.length xh.length) (.bool bh)
    replace ib := ib.set2 Bj (.slice sh xh.length xh.length) (.bool bh)
    replace ic := ic.set2 Bj (.slice sh xh.length xh.length) (.bool bh)
    replace id := id.set2 Bj (.slice sh xh.length xh.length) (.bool bh)
    replace ig := ig.set2 Bj (.slice sh xh.length xh.length) (.bool bh)
    replace ih := ih.set2 Bj (.slice sh xh.length xh.length) (.bool bh)
    replace hG := grown_set2 (g := pj) hG (by omega) (.slice sh xh.length xh.length) (.bool bh)
    replace hX := grown_set2 (g := pj) hX (by omega) (.slice sh xh.length xh.length) (.bool bh)
    replace Ba := heap_unset2 Ba (show w.heap.size ≠ pj by omega) (.slice sh xh.length xh.length) (.bool bh)
    replace Bb := heap_unset2 Bb (show w.heap.size + 1 ≠ pj by omega) (.slice sh xh.length xh.length) (.bool bh)
    replace Bc := heap_unset2 Bc (show w.heap.size + 1 + 1 ≠ pj by omega) (.slice sh xh.length xh.length) (.bool bh)
    replace Bd := heap_unset2 Bd (show w.heap.size + 1 + 1 + 1 ≠ pj by omega) (.slice sh xh.length xh.length) (.bool bh)
    replace Be := heap_unset2 Be (show pe ≠ pj by omega) (.slice sh xh.length xh.length) (.bool bh)
    replace Bj := heap_set2 Bj (.slice sh xh.length xh.length) (.bool bh)
    generalize ((tw6.setCell ⟨pj, 0, none⟩ (.slice sh xh.length xh.length)).setCell ⟨pj, 1, none⟩ (.bool bh)) = tw7 at *
    refine hKQ.out _ _ (by exact ⟨(box_cells Ba).1, (box_cells Ba).2.1, (box_cells Bb).1, (box_cells Bb).2.1, (box_cells Bc).1, (box_cells Bc).2.1, (box_cells Bd).1, (box_cells Bd).2.1⟩) (fun hHeld => ?_)
    clear hKQ KQ
    try simp only [Act.put, List.getElem_toArray, List.getElem_cons_zero, List.getElem_cons_succ, List.setIfInBounds_toArray, List.set_cons_zero, List.set_cons_succ]
    refine wpAnyH_done (by kernel_rfl) ?_ _
    go_wp2_with fail
    go_meet
    exact ⟨pe, pj, rfl, rfl, ⟨_, _, _, Be, ig⟩, ⟨_, _, _, Bj, ih⟩, by omega, by omega, hX⟩)
  case rest =>
   clear hG hX ia ib ic id Ba Bb Bc Bd Bq
   obtain ⟨pg, ph, rfl, rfl, Kg, Kh, lg, lh, hX⟩ := hcut
   have hG := grown_trans HG9.out hX
   have Ba := heap_kept hX Ha9.out
   have Bb := heap_kept hX Hb9.out
   have Bc := heap_kept hX Hc9.out
   have Bd := heap_kept hX Hd9.out
   have Bq := heap_kept hX Hq9.out
   have ia := Ia9.out.kept hX
   have ib := Ib9.out.kept hX
   have ic := Ic9.out.kept hX
   have id := Id9.out.kept hX
   obtain ⟨sg, xg, bg, Bg, ig⟩ := Kg.open
   obtain ⟨sh, xh, bh, Bh, ih⟩ := Kh.open
   obtain ⟨Ca0, Ca1, Fa0, Fa1⟩ := box_cells Ba
   obtain ⟨Cb0, Cb1, Fb0, Fb1⟩ := box_cells Bb
   obtain ⟨Cc0, Cc1, Fc0, Fc1⟩ := box_cells Bc
   obtain ⟨Cd0, Cd1, Fd0, Fd1⟩ := box_cells Bd
   obtain ⟨Cq0, Cq1, Cq2, Cq3, Fq0, Fq1, Fq2, Fq3⟩ := box_cells4 Bq
   obtain ⟨Cg0, Cg1, Fg0, Fg1⟩ := box_cells Bg
   obtain ⟨Ch0, Ch1, Fh0, Fh1⟩ := box_cells Bh
   go_wp2_with fail
   go_cut [11] (fun p wx => ∃ py, p = .pointer (some ⟨py, 0, none⟩) ∧ BoxZ wx py (N1 * M1) ∧ BoxZ wx pg (G1 : Int) ∧ BoxZ wx ph (G2 : Int) ∧ w0.heap.size ≤ py ∧ w0.grownBy wx none)
   case first =>
    have hs0 := HS0.out
    clear Ca0 Fa0 Ca1 Fa1 Cb0 Fb0 Cb1 Fb1 Cc0 Fc0 Cc1 Fc1 Cd0 Fd0 Cd1 Fd1 Cq0 Fq0 Cq1 Fq1 Cq2 Fq2 Cq3 Fq3 Cg0 Fg0 Cg1 Fg1 Ch0 Fh0 Ch1 Fh1
    clear Bb Bd Bq
    clear ib id
    obtain ⟨Ca0, Ca1, Fa0, Fa1⟩ := box_cells Ba
    obtain ⟨Cc0, Cc1, Fc0, Fc1⟩ := box_cells Bc
    obtain ⟨Cg0, Cg1, Fg0, Fg1⟩ := box_cells Bg
    obtain ⟨Ch0, Ch1, Fh0, Fh1⟩ := box_cells Bh
    refine wp_region_held_drew (S := fun w' => w'.cell? ⟨w.heap.size, 0, none⟩ = some (.slice sa xa.length xa.length) ∧ w'.cell? ⟨w.heap.size, 1, none⟩ = some (.bool ba) ∧ w'.cell? ⟨pg, 0, none⟩ = some (.slice sg xg.length xg.length) ∧ w'.cell? ⟨pg, 1, none⟩ = some (.bool bg) ∧ w'.cell? ⟨w.heap.size + 1 + 1, 0, none⟩ = some (.slice sc xc.length xc.length) ∧ w'.cell? ⟨w.heap.size + 1 + 1, 1, none⟩ = some (.bool bc) ∧ w'.cell? ⟨ph, 0, none⟩ = some (.slice sh xh.length xh.length) ∧ w'.cell? ⟨ph, 1, none⟩ = some (.bool bh)) (by kernel_rfl) (by exact ⟨Ca0, Ca1, Cg0, Cg1, Cc0, Cc1, Ch0, Ch1⟩) (fun hHeld => ?_)
    have gd : wc.grownBy wc.drew none := grown_drew (grown_refl _ _)
    clear Ca0 Fa0 Ca1 Fa1 Cc0 Fc0 Cc1 Fc1 Cg0 Fg0 Cg1 Fg1 Ch0 Fh0 Ch1 Fh1
    replace Ba := heap_kept gd Ba
    replace Bc := heap_kept gd Bc
    replace Bg := heap_kept gd Bg
    replace Bh := heap_kept gd Bh
    replace ia := ia.kept gd
    replace ic := ic.kept gd
    replace ig := ig.kept gd
    replace ih := ih.kept gd
    replace hG := grown_trans hG gd
    replace hX := grown_trans hX gd
    clear gd
    generalize wc.drew = mw1 at *
    refine wpAnyH_take (i := 0) (v := ?_) rfl (by kernel_rfl) (by kernel_rfl) (by kernel_rfl) (fun _ _ _ h => h) (Or.inl ⟨by rfl, ?_⟩) (by assumption) ?_
    rotate_left
    · (intro w hSw; (try dsimp only at hSw); go_simp; (try with_reducible rfl))
    try simp only [Act.put, List.getElem_toArray, List.getElem_cons_zero, List.getElem_cons_succ, List.setIfInBounds_toArray, List.set_cons_zero, List.set_cons_succ]
    refine wpAnyH_take (i := 1) (v := ?_) rfl (by kernel_rfl) (by kernel_rfl) (by kernel_rfl) (fun _ _ _ h => h) (Or.inl ⟨by rfl, ?_⟩) (by assumption) ?_
    rotate_left
    · (intro w hSw; (try dsimp only at hSw); go_simp; (try with_reducible rfl))
    try simp only [Act.put, List.getElem_toArray, List.getElem_cons_zero, List.getElem_cons_succ, List.setIfInBounds_toArray, List.set_cons_zero, List.set_cons_succ]
    refine wpAnyH_take (i := 3) (v := ?_) rfl (by kernel_rfl) (by kernel_rfl) (by kernel_rfl) (fun _ _ _ h => h) (Or.inl ⟨by rfl, ?_⟩) (by assumption) ?_
    rotate_left
    · (intro w hSw; (try dsimp only at hSw); go_simp; (try with_reducible rfl))
    try simp only [Act.put, List.getElem_toArray, List.getElem_cons_zero, List.getElem_cons_succ, List.setIfInBounds_toArray, List.set_cons_zero, List.set_cons_succ]
    refine wpAnyH_take (i := 4) (v := ?_) rfl (by kernel_rfl) (by kernel_rfl) (by kernel_rfl) (fun _ _ _ h => h) (Or.inl ⟨by rfl, ?_⟩) (by assumption) ?_
    rotate_left
    · (intro w hSw; (try dsimp only at hSw); go_simp; (try with_reducible rfl))
    try simp only [Act.put, List.getElem_toArray, List.getElem_cons_zero, List.getElem_cons_succ, List.setIfInBounds_toArray, List.set_cons_zero, List.set_cons_succ]
    refine wpAnyH_ready (rs := [2, 7]) (by kernel_rfl) (by simp) ?_
    refine AllReadyH.cons rfl (fun KQ hKQ => ?_) (AllReadyH.cons rfl (fun KQ hKQ => ?_) AllReadyH.nil)
    focus
     go_simp
     go_at_call 54
     refine (HS1.out mw1 _ _ ia ig).mono ?_
     rintro e mw2 ⟨_, rfl, ⟨se, xe, be, rfl, he, ve, te⟩, gmw2⟩
     have ie : IntV mw2 (.agg #[.slice se xe.length xe.length, .bool be]) (N1) := ⟨se, xe, be, rfl, he, ve, te⟩
     replace Ba := heap_kept gmw2 Ba
     replace Bc := heap_kept gmw2 Bc
     replace Bg := heap_kept gmw2 Bg
     replace Bh := heap_kept gmw2 Bh
     replace ia := ia.kept gmw2
     replace ic := ic.kept gmw2
     replace ig := ig.kept gmw2
     replace ih := ih.kept gmw2
     replace hG := grown_trans hG gmw2
     replace hX := grown_trans hX gmw2
     clear gmw2
     clear he ve te
     (try go_wp2_with fail)
     refine hKQ.out _ _ (by exact ⟨(box_cells Ba).1, (box_cells Ba).2.1, (box_cells Bg).1, (box_cells Bg).2.1, (box_cells Bc).1, (box_cells Bc).2.1, (box_cells Bh).1, (box_cells Bh).2.1⟩) (fun hHeld => ?_)
     clear hKQ KQ
     try simp only [Act.put, List.getElem_toArray, List.getElem_cons_zero, List.getElem_cons_succ, List.setIfInBounds_toArray, List.set_cons_zero, List.set_cons_succ]
     refine wpAnyH_ready (rs := [5, 7]) (by kernel_rfl) (by simp) ?_
     refine AllReadyH.cons rfl (fun KQ hKQ => ?_) (AllReadyH.cons rfl (fun KQ hKQ => ?_) AllReadyH.nil)
     focus
      go_simp
      go_at_call 54
      refine (HS2.out mw2 _ _ ic ih).mono ?_
      rintro e mw3 ⟨_, rfl, ⟨sj, xj, bj, rfl, hj, vj, tj⟩, gmw3⟩
      have ij : IntV mw3 (.agg #[.slice sj xj.length xj.length, .bool bj]) (M1) := ⟨sj, xj, bj, rfl, hj, vj, tj⟩
      replace Ba := heap_kept gmw3 Ba
      replace Bc := heap_kept gmw3 Bc
      replace Bg := heap_kept gmw3 Bg
      replace Bh := heap_kept gmw3 Bh
      replace ia := ia.kept gmw3
      replace ic := ic.kept gmw3
      replace ig := ig.kept gmw3
      replace ih := ih.kept gmw3
      replace ie := ie.kept gmw3
      replace hG := grown_trans hG gmw3
      replace hX := grown_trans hX gmw3
      clear gmw3
      clear hj vj tj
      (try go_wp2_with fail)
      refine hKQ.out _ _ (by exact ⟨(box_cells Ba).1, (box_cells Ba).2.1, (box_cells Bg).1, (box_cells Bg).2.1, (box_cells Bc).1, (box_cells Bc).2.1, (box_cells Bh).1, (box_cells Bh).2.1⟩) (fun hHeld => ?_)
      clear hKQ KQ
      try simp only [Act.put, List.getElem_toArray, List.getElem_cons_zero, List.getElem_cons_succ, List.setIfInBounds_toArray, List.set_cons_zero, List.set_cons_succ]
      refine wpAnyH_ready (rs := [6, 7]) (by kernel_rfl) (by simp) ?_
      refine AllReadyH.cons rfl (fun KQ hKQ => ?_) (AllReadyH.cons rfl (fun KQ hKQ => ?_) AllReadyH.nil)
      focus
       go_simp
       go_at_call 42
       refine (ZMul_any mw3 _ _ N1 M1 K ie ij (by omega) HB1.out HB2.out).mono ?_
       rintro e mw4 ⟨_, rfl, ⟨sm, xm, bm, rfl, hm, vm, tm⟩, gmw4⟩
       have im : IntV mw4 (.agg #[.slice sm xm.length xm.length, .bool bm]) (N1 * M1) := ⟨sm, xm, bm, rfl, hm, vm, tm⟩
       replace Ba := heap_kept gmw4 Ba
       replace Bc := heap_kept gmw4 Bc
       replace Bg := heap_kept gmw4 Bg
       replace Bh := heap_kept gmw4 Bh
       replace ia := ia.kept gmw4
       replace ic := ic.kept gmw4
       replace ig := ig.kept gmw4
       replace ih := ih.kept gmw4
       replace ie := ie.kept gmw4
       replace ij := ij.kept gmw4
       replace hG := grown_trans hG gmw4
       replace hX := grown_trans hX gmw4
       clear gmw4
       clear hm vm tm
       (try go_wp2_with fail)
       refine hKQ.out _ _ (by exact ⟨(box_cells Ba).1, (box_cells Ba).2.1, (box_cells Bg).1, (box_cells Bg).2.1, (box_cells Bc).1, (box_cells Bc).2.1, (box_cells Bh).1, (box_cells Bh).2.1⟩) (fun hHeld => ?_)
       clear hKQ KQ
       try simp only [Act.put, List.getElem_toArray, List.getElem_cons_zero, List.getElem_cons_succ, List.setIfInBounds_toArray, List.set_cons_zero, List.set_cons_succ]
       refine wpAnyH_ready (rs := [7]) (by kernel_rfl) (by simp) ?_
       refine AllReadyH.cons rfl (fun KQ hKQ => ?_) AllReadyH.nil
       have gA := World.grownBy_alloc mw4 (.cells #[.slice none 0 0, .bool false] 28) none
       have lohGy : w.heap.size ≤ mw4.heap.size := hG.size
       have lohXy : w0.heap.size ≤ mw4.heap.size := hX.size
       have ltay : w.heap.size < mw4.heap.size := heap_lt Ba
       have ltcy : w.heap.size + 1 + 1 < mw4.heap.size := heap_lt Bc
       have ltgy : pg < mw4.heap.size := heap_lt Bg
       have lthy : ph < mw4.heap.size := heap_lt Bh
       have By_ := heap_new mw4 (.cells #[.slice none 0 0, .bool false] 28) mw4.heap.size rfl
       replace Ba := heap_kept gA Ba
       replace Bc := heap_kept gA Bc
       replace Bg := heap_kept gA Bg
       replace Bh := heap_kept gA Bh
       replace ia := ia.kept gA
       replace ic := ic.kept gA
       replace ig := ig.kept gA
       replace ih := ih.kept gA
       replace ie := ie.kept gA
       replace ij := ij.kept gA
       replace im := im.kept gA
       replace hG := grown_trans hG gA
       replace hX := grown_trans hX gA
       clear gA
       go_simp
       generalize (mw4.alloc (.cells #[.slice none 0 0, .bool false] 28)) = mw5 at *
       generalize mw4.heap.size = py at *
       have By := By_
       clear By_
       refine hKQ.out _ _ (by exact ⟨(box_cells Ba).1, (box_cells Ba).2.1, (box_cells Bg).1, (box_cells Bg).2.1, (box_cells Bc).1, (box_cells Bc).2.1, (box_cells Bh).1, (box_cells Bh).2.1⟩) (fun hHeld => ?_)
       clear hKQ KQ
       try simp only [Act.put, List.getElem_toArray, List.getElem_cons_zero, List.getElem_cons_succ, List.setIfInBounds_toArray, List.set_cons_zero, List.set_cons_succ]
      rotate_left 1
      focus
       have gA := World.grownBy_alloc mw3 (.cells #[.slice none 0 0, .bool false] 28) none
       have lohGy : w.heap.size ≤ mw3.heap.size := hG.size
       have lohXy : w0.heap.size ≤ mw3.heap.size := hX.size
       have ltay : w.heap.size < mw3.heap.size := heap_lt Ba
       have ltcy : w.heap.size + 1 + 1 < mw3.heap.size := heap_lt Bc
       have ltgy : pg < mw3.heap.size := heap_lt Bg
       have lthy : ph < mw3.heap.size := heap_lt Bh
       have By_ := heap_new mw3 (.cells #[.slice none 0 0, .bool false] 28) mw3.heap.size rfl
       replace Ba := heap_kept gA Ba
       replace Bc := heap_kept gA Bc
       replace Bg := heap_kept gA Bg
       replace Bh := heap_kept gA Bh
       replace ia := ia.kept gA
       replace ic := ic.kept gA
       replace ig := ig.kept gA
       replace ih := ih.kept gA
       replace ie := ie.kept gA
       replace ij := ij.kept gA
       replace hG := grown_trans hG gA
       replace hX := grown_trans hX gA
       clear gA
       go_simp
       generalize (mw3.alloc (.cells #[.slice none 0 0, .bool false] 28)) = mw4 at *
       generalize mw3.heap.size = py at *
       have By := By_
       clear By_
       refine hKQ.out _ _ (by exact ⟨(box_cells Ba).1, (box_cells Ba).2.1, (box_cells Bg).1, (box_cells Bg).2.1, (box_cells Bc).1, (box_cells Bc).2.1, (box_cells Bh).1, (box_cells Bh).2.1⟩) (fun hHeld => ?_)
       clear hKQ KQ
       try simp only [Act.put, List.getElem_toArray, List.getElem_cons_zero, List.getElem_cons_succ, List.setIfInBounds_toArray, List.set_cons_zero, List.set_cons_succ]
       refine wpAnyH_ready (rs := [6]) (by kernel_rfl) (by simp) ?_
       refine AllReadyH.cons rfl (fun KQ hKQ => ?_) AllReadyH.nil
       go_simp
       go_at_call 42
       refine (ZMul_any mw4 _ _ N1 M1 K ie ij (by omega) HB1.out HB2.out).mono ?_
       rintro e mw5 ⟨_, rfl, ⟨sm, xm, bm, rfl, hm, vm, tm⟩, gmw5⟩
       have im : IntV mw5 (.agg #[.slice sm xm.length xm.length, .bool bm]) (N1 * M1) := ⟨sm, xm, bm, rfl, hm, vm, tm⟩
       replace Ba := heap_kept gmw5 Ba
       replace Bc := heap_kept gmw5 Bc
       replace Bg := heap_kept gmw5 Bg
       replace Bh := heap_kept gmw5 Bh
       replace By := heap_kept gmw5 By
       replace ia := ia.kept gmw5
       replace ic := ic.kept gmw5
       replace ig := ig.kept gmw5
       replace ih := ih.kept gmw5
       replace ie := ie.kept gmw5
       replace ij := ij.kept gmw5
       replace hG := grown_trans hG gmw5
       replace hX := grown_trans hX gmw5
       clear gmw5
       clear hm vm tm
       (try go_wp2_with fail)
       refine hKQ.out _ _ (by exact ⟨(box_cells Ba).1, (box_cells Ba).2.1, (box_cells Bg).1, (box_cells Bg).2.1, (box_cells Bc).1, (box_cells Bc).2.1, (box_cells Bh).1, (box_cells Bh).2.1⟩) (fun hHeld => ?_)
       clear hKQ KQ
       try simp only [Act.put, List.getElem_toArray, List.getElem_cons_zero, List.getElem_cons_succ, List.setIfInBounds_toArray, List.set_cons_zero, List.set_cons_succ]
      rotate_left 1
     rotate_left 2
     focus
      have gA := World.grownBy_alloc mw2 (.cells #[.slice none 0 0, .bool false] 28) none
      have lohGy : w.heap.size ≤ mw2.heap.size := hG.size
      have lohXy : w0.heap.size ≤ mw2.heap.size := hX.size
      have ltay : w.heap.size < mw2.heap.size := heap_lt Ba
      have ltcy : w.heap.size + 1 + 1 < mw2.heap.size := heap_lt Bc
      have ltgy : pg < mw2.heap.size := heap_lt Bg
      have lthy : ph < mw2.heap.size := heap_lt Bh
      have By_ := heap_new mw2 (.cells #[.slice none 0 0, .bool false] 28) mw2.heap.size rfl
      replace Ba := heap_kept gA Ba
      replace Bc := heap_kept gA Bc
      replace Bg := heap_kept gA Bg
      replace Bh := heap_kept gA Bh
      replace ia := ia.kept gA
      replace ic := ic.kept gA
      replace ig := ig.kept gA
      replace ih := ih.kept gA
      replace ie := ie.kept gA
      replace hG := grown_trans hG gA
      replace hX := grown_trans hX gA
      clear gA
      go_simp
      generalize (mw2.alloc (.cells #[.slice none 0 0, .bool false] 28)) = mw3 at *
      generalize mw2.heap.size = py at *
      have By := By_
      clear By_
      refine hKQ.out _ _ (by exact ⟨(box_cells Ba).1, (box_cells Ba).2.1, (box_cells Bg).1, (box_cells Bg).2.1, (box_cells Bc).1, (box_cells Bc).2.1, (box_cells Bh).1, (box_cells Bh).2.1⟩) (fun hHeld => ?_)
      clear hKQ KQ
      try simp only [Act.put, List.getElem_toArray, List.getElem_cons_zero, List.getElem_cons_succ, List.setIfInBounds_toArray, List.set_cons_zero, List.set_cons_succ]
      refine wpAnyH_ready (rs := [5]) (by kernel_rfl) (by simp) ?_
      refine AllReadyH.cons rfl (fun KQ hKQ => ?_) AllReadyH.nil
      go_simp
      go_at_call 54
      refine (HS2.out mw3 _ _ ic ih).mono ?_
      rintro e mw4 ⟨_, rfl, ⟨sj, xj, bj, rfl, hj, vj, tj⟩, gmw4⟩
      have ij : IntV mw4 (.agg #[.slice sj xj.length xj.length, .bool bj]) (M1) := ⟨sj, xj, bj, rfl, hj, vj, tj⟩
      replace Ba := heap_kept gmw4 Ba
      replace Bc := heap_kept gmw4 Bc
      replace Bg := heap_kept gmw4 Bg
      replace Bh := heap_kept gmw4 Bh
      replace By := heap_kept gmw4 By
      replace ia := ia.kept gmw4
      replace ic := ic.kept gmw4
      replace ig := ig.kept gmw4
      replace ih := ih.kept gmw4
      replace ie := ie.kept gmw4
      replace hG := grown_trans hG gmw4
      replace hX := grown_trans hX gmw4
      clear gmw4
      clear hj vj tj
      (try go_wp2_with fail)
      refine hKQ.out _ _ (by exact ⟨(box_cells Ba).1, (box_cells Ba).2.1, (box_cells Bg).1, (box_cells Bg).2.1, (box_cells Bc).1, (box_cells Bc).2.1, (box_cells Bh).1, (box_cells Bh).2.1⟩) (fun hHeld => ?_)
      clear hKQ KQ
      try simp only [Act.put, List.getElem_toArray, List.getElem_cons_zero, List.getElem_cons_succ, List.setIfInBounds_toArray, List.set_cons_zero, List.set_cons_succ]
      refine wpAnyH_ready (rs := [6]) (by kernel_rfl) (by simp) ?_
      refine AllReadyH.cons rfl (fun KQ hKQ => ?_) AllReadyH.nil
      go_simp
      go_at_call 42
      refine (ZMul_any mw4 _ _ N1 M1 K ie ij (by omega) HB1.out HB2.out).mono ?_
      rintro e mw5 ⟨_, rfl, ⟨sm, xm, bm, rfl, hm, vm, tm⟩, gmw5⟩
      have im : IntV mw5 (.agg #[.slice sm xm.length xm.length, .bool bm]) (N1 * M1) := ⟨sm, xm, bm, rfl, hm, vm, tm⟩
      replace Ba := heap_kept gmw5 Ba
      replace Bc := heap_kept gmw5 Bc
      replace Bg := heap_kept gmw5 Bg
      replace Bh := heap_kept gmw5 Bh
      replace By := heap_kept gmw5 By
      replace ia := ia.kept gmw5
      replace ic := ic.kept gmw5
      replace ig := ig.kept gmw5
      replace ih := ih.kept gmw5
      replace ie := ie.kept gmw5
      replace ij := ij.kept gmw5
      replace hG := grown_trans hG gmw5
      replace hX := grown_trans hX gmw5
      clear gmw5
      clear hm vm tm
      (try go_wp2_with fail)
      refine hKQ.out _ _ (by exact ⟨(box_cells Ba).1, (box_cells Ba).2.1, (box_cells Bg).1, (box_cells Bg).2.1, (box_cells Bc).1, (box_cells Bc).2.1, (box_cells Bh).1, (box_cells Bh).2.1⟩) (fun hHeld => ?_)
      clear hKQ KQ
      try simp only [Act.put, List.getElem_toArray, List.getElem_cons_zero, List.getElem_cons_succ, List.setIfInBounds_toArray, List.set_cons_zero, List.set_cons_succ]
     rotate_left 1
    rotate_left 3
    focus
     have gA := World.grownBy_alloc mw1 (.cells #[.slice none 0 0, .bool false] 28) none
     have lohGy : w.heap.size ≤ mw1.heap.size := hG.size
     have lohXy : w0.heap.size ≤ mw1.heap.size := hX.size
     have ltay : w.heap.size < mw1.heap.size := heap_lt Ba
     have ltcy : w.heap.size + 1 + 1 < mw1.heap.size := heap_lt Bc
     have ltgy : pg < mw1.heap.size := heap_lt Bg
     have lthy : ph < mw1.heap.size := heap_lt Bh
     have By_ := heap_new mw1 (.cells #[.slice none 0 0, .bool false] 28) mw1.heap.size rfl
     replace Ba := heap_kept gA Ba
     replace Bc := heap_kept gA Bc
     replace Bg := heap_kept gA Bg
     replace Bh := heap_kept gA Bh
     replace ia := ia.kept gA
     replace ic := ic.kept gA
     replace ig := ig.kept gA
     replace ih := ih.kept gA
     replace hG := grown_trans hG gA
     replace hX := grown_trans hX gA
     clear gA
     go_simp
     generalize (mw1.alloc (.cells #[.slice none 0 0, .bool false] 28)) = mw2 at *
     generalize mw1.heap.size = py at *
     have By := By_
     clear By_
     refine hKQ.out _ _ (by exact ⟨(box_cells Ba).1, (box_cells Ba).2.1, (box_cells Bg).1, (box_cells Bg).2.1, (box_cells Bc).1, (box_cells Bc).2.1, (box_cells Bh).1, (box_cells Bh).2.1⟩) (fun hHeld => ?_)
     clear hKQ KQ
     try simp only [Act.put, List.getElem_toArray, List.getElem_cons_zero, List.getElem_cons_succ, List.setIfInBounds_toArray, List.set_cons_zero, List.set_cons_succ]
     refine wpAnyH_ready (rs := [2]) (by kernel_rfl) (by simp) ?_
     refine AllReadyH.cons rfl (fun KQ hKQ => ?_) AllReadyH.nil
     go_simp
     go_at_call 54
     refine (HS1.out mw2 _ _ ia ig).mono ?_
     rintro e mw3 ⟨_, rfl, ⟨se, xe, be, rfl, he, ve, te⟩, gmw3⟩
     have ie : IntV mw3 (.agg #[.slice se xe.length xe.length, .bool be]) (N1) := ⟨se, xe, be, rfl, he, ve, te⟩
     replace Ba := heap_kept gmw3 Ba
     replace Bc := heap_kept gmw3 Bc
     replace Bg := heap_kept gmw3 Bg
     replace Bh := heap_kept gmw3 Bh
     replace By := heap_kept gmw3 By
     replace ia := ia.kept gmw3
     replace ic := ic.kept gmw3
     replace ig := ig.kept gmw3
     replace ih := ih.kept gmw3
     replace hG := grown_trans hG gmw3
     replace hX := grown_trans hX gmw3
     clear gmw3
     clear he ve te
     (try go_wp2_with fail)
     refine hKQ.out _ _ (by exact ⟨(box_cells Ba).1, (box_cells Ba).2.1, (box_cells Bg).1, (box_cells Bg).2.1, (box_cells Bc).1, (box_cells Bc).2.1, (box_cells Bh).1, (box_cells Bh).2.1⟩) (fun hHeld => ?_)
     clear hKQ KQ
     try simp only [Act.put, List.getElem_toArray, List.getElem_cons_zero, List.getElem_cons_succ, List.setIfInBounds_toArray, List.set_cons_zero, List.set_cons_succ]
     refine wpAnyH_ready (rs := [5]) (by kernel_rfl) (by simp) ?_
     refine AllReadyH.cons rfl (fun KQ hKQ => ?_) AllReadyH.nil
     go_simp
     go_at_call 54
     refine (HS2.out mw3 _ _ ic ih).mono ?_
     rintro e mw4 ⟨_, rfl, ⟨sj, xj, bj, rfl, hj, vj, tj⟩, gmw4⟩
     have ij : IntV mw4 (.agg #[.slice sj xj.length xj.length, .bool bj]) (M1) := ⟨sj, xj, bj, rfl, hj, vj, tj⟩
     replace Ba := heap_kept gmw4 Ba
     replace Bc := heap_kept gmw4 Bc
     replace Bg := heap_kept gmw4 Bg
     replace Bh := heap_kept gmw4 Bh
     replace By := heap_kept gmw4 By
     replace ia := ia.kept gmw4
     replace ic := ic.kept gmw4
     replace ig := ig.kept gmw4
     replace ih := ih.kept gmw4
     replace ie := ie.kept gmw4
     replace hG := grown_trans hG gmw4
     replace hX := grown_trans hX gmw4
     clear gmw4
     clear hj vj tj
     (try go_wp2_with fail)
     refine hKQ.out _ _ (by exact ⟨(box_cells Ba).1, (box_cells Ba).2.1, (box_cells Bg).1, (box_cells Bg).2.1, (box_cells Bc).1, (box_cells Bc).2.1, (box_cells Bh).1, (box_cells Bh).2.1⟩) (fun hHeld => ?_)
     clear hKQ KQ
     try simp only [Act.put, List.getElem_toArray, List.getElem_cons_zero, List.getElem_cons_succ, List.setIfInBounds_toArray, List.set_cons_zero, List.set_cons_succ]
     refine wpAnyH_ready (rs := [6]) (by kernel_rfl) (by simp) ?_
     refine AllReadyH.cons rfl (fun KQ hKQ => ?_) AllReadyH.nil
     go_simp
     go_at_call 42
     refine (ZMul_any mw4 _ _ N1 M1 K ie ij (by omega) HB1.out HB2.out).mono ?_
     rintro e mw5 ⟨_, rfl, ⟨sm, xm, bm, rfl, hm, vm, tm⟩, gmw5⟩
     have im : IntV mw5 (.agg #[.slice sm xm.length xm.length, .bool bm]) (N1 * M1) := ⟨sm, xm, bm, rfl, hm, vm, tm⟩
     replace Ba := heap_kept gmw5 Ba
     replace Bc := heap_kept gmw5 Bc
     replace Bg := heap_kept gmw5 Bg
     replace Bh := heap_kept gmw5 Bh
     replace By := heap_kept gmw5 By
     replace ia := ia.kept gmw5
     replace ic := ic.kept gmw5
     replace ig := ig.kept gmw5
     replace ih := ih.kept gmw5
     replace ie := ie.kept gmw5
     replace ij := ij.kept gmw5
     replace hG := grown_trans hG gmw5
     replace hX := grown_trans hX gmw5
     clear gmw5
     clear hm vm tm
     (try go_wp2_with fail)
     refine hKQ.out _ _ (by exact ⟨(box_cells Ba).1, (box_cells Ba).2.1, (box_cells Bg).1, (box_cells Bg).2.1, (box_cells Bc).1, (box_cells Bc).2.1, (box_cells Bh).1, (box_cells Bh).2.1⟩) (fun hHeld => ?_)
     clear hKQ KQ
     try simp only [Act.put, List.getElem_toArray, List.getElem_cons_zero, List.getElem_cons_succ, List.setIfInBounds_toArray, List.set_cons_zero, List.set_cons_succ]
    rotate_left 1
    all_goals (
     refine wpAnyH_ready (rs := [8]) (by kernel_rfl) (by simp) ?_
     refine AllReadyH.cons rfl (fun KQ hKQ => ?_) AllReadyH.nil
     obtain ⟨c0', c1', c2', c3'⟩ := box_cells By
     go_simp
     clear c0' c1' c2' c3'
     replace ia := ia.set2 By (.slice sm xm.length xm.length) (.bool bm)
     replace ic := ic.set2 By (.slice sm xm.length xm.length) (.bool bm)
     replace ig := ig.set2 By (.slice sm xm.length xm.length) (.bool bm)
     replace ih := ih.set2 By (.slice sm xm.length xm.length) (.bool bm)
     replace ie := ie.set2 By (.slice sm xm.length xm.length) (.bool bm)
     replace ij := ij.set2 By (.slice sm xm.length xm.length) (.bool bm)
     replace im := im.set2 By (.slice sm xm.length xm.length) (.bool bm)
     replace hG := grown_set2 (g := py) hG (by omega) (.slice sm xm.length xm.length) (.bool bm)
     replace hX := grown_set2 (g := py) hX (by omega) (.slice sm xm.length xm.length) (.bool bm)
     replace Ba := heap_unset2 Ba (show w.heap.size ≠ py by omega) (.slice sm xm.length xm.length) (.bool bm)
     replace Bc := heap_unset2 Bc (show w.heap.size + 1 + 1 ≠ py by omega) (.slice sm xm.length xm.length) (.bool bm)
     replace Bg := heap_unset2 Bg (show pg ≠ py by omega) (.slice sm xm.length xm.length) (.bool bm)
     replace Bh := heap_unset2 Bh (show ph ≠ py by omega) (.slice sm xm.length xm.length) (.bool bm)
     replace By := heap_set2 By (.slice sm xm.length xm.length) (.bool bm)
     generalize ((mw5.setCell ⟨py, 0, none⟩ (.slice sm xm.length xm.length)).setCell ⟨py, 1, none⟩ (.bool bm)) = mw6 at *
     refine hKQ.out _ _ (by exact ⟨(box_cells Ba).1, (box_cells Ba).2.1, (box_cells Bg).1, (box_cells Bg).2.1, (box_cells Bc).1, (box_cells Bc).2.1, (box_cells Bh).1, (box_cells Bh).2.1⟩) (fun hHeld => ?_)
     clear hKQ KQ
     try simp only [Act.put, List.getElem_toArray, List.getElem_cons_zero, List.getElem_cons_succ, List.setIfInBounds_toArray, List.set_cons_zero, List.set_cons_succ]
     refine wpAnyH_done (by kernel_rfl) ?_ _
     go_wp2_with fail
     go_meet
     exact ⟨py, rfl, ⟨_, _, _, By, im⟩, ⟨_, _, _, Bg, ig⟩, ⟨_, _, _, Bh, ih⟩, by omega, hX⟩)
   case rest =>
    clear hG hX ia ib ic id ig ih Ba Bb Bc Bd Bq Bg Bh
    obtain ⟨pk, rfl, Kk, Kg, Kh, lk, hX⟩ := hcut
    have hG := grown_trans HG9.out hX
    have Ba := heap_kept hX Ha9.out
    have Bb := heap_kept hX Hb9.out
    have Bc := heap_kept hX Hc9.out
    have Bd := heap_kept hX Hd9.out
    have Bq := heap_kept hX Hq9.out
    have ia := Ia9.out.kept hX
    have ib := Ib9.out.kept hX
    have ic := Ic9.out.kept hX
    have id := Id9.out.kept hX
    obtain ⟨sk, xk, bk, Bk, ik⟩ := Kk.open
    obtain ⟨sg, xg, bg, Bg, ig⟩ := Kg.open
    obtain ⟨sh, xh, bh, Bh, ih⟩ := Kh.open
    obtain ⟨Ca0, Ca1, Fa0, Fa1⟩ := box_cells Ba
    obtain ⟨Cb0, Cb1, Fb0, Fb1⟩ := box_cells Bb
    obtain ⟨Cc0, Cc1, Fc0, Fc1⟩ := box_cells Bc
    obtain ⟨Cd0, Cd1, Fd0, Fd1⟩ := box_cells Bd
    obtain ⟨Cq0, Cq1, Cq2, Cq3, Fq0, Fq1, Fq2, Fq3⟩ := box_cells4 Bq
    obtain ⟨Ck0, Ck1, Fk0, Fk1⟩ := box_cells Bk
    obtain ⟨Cg0, Cg1, Fg0, Fg1⟩ := box_cells Bg
    obtain ⟨Ch0, Ch1, Fh0, Fh1⟩ := box_cells Bh
    go_wp2_with fail
    go_cut [12] (fun p wx => ∃ py, p = .pointer (some ⟨py, 0, none⟩) ∧ BoxZ wx py (D1 * F1) ∧ BoxZ wx pk (N1 * M1) ∧ w0.heap.size ≤ py ∧ w0.grownBy wx none)
    case first =>
     have hs0 := HS0.out
     clear Ca0 Fa0 Ca1 Fa1 Cb0 Fb0 Cb1 Fb1 Cc0 Fc0 Cc1 Fc1 Cd0 Fd0 Cd1 Fd1 Cq0 Fq0 Cq1 Fq1 Cq2 Fq2 Cq3 Fq3 Ck0 Fk0 Ck1 Fk1 Cg0 Fg0 Cg1 Fg1 Ch0 Fh0 Ch1 Fh1
     clear Ba Bc Bq
     clear ia ic
     obtain ⟨Cb0, Cb1, Fb0, Fb1⟩ := box_cells Bb
     obtain ⟨Cd0, Cd1, Fd0, Fd1⟩ := box_cells Bd
     obtain ⟨Cg0, Cg1, Fg0, Fg1⟩ := box_cells Bg
     obtain ⟨Ch0, Ch1, Fh0, Fh1⟩ := box_cells Bh
     refine wp_region_held_drew (S := fun w' => w'.cell? ⟨w.heap.size + 1, 0, none⟩ = some (.slice sb xb.length xb.length) ∧ w'.cell? ⟨w.heap.size + 1, 1, none⟩ = some (.bool bb) ∧ w'.cell? ⟨ph, 0, none⟩ = some (.slice sh xh.length xh.length) ∧ w'.cell? ⟨ph, 1, none⟩ = some (.bool bh) ∧ w'.cell? ⟨w.heap.size + 1 + 1 + 1, 0, none⟩ = some (.slice sd xd.length xd.length) ∧ w'.cell? ⟨w.heap.size + 1 + 1 + 1, 1, none⟩ = some (.bool bd) ∧ w'.cell? ⟨pg, 0, none⟩ = some (.slice sg xg.length xg.length) ∧ w'.cell? ⟨pg, 1, none⟩ = some (.bool bg)) (by kernel_rfl) (by exact ⟨Cb0, Cb1, Ch0, Ch1, Cd0, Cd1, Cg0, Cg1⟩) (fun hHeld => ?_)
     have gd : wc.grownBy wc.drew none := grown_drew (grown_refl _ _)
     clear Cb0 Fb0 Cb1 Fb1 Cd0 Fd0 Cd1 Fd1 Cg0 Fg0 Cg1 Fg1 Ch0 Fh0 Ch1 Fh1
     replace Bb := heap_kept gd Bb
     replace Bd := heap_kept gd Bd
     replace Bk := heap_kept gd Bk
     replace Bg := heap_kept gd Bg
     replace Bh := heap_kept gd Bh
     replace ib := ib.kept gd
     replace id := id.kept gd
     replace ik := ik.kept gd
     replace ig := ig.kept gd
     replace ih := ih.kept gd
     replace hG := grown_trans hG gd
     replace hX := grown_trans hX gd
     clear gd
     generalize wc.drew = nw1 at *
     refine wpAnyH_take (i := 0) (v := ?_) rfl (by kernel_rfl) (by kernel_rfl) (by kernel_rfl) (fun _ _ _ h => h) (Or.inl ⟨by rfl, ?_⟩) (by assumption) ?_
     rotate_left
     · (intro w hSw; (try dsimp only at hSw); go_simp; (try with_reducible rfl))
     try simp only [Act.put, List.getElem_toArray, List.getElem_cons_zero, List.getElem_cons_succ, List.setIfInBounds_toArray, List.set_cons_zero, List.set_cons_succ]
     refine wpAnyH_take (i := 1) (v := ?_) rfl (by kernel_rfl) (by kernel_rfl) (by kernel_rfl) (fun _ _ _ h => h) (Or.inl ⟨by rfl, ?_⟩) (by assumption) ?_
     rotate_left
     · (intro w hSw; (try dsimp only at hSw); go_simp; (try with_reducible rfl))
     try simp only [Act.put, List.getElem_toArray, List.getElem_cons_zero, List.getElem_cons_succ, List.setIfInBounds_toArray, List.set_cons_zero, List.set_cons_succ]
     refine wpAnyH_take (i := 3) (v := ?_) rfl (by kernel_rfl) (by kernel_rfl) (by kernel_rfl) (fun _ _ _ h => h) (Or.inl ⟨by rfl, ?_⟩) (by assumption) ?_
     rotate_left
     · (intro w hSw; (try dsimp only at hSw); go_simp; (try with_reducible rfl))
     try simp only [Act.put, List.getElem_toArray, List.getElem_cons_zero, List.getElem_cons_succ, List.setIfInBounds_toArray, List.set_cons_zero, List.set_cons_succ]
     refine wpAnyH_take (i := 4) (v := ?_) rfl (by kernel_rfl) (by kernel_rfl) (by kernel_rfl) (fun _ _ _ h => h) (Or.inl ⟨by rfl, ?_⟩) (by assumption) ?_
     rotate_left
     · (intro w hSw; (try dsimp only at hSw); go_simp; (try with_reducible rfl))
     try simp only [Act.put, List.getElem_toArray, List.getElem_cons_zero, List.getElem_cons_succ, List.setIfInBounds_toArray, List.set_cons_zero, List.set_cons_succ]
     refine wpAnyH_ready (rs := [2, 7]) (by kernel_rfl) (by simp) ?_
     refine AllReadyH.cons rfl (fun KQ hKQ => ?_) (AllReadyH.cons rfl (fun KQ hKQ => ?_) AllReadyH.nil)
     focus
      go_simp
      go_at_call 54
      refine (HS3.out nw1 _ _ ib ih).mono ?_
      rintro e nw2 ⟨_, rfl, ⟨se, xe, be, rfl, he, ve, te⟩, gnw2⟩
      have ie : IntV nw2 (.agg #[.slice se xe.length xe.length, .bool be]) (D1) := ⟨se, xe, be, rfl, he, ve, te⟩
      replace Bb := heap_kept gnw2 Bb
      replace Bd := heap_kept gnw2 Bd
      replace Bk := heap_kept gnw2 Bk
      replace Bg := heap_kept gnw2 Bg
      replace Bh := heap_kept gnw2 Bh
      replace ib := ib.kept gnw2
      replace id := id.kept gnw2
      replace ik := ik.kept gnw2
      replace ig := ig.kept gnw2
      replace ih := ih.kept gnw2
      replace hG := grown_trans hG gnw2
      replace hX := grown_trans hX gnw2
      clear gnw2
      clear he ve te
      (try go_wp2_with fail)
      refine hKQ.out _ _ (by exact ⟨(box_cells Bb).1, (box_cells Bb).2.1, (box_cells Bh).1, (box_cells Bh).2.1, (box_cells Bd).1, (box_cells Bd).2.1, (box_cells Bg).1, (box_cells Bg).2.1⟩) (fun hHeld => ?_)
      clear hKQ KQ
      try simp only [Act.put, List.getElem_toArray, List.getElem_cons_zero, List.getElem_cons_succ, List.setIfInBounds_toArray, List.set_cons_zero, List.set_cons_succ]
      refine wpAnyH_ready (rs := [5, 7]) (by kernel_rfl) (by simp) ?_
      refine AllReadyH.cons rfl (fun KQ hKQ => ?_) (AllReadyH.cons rfl (fun KQ hKQ => ?_) AllReadyH.nil)
      focus
       go_simp
       go_at_call 54
       refine (HS4.out nw2 _ _ id ig).mono ?_
       rintro e nw3 ⟨_, rfl, ⟨sj, xj, bj, rfl, hj, vj, tj⟩, gnw3⟩
       have ij : IntV nw3 (.agg #[.slice sj xj.length xj.length, .bool bj]) (F1) := ⟨sj, xj, bj, rfl, hj, vj, tj⟩
       replace Bb := heap_kept gnw3 Bb
       replace Bd := heap_kept gnw3 Bd
       replace Bk := heap_kept gnw3 Bk
       replace Bg := heap_kept gnw3 Bg
       replace Bh := heap_kept gnw3 Bh
       replace ib := ib.kept gnw3
       replace id := id.kept gnw3
       replace ik := ik.kept gnw3
       replace ig := ig.kept gnw3
       replace ih := ih.kept gnw3
       replace ie := ie.kept gnw3
       replace hG := grown_trans hG gnw3
       replace hX := grown_trans hX gnw3
       clear gnw3
       clear hj vj tj
       (try go_wp2_with fail)
       refine hKQ.out _ _ (by exact ⟨(box_cells Bb).1, (box_cells Bb).2.1, (box_cells Bh).1, (box_cells Bh).2.1, (box_cells Bd).1, (box_cells Bd).2.1, (box_cells Bg).1, (box_cells Bg).2.1⟩) (fun hHeld => ?_)
       clear hKQ KQ
       try simp only [Act.put, List.getElem_toArray, List.getElem_cons_zero, List.getElem_cons_succ, List.setIfInBounds_toArray, List.set_cons_zero, List.set_cons_succ]
       refine wpAnyH_ready (rs := [6, 7]) (by kernel_rfl) (by simp) ?_
       refine AllReadyH.cons rfl (fun KQ hKQ => ?_) (AllReadyH.cons rfl (fun KQ hKQ => ?_) AllReadyH.nil)
       focus
        go_simp
        go_at_call 42
        refine (ZMul_any nw3 _ _ D1 F1 K ie ij (by omega) HB3.out HB4.out).mono ?_
        rintro e nw4 ⟨_, rfl, ⟨sm, xm, bm, rfl, hm, vm, tm⟩, gnw4⟩
        have im : IntV nw4 (.agg #[.slice sm xm.length xm.length, .bool bm]) (D1 * F1) := ⟨sm, xm, bm, rfl, hm, vm, tm⟩
        replace Bb := heap_kept gnw4 Bb
        replace Bd := heap_kept gnw4 Bd
        replace Bk := heap_kept gnw4 Bk
        replace Bg := heap_kept gnw4 Bg
        replace Bh := heap_kept gnw4 Bh
        replace ib := ib.kept gnw4
        replace id := id.kept gnw4
        replace ik := ik.kept gnw4
        replace ig := ig.kept gnw4
        replace ih := ih.kept gnw4
        replace ie := ie.kept gnw4
        replace ij := ij.kept gnw4
        replace hG := grown_trans hG gnw4
        replace hX := grown_trans hX gnw4
        clear gnw4
        clear hm vm tm
        (try go_wp2_with fail)
        refine hKQ.out _ _ (by exact ⟨(box_cells Bb).1, (box_cells Bb).2.1, (box_cells Bh).1, (box_cells Bh).2.1, (box_cells Bd).1, (box_cells Bd).2.1, (box_cells Bg).1, (box_cells Bg).2.1⟩) (fun hHeld => ?_)
        clear hKQ KQ
        try simp only [Act.put, List.getElem_toArray, List.getElem_cons_zero, List.getElem_cons_succ, List.setIfInBounds_toArray, List.set_cons_zero, List.set_cons_succ]
        refine wpAnyH_ready (rs := [7]) (by kernel_rfl) (by simp) ?_
        refine AllReadyH.cons rfl (fun KQ hKQ => ?_) AllReadyH.nil
        have gA := World.grownBy_alloc nw4 (.cells #[.slice none 0 0, .bool false] 28) none
        have lohGy : w.heap.size ≤ nw4.heap.size := hG.size
        have lohXy : w0.heap.size ≤ nw4.heap.size := hX.size
        have ltby : w.heap.size + 1 < nw4.heap.size := heap_lt Bb
        have ltdy : w.heap.size + 1 + 1 + 1 < nw4.heap.size := heap_lt Bd
        have ltky : pk < nw4.heap.size := heap_lt Bk
        have ltgy : pg < nw4.heap.size := heap_lt Bg
        have lthy : ph < nw4.heap.size := heap_lt Bh
        have By_ := heap_new nw4 (.cells #[.slice none 0 0, .bool false] 28) nw4.heap.size rfl
        replace Bb := heap_kept gA Bb
        replace Bd := heap_kept gA Bd
        replace Bk := heap_kept gA Bk
        replace Bg := heap_kept gA Bg
        replace Bh := heap_kept gA Bh
        replace ib := ib.kept gA
        replace id := id.kept gA
        replace ik := ik.kept gA
        replace ig := ig.kept gA
        replace ih := ih.kept gA
        replace ie := ie.kept gA
        replace ij := ij.kept gA
        replace im := im.kept gA
        replace hG := grown_trans hG gA
        replace hX := grown_trans hX gA
        clear gA
        go_simp
        generalize (nw4.alloc (.cells #[.slice none 0 0, .bool false] 28)) = nw5 at *
        generalize nw4.heap.size = py at *
        have By := By_
        clear By_
        refine hKQ.out _ _ (by exact ⟨(box_cells Bb).1, (box_cells Bb).2.1, (box_cells Bh).1, (box_cells Bh).2.1, (box_cells Bd).1, (box_cells Bd).2.1, (box_cells Bg).1, (box_cells Bg).2.1⟩) (fun hHeld => ?_)
        clear hKQ KQ
        try simp only [Act.put, List.getElem_toArray, List.getElem_cons_zero, List.getElem_cons_succ, List.setIfInBounds_toArray, List.set_cons_zero, List.set_cons_succ]
       rotate_left 1
       focus
        have gA := World.grownBy_alloc nw3 (.cells #[.slice none 0 0, .bool false] 28) none
        have lohGy : w.heap.size ≤ nw3.heap.size := hG.size
        have lohXy : w0.heap.size ≤ nw3.heap.size := hX.size
        have ltby : w.heap.size + 1 < nw3.heap.size := heap_lt Bb
        have ltdy : w.heap.size + 1 + 1 + 1 < nw3.heap.size := heap_lt Bd
        have ltky : pk < nw3.heap.size := heap_lt Bk
        have ltgy : pg < nw3.heap.size := heap_lt Bg
        have lthy : ph < nw3.heap.size := heap_lt Bh
        have By_ := heap_new nw3 (.cells #[.slice none 0 0, .bool false] 28) nw3.heap.size rfl
        replace Bb := heap_kept gA Bb
        replace Bd := heap_kept gA Bd
        replace Bk := heap_kept gA Bk
        replace Bg := heap_kept gA Bg
        replace Bh := heap_kept gA Bh
        replace ib := ib.kept gA
        replace id := id.kept gA
        replace ik := ik.kept gA
        replace ig := ig.kept gA
        replace ih := ih.kept gA
        replace ie := ie.kept gA
        replace ij := ij.kept gA
        replace hG := grown_trans hG gA
        replace hX := grown_trans hX gA
        clear gA
        go_simp
        generalize (nw3.alloc (.cells #[.slice none 0 0, .bool false] 28)) = nw4 at *
        generalize nw3.heap.size = py at *
        have By := By_
        clear By_
        refine hKQ.out _ _ (by exact ⟨(box_cells Bb).1, (box_cells Bb).2.1, (box_cells Bh).1, (box_cells Bh).2.1, (box_cells Bd).1, (box_cells Bd).2.1, (box_cells Bg).1, (box_cells Bg).2.1⟩) (fun hHeld => ?_)
        clear hKQ KQ
        try simp only [Act.put, List.getElem_toArray, List.getElem_cons_zero, List.getElem_cons_succ, List.setIfInBounds_toArray, List.set_cons_zero, List.set_cons_succ]
        refine wpAnyH_ready (rs := [6]) (by kernel_rfl) (by simp) ?_
        refine AllReadyH.cons rfl (fun KQ hKQ => ?_) AllReadyH.nil
        go_simp
        go_at_call 42
        refine (ZMul_any nw4 _ _ D1 F1 K ie ij (by omega) HB3.out HB4.out).mono ?_
        rintro e nw5 ⟨_, rfl, ⟨sm, xm, bm, rfl, hm, vm, tm⟩, gnw5⟩
        have im : IntV nw5 (.agg #[.slice sm xm.length xm.length, .bool bm]) (D1 * F1) := ⟨sm, xm, bm, rfl, hm, vm, tm⟩
        replace Bb := heap_kept gnw5 Bb
        replace Bd := heap_kept gnw5 Bd
        replace Bk := heap_kept gnw5 Bk
        replace Bg := heap_kept gnw5 Bg
        replace Bh := heap_kept gnw5 Bh
        replace By := heap_kept gnw5 By
        replace ib := ib.kept gnw5
        replace id := id.kept gnw5
        replace ik := ik.kept gnw5
        replace ig := ig.kept gnw5
        replace ih := ih.kept gnw5
        replace ie := ie.kept gnw5
        replace ij := ij.kept gnw5
        replace hG := grown_trans hG gnw5
        replace hX := grown_trans hX gnw5
        clear gnw5
        clear hm vm tm
        (try go_wp2_with fail)
        refine hKQ.out _ _ (by exact ⟨(box_cells Bb).1, (box_cells Bb).2.1, (box_cells Bh).1, (box_cells Bh).2.1, (box_cells Bd).1, (box_cells Bd).2.1, (box_cells Bg).1, (box_cells Bg).2.1⟩) (fun hHeld => ?_)
        clear hKQ KQ
        try simp only [Act.put, List.getElem_toArray, List.getElem_cons_zero, List.getElem_cons_succ, List.setIfInBounds_toArray, List.set_cons_zero, List.set_cons_succ]
       rotate_left 1
      rotate_left 2
      focus
       have gA := World.grownBy_alloc nw2 (.cells #[.slice none 0 0, .bool false] 28) none
       have lohGy : w.heap.size ≤ nw2.heap.size := hG.size
       have lohXy : w0.heap.size ≤ nw2.heap.size := hX.size
       have ltby : w.heap.size + 1 < nw2.heap.size := heap_lt Bb
       have ltdy : w.heap.size + 1 + 1 + 1 < nw2.heap.size := heap_lt Bd
       have ltky : pk < nw2.heap.size := heap_lt Bk
       have ltgy : pg < nw2.heap.size := heap_lt Bg
       have lthy : ph < nw2.heap.size := heap_lt Bh
       have By_ := heap_new nw2 (.cells #[.slice none 0 0, .bool false] 28) nw2.heap.size rfl
       replace Bb := heap_kept gA Bb
       replace Bd := heap_kept gA Bd
       replace Bk := heap_kept gA Bk
       replace Bg := heap_kept gA Bg
       replace Bh := heap_kept gA Bh
       replace ib := ib.kept gA
       replace id := id.kept gA
       replace ik := ik.kept gA
       replace ig := ig.kept gA
       replace ih := ih.kept gA
       replace ie := ie.kept gA
       replace hG := grown_trans hG gA
       replace hX := grown_trans hX gA
       clear gA
       go_simp
       generalize (nw2.alloc (.cells #[.slice none 0 0, .bool false] 28)) = nw3 at *
       generalize nw2.heap.size = py at *
       have By := By_
       clear By_
       refine hKQ.out _ _ (by exact ⟨(box_cells Bb).1, (box_cells Bb).2.1, (box_cells Bh).1, (box_cells Bh).2.1, (box_cells Bd).1, (box_cells Bd).2.1, (box_cells Bg).1, (box_cells Bg).2.1⟩) (fun hHeld => ?_)
       clear hKQ KQ
       try simp only [Act.put, List.getElem_toArray, List.getElem_cons_zero, List.getElem_cons_succ, List.setIfInBounds_toArray, List.set_cons_zero, List.set_cons_succ]
       refine wpAnyH_ready (rs := [5]) (by kernel_rfl) (by simp) ?_
       refine AllReadyH.cons rfl (fun KQ hKQ => ?_) AllReadyH.nil
       go_simp
       go_at_call 54
       refine (HS4.out nw3 _ _ id ig).mono ?_
       rintro e nw4 ⟨_, rfl, ⟨sj, xj, bj, rfl, hj, vj, tj⟩, gnw4⟩
       have ij : IntV nw4 (.agg #[.slice sj xj.length xj.length, .bool bj]) (F1) := ⟨sj, xj, bj, rfl, hj, vj, tj⟩
       replace Bb := heap_kept gnw4 Bb
       replace Bd := heap_kept gnw4 Bd
       replace Bk := heap_kept gnw4 Bk
       replace Bg := heap_kept gnw4 Bg
       replace Bh := heap_kept gnw4 Bh
       replace By := heap_kept gnw4 By
       replace ib := ib.kept gnw4
       replace id := id.kept gnw4
       replace ik := ik.kept gnw4
       replace ig := ig.kept gnw4
       replace ih := ih.kept gnw4
       replace ie := ie.kept gnw4
       replace hG := grown_trans hG gnw4
       replace hX := grown_trans hX gnw4
       clear gnw4
       clear hj vj tj
       (try go_wp2_with fail)
       refine hKQ.out _ _ (by exact ⟨(box_cells Bb).1, (box_cells Bb).2.1, (box_cells Bh).1, (box_cells Bh).2.1, (box_cells Bd).1, (box_cells Bd).2.1, (box_cells Bg).1, (box_cells Bg).2.1⟩) (fun hHeld => ?_)
       clear hKQ KQ
       try simp only [Act.put, List.getElem_toArray, List.getElem_cons_zero, List.getElem_cons_succ, List.setIfInBounds_toArray, List.set_cons_zero, List.set_cons_succ]
       refine wpAnyH_ready (rs := [6]) (by kernel_rfl) (by simp) ?_
       refine AllReadyH.cons rfl (fun KQ hKQ => ?_) AllReadyH.nil
       go_simp
       go_at_call 42
       refine (ZMul_any nw4 _ _ D1 F1 K ie ij (by omega) HB3.out HB4.out).mono ?_
       rintro e nw5 ⟨_, rfl, ⟨sm, xm, bm, rfl, hm, vm, tm⟩, gnw5⟩
       have im : IntV nw5 (.agg #[.slice sm xm.length xm.length, .bool bm]) (D1 * F1) := ⟨sm, xm, bm, rfl, hm, vm, tm⟩
       replace Bb := heap_kept gnw5 Bb
       replace Bd := heap_kept gnw5 Bd
       replace Bk := heap_kept gnw5 Bk
       replace Bg := heap_kept gnw5 Bg
       replace Bh := heap_kept gnw5 Bh
       replace By := heap_kept gnw5 By
       replace ib := ib.kept gnw5
       replace id := id.kept gnw5
       replace ik := ik.kept gnw5
       replace ig := ig.kept gnw5
       replace ih := ih.kept gnw5
       replace ie := ie.kept gnw5
       replace ij := ij.kept gnw5
       replace hG := grown_trans hG gnw5
       replace hX := grown_trans hX gnw5
       clear gnw5
       clear hm vm tm
       (try go_wp2_with fail)
       refine hKQ.out _ _ (by exact ⟨(box_cells Bb).1, (box_cells Bb).2.1, (box_cells Bh).1, (box_cells Bh).2.1, (box_cells Bd).1, (box_cells Bd).2.1, (box_cells Bg).1, (box_cells Bg).2.1⟩) (fun hHeld => ?_)
       clear hKQ KQ
       try simp only [Act.put, List.getElem_toArray, List.getElem_cons_zero, List.getElem_cons_succ, List.setIfInBounds_toArray, List.set_cons_zero, List.set_cons_succ]
      rotate_left 1
     rotate_left 3
     focus
      have gA := World.grownBy_alloc nw1 (.cells #[.slice none 0 0, .bool false] 28) none
      have lohGy : w.heap.size ≤ nw1.heap.size := hG.size
      have lohXy : w0.heap.size ≤ nw1.heap.size := hX.size
      have ltby : w.heap.size + 1 < nw1.heap.size := heap_lt Bb
      have ltdy : w.heap.size + 1 + 1 + 1 < nw1.heap.size := heap_lt Bd
      have ltky : pk < nw1.heap.size := heap_lt Bk
      have ltgy : pg < nw1.heap.size := heap_lt Bg
      have lthy : ph < nw1.heap.size := heap_lt Bh
      have By_ := heap_new nw1 (.cells #[.slice none 0 0, .bool false] 28) nw1.heap.size rfl
      replace Bb := heap_kept gA Bb
      replace Bd := heap_kept gA Bd
      replace Bk := heap_kept gA Bk
      replace Bg := heap_kept gA Bg
      replace Bh := heap_kept gA Bh
      replace ib := ib.kept gA
      replace id := id.kept gA
      replace ik := ik.kept gA
      replace ig := ig.kept gA
      replace ih := ih.kept gA
      replace hG := grown_trans hG gA
      replace hX := grown_trans hX gA
      clear gA
      go_simp
      generalize (nw1.alloc (.cells #[.slice none 0 0, .bool false] 28)) = nw2 at *
      generalize nw1.heap.size = py at *
      have By := By_
      clear By_
      refine hKQ.out _ _ (by exact ⟨(box_cells Bb).1, (box_cells Bb).2.1, (box_cells Bh).1, (box_cells Bh).2.1, (box_cells Bd).1, (box_cells Bd).2.1, (box_cells Bg).1, (box_cells Bg).2.1⟩) (fun hHeld => ?_)
      clear hKQ KQ
      try simp only [Act.put, List.getElem_toArray, List.getElem_cons_zero, List.getElem_cons_succ, List.setIfInBounds_toArray, List.set_cons_zero, List.set_cons_succ]
      refine wpAnyH_ready (rs := [2]) (by kernel_rfl) (by simp) ?_
      refine AllReadyH.cons rfl (fun KQ hKQ => ?_) AllReadyH.nil
      go_simp
      go_at_call 54
      refine (HS3.out nw2 _ _ ib ih).mono ?_
      rintro e nw3 ⟨_, rfl, ⟨se, xe, be, rfl, he, ve, te⟩, gnw3⟩
      have ie : IntV nw3 (.agg #[.slice se xe.length xe.length, .bool be]) (D1) := ⟨se, xe, be, rfl, he, ve, te⟩
      replace Bb := heap_kept gnw3 Bb
      replace Bd := heap_kept gnw3 Bd
      replace Bk := heap_kept gnw3 Bk
      replace Bg := heap_kept gnw3 Bg
      replace Bh := heap_kept gnw3 Bh
      replace By := heap_kept gnw3 By
      replace ib := ib.kept gnw3
      replace id := id.kept gnw3
      replace ik := ik.kept gnw3
      replace ig := ig.kept gnw3
      replace ih := ih.kept gnw3
      replace hG := grown_trans hG gnw3
      replace hX := grown_trans hX gnw3
      clear gnw3
      clear he ve te
      (try go_wp2_with fail)
      refine hKQ.out _ _ (by exact ⟨(box_cells Bb).1, (box_cells Bb).2.1, (box_cells Bh).1, (box_cells Bh).2.1, (box_cells Bd).1, (box_cells Bd).2.1, (box_cells Bg).1, (box_cells Bg).2.1⟩) (fun hHeld => ?_)
      clear hKQ KQ
      try simp only [Act.put, List.getElem_toArray, List.getElem_cons_zero, List.getElem_cons_succ, List.setIfInBounds_toArray, List.set_cons_zero, List.set_cons_succ]
      refine wpAnyH_ready (rs := [5]) (by kernel_rfl) (by simp) ?_
      refine AllReadyH.cons rfl (fun KQ hKQ => ?_) AllReadyH.nil
      go_simp
      go_at_call 54
      refine (HS4.out nw3 _ _ id ig).mono ?_
      rintro e nw4 ⟨_, rfl, ⟨sj, xj, bj, rfl, hj, vj, tj⟩, gnw4⟩
      have ij : IntV nw4 (.agg #[.slice sj xj.length xj.length, .bool bj]) (F1) := ⟨sj, xj, bj, rfl, hj, vj, tj⟩
      replace Bb := heap_kept gnw4 Bb
      replace Bd := heap_kept gnw4 Bd
      replace Bk := heap_kept gnw4 Bk
      replace Bg := heap_kept gnw4 Bg
      replace Bh := heap_kept gnw4 Bh
      replace By := heap_kept gnw4 By
      replace ib := ib.kept gnw4
      replace id := id.kept gnw4
      replace ik := ik.kept gnw4
      replace ig := ig.kept gnw4
      replace ih := ih.kept gnw4
      replace ie := ie.kept gnw4
      replace hG := grown_trans hG gnw4
      replace hX := grown_trans hX gnw4
      clear gnw4
      clear hj vj tj
      (try go_wp2_with fail)
      refine hKQ.out _ _ (by exact ⟨(box_cells Bb).1, (box_cells Bb).2.1, (box_cells Bh).1, (box_cells Bh).2.1, (box_cells Bd).1, (box_cells Bd).2.1, (box_cells Bg).1, (box_cells Bg).2.1⟩) (fun hHeld => ?_)
      clear hKQ KQ
      try simp only [Act.put, List.getElem_toArray, List.getElem_cons_zero, List.getElem_cons_succ, List.setIfInBounds_toArray, List.set_cons_zero, List.set_cons_succ]
      refine wpAnyH_ready (rs := [6]) (by kernel_rfl) (by simp) ?_
      refine AllReadyH.cons rfl (fun KQ hKQ => ?_) AllReadyH.nil
      go_simp
      go_at_call 42
      refine (ZMul_any nw4 _ _ D1 F1 K ie ij (by omega) HB3.out HB4.out).mono ?_
      rintro e nw5 ⟨_, rfl, ⟨sm, xm, bm, rfl, hm, vm, tm⟩, gnw5⟩
      have im : IntV nw5 (.agg #[.slice sm xm.length xm.length, .bool bm]) (D1 * F1) := ⟨sm, xm, bm, rfl, hm, vm, tm⟩
      replace Bb := heap_kept gnw5 Bb
      replace Bd := heap_kept gnw5 Bd
      replace Bk := heap_kept gnw5 Bk
      replace Bg := heap_kept gnw5 Bg
      replace Bh := heap_kept gnw5 Bh
      replace By := heap_kept gnw5 By
      replace ib := ib.kept gnw5
      replace id := id.kept gnw5
      replace ik := ik.kept gnw5
      replace ig := ig.kept gnw5
      replace ih := ih.kept gnw5
      replace ie := ie.kept gnw5
      replace ij := ij.kept gnw5
      replace hG := grown_trans hG gnw5
      replace hX := grown_trans hX gnw5
      clear gnw5
      clear hm vm tm
      (try go_wp2_with fail)
      refine hKQ.out _ _ (by exact ⟨(box_cells Bb).1, (box_cells Bb).2.1, (box_cells Bh).1, (box_cells Bh).2.1, (box_cells Bd).1, (box_cells Bd).2.1, (box_cells Bg).1, (box_cells Bg).2.1⟩) (fun hHeld => ?_)
      clear hKQ KQ
      try simp only [Act.put, List.getElem_toArray, List.getElem_cons_zero, List.getElem_cons_succ, List.setIfInBounds_toArray, List.set_cons_zero, List.set_cons_succ]
     rotate_left 1
     all_goals (
      refine wpAnyH_ready (rs := [8]) (by kernel_rfl) (by simp) ?_
      refine AllReadyH.cons rfl (fun KQ hKQ => ?_) AllReadyH.nil
      obtain ⟨c0', c1', c2', c3'⟩ := box_cells By
      go_simp
      clear c0' c1' c2' c3'
      replace ib := ib.set2 By (.slice sm xm.length xm.length) (.bool bm)
      replace id := id.set2 By (.slice sm xm.length xm.length) (.bool bm)
      replace ik := ik.set2 By (.slice sm xm.length xm.length) (.bool bm)
      replace ig := ig.set2 By (.slice sm xm.length xm.length) (.bool bm)
      replace ih := ih.set2 By (.slice sm xm.length xm.length) (.bool bm)
      replace ie := ie.set2 By (.slice sm xm.length xm.length) (.bool bm)
      replace ij := ij.set2 By (.slice sm xm.length xm.length) (.bool bm)
      replace im := im.set2 By (.slice sm xm.length xm.length) (.bool bm)
      replace hG := grown_set2 (g := py) hG (by omega) (.slice sm xm.length xm.length) (.bool bm)
      replace hX := grown_set2 (g := py) hX (by omega) (.slice sm xm.length xm.length) (.bool bm)
      replace Bb := heap_unset2 Bb (show w.heap.size + 1 ≠ py by omega) (.slice sm xm.length xm.length) (.bool bm)
      replace Bd := heap_unset2 Bd (show w.heap.size + 1 + 1 + 1 ≠ py by omega) (.slice sm xm.length xm.length) (.bool bm)
      replace Bk := heap_unset2 Bk (show pk ≠ py by omega) (.slice sm xm.length xm.length) (.bool bm)
      replace Bg := heap_unset2 Bg (show pg ≠ py by omega) (.slice sm xm.length xm.length) (.bool bm)
      replace Bh := heap_unset2 Bh (show ph ≠ py by omega) (.slice sm xm.length xm.length) (.bool bm)
      replace By := heap_set2 By (.slice sm xm.length xm.length) (.bool bm)
      generalize ((nw5.setCell ⟨py, 0, none⟩ (.slice sm xm.length xm.length)).setCell ⟨py, 1, none⟩ (.bool bm)) = nw6 at *
      refine hKQ.out _ _ (by exact ⟨(box_cells Bb).1, (box_cells Bb).2.1, (box_cells Bh).1, (box_cells Bh).2.1, (box_cells Bd).1, (box_cells Bd).2.1, (box_cells Bg).1, (box_cells Bg).2.1⟩) (fun hHeld => ?_)
      clear hKQ KQ
      try simp only [Act.put, List.getElem_toArray, List.getElem_cons_zero, List.getElem_cons_succ, List.setIfInBounds_toArray, List.set_cons_zero, List.set_cons_succ]
      refine wpAnyH_done (by kernel_rfl) ?_ _
      go_wp2_with fail
      go_meet
      exact ⟨py, rfl, ⟨_, _, _, By, im⟩, ⟨_, _, _, Bk, ik⟩, by omega, hX⟩)
    case rest =>
     clear hG hX ia ib ic id ik ig ih Ba Bb Bc Bd Bq Bk Bg Bh
     obtain ⟨pl, rfl, Kl, Kk, ll, hX⟩ := hcut
     have hG := grown_trans HG9.out hX
     have Ba := heap_kept hX Ha9.out
     have Bb := heap_kept hX Hb9.out
     have Bc := heap_kept hX Hc9.out
     have Bd := heap_kept hX Hd9.out
     have Bq := heap_kept hX Hq9.out
     have ia := Ia9.out.kept hX
     have ib := Ib9.out.kept hX
     have ic := Ic9.out.kept hX
     have id := Id9.out.kept hX
     obtain ⟨sl, xl, bl, Bl, il⟩ := Kl.open
     obtain ⟨sk, xk, bk, Bk, ik⟩ := Kk.open
     obtain ⟨Ca0, Ca1, Fa0, Fa1⟩ := box_cells Ba
     obtain ⟨Cb0, Cb1, Fb0, Fb1⟩ := box_cells Bb
     obtain ⟨Cc0, Cc1, Fc0, Fc1⟩ := box_cells Bc
     obtain ⟨Cd0, Cd1, Fd0, Fd1⟩ := box_cells Bd
     obtain ⟨Cq0, Cq1, Cq2, Cq3, Fq0, Fq1, Fq2, Fq3⟩ := box_cells4 Bq
     obtain ⟨Cl0, Cl1, Fl0, Fl1⟩ := box_cells Bl
     obtain ⟨Ck0, Ck1, Fk0, Fk1⟩ := box_cells Bk
     go_wp2_with fail
     clear Ca0 Fa0 Ca1 Fa1 Cb0 Fb0 Cb1 Fb1 Cc0 Fc0 Cc1 Fc1 Cd0 Fd0 Cd1 Fd1 Cq0 Fq0 Cq1 Fq1 Cq2 Fq2 Cq3 Fq3 Cl0 Fl0 Cl1 Fl1 Ck0 Fk0 Ck1 Fk1
     refine (FOver_any wc _ _ R (K + K) (by rw [HRN.out.1]; exact ik) (by rw [HRN.out.2.1]; exact il) (by omega) HRN.out.2.2).mono ?_
     rintro e w1 ⟨_, rfl, ⟨sz, xz, bz, sz', xz', bz', rfl, hz, hz'⟩, gw1⟩
     have qz : RatV w1 (.agg #[.slice sz xz.length xz.length, .bool bz, .slice sz' xz'.length xz'.length, .bool bz']) (R) := ⟨sz, xz, bz, sz', xz', bz', rfl, hz, hz'⟩
     replace Ba := heap_kept gw1 Ba
     replace Bb := heap_kept gw1 Bb
     replace Bc := heap_kept gw1 Bc
     replace Bd := heap_kept gw1 Bd
     replace Bq := heap_kept gw1 Bq
     replace Bl := heap_kept gw1 Bl
     replace Bk := heap_kept gw1 Bk
     replace ia := ia.kept gw1
     replace ib := ib.kept gw1
     replace ic := ic.kept gw1
     replace id := id.kept gw1
     replace il := il.kept gw1
     replace ik := ik.kept gw1
     replace hG := grown_trans hG gw1
     replace hX := grown_trans hX gw1
     clear gw1
     clear hz hz'
     obtain ⟨Ca0, Ca1, Fa0, Fa1⟩ := box_cells Ba
     obtain ⟨Cb0, Cb1, Fb0, Fb1⟩ := box_cells Bb
     obtain ⟨Cc0, Cc1, Fc0, Fc1⟩ := box_cells Bc
     obtain ⟨Cd0, Cd1, Fd0, Fd1⟩ := box_cells Bd
     obtain ⟨Cq0, Cq1, Cq2, Cq3, Fq0, Fq1, Fq2, Fq3⟩ := box_cells4 Bq
     obtain ⟨Cl0, Cl1, Fl0, Fl1⟩ := box_cells Bl
     obtain ⟨Ck0, Ck1, Fk0, Fk1⟩ := box_cells Bk
     clear Ca0 Fa0 Ca1 Fa1 Cb0 Fb0 Cb1 Fb1 Cc0 Fc0 Cc1 Fc1 Cd0 Fd0 Cd1 Fd1 Cq0 Fq0 Cq1 Fq1 Cq2 Fq2 Cq3 Fq3 Cl0 Fl0 Cl1 Fl1 Ck0 Fk0 Ck1 Fk1
     obtain ⟨k90, k91, k92, k93, k94, k95, k96, k97⟩ := box_cells4 Bq
     obtain ⟨q90, q91, q92, q93, q94, q95, q96, q97⟩ := box_cells4 (heap_set4 Bq (.slice sz xz.length xz.length) (.bool bz) (.slice sz' xz'.length xz'.length) (.bool bz'))
     have hF : Hid (RetRat w (R) (.returned (.agg #[.slice sz xz.length xz.length, .bool bz, .slice sz' xz'.length xz'.length, .bool bz'])) ((((w1.setCell ⟨w.heap.size + 1 + 1 + 1 + 1, 0, none⟩ (.slice sz xz.length xz.length)).setCell ⟨w.heap.size + 1 + 1 + 1 + 1, 1, none⟩ (.bool bz)).setCell ⟨w.heap.size + 1 + 1 + 1 + 1, 2, none⟩ (.slice sz' xz'.length xz'.length)).setCell ⟨w.heap.size + 1 + 1 + 1 + 1, 3, none⟩ (.bool bz'))) := ret_ratv hG Bq (by omega) qz
     clear ia ib ic id il ik qz
     go_wp2_with fail
     exact bodyPost_ret (v := .agg #[.slice sz xz.length xz.length, .bool bz, .slice sz' xz'.length xz'.length, .bool bz']) (by simp [results, Tryd.results46, go_sem, q90, q91, q92, q93]) rfl hF.out
end Go.Proofs.YtldkddogadmpbaaDoor
