/- Streams as trees: the document's Same of a tree that reads twice. -/
import Derived.Test.YtcioefmldcmhgaaGA1
import Derived.Deep.CutBlock
namespace Go.Proofs.Ytcioefmldcmhgaa
open Go.RowKit
set_option maxRecDepth 100000
set_option linter.unusedVariables false
set_option linter.unusedSimpArgs false

theorem two_new (w : World) (c1 c2 : Array Value) (e1 e2 : TypeId) : w.grownBy ((w.alloc (.cells c1 e1)).alloc (.cells c2 e2)).drew none ∧ ((w.alloc (.cells c1 e1)).alloc (.cells c2 e2)).drew.heap[w.heap.size]? = some (.cells c1 e1 (0, 0)) ∧ ((w.alloc (.cells c1 e1)).alloc (.cells c2 e2)).drew.heap[w.heap.size + 1]? = some (.cells c2 e2 (0, 0)) :=
  ⟨grown_drew (grown_trans (World.grownBy_alloc w (.cells c1 e1) none) (World.grownBy_alloc (w.alloc (.cells c1 e1)) (.cells c2 e2) none)),
    heap_kept (grown_drew (World.grownBy_alloc (w.alloc (.cells c1 e1)) (.cells c2 e2) none)) (heap_new w (.cells c1 e1) w.heap.size rfl),
    heap_new (w.alloc (.cells c1 e1)) (.cells c2 e2) (w.heap.size + 1) (by simp)⟩
set_option maxHeartbeats 32000000 in
theorem SameT_any (w : World) (v v' : Value) (t : KLib) (hv : LibV w v t) (hv' : LibV w v' t) :
    Calls Try.prog 13 #[v, v'] w (RetYes w) := by
  obtain ⟨a, b, rfl, ⟨sa, ca, rfl, ha, hoka, _⟩, sc, cc, rfl, hp, hokc⟩ := hv
  obtain ⟨a', b', rfl, ⟨sa', ca', rfl, ha', hoka', _⟩, sc', cc', rfl, hp', hokc'⟩ := hv'
  obtain ⟨N1, hN1⟩ : ∃ N, t.1.length = N := ⟨_, rfl⟩
  obtain ⟨N, hN⟩ : ∃ N, t.2.length = N := ⟨_, rfl⟩
  rw [hN1] at hoka hoka' ⊢
  rw [hN] at hokc hokc' ⊢
  have hNm : N ≤ 9223372036854775807 := Nat.le_trans hokc.2.1 hokc.2.2
  have hN1m : N1 ≤ 9223372036854775807 := Nat.le_trans hoka.2.1 hoka.2.2
  have g1 := World.grownBy_alloc w (.cells #[.slice sa N1 ca, .slice sc N cc] 27) none
  have Bt := heap_new w (.cells #[.slice sa N1 ca, .slice sc N cc] 27) w.heap.size rfl
  have g2 := World.grownBy_alloc (w.alloc (.cells #[.slice sa N1 ca, .slice sc N cc] 27)) (.cells #[.slice sa' N1 ca', .slice sc' N cc'] 27) none
  have Bu := heap_new (w.alloc (.cells #[.slice sa N1 ca, .slice sc N cc] 27)) (.cells #[.slice sa' N1 ca', .slice sc' N cc'] 27) (w.heap.size + 1) (by simp)
  replace Bt := heap_kept g2 Bt
  have hG := grown_trans g1 g2
  have HA := Lib.hid ha
  have HA' := Lib.hid ha'
  have HP := Lib.hid hp
  have HP' := Lib.hid hp'
  have HN := Lib.hid hN
  have HN1 := Lib.hid hN1
  have HBT := Lib.hid Bt
  have HBU := Lib.hid Bu
  clear ha ha' hp hp' hN hN1 hoka hoka' hokc hokc' g1 g2
  go_enter Try.func13, Try.ntmps13
  obtain ⟨C0, C1, _, _⟩ := box_cells2 Bt
  obtain ⟨D0, D1, _, _⟩ := box_cells2 Bu
  go_wp2_with fail
  generalize ((w.alloc (.cells #[.slice sa N1 ca, .slice sc N cc] 27)).alloc (.cells #[.slice sa' N1 ca', .slice sc' N cc'] 27)) = wa at *
  have HG := Lib.hid hG
  clear Bt Bu hG
  refine (All_any wa sa sa' N1 ca ca' t.1 HN1.out (HA.out.kept HG.out) (HA'.out.kept HG.out) hN1m).mono ?_
  rintro e w1 ⟨rfl, hg1⟩
  have HW1 := Lib.hid hg1
  clear C0 C1 D0 D1 hg1
  obtain ⟨C0, C1, _, _⟩ := box_cells2 (heap_kept HW1.out HBT.out)
  obtain ⟨D0, D1, _, _⟩ := box_cells2 (heap_kept HW1.out HBU.out)
  have f0 : ((N : Int) == (N : Int)) = true := by simp
  go_wp2_with fail
  go_loopg [5] N (fun gh i wr => ∃ k : Nat, k ≤ N ∧ N - k ≤ gh ∧ i = .int .i64 (k : Int) ∧ Hid (wa.grownBy wr none))
  case atStart => exact ⟨0, Nat.zero_le _, Nat.le_refl _, rfl, HW1⟩
  case round =>
    obtain ⟨k, hk, hgh, rfl, HW⟩ := hrel
    clear C0 C1 D0 D1
    obtain ⟨C0, C1, _, _⟩ := box_cells2 (heap_kept HW.out HBT.out)
    obtain ⟨D0, D1, _, _⟩ := box_cells2 (heap_kept HW.out HBU.out)
    by_cases hlt : k < N
    · have f1 : decide ((k : Int) < (N : Int)) = true := decide_eq_true (by omega)
      have hkl : k < t.2.length := by have := HN.out; omega
      obtain ⟨ad, q, u, x, hsc, hq, A0, A1, hu, hx⟩ := HP.out.at k hkl
      obtain ⟨ad', q', u', x', hsc', hq', A0', A1', hu', hx'⟩ := HP'.out.at k hkl
      obtain ⟨c, hc⟩ : ∃ c, t.2[k] = c := ⟨_, rfl⟩
      rw [hc] at hu hx hu' hx'
      obtain ⟨su, cu, rfl, hru, hoku, _⟩ := hu
      obtain ⟨su', cu', rfl, hru', hoku', _⟩ := hu'
      obtain ⟨sv, cv, rfl, hpi, hoki⟩ := ItemsV.open hx
      obtain ⟨sv', cv', rfl, hpi', hoki'⟩ := ItemsV.open hx'
      obtain ⟨R, hR⟩ : ∃ R, c.1.length = R := ⟨_, rfl⟩
      obtain ⟨M, hM⟩ : ∃ M, c.2.length = M := ⟨_, rfl⟩
      rw [hM] at hoki A1 hoki' A1'
      rw [hR] at A0 hoku A0' hoku'
      have hMm : M ≤ 9223372036854775807 := Nat.le_trans hoki.2.1 hoki.2.2
      have hRm : R ≤ 9223372036854775807 := Nat.le_trans hoku.2.1 hoku.2.2
      have HRU := Lib.hid hru
      have HRU' := Lib.hid hru'
      have HI := Lib.hid hpi
      have HI' := Lib.hid hpi'
      have HM := Lib.hid hM
      have HR := Lib.hid hR
      have HGA := Lib.hid (grown_trans HG.out HW.out)
      replace A0 := HGA.out.cell A0 (by simp)
      replace A1 := HGA.out.cell A1 (by simp)
      replace A0' := HGA.out.cell A0' (by simp)
      replace A1' := HGA.out.cell A1' (by simp)
      have i0 : (0 : Int) ≤ (k : Int) ∧ (k : Int) < (N : Int) := by omega
      subst hsc hsc'
      clear hc hru hru' hoku hoku' hpi hpi' hoki hoki' hR hM hkl hx hx'
      go_upto_region 6 with fail
      go_cut [6, 7] from 31 to 41 (fun y z wx => ∃ g h : Nat, y = .pointer (some ⟨g, 0, none⟩) ∧ z = .pointer (some ⟨h, 0, none⟩) ∧ Hid (wr.grownBy wx none) ∧ Hid (wx.heap[g]? = some (.cells #[.slice su R cu, .slice sv M cv] 50 (0, 0))) ∧ Hid (wx.heap[h]? = some (.cells #[.slice su' R cu', .slice sv' M cv'] 50 (0, 0))))
      case first =>
        have gz1 := World.grownBy_alloc wr (.cells #[.slice none 0 0, .slice none 0 0] 50) none
        have gz2 := grown_trans gz1 (World.grownBy_alloc (wr.alloc (.cells #[.slice none 0 0, .slice none 0 0] 50)) (.cells #[.slice none 0 0, .slice none 0 0] 50) none)
        have C1b := gz1.cell C1 (by simp)
        have D1b := gz1.cell D1 (by simp)
        have A0b := gz1.cell A0 (by simp)
        have A1b := gz1.cell A1 (by simp)
        have A0pb := gz1.cell A0' (by simp)
        have A1pb := gz1.cell A1' (by simp)
        have C1c := gz2.cell C1 (by simp)
        have D1c := gz2.cell D1 (by simp)
        have A0c := gz2.cell A0 (by simp)
        have A1c := gz2.cell A1 (by simp)
        have A0pc := gz2.cell A0' (by simp)
        have A1pc := gz2.cell A1' (by simp)
        have gz3 := grown_trans gz1 (World.grownBy_alloc (wr.alloc (.cells #[.slice none 0 0, .slice none 0 0] 50)) (.cells #[.slice su R cu, .slice sv M cv] 50) none)
        have gz4 := grown_trans (World.grownBy_alloc wr (.cells #[.slice su R cu, .slice sv M cv] 50) none) (World.grownBy_alloc (wr.alloc (.cells #[.slice su R cu, .slice sv M cv] 50)) (.cells #[.slice none 0 0, .slice none 0 0] 50) none)
        have D1d := gz3.cell D1 (by simp)
        have A0pd := gz3.cell A0' (by simp)
        have A1pd := gz3.cell A1' (by simp)
        have D1e := gz4.cell D1 (by simp)
        have A0pe := gz4.cell A0' (by simp)
        have A1pe := gz4.cell A1' (by simp)
        clear gz1 gz2 gz3 gz4
        go_region
        all_goals go_wp2_with fail
        all_goals first | go_meet | skip
        all_goals first
          | exact ⟨_, _, rfl, rfl, Lib.hid (two_new wr _ _ _ _).1, Lib.hid (two_new wr _ _ _ _).2.1, Lib.hid (two_new wr _ _ _ _).2.2⟩
          | exact ⟨_, _, rfl, rfl, Lib.hid (two_new wr _ _ _ _).1, Lib.hid (two_new wr _ _ _ _).2.2, Lib.hid (two_new wr _ _ _ _).2.1⟩
      case rest =>
        obtain ⟨g, h, rfl, rfl, HX, HBG, HBH⟩ := hcut
        have HWX := Lib.hid (grown_trans HW.out HX.out)
        have HGX := Lib.hid (grown_trans HG.out HWX.out)
        clear C0 C1 D0 D1 A0 A1 A0' A1' HX
        obtain ⟨E0, E1, _, _⟩ := box_cells2 HBG.out
        obtain ⟨F0, F1, _, _⟩ := box_cells2 HBH.out
        go_wp2_with fail
        refine (All_any _ su su' R cu cu' c.1 HR.out (HRU.out.kept HGX.out) (HRU'.out.kept HGX.out) hRm).mono ?_
        rintro e w2 ⟨rfl, hg2⟩
        have HX2 := Lib.hid hg2
        clear E0 E1 F0 F1 hg2
        obtain ⟨E0, E1, _, _⟩ := box_cells2 (heap_kept HX2.out HBG.out)
        obtain ⟨F0, F1, _, _⟩ := box_cells2 (heap_kept HX2.out HBH.out)
        have f5 : ((M : Int) == (M : Int)) = true := by simp
        go_wp2_with fail
        go_loopg [8] M (fun gh i wr => ∃ j : Nat, j ≤ M ∧ M - j ≤ gh ∧ i = .int .i64 (j : Int) ∧ Hid (wc.grownBy wr none))
        case atStart => exact ⟨0, Nat.zero_le _, Nat.le_refl _, rfl, HX2⟩
        case round =>
          obtain ⟨j, hj, hgh2, rfl, HV⟩ := hrel
          clear E0 E1 F0 F1
          obtain ⟨E0, E1, _, _⟩ := box_cells2 (heap_kept HV.out HBG.out)
          obtain ⟨F0, F1, _, _⟩ := box_cells2 (heap_kept HV.out HBH.out)
          by_cases hlt2 : j < M
          · have f2 : decide ((j : Int) < (M : Int)) = true := decide_eq_true (by omega)
            have hjl : j < c.2.length := by have := HM.out; omega
            obtain ⟨ad4, q4, u4, v4, hsv, hq4, B0, B1, hu4, hv4⟩ := HI.out.at j hjl
            obtain ⟨ad5, q5, u5, v5, hsv', hq5, B0', B1', hu5, hv5⟩ := HI'.out.at j hjl
            obtain ⟨x, hx⟩ : ∃ x, c.2[j] = x := ⟨_, rfl⟩
            rw [hx] at hu4 hv4 hu5 hv5
            obtain ⟨sf, cf, rfl, hrf, hokf, _⟩ := hu4
            obtain ⟨sp, cp, rfl, hrp, hokp, _⟩ := hv4
            obtain ⟨sf', cf', rfl, hrf', hokf', _⟩ := hu5
            obtain ⟨sp', cp', rfl, hrp', hokp', _⟩ := hv5
            obtain ⟨F, hF⟩ : ∃ F, x.1.length = F := ⟨_, rfl⟩
            obtain ⟨G, hG⟩ : ∃ G, x.2.length = G := ⟨_, rfl⟩
            rw [hF] at B0 hokf B0' hokf'
            rw [hG] at B1 hokp B1' hokp'
            have hFm : F ≤ 9223372036854775807 := Nat.le_trans hokf.2.1 hokf.2.2
            have hGm : G ≤ 9223372036854775807 := Nat.le_trans hokp.2.1 hokp.2.2
            have HGV := Lib.hid (grown_trans HGX.out HV.out)
            have HRF := Lib.hid (hrf.kept HGV.out)
            have HRP := Lib.hid (hrp.kept HGV.out)
            have HRF' := Lib.hid (hrf'.kept HGV.out)
            have HRP' := Lib.hid (hrp'.kept HGV.out)
            have HF := Lib.hid hF
            have HGG := Lib.hid hG
            replace B0 := HGV.out.cell B0 (by simp)
            replace B1 := HGV.out.cell B1 (by simp)
            replace B0' := HGV.out.cell B0' (by simp)
            replace B1' := HGV.out.cell B1' (by simp)
            have i4 : (0 : Int) ≤ (j : Int) ∧ (j : Int) < (M : Int) := by omega
            subst hsv hsv'
            have HS := Lib.hid (And.intro E1 (And.intro F1 (And.intro B0 (And.intro B1 (And.intro B0' B1')))))
            clear hx hrf hokf hrp hokp hrf' hokf' hrp' hokp' hF hG hjl
            go_upto_region 12 with fail
            go_region_held3 (fun w' => w'.cell? ⟨g, 1, none⟩ = some (.slice (some ad4) M cv) ∧ w'.cell? ⟨h, 1, none⟩ = some (.slice (some ad5) M cv') ∧ w'.cell? q4 = some (.slice sf F cf) ∧ w'.cell? ⟨q4.block, q4.off + 1, none⟩ = some (.slice sp G cp) ∧ w'.cell? q5 = some (.slice sf' F cf') ∧ w'.cell? ⟨q5.block, q5.off + 1, none⟩ = some (.slice sp' G cp'))
              (first | assumption | exact ⟨E1, F1, B0, B1, B0', B1'⟩ | go_keep)
              (first
                | (go_at_call 34; (with_reducible refine (All_any _ sf sf' F cf cf' x.1 HF.out (HRF.out.kept (grown_drew (grown_refl _ _))) (HRF'.out.kept (grown_drew (grown_refl _ _))) hFm).mono ?_); rintro e w5 ⟨rfl, hg5⟩; have HY5 := Lib.hid (grown_trans (grown_drew (grown_refl _ _)) hg5); have E1 := HY5.out.cell HS.out.1 (by simp); have F1 := HY5.out.cell HS.out.2.1 (by simp); have B0 := HY5.out.cell HS.out.2.2.1 (by simp); have B1 := HY5.out.cell HS.out.2.2.2.1 (by simp); have B0' := HY5.out.cell HS.out.2.2.2.2.1 (by simp); have B1' := HY5.out.cell HS.out.2.2.2.2.2 (by simp); clear hg5)
                | (go_at_call 34; (with_reducible refine (All_any _ sp sp' G cp cp' x.2 HGG.out (HRP.out.kept HY5.out) (HRP'.out.kept HY5.out) hGm).mono ?_); rintro e w6 ⟨rfl, hg6⟩; have HY6 := Lib.hid (grown_trans HY5.out hg6); have E1 := HY6.out.cell HS.out.1 (by simp); have F1 := HY6.out.cell HS.out.2.1 (by simp); have B0 := HY6.out.cell HS.out.2.2.1 (by simp); have B1 := HY6.out.cell HS.out.2.2.2.1 (by simp); have B0' := HY6.out.cell HS.out.2.2.2.2.1 (by simp); have B1' := HY6.out.cell HS.out.2.2.2.2.2 (by simp); clear hg6))
            go_wp2_with fail
            go_roundg (M - (j + 1))
            case measure => omega
            case rel => exact ⟨j + 1, by omega, Nat.le_refl _, by go_num, Lib.hid (grown_trans HV.out HY6.out)⟩
          · have f2 : decide ((j : Int) < (M : Int)) = false := decide_eq_false (by omega)
            clear hj hgh2
            go_wp2_with fail
            go_roundg (N - (k + 1))
            case measure => omega
            case rel => exact ⟨k + 1, by omega, Nat.le_refl _, by go_num, Lib.hid (grown_trans HWX.out HV.out)⟩
    · have f1 : decide ((k : Int) < (N : Int)) = false := decide_eq_false (by omega)
      clear hk hgh
      have HF := Lib.hid (grown_trans HG.out HW.out)
      go_wp2_with fail
      go_ret
      exact ⟨rfl, HF.out⟩
end Go.Proofs.Ytcioefmldcmhgaa
