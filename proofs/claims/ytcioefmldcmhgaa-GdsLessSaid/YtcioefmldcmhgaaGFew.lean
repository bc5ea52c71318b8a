/- Streams as trees: few. -/
import Derived.Test.YtcioefmldcmhgaaGY
import Derived.WalkLawsBesides
import Derived.Deep.CutBlock
namespace Go.Proofs.Ytcioefmldcmhgaa
open Go.RowKit
set_option maxRecDepth 100000
set_option linter.unusedVariables false
set_option linter.unusedSimpArgs false

/-- How great what came in may be. -/
def SizR (rs : List KRec) : Prop := rs.length ≤ 4398046511104 ∧ ∀ r ∈ rs, r.2.2.length ≤ 140737488351232
def SizI (x : KItem) : Prop := SizR x.1 ∧ SizR x.2
def SizC (c : KCell) : Prop := SizR c.1 ∧ ∀ x ∈ c.2, SizI x
def SizL (t : KLib) : Prop := SizR t.1 ∧ ∀ c ∈ t.2, SizC c
theorem recI_length (x : KItem) : (recI x).length = x.1.length + x.2.length + 1 := by simp [recI]; omega
theorem min_to (a c : Nat) : ∃ m : Nat, (m = a ∨ c ≤ m) ∧ m ≤ c ∧ ∀ W : World, (Builtin.min_ #[3, 3] 3 #[.int .i64 (a : Int), .int .i64 (c : Int)]).run Try.prog W = .ok (.int .i64 (m : Int)) W := by
  refine ⟨min a c, by omega, Nat.min_le_right _ _, fun W => ?_⟩
  rw [Go.run_min_int2]
  by_cases h : (c : Int) < (a : Int)
  · rw [if_pos h, show min a c = c from by omega]
  · rw [if_neg h, show min a c = a from by omega]
theorem min_400 (a : Nat) : ∃ m : Nat, (m = a ∨ 400 ≤ m) ∧ m ≤ 400 ∧ ∀ W : World, (Builtin.min_ #[3, 3] 3 #[.int .i64 (a : Int), .int .i64 400]).run Try.prog W = .ok (.int .i64 (m : Int)) W := min_to a 400
theorem min_big (a : Nat) : ∃ m : Nat, (m = a ∨ 100000 ≤ m) ∧ m ≤ 100000 ∧ ∀ W : World, (Builtin.min_ #[3, 3] 3 #[.int .i64 (a : Int), .int .i64 100000]).run Try.prog W = .ok (.int .i64 (m : Int)) W := min_to a 100000
theorem min_bigH (a : Nat) : ∃ m : Nat, Hid (m = min a 100000) ∧ ∀ W : World, (Builtin.min_ #[3, 3] 3 #[.int .i64 (a : Int), .int .i64 100000]).run Try.prog W = .ok (.int .i64 (m : Int)) W := by
  refine ⟨min a 100000, Lib.hid rfl, fun W => ?_⟩
  show (Builtin.min_ #[3, 3] 3 #[.int .i64 (a : Int), .int .i64 ((100000 : Nat) : Int)]).run Try.prog W = _
  rw [Go.run_min_int2]
  by_cases h : ((100000 : Nat) : Int) < (a : Int)
  · rw [if_pos h, show min a 100000 = 100000 from by omega]
  · rw [if_neg h, show min a 100000 = a from by omega]
/-- What few counts of bodies. -/
def capB (rs : List KRec) : Nat := (rs.map fun r => min r.2.2.length 100000).sum
theorem capB_append (rs ss : List KRec) : capB (rs ++ ss) = capB rs + capB ss := by unfold capB; rw [List.map_append, List.sum_append]
theorem capB_one (r : KRec) : capB [r] = min r.2.2.length 100000 := by simp [capB]
theorem capB_end (k : Nat) : capB [endE k] = 0 := by simp [capB, endE]
theorem capB_take {rs : List KRec} {k kd dt L : Nat} {bd : List Nat} (h : k < rs.length) (hr : rs[k] = (kd, dt, bd)) (hL : bd.length = L) : capB (rs.take (k + 1)) = capB (rs.take k) + min L 100000 := by
  rw [List.take_succ_eq_append_getElem h, capB_append, capB_one, hr, ← hL]
theorem cap_more {p a b : List KRec} {m n : Nat} (h : capB b = capB a + m) (hn : n = m) : capB (p ++ b) = capB (p ++ a) + n := by rw [capB_append, capB_append, h, hn, Nat.add_assoc]
theorem capB_le (rs : List KRec) : capB rs ≤ 100000 * rs.length := by
  induction rs with
  | nil => simp [capB]
  | cons r rs ih =>
    have e : capB (r :: rs) = min r.2.2.length 100000 + capB rs := by simp [capB]
    rw [e, List.length_cons]; omega
theorem step_wrap {z : Int} {a b m : Nat} (h : z = wrap64 (a : Int)) (hb : b = a + m) : wrap64 (z + (m : Int)) = wrap64 (b : Int) := by
  subst h hb
  unfold wrap64; omega
theorem capB_small {rs : List KRec} {z : Int} (h : z = wrap64 ((capB rs : Nat) : Int)) (hn : rs.length ≤ 400) (hz : z < 300000) : capB rs < 300000 := by
  have h1 := capB_le rs
  subst h
  unfold wrap64 at hz
  omega
set_option maxHeartbeats 64000000 in
theorem GFew_any (w : World) (v : Value) (t : KLib) (hv : LibV w v t) (hz : SizL t) :
    Calls Try.prog 14 #[v] w (fun e w' => ∃ b, e = .returned (.bool b) ∧ w.grownBy w' none ∧ (b = true → (recT t).length ≤ 400 ∧ capB (recT t) < 300000)) := by
  obtain ⟨a, b, rfl, ⟨sa, ca, rfl, ha, hoka, _⟩, sc, cc, rfl, hp, hokc⟩ := hv
  obtain ⟨N1, hN1⟩ : ∃ N, t.1.length = N := ⟨_, rfl⟩
  obtain ⟨N, hN⟩ : ∃ N, t.2.length = N := ⟨_, rfl⟩
  rw [hN1] at hoka ⊢
  rw [hN] at hokc ⊢
  have hNm : N ≤ 9223372036854775807 := Nat.le_trans hokc.2.1 hokc.2.2
  have hN1m : N1 ≤ 9223372036854775807 := Nat.le_trans hoka.2.1 hoka.2.2
  have hN1z : N1 ≤ 4398046511104 := by rw [← hN1]; exact hz.1.1
  have hG := World.grownBy_alloc w (.cells #[.slice sa N1 ca, .slice sc N cc] 27) none
  have Bt := heap_new w (.cells #[.slice sa N1 ca, .slice sc N cc] 27) w.heap.size rfl
  have HA := Lib.hid ha
  have HP := Lib.hid hp
  have HN := Lib.hid hN
  have HN1 := Lib.hid hN1
  have HZ := Lib.hid hz
  have HBT := Lib.hid Bt
  clear ha hp hN hN1 hz hoka hokc
  go_enter Try.func14, Try.ntmps14
  obtain ⟨C0, C1, _, _⟩ := box_cells2 Bt
  go_upto_block 0 with fail
  generalize (w.alloc (.cells #[.slice sa N1 ca, .slice sc N cc] 27)) = wa at *
  have HG := Lib.hid hG
  clear Bt hG
  go_upto_block 0 with fail
  go_cut [4, 5] from 15 to 35 (fun y i wr => ∃ z : Int, y = .int .i64 z ∧ Hid (N1 < 400 → z = wrap64 ((capB (([] : List KRec) ++ t.1) : Nat) : Int)) ∧ Hid (wa.grownBy wr none))
  case first =>
    go_wp2_with fail
    go_loopg [4, 5] N1 (fun gh y i wr => ∃ (k9 : Nat) (z : Int), k9 ≤ N1 ∧ N1 - k9 ≤ gh ∧ y = .int .i64 z ∧ i = .int .i64 (k9 : Int) ∧ Hid (N1 < 400 → z = wrap64 ((capB (([] : List KRec) ++ t.1.take k9) : Nat) : Int)) ∧ Hid (wa.grownBy wr none))
    case atStart => exact ⟨0, _, Nat.zero_le _, Nat.le_refl _, rfl, rfl, Lib.hid (fun hh => by simp [capB, wrap64]), Lib.hid (grown_refl _ _)⟩
    case round =>
      obtain ⟨k1, z1, hk1, hgh1, rfl, rfl, HZ1, HW1⟩ := hrel
      have HG1 := Lib.hid (grown_trans HG.out HW1.out)
      obtain ⟨C0, C1, _, _⟩ := box_cells2 (heap_kept HW1.out HBT.out)
      by_cases hlt1 : k1 < N1 ∧ k1 < 400
      · have f1 : decide ((k1 : Int) < (N1 : Int)) = true := decide_eq_true (by omega)
        have f2 : decide ((k1 : Int) < 400) = true := decide_eq_true (by omega)
        obtain ⟨a1, q1, sb1, cb1, kd, dt, bd1, hs1, hq1, hr, E0, E1, E2, _⟩ := HA.out.at k1 (by have := HN1.out; omega)
        have i01 : (0 : Int) ≤ (k1 : Int) ∧ (k1 : Int) < (N1 : Int) := by omega
        replace E2 := HG1.out.cell E2 (by simp)
        subst hs1
        obtain ⟨L1, hL1⟩ : ∃ L, bd1.length = L := ⟨_, rfl⟩
        rw [hL1] at E2
        obtain ⟨m1, HM1, hm1⟩ := min_bigH L1
        have HC1 := Lib.hid (capB_take (by have := HN1.out; omega) hr hL1)
        clear hr E0 E1 hL1
        go_wp2_with fail
        go_roundg (N1 - (k1 + 1))
        case measure => omega
        case rel => exact ⟨k1 + 1, _, by omega, Nat.le_refl _, rfl, by go_num, Lib.hid (fun hh => step_wrap (HZ1.out hh) (cap_more HC1.out HM1.out)), HW1⟩
      · rcases Nat.lt_or_ge k1 N1 with hlt9 | hge9
        · skip
          have f1 : decide ((k1 : Int) < (N1 : Int)) = true := decide_eq_true (by omega)
          have f2 : decide ((k1 : Int) < 400) = false := decide_eq_false (by omega)
          have HZE : Hid (N1 < 400 → z1 = wrap64 ((capB (([] : List KRec) ++ t.1) : Nat) : Int)) := Lib.hid (fun hh => by omega)
          clear hlt1 hk1 hgh1
          go_wp2_with fail
          first | go_meet | skip
          exact ⟨_, rfl, HZE, HW1⟩
        · skip
          have f1 : decide ((k1 : Int) < (N1 : Int)) = false := decide_eq_false (by omega)
          have HZE : Hid (N1 < 400 → z1 = wrap64 ((capB (([] : List KRec) ++ t.1) : Nat) : Int)) := Lib.hid (fun hh => by have h1 := HZ1.out hh; rwa [List.take_of_length_le (by have := HN1.out; omega)] at h1)
          clear hlt1 hk1 hgh1
          go_wp2_with fail
          first | go_meet | skip
          exact ⟨_, rfl, HZE, HW1⟩
  case rest =>
    obtain ⟨z1, rfl, HZE1, HW1⟩ := hcut
    have HG1 := Lib.hid (grown_trans HG.out HW1.out)
    obtain ⟨C0, C1, _, _⟩ := box_cells2 (heap_kept HW1.out HBT.out)
    go_wp2_with fail
    go_loopg [3, 4, 6] N (fun gh n y i wr => ∃ (k X : Nat) (z : Int), k ≤ N ∧ N - k ≤ gh ∧ n = .int .i64 (X : Int) ∧ y = .int .i64 z ∧ i = .int .i64 (k : Int) ∧ X ≤ 4398046512000 ∧ Hid (X < 400 → X = (cellsUp t k).length ∧ z = wrap64 ((capB (cellsUp t k) : Nat) : Int)) ∧ Hid (wa.grownBy wr none))
    case atStart => exact ⟨0, N1, _, Nat.zero_le _, Nat.le_refl _, rfl, rfl, rfl, by omega, Lib.hid (fun hh => by rw [cellsUp_zero]; exact ⟨HN1.out.symm, HZE1.out hh⟩), HW1⟩
    case round =>
      obtain ⟨k, X, z, hk, hgh, rfl, rfl, rfl, hXm, HX, HW⟩ := hrel
      have Bw := heap_kept HW.out HBT.out
      obtain ⟨C0, C1, _, _⟩ := box_cells2 Bw
      clear Bw
      by_cases hlt : k < N ∧ X < 400
      · have f1 : decide ((k : Int) < (N : Int)) = true := decide_eq_true (by omega)
        have f2 : decide ((X : Int) < 400) = true := decide_eq_true (by omega)
        have hkl : k < t.2.length := by have := HN.out; omega
        obtain ⟨ad, q, u, v, hsc, hq, A0, A1, hu, hv⟩ := HP.out.at k hkl
        have hzc : SizC t.2[k] := HZ.out.2 _ (List.getElem_mem hkl)
        have hup := cellsUp_succ hkl
        obtain ⟨c, hc⟩ : ∃ c, t.2[k] = c := ⟨_, rfl⟩
        rw [hc] at hu hv hzc hup
        have HUP := Lib.hid hup
        have HXE := Lib.hid (HX.out hlt.2)
        obtain ⟨su, cu, rfl, hru, hoku, _⟩ := hu
        obtain ⟨sv, cv, rfl, hpi, hoki⟩ := ItemsV.open hv
        obtain ⟨R, hR⟩ : ∃ R, c.1.length = R := ⟨_, rfl⟩
        obtain ⟨M, hM⟩ : ∃ M, c.2.length = M := ⟨_, rfl⟩
        have hRz : R ≤ 4398046511104 := by rw [← hR]; exact hzc.1.1
        rw [hM] at hoki A1
        rw [hR] at A0 hoku
        have hMm : M ≤ 9223372036854775807 := Nat.le_trans hoki.2.1 hoki.2.2
        have hRU := Lib.hid hru
        have HI := Lib.hid hpi
        have HM := Lib.hid hM
        have HR := Lib.hid hR
        have HZC := Lib.hid hzc
        have HGA := Lib.hid (grown_trans HG.out HW.out)
        have HQ := Lib.hid (fun W (hW : w.grownBy W none) => And.intro (hW.cell A0 (by simp)) (hW.cell A1 (by simp)))
        replace A0 := HGA.out.cell A0 (by simp)
        replace A1 := HGA.out.cell A1 (by simp)
        have i0 : (0 : Int) ≤ (k : Int) ∧ (k : Int) < (N : Int) := by omega
        have i5 : (X : Int) + 1 + (R : Int) ≤ 9223372036854775807 := by omega
        subst hsc
        clear hc
        clear hv hzc hru hoku hpi hoki hR hM hkl hup HX
        go_upto_block 4 with fail
        go_cut [4, 7] from 57 to 85 (fun y i wr => ∃ z : Int, y = .int .i64 z ∧ Hid (R < 400 → z = wrap64 ((capB ((cellsUp t k) ++ c.1) : Nat) : Int)) ∧ Hid (wa.grownBy wr none))
        case first =>
          go_wp2_with fail
          go_loopg [4, 7] R (fun gh y i wr => ∃ (k9 : Nat) (z : Int), k9 ≤ R ∧ R - k9 ≤ gh ∧ y = .int .i64 z ∧ i = .int .i64 (k9 : Int) ∧ Hid (R < 400 → z = wrap64 ((capB ((cellsUp t k) ++ c.1.take k9) : Nat) : Int)) ∧ Hid (wa.grownBy wr none))
          case atStart => exact ⟨0, _, Nat.zero_le _, Nat.le_refl _, rfl, rfl, Lib.hid (fun hh => by rw [List.take_zero, List.append_nil]; exact HXE.out.2), HW⟩
          case round =>
            obtain ⟨k3, z3, hk3, hgh3, rfl, rfl, HZ3, HW3⟩ := hrel
            have HG3 := Lib.hid (grown_trans HG.out HW3.out)
            obtain ⟨C0, C1, _, _⟩ := box_cells2 (heap_kept HW3.out HBT.out)
            obtain ⟨A0, A1⟩ := HQ.out _ (grown_trans HG.out HW3.out)
            by_cases hlt3 : k3 < R ∧ k3 < 400
            · have f1 : decide ((k3 : Int) < (R : Int)) = true := decide_eq_true (by omega)
              have f2 : decide ((k3 : Int) < 400) = true := decide_eq_true (by omega)
              obtain ⟨a3, q3, sb3, cb3, kd, dt, bd3, hs3, hq3, hr, E0, E1, E2, _⟩ := hRU.out.at k3 (by have := HR.out; omega)
              have i03 : (0 : Int) ≤ (k3 : Int) ∧ (k3 : Int) < (R : Int) := by omega
              replace E2 := HG3.out.cell E2 (by simp)
              subst hs3
              obtain ⟨L3, hL3⟩ : ∃ L, bd3.length = L := ⟨_, rfl⟩
              rw [hL3] at E2
              obtain ⟨m3, HM3, hm3⟩ := min_bigH L3
              have HC3 := Lib.hid (capB_take (by have := HR.out; omega) hr hL3)
              clear hr E0 E1 hL3
              go_wp2_with fail
              go_roundg (R - (k3 + 1))
              case measure => omega
              case rel => exact ⟨k3 + 1, _, by omega, Nat.le_refl _, rfl, by go_num, Lib.hid (fun hh => step_wrap (HZ3.out hh) (cap_more HC3.out HM3.out)), HW3⟩
            · rcases Nat.lt_or_ge k3 R with hlt9 | hge9
              · skip
                have f1 : decide ((k3 : Int) < (R : Int)) = true := decide_eq_true (by omega)
                have f2 : decide ((k3 : Int) < 400) = false := decide_eq_false (by omega)
                have HZE : Hid (R < 400 → z3 = wrap64 ((capB ((cellsUp t k) ++ c.1) : Nat) : Int)) := Lib.hid (fun hh => by omega)
                clear hlt3 hk3 hgh3
                go_wp2_with fail
                first | go_meet | skip
                exact ⟨_, rfl, HZE, HW3⟩
              · skip
                have f1 : decide ((k3 : Int) < (R : Int)) = false := decide_eq_false (by omega)
                have HZE : Hid (R < 400 → z3 = wrap64 ((capB ((cellsUp t k) ++ c.1) : Nat) : Int)) := Lib.hid (fun hh => by have h1 := HZ3.out hh; rwa [List.take_of_length_le (by have := HR.out; omega)] at h1)
                clear hlt3 hk3 hgh3
                go_wp2_with fail
                first | go_meet | skip
                exact ⟨_, rfl, HZE, HW3⟩
        case rest =>
          obtain ⟨z3, rfl, HZE3, HW3⟩ := hcut
          have HG3 := Lib.hid (grown_trans HG.out HW3.out)
          obtain ⟨C0, C1, _, _⟩ := box_cells2 (heap_kept HW3.out HBT.out)
          obtain ⟨A0, A1⟩ := HQ.out _ (grown_trans HG.out HW3.out)
          go_wp2_with fail
          go_loopg [3, 4, 8] M (fun gh n y i wr => ∃ (j Y : Nat) (z : Int), j ≤ M ∧ M - j ≤ gh ∧ n = .int .i64 (Y : Int) ∧ y = .int .i64 z ∧ i = .int .i64 (j : Int) ∧ Y ≤ 4398046512000 ∧ Hid (Y < 400 → Y = (cellsUp t k).length + 1 + (itemsUp c j).length ∧ z = wrap64 ((capB (cellsUp t k ++ itemsUp c j) : Nat) : Int)) ∧ Hid (wa.grownBy wr none))
          case atStart => exact ⟨0, X + 1 + R, _, Nat.zero_le _, Nat.le_refl _, by go_num, rfl, rfl, by omega, Lib.hid (fun hh => by rw [itemsUp_zero]; exact ⟨by rw [HR.out, ← HXE.out.1], HZE3.out (by omega)⟩), HW3⟩
          case round =>
            obtain ⟨j, Y, z4, hj, hgh4, rfl, rfl, rfl, hYm, HY, HW4⟩ := hrel
            have HG4 := Lib.hid (grown_trans HG.out HW4.out)
            obtain ⟨C0, C1, _, _⟩ := box_cells2 (heap_kept HW4.out HBT.out)
            obtain ⟨A0, A1⟩ := HQ.out wr HG4.out
            by_cases hlt4 : j < M ∧ Y < 400
            · have f1 : decide ((j : Int) < (M : Int)) = true := decide_eq_true (by omega)
              have f2 : decide ((Y : Int) < 400) = true := decide_eq_true (by omega)
              have hjl : j < c.2.length := by have := HM.out; omega
              obtain ⟨ad4, q4, u4, v4, hsv, hq4, B0, B1, hu4, hv4⟩ := HI.out.at j hjl
              have hzi : SizI c.2[j] := HZC.out.2 _ (List.getElem_mem hjl)
              have hupi := itemsUp_succ hjl
              obtain ⟨x, hx⟩ : ∃ x, c.2[j] = x := ⟨_, rfl⟩
              rw [hx] at hu4 hv4 hzi hupi
              have HUI := Lib.hid hupi
              have HYE := Lib.hid (HY.out hlt4.2)
              obtain ⟨sf, cf, rfl, hrf, hokf, _⟩ := hu4
              obtain ⟨sp, cp, rfl, hrp, hokp, _⟩ := hv4
              obtain ⟨F, hF⟩ : ∃ F, x.1.length = F := ⟨_, rfl⟩
              obtain ⟨G, hG⟩ : ∃ G, x.2.length = G := ⟨_, rfl⟩
              rw [hF] at B0 hokf
              rw [hG] at B1 hokp
              have hRF := Lib.hid hrf
              have hRP := Lib.hid hrp
              have HF := Lib.hid hF
              have HGG := Lib.hid hG
              replace B0 := HG4.out.cell B0 (by simp)
              replace B1 := HG4.out.cell B1 (by simp)
              have i4 : (0 : Int) ≤ (j : Int) ∧ (j : Int) < (M : Int) := by omega
              obtain ⟨mf, hmf1, hmf2, hmf⟩ := min_400 F
              obtain ⟨mp, hmp1, hmp2, hmp⟩ := min_400 G
              have gA := World.grownBy_alloc wr (.cells #[.slice sf F cf, .slice sp G cp] 55) none
              have Bx := heap_new wr (.cells #[.slice sf F cf, .slice sp G cp] 55) wr.heap.size rfl
              obtain ⟨D0, D1, _, _⟩ := box_cells2 Bx
              have HBX := Lib.hid Bx
              have HG5 := Lib.hid (grown_trans HG4.out gA)
              have HW5 := Lib.hid (grown_trans HW4.out gA)
              subst hsv
              clear hx
              clear hzi hrf hokf hrp hokp hF hG hjl hupi HY gA Bx
              have HYL : Hid (Y + 1 + mf + mp < 400 → F < 400 ∧ G < 400 ∧ Y + 1 + mf + mp = (cellsUp t k).length + 1 + (itemsUp c (j + 1)).length) := Lib.hid (fun hh => by
                rw [HUI.out, List.length_append, recI_length, HF.out, HGG.out, ← Nat.add_assoc, ← HYE.out.1]
                omega)
              have i7 : (Y : Int) + 1 + (mf : Int) ≤ 9223372036854775807 := by omega
              have i8 : (Y : Int) + 1 + (mf : Int) + (mp : Int) ≤ 9223372036854775807 := by omega
              go_upto_block 8 with fail
              generalize (wr.alloc (.cells #[.slice sf F cf, .slice sp G cp] 55)) = wi at *
              go_cut [4, 10] from 122 to 142 (fun y i wr => ∃ z : Int, y = .int .i64 z ∧ Hid (F < 400 → z = wrap64 ((capB ((cellsUp t k ++ itemsUp c j) ++ x.1) : Nat) : Int)) ∧ Hid (wi.grownBy wr none))
              case first =>
                go_wp2_with fail
                go_loopg [4, 10] F (fun gh y i wr => ∃ (k9 : Nat) (z : Int), k9 ≤ F ∧ F - k9 ≤ gh ∧ y = .int .i64 z ∧ i = .int .i64 (k9 : Int) ∧ Hid (F < 400 → z = wrap64 ((capB ((cellsUp t k ++ itemsUp c j) ++ x.1.take k9) : Nat) : Int)) ∧ Hid (wi.grownBy wr none))
                case atStart => exact ⟨0, _, Nat.zero_le _, Nat.le_refl _, rfl, rfl, Lib.hid (fun hh => by rw [List.take_zero, List.append_nil]; exact HYE.out.2), Lib.hid (grown_refl _ _)⟩
                case round =>
                  obtain ⟨k6, z6, hk6, hgh6, rfl, rfl, HZ6, HW6⟩ := hrel
                  have HG6 := Lib.hid (grown_trans HG5.out HW6.out)
                  obtain ⟨D0, D1, _, _⟩ := box_cells2 (heap_kept HW6.out HBX.out)
                  by_cases hlt6 : k6 < F ∧ k6 < 400
                  · have f1 : decide ((k6 : Int) < (F : Int)) = true := decide_eq_true (by omega)
                    have f2 : decide ((k6 : Int) < 400) = true := decide_eq_true (by omega)
                    obtain ⟨a6, q6, sb6, cb6, kd, dt, bd6, hs6, hq6, hr, E0, E1, E2, _⟩ := hRF.out.at k6 (by have := HF.out; omega)
                    have i06 : (0 : Int) ≤ (k6 : Int) ∧ (k6 : Int) < (F : Int) := by omega
                    replace E2 := HG6.out.cell E2 (by simp)
                    subst hs6
                    obtain ⟨L6, hL6⟩ : ∃ L, bd6.length = L := ⟨_, rfl⟩
                    rw [hL6] at E2
                    obtain ⟨m6, HM6, hm6⟩ := min_bigH L6
                    have HC6 := Lib.hid (capB_take (by have := HF.out; omega) hr hL6)
                    clear hr E0 E1 hL6
                    go_wp2_with fail
                    go_roundg (F - (k6 + 1))
                    case measure => omega
                    case rel => exact ⟨k6 + 1, _, by omega, Nat.le_refl _, rfl, by go_num, Lib.hid (fun hh => step_wrap (HZ6.out hh) (cap_more HC6.out HM6.out)), HW6⟩
                  · rcases Nat.lt_or_ge k6 F with hlt9 | hge9
                    · skip
                      have f1 : decide ((k6 : Int) < (F : Int)) = true := decide_eq_true (by omega)
                      have f2 : decide ((k6 : Int) < 400) = false := decide_eq_false (by omega)
                      have HZE : Hid (F < 400 → z6 = wrap64 ((capB ((cellsUp t k ++ itemsUp c j) ++ x.1) : Nat) : Int)) := Lib.hid (fun hh => by omega)
                      clear hlt6 hk6 hgh6
                      go_wp2_with fail
                      first | go_meet | skip
                      exact ⟨_, rfl, HZE, HW6⟩
                    · skip
                      have f1 : decide ((k6 : Int) < (F : Int)) = false := decide_eq_false (by omega)
                      have HZE : Hid (F < 400 → z6 = wrap64 ((capB ((cellsUp t k ++ itemsUp c j) ++ x.1) : Nat) : Int)) := Lib.hid (fun hh => by have h1 := HZ6.out hh; rwa [List.take_of_length_le (by have := HF.out; omega)] at h1)
                      clear hlt6 hk6 hgh6
                      go_wp2_with fail
                      first | go_meet | skip
                      exact ⟨_, rfl, HZE, HW6⟩
              case rest =>
                obtain ⟨z6, rfl, HZE6, HW6⟩ := hcut
                have HG6 := Lib.hid (grown_trans HG5.out HW6.out)
                obtain ⟨D0, D1, _, _⟩ := box_cells2 (heap_kept HW6.out HBX.out)
                go_wp2_with fail
                go_loopg [4, 11] G (fun gh y i wr => ∃ (k9 : Nat) (z : Int), k9 ≤ G ∧ G - k9 ≤ gh ∧ y = .int .i64 z ∧ i = .int .i64 (k9 : Int) ∧ Hid (F < 400 ∧ G < 400 → z = wrap64 ((capB (((cellsUp t k ++ itemsUp c j) ++ x.1) ++ x.2.take k9) : Nat) : Int)) ∧ Hid (wi.grownBy wr none))
                case atStart => exact ⟨0, _, Nat.zero_le _, Nat.le_refl _, rfl, rfl, Lib.hid (fun hh => by rw [List.take_zero, List.append_nil]; exact HZE6.out hh.1), HW6⟩
                case round =>
                  obtain ⟨k7, z7, hk7, hgh7, rfl, rfl, HZ7, HW7⟩ := hrel
                  have HG7 := Lib.hid (grown_trans HG5.out HW7.out)
                  obtain ⟨D0, D1, _, _⟩ := box_cells2 (heap_kept HW7.out HBX.out)
                  by_cases hlt7 : k7 < G ∧ k7 < 400
                  · have f1 : decide ((k7 : Int) < (G : Int)) = true := decide_eq_true (by omega)
                    have f2 : decide ((k7 : Int) < 400) = true := decide_eq_true (by omega)
                    obtain ⟨a7, q7, sb7, cb7, kd, dt, bd7, hs7, hq7, hr, E0, E1, E2, _⟩ := hRP.out.at k7 (by have := HGG.out; omega)
                    have i07 : (0 : Int) ≤ (k7 : Int) ∧ (k7 : Int) < (G : Int) := by omega
                    replace E2 := HG7.out.cell E2 (by simp)
                    subst hs7
                    obtain ⟨L7, hL7⟩ : ∃ L, bd7.length = L := ⟨_, rfl⟩
                    rw [hL7] at E2
                    obtain ⟨m7, HM7, hm7⟩ := min_bigH L7
                    have HC7 := Lib.hid (capB_take (by have := HGG.out; omega) hr hL7)
                    clear hr E0 E1 hL7
                    go_wp2_with fail
                    go_roundg (G - (k7 + 1))
                    case measure => omega
                    case rel => exact ⟨k7 + 1, _, by omega, Nat.le_refl _, rfl, by go_num, Lib.hid (fun hh => step_wrap (HZ7.out hh) (cap_more HC7.out HM7.out)), HW7⟩
                  · rcases Nat.lt_or_ge k7 G with hlt9 | hge9
                    · skip
                      have f1 : decide ((k7 : Int) < (G : Int)) = true := decide_eq_true (by omega)
                      have f2 : decide ((k7 : Int) < 400) = false := decide_eq_false (by omega)
                      have HZE : Hid (F < 400 ∧ G < 400 → z7 = wrap64 ((capB (((cellsUp t k ++ itemsUp c j) ++ x.1) ++ x.2) : Nat) : Int)) := Lib.hid (fun hh => by omega)
                      clear hlt7 hk7 hgh7
                      have HYN : Hid (Y + 1 + mf + mp < 400 → Y + 1 + mf + mp = (cellsUp t k).length + 1 + (itemsUp c (j + 1)).length ∧ z7 = wrap64 ((capB (cellsUp t k ++ itemsUp c (j + 1)) : Nat) : Int)) := Lib.hid (fun hh => by
                        obtain ⟨hF4, hG4, hL4⟩ := HYL.out hh
                        refine ⟨hL4, ?_⟩
                        rw [HZE.out ⟨hF4, hG4⟩, HUI.out]
                        unfold recI
                        simp only [capB_append, capB_end]
                        simp only [Nat.add_assoc, Nat.add_zero])
                      go_wp2_with fail
                      go_roundg (M - (j + 1))
                      case measure => omega
                      case rel => exact ⟨j + 1, Y + 1 + mf + mp, _, by omega, Nat.le_refl _, by go_num, rfl, by go_num, by omega, HYN, Lib.hid (grown_trans HW5.out HW7.out)⟩
                    · skip
                      have f1 : decide ((k7 : Int) < (G : Int)) = false := decide_eq_false (by omega)
                      have HZE : Hid (F < 400 ∧ G < 400 → z7 = wrap64 ((capB (((cellsUp t k ++ itemsUp c j) ++ x.1) ++ x.2) : Nat) : Int)) := Lib.hid (fun hh => by have h1 := HZ7.out hh; rwa [List.take_of_length_le (by have := HGG.out; omega)] at h1)
                      clear hlt7 hk7 hgh7
                      have HYN : Hid (Y + 1 + mf + mp < 400 → Y + 1 + mf + mp = (cellsUp t k).length + 1 + (itemsUp c (j + 1)).length ∧ z7 = wrap64 ((capB (cellsUp t k ++ itemsUp c (j + 1)) : Nat) : Int)) := Lib.hid (fun hh => by
                        obtain ⟨hF4, hG4, hL4⟩ := HYL.out hh
                        refine ⟨hL4, ?_⟩
                        rw [HZE.out ⟨hF4, hG4⟩, HUI.out]
                        unfold recI
                        simp only [capB_append, capB_end]
                        simp only [Nat.add_assoc, Nat.add_zero])
                      go_wp2_with fail
                      go_roundg (M - (j + 1))
                      case measure => omega
                      case rel => exact ⟨j + 1, Y + 1 + mf + mp, _, by omega, Nat.le_refl _, by go_num, rfl, by go_num, by omega, HYN, Lib.hid (grown_trans HW5.out HW7.out)⟩
            · rcases Nat.lt_or_ge j M with hlt9 | hge9
              · skip
                have f1 : decide ((j : Int) < (M : Int)) = true := decide_eq_true (by omega)
                have f2 : decide ((Y : Int) < 400) = false := decide_eq_false (by omega)
                have HYN : Hid (Y < 400 → Y = (cellsUp t (k + 1)).length ∧ z4 = wrap64 ((capB (cellsUp t (k + 1)) : Nat) : Int)) := Lib.hid (fun hh => by omega)
                clear hlt4 HY
                go_wp2_with fail
                go_roundg (N - (k + 1))
                case measure => omega
                case rel => exact ⟨k + 1, Y, _, by omega, Nat.le_refl _, rfl, rfl, by go_num, hYm, HYN, HW4⟩
              · skip
                have f1 : decide ((j : Int) < (M : Int)) = false := decide_eq_false (by omega)
                have HYN : Hid (Y < 400 → Y = (cellsUp t (k + 1)).length ∧ z4 = wrap64 ((capB (cellsUp t (k + 1)) : Nat) : Int)) := Lib.hid (fun hh => by
                  have h9 := HY.out hh
                  rw [HUP.out, ← itemsUp_all (c := c) (j := j) (by have := HM.out; omega)]
                  constructor
                  · rw [List.length_append, List.length_append, h9.1]; simp; omega
                  · rw [h9.2]; simp only [capB_append, capB_end, Nat.add_zero])
                clear hlt4 HY
                go_wp2_with fail
                go_roundg (N - (k + 1))
                case measure => omega
                case rel => exact ⟨k + 1, Y, _, by omega, Nat.le_refl _, rfl, rfl, by go_num, hYm, HYN, HW4⟩
      · rcases Nat.lt_or_ge k N with hlt9 | hge9
        · skip
          have f1 : decide ((k : Int) < (N : Int)) = true := decide_eq_true (by omega)
          have f2 : decide ((X : Int) < 400) = false := decide_eq_false (by omega)
          skip
          have HGE := Lib.hid (grown_trans HG.out HW.out)
          clear hlt HX
          go_wp2_with fail
          all_goals (go_ret; exact ⟨_, rfl, HGE.out, (fun e => by cases e)⟩)
        · skip
          have f1 : decide ((k : Int) < (N : Int)) = false := decide_eq_false (by omega)
          have HE : Hid (X < 400 → (recT t).length ≤ 400 ∧ z = wrap64 ((capB (recT t) : Nat) : Int)) := Lib.hid (fun hh => by
            have h1 := HX.out hh
            rw [← cellsUp_all (t := t) (k := k) (by have := HN.out; omega)]
            constructor
            · rw [List.length_append, ← h1.1]; simp; omega
            · rw [h1.2]; simp only [capB_append, capB_end, Nat.add_zero])
          have HGE := Lib.hid (grown_trans HG.out HW.out)
          clear hlt HX
          by_cases hX4 : X < 400
          · have f3 : decide ((X : Int) < 400) = true := decide_eq_true (by omega)
            have HT := Lib.hid (HE.out hX4)
            clear hX4
            go_wp2_with fail
            all_goals (go_ret; exact ⟨_, rfl, HGE.out, fun e => ⟨HT.out.1, capB_small HT.out.2 HT.out.1 (of_decide_eq_true e)⟩⟩)
          · have f3 : decide ((X : Int) < 400) = false := decide_eq_false (by omega)
            go_wp2_with fail
            all_goals (go_ret; exact ⟨_, rfl, HGE.out, (fun e => by cases e)⟩)
end Go.Proofs.Ytcioefmldcmhgaa
