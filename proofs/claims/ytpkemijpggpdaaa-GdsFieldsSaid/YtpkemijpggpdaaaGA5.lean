/- Streams as trees: the document's Field; names. -/
import Derived.Test.YtpkemijpggpdaaaGA4
namespace Go.Proofs.Ytpkemijpggpdaaa
open Go.RowKit
set_option maxRecDepth 100000
set_option linter.unusedVariables false
set_option linter.unusedSimpArgs false

set_option maxHeartbeats 16000000 in
theorem RField_any (w0 w : World) (u0 u1 : Value) (rs : List KRec) (kd : Nat) (hv : RecsV w0 u0 rs) (hg0 : w0.grownBy w none) (h1 : ∃ s n c, u1 = .slice s n c) :
    Calls Try.prog 24 #[.agg #[u0, u1], .int .u8 (kd : Int)] w (RetField w0 w (fieldD rs kd)) := by
  obtain ⟨s1, n1, c1, rfl⟩ := h1
  obtain ⟨s0, c0, rfl, hl, hok, _⟩ := hv
  obtain ⟨n0, hn0⟩ : ∃ n, rs.length = n := ⟨_, rfl⟩
  rw [hn0] at hok ⊢
  have hm : n0 ≤ 9223372036854775807 := Nat.le_trans hok.2.1 hok.2.2
  have g1 := World.grownBy_alloc w (.cells #[.slice s0 n0 c0, .slice s1 n1 c1] 55) none
  have b1 := heap_new w (.cells #[.slice s0 n0 c0, .slice s1 n1 c1] 55) w.heap.size rfl
  have g2 := World.grownBy_alloc (w.alloc (.cells #[.slice s0 n0 c0, .slice s1 n1 c1] 55)) (.cells #[.int .u8 0, .int .u8 0, .slice none 0 0] 45) none
  have b2 := heap_new (w.alloc (.cells #[.slice s0 n0 c0, .slice s1 n1 c1] 55)) (.cells #[.int .u8 0, .int .u8 0, .slice none 0 0] 45) (w.heap.size + 1) (by simp)
  replace b1 := heap_kept g2 b1
  have HG := Lib.hid (grown_trans g1 g2)
  have HL := Lib.hid hl
  have H0 := Lib.hid hg0
  have HN := Lib.hid hn0
  have HB1 := Lib.hid b1
  have HB2 := Lib.hid b2
  obtain ⟨C0, C1, _, _⟩ := box_cells2 b1
  obtain ⟨R0, R1, R2, S0, S1, S2⟩ := box_cells3 b2
  clear hg0 hl hok hn0 g1 g2 b1 b2
  go_enter Try.func24, Try.ntmps24
  go_wp2_with fail
  generalize ((w.alloc (.cells #[.slice s0 n0 c0, .slice s1 n1 c1] 55)).alloc (.cells #[.int .u8 0, .int .u8 0, .slice none 0 0] 45)) = wa at *
  go_loopg [6] n0 (fun gh i wr => ∃ k : Nat, k ≤ n0 ∧ n0 - k ≤ gh ∧ i = .int .i64 (k : Int) ∧ Hid (∀ j (h : j < rs.length), j < k → rs[j].1 ≠ kd) ∧ wr = wa)
  case atStart => exact ⟨0, Nat.zero_le _, Nat.le_refl _, rfl, Lib.hid (fun j _ h => by omega), rfl⟩
  case round =>
    obtain ⟨k, hk, hgh, rfl, HF, rfl⟩ := hrel
    by_cases hlt : k < n0
    · have f1 : decide ((k : Int) < (n0 : Int)) = true := decide_eq_true (by omega)
      have hkr : k < rs.length := by rw [HN.out]; exact hlt
      obtain ⟨a, q, sb, cb, kr, dt, bd, rfl, hq, hr, A0, A1, A2, hy, hz⟩ := HL.out.at k hkr
      have HR := Lib.hid hr
      replace A0 := (grown_trans H0.out HG.out).cell A0 (by simp)
      replace A1 := (grown_trans H0.out HG.out).cell A1 (by simp)
      replace A2 := (grown_trans H0.out HG.out).cell A2 (by simp)
      have HY := Lib.hid (And.intro hy hz)
      have i0 : (0 : Int) ≤ (k : Int) ∧ (k : Int) < (n0 : Int) := by omega
      clear hr hy hz
      by_cases he : kr = kd
      · have f2 : ((kr : Int) == (kd : Int)) = true := by simp [he]
        have HK : FirstK rs kd k := ⟨by omega, HF.out, fun _ => by rw [HR.out]; exact he⟩
        have HFD := Lib.hid (field_at HK hkr)
        rw [HR.out] at HFD
        obtain ⟨gp, hp⟩ := put_rec (g := w.heap.size + 1) HG.out (Nat.le_succ _) HB2.out (.int .u8 (kr : Int)) (.int .u8 (dt : Int)) (.slice sb bd.length cb)
        obtain ⟨D0, D1, D2, _⟩ := box_cells3 hp
        have HE : Hid (RetField w0 w (fieldD rs kd) (.returned (.tuple #[.agg #[.int .u8 (kr : Int), .int .u8 (dt : Int), .slice sb bd.length cb], .bool true])) _) := Lib.hid (by
          rw [HFD.out]; exact ⟨_, rfl, ⟨sb, cb, rfl, HY.out.1, HY.out.2⟩, gp⟩)
        clear he HK gp hp
        go_wp2_with fail
        exact bodyPost_ret (v := .tuple #[.agg #[.int .u8 (kr : Int), .int .u8 (dt : Int), .slice sb bd.length cb], .bool true]) (by simp [results, Try.results24, go_sem, D0, D1, D2]) rfl HE.out
      · have f2 : ((kr : Int) == (kd : Int)) = false := by simp; omega
        have HK : Hid (∀ j (h : j < rs.length), j < k + 1 → rs[j].1 ≠ kd) := Lib.hid (fun j h hj => by
          rcases Nat.lt_or_ge j k with h1 | h1
          · exact HF.out j h h1
          · obtain rfl : j = k := by omega
            rw [HR.out]; exact he)
        clear he
        go_wp2_with fail
        go_roundg (n0 - (k + 1))
        case measure => omega
        case rel => exact ⟨k + 1, by omega, Nat.le_refl _, by go_num, HK, rfl⟩
    · have f1 : decide ((k : Int) < (n0 : Int)) = false := decide_eq_false (by omega)
      have HK : FirstK rs kd k := ⟨by have := HN.out; omega, HF.out, fun h => by have := HN.out; omega⟩
      have HFD := Lib.hid (field_none HK (by rw [HN.out]; exact hlt))
      obtain ⟨gp, hp⟩ := put_rec (g := w.heap.size + 1) HG.out (Nat.le_succ _) HB2.out (.int .u8 0) (.int .u8 0) (.slice none 0 0)
      obtain ⟨D0, D1, D2, _⟩ := box_cells3 hp
      have HE : Hid (RetField w0 w (fieldD rs kd) (.returned (.tuple #[.agg #[.int .u8 0, .int .u8 0, .slice none 0 0], .bool false])) _) := Lib.hid (by
        rw [HFD.out]; exact ⟨_, rfl, ⟨none, 0, rfl, BySl.nil _ _, fun _ => ⟨rfl, rfl⟩, Nat.le_refl _, by omega⟩, gp⟩)
      clear HK gp hp
      go_wp2_with fail
      exact bodyPost_ret (v := .tuple #[.agg #[.int .u8 0, .int .u8 0, .slice none 0 0], .bool false]) (by simp [results, Try.results24, go_sem, D0, D1, D2]) rfl HE.out
/-- A cell's name. -/
def nameD (rs : List KRec) : ByteArray := strOf (lettersL (fieldD rs 6).2.2.2)
set_option maxHeartbeats 16000000 in
theorem Name_any (w : World) (u0 u1 : Value) (rs : List KRec) (hv : RecsV w u0 rs) (h1 : ∃ s n c, u1 = .slice s n c) :
    Calls Try.prog 21 #[.agg #[u0, u1]] w (RetStr w (nameD rs)) := by
  obtain ⟨s1, n1, c1, rfl⟩ := h1
  obtain ⟨s0, c0, rfl, _⟩ := hv.shape
  obtain ⟨n0, hn0⟩ : ∃ n, rs.length = n := ⟨_, rfl⟩
  rw [hn0] at hv ⊢
  have g1 := World.grownBy_alloc w (.cells #[.slice s0 n0 c0, .slice s1 n1 c1] 50) none
  have b1 := heap_new w (.cells #[.slice s0 n0 c0, .slice s1 n1 c1] 50) w.heap.size rfl
  have HG := Lib.hid g1
  have HV := Lib.hid hv
  obtain ⟨C0, C1, _, _⟩ := box_cells2 b1
  clear hv hn0 g1 b1
  go_enter Try.func21, Try.ntmps21
  go_wp2_with fail
  generalize (w.alloc (.cells #[.slice s0 n0 c0, .slice s1 n1 c1] 50)) = wa at *
  refine (First_any7 wa wa _ rs 6 (HV.out.kept HG.out) (grown_refl _ _)).mono ?_
  rintro e w1 ⟨u, rfl, ⟨sb, cb, rfl, hy, hok⟩, hg1⟩
  obtain ⟨m, hm⟩ : ∃ m, (fieldD rs 6).2.2.2.length = m := ⟨_, rfl⟩
  rw [hm] at hok ⊢
  obtain ⟨kr, hkr⟩ : ∃ x, (fieldD rs 6).2.1 = x := ⟨_, rfl⟩
  obtain ⟨dt, hdt⟩ : ∃ x, (fieldD rs 6).2.2.1 = x := ⟨_, rfl⟩
  obtain ⟨bo, hbo⟩ : ∃ x, (fieldD rs 6).1 = x := ⟨_, rfl⟩
  rw [hkr, hdt, hbo]
  have gA := World.grownBy_alloc w1 (.cells #[.int .u8 (kr : Int), .int .u8 (dt : Int), .slice sb m cb] 45) none
  have b3 := heap_new w1 (.cells #[.int .u8 (kr : Int), .int .u8 (dt : Int), .slice sb m cb] 45) w1.heap.size rfl
  obtain ⟨D0, D1, D2, _⟩ := box_cells3 b3
  have HY := Lib.hid (hy.kept (grown_trans hg1 gA))
  have HM := Lib.hid hm
  have HG1 := Lib.hid (grown_trans HG.out (grown_trans hg1 gA))
  clear hy hm hg1 gA b3 C0 C1 hkr hdt hbo
  go_wp2_with fail
  refine (Text_str _ sb m cb _ HM.out HY.out hok.1 hok.2.1 hok.2.2).mono ?_
  rintro e w3 ⟨rfl, hg3⟩
  have HG3 := Lib.hid (grown_trans HG1.out hg3)
  clear hg3
  go_wp2_with fail
  go_ret
  exact ⟨rfl, HG3.out⟩
set_option maxHeartbeats 16000000 in
theorem RName_any (w : World) (u0 u1 : Value) (rs : List KRec) (hv : RecsV w u0 rs) (h1 : ∃ s n c, u1 = .slice s n c) :
    Calls Try.prog 22 #[.agg #[u0, u1]] w (RetStr w (nameD rs)) := by
  obtain ⟨s1, n1, c1, rfl⟩ := h1
  obtain ⟨s0, c0, rfl, hl, hok, _⟩ := hv
  obtain ⟨n0, hn0⟩ : ∃ n, rs.length = n := ⟨_, rfl⟩
  rw [hn0] at hok ⊢
  have hm : n0 ≤ 9223372036854775807 := Nat.le_trans hok.2.1 hok.2.2
  have g1 := World.grownBy_alloc w (.cells #[.slice s0 n0 c0, .slice s1 n1 c1] 50) none
  have b1 := heap_new w (.cells #[.slice s0 n0 c0, .slice s1 n1 c1] 50) w.heap.size rfl
  have HG := Lib.hid g1
  have HL := Lib.hid hl
  have HN := Lib.hid hn0
  obtain ⟨C0, C1, _, _⟩ := box_cells2 b1
  clear hl hok hn0 g1 b1
  go_enter Try.func22, Try.ntmps22
  go_wp2_with fail
  generalize (w.alloc (.cells #[.slice s0 n0 c0, .slice s1 n1 c1] 50)) = wa at *
  go_loopg [3] n0 (fun gh i wr => ∃ k : Nat, k ≤ n0 ∧ n0 - k ≤ gh ∧ i = .int .i64 (k : Int) ∧ Hid (∀ j (h : j < rs.length), j < k → rs[j].1 ≠ 6) ∧ wr = wa)
  case atStart => exact ⟨0, Nat.zero_le _, Nat.le_refl _, rfl, Lib.hid (fun j _ h => by omega), rfl⟩
  case round =>
    obtain ⟨k, hk, hgh, rfl, HF, rfl⟩ := hrel
    by_cases hlt : k < n0
    · have f1 : decide ((k : Int) < (n0 : Int)) = true := decide_eq_true (by omega)
      have hkr : k < rs.length := by rw [HN.out]; exact hlt
      obtain ⟨a, q, sb, cb, kr, dt, bd, rfl, hq, hr, A0, A1, A2, hy, hz⟩ := HL.out.at k hkr
      have HR := Lib.hid hr
      replace A0 := HG.out.cell A0 (by simp)
      replace A1 := HG.out.cell A1 (by simp)
      replace A2 := HG.out.cell A2 (by simp)
      obtain ⟨m, hm2⟩ : ∃ m, bd.length = m := ⟨_, rfl⟩
      rw [hm2] at A2 hz
      have HY := Lib.hid (And.intro (hy.kept HG.out) hm2)
      have i0 : (0 : Int) ≤ (k : Int) ∧ (k : Int) < (n0 : Int) := by omega
      clear hr hy hm2
      by_cases he : kr = 6
      · have f2 : ((kr : Int) == 6) = true := by simp [he]
        have HK : FirstK rs 6 k := ⟨by omega, HF.out, fun _ => by rw [HR.out]; exact he⟩
        have HFD := Lib.hid (field_at HK hkr)
        rw [HR.out] at HFD
        clear he HK
        go_wp2_with fail
        refine (RText_str _ sb m cb bd HY.out.2 HY.out.1 hz.1 hz.2.1 hz.2.2).mono ?_
        rintro e w3 ⟨rfl, hg3⟩
        have HE : Hid (RetStr w (nameD rs) (.returned (.string (strOf (lettersL bd)))) w3) := Lib.hid (by
          unfold nameD; rw [HFD.out]; exact ⟨rfl, grown_trans HG.out hg3⟩)
        clear hg3
        go_wp2_with fail
        go_ret
        exact HE.out
      · have f2 : ((kr : Int) == 6) = false := by simp; omega
        have HK : Hid (∀ j (h : j < rs.length), j < k + 1 → rs[j].1 ≠ 6) := Lib.hid (fun j h hj => by
          rcases Nat.lt_or_ge j k with h1 | h1
          · exact HF.out j h h1
          · obtain rfl : j = k := by omega
            rw [HR.out]; exact he)
        clear he
        go_wp2_with fail
        go_roundg (n0 - (k + 1))
        case measure => omega
        case rel => exact ⟨k + 1, by omega, Nat.le_refl _, by go_num, HK, rfl⟩
    · have f1 : decide ((k : Int) < (n0 : Int)) = false := decide_eq_false (by omega)
      have HK : FirstK rs 6 k := ⟨by have := HN.out; omega, HF.out, fun h => by have := HN.out; omega⟩
      have HFD := Lib.hid (field_none HK (by rw [HN.out]; exact hlt))
      have HE : Hid (RetStr w (nameD rs) (.returned (.string { data := #[] })) wr) := Lib.hid (by
        unfold nameD; rw [HFD.out]; exact ⟨rfl, HG.out⟩)
      clear HK
      go_wp2_with fail
      go_ret
      exact HE.out
end Go.Proofs.Ytpkemijpggpdaaa
