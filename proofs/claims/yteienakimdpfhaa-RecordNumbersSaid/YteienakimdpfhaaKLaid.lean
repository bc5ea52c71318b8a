/- Records: bytes of numbers. -/
import Derived.Test.YteienakimdpfhaaKRNum
namespace Go.Proofs.Yteienakimdpfhaa
open Go.RowKit
set_option maxRecDepth 100000
set_option linter.unusedVariables false
set_option linter.unusedSimpArgs false

def RetOB (w : World) (l : List Nat) (e : Ending) (w' : World) : Prop := ∃ v, e = .returned v ∧ OwnB w' w.heap.size v l ∧ w.grownBy w' none
theorem byte_u64 (n : Int) (p : Nat) (hp : p < 8) : (n % 18446744073709551616) / ((256 ^ p : Nat) : Int) % 256 = (byteN n p : Int) := by
  unfold byteN
  have e : p = 0 ∨ p = 1 ∨ p = 2 ∨ p = 3 ∨ p = 4 ∨ p = 5 ∨ p = 6 ∨ p = 7 := by omega
  rcases e with rfl | rfl | rfl | rfl | rfl | rfl | rfl | rfl <;> simp <;> omega
theorem byte_i64 (n : Int) (p : Nat) : n / ((256 ^ p : Nat) : Int) % 256 = (byteN n p : Int) := by
  unfold byteN
  have : 0 ≤ n / ((256 ^ p : Nat) : Int) % 256 := Int.emod_nonneg _ (by decide)
  omega
set_option maxHeartbeats 32000000 in
theorem Bytes_2 (w : World) (x : Int) (hx1 : -9223372036854775808 ≤ x) (hx2 : x ≤ 9223372036854775807) :
    Calls Try.prog 22 #[.int .i64 x, .int .i64 2] w (RetOB w (bytesN 2 x)) := by
  obtain ⟨i1, hi, hz0, hz1, hz2⟩ := info_partsU
  have hc1 : IntKind.u64.wrap x = x % 18446744073709551616 := by unfold IntKind.wrap; simp [IntKind.bits, IntKind.signed]
  obtain ⟨Y, hY⟩ : ∃ Y : Int, x % 18446744073709551616 = Y := ⟨_, rfl⟩
  rw [hY] at hc1
  have hYb : 0 ≤ Y ∧ Y < 18446744073709551616 := by omega
  obtain ⟨hY1, hY2⟩ := hYb
  have hb1 := byte_u64 x 1 (by decide)
  rw [hY] at hb1
  obtain ⟨y1, hy1⟩ : ∃ y, byteN x 1 = y := ⟨_, rfl⟩
  have hl1 := byteN_lt x 1
  rw [hy1] at hb1 hl1
  have c1 : Y / 256 % 256 = (y1 : Int) := by simpa using hb1
  have hb0 := byte_u64 x 0 (by decide)
  rw [hY] at hb0
  obtain ⟨y0, hy0⟩ : ∃ y, byteN x 0 = y := ⟨_, rfl⟩
  have hl0 := byteN_lt x 0
  rw [hy0] at hb0 hl0
  have c0 : Y % 256 = (y0 : Int) := by simpa using hb0
  have HBY : Hid (bytesN 2 x = [y1, y0]) := Lib.hid (by unfold bytesN; simp [List.range, List.range.loop, hy0, hy1])
  clear hb0 hy0 hb1 hy1
  have HG0 := Lib.hid (grown_refl w none)
  have HO0 := Lib.hid (OwnB.nil w w.heap.size)
  obtain ⟨L, hL⟩ : ∃ L : List Nat, L = [] := ⟨_, rfl⟩
  have HLE := Lib.hid hL
  rw [← hL] at HO0
  obtain ⟨N0, hN0⟩ : ∃ N0, L.length = N0 := ⟨_, rfl⟩
  have HN0 := Lib.hid hN0
  have hN0b : N0 ≤ 8000 := by rw [← hN0, hL]; decide
  clear hY hL hN0
  go_enter Try.func22, Try.ntmps22
  go_wp2_with fail
  go_loopg [5, 7] 2 (fun gh v i wr => ∃ j : Nat, j ≤ 2 ∧ 2 - j ≤ gh ∧ i = .int .i64 (1 - (j : Int)) ∧ OwnB wr w.heap.size v (L ++ (bytesN 2 x).take j) ∧ w.grownBy wr none)
  case atStart => exact ⟨0, Nat.zero_le _, Nat.le_refl _, rfl, by rw [List.take_zero, List.append_nil]; exact HO0.out, HG0.out⟩
  case round =>
    obtain ⟨j, hj, hgh, rfl, hO, hG⟩ := hrel
    rw [HBY.out] at hO
    have hjc : j = 0 ∨ j = 1 ∨ j = 2 := by omega
    rcases hjc with rfl | rfl | rfl
    · have hO1 : OwnB wr w.heap.size u5 L := by have h := hO; rw [List.take_zero, List.append_nil] at h; exact h
      obtain ⟨s0, c0, rfl, _, _, _, _⟩ := hO1.shape
      have HLN : Hid ((L).length = N0) := Lib.hid (by exact HN0.out)
      rw [HLN.out] at hO1 ⊢
      have gA := World.grownBy_alloc wr (.cells #[.int .u8 (y1 : Int)] 5) none
      have HNW := Lib.hid (World.news_of_block (cs := #[.int .u8 (y1 : Int)]) (heap_new wr (.cells #[.int .u8 (y1 : Int)] 5) wr.heap.size rfl))
      have HOWN : Hid ((wr.alloc (.cells #[.int .u8 (y1 : Int)] 5)).ownsRow w.heap.size 5 1 (.slice s0 (N0) c0) (N0) (bvs L)) := Lib.hid (by have h := (hO1.kept gA).1; rwa [HLN.out] at h)
      have HL8 := Lib.hid hO1.2
      have HGA := Lib.hid (grown_trans hG gA)
      have HBS := Lib.hid HGA.out.size
      have HM1 : Hid (N0 + 1 ≤ maxLen) := Lib.hid (by unfold maxLen; omega)
      clear gA hO hO1 hG
      go_wp2_with (at_builtin; refine wpList_own_some rfl (.tmp 16) (.tmp 23) 22 rfl w.heap.size 5 i1 (.int .u8 0) 1 1 Try.underlying22 hi hz0 hz1 hz2 rfl (by decide) (.slice s0 (N0) c0) (N0) (bvs L) rfl HOWN.out ⟨wr.heap.size, 0, none⟩ 1 1 (bvs [y1]) rfl rfl HNW.out (bvs_one _) HM1.out (by omega) HBS.out (Or.inr (by decide)) _ rfl ?_)
      intro g2 c2 w2 hown2 hgrow2 hgb2 hcb2 hmb2
      have HG2 := Lib.hid (grown_own HGA.out HOWN.out hgrow2 (Nat.le_refl _))
      have HO2 := Lib.hid (OwnB.of (m := [y1]) hown2 (by rw [HLN.out]; rfl) HL8.out (by intro u hu; simp at hu; omega))
      clear hown2 hgrow2 HOWN HNW
      go_wp2_with fail
      go_roundg 1
      case measure => omega
      case rel => exact ⟨1, by omega, Nat.le_refl _, by go_num, by have h := HO2.out; rw [HBY.out]; exact h, HG2.out⟩
    · have hO1 : OwnB wr w.heap.size u5 (L ++ [y1]) := hO
      obtain ⟨s0, c0, rfl, _, _, _, _⟩ := hO1.shape
      have HLN : Hid (((L ++ [y1])).length = N0 + 1) := Lib.hid (by rw [List.length_append, HN0.out]; rfl)
      rw [HLN.out] at hO1 ⊢
      have gA := World.grownBy_alloc wr (.cells #[.int .u8 (y0 : Int)] 5) none
      have HNW := Lib.hid (World.news_of_block (cs := #[.int .u8 (y0 : Int)]) (heap_new wr (.cells #[.int .u8 (y0 : Int)] 5) wr.heap.size rfl))
      have HOWN : Hid ((wr.alloc (.cells #[.int .u8 (y0 : Int)] 5)).ownsRow w.heap.size 5 1 (.slice s0 (N0 + 1) c0) (N0 + 1) (bvs (L ++ [y1]))) := Lib.hid (by have h := (hO1.kept gA).1; rwa [HLN.out] at h)
      have HL8 := Lib.hid hO1.2
      have HGA := Lib.hid (grown_trans hG gA)
      have HBS := Lib.hid HGA.out.size
      have HM1 : Hid (N0 + 1 + 1 ≤ maxLen) := Lib.hid (by unfold maxLen; omega)
      clear gA hO hO1 hG
      go_wp2_with (at_builtin; refine wpList_own_some rfl (.tmp 16) (.tmp 23) 22 rfl w.heap.size 5 i1 (.int .u8 0) 1 1 Try.underlying22 hi hz0 hz1 hz2 rfl (by decide) (.slice s0 (N0 + 1) c0) (N0 + 1) (bvs (L ++ [y1])) rfl HOWN.out ⟨wr.heap.size, 0, none⟩ 1 1 (bvs [y0]) rfl rfl HNW.out (bvs_one _) HM1.out (by omega) HBS.out (Or.inr (by decide)) _ rfl ?_)
      intro g2 c2 w2 hown2 hgrow2 hgb2 hcb2 hmb2
      have HG2 := Lib.hid (grown_own HGA.out HOWN.out hgrow2 (Nat.le_refl _))
      have HO2 := Lib.hid (OwnB.of (m := [y0]) hown2 (by rw [HLN.out]; rfl) HL8.out (by intro u hu; simp at hu; omega))
      clear hown2 hgrow2 HOWN HNW
      go_wp2_with fail
      go_roundg 0
      case measure => omega
      case rel => exact ⟨2, by omega, Nat.le_refl _, by go_num, by have h := HO2.out; rw [List.append_assoc] at h; rw [HBY.out]; exact h, HG2.out⟩
    · have hO1 : OwnB wr w.heap.size _ (L ++ [y1, y0]) := hO
      obtain ⟨s0, c0, rfl, _, _, _, _⟩ := hO1.shape
      rw [← HBY.out] at hO1
      have HLN : Hid ((L ++ [y1, y0]).length = N0 + 2) := Lib.hid (by rw [List.length_append, HN0.out]; rfl)
      rw [HLN.out]
      have HO2 := Lib.hid hO1
      have HG2 := Lib.hid hG
      clear hO hO1 hG
      have hF : Hid (RetOB w (bytesN 2 x) (.returned (.slice s0 (N0 + 2) c0)) wr) := Lib.hid ⟨_, rfl, by have h := HO2.out; rw [HLE.out, List.nil_append] at h; rw [← HN0.out, HLE.out]; have e := bytesN_len 2 x; rw [e] at h; exact h, HG2.out⟩
      go_wp2_with fail
      go_ret
      exact hF.out
set_option maxHeartbeats 32000000 in
theorem Bytes_4 (w : World) (x : Int) (hx1 : -9223372036854775808 ≤ x) (hx2 : x ≤ 9223372036854775807) :
    Calls Try.prog 22 #[.int .i64 x, .int .i64 4] w (RetOB w (bytesN 4 x)) := by
  obtain ⟨i1, hi, hz0, hz1, hz2⟩ := info_partsU
  have hc1 : IntKind.u64.wrap x = x % 18446744073709551616 := by unfold IntKind.wrap; simp [IntKind.bits, IntKind.signed]
  obtain ⟨Y, hY⟩ : ∃ Y : Int, x % 18446744073709551616 = Y := ⟨_, rfl⟩
  rw [hY] at hc1
  have hYb : 0 ≤ Y ∧ Y < 18446744073709551616 := by omega
  obtain ⟨hY1, hY2⟩ := hYb
  have hb3 := byte_u64 x 3 (by decide)
  rw [hY] at hb3
  obtain ⟨y3, hy3⟩ : ∃ y, byteN x 3 = y := ⟨_, rfl⟩
  have hl3 := byteN_lt x 3
  rw [hy3] at hb3 hl3
  have c3 : Y / 16777216 % 256 = (y3 : Int) := by simpa using hb3
  have hb2 := byte_u64 x 2 (by decide)
  rw [hY] at hb2
  obtain ⟨y2, hy2⟩ : ∃ y, byteN x 2 = y := ⟨_, rfl⟩
  have hl2 := byteN_lt x 2
  rw [hy2] at hb2 hl2
  have c2 : Y / 65536 % 256 = (y2 : Int) := by simpa using hb2
  have hb1 := byte_u64 x 1 (by decide)
  rw [hY] at hb1
  obtain ⟨y1, hy1⟩ : ∃ y, byteN x 1 = y := ⟨_, rfl⟩
  have hl1 := byteN_lt x 1
  rw [hy1] at hb1 hl1
  have c1 : Y / 256 % 256 = (y1 : Int) := by simpa using hb1
  have hb0 := byte_u64 x 0 (by decide)
  rw [hY] at hb0
  obtain ⟨y0, hy0⟩ : ∃ y, byteN x 0 = y := ⟨_, rfl⟩
  have hl0 := byteN_lt x 0
  rw [hy0] at hb0 hl0
  have c0 : Y % 256 = (y0 : Int) := by simpa using hb0
  have HBY : Hid (bytesN 4 x = [y3, y2, y1, y0]) := Lib.hid (by unfold bytesN; simp [List.range, List.range.loop, hy0, hy1, hy2, hy3])
  clear hb0 hy0 hb1 hy1 hb2 hy2 hb3 hy3
  have HG0 := Lib.hid (grown_refl w none)
  have HO0 := Lib.hid (OwnB.nil w w.heap.size)
  obtain ⟨L, hL⟩ : ∃ L : List Nat, L = [] := ⟨_, rfl⟩
  have HLE := Lib.hid hL
  rw [← hL] at HO0
  obtain ⟨N0, hN0⟩ : ∃ N0, L.length = N0 := ⟨_, rfl⟩
  have HN0 := Lib.hid hN0
  have hN0b : N0 ≤ 8000 := by rw [← hN0, hL]; decide
  clear hY hL hN0
  go_enter Try.func22, Try.ntmps22
  go_wp2_with fail
  go_loopg [5, 7] 4 (fun gh v i wr => ∃ j : Nat, j ≤ 4 ∧ 4 - j ≤ gh ∧ i = .int .i64 (3 - (j : Int)) ∧ OwnB wr w.heap.size v (L ++ (bytesN 4 x).take j) ∧ w.grownBy wr none)
  case atStart => exact ⟨0, Nat.zero_le _, Nat.le_refl _, rfl, by rw [List.take_zero, List.append_nil]; exact HO0.out, HG0.out⟩
  case round =>
    obtain ⟨j, hj, hgh, rfl, hO, hG⟩ := hrel
    rw [HBY.out] at hO
    have hjc : j = 0 ∨ j = 1 ∨ j = 2 ∨ j = 3 ∨ j = 4 := by omega
    rcases hjc with rfl | rfl | rfl | rfl | rfl
    · have hO1 : OwnB wr w.heap.size u5 L := by have h := hO; rw [List.take_zero, List.append_nil] at h; exact h
      obtain ⟨s0, c0, rfl, _, _, _, _⟩ := hO1.shape
      have HLN : Hid ((L).length = N0) := Lib.hid (by exact HN0.out)
      rw [HLN.out] at hO1 ⊢
      have gA := World.grownBy_alloc wr (.cells #[.int .u8 (y3 : Int)] 5) none
      have HNW := Lib.hid (World.news_of_block (cs := #[.int .u8 (y3 : Int)]) (heap_new wr (.cells #[.int .u8 (y3 : Int)] 5) wr.heap.size rfl))
      have HOWN : Hid ((wr.alloc (.cells #[.int .u8 (y3 : Int)] 5)).ownsRow w.heap.size 5 1 (.slice s0 (N0) c0) (N0) (bvs L)) := Lib.hid (by have h := (hO1.kept gA).1; rwa [HLN.out] at h)
      have HL8 := Lib.hid hO1.2
      have HGA := Lib.hid (grown_trans hG gA)
      have HBS := Lib.hid HGA.out.size
      have HM1 : Hid (N0 + 1 ≤ maxLen) := Lib.hid (by unfold maxLen; omega)
      clear gA hO hO1 hG
      go_wp2_with (at_builtin; refine wpList_own_some rfl (.tmp 16) (.tmp 23) 22 rfl w.heap.size 5 i1 (.int .u8 0) 1 1 Try.underlying22 hi hz0 hz1 hz2 rfl (by decide) (.slice s0 (N0) c0) (N0) (bvs L) rfl HOWN.out ⟨wr.heap.size, 0, none⟩ 1 1 (bvs [y3]) rfl rfl HNW.out (bvs_one _) HM1.out (by omega) HBS.out (Or.inr (by decide)) _ rfl ?_)
      intro g2 c2 w2 hown2 hgrow2 hgb2 hcb2 hmb2
      have HG2 := Lib.hid (grown_own HGA.out HOWN.out hgrow2 (Nat.le_refl _))
      have HO2 := Lib.hid (OwnB.of (m := [y3]) hown2 (by rw [HLN.out]; rfl) HL8.out (by intro u hu; simp at hu; omega))
      clear hown2 hgrow2 HOWN HNW
      go_wp2_with fail
      go_roundg 3
      case measure => omega
      case rel => exact ⟨1, by omega, Nat.le_refl _, by go_num, by have h := HO2.out; rw [HBY.out]; exact h, HG2.out⟩
    · have hO1 : OwnB wr w.heap.size u5 (L ++ [y3]) := hO
      obtain ⟨s0, c0, rfl, _, _, _, _⟩ := hO1.shape
      have HLN : Hid (((L ++ [y3])).length = N0 + 1) := Lib.hid (by rw [List.length_append, HN0.out]; rfl)
      rw [HLN.out] at hO1 ⊢
      have gA := World.grownBy_alloc wr (.cells #[.int .u8 (y2 : Int)] 5) none
      have HNW := Lib.hid (World.news_of_block (cs := #[.int .u8 (y2 : Int)]) (heap_new wr (.cells #[.int .u8 (y2 : Int)] 5) wr.heap.size rfl))
      have HOWN : Hid ((wr.alloc (.cells #[.int .u8 (y2 : Int)] 5)).ownsRow w.heap.size 5 1 (.slice s0 (N0 + 1) c0) (N0 + 1) (bvs (L ++ [y3]))) := Lib.hid (by have h := (hO1.kept gA).1; rwa [HLN.out] at h)
      have HL8 := Lib.hid hO1.2
      have HGA := Lib.hid (grown_trans hG gA)
      have HBS := Lib.hid HGA.out.size
      have HM1 : Hid (N0 + 1 + 1 ≤ maxLen) := Lib.hid (by unfold maxLen; omega)
      clear gA hO hO1 hG
      go_wp2_with (at_builtin; refine wpList_own_some rfl (.tmp 16) (.tmp 23) 22 rfl w.heap.size 5 i1 (.int .u8 0) 1 1 Try.underlying22 hi hz0 hz1 hz2 rfl (by decide) (.slice s0 (N0 + 1) c0) (N0 + 1) (bvs (L ++ [y3])) rfl HOWN.out ⟨wr.heap.size, 0, none⟩ 1 1 (bvs [y2]) rfl rfl HNW.out (bvs_one _) HM1.out (by omega) HBS.out (Or.inr (by decide)) _ rfl ?_)
      intro g2 c2 w2 hown2 hgrow2 hgb2 hcb2 hmb2
      have HG2 := Lib.hid (grown_own HGA.out HOWN.out hgrow2 (Nat.le_refl _))
      have HO2 := Lib.hid (OwnB.of (m := [y2]) hown2 (by rw [HLN.out]; rfl) HL8.out (by intro u hu; simp at hu; omega))
      clear hown2 hgrow2 HOWN HNW
      go_wp2_with fail
      go_roundg 2
      case measure => omega
      case rel => exact ⟨2, by omega, Nat.le_refl _, by go_num, by have h := HO2.out; rw [List.append_assoc] at h; rw [HBY.out]; exact h, HG2.out⟩
    · have hO1 : OwnB wr w.heap.size u5 (L ++ [y3, y2]) := hO
      obtain ⟨s0, c0, rfl, _, _, _, _⟩ := hO1.shape
      have HLN : Hid (((L ++ [y3, y2])).length = N0 + 2) := Lib.hid (by rw [List.length_append, HN0.out]; rfl)
      rw [HLN.out] at hO1 ⊢
      have gA := World.grownBy_alloc wr (.cells #[.int .u8 (y1 : Int)] 5) none
      have HNW := Lib.hid (World.news_of_block (cs := #[.int .u8 (y1 : Int)]) (heap_new wr (.cells #[.int .u8 (y1 : Int)] 5) wr.heap.size rfl))
      have HOWN : Hid ((wr.alloc (.cells #[.int .u8 (y1 : Int)] 5)).ownsRow w.heap.size 5 1 (.slice s0 (N0 + 2) c0) (N0 + 2) (bvs (L ++ [y3, y2]))) := Lib.hid (by have h := (hO1.kept gA).1; rwa [HLN.out] at h)
      have HL8 := Lib.hid hO1.2
      have HGA := Lib.hid (grown_trans hG gA)
      have HBS := Lib.hid HGA.out.size
      have HM1 : Hid (N0 + 2 + 1 ≤ maxLen) := Lib.hid (by unfold maxLen; omega)
      clear gA hO hO1 hG
      go_wp2_with (at_builtin; refine wpList_own_some rfl (.tmp 16) (.tmp 23) 22 rfl w.heap.size 5 i1 (.int .u8 0) 1 1 Try.underlying22 hi hz0 hz1 hz2 rfl (by decide) (.slice s0 (N0 + 2) c0) (N0 + 2) (bvs (L ++ [y3, y2])) rfl HOWN.out ⟨wr.heap.size, 0, none⟩ 1 1 (bvs [y1]) rfl rfl HNW.out (bvs_one _) HM1.out (by omega) HBS.out (Or.inr (by decide)) _ rfl ?_)
      intro g2 c2 w2 hown2 hgrow2 hgb2 hcb2 hmb2
      have HG2 := Lib.hid (grown_own HGA.out HOWN.out hgrow2 (Nat.le_refl _))
      have HO2 := Lib.hid (OwnB.of (m := [y1]) hown2 (by rw [HLN.out]; rfl) HL8.out (by intro u hu; simp at hu; omega))
      clear hown2 hgrow2 HOWN HNW
      go_wp2_with fail
      go_roundg 1
      case measure => omega
      case rel => exact ⟨3, by omega, Nat.le_refl _, by go_num, by have h := HO2.out; rw [List.append_assoc] at h; rw [HBY.out]; exact h, HG2.out⟩
    · have hO1 : OwnB wr w.heap.size u5 (L ++ [y3, y2, y1]) := hO
      obtain ⟨s0, c0, rfl, _, _, _, _⟩ := hO1.shape
      have HLN : Hid (((L ++ [y3, y2, y1])).length = N0 + 3) := Lib.hid (by rw [List.length_append, HN0.out]; rfl)
      rw [HLN.out] at hO1 ⊢
      have gA := World.grownBy_alloc wr (.cells #[.int .u8 (y0 : Int)] 5) none
      have HNW := Lib.hid (World.news_of_block (cs := #[.int .u8 (y0 : Int)]) (heap_new wr (.cells #[.int .u8 (y0 : Int)] 5) wr.heap.size rfl))
      have HOWN : Hid ((wr.alloc (.cells #[.int .u8 (y0 : Int)] 5)).ownsRow w.heap.size 5 1 (.slice s0 (N0 + 3) c0) (N0 + 3) (bvs (L ++ [y3, y2, y1]))) := Lib.hid (by have h := (hO1.kept gA).1; rwa [HLN.out] at h)
      have HL8 := Lib.hid hO1.2
      have HGA := Lib.hid (grown_trans hG gA)
      have HBS := Lib.hid HGA.out.size
      have HM1 : Hid (N0 + 3 + 1 ≤ maxLen) := Lib.hid (by unfold maxLen; omega)
      clear gA hO hO1 hG
      go_wp2_with (at_builtin; refine wpList_own_some rfl (.tmp 16) (.tmp 23) 22 rfl w.heap.size 5 i1 (.int .u8 0) 1 1 Try.underlying22 hi hz0 hz1 hz2 rfl (by decide) (.slice s0 (N0 + 3) c0) (N0 + 3) (bvs (L ++ [y3, y2, y1])) rfl HOWN.out ⟨wr.heap.size, 0, none⟩ 1 1 (bvs [y0]) rfl rfl HNW.out (bvs_one _) HM1.out (by omega) HBS.out (Or.inr (by decide)) _ rfl ?_)
      intro g2 c2 w2 hown2 hgrow2 hgb2 hcb2 hmb2
      have HG2 := Lib.hid (grown_own HGA.out HOWN.out hgrow2 (Nat.le_refl _))
      have HO2 := Lib.hid (OwnB.of (m := [y0]) hown2 (by rw [HLN.out]; rfl) HL8.out (by intro u hu; simp at hu; omega))
      clear hown2 hgrow2 HOWN HNW
      go_wp2_with fail
      go_roundg 0
      case measure => omega
      case rel => exact ⟨4, by omega, Nat.le_refl _, by go_num, by have h := HO2.out; rw [List.append_assoc] at h; rw [HBY.out]; exact h, HG2.out⟩
    · have hO1 : OwnB wr w.heap.size _ (L ++ [y3, y2, y1, y0]) := hO
      obtain ⟨s0, c0, rfl, _, _, _, _⟩ := hO1.shape
      rw [← HBY.out] at hO1
      have HLN : Hid ((L ++ [y3, y2, y1, y0]).length = N0 + 4) := Lib.hid (by rw [List.length_append, HN0.out]; rfl)
      rw [HLN.out]
      have HO2 := Lib.hid hO1
      have HG2 := Lib.hid hG
      clear hO hO1 hG
      have hF : Hid (RetOB w (bytesN 4 x) (.returned (.slice s0 (N0 + 4) c0)) wr) := Lib.hid ⟨_, rfl, by have h := HO2.out; rw [HLE.out, List.nil_append] at h; rw [← HN0.out, HLE.out]; have e := bytesN_len 4 x; rw [e] at h; exact h, HG2.out⟩
      go_wp2_with fail
      go_ret
      exact hF.out
set_option maxHeartbeats 32000000 in
theorem Laid_2 (w : World) (s : Option Addr) (n cap : Nat) (zs : List Int) (hn : zs.length = n) (hl : InSl w s zs) (hb : ∀ x ∈ zs, -9223372036854775808 ≤ x ∧ x ≤ 9223372036854775807) (h4 : n ≤ 500) :
    Calls Try.prog 38 #[.slice s n cap, .int .i64 2] w (RetOB w (laidL 2 zs)) := by
  obtain ⟨i1, hi, hz0, hz1, hz2⟩ := info_partsU
  have HL := Lib.hid hl
  have HN := Lib.hid hn
  have HB := Lib.hid hb
  have HQ : Hid (∀ W v, OwnB W w.heap.size v (laidL 2 zs) → w.grownBy W none → RetOB w (laidL 2 zs) (.returned v) W) := Lib.hid (fun W v h1 h2 => ⟨v, rfl, h1, h2⟩)
  obtain ⟨P, hP⟩ : ∃ P, RetOB w (laidL 2 zs) = P := ⟨_, rfl⟩
  rw [hP] at HQ ⊢
  clear hl hn hb hP
  go_enter Try.func38, Try.ntmps38
  go_wp2_with (at_make; refine wpList_make_own _ rfl _ _ 22 rfl w.heap.size 5 i1 (.int .u8 0) 1 Try.underlying22 hi hz0 hz1 .i64 .i64 _ (n * 2) rfl rfl (by first | omega | (unfold wrap64; omega)) (by rw [hz2]; omega) (by unfold maxLen; omega) (Nat.le_refl _) ?_)
  intro w0 hown0 hg0
  have hO : OwnB w0 w.heap.size (.slice (some ⟨w.heap.size, 0, none⟩) 0 (n * 2)) [] := ⟨hown0, by simp⟩
  clear hown0
  go_wp2_with fail
  go_loopg [5, 16] n (fun gh v i wr => ∃ k : Nat, k ≤ n ∧ n - k ≤ gh ∧ i = .int .i64 (k : Int) ∧ OwnB wr w.heap.size v (laidL 2 (zs.take k)) ∧ w.grownBy wr none)
  case atStart => exact ⟨0, Nat.zero_le _, Nat.le_refl _, rfl, hO, hg0⟩
  case round =>
    clear hO hg0
    obtain ⟨k, hk, hgh, rfl, hO, hG⟩ := hrel
    by_cases hlt : k < n
    · have f1 : decide ((k : Int) < (n : Int)) = true := decide_eq_true (by omega)
      have hkz : k < zs.length := by rw [HN.out]; exact hlt
      obtain ⟨a, rfl, hcell⟩ := HL.out k hkz
      have hxb := HB.out _ (List.getElem_mem hkz)
      have hT := laidL_take 2 zs k hkz
      obtain ⟨x, hx⟩ : ∃ x, zs[k] = x := ⟨_, rfl⟩
      rw [hx] at hcell hxb hT
      have HT := Lib.hid hT
      obtain ⟨hx1, hx2⟩ := hxb
      replace hcell := hG.cell hcell (by simp)
      obtain ⟨L, hL⟩ : ∃ L, laidL 2 (zs.take k) = L := ⟨_, rfl⟩
      rw [hL] at hO HT
      have hN0b : L.length ≤ 8000 := by rw [← hL, laidL_len, List.length_take]; omega
      obtain ⟨N0, hN0⟩ : ∃ N0, L.length = N0 := ⟨_, rfl⟩
      obtain ⟨s0, c0, rfl, _, _, _, _⟩ := hO.shape
      have HN0 := Lib.hid hN0
      rw [hN0] at hN0b ⊢
      have HO0 : Hid (OwnB wr w.heap.size (.slice s0 N0 c0) L) := Lib.hid (by rw [← hN0]; exact hO)
      have HG0 := Lib.hid hG
      clear hx hT hL hN0 hO hG
      have hb1 := byte_i64 x 1
      obtain ⟨y1, hy1⟩ : ∃ y, byteN x 1 = y := ⟨_, rfl⟩
      have hl1 := byteN_lt x 1
      rw [hy1] at hb1 hl1
      have c1 : x / 256 % 256 = (y1 : Int) := by simpa using hb1
      have hb0 := byte_i64 x 0
      obtain ⟨y0, hy0⟩ : ∃ y, byteN x 0 = y := ⟨_, rfl⟩
      have hl0 := byteN_lt x 0
      rw [hy0] at hb0 hl0
      have c0 : x % 256 = (y0 : Int) := by simpa using hb0
      have HBY : Hid (bytesN 2 x = [y1, y0]) := Lib.hid (by unfold bytesN; simp [List.range, List.range.loop, hy0, hy1])
      clear hb0 hy0 hb1 hy1
      go_wp2_with fail
      go_loopg [5, 8] 2 (fun gh v i wr => ∃ j : Nat, j ≤ 2 ∧ 2 - j ≤ gh ∧ i = .int .i64 (1 - (j : Int)) ∧ OwnB wr w.heap.size v (L ++ (bytesN 2 x).take j) ∧ w.grownBy wr none)
      case atStart => exact ⟨0, Nat.zero_le _, Nat.le_refl _, rfl, by rw [List.take_zero, List.append_nil]; exact HO0.out, HG0.out⟩
      case round =>
        obtain ⟨j, hj, hgh, rfl, hO, hG⟩ := hrel
        rw [HBY.out] at hO
        have hjc : j = 0 ∨ j = 1 ∨ j = 2 := by omega
        rcases hjc with rfl | rfl | rfl
        · have hO1 : OwnB wr w.heap.size u5 L := by have h := hO; rw [List.take_zero, List.append_nil] at h; exact h
          obtain ⟨s0, c0, rfl, _, _, _, _⟩ := hO1.shape
          have HLN : Hid ((L).length = N0) := Lib.hid (by exact HN0.out)
          rw [HLN.out] at hO1 ⊢
          have gA := World.grownBy_alloc wr (.cells #[.int .u8 (y1 : Int)] 5) none
          have HNW := Lib.hid (World.news_of_block (cs := #[.int .u8 (y1 : Int)]) (heap_new wr (.cells #[.int .u8 (y1 : Int)] 5) wr.heap.size rfl))
          have HOWN : Hid ((wr.alloc (.cells #[.int .u8 (y1 : Int)] 5)).ownsRow w.heap.size 5 1 (.slice s0 (N0) c0) (N0) (bvs L)) := Lib.hid (by have h := (hO1.kept gA).1; rwa [HLN.out] at h)
          have HL8 := Lib.hid hO1.2
          have HGA := Lib.hid (grown_trans hG gA)
          have HBS := Lib.hid HGA.out.size
          have HM1 : Hid (N0 + 1 ≤ maxLen) := Lib.hid (by unfold maxLen; omega)
          clear gA hO hO1 hG
          go_wp2_with (at_builtin; refine wpList_own_some rfl (.tmp 26) (.tmp 32) 22 rfl w.heap.size 5 i1 (.int .u8 0) 1 1 Try.underlying22 hi hz0 hz1 hz2 rfl (by decide) (.slice s0 (N0) c0) (N0) (bvs L) rfl HOWN.out ⟨wr.heap.size, 0, none⟩ 1 1 (bvs [y1]) rfl rfl HNW.out (bvs_one _) HM1.out (by omega) HBS.out (Or.inr (by decide)) _ rfl ?_)
          intro g2 c2 w2 hown2 hgrow2 hgb2 hcb2 hmb2
          have HG2 := Lib.hid (grown_own HGA.out HOWN.out hgrow2 (Nat.le_refl _))
          have HO2 := Lib.hid (OwnB.of (m := [y1]) hown2 (by rw [HLN.out]; rfl) HL8.out (by intro u hu; simp at hu; omega))
          clear hown2 hgrow2 HOWN HNW
          go_wp2_with fail
          go_roundg 1
          case measure => omega
          case rel => exact ⟨1, by omega, Nat.le_refl _, by go_num, by have h := HO2.out; rw [HBY.out]; exact h, HG2.out⟩
        · have hO1 : OwnB wr w.heap.size u5 (L ++ [y1]) := hO
          obtain ⟨s0, c0, rfl, _, _, _, _⟩ := hO1.shape
          have HLN : Hid (((L ++ [y1])).length = N0 + 1) := Lib.hid (by rw [List.length_append, HN0.out]; rfl)
          rw [HLN.out] at hO1 ⊢
          have gA := World.grownBy_alloc wr (.cells #[.int .u8 (y0 : Int)] 5) none
          have HNW := Lib.hid (World.news_of_block (cs := #[.int .u8 (y0 : Int)]) (heap_new wr (.cells #[.int .u8 (y0 : Int)] 5) wr.heap.size rfl))
          have HOWN : Hid ((wr.alloc (.cells #[.int .u8 (y0 : Int)] 5)).ownsRow w.heap.size 5 1 (.slice s0 (N0 + 1) c0) (N0 + 1) (bvs (L ++ [y1]))) := Lib.hid (by have h := (hO1.kept gA).1; rwa [HLN.out] at h)
          have HL8 := Lib.hid hO1.2
          have HGA := Lib.hid (grown_trans hG gA)
          have HBS := Lib.hid HGA.out.size
          have HM1 : Hid (N0 + 1 + 1 ≤ maxLen) := Lib.hid (by unfold maxLen; omega)
          clear gA hO hO1 hG
          go_wp2_with (at_builtin; refine wpList_own_some rfl (.tmp 26) (.tmp 32) 22 rfl w.heap.size 5 i1 (.int .u8 0) 1 1 Try.underlying22 hi hz0 hz1 hz2 rfl (by decide) (.slice s0 (N0 + 1) c0) (N0 + 1) (bvs (L ++ [y1])) rfl HOWN.out ⟨wr.heap.size, 0, none⟩ 1 1 (bvs [y0]) rfl rfl HNW.out (bvs_one _) HM1.out (by omega) HBS.out (Or.inr (by decide)) _ rfl ?_)
          intro g2 c2 w2 hown2 hgrow2 hgb2 hcb2 hmb2
          have HG2 := Lib.hid (grown_own HGA.out HOWN.out hgrow2 (Nat.le_refl _))
          have HO2 := Lib.hid (OwnB.of (m := [y0]) hown2 (by rw [HLN.out]; rfl) HL8.out (by intro u hu; simp at hu; omega))
          clear hown2 hgrow2 HOWN HNW
          go_wp2_with fail
          go_roundg 0
          case measure => omega
          case rel => exact ⟨2, by omega, Nat.le_refl _, by go_num, by have h := HO2.out; rw [List.append_assoc] at h; rw [HBY.out]; exact h, HG2.out⟩
        · have hO1 : OwnB wr w.heap.size _ (L ++ [y1, y0]) := hO
          obtain ⟨s0, c0, rfl, _, _, _, _⟩ := hO1.shape
          rw [← HBY.out] at hO1
          have HLN : Hid ((L ++ [y1, y0]).length = N0 + 2) := Lib.hid (by rw [List.length_append, HN0.out]; rfl)
          rw [HLN.out]
          have HO2 := Lib.hid hO1
          have HG2 := Lib.hid hG
          clear hO hO1 hG
          have HO3 : Hid (OwnB wr w.heap.size (.slice s0 (N0 + 2) c0) (laidL 2 (zs.take (k + 1)))) := Lib.hid (by rw [HT.out]; have h := HO2.out; rwa [show (L ++ bytesN 2 x).length = N0 + 2 from by rw [List.length_append, HN0.out, bytesN_len]] at h)
          go_wp2_with fail
          go_roundg (n - (k + 1))
          case measure => omega
          case rel => exact ⟨k + 1, by omega, Nat.le_refl _, by go_num, HO3.out, HG2.out⟩
    · have f1 : decide ((k : Int) < (n : Int)) = false := decide_eq_false (by omega)
      have hkn : k = n := by omega
      have hT : Hid (laidL 2 (zs.take k) = laidL 2 zs) := Lib.hid (by rw [hkn, ← HN.out, List.take_length])
      rw [hT.out] at hO
      obtain ⟨s0, c0, rfl, _, _, _, _⟩ := hO.shape
      have hF := Lib.hid (HQ.out _ _ hO hG)
      clear hO hG hkn
      go_wp2_with fail
      exact hF.out
set_option maxHeartbeats 32000000 in
theorem Laid_4 (w : World) (s : Option Addr) (n cap : Nat) (zs : List Int) (hn : zs.length = n) (hl : InSl w s zs) (hb : ∀ x ∈ zs, -9223372036854775808 ≤ x ∧ x ≤ 9223372036854775807) (h4 : n ≤ 500) :
    Calls Try.prog 38 #[.slice s n cap, .int .i64 4] w (RetOB w (laidL 4 zs)) := by
  obtain ⟨i1, hi, hz0, hz1, hz2⟩ := info_partsU
  have HL := Lib.hid hl
  have HN := Lib.hid hn
  have HB := Lib.hid hb
  have HQ : Hid (∀ W v, OwnB W w.heap.size v (laidL 4 zs) → w.grownBy W none → RetOB w (laidL 4 zs) (.returned v) W) := Lib.hid (fun W v h1 h2 => ⟨v, rfl, h1, h2⟩)
  obtain ⟨P, hP⟩ : ∃ P, RetOB w (laidL 4 zs) = P := ⟨_, rfl⟩
  rw [hP] at HQ ⊢
  clear hl hn hb hP
  go_enter Try.func38, Try.ntmps38
  go_wp2_with (at_make; refine wpList_make_own _ rfl _ _ 22 rfl w.heap.size 5 i1 (.int .u8 0) 1 Try.underlying22 hi hz0 hz1 .i64 .i64 _ (n * 4) rfl rfl (by first | omega | (unfold wrap64; omega)) (by rw [hz2]; omega) (by unfold maxLen; omega) (Nat.le_refl _) ?_)
  intro w0 hown0 hg0
  have hO : OwnB w0 w.heap.size (.slice (some ⟨w.heap.size, 0, none⟩) 0 (n * 4)) [] := ⟨hown0, by simp⟩
  clear hown0
  go_wp2_with fail
  go_loopg [5, 16] n (fun gh v i wr => ∃ k : Nat, k ≤ n ∧ n - k ≤ gh ∧ i = .int .i64 (k : Int) ∧ OwnB wr w.heap.size v (laidL 4 (zs.take k)) ∧ w.grownBy wr none)
  case atStart => exact ⟨0, Nat.zero_le _, Nat.le_refl _, rfl, hO, hg0⟩
  case round =>
    clear hO hg0
    obtain ⟨k, hk, hgh, rfl, hO, hG⟩ := hrel
    by_cases hlt : k < n
    · have f1 : decide ((k : Int) < (n : Int)) = true := decide_eq_true (by omega)
      have hkz : k < zs.length := by rw [HN.out]; exact hlt
      obtain ⟨a, rfl, hcell⟩ := HL.out k hkz
      have hxb := HB.out _ (List.getElem_mem hkz)
      have hT := laidL_take 4 zs k hkz
      obtain ⟨x, hx⟩ : ∃ x, zs[k] = x := ⟨_, rfl⟩
      rw [hx] at hcell hxb hT
      have HT := Lib.hid hT
      obtain ⟨hx1, hx2⟩ := hxb
      replace hcell := hG.cell hcell (by simp)
      obtain ⟨L, hL⟩ : ∃ L, laidL 4 (zs.take k) = L := ⟨_, rfl⟩
      rw [hL] at hO HT
      have hN0b : L.length ≤ 8000 := by rw [← hL, laidL_len, List.length_take]; omega
      obtain ⟨N0, hN0⟩ : ∃ N0, L.length = N0 := ⟨_, rfl⟩
      obtain ⟨s0, c0, rfl, _, _, _, _⟩ := hO.shape
      have HN0 := Lib.hid hN0
      rw [hN0] at hN0b ⊢
      have HO0 : Hid (OwnB wr w.heap.size (.slice s0 N0 c0) L) := Lib.hid (by rw [← hN0]; exact hO)
      have HG0 := Lib.hid hG
      clear hx hT hL hN0 hO hG
      have hb3 := byte_i64 x 3
      obtain ⟨y3, hy3⟩ : ∃ y, byteN x 3 = y := ⟨_, rfl⟩
      have hl3 := byteN_lt x 3
      rw [hy3] at hb3 hl3
      have c3 : x / 16777216 % 256 = (y3 : Int) := by simpa using hb3
      have hb2 := byte_i64 x 2
      obtain ⟨y2, hy2⟩ : ∃ y, byteN x 2 = y := ⟨_, rfl⟩
      have hl2 := byteN_lt x 2
      rw [hy2] at hb2 hl2
      have c2 : x / 65536 % 256 = (y2 : Int) := by simpa using hb2
      have hb1 := byte_i64 x 1
      obtain ⟨y1, hy1⟩ : ∃ y, byteN x 1 = y := ⟨_, rfl⟩
      have hl1 := byteN_lt x 1
      rw [hy1] at hb1 hl1
      have c1 : x / 256 % 256 = (y1 : Int) := by simpa using hb1
      have hb0 := byte_i64 x 0
      obtain ⟨y0, hy0⟩ : ∃ y, byteN x 0 = y := ⟨_, rfl⟩
      have hl0 := byteN_lt x 0
      rw [hy0] at hb0 hl0
      have c0 : x % 256 = (y0 : Int) := by simpa using hb0
      have HBY : Hid (bytesN 4 x = [y3, y2, y1, y0]) := Lib.hid (by unfold bytesN; simp [List.range, List.range.loop, hy0, hy1, hy2, hy3])
      clear hb0 hy0 hb1 hy1 hb2 hy2 hb3 hy3
      go_wp2_with fail
      go_loopg [5, 8] 4 (fun gh v i wr => ∃ j : Nat, j ≤ 4 ∧ 4 - j ≤ gh ∧ i = .int .i64 (3 - (j : Int)) ∧ OwnB wr w.heap.size v (L ++ (bytesN 4 x).take j) ∧ w.grownBy wr none)
      case atStart => exact ⟨0, Nat.zero_le _, Nat.le_refl _, rfl, by rw [List.take_zero, List.append_nil]; exact HO0.out, HG0.out⟩
      case round =>
        obtain ⟨j, hj, hgh, rfl, hO, hG⟩ := hrel
        rw [HBY.out] at hO
        have hjc : j = 0 ∨ j = 1 ∨ j = 2 ∨ j = 3 ∨ j = 4 := by omega
        rcases hjc with rfl | rfl | rfl | rfl | rfl
        · have hO1 : OwnB wr w.heap.size u5 L := by have h := hO; rw [List.take_zero, List.append_nil] at h; exact h
          obtain ⟨s0, c0, rfl, _, _, _, _⟩ := hO1.shape
          have HLN : Hid ((L).length = N0) := Lib.hid (by exact HN0.out)
          rw [HLN.out] at hO1 ⊢
          have gA := World.grownBy_alloc wr (.cells #[.int .u8 (y3 : Int)] 5) none
          have HNW := Lib.hid (World.news_of_block (cs := #[.int .u8 (y3 : Int)]) (heap_new wr (.cells #[.int .u8 (y3 : Int)] 5) wr.heap.size rfl))
          have HOWN : Hid ((wr.alloc (.cells #[.int .u8 (y3 : Int)] 5)).ownsRow w.heap.size 5 1 (.slice s0 (N0) c0) (N0) (bvs L)) := Lib.hid (by have h := (hO1.kept gA).1; rwa [HLN.out] at h)
          have HL8 := Lib.hid hO1.2
          have HGA := Lib.hid (grown_trans hG gA)
          have HBS := Lib.hid HGA.out.size
          have HM1 : Hid (N0 + 1 ≤ maxLen) := Lib.hid (by unfold maxLen; omega)
          clear gA hO hO1 hG
          go_wp2_with (at_builtin; refine wpList_own_some rfl (.tmp 26) (.tmp 32) 22 rfl w.heap.size 5 i1 (.int .u8 0) 1 1 Try.underlying22 hi hz0 hz1 hz2 rfl (by decide) (.slice s0 (N0) c0) (N0) (bvs L) rfl HOWN.out ⟨wr.heap.size, 0, none⟩ 1 1 (bvs [y3]) rfl rfl HNW.out (bvs_one _) HM1.out (by omega) HBS.out (Or.inr (by decide)) _ rfl ?_)
          intro g2 c2 w2 hown2 hgrow2 hgb2 hcb2 hmb2
          have HG2 := Lib.hid (grown_own HGA.out HOWN.out hgrow2 (Nat.le_refl _))
          have HO2 := Lib.hid (OwnB.of (m := [y3]) hown2 (by rw [HLN.out]; rfl) HL8.out (by intro u hu; simp at hu; omega))
          clear hown2 hgrow2 HOWN HNW
          go_wp2_with fail
          go_roundg 3
          case measure => omega
          case rel => exact ⟨1, by omega, Nat.le_refl _, by go_num, by have h := HO2.out; rw [HBY.out]; exact h, HG2.out⟩
        · have hO1 : OwnB wr w.heap.size u5 (L ++ [y3]) := hO
          obtain ⟨s0, c0, rfl, _, _, _, _⟩ := hO1.shape
          have HLN : Hid (((L ++ [y3])).length = N0 + 1) := Lib.hid (by rw [List.length_append, HN0.out]; rfl)
          rw [HLN.out] at hO1 ⊢
          have gA := World.grownBy_alloc wr (.cells #[.int .u8 (y2 : Int)] 5) none
          have HNW := Lib.hid (World.news_of_block (cs := #[.int .u8 (y2 : Int)]) (heap_new wr (.cells #[.int .u8 (y2 : Int)] 5) wr.heap.size rfl))
          have HOWN : Hid ((wr.alloc (.cells #[.int .u8 (y2 : Int)] 5)).ownsRow w.heap.size 5 1 (.slice s0 (N0 + 1) c0) (N0 + 1) (bvs (L ++ [y3]))) := Lib.hid (by have h := (hO1.kept gA).1; rwa [HLN.out] at h)
          have HL8 := Lib.hid hO1.2
          have HGA := Lib.hid (grown_trans hG gA)
          have HBS := Lib.hid HGA.out.size
          have HM1 : Hid (N0 + 1 + 1 ≤ maxLen) := Lib.hid (by unfold maxLen; omega)
          clear gA hO hO1 hG
          go_wp2_with (at_builtin; refine wpList_own_some rfl (.tmp 26) (.tmp 32) 22 rfl w.heap.size 5 i1 (.int .u8 0) 1 1 Try.underlying22 hi hz0 hz1 hz2 rfl (by decide) (.slice s0 (N0 + 1) c0) (N0 + 1) (bvs (L ++ [y3])) rfl HOWN.out ⟨wr.heap.size, 0, none⟩ 1 1 (bvs [y2]) rfl rfl HNW.out (bvs_one _) HM1.out (by omega) HBS.out (Or.inr (by decide)) _ rfl ?_)
          intro g2 c2 w2 hown2 hgrow2 hgb2 hcb2 hmb2
          have HG2 := Lib.hid (grown_own HGA.out HOWN.out hgrow2 (Nat.le_refl _))
          have HO2 := Lib.hid (OwnB.of (m := [y2]) hown2 (by rw [HLN.out]; rfl) HL8.out (by intro u hu; simp at hu; omega))
          clear hown2 hgrow2 HOWN HNW
          go_wp2_with fail
          go_roundg 2
          case measure => omega
          case rel => exact ⟨2, by omega, Nat.le_refl _, by go_num, by have h := HO2.out; rw [List.append_assoc] at h; rw [HBY.out]; exact h, HG2.out⟩
        · have hO1 : OwnB wr w.heap.size u5 (L ++ [y3, y2]) := hO
          obtain ⟨s0, c0, rfl, _, _, _, _⟩ := hO1.shape
          have HLN : Hid (((L ++ [y3, y2])).length = N0 + 2) := Lib.hid (by rw [List.length_append, HN0.out]; rfl)
          rw [HLN.out] at hO1 ⊢
          have gA := World.grownBy_alloc wr (.cells #[.int .u8 (y1 : Int)] 5) none
          have HNW := Lib.hid (World.news_of_block (cs := #[.int .u8 (y1 : Int)]) (heap_new wr (.cells #[.int .u8 (y1 : Int)] 5) wr.heap.size rfl))
          have HOWN : Hid ((wr.alloc (.cells #[.int .u8 (y1 : Int)] 5)).ownsRow w.heap.size 5 1 (.slice s0 (N0 + 2) c0) (N0 + 2) (bvs (L ++ [y3, y2]))) := Lib.hid (by have h := (hO1.kept gA).1; rwa [HLN.out] at h)
          have HL8 := Lib.hid hO1.2
          have HGA := Lib.hid (grown_trans hG gA)
          have HBS := Lib.hid HGA.out.size
          have HM1 : Hid (N0 + 2 + 1 ≤ maxLen) := Lib.hid (by unfold maxLen; omega)
          clear gA hO hO1 hG
          go_wp2_with (at_builtin; refine wpList_own_some rfl (.tmp 26) (.tmp 32) 22 rfl w.heap.size 5 i1 (.int .u8 0) 1 1 Try.underlying22 hi hz0 hz1 hz2 rfl (by decide) (.slice s0 (N0 + 2) c0) (N0 + 2) (bvs (L ++ [y3, y2])) rfl HOWN.out ⟨wr.heap.size, 0, none⟩ 1 1 (bvs [y1]) rfl rfl HNW.out (bvs_one _) HM1.out (by omega) HBS.out (Or.inr (by decide)) _ rfl ?_)
          intro g2 c2 w2 hown2 hgrow2 hgb2 hcb2 hmb2
          have HG2 := Lib.hid (grown_own HGA.out HOWN.out hgrow2 (Nat.le_refl _))
          have HO2 := Lib.hid (OwnB.of (m := [y1]) hown2 (by rw [HLN.out]; rfl) HL8.out (by intro u hu; simp at hu; omega))
          clear hown2 hgrow2 HOWN HNW
          go_wp2_with fail
          go_roundg 1
          case measure => omega
          case rel => exact ⟨3, by omega, Nat.le_refl _, by go_num, by have h := HO2.out; rw [List.append_assoc] at h; rw [HBY.out]; exact h, HG2.out⟩
        · have hO1 : OwnB wr w.heap.size u5 (L ++ [y3, y2, y1]) := hO
          obtain ⟨s0, c0, rfl, _, _, _, _⟩ := hO1.shape
          have HLN : Hid (((L ++ [y3, y2, y1])).length = N0 + 3) := Lib.hid (by rw [List.length_append, HN0.out]; rfl)
          rw [HLN.out] at hO1 ⊢
          have gA := World.grownBy_alloc wr (.cells #[.int .u8 (y0 : Int)] 5) none
          have HNW := Lib.hid (World.news_of_block (cs := #[.int .u8 (y0 : Int)]) (heap_new wr (.cells #[.int .u8 (y0 : Int)] 5) wr.heap.size rfl))
          have HOWN : Hid ((wr.alloc (.cells #[.int .u8 (y0 : Int)] 5)).ownsRow w.heap.size 5 1 (.slice s0 (N0 + 3) c0) (N0 + 3) (bvs (L ++ [y3, y2, y1]))) := Lib.hid (by have h := (hO1.kept gA).1; rwa [HLN.out] at h)
          have HL8 := Lib.hid hO1.2
          have HGA := Lib.hid (grown_trans hG gA)
          have HBS := Lib.hid HGA.out.size
          have HM1 : Hid (N0 + 3 + 1 ≤ maxLen) := Lib.hid (by unfold maxLen; omega)
          clear gA hO hO1 hG
          go_wp2_with (at_builtin; refine wpList_own_some rfl (.tmp 26) (.tmp 32) 22 rfl w.heap.size 5 i1 (.int .u8 0) 1 1 Try.underlying22 hi hz0 hz1 hz2 rfl (by decide) (.slice s0 (N0 + 3) c0) (N0 + 3) (bvs (L ++ [y3, y2, y1])) rfl HOWN.out ⟨wr.heap.size, 0, none⟩ 1 1 (bvs [y0]) rfl rfl HNW.out (bvs_one _) HM1.out (by omega) HBS.out (Or.inr (by decide)) _ rfl ?_)
          intro g2 c2 w2 hown2 hgrow2 hgb2 hcb2 hmb2
          have HG2 := Lib.hid (grown_own HGA.out HOWN.out hgrow2 (Nat.le_refl _))
          have HO2 := Lib.hid (OwnB.of (m := [y0]) hown2 (by rw [HLN.out]; rfl) HL8.out (by intro u hu; simp at hu; omega))
          clear hown2 hgrow2 HOWN HNW
          go_wp2_with fail
          go_roundg 0
          case measure => omega
          case rel => exact ⟨4, by omega, Nat.le_refl _, by go_num, by have h := HO2.out; rw [List.append_assoc] at h; rw [HBY.out]; exact h, HG2.out⟩
        · have hO1 : OwnB wr w.heap.size _ (L ++ [y3, y2, y1, y0]) := hO
          obtain ⟨s0, c0, rfl, _, _, _, _⟩ := hO1.shape
          rw [← HBY.out] at hO1
          have HLN : Hid ((L ++ [y3, y2, y1, y0]).length = N0 + 4) := Lib.hid (by rw [List.length_append, HN0.out]; rfl)
          rw [HLN.out]
          have HO2 := Lib.hid hO1
          have HG2 := Lib.hid hG
          clear hO hO1 hG
          have HO3 : Hid (OwnB wr w.heap.size (.slice s0 (N0 + 4) c0) (laidL 4 (zs.take (k + 1)))) := Lib.hid (by rw [HT.out]; have h := HO2.out; rwa [show (L ++ bytesN 4 x).length = N0 + 4 from by rw [List.length_append, HN0.out, bytesN_len]] at h)
          go_wp2_with fail
          go_roundg (n - (k + 1))
          case measure => omega
          case rel => exact ⟨k + 1, by omega, Nat.le_refl _, by go_num, HO3.out, HG2.out⟩
    · have f1 : decide ((k : Int) < (n : Int)) = false := decide_eq_false (by omega)
      have hkn : k = n := by omega
      have hT : Hid (laidL 4 (zs.take k) = laidL 4 zs) := Lib.hid (by rw [hkn, ← HN.out, List.take_length])
      rw [hT.out] at hO
      obtain ⟨s0, c0, rfl, _, _, _, _⟩ := hO.shape
      have hF := Lib.hid (HQ.out _ _ hO hG)
      clear hO hG hkn
      go_wp2_with fail
      exact hF.out
set_option maxHeartbeats 16000000 in
theorem OfShorts_any (w : World) (s : Option Addr) (n cap : Nat) (zs : List Int) (hn : zs.length = n) (hl : InSl w s zs) (hb : ∀ x ∈ zs, -9223372036854775808 ≤ x ∧ x ≤ 9223372036854775807) (h4 : n ≤ 500) :
    Calls Try.prog 23 #[.slice s n cap] w (RetOB w (laidL 2 zs)) := by
  have HN := Lib.hid (Laid_2 w s n cap zs hn hl hb h4)
  clear hn hl hb
  go_enter Try.func23, Try.ntmps23
  go_wp2_with fail
  refine HN.out.mono ?_
  rintro e w1 ⟨v, rfl, hO, hg⟩
  obtain ⟨s0, c0, rfl, _, _, _, _⟩ := hO.shape
  go_wp2_with fail
  go_ret
  exact ⟨_, rfl, hO, hg⟩
set_option maxHeartbeats 16000000 in
theorem OfLongs_any (w : World) (s : Option Addr) (n cap : Nat) (zs : List Int) (hn : zs.length = n) (hl : InSl w s zs) (hb : ∀ x ∈ zs, -9223372036854775808 ≤ x ∧ x ≤ 9223372036854775807) (h4 : n ≤ 500) :
    Calls Try.prog 24 #[.slice s n cap] w (RetOB w (laidL 4 zs)) := by
  have HN := Lib.hid (Laid_4 w s n cap zs hn hl hb h4)
  clear hn hl hb
  go_enter Try.func24, Try.ntmps24
  go_wp2_with fail
  refine HN.out.mono ?_
  rintro e w1 ⟨v, rfl, hO, hg⟩
  obtain ⟨s0, c0, rfl, _, _, _, _⟩ := hO.shape
  go_wp2_with fail
  go_ret
  exact ⟨_, rfl, hO, hg⟩
end Go.Proofs.Yteienakimdpfhaa
