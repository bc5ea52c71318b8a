/- RecordBack: the law's walk. -/
import Derived.Test.YteienakimdpfhaaKBack
namespace Go.Proofs.Yteienakimdpfhaa
open Go.RowKit
set_option maxRecDepth 100000
set_option linter.unusedVariables false
set_option linter.unusedSimpArgs false

theorem news_rec (W : World) (u0 u1 u2 : Value) : ∀ j u, ([u0, u1, u2] : List Value)[j]? = some u → (W.alloc (.cells #[u0, u1, u2] 24)).cell? ((⟨W.heap.size, 0, none⟩ : Addr).add j) = some u :=
  (own_oneR (W := W) (b := 0) (u0 := u0) (u1 := u1) (u2 := u2) (Nat.zero_le _)).cells rfl
set_option maxHeartbeats 64000000 in
theorem recordBack_walk (w : World) (s : Option Addr) (n cap : Nat) (rs0 : List KRec) (hn : rs0.length = n) (hl : RcSl w s rs0) (hk : ∀ r ∈ rs0, r.1 < 256 ∧ r.2.1 < 256) (hz : s = none → n = 0 ∧ cap = 0) (hc : n ≤ cap) (hm : cap ≤ 9223372036854775807) (Z : Int) (hZ : (Lit.int .i64 Z).wf = true) :
    Calls Try.prog 6 #[.slice s n cap, .int .i64 Z] w (RetYes w) := by
  obtain ⟨i1, hi, hz0, hz1, hz2⟩ := info_partsR
  obtain ⟨i2, hi2, hy0, hy1, hy2⟩ := info_partsU
  have HW := Lib.hid (Few_any w s n cap rs0 hn hl (fun e => (hz e).1) hc hm)
  obtain ⟨m, hm0⟩ : ∃ m, min n 200 = m := ⟨_, rfl⟩
  obtain ⟨rs, hrs⟩ : ∃ rs, rs0.take m = rs := ⟨_, rfl⟩
  have hrn : rs.length = m := by rw [← hrs, List.length_take]; omega
  have hlr : RcSl w s rs := by rw [← hrs]; exact hl.take m
  have hkr : ∀ r ∈ rs, r.1 < 256 ∧ r.2.1 < 256 := fun r hr => hk r (by rw [← hrs] at hr; exact List.mem_of_mem_take hr)
  have hmb : m ≤ 200 := by omega
  unfold RetFew at HW
  rw [hm0, hrs] at HW
  have HR := Lib.hid hlr
  have HN := Lib.hid hrn
  have HK := Lib.hid hkr
  have HZ := Lib.hid hZ
  clear hl hk hn hm0 hrs hlr hkr hrn hz hc hZ
  go_enter Try.func6, Try.ntmps6
  go_wp2_with fail
  refine HW.out.mono ?_
  rintro e w0 ⟨rfl, ⟨rfl, hsum⟩ | rfl⟩
  · have HJ := Lib.hid (endR_len (by rw [HN.out]; exact hmb) hsum)
    clear hsum
    go_wp2_with fail
    refine (Known_any _).mono ?_
    rintro e w1 ⟨rfl, hg1⟩
    have hG := hg1
    clear hg1
    go_wp2_with fail
    go_loopg [6, 7] m (fun gh v i wr => ∃ k : Nat, k ≤ m ∧ m - k ≤ gh ∧ i = .int .i64 (k : Int) ∧ OwnQ w0 wr v (fil (rs.take k)))
    case atStart => exact ⟨0, Nat.zero_le _, Nat.le_refl _, rfl, OwnQ.nil hG⟩
    case round =>
      clear hG
      obtain ⟨k, hk, hgh, rfl, hO⟩ := hrel
      obtain ⟨s0, c0, rfl⟩ := hO.shape
      obtain ⟨L, hL⟩ : ∃ L, fil (rs.take k) = L := ⟨_, rfl⟩
      have HLQ := Lib.hid hL
      have hLk : L.length ≤ 200 := by rw [← hL]; have h1 := fil_len (rs.take k); rw [List.length_take] at h1; omega
      rw [hL] at hO ⊢
      clear hL
      obtain ⟨xs, hown, hone, hG, hxs⟩ := hO
      by_cases hlt : k < m
      · have f1 : decide ((k : Int) < (m : Int)) = true := decide_eq_true (by omega)
        have hkr : k < rs.length := by rw [HN.out]; exact hlt
        obtain ⟨a, q, sb, cb, kd, dt, bd, rfl, hq, hr, A0, A1, A2, HBY, hzz, hcb, hmb2⟩ := HR.out.at k hkr
        have HT1 : Hid (kd ≠ 4 → fil (rs.take (k + 1)) = L ++ [(kd, dt, bd)]) := Lib.hid (fun h => by rw [fil_take_ne hkr (by rw [hr]; exact h), HLQ.out, hr])
        have HT2 : Hid (kd = 4 → fil (rs.take (k + 1)) = L) := Lib.hid (fun h => by rw [fil_take_eq hkr (by rw [hr]; exact h), HLQ.out])
        replace A0 := hG.cell A0 (by simp)
        replace A1 := hG.cell A1 (by simp)
        replace A2 := hG.cell A2 (by simp)
        have gA := World.grownBy_alloc wr (.cells #[.int .u8 (kd : Int), .int .u8 (dt : Int), .slice sb bd.length cb] 24) none
        have Bt := heap_new wr (.cells #[.int .u8 (kd : Int), .int .u8 (dt : Int), .slice sb bd.length cb] 24) wr.heap.size rfl
        obtain ⟨C0, C1, C2, _, _, _⟩ := box_cells3 Bt
        have HXL : Hid (xs.length = L.length * 3) := Lib.hid hown.1
        have HY := Lib.hid (And.intro HBY (And.intro hzz (And.intro hcb hmb2)))
        by_cases hk4 : kd = 4
        · have f2 : ((kd : Int) != 4) = false := by rw [hk4]; rfl
          have HO : Hid (OwnQ w0 (wr.alloc (.cells #[.int .u8 (kd : Int), .int .u8 (dt : Int), .slice sb bd.length cb] 24)) (.slice s0 L.length c0) L) := Lib.hid ⟨xs, own_kept hown gA, hone, grown_trans hG gA, hxs⟩
          have HTE := Lib.hid (HT2.out hk4)
          clear hk4 hown hone hG hxs gA Bt HBY hr HT1 HT2
          go_wp2_with fail
          go_roundg (m - (k + 1))
          case measure => omega
          case rel => exact ⟨k + 1, by omega, Nat.le_refl _, by go_num, by rw [HTE.out]; exact HO.out⟩
        · have f2 : ((kd : Int) != 4) = true := bne_iff_ne.2 (by omega)
          have HTE := Lib.hid (HT1.out hk4)
          have gB := World.grownBy_alloc (wr.alloc (.cells #[.int .u8 (kd : Int), .int .u8 (dt : Int), .slice sb bd.length cb] 24)) (.cells #[.int .u8 (kd : Int), .int .u8 (dt : Int), .slice sb bd.length cb] 24) none
          have HNEW := Lib.hid (news_rec (wr.alloc (.cells #[.int .u8 (kd : Int), .int .u8 (dt : Int), .slice sb bd.length cb] 24)) (.int .u8 (kd : Int)) (.int .u8 (dt : Int)) (.slice sb bd.length cb))
          rw [show (wr.alloc (.cells #[.int .u8 (kd : Int), .int .u8 (dt : Int), .slice sb bd.length cb] 24)).heap.size = wr.heap.size + 1 from by simp] at HNEW
          have HOWN := Lib.hid (own_kept (own_kept hown gA) gB)
          have HGB := Lib.hid (grown_trans (grown_trans hG gA) gB)
          have HBS := Lib.hid HGB.out.size
          have HO1 := Lib.hid hone
          have HXS := Lib.hid hxs
          have HONE : Hid (∀ u ∈ ([.int .u8 (kd : Int), .int .u8 (dt : Int), .slice sb bd.length cb] : List Value), u.oneCell' = true) := Lib.hid (by intro u hu; simp at hu; rcases hu with rfl | rfl | rfl <;> rfl)
          have HM1 : Hid (L.length + 1 ≤ maxLen) := Lib.hid (by unfold maxLen; omega)
          clear hk4 hown hone hG hxs gA gB Bt HBY hr HT1 HT2
          go_wp2_with (at_builtin; refine wpList_own_some rfl (.tmp 48) (.tmp 50) 28 rfl w0.heap.size 24 i1 (.agg #[.int .u8 0, .int .u8 0, .slice none 0 0]) 3 32 Try.underlying28 hi hz0 hz1 hz2 rfl (by decide) (.slice s0 L.length c0) L.length xs rfl HOWN.out ⟨wr.heap.size + 1, 0, none⟩ 1 1 [.int .u8 (kd : Int), .int .u8 (dt : Int), .slice sb bd.length cb] rfl rfl HNEW.out HONE.out HM1.out (by omega) HBS.out (Or.inr (by decide)) _ rfl ?_)
          intro g2 c2 w2 hown2 hgrow2 hgb2 hcb2 hmb3
          have HO2 : Hid (OwnQ w0 w2 (.slice (some ⟨g2, 0, none⟩) (L.length + 1) c2) (L ++ [(kd, dt, bd)])) := Lib.hid (OwnQ.snoc HO1.out HXL.out HXS.out hown2 rfl (grown_own HGB.out HOWN.out hgrow2 (Nat.le_refl _)) HY.out.1 HY.out.2.1 HY.out.2.2.1 HY.out.2.2.2)
          clear hown2 hgrow2 HOWN HNEW
          go_wp2_with fail
          go_roundg (m - (k + 1))
          case measure => omega
          case rel => exact ⟨k + 1, by omega, Nat.le_refl _, by go_num, by rw [HTE.out]; exact HO2.out⟩
      · have f1 : decide ((k : Int) < (m : Int)) = false := decide_eq_false (by omega)
        have hkm : k = m := by omega
        have HLE : Hid (L ++ [(4, 0, [])] = endR rs) := Lib.hid (by unfold endR; rw [← HLQ.out, hkm, ← HN.out, List.take_length])
        clear hkm
        have gB := World.grownBy_alloc wr (.cells #[.int .u8 4, .int .u8 0, .slice none 0 0] 24) none
        have HNEW := Lib.hid (news_rec wr (.int .u8 4) (.int .u8 0) (.slice none 0 0))
        have HOWN := Lib.hid (own_kept hown gB)
        have HGB := Lib.hid (grown_trans hG gB)
        have HBS := Lib.hid HGB.out.size
        have HO1 := Lib.hid hone
        have HXS := Lib.hid hxs
        have HXL : Hid (xs.length = L.length * 3) := Lib.hid hown.1
        have HONE : Hid (∀ u ∈ ([.int .u8 4, .int .u8 0, .slice none 0 0] : List Value), u.oneCell' = true) := Lib.hid (by intro u hu; simp at hu; rcases hu with rfl | rfl | rfl <;> rfl)
        have HM1 : Hid (L.length + 1 ≤ maxLen) := Lib.hid (by unfold maxLen; omega)
        clear hown hone hG hxs gB
        go_wp2_with (at_builtin; refine wpList_own_some rfl (.tmp 52) (.tmp 54) 28 rfl w0.heap.size 24 i1 (.agg #[.int .u8 0, .int .u8 0, .slice none 0 0]) 3 32 Try.underlying28 hi hz0 hz1 hz2 rfl (by decide) (.slice s0 L.length c0) L.length xs rfl HOWN.out ⟨wr.heap.size, 0, none⟩ 1 1 [.int .u8 4, .int .u8 0, .slice none 0 0] rfl rfl HNEW.out HONE.out HM1.out (by omega) HBS.out (Or.inr (by decide)) _ rfl ?_)
        intro gq cq w2 hown2 hgrow2 hgbq hcbq hmbq
        have HQ2 : Hid (OwnQ w0 w2 (.slice (some ⟨gq, 0, none⟩) (L.length + 1) cq) (endR rs)) := Lib.hid (by
          rw [← HLE.out]
          exact OwnQ.snoc (kd := 4) (dt := 0) (sb := none) (bd := []) (cb := 0) HO1.out HXL.out HXS.out hown2 rfl (grown_own HGB.out HOWN.out hgrow2 (Nat.le_refl _)) (BySl.nil _ _) (fun _ => ⟨rfl, rfl⟩) (Nat.le_refl _) (by omega))
        have HEL : Hid ((endR rs).length = L.length + 1) := Lib.hid (by rw [← HLE.out]; simp)
        have HG2 : Hid (w0.grownBy w2 none) := Lib.hid (by obtain ⟨_, _, _, h, _⟩ := HQ2.out; exact h)
        have HK2 := Lib.hid (endR_lt HK.out)
        clear hown2 hgrow2 HOWN HNEW HGB HBS HO1 HXS HXL HONE HLQ HLE
        have HALL : Hid ((∀ r ∈ endR rs, okR r) → (∀ z, splitD (joinB (endR rs) ++ List.replicate z 0) = (0, endR rs, (joinB (endR rs)).length)) ∧ (∀ z, splitD (joinB (endR rs) ++ List.replicate z 0 ++ [1]) = (4, [], 0)) ∧ splitD ((joinB (endR rs)).take ((joinB (endR rs)).length - 1)) = (7, [], 0)) := Lib.hid (fun h => ⟨endR_split h, endR_more h, endR_cut h⟩)
        obtain ⟨ms, hms⟩ : ∃ ms, endR rs = ms := ⟨_, rfl⟩
        rw [hms] at HQ2 HEL HK2 HJ HALL
        clear hms
        go_wp2_with fail
        refine (Join_any w2 _ _ _ ms HEL.out HQ2.out.sl HK2.out (by have := HJ.out.1; omega) (by omega)).mono ?_
        rintro e w3 ⟨v, rfl, hO, hg3⟩
        have HG3 := Lib.hid (grown_trans HG2.out hg3)
        have HQ3 := Lib.hid (HQ2.out.kept hg3)
        clear hg3
        by_cases hok : ∀ r ∈ ms, okR r
        · rw [joinD_ok hok] at hO ⊢
          dsimp only at hO ⊢
          have hsp := HALL.out hok
          have hjd := joinD_ok hok
          obtain ⟨l, hle⟩ : ∃ l, joinB ms = l := ⟨_, rfl⟩
          have HLB : Hid ((joinB ms).length ≤ 1099511627776) := Lib.hid (by have := HJ.out.1; omega)
          rw [hle] at hO HJ hsp hjd
          obtain ⟨K, hKN⟩ : ∃ K, l.length = K + 1 := ⟨l.length - 1, by have := HJ.out.2; omega⟩
          have hKb : K ≤ 400804 := by have := HJ.out.1; omega
          have HNN := Lib.hid hKN
          rw [hKN] at hsp
          obtain ⟨hsp1, hsp2, hsp3⟩ := hsp
          rw [show K + 1 - 1 = K from rfl] at hsp3
          have HS1 := Lib.hid hsp1
          have HS2 := Lib.hid hsp2
          have HS3 := Lib.hid hsp3
          have HJD := Lib.hid hjd
          obtain ⟨s9, c9, rfl, hy9, hz9, hc9, hm9⟩ := hO.shape
          rw [hKN] at hz9 hc9 ⊢
          obtain ⟨a9, rfl⟩ : ∃ a, s9 = some a := by
            cases s9 with
            | none => have := (hz9 rfl).1; omega
            | some a => exact ⟨a, rfl⟩
          have HY9 := Lib.hid hy9
          clear hO hy9 hok hKN hle hz9 hsp1 hsp2 hsp3 hjd
          have hZb : -9223372036854775808 ≤ Z ∧ Z ≤ 9223372036854775807 := by
            have h2 : IntKind.i64.min ≤ Z ∧ Z ≤ IntKind.i64.max := by simpa [Lit.wf] using HZ.out
            have e1 : IntKind.i64.min = -9223372036854775808 := by decide
            have e2 : IntKind.i64.max = 9223372036854775807 := by decide
            omega
          obtain ⟨Y, hY⟩ : ∃ Y : Nat, Z % 18446744073709551616 = (Y : Int) := ⟨(Z % 18446744073709551616).toNat, by omega⟩
          have hYb : Y < 18446744073709551616 := by omega
          obtain ⟨z, hzY⟩ : ∃ z, Y % 100 = z := ⟨_, rfl⟩
          have hzb : z < 100 := by omega
          have hYz : (Y : Int) % 100 = (z : Int) := by omega
          have c1 : IntKind.u64.wrap Z = (Y : Int) := by
            rw [← hY]; unfold IntKind.wrap; simp [IntKind.bits, IntKind.signed]
          have c2 : (Y : Int).tmod 100 = (z : Int) := by
            have h := tmod_nat Y 100
            rw [hzY] at h
            exact h
          have HYZ : Hid (wrap64 ((IntKind.u64.wrap Z).tmod 100) = (z : Int)) := Lib.hid (by rw [c1, c2]; unfold wrap64; omega)
          clear hzY hYz hYb hZb c1 c2
          have HG3b := Lib.hid (Nat.le_refl w3.heap.size)
          go_wp2_with (at_make; refine wpList_make_full _ rfl _ _ 22 rfl _ 5 i2 (.int .u8 0) 1 Try.underlying22 hi2 hy0 hy1 .i64 .i64 _ _ z rfl rfl HYZ.out HYZ.out (by rw [hy2]; omega) (by unfold maxLen; omega) (Nat.le_refl _) ?_)
          intro w4 hown4 hg4
          have HM4 := Lib.hid (made_zeros hown4)
          have HY4 := Lib.hid (HY9.out.kept hg4)
          have HQ4 := Lib.hid (HQ3.out.kept hg4)
          have HG4 := Lib.hid (grown_trans HG3.out hg4)
          obtain ⟨am, ham⟩ : ∃ am : Addr, (⟨w3.heap.size, 0, none⟩ : Addr) = am := ⟨_, rfl⟩
          rw [ham] at HM4 ⊢
          clear hown4 hg4 ham HY9 HQ3 HG3 hY
          have HZL : Hid ((bvs (List.replicate z 0)).length = z * 1) := Lib.hid (by rw [bvs_len, List.length_replicate, Nat.mul_one])
          have HZ8 : Hid (∀ x ∈ List.replicate z 0, x < 256) := Lib.hid HM4.out.2
          have HM63 : Hid (K + 1 + z ≤ maxLen) := Lib.hid (by unfold maxLen; omega)
          have HLZ : Hid ((l ++ List.replicate z 0).length = K + 1 + z) := Lib.hid (by rw [List.length_append, HNN.out, List.length_replicate])
          go_wp2_with fail
          refine (CopiedO_any w4 a9 (K + 1) c9 l HNN.out HY4.out (by omega)).mono ?_
          rintro e w5 ⟨g5, c5, rfl, hO5, hg5⟩
          rw [HNN.out] at hO5 ⊢
          have HO5 : Hid (w5.ownsRow w4.heap.size 5 1 (.slice (some ⟨g5, 0, none⟩) (K + 1) c5) (K + 1) (bvs l)) := Lib.hid (by have := hO5.1; rwa [HNN.out] at this)
          have HL8 := Lib.hid hO5.2
          have HN5 := Lib.hid ((HM4.out.kept hg5).news)
          have HB5 := Lib.hid hg5.size
          have HG5 := Lib.hid hg5
          clear hO5 hg5
          go_wp2_with (at_builtin; refine wpList_own_some rfl (.tmp 70) (.tmp 71) 22 rfl w4.heap.size 5 i2 (.int .u8 0) 1 1 Try.underlying22 hi2 hy0 hy1 hy2 rfl (by decide) (.slice (some ⟨g5, 0, none⟩) (K + 1) c5) (K + 1) (bvs l) rfl HO5.out am z z (bvs (List.replicate z 0)) rfl HZL.out HN5.out (bvs_one _) HM63.out (by omega) HB5.out (Or.inl (by simp)) _ rfl ?_)
          intro g6 c6 w6 hown6 hgrow6 hb6 hc6 hm6
          have hG6 := grown_own HG5.out HO5.out hgrow6 (Nat.le_refl _)
          have hO6 := OwnB.of (m := List.replicate z 0) hown6 (by rw [HNN.out, List.length_replicate]) HL8.out HZ8.out
          obtain ⟨s6, c6', e6, hy6, _, _, _⟩ := hO6.shape
          obtain ⟨h61, h62, h63⟩ := Value.slice.inj e6
          subst h61
          subst h63
          clear e6 h62
          have HY6 := Lib.hid hy6
          have HG6 := Lib.hid (grown_trans HG4.out hG6)
          have HM6 := Lib.hid (HM4.out.kept hG6)
          have HYB6 := Lib.hid (HY4.out.kept hG6)
          have HQ6 := Lib.hid (HQ4.out.kept hG6)
          clear hown6 hgrow6 hG6 hO6 hy6 HO5 HN5 HB5 HG5 HM4 HY4 HQ4 HG4
          go_wp2_with fail
          refine (Split_any w6 _ (K + 1 + z) c6 (l ++ List.replicate z 0) HLZ.out HY6.out hc6 hm6 (by omega)).mono ?_
          rw [HS1.out z]
          rintro e w7 ⟨v, rfl, I7, hg7⟩
          dsimp only at I7
          obtain ⟨s7, c7, rfl⟩ := I7.shape
          rw [HEL.out] at I7
          rw [show ((0, ms, K + 1) : Nat × List KRec × Nat).2.1.length = L.length + 1 from HEL.out]
          have HI7 := Lib.hid I7.sl
          have HG7 := Lib.hid (grown_trans HG6.out hg7)
          have HM7 := Lib.hid (HM6.out.kept hg7)
          have HYB7 := Lib.hid (HYB6.out.kept hg7)
          have HQ7 := Lib.hid (HQ6.out.kept hg7)
          clear I7 hg7 HG6 HM6 HYB6 HQ6 HY6
          go_wp2_with fail
          refine (Join_any w7 s7 (L.length + 1) c7 ms HEL.out HI7.out HK2.out HLB.out (by omega)).mono ?_
          rw [HJD.out]
          rintro e w8 ⟨v, rfl, hO8, hg8⟩
          dsimp only at hO8
          obtain ⟨s8, c8, rfl, hy8, _, _, _⟩ := hO8.shape
          rw [show ((0, l) : Nat × List Nat).2.length = K + 1 from HNN.out]
          have HC8 := Lib.hid hy8
          have HI8 := Lib.hid (HI7.out.kept hg8)
          have HG8 := Lib.hid (grown_trans HG7.out hg8)
          have HM8 := Lib.hid (HM7.out.kept hg8)
          have HYB8 := Lib.hid (HYB7.out.kept hg8)
          have HQ8 := Lib.hid (HQ7.out.kept hg8)
          clear hO8 hg8 hy8 HI7 HG7 HM7 HYB7 HQ7
          go_wp2_with fail
          refine (CopiedO_any w8 a9 (K + 1) c9 l HNN.out HYB8.out (by omega)).mono ?_
          rintro e w10 ⟨g5, c5, rfl, hO5, hg5⟩
          rw [HNN.out] at hO5 ⊢
          have HO5 : Hid (w10.ownsRow w8.heap.size 5 1 (.slice (some ⟨g5, 0, none⟩) (K + 1) c5) (K + 1) (bvs l)) := Lib.hid (by have := hO5.1; rwa [HNN.out] at this)
          have HN5 := Lib.hid ((HM8.out.kept hg5).news)
          have HB5 := Lib.hid hg5.size
          have HG5 := Lib.hid hg5
          clear hO5 hg5
          go_wp2_with (at_builtin; refine wpList_own_some rfl (.tmp 84) (.tmp 85) 22 rfl w8.heap.size 5 i2 (.int .u8 0) 1 1 Try.underlying22 hi2 hy0 hy1 hy2 rfl (by decide) (.slice (some ⟨g5, 0, none⟩) (K + 1) c5) (K + 1) (bvs l) rfl HO5.out am z z (bvs (List.replicate z 0)) rfl HZL.out HN5.out (bvs_one _) HM63.out (by omega) HB5.out (Or.inl (by simp)) _ rfl ?_)
          intro g11 c11 w11 hown6 hgrow6 hb6 hc11 hm11
          have hG6 := grown_own HG5.out HO5.out hgrow6 (Nat.le_refl _)
          have hO6 := OwnB.of (m := List.replicate z 0) hown6 (by rw [HNN.out, List.length_replicate]) HL8.out HZ8.out
          have gA := World.grownBy_alloc w11 (.cells (bvs [1]).toArray 5) none
          have hnw := news_new w11 [1]
          change w11.grownBy (w11.alloc (.cells #[.int .u8 1] 5)) none at gA
          change ∀ j u, (bvs [1])[j]? = some u → (w11.alloc (.cells #[.int .u8 1] 5)).cell? _ = some u at hnw
          have HN11 := Lib.hid hnw
          have HO11 : Hid ((w11.alloc (.cells #[.int .u8 1] 5)).ownsRow w8.heap.size 5 1 (.slice (some ⟨g11, 0, none⟩) (K + 1 + z) c11) (K + 1 + z) (bvs (l ++ List.replicate z 0))) := Lib.hid (by have := (hO6.kept gA).1; rwa [HLZ.out] at this)
          have HX8 := Lib.hid hO6.2
          have HG11 := Lib.hid (grown_trans hG6 gA)
          have HB11 := Lib.hid HG11.out.size
          have HM64 : Hid (K + 1 + z + 1 ≤ maxLen) := Lib.hid (by unfold maxLen; omega)
          have HL11 : Hid ((l ++ List.replicate z 0 ++ [1]).length = K + 1 + z + 1) := Lib.hid (by rw [List.length_append, HLZ.out]; rfl)
          clear hown6 hgrow6 hG6 hO6 gA hnw HO5 HN5 HB5 HG5
          go_wp2_with (at_builtin; refine wpList_own_some rfl (.tmp 86) (.tmp 87) 22 rfl w8.heap.size 5 i2 (.int .u8 0) 1 1 Try.underlying22 hi2 hy0 hy1 hy2 rfl (by decide) (.slice (some ⟨g11, 0, none⟩) (K + 1 + z) c11) (K + 1 + z) (bvs (l ++ List.replicate z 0)) rfl HO11.out ⟨w11.heap.size, 0, none⟩ 1 1 (bvs [1]) rfl rfl HN11.out (bvs_one _) HM64.out (by omega) HB11.out (Or.inl (by simp)) _ rfl ?_)
          intro g12 c12 w12 hown6 hgrow6 hb6 hc12 hm12
          have hG6 := grown_own HG11.out HO11.out hgrow6 (Nat.le_refl _)
          have hO6 := OwnB.of (m := [1]) hown6 (by rw [HLZ.out]; rfl) HX8.out (by simp)
          obtain ⟨s6, c6', e6, hy6, _, _, _⟩ := hO6.shape
          obtain ⟨h61, h62, h63⟩ := Value.slice.inj e6
          subst h61
          subst h63
          clear e6 h62
          have HY12 := Lib.hid hy6
          have HG12 := Lib.hid (grown_trans HG8.out hG6)
          have HYB12 := Lib.hid (HYB8.out.kept hG6)
          have HQ12 := Lib.hid (HQ8.out.kept hG6)
          have HI12 := Lib.hid (HI8.out.kept hG6)
          have HC12 := Lib.hid (HC8.out.kept hG6)
          clear hown6 hgrow6 hG6 hO6 hy6 HO11 HN11 HB11 HG11 HM8 HYB8 HQ8 HI8 HC8 HG8
          go_wp2_with fail
          refine (Split_any w12 _ (K + 1 + z + 1) c12 (l ++ List.replicate z 0 ++ [1]) HL11.out HY12.out hc12 hm12 (by omega)).mono ?_
          rw [HS2.out z]
          rintro e w13 ⟨v, rfl, I13, hg13⟩
          obtain ⟨s13, c13, rfl⟩ := I13.shape
          have HG13 := Lib.hid (grown_trans HG12.out hg13)
          have HYB13 := Lib.hid (HYB12.out.kept hg13)
          have HQ13 := Lib.hid (HQ12.out.kept hg13)
          have HI13 := Lib.hid (HI12.out.kept hg13)
          have HC13 := Lib.hid (HC12.out.kept hg13)
          clear I13 hg13 HG12 HYB12 HQ12 HI12 HC12 HY12
          have HTK := Lib.hid (HYB13.out.take K)
          have HTL : Hid ((l.take K).length = K) := Lib.hid (by rw [List.length_take, HNN.out]; omega)
          have i5 : (K : Int) ≤ (c9 : Int) := by omega
          go_wp2_with fail
          refine (Split_any w13 a9 K c9 (l.take K) HTL.out HTK.out (by omega) hm9 (by omega)).mono ?_
          rw [HS3.out]
          rintro e w14 ⟨v, rfl, I14, hg14⟩
          obtain ⟨s14, c14, rfl⟩ := I14.shape
          have HG14 := Lib.hid (grown_trans HG13.out hg14)
          have HYB14 := Lib.hid (HYB13.out.kept hg14)
          have HQ14 := Lib.hid (HQ13.out.kept hg14)
          have HI14 := Lib.hid (HI13.out.kept hg14)
          have HC14 := Lib.hid (HC13.out.kept hg14)
          clear I14 hg14 HG13 HYB13 HQ13 HI13 HC13 HTK
          have t1 : (((0 : Nat) : Int) == 0) = true := by decide
          have t2 : (((K + 1 : Nat) : Int) == ((K + 1 : Nat) : Int)) = true := by simp
          have t3 : ((K : Int) + 1 == (K : Int) + 1) = true := by simp
          have t4 : (((4 : Nat) : Int) == 4) = true := by decide
          have t5 : (((7 : Nat) : Int) == 7) = true := by decide
          go_wp2_with fail
          refine (LSame_any w14 s7 _ (L.length + 1) c7 cq ms HEL.out HI14.out HQ14.out.sl (by omega)).mono ?_
          rintro e w15 ⟨rfl, hg15⟩
          have k1 := conv_by w15 s8 (K + 1) c8 l HNN.out (HC14.out.kept hg15)
          have k2 := conv_by w15 (some a9) (K + 1) c9 l HNN.out (HYB14.out.kept hg15)
          have HG15 := Lib.hid (grown_trans HG14.out hg15)
          clear hg15
          go_wp2_with (simp only [k1, k2])
          go_ret
          exact ⟨by simp, HG15.out⟩
        · rw [joinD_bad hok] at hO ⊢
          dsimp only at hO ⊢
          obtain ⟨s9, c9, rfl, _, _, _, _⟩ := hO.shape
          clear hO hok
          go_wp2_with fail
          go_ret
          exact ⟨rfl, HG3.out⟩
  · go_wp2_with fail
    refine (Known_any _).mono ?_
    rintro e w1 ⟨rfl, hg1⟩
    have HG1 := Lib.hid hg1
    clear hg1
    go_wp2_with fail
    refine (Known_any _).mono ?_
    rintro e w2 ⟨rfl, hg2⟩
    go_wp2_with fail
    go_ret
    exact ⟨rfl, grown_trans HG1.out hg2⟩
end Go.Proofs.Yteienakimdpfhaa
