/- GdsTrees: the law's walk. -/
import Derived.Test.YtpkemijpggpdaaaGA2
import Derived.Test.YtpkemijpggpdaaaGM3
import Derived.Test.YtpkemijpggpdaaaGZ4
import Derived.Test.YtpkemijpggpdaaaGN
namespace Go.Proofs.Ytpkemijpggpdaaa
open Go.RowKit
set_option maxRecDepth 100000
set_option linter.unusedVariables false
set_option linter.unusedSimpArgs false

theorem sum_cap {l : List KRec} (h : ∀ r ∈ l, okR r) : sumB l = capB l := by
  induction l with
  | nil => rfl
  | cons r l ih =>
    have h1 := ih fun x hx => h x (List.mem_cons_of_mem _ hx)
    have h2 := (h r List.mem_cons_self).2
    have e : capB (r :: l) = min r.2.2.length 100000 + capB l := by simp [capB]
    rw [sumB_cons, e, h1, Nat.min_eq_left (by omega)]
theorem few_len {t : KLib} (h : okL t = true) (hn : (recT t).length ≤ 400) (hc : capB (recT t) < 300000) : (joinB (recT t)).length ≤ 301600 := by
  rw [joinB_len, sum_cap fun r hr => rt_okR (recT_rt ((okL_iff t).1 h) r hr)]
  omega
theorem wf_i64 {Z : Int} (hZ : (Lit.int .i64 Z).wf = true) : -9223372036854775808 ≤ Z ∧ Z ≤ 9223372036854775807 := by
  have h2 : IntKind.i64.min ≤ Z ∧ Z ≤ IntKind.i64.max := by simpa [Lit.wf] using hZ
  have e1 : IntKind.i64.min = -9223372036854775808 := by decide
  have e2 : IntKind.i64.max = 9223372036854775807 := by decide
  omega
/-- uint64(Z) % k, for a k that is not great. -/
theorem rem_to (Z : Int) (k : Nat) (h0 : 0 < k) (hk : k < 9223372036854775808) : ∃ z : Nat, z < k ∧ wrap64 ((IntKind.u64.wrap Z).tmod (k : Int)) = (z : Int) := by
  obtain ⟨Y, hY⟩ : ∃ Y : Nat, Z % 18446744073709551616 = (Y : Int) := ⟨(Z % 18446744073709551616).toNat, by omega⟩
  have c1 : IntKind.u64.wrap Z = (Y : Int) := by
    rw [← hY]; unfold IntKind.wrap; simp [IntKind.bits, IntKind.signed]
  have hlt := Nat.mod_lt Y h0
  refine ⟨Y % k, hlt, ?_⟩
  rw [c1, tmod_nat Y k]
  unfold wrap64; omega
set_option maxHeartbeats 64000000 in
theorem gdsTrees_walk (w : World) (v : Value) (t : KLib) (hv : LibV w v t) (hz : SizL t) (C : Int) (hC : (Lit.int .i64 C).wf = true) (Z : Int) (hZ : (Lit.int .i64 Z).wf = true) :
    Calls Try.prog 6 #[v, .int .i64 C, .int .i64 Z] w (RetYes w) := by
  obtain ⟨i2, hi2, hy0, hy1, hy2⟩ := info_partsU
  obtain ⟨sa, ca, sb, cb, rfl⟩ := hv.two
  have hG := World.grownBy_alloc w (.cells #[.slice sa t.1.length ca, .slice sb t.2.length cb] 27) none
  have Bt := heap_new w (.cells #[.slice sa t.1.length ca, .slice sb t.2.length cb] 27) w.heap.size rfl
  obtain ⟨C0, C1, _, _⟩ := box_cells2 Bt
  have HV := Lib.hid hv
  have HS := Lib.hid hz
  obtain ⟨z, hzb, hzw⟩ := rem_to Z 50 (by decide) (by decide)
  have HYZ : Hid (wrap64 ((IntKind.u64.wrap Z).tmod 50) = (z : Int)) := Lib.hid hzw
  have HBT := Lib.hid Bt
  clear hv hz hC hZ hzw
  go_enter Try.func6, Try.ntmps6
  go_wp2_with fail
  generalize (w.alloc (.cells #[.slice sa t.1.length ca, .slice sb t.2.length cb] 27)) = wa at *
  have HG := Lib.hid hG
  clear Bt hG
  refine (GFew_any wa _ t (HV.out.kept HG.out) HS.out).mono ?_
  rintro e w1 ⟨bf, rfl, hg1, hbf⟩
  have HW1 := Lib.hid hg1
  clear C0 C1 hg1
  cases bf with
  | false =>
    clear hbf
    go_wp2_with fail
    refine (GKnown_any w1).mono ?_
    rintro e w2 ⟨rfl, hg2⟩
    have hF := Lib.hid (grown_trans HG.out (grown_trans HW1.out hg2))
    clear hg2
    go_wp2_with fail
    go_ret
    exact ⟨rfl, hF.out⟩
  | true =>
    obtain ⟨hn, hc⟩ := hbf rfl
    clear hbf
    have HNC := Lib.hid (And.intro hn hc)
    obtain ⟨C0, C1, _, _⟩ := box_cells2 (heap_kept HW1.out HBT.out)
    clear hn hc
    go_wp2_with fail
    refine (Write_few w1 _ t (HV.out.kept (grown_trans HG.out HW1.out)) HNC.out.1).mono ?_
    rintro e w2 ⟨vb, rfl, hob, hg2⟩
    have HW2 := Lib.hid (grown_trans HW1.out hg2)
    clear C0 C1 hg2
    cases hk : okL t with
    | false =>
      rw [write_bad hk] at hob ⊢
      dsimp only at hob ⊢
      obtain ⟨s2, c2, rfl, _⟩ := hob.shape
      have HK := Lib.hid hk
      clear hob hk
      go_wp2_with fail
      refine (GKnown_any w2).mono ?_
      rintro e w3 ⟨rfl, hg3⟩
      have HW3 := Lib.hid (grown_trans HW2.out hg3)
      clear hg3
      have q1 : (((3 : Nat) : Int) != 0) = true := by decide
      go_wp2_with fail
      refine (GKnown_any w3).mono ?_
      rintro e w4 ⟨rfl, hg4⟩
      have hF := Lib.hid (grown_trans HG.out (grown_trans HW3.out hg4))
      clear hg4
      go_wp2_with fail
      go_ret
      exact ⟨rfl, hF.out⟩
    | true =>
      have hlen := few_len hk HNC.out.1 HNC.out.2
      have h4 := tree_len t
      have hP1 := parse_zeros hk z
      have hP2 := parse_cut hk
      have hP3 := parse_more (x := [0, 7]) hk (by simp)
      rw [write_ok hk (by omega), recT_join ((okL_iff t).1 hk)] at hob ⊢
      dsimp only at hob ⊢
      obtain ⟨l, hl⟩ : ∃ l, joinB (recT t) = l := ⟨_, rfl⟩
      rw [hl] at hob hlen h4 hP1 hP2 hP3
      obtain ⟨n, hn⟩ : ∃ n, l.length = n := ⟨_, rfl⟩
      obtain ⟨s2, c2, rfl, hy2', hz2, hc2, hm2⟩ := hob.shape
      rw [hn] at hz2 hc2 hlen h4 hP1 hP2 ⊢
      obtain ⟨a2, rfl⟩ : ∃ a, s2 = some a := by
        cases s2 with
        | none => have := (hz2 rfl).1; omega
        | some a => exact ⟨a, rfl⟩
      have HN := Lib.hid hn
      have HY2 := Lib.hid hy2'
      have HP1 := Lib.hid hP1
      obtain ⟨T0, hT0⟩ : ∃ T : KLib, (([], []) : KLib) = T := ⟨_, rfl⟩
      rw [hT0] at hP2 hP3
      have HP2 := Lib.hid hP2
      have HP3 := Lib.hid hP3
      obtain ⟨cc, hcb, hcw⟩ := rem_to C n (by omega) (by omega)
      have HYC := Lib.hid hcw
      have HK := Lib.hid hk
      clear hob hk hl hn hy2' hz2 hP1 hP2 hP3 hcw hT0
      go_wp2_with fail
      refine (GKnown_any w2).mono ?_
      rintro e w3 ⟨rfl, hg3⟩
      have HW3 := Lib.hid (grown_trans HW2.out hg3)
      have HY3 := Lib.hid (HY2.out.kept hg3)
      clear hg3
      have q1 : (((0 : Nat) : Int) != 0) = false := by decide
      go_wp2_with fail
      refine (Copied7_any w3 a2 n c2 l HN.out HY3.out (by omega)).mono ?_
      rintro e w5 ⟨g5, c5, rfl, hO5, hg5⟩
      rw [HN.out] at hO5 ⊢
      have HLZ : Hid ((l ++ List.replicate z 0).length = n + z) := Lib.hid (by rw [List.length_append, HN.out, List.length_replicate])
      obtain ⟨v6, w6, hr6, hO6, hgr6, _⟩ := own_zeros w5 w3.heap.size g5 c5 n z l HN.out hO5 (by omega) hg5.size
      have hg6 : w3.grownBy w6 none := grown_own hg5 hO5.1 hgr6 (Nat.le_refl _)
      obtain ⟨s6, c6, rfl, hy6, hz6, hc6, hm6⟩ := hO6.shape
      rw [HLZ.out] at hr6 hz6 hc6
      have HR6 := Lib.hid hr6
      have HY6 := Lib.hid hy6
      have HZ6 := Lib.hid hz6
      have HW6 := Lib.hid (grown_trans HW3.out hg6)
      have HB6 := Lib.hid (HY3.out.kept hg6)
      clear hO5 hg5 hr6 hO6 hgr6 hg6 hy6 hz6
      go_wp2_with (at_builtin; refine Lib.wpList_append_run _ rfl (.tmp 36) (.tmp 40) 22 3 rfl (.slice (some ⟨g5, 0, none⟩) n c5) (.int .i64 (z : Nat)) rfl (congrArg (Value.int .i64) HYZ.out) _ _ HR6.out ?_)
      refine (Parse_any w6 s6 (n + z) c6 (l ++ List.replicate z 0) HLZ.out HY6.out HZ6.out hc6 hm6 (by omega)).mono ?_
      rw [HP1.out]
      rintro e w7 ⟨u7, rfl, hu7, hg7⟩
      dsimp only at hu7 ⊢
      obtain ⟨se, ce, sf, cf, rfl⟩ := hu7.v.two
      have gA := World.grownBy_alloc w7 (.cells #[.slice se t.1.length ce, .slice sf t.2.length cf] 27) none
      have Bu := heap_new w7 (.cells #[.slice se t.1.length ce, .slice sf t.2.length cf] 27) w7.heap.size rfl
      have HU8 := Lib.hid (hu7.v.kept gA)
      have HW8 := Lib.hid (grown_trans HW6.out (grown_trans hg7 gA))
      have HB8 := Lib.hid (HB6.out.kept (grown_trans hg7 gA))
      have HBU := Lib.hid Bu
      clear hu7 hg7 gA Bu
      have i1 : (n : Int) ≠ 0 := by omega
      have j2 : (cc : Int) ≤ (c2 : Int) := by omega
      have hcw := HYC.out
      go_wp2_with fail
      clear hcw
      generalize (w7.alloc (.cells #[.slice se t.1.length ce, .slice sf t.2.length cf] 27)) = w8 at *
      have HTK := Lib.hid (HB8.out.take cc)
      have HTL : Hid ((l.take cc).length = cc) := Lib.hid (by rw [List.length_take, HN.out]; omega)
      refine (Parse_any w8 (some a2) cc c2 (l.take cc) HTL.out HTK.out (fun e => by cases e) (by omega) hm2 (by omega)).mono ?_
      rw [HP2.out cc hcb]
      rintro e w9 ⟨u9, rfl, hu9, hg9⟩
      dsimp only at hu9 ⊢
      obtain ⟨sg, cg, sh, ch, rfl⟩ := hu9.v.two
      have gB := World.grownBy_alloc w9 (.cells #[.slice sg T0.1.length cg, .slice sh T0.2.length ch] 27) none
      have hg10 := grown_trans hg9 gB
      have HW10 := Lib.hid (grown_trans HW8.out hg10)
      have HB10 := Lib.hid (HB8.out.kept hg10)
      have HU10 := Lib.hid (HU8.out.kept hg10)
      have HBU10 := Lib.hid (heap_kept hg10 HBU.out)
      clear hu9 hg9 gB hg10
      go_wp2_with fail
      generalize (w9.alloc (.cells #[.slice sg T0.1.length cg, .slice sh T0.2.length ch] 27)) = w10 at *
      refine (Copied7_any w10 a2 n c2 l HN.out HB10.out (by omega)).mono ?_
      rintro e w11 ⟨g11, c11, rfl, hO11, hg11⟩
      rw [HN.out] at hO11 ⊢
      have hO11n := hO11.1
      rw [HN.out] at hO11n
      have gA := World.grownBy_alloc w11 (.cells (bvs [0, 7]).toArray 5) none
      have hnw := news_new w11 [0, 7]
      change w11.grownBy (w11.alloc (.cells #[.int .u8 0, .int .u8 7] 5)) none at gA
      change ∀ j u, (bvs [0, 7])[j]? = some u → (w11.alloc (.cells #[.int .u8 0, .int .u8 7] 5)).cell? _ = some u at hnw
      have HN12 := Lib.hid hnw
      have HO12 : Hid ((w11.alloc (.cells #[.int .u8 0, .int .u8 7] 5)).ownsRow w10.heap.size 5 1 (.slice (some ⟨g11, 0, none⟩) n c11) n (bvs l)) := Lib.hid (own_kept hO11n gA)
      have HL8 := Lib.hid hO11.2
      have HG12 := Lib.hid (grown_trans hg11 gA)
      have HB12 := Lib.hid HG12.out.size
      have HM12 : Hid (n + 2 ≤ maxLen) := Lib.hid (by unfold maxLen; omega)
      have HL12 : Hid ((l ++ [0, 7]).length = n + 2) := Lib.hid (by rw [List.length_append, HN.out]; rfl)
      clear hO11 hO11n hg11 gA hnw
      go_wp2_with (at_builtin; refine wpList_own_some rfl (.tmp 62) (.tmp 63) 22 rfl w10.heap.size 5 i2 (.int .u8 0) 1 1 Try.underlying22 hi2 hy0 hy1 hy2 rfl (by decide) (.slice (some ⟨g11, 0, none⟩) n c11) n (bvs l) rfl HO12.out ⟨w11.heap.size, 0, none⟩ 2 2 (bvs [0, 7]) rfl rfl HN12.out (bvs_one _) HM12.out (by omega) HB12.out (Or.inl (by simp)) _ rfl ?_)
      intro g13 c13 w13 hown hgrow hb13 hc13 hm13
      have hG13 := grown_own HG12.out HO12.out hgrow (Nat.le_refl _)
      have hO13 := OwnB.of (m := [0, 7]) hown (by rw [HN.out]; rfl) HL8.out (by simp)
      obtain ⟨s6, c6', e6, hy13, _, _, _⟩ := hO13.shape
      obtain ⟨h61, h62, h63⟩ := Value.slice.inj e6
      subst h61
      subst h63
      clear e6 h62
      have HY13 := Lib.hid hy13
      have HW13 := Lib.hid (grown_trans HW10.out hG13)
      have HU13 := Lib.hid (HU10.out.kept hG13)
      have HBU13 := Lib.hid (heap_kept hG13 HBU10.out)
      clear hown hgrow hG13 hO13 hy13 HO12 HN12 HB12 HG12
      go_wp2_with fail
      refine (Parse_any w13 (some ⟨g13, 0, none⟩) (n + 2) c13 (l ++ [0, 7]) HL12.out HY13.out (fun e => by cases e) hc13 hm13 (by omega)).mono ?_
      rw [HP3.out]
      rintro e w14 ⟨u14, rfl, hu14, hg14⟩
      dsimp only at hu14 ⊢
      obtain ⟨sg', cg', sh', ch', rfl⟩ := hu14.v.two
      have gB := World.grownBy_alloc w14 (.cells #[.slice sg' T0.1.length cg', .slice sh' T0.2.length ch'] 27) none
      have hg15 := grown_trans hg14 gB
      have HW15 := Lib.hid (grown_trans HW13.out hg15)
      have HU15 := Lib.hid (HU13.out.kept hg15)
      have HV15 := Lib.hid (HV.out.kept (grown_trans HG.out HW15.out))
      obtain ⟨D0, D1, _, _⟩ := box_cells2 (heap_kept hg15 HBU13.out)
      obtain ⟨C0, C1, _, _⟩ := box_cells2 (heap_kept HW15.out HBT.out)
      have t2 : ((n : Int) == (n : Int)) = true := by simp
      clear hu14 hg14 gB hg15
      go_wp2_with fail
      refine (SameT_any _ _ _ t HV15.out HU15.out).mono ?_
      rintro e w16 ⟨rfl, hg16⟩
      have hF := Lib.hid (grown_trans HG.out (grown_trans HW15.out hg16))
      clear hg16
      go_wp2_with fail
      go_ret
      exact ⟨by simp, hF.out⟩
end Go.Proofs.Ytpkemijpggpdaaa
