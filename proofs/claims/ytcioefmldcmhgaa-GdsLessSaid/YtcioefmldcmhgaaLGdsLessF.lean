/-
  GdsLess: whatever the tree, with one record left out or twice, what is parsed is the document's: the law returns true and leaves its arguments. No condition.
-/
import Derived.Test.YtcioefmldcmhgaaGGc
import Derived.Test.YtcioefmldcmhgaaGZa
import Derived.Test.YtcioefmldcmhgaaGLaw2
import Derived.SizedLaws
namespace Go.Proofs.Ytcioefmldcmhgaa
open Go.RowKit
set_option maxRecDepth 100000
set_option linter.unusedVariables false
set_option linter.unusedSimpArgs false

theorem wf_i64l {Z : Int} (hZ : (Lit.int .i64 Z).wf = true) : -9223372036854775808 ≤ Z ∧ Z ≤ 9223372036854775807 := by
  have h2 : IntKind.i64.min ≤ Z ∧ Z ≤ IntKind.i64.max := by simpa [Lit.wf] using hZ
  have e1 : IntKind.i64.min = -9223372036854775808 := by decide
  have e2 : IntKind.i64.max = 9223372036854775807 := by decide
  omega
theorem rem_tol (Z : Int) (k : Nat) (h0 : 0 < k) (hk : k < 9223372036854775808) : ∃ z : Nat, z < k ∧ wrap64 ((IntKind.u64.wrap Z).tmod (k : Int)) = (z : Int) := by
  obtain ⟨Y, hY⟩ : ∃ Y : Nat, Z % 18446744073709551616 = (Y : Int) := ⟨(Z % 18446744073709551616).toNat, by omega⟩
  have c1 : IntKind.u64.wrap Z = (Y : Int) := by
    rw [← hY]; unfold IntKind.wrap; simp [IntKind.bits, IntKind.signed]
  have hlt := Nat.mod_lt Y h0
  refine ⟨Y % k, hlt, ?_⟩
  rw [c1, tmod_nat Y k]
  unfold wrap64; omega
theorem joinD_code (rs : List KRec) : (joinD rs).1 = 0 ∧ (∀ r ∈ rs, okR r) ∨ (joinD rs) = (3, []) := by
  unfold joinD
  split
  · left; exact ⟨rfl, by assumption⟩
  · right; rfl
set_option maxHeartbeats 64000000 in
theorem gdsLess_walk (w : World) (v : Value) (t : KLib) (hv : LibV w v t) (hz : SizL t) (Z : Int) (hZ : (Lit.int .i64 Z).wf = true) (tw : Bool) :
    Calls Try.prog 7 #[v, .int .i64 Z, .bool tw] w (RetYes w) := by
  obtain ⟨sa, ca, sb, cb, rfl⟩ := hv.two
  obtain ⟨N1, hN1⟩ : ∃ N, t.1.length = N := ⟨_, rfl⟩
  obtain ⟨N2, hN2⟩ : ∃ N, t.2.length = N := ⟨_, rfl⟩
  rw [hN1, hN2] at hv ⊢
  have hG := World.grownBy_alloc w (.cells #[.slice sa N1 ca, .slice sb N2 cb] 27) none
  have Bt := heap_new w (.cells #[.slice sa N1 ca, .slice sb N2 cb] 27) w.heap.size rfl
  obtain ⟨C0, C1, _, _⟩ := box_cells2 Bt
  have HV := Lib.hid (hv.kept hG)
  have HS := Lib.hid hz
  have HBT := Lib.hid Bt
  have HG := Lib.hid hG
  have HSM := Lib.hid hv.small
  clear hv hz hG Bt hN1 hN2 hZ
  go_enter Try.func7, Try.ntmps7
  go_wp2_with fail
  generalize (w.alloc (.cells #[.slice sa N1 ca, .slice sb N2 cb] 27)) = wa at *
  refine (GFew_any wa _ t HV.out HS.out).mono ?_
  rintro e w1 ⟨bf, rfl, hg1, hbf⟩
  have HW1 := Lib.hid hg1
  clear C0 C1 hg1
  cases bf with
  | false =>
    clear hbf
    go_wp2_with fail
    refine (GKnown_any w1).mono ?_
    rintro e w2 ⟨rfl, hg2⟩
    have hF := Lib.hid (grown_trans HG.out (grown_trans HW1.out hg2))
    clear hg2
    go_wp2_with fail
    go_ret
    exact ⟨rfl, hF.out⟩
  | true =>
    obtain ⟨hn, hc⟩ := hbf rfl
    have HN := Lib.hid hn
    have HC := Lib.hid hc
    clear hbf hc hn
    obtain ⟨C0, C1, _, _⟩ := box_cells2 (heap_kept HW1.out HBT.out)
    go_wp2_with fail
    refine (RRecords_any w1 _ t (HV.out.kept HW1.out) HS.out HN.out).mono ?_
    rintro e w2 ⟨v2, rfl, ho2, hg2⟩
    obtain ⟨s2, c2, rfl, _, hnc2, hcm2⟩ := ho2.shape
    obtain ⟨rs, hrs⟩ : ∃ rs, recT t = rs := ⟨_, rfl⟩
    have hne : 0 < (recT t).length := by simp [recT]; omega
    rw [hrs] at ho2 hne hnc2 ⊢
    rw [hrs] at HN HC HSM
    obtain ⟨n, hn⟩ : ∃ n, rs.length = n := ⟨_, rfl⟩
    rw [hn] at ho2 hne hnc2 ⊢
    have HNN := Lib.hid hn
    have HL2 := Lib.hid ho2
    have HW2 := Lib.hid (grown_trans HG.out (grown_trans HW1.out hg2))
    have hn4 : n ≤ 400 := by have := HN.out; omega
    obtain ⟨k, hkn, hkw⟩ := rem_tol Z n (by omega) (by omega)
    have HKW := Lib.hid hkw
    have i1 : (n : Int) ≠ 0 := by omega
    clear ho2 hg2 hrs hn C0 C1 HW1 HBT HV
    go_wp2_with fail
    clear hkw
    rw [HKW.out]
    go_loopg [9, 10] n (fun gh y i wr => ∃ j : Nat, j ≤ n ∧ n - j ≤ gh ∧ i = .int .i64 (j : Int) ∧ Hid (OwnL wr w2.heap.size y (lessUp rs k tw j)) ∧ Hid (w2.grownBy wr none))
    case atStart => exact ⟨0, Nat.zero_le _, Nat.le_refl _, rfl, Lib.hid ⟨[], ⟨by simp [lessUp], Or.inl ⟨rfl, rfl⟩⟩, rfl, by simp, fun i h => by simp [lessUp] at h⟩, Lib.hid (grown_refl _ _)⟩
    case round =>
      obtain ⟨j, hj, hgh, rfl, HL, HW⟩ := hrel
      obtain ⟨sl, nl, cl, rfl⟩ := HL.out.shapeN
      have hll := less_len rs k tw j
      have HLL : Hid ((lessUp rs k tw j).length ≤ 500) := Lib.hid (by split at hll <;> omega)
      clear hll
      by_cases hlt : j < n
      · have f1 : decide ((j : Int) < (n : Int)) = true := decide_eq_true (by omega)
        have hjl : j < rs.length := by rw [HNN.out]; exact hlt
        obtain ⟨a, q, sb', cb', kd, dt, bd, rfl, hq, hr, A0, A1, A2, hbd, hbz, hbc, hbm⟩ := (HL2.out.kept HW.out).at j hjl
        have HRJ : Hid (rs[j]? = some (kd, dt, bd)) := Lib.hid (by rw [List.getElem?_eq_getElem hjl, hr])
        by_cases hjk : j = k
        · have t1 : ((j : Int) != (k : Int)) = false := by rw [hjk]; simp
          have t2 : ((j : Int) == (k : Int)) = true := by rw [hjk]; simp
          have HJK := Lib.hid hjk
          cases tw with
          | false =>
            have HL3 : Hid (OwnL wr w2.heap.size (.slice sl nl cl) (lessUp rs k false (j + 1))) := Lib.hid (by rw [less_out HRJ.out HJK.out]; exact HL.out)
            clear hr hbd hbz hbc hbm hjl A0 A1 A2 hjk
            go_wp2_with fail
            go_roundg (n - (j + 1))
            case measure => omega
            case rel => exact ⟨j + 1, by omega, Nat.le_refl _, by go_num, HL3, HW⟩
          | true =>
            obtain ⟨v3, w3, hr3, hL3, hgr3⟩ := run_rows1 (kd := kd) (dt := dt) HL.out hbd hbz hbc hbm (by have := HLL.out; omega) HW.out.size
            obtain ⟨s3, n3, c3, rfl⟩ := hL3.shapeN
            have HW3 := Lib.hid (hgr3 w2 HW.out (Nat.le_refl _))
            have HLX := HL2.out.kept HW3.out
            obtain ⟨_, q3, sb3, cb3, kd3, dt3, bd3, e3, hq3, hr3', B0, B1, B2, hbd3, hbz3, hbc3, hbm3⟩ := HLX.at j hjl
            cases e3
            rw [hr] at hr3'
            cases hr3'
            rw [hq] at hq3
            subst hq3
            obtain ⟨v4, w4, hr4, hL4, hgr4⟩ := run_rows1 (kd := kd) (dt := dt) hL3 hbd3 hbz3 hbc3 hbm3 (by rw [List.length_append]; have := HLL.out; simp; omega) HW3.out.size
            obtain ⟨s4, n4, c4, rfl⟩ := hL4.shapeN
            have HR3 := Lib.hid hr3
            have HR4 := Lib.hid hr4
            have HW4 := Lib.hid (hgr4 w2 HW3.out (Nat.le_refl _))
            have HL4 : Hid (OwnL w4 w2.heap.size (.slice s4 n4 c4) (lessUp rs k true (j + 1))) := Lib.hid (by rw [less_two HRJ.out HJK.out]; exact hL4)
            obtain ⟨bl, hbl⟩ : ∃ b, bd.length = b := ⟨_, rfl⟩
            rw [hbl] at A2 B2 HR3 HR4
            have HBB := Lib.hid (And.intro B0 (And.intro B1 B2))
            have HA := Lib.hid (And.intro A0 (And.intro A1 A2))
            clear hr hbd hbz hbc hbm hjl hjk hr3 hL3 hgr3 hr4 hL4 hgr4 HLX hbd3 hbz3 hbc3 hbm3 hbl B0 B1 B2
            have B0 := HBB.out.1
            have B1 := HBB.out.2.1
            have B2 := HBB.out.2.2
            go_wp2_with (at_builtin; first | (refine Lib.wpList_append_run _ rfl (.tmp 44) (.tmp 49) 24 24 rfl _ _ rfl rfl _ _ HR3.out ?_) | (refine Lib.wpList_append_run _ rfl (.tmp 57) (.tmp 62) 24 24 rfl _ _ rfl rfl _ _ HR4.out ?_))
            go_wp2_with fail
            go_roundg (n - (j + 1))
            case measure => omega
            case rel => exact ⟨j + 1, by omega, Nat.le_refl _, by go_num, HL4, HW4⟩
        · have t1 : ((j : Int) != (k : Int)) = true := bne_iff_ne.2 (by omega)
          have t2 : ((j : Int) == (k : Int)) = false := beq_eq_false_iff_ne.2 (by omega)
          obtain ⟨v3, w3, hr3, hL3, hgr3⟩ := run_rows1 (kd := kd) (dt := dt) HL.out hbd hbz hbc hbm (by have := HLL.out; omega) HW.out.size
          obtain ⟨s3, n3, c3, rfl⟩ := hL3.shapeN
          have HR3 := Lib.hid hr3
          have HW3 := Lib.hid (hgr3 w2 HW.out (Nat.le_refl _))
          have HL3 : Hid (OwnL w3 w2.heap.size (.slice s3 n3 c3) (lessUp rs k tw (j + 1))) := Lib.hid (by rw [less_off HRJ.out hjk]; exact hL3)
          obtain ⟨bl, hbl⟩ : ∃ b, bd.length = b := ⟨_, rfl⟩
          rw [hbl] at A2 HR3
          clear hr hbd hbz hbc hbm hjl hjk hr3 hL3 hgr3 hbl
          go_wp2_with (at_builtin; refine Lib.wpList_append_run _ rfl (.tmp 44) (.tmp 49) 24 24 rfl _ _ rfl rfl _ _ HR3.out ?_)
          go_wp2_with fail
          go_roundg (n - (j + 1))
          case measure => omega
          case rel => exact ⟨j + 1, by omega, Nat.le_refl _, by go_num, HL3, HW3⟩
      · have hje : j = n := by omega
        subst hje
        have f1 : decide ((j : Int) < (j : Int)) = false := decide_eq_false (by omega)
        obtain ⟨ms, hms⟩ : ∃ ms, lessUp rs k tw j = ms := ⟨_, rfl⟩
        rw [hms] at HL HLL
        have HBY : Hid ((∀ r ∈ ms, okR r) → (joinB ms).length ≤ 500000) := Lib.hid fun h => by
          have h9 := less_bytes (rs := rs) (k := k) (tw := tw) (by rw [HNN.out, hms]; exact h) HN.out HC.out
          rw [HNN.out, hms] at h9; exact h9
        have HSMM : Hid (∀ r ∈ ms, r.1 < 256 ∧ r.2.1 < 256) := Lib.hid fun r hr => HSM.out r (less_mem j (by rw [hms]; exact hr))
        obtain ⟨s3, c3, e3, _⟩ := HL.out.shape
        obtain ⟨e31, e32, e33⟩ := Value.slice.inj e3
        subst e31 e33
        have HNM := Lib.hid e32.symm
        have HSL := Lib.hid HL.out.sl
        have hnl : nl ≤ 500 := by have := HLL.out; omega
        clear e3 e32 hgh hms
        go_wp2_with fail
        refine (RJoinC_any wr sl nl cl ms HNM.out HSL.out HSMM.out (fun h => by have := HBY.out h; omega) (by omega)).mono ?_
        rcases joinD_code ms with ⟨hj0, hall⟩ | hbad
        · obtain ⟨L, hL⟩ : ∃ L, joinB ms = L := ⟨_, rfl⟩
          have hjd : joinD ms = (0, L) := by rw [joinD_ok hall, hL]
          have hlen : L.length ≤ 500000 := by rw [← hL]; exact HBY.out hall
          rw [hjd]
          rintro e w5 ⟨v5, rfl, hob, hg5⟩
          dsimp only at hob ⊢
          obtain ⟨s5, c5, rfl, hy5, hz5, hc5, hm5⟩ := hob.shape
          obtain ⟨M, hM⟩ : ∃ M, L.length = M := ⟨_, rfl⟩
          rw [hM] at hz5 hc5 hlen ⊢
          have HM := Lib.hid hM
          have HY5 := Lib.hid hy5
          have HZ5 := Lib.hid hz5
          have HG5 := Lib.hid (grown_trans HW2.out (grown_trans HW.out hg5))
          clear hj0 hall hL hjd hob hy5 hz5 hM hg5
          have q0 : (((0 : Nat) : Int) != 0) = false := by decide
          go_wp2_with fail
          refine (Parse_any w5 s5 M c5 L HM.out HY5.out HZ5.out hc5 hm5 (by omega)).mono ?_
          obtain ⟨⟨c, u, p⟩, hx⟩ : ∃ x, parseD L = x := ⟨_, rfl⟩
          rw [hx]
          have HX := Lib.hid hx
          rintro e w7 ⟨u7, rfl, hu7, hg7⟩
          dsimp only at hu7 ⊢
          obtain ⟨se, ce, sf, cf, rfl⟩ := hu7.v.two
          obtain ⟨U1, hU1⟩ : ∃ N, u.1.length = N := ⟨_, rfl⟩
          obtain ⟨U2, hU2⟩ : ∃ N, u.2.length = N := ⟨_, rfl⟩
          rw [hU1, hU2] at hu7 ⊢
          have HU1 := Lib.hid hU1
          have HU2 := Lib.hid hU2
          have gA := World.grownBy_alloc w7 (.cells #[.slice se U1 ce, .slice sf U2 cf] 27) none
          have Bu := heap_new w7 (.cells #[.slice se U1 ce, .slice sf U2 cf] 27) w7.heap.size rfl
          have HV8 := Lib.hid (hu7.v.kept gA)
          have HG8 := Lib.hid (grown_trans HG5.out (grown_trans hg7 gA))
          have HY8 := Lib.hid (HY5.out.kept (grown_trans hg7 gA))
          have HBU := Lib.hid Bu
          clear hu7 hg7 gA Bu hx HG5 HY5 hU1 hU2
          go_wp2_with fail
          generalize (w7.alloc (.cells #[.slice se U1 ce, .slice sf U2 cf] 27)) = w8 at *
          refine (RParse_any w8 s5 M c5 L HM.out HY8.out hc5 hm5 (by omega)).mono ?_
          rw [HX.out]
          rintro e w9 ⟨u9, rfl, hu9, hg9⟩
          dsimp only at hu9 ⊢
          obtain ⟨sg, cg, sh, ch, rfl⟩ := hu9.v.two
          rw [HU1.out, HU2.out] at hu9 ⊢
          have gB := World.grownBy_alloc w9 (.cells #[.slice sg U1 cg, .slice sh U2 ch] 27) none
          have Bv := heap_new w9 (.cells #[.slice sg U1 cg, .slice sh U2 ch] 27) w9.heap.size rfl
          have hg10 := grown_trans hg9 gB
          have HV10 := Lib.hid (HV8.out.kept hg10)
          have HU10 := Lib.hid (hu9.v.kept gB)
          have HG10 := Lib.hid (grown_trans HG8.out hg10)
          have HBU10 := Lib.hid (heap_kept hg10 HBU.out)
          have HBV := Lib.hid Bv
          clear hu9 hg9 gB Bv hg10 HV8 HG8 HY8 HBU HX
          go_wp2_with fail
          generalize (w9.alloc (.cells #[.slice sg U1 cg, .slice sh U2 ch] 27)) = w10 at *
          refine (GKnown_any w10).mono ?_
          rintro e w11 ⟨rfl, hg11⟩
          have HG11 := Lib.hid (grown_trans HG10.out hg11)
          have HV11 := Lib.hid (HV10.out.kept hg11)
          have HU11 := Lib.hid (HU10.out.kept hg11)
          obtain ⟨C0, C1, _, _⟩ := box_cells2 (heap_kept hg11 HBU10.out)
          obtain ⟨E0, E1, _, _⟩ := box_cells2 (heap_kept hg11 HBV.out)
          have t1 : ((c : Int) == (c : Int)) = true := by simp
          have t2 : ((p : Int) == (p : Int)) = true := by simp
          clear hg11 HG10 HV10 HU10 HBU10 HBV
          go_wp2_with fail
          refine (SameT_any _ _ _ u HV11.out HU11.out).mono ?_
          rintro e w12 ⟨rfl, hg12⟩
          have HF := Lib.hid (grown_trans HG11.out hg12)
          clear hg12 C0 C1 E0 E1
          go_wp2_with fail
          go_ret
          exact ⟨by simp, HF.out⟩
        · rw [hbad]
          rintro e w5 ⟨v5, rfl, hob, hg5⟩
          dsimp only at hob ⊢
          obtain ⟨s5, c5, rfl, _⟩ := hob.shape
          have HG5 := Lib.hid (grown_trans HW2.out (grown_trans HW.out hg5))
          clear hbad hob hg5
          have q0 : (((3 : Nat) : Int) != 0) = true := by decide
          go_wp2_with fail
          refine (GKnown_any w5).mono ?_
          rintro e w6 ⟨rfl, hg6⟩
          have HF := Lib.hid (grown_trans HG5.out hg6)
          clear hg6
          go_wp2_with fail
          go_ret
          exact ⟨rfl, HF.out⟩
end Go.Proofs.Ytcioefmldcmhgaa
namespace Go.Proofs.Ytcioefmldcmhgaa.GdsLess
open Go.ChangeShapes Go.WideShapes Go.ChangeAt Go.RowKit Go.ChangeMaps Go.Deep
set_option linter.unusedVariables false
set_option linter.unusedSimpArgs false
set_option maxRecDepth 100000

theorem contract (H : Type) (enc : TypeId × Value → H) (W : World) (base : Nat) (args : Array Value) (ds gs : List (DataW H)) (before : List MemPlace)
    (hval : ∀ (j : Nat) t v, Try.f7.params[j]? = some t → args[j]? = some v → Value.okWide Try.prog W .any base t v)
    (hW : DataW.Whole enc Try.prog Try.f7.params.toList Rows.gdsLessSpec.vars false W args.toList ds gs before)
    (hsz0 : (DataW.weightsEach Try.prog (Try.f7.params.toList ++ Rows.gdsLessSpec.plain.varTypes Try.prog) (ds ++ gs)).all (· ≤ reachBytes) = true) :
    Calls Try.prog 7 args W fun e W' => ∃ v, e = .returned v ∧ Rows.gdsLessSpec.post enc Try.prog Try.f7 false true false false W args v W' := by
  have hW' := hW
  obtain ⟨p, q, hA0, hV, rfl, hfz, hnd⟩ := hW
  have hA : DataW.TrodAll enc Try.prog W 0 (fun _ => true) true Try.f7.params.toList args.toList ds p := hA0
  rw [Try.params7] at hA hval
  have hsz : ∀ m ∈ DataW.weightsEach Try.prog (Try.f7.params.toList ++ Rows.gdsLessSpec.plain.varTypes Try.prog) (ds ++ gs), m ≤ reachBytes := fun m hm => of_decide_eq_true (List.all_eq_true.1 hsz0 m hm)
  rw [Try.params7] at hsz
  clear hsz0
  obtain ⟨v0, vs0, d0, ds0, p0, q0, hargs0, rfl, rfl, h0, r0⟩ := trodAll_cons hA
  obtain ⟨v1, vs1, d1, ds1, p1, q1, hargs1, rfl, rfl, h1, r1⟩ := trodAll_cons r0
  obtain ⟨v2, vs2, d2, ds2, p2, q2, hargs2, rfl, rfl, h2, r2⟩ := trodAll_cons r1
  obtain ⟨rfl, rfl, rfl⟩ := trodAll_nil r2
  obtain rfl : args = #[v0, v1, v2] := by cases args; simp_all
  obtain ⟨rfl, rfl⟩ := trodVars_none hV
  simp only [List.append_nil] at hW' hfz
  have hlt : ∀ p ∈ p0 ++ (p1 ++ p2), p.block < W.heap.size := fun p hp => by
    have := DataW.TrodAll.lt hA p (by simpa using hp)
    exact this
  have hv0 := hval 0 27 v0 rfl rfl
  have hw0 : WOk 27 d0 := fun m hm => hsz m (by simp only [List.cons_append, List.nil_append, DataW.weightsEach]; exact List.mem_append_left _ hm)
  obtain ⟨t0, x01, x02⟩ := open_libS hv0 h0 hw0
  have hv1 := hval 1 3 v1 rfl rfl
  obtain ⟨z1, rfl, _, _, x11⟩ := open_int Try.underlying3 hv1 h1
  have hv2 := hval 2 4 v2 rfl rfl
  obtain ⟨z2, rfl, _⟩ := open_bool Try.underlying4 hv2 h2
  clear hA0
  refine (gdsLess_walk W v0 t0 x01 x02 z1 x11 z2).mono fun e W' ⟨he, hg⟩ => ?_
  subst he
  have hs0 : ∀ sp : Nat → Bool, (∀ p ∈ p0, sp p.block = true) → DataW.Trod enc Try.prog W' 0 sp true 27 (v0) d0 p0 := fun sp hsp =>
    Go.WideElems.Trod_stays (by kernel_rfl) (by kernel_rfl) (of_decide_eq_true (by kernel_rfl)) h0 (fun p hp => grown_same hg (hlt p (by simp [hp]))) hsp
  have hs1 : ∀ sp : Nat → Bool, (∀ p ∈ p1, sp p.block = true) → DataW.Trod enc Try.prog W' 0 sp true 3 (.int .i64 z1) d1 p1 := fun sp hsp =>
    Go.WideElems.Trod_stays (by kernel_rfl) (by kernel_rfl) (of_decide_eq_true (by kernel_rfl)) h1 (fun p hp => grown_same hg (hlt p (by simp [hp]))) hsp
  have hs2 : ∀ sp : Nat → Bool, (∀ p ∈ p2, sp p.block = true) → DataW.Trod enc Try.prog W' 0 sp true 4 (.bool z2) d2 p2 := fun sp hsp =>
    Go.WideElems.Trod_stays (by kernel_rfl) (by kernel_rfl) (of_decide_eq_true (by kernel_rfl)) h2 (fun p hp => grown_same hg (hlt p (by simp [hp]))) hsp
  exact ⟨_, rfl, post_places hW' hlt (fun _ _ _ => trodAll_cons_mk (shut_bool Try.underlying4 _) trodAll_mk0) (fun sp hsp => by
    have := trodAll_cons_mk (hs0 sp (fun p hp => hsp p (by simp [hp]))) (trodAll_cons_mk (hs1 sp (fun p hp => hsp p (by simp [hp]))) (trodAll_cons_mk (hs2 sp (fun p hp => hsp p (by simp [hp]))) (trodAll_mk0)))
    rw [List.append_nil] at this
    exact this) (fun _ => rfl) hg (ok_one (by kernel_rfl) rfl (okWide_bool_mk Try.underlying4 _))⟩

theorem lifted (os : Os) (started : os.Started) (H : Type) (enc : TypeId × Value → H) :
    ReturnsInHanded {} Try.checked os 7 .any (Rows.gdsLessSpec.pre6 enc Try.prog Try.f7 Rows.gdsLessRow.domain false) (Rows.gdsLessSpec.post enc Try.prog Try.f7 false true false false) := by
  refine returnsInHanded_of_change_sized (C := Try.checked) law_own started (by kernel_rfl) Try.func7
    (ChangeSpec.witness6 (enc := enc) (C := Try.checked) false ⟨#[], #[.agg #[.slice none 0 0, .slice none 0 0], .int .i64 0, .bool false], []⟩ 8 (by kernel_rfl) (by kernel_rfl) (by kernel_rfl) (by kernel_rfl)) ?_
  intro W base args ds gs before hval hW _ hsz _
  exact contract H enc W base args ds gs before hval hW hsz

theorem said : Rows.GdsLessSaid :=
  OpenClaim.holds_of_wide 7 Try.f7 rfl rfl rfl rfl rfl rfl rfl ⟨rfl, rfl, rfl, rfl, rfl⟩ rfl rfl rfl rfl rfl (by kernel_rfl) Try.func7 (by kernel_rfl)
    (of_decide_eq_true (by kernel_rfl)) (by unfold Func.isWrapper; first | (rw [if_pos (by decide +kernel)]; kernel_rfl) | (rw [if_neg (by decide +kernel)]; exact ⟨rfl, rfl⟩))
    (fun os started H enc _ => lifted os started H enc)
end Go.Proofs.Ytcioefmldcmhgaa.GdsLess
