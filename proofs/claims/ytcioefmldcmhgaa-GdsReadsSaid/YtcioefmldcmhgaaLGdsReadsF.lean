/-
  GdsReads: whatever the bytes, their tree, how many bytes it has, or that they are none, is the document's: the law returns true and leaves its argument. No condition.
-/
import Derived.Test.YtcioefmldcmhgaaGB6m
import Derived.Test.YtcioefmldcmhgaaGA2
import Derived.Test.YtcioefmldcmhgaaGN
import Derived.Test.YtcioefmldcmhgaaGLaw
namespace Go.Proofs.Ytcioefmldcmhgaa
open Go.RowKit
set_option maxRecDepth 100000
set_option linter.unusedVariables false
set_option linter.unusedSimpArgs false

set_option maxHeartbeats 16000000 in
theorem Copied7_none (w : World) : Calls Try.prog 9 #[.slice none 0 0] w (RetCO w []) := by
  obtain ⟨i1, hi, hz0, hz1, hz2⟩ := info_partsU
  have hG := World.grownBy_alloc w (.cells #[] 5) none
  have HO := Lib.hid (own_empty w)
  go_enter Try.func9, Try.ntmps9
  go_wp2_with (at_builtin; refine wpList_append_own_none rfl (.tmp 3) (.tmp 4) 22 rfl w.heap.size 5 i1 1 Try.underlying22 hi (.slice (some ⟨w.heap.size, 0, none⟩) 0 0) 0 [] rfl HO.out rfl ?_)
  go_ret
  exact ⟨w.heap.size, 0, rfl, ⟨HO.out, by simp⟩, hG⟩
theorem Copied7_all (w : World) (s : Option Addr) (n cap : Nat) (l : List Nat) (hn : l.length = n) (hl : BySl w s l) (hz : s = none → n = 0 ∧ cap = 0) (h64 : n ≤ 140737488355328) :
    Calls Try.prog 9 #[.slice s n cap] w (RetCO w l) := by
  cases s with
  | some a => exact Copied7_any w a n cap l hn hl h64
  | none =>
    obtain ⟨rfl, rfl⟩ := hz rfl
    obtain rfl : l = [] := List.length_eq_zero_iff.1 hn
    exact Copied7_none w
set_option maxHeartbeats 32000000 in
theorem gdsReads_walk (w : World) (s : Option Addr) (n cap : Nat) (l : List Nat) (hn : l.length = n) (hl : BySl w s l) (hz : s = none → n = 0 ∧ cap = 0) (hc : n ≤ cap) (hm : cap ≤ 9223372036854775807) :
    Calls Try.prog 3 #[.slice s n cap] w (RetYes w) := by
  by_cases hbig : 400000 < n
  · skip
    have q0 : decide ((400000 : Int) < (n : Int)) = true := decide_eq_true (by omega)
    obtain ⟨L, hL⟩ : ∃ L, l.take 400000 = L := ⟨_, rfl⟩
    have hLn : L.length = 400000 := by rw [← hL, List.length_take]; omega
    have hLs : BySl w s L := by rw [← hL]; exact hl.take _
    have i4 : (400000 : Int) ≤ (cap : Int) := by omega
    obtain ⟨M, hM⟩ : ∃ M, M = 400000 := ⟨_, rfl⟩
    have hzs : s = none → M = 0 ∧ cap = 0 := fun e => by have := hz e; omega
    have hMc : M ≤ cap := by omega
    have hMl : M ≤ 400000 := by omega
    have HLN : Hid (L.length = M) := Lib.hid (by rw [hM]; exact hLn)
    have HMM := Lib.hid hM
    have HLS := Lib.hid hLs
    have HZS := Lib.hid hzs
    clear hl hn hz hbig hL hLn hLs hzs hc hM
    go_enter Try.func3, Try.ntmps3
    go_wp2_with fail
    (rw [show (400000 : Nat) = M from HMM.out.symm])
    refine (Copied7_all w s M cap L HLN.out HLS.out HZS.out (by omega)).mono ?_
    rintro e w5 ⟨g5, c5, rfl, hO5, hg5⟩
    rw [HLN.out] at hO5 ⊢
    obtain ⟨s6, c6, e6, hy6, hz6, hc6, hm6⟩ := hO5.shape
    obtain ⟨h61, h62, h63⟩ := Value.slice.inj e6
    subst h61
    subst h63
    rw [HLN.out] at hc6
    have HY6 := Lib.hid hy6
    have HG5 := Lib.hid hg5
    clear e6 h62 hO5 hy6 hz6 hg5
    go_wp2_with fail
    refine (Parse_any w5 (some ⟨g5, 0, none⟩) M c5 L HLN.out HY6.out (fun e => by cases e) hc6 hm6 (by omega)).mono ?_
    obtain ⟨⟨c, t, k⟩, hx⟩ : ∃ x, parseD L = x := ⟨_, rfl⟩
    rw [hx]
    have HX := Lib.hid hx
    rintro e w7 ⟨u7, rfl, hu7, hg7⟩
    dsimp only at hu7 ⊢
    obtain ⟨se, ce, sf, cf, rfl⟩ := hu7.v.two
    have gA := World.grownBy_alloc w7 (.cells #[.slice se t.1.length ce, .slice sf t.2.length cf] 27) none
    have Bu := heap_new w7 (.cells #[.slice se t.1.length ce, .slice sf t.2.length cf] 27) w7.heap.size rfl
    have HV8 := Lib.hid (hu7.v.kept gA)
    have HG8 := Lib.hid (grown_trans HG5.out (grown_trans hg7 gA))
    have HY8 := Lib.hid (HY6.out.kept (grown_trans hg7 gA))
    have HBU := Lib.hid Bu
    clear hu7 hg7 gA Bu hx HG5 HY6
    go_wp2_with fail
    generalize (w7.alloc (.cells #[.slice se t.1.length ce, .slice sf t.2.length cf] 27)) = w8 at *
    refine (RParse_any w8 s M cap L HLN.out (HLS.out.kept HG8.out) hMc hm (by omega)).mono ?_
    rw [HX.out]
    rintro e w9 ⟨u9, rfl, hu9, hg9⟩
    dsimp only at hu9 ⊢
    obtain ⟨sg, cg, sh, ch, rfl⟩ := hu9.v.two
    have gB := World.grownBy_alloc w9 (.cells #[.slice sg t.1.length cg, .slice sh t.2.length ch] 27) none
    have Bv := heap_new w9 (.cells #[.slice sg t.1.length cg, .slice sh t.2.length ch] 27) w9.heap.size rfl
    have hg10 := grown_trans hg9 gB
    have HV10 := Lib.hid (HV8.out.kept hg10)
    have HU10 := Lib.hid (hu9.v.kept gB)
    have HG10 := Lib.hid (grown_trans HG8.out hg10)
    have HY10 := Lib.hid (HY8.out.kept hg10)
    have HBU10 := Lib.hid (heap_kept hg10 HBU.out)
    have HBV := Lib.hid Bv
    clear hu9 hg9 gB Bv hg10 HV8 HG8 HY8 HBU HX
    go_wp2_with fail
    generalize (w9.alloc (.cells #[.slice sg t.1.length cg, .slice sh t.2.length ch] 27)) = w10 at *
    refine (GKnown_any w10).mono ?_
    rintro e w11 ⟨rfl, hg11⟩
    have HG11 := Lib.hid (grown_trans HG10.out hg11)
    have HV11 := Lib.hid (HV10.out.kept hg11)
    have HU11 := Lib.hid (HU10.out.kept hg11)
    have HY11 := Lib.hid (HY10.out.kept hg11)
    obtain ⟨C0, C1, _, _⟩ := box_cells2 (heap_kept hg11 HBU10.out)
    obtain ⟨E0, E1, _, _⟩ := box_cells2 (heap_kept hg11 HBV.out)
    have t1 : ((c : Int) == (c : Int)) = true := by simp
    have t2 : ((k : Int) == (k : Int)) = true := by simp
    clear hg11 HG10 HV10 HU10 HY10 HBU10 HBV
    go_wp2_with fail
    refine (SameT_any _ _ _ t HV11.out HU11.out).mono ?_
    rintro e w12 ⟨rfl, hg12⟩
    have hG12 := grown_trans HG11.out hg12
    have k1 : (convert 22 9 (.slice s M cap)).run Try.prog w12 = .ok (.string (strOf L)) w12 := conv_by w12 s M cap _ HLN.out (HLS.out.kept hG12)
    have k2 : (convert 22 9 (.slice (some ⟨g5, 0, none⟩) M c5)).run Try.prog w12 = .ok (.string (strOf L)) w12 := conv_by w12 (some ⟨g5, 0, none⟩) M c5 _ HLN.out (HY11.out.kept hg12)
    have HF := Lib.hid hG12
    clear hg12 hG12 C0 C1 E0 E1
    go_wp2_with fail
    go_ret
    exact ⟨by simp, HF.out⟩
  · skip
    have q0 : decide ((400000 : Int) < (n : Int)) = false := decide_eq_false (by omega)
    obtain ⟨L, hL⟩ : ∃ L, l = L := ⟨_, rfl⟩
    obtain ⟨M, hM⟩ : ∃ M, n = M := ⟨_, rfl⟩
    subst hL
    subst hM
    have hMl : n ≤ 400000 := by omega
    have hMc := hc
    have HLN := Lib.hid hn
    have HLS := Lib.hid hl
    have HZS := Lib.hid hz
    clear hl hn hz hbig hc
    go_enter Try.func3, Try.ntmps3
    go_wp2_with fail
    refine (Copied7_all w s n cap l HLN.out HLS.out HZS.out (by omega)).mono ?_
    rintro e w5 ⟨g5, c5, rfl, hO5, hg5⟩
    rw [HLN.out] at hO5 ⊢
    obtain ⟨s6, c6, e6, hy6, hz6, hc6, hm6⟩ := hO5.shape
    obtain ⟨h61, h62, h63⟩ := Value.slice.inj e6
    subst h61
    subst h63
    rw [HLN.out] at hc6
    have HY6 := Lib.hid hy6
    have HG5 := Lib.hid hg5
    clear e6 h62 hO5 hy6 hz6 hg5
    go_wp2_with fail
    refine (Parse_any w5 (some ⟨g5, 0, none⟩) n c5 l HLN.out HY6.out (fun e => by cases e) hc6 hm6 (by omega)).mono ?_
    obtain ⟨⟨c, t, k⟩, hx⟩ : ∃ x, parseD l = x := ⟨_, rfl⟩
    rw [hx]
    have HX := Lib.hid hx
    rintro e w7 ⟨u7, rfl, hu7, hg7⟩
    dsimp only at hu7 ⊢
    obtain ⟨se, ce, sf, cf, rfl⟩ := hu7.v.two
    have gA := World.grownBy_alloc w7 (.cells #[.slice se t.1.length ce, .slice sf t.2.length cf] 27) none
    have Bu := heap_new w7 (.cells #[.slice se t.1.length ce, .slice sf t.2.length cf] 27) w7.heap.size rfl
    have HV8 := Lib.hid (hu7.v.kept gA)
    have HG8 := Lib.hid (grown_trans HG5.out (grown_trans hg7 gA))
    have HY8 := Lib.hid (HY6.out.kept (grown_trans hg7 gA))
    have HBU := Lib.hid Bu
    clear hu7 hg7 gA Bu hx HG5 HY6
    go_wp2_with fail
    generalize (w7.alloc (.cells #[.slice se t.1.length ce, .slice sf t.2.length cf] 27)) = w8 at *
    refine (RParse_any w8 s n cap l HLN.out (HLS.out.kept HG8.out) hMc hm (by omega)).mono ?_
    rw [HX.out]
    rintro e w9 ⟨u9, rfl, hu9, hg9⟩
    dsimp only at hu9 ⊢
    obtain ⟨sg, cg, sh, ch, rfl⟩ := hu9.v.two
    have gB := World.grownBy_alloc w9 (.cells #[.slice sg t.1.length cg, .slice sh t.2.length ch] 27) none
    have Bv := heap_new w9 (.cells #[.slice sg t.1.length cg, .slice sh t.2.length ch] 27) w9.heap.size rfl
    have hg10 := grown_trans hg9 gB
    have HV10 := Lib.hid (HV8.out.kept hg10)
    have HU10 := Lib.hid (hu9.v.kept gB)
    have HG10 := Lib.hid (grown_trans HG8.out hg10)
    have HY10 := Lib.hid (HY8.out.kept hg10)
    have HBU10 := Lib.hid (heap_kept hg10 HBU.out)
    have HBV := Lib.hid Bv
    clear hu9 hg9 gB Bv hg10 HV8 HG8 HY8 HBU HX
    go_wp2_with fail
    generalize (w9.alloc (.cells #[.slice sg t.1.length cg, .slice sh t.2.length ch] 27)) = w10 at *
    refine (GKnown_any w10).mono ?_
    rintro e w11 ⟨rfl, hg11⟩
    have HG11 := Lib.hid (grown_trans HG10.out hg11)
    have HV11 := Lib.hid (HV10.out.kept hg11)
    have HU11 := Lib.hid (HU10.out.kept hg11)
    have HY11 := Lib.hid (HY10.out.kept hg11)
    obtain ⟨C0, C1, _, _⟩ := box_cells2 (heap_kept hg11 HBU10.out)
    obtain ⟨E0, E1, _, _⟩ := box_cells2 (heap_kept hg11 HBV.out)
    have t1 : ((c : Int) == (c : Int)) = true := by simp
    have t2 : ((k : Int) == (k : Int)) = true := by simp
    clear hg11 HG10 HV10 HU10 HY10 HBU10 HBV
    go_wp2_with fail
    refine (SameT_any _ _ _ t HV11.out HU11.out).mono ?_
    rintro e w12 ⟨rfl, hg12⟩
    have hG12 := grown_trans HG11.out hg12
    have k1 : (convert 22 9 (.slice s n cap)).run Try.prog w12 = .ok (.string (strOf l)) w12 := conv_by w12 s n cap _ HLN.out (HLS.out.kept hG12)
    have k2 : (convert 22 9 (.slice (some ⟨g5, 0, none⟩) n c5)).run Try.prog w12 = .ok (.string (strOf l)) w12 := conv_by w12 (some ⟨g5, 0, none⟩) n c5 _ HLN.out (HY11.out.kept hg12)
    have HF := Lib.hid hG12
    clear hg12 hG12 C0 C1 E0 E1
    go_wp2_with fail
    go_ret
    exact ⟨by simp, HF.out⟩
end Go.Proofs.Ytcioefmldcmhgaa
namespace Go.Proofs.Ytcioefmldcmhgaa.GdsReads
open Go.ChangeShapes Go.WideShapes Go.ChangeAt Go.RowKit Go.ChangeMaps Go.Deep
set_option linter.unusedVariables false
set_option linter.unusedSimpArgs false
set_option maxRecDepth 100000

theorem contract (H : Type) (enc : TypeId × Value → H) (W : World) (base : Nat) (args : Array Value) (ds gs : List (DataW H)) (before : List MemPlace)
    (hval : ∀ (j : Nat) t v, Try.f3.params[j]? = some t → args[j]? = some v → Value.okWide Try.prog W .any base t v)
    (hW : DataW.Whole enc Try.prog Try.f3.params.toList Rows.gdsReadsSpec.vars false W args.toList ds gs before) :
    Calls Try.prog 3 args W fun e W' => ∃ v, e = .returned v ∧ Rows.gdsReadsSpec.post enc Try.prog Try.f3 false true false false W args v W' := by
  have hW' := hW
  obtain ⟨p, q, hA0, hV, rfl, hfz, hnd⟩ := hW
  have hA : DataW.TrodAll enc Try.prog W 0 (fun _ => true) true Try.f3.params.toList args.toList ds p := hA0
  rw [Try.params3] at hA hval
  obtain ⟨v0, vs0, d0, ds0, p0, q0, hargs0, rfl, rfl, h0, r0⟩ := trodAll_cons hA
  obtain ⟨rfl, rfl, rfl⟩ := trodAll_nil r0
  obtain rfl : args = #[v0] := by cases args; simp_all
  obtain ⟨rfl, rfl⟩ := trodVars_none hV
  simp only [List.append_nil] at hW' hfz
  have hlt : ∀ p ∈ p0, p.block < W.heap.size := fun p hp => by
    have := DataW.TrodAll.lt hA p (by simpa using hp)
    exact this
  have hv0 := hval 0 22 v0 rfl rfl
  obtain ⟨a0, n0, c0, rfl⟩ := okWide_slice Try.underlying22 hv0
  obtain ⟨l0, x01, x02, x03, x04, x05⟩ := open_by h0
  clear hA0
  refine (gdsReads_walk W a0 n0 c0 l0 x01 x02 x03 x04 x05).mono fun e W' ⟨he, hg⟩ => ?_
  subst he
  have hs0 : ∀ sp : Nat → Bool, (∀ p ∈ p0, sp p.block = true) → DataW.Trod enc Try.prog W' 0 sp true 22 (.slice a0 n0 c0) d0 p0 := fun sp hsp =>
    Go.WideElems.Trod_stays (by kernel_rfl) (by kernel_rfl) (of_decide_eq_true (by kernel_rfl)) h0 (fun p hp => grown_same hg (hlt p (by simp [hp]))) hsp
  exact ⟨_, rfl, post_places hW' hlt (fun _ _ _ => trodAll_cons_mk (shut_bool Try.underlying4 _) trodAll_mk0) (fun sp hsp => by
    have := trodAll_cons_mk (hs0 sp (fun p hp => hsp p (by simp [hp]))) (trodAll_mk0)
    rw [List.append_nil] at this
    exact this) (fun _ => rfl) hg (ok_one (by kernel_rfl) rfl (okWide_bool_mk Try.underlying4 _))⟩

theorem lifted (os : Os) (started : os.Started) (H : Type) (enc : TypeId × Value → H) :
    ReturnsInHanded {} Try.checked os 3 .any (Rows.gdsReadsSpec.pre6 enc Try.prog Try.f3 Rows.gdsReadsRow.domain false) (Rows.gdsReadsSpec.post enc Try.prog Try.f3 false true false false) := by
  refine returnsInHanded_of_change (C := Try.checked) law_own started (by kernel_rfl) Try.func3
    (ChangeSpec.witness6 (enc := enc) (C := Try.checked) false ⟨#[], #[.slice none 0 0], []⟩ 8 (by kernel_rfl) (by kernel_rfl) (by kernel_rfl) (by kernel_rfl)) ?_
  intro W base args ds gs before hval hW _ _
  exact contract H enc W base args ds gs before hval hW

theorem said : Rows.GdsReadsSaid :=
  OpenClaim.holds_of_wide 3 Try.f3 rfl rfl rfl rfl rfl rfl rfl ⟨rfl, rfl, rfl, rfl, rfl⟩ rfl rfl rfl rfl rfl (by kernel_rfl) Try.func3 (by kernel_rfl)
    (of_decide_eq_true (by kernel_rfl)) (by unfold Func.isWrapper; first | (rw [if_pos (by decide +kernel)]; kernel_rfl) | (rw [if_neg (by decide +kernel)]; exact ⟨rfl, rfl⟩))
    (fun os started H enc _ => lifted os started H enc)
end Go.Proofs.Ytcioefmldcmhgaa.GdsReads
