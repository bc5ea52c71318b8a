/- Streams as trees: check, Valid. -/
import Derived.Test.YtcioefmldcmhgaaGW
namespace Go.Proofs.Ytcioefmldcmhgaa
open Go.RowKit
set_option maxRecDepth 100000
set_option linter.unusedVariables false
set_option linter.unusedSimpArgs false

theorem RecsV.shape {W : World} {v : Value} {rs : List KRec} (h : RecsV W v rs) : ∃ s c, v = .slice s rs.length c ∧ SlOk s rs.length c := by
  obtain ⟨s, c, e, _, h2, _⟩ := h
  exact ⟨s, c, e, h2⟩
theorem ItemsV.open {W : World} {v : Value} {xs : List KItem} (h : ItemsV W v xs) : ∃ s c, v = .slice s xs.length c ∧ PairSl RecsV RecsV W s xs ∧ SlOk s xs.length c := h
set_option maxHeartbeats 32000000 in
theorem Check_any (w : World) (v : Value) (t : KLib) (hv : LibV w v t) : Calls Try.prog 39 #[v] w (RetOk w (okL t)) := by
  obtain ⟨a, b, rfl, ha, sc, cc, rfl, hp, hok⟩ := hv
  obtain ⟨sa, ca, rfl, _⟩ := ha.shape
  obtain ⟨N, hN⟩ : ∃ N, t.2.length = N := ⟨_, rfl⟩
  rw [hN] at hok ⊢
  have hNm : N ≤ 9223372036854775807 := Nat.le_trans hok.2.1 hok.2.2
  have hG := World.grownBy_alloc w (.cells #[.slice sa t.1.length ca, .slice sc N cc] 27) none
  have Bt := heap_new w (.cells #[.slice sa t.1.length ca, .slice sc N cc] 27) w.heap.size rfl
  obtain ⟨x, hx⟩ : ∃ x, okL t = x := ⟨_, rfl⟩
  rw [hx]
  have HX := Lib.hid hx
  have HA := Lib.hid ha
  have HP := Lib.hid hp
  have HN := Lib.hid hN
  clear ha hp hN hok hx
  go_enter Try.func39, Try.ntmps39
  obtain ⟨C0, C1, _, _⟩ := box_cells2 Bt
  go_wp2_with fail
  generalize (w.alloc (.cells #[.slice sa t.1.length ca, .slice sc N cc] 27)) = wa at *
  refine (WholeV wa 49 headRu _ t.1 (HA.out.kept hG) cf_head (Lib.hid fun c hc W g m hm => Head_any c hc W g m hm)).mono ?_
  rintro e w1 ⟨hg1, ⟨h1, rfl⟩ | ⟨h1, rfl⟩⟩
  rotate_left
  · have hF : Hid (RetOk w x mis w1) := Lib.hid ⟨grown_trans hG hg1, Or.inr ⟨by rw [← HX.out]; exact okL_head h1, rfl⟩⟩
    clear h1 hg1 Bt C0 C1 hG
    go_wp2_with fail
    exact ⟨rfl, hF.out⟩
  have HH := Lib.hid h1
  have Bt1 := heap_kept hg1 Bt
  have hG1 := grown_trans hG hg1
  clear h1 hg1 Bt C0 C1 hG
  obtain ⟨C0, C1, _, _⟩ := box_cells2 Bt1
  go_wp2_with fail
  clear C0 C1 Bt1
  go_loopg [12] N (fun gh i wr => ∃ k : Nat, k ≤ N ∧ N - k ≤ gh ∧ i = .int .i64 (k : Int) ∧ Hid (∀ i (hi : i < t.2.length), i < k → okC t.2[i] = true) ∧ w.grownBy wr none)
  case atStart => exact ⟨0, Nat.zero_le _, Nat.le_refl _, rfl, Lib.hid (fun i hi h => by omega), hG1⟩
  case round =>
    clear hG1
    obtain ⟨k, hk, hgh, rfl, HK, hG⟩ := hrel
    by_cases hlt : k < N
    · have f1 : decide ((k : Int) < (N : Int)) = true := decide_eq_true (by omega)
      have hkl : k < t.2.length := by have := HN.out; omega
      obtain ⟨ad, q, u, v, hsc, hq, A0, A1, hu, hv⟩ := HP.out.at k hkl
      obtain ⟨c, hc⟩ : ∃ c, t.2[k] = c := ⟨_, rfl⟩
      rw [hc] at hu hv
      have HC1 : Hid (okC c = false → okL t = false) := Lib.hid (fun hh => okL_cell hkl (by rw [hc]; exact hh))
      have HC2 : Hid (okC c = true → ∀ i (hi : i < t.2.length), i < k + 1 → okC t.2[i] = true) := Lib.hid (fun hh i hi h => by
        rcases Nat.lt_or_ge i k with h1 | h1
        · exact HK.out i hi h1
        · obtain rfl : i = k := by omega
          rw [hc]; exact hh)
      have HU := Lib.hid hu
      obtain ⟨su, cu, rfl, _⟩ := hu.shape
      obtain ⟨sv, cv, rfl, hpi, hoki⟩ := ItemsV.open hv
      obtain ⟨M, hM⟩ : ∃ M, c.2.length = M := ⟨_, rfl⟩
      rw [hM] at hoki A1
      have hMm : M ≤ 9223372036854775807 := Nat.le_trans hoki.2.1 hoki.2.2
      have HI := Lib.hid hpi
      have HM := Lib.hid hM
      replace A0 := hG.cell A0 (by simp)
      replace A1 := hG.cell A1 (by simp)
      have gA := World.grownBy_alloc wr (.cells #[.slice su c.1.length cu, .slice sv M cv] 50) none
      have Bc := heap_new wr (.cells #[.slice su c.1.length cu, .slice sv M cv] 50) wr.heap.size rfl
      obtain ⟨C0, C1, _, _⟩ := box_cells2 Bc
      have hG2 := grown_trans hG gA
      have HG := Lib.hid hG
      subst hsc
      clear hc hu hv hpi hoki hM hkl hG gA
      go_wp2_with fail
      generalize (wr.alloc (.cells #[.slice su c.1.length cu, .slice sv M cv] 50)) = w2 at *
      refine (WholeV w2 60 titleRu _ c.1 (HU.out.kept hG2) cf_title (Lib.hid fun c hc W g m hm => Title_any c hc W g m hm)).mono ?_
      rintro e w3 ⟨hg3, ⟨h3, rfl⟩ | ⟨h3, rfl⟩⟩
      rotate_left
      · have hF : Hid (RetOk w x mis w3) := Lib.hid ⟨grown_trans hG2 hg3, Or.inr ⟨by rw [← HX.out]; exact HC1.out (okC_head h3), rfl⟩⟩
        clear h3 hg3 Bc C0 C1 hG2 A0 A1
        go_wp2_with fail
        exact ⟨rfl, hF.out⟩
      have HT := Lib.hid h3
      have Bc1 := heap_kept hg3 Bc
      have hG3 := grown_trans hG2 hg3
      clear h3 hg3 Bc C0 C1 hG2 A0 A1
      obtain ⟨C0, C1, _, _⟩ := box_cells2 Bc1
      go_wp2_with fail
      clear C0 C1 Bc1
      go_loopg [22] M (fun gh i wr => ∃ j : Nat, j ≤ M ∧ M - j ≤ gh ∧ i = .int .i64 (j : Int) ∧ Hid (∀ i (hi : i < c.2.length), i < j → okI c.2[i] = true) ∧ w.grownBy wr none)
      case atStart => exact ⟨0, Nat.zero_le _, Nat.le_refl _, rfl, Lib.hid (fun i hi h => by omega), hG3⟩
      case round =>
        clear hG3
        obtain ⟨j, hj, hgh2, rfl, HJ, hG⟩ := hrel
        by_cases hlt2 : j < M
        · have f2 : decide ((j : Int) < (M : Int)) = true := decide_eq_true (by omega)
          have hjl : j < c.2.length := by have := HM.out; omega
          obtain ⟨ad2, q2, u2, v2, hsv, hq2, A0, A1, hu2, hv2⟩ := HI.out.at j hjl
          obtain ⟨y, hy⟩ : ∃ y, c.2[j] = y := ⟨_, rfl⟩
          rw [hy] at hu2 hv2
          have HC3 : Hid (okI y = false → okC c = false) := Lib.hid (fun hh => okC_item hjl (by rw [hy]; exact hh))
          have HC4 : Hid (okI y = true → ∀ i (hi : i < c.2.length), i < j + 1 → okI c.2[i] = true) := Lib.hid (fun hh i hi h => by
            rcases Nat.lt_or_ge i j with h1 | h1
            · exact HJ.out i hi h1
            · obtain rfl : i = j := by omega
              rw [hy]; exact hh)
          have HU2 := Lib.hid hu2
          have HV2 := Lib.hid hv2
          obtain ⟨su2, cu2, rfl, _⟩ := hu2.shape
          obtain ⟨sv2, cv2, rfl, _⟩ := hv2.shape
          replace A0 := hG.cell A0 (by simp)
          replace A1 := hG.cell A1 (by simp)
          have gA := World.grownBy_alloc wr (.cells #[.slice su2 y.1.length cu2, .slice sv2 y.2.length cv2] 55) none
          have Bi := heap_new wr (.cells #[.slice su2 y.1.length cu2, .slice sv2 y.2.length cv2] 55) wr.heap.size rfl
          obtain ⟨C0, C1, _, _⟩ := box_cells2 Bi
          have hG2 := grown_trans hG gA
          subst hsv
          clear hy hu2 hv2 hjl hG gA
          go_wp2_with fail
          generalize (wr.alloc (.cells #[.slice su2 y.1.length cu2, .slice sv2 y.2.length cv2] 55)) = w4 at *
          refine (WholeV w4 61 elementRu _ y.1 (HU2.out.kept hG2) cf_element (Lib.hid fun c hc W g m hm => Element_any c hc W g m hm)).mono ?_
          rintro e w5 ⟨hg5, ⟨h5, rfl⟩ | ⟨h5, rfl⟩⟩
          rotate_left
          · have hF : Hid (RetOk w x mis w5) := Lib.hid ⟨grown_trans hG2 hg5, Or.inr ⟨by rw [← HX.out]; exact HC1.out (HC3.out (okI_1 h5)), rfl⟩⟩
            clear h5 hg5 Bi C0 C1 hG2 A0 A1
            go_wp2_with fail
            exact ⟨rfl, hF.out⟩
          have HE := Lib.hid h5
          have Bi1 := heap_kept hg5 Bi
          have hG5 := grown_trans hG2 hg5
          clear h5 hg5 Bi C0 C1 hG2 A0 A1
          obtain ⟨C0, C1, _, _⟩ := box_cells2 Bi1
          go_wp2_with fail
          refine (WholeV w5 62 .props _ y.2 (HV2.out.kept hG5) cf_props (Lib.hid fun c hc W g m hm => Props_any c hc W g m hm)).mono ?_
          rintro e w6 ⟨hg6, ⟨h6, rfl⟩ | ⟨h6, rfl⟩⟩
          rotate_left
          · have hF : Hid (RetOk w x mis w6) := Lib.hid ⟨grown_trans hG5 hg6, Or.inr ⟨by rw [← HX.out]; exact HC1.out (HC3.out (okI_2 h6)), rfl⟩⟩
            clear h6 hg6 Bi1 C0 C1 hG5
            go_wp2_with fail
            exact ⟨rfl, hF.out⟩
          have HC5 := Lib.hid (HC4.out (okI_3 HE.out h6))
          have HG6 := Lib.hid (grown_trans hG5 hg6)
          clear h6 hg6 Bi1 C0 C1 hG5
          go_wp2_with fail
          go_roundg (M - (j + 1))
          case measure => omega
          case rel => exact ⟨j + 1, by omega, Nat.le_refl _, by go_num, HC5, HG6.out⟩
        · have f2 : decide ((j : Int) < (M : Int)) = false := decide_eq_false (by omega)
          have HC5 := Lib.hid (HC2.out (okC_all HT.out (fun i hi => HJ.out i hi (by have := HM.out; omega))))
          have HG6 := Lib.hid hG
          clear hG
          go_wp2_with fail
          go_roundg (N - (k + 1))
          case measure => omega
          case rel => exact ⟨k + 1, by omega, Nat.le_refl _, by go_num, HC5, HG6.out⟩
    · have f1 : decide ((k : Int) < (N : Int)) = false := decide_eq_false (by omega)
      have hF : Hid (RetOk w x (.returned (.tuple #[])) wr) := Lib.hid ⟨hG, Or.inl ⟨by rw [← HX.out]; exact okL_all HH.out (fun i hi => HK.out i hi (by have := HN.out; omega)), rfl⟩⟩
      clear hG
      go_wp2_with fail
      first | go_end0 | refine bodyPost_ret (results_none rfl _ _ _) rfl ?_
      exact hF.out
theorem cf_valid (args : Array Value) (W : World) : (callFunc 38 args).run Try.prog W = .ok (.enter 38 args) W :=
  run_callFunc_enter Try.func38 (by kernel_rfl) (by kernel_rfl) args W
set_option maxHeartbeats 16000000 in
theorem ValidIn_any (w : World) (q : Nat) (a b : Value) (t : KLib) (hv : LibV w (.agg #[a, b]) t) (Bq : w.heap[q]? = some (.cells #[a, b] 27 (0, 0))) :
    Calls Try.prog 38 #[.pointer (some ⟨q, 0, none⟩)] w (fun e w' => w.grownBy w' none ∧ ((e = .returned (.tuple #[]) ∧ okL t = true) ∨ (e = mis ∧ okL t = false))) := by
  obtain ⟨C0, C1, _, _⟩ := box_cells2 Bq
  have HC := Lib.hid (Check_any w _ t hv)
  obtain ⟨a', b', e, ha, hb⟩ := hv
  cases e
  obtain ⟨sa, ca, rfl, _⟩ := ha.shape
  obtain ⟨sb, cb, rfl, _⟩ := hb
  clear ha Bq
  go_enter Try.func38, Try.ntmps38
  go_wp2_with fail
  refine HC.out.mono ?_
  rintro e w1 ⟨hg1, ⟨h1, rfl⟩ | ⟨h1, rfl⟩⟩
  · have hF := Lib.hid (And.intro hg1 h1)
    clear hg1 h1 C0 C1
    go_wp2_with fail
    first | go_end0 | refine bodyPost_ret (results_none rfl _ _ _) rfl ?_
    exact ⟨hF.out.1, Or.inl ⟨rfl, hF.out.2⟩⟩
  · have hF := Lib.hid (And.intro hg1 h1)
    clear hg1 h1 C0 C1
    go_wp2_with fail
    exact ⟨rfl, hF.out.1, Or.inr ⟨rfl, hF.out.2⟩⟩
theorem LibV.two {w : World} {v : Value} {t : KLib} (h : LibV w v t) : ∃ sa ca sb cb, v = .agg #[.slice sa t.1.length ca, .slice sb t.2.length cb] := by
  obtain ⟨a, b, rfl, ha, hb⟩ := h
  obtain ⟨sa, ca, rfl, _⟩ := ha.shape
  obtain ⟨sb, cb, rfl, _⟩ := hb
  exact ⟨_, _, _, _, rfl⟩
set_option maxHeartbeats 16000000 in
theorem Valid_any (w : World) (v : Value) (t : KLib) (hv : LibV w v t) : Calls Try.prog 17 #[v] w (RetB w (okL t)) := by
  have hmf : ∀ (fn : Fn) (first cap : Array Value) (w : World), (Instr.makeFunc fn first cap).run Try.prog w = .ok (.func fn first cap) w := fun _ _ _ _ => rfl
  obtain ⟨sa, ca, sb, cb, rfl⟩ := hv.two
  have hG := World.grownBy_alloc w (.cells #[.slice sa t.1.length ca, .slice sb t.2.length cb] 27) none
  have Bq := heap_new w (.cells #[.slice sa t.1.length ca, .slice sb t.2.length cb] 27) w.heap.size rfl
  have hD : Hid (∀ W, (w.alloc (.cells #[.slice sa t.1.length ca, .slice sb t.2.length cb] 27)).grownBy W none → Calls Try.prog 38 #[.pointer (some ⟨w.heap.size, 0, none⟩)] W (fun e w' => W.grownBy w' none ∧ ((e = .returned (.tuple #[]) ∧ okL t = true) ∨ (e = mis ∧ okL t = false)))) :=
    Lib.hid fun W hW => ValidIn_any W _ _ _ t ((hv.kept hG).kept hW) (heap_kept hW Bq)
  have HG := Lib.hid hG
  clear hv Bq hG
  go_enter Try.func17, Try.ntmps17
  go_wp2_with fail
  refine (GFits_any _ 38 #[.pointer (some ⟨w.heap.size, 0, none⟩)] none (fun b _ => okL t = b) (fun r e => by cases e) cf_valid (Lib.hid fun _ _ _ _ h _ _ => h) (Lib.hid fun _ _ _ h _ => h) hD).mono ?_
  rintro e w1 ⟨b, rfl, hg1, hb⟩
  have hF : Hid (RetB w (okL t) (.returned (.bool b)) w1) := Lib.hid ⟨by rw [hb], grown_trans HG.out hg1⟩
  clear hb hg1
  go_wp2_with fail
  go_ret
  exact hF.out
end Go.Proofs.Ytcioefmldcmhgaa
