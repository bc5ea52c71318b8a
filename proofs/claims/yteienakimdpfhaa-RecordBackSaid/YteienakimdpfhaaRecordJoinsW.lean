/- RecordJoins: the law's walk. -/
import Derived.Test.YteienakimdpfhaaKKnown
import Derived.Test.YteienakimdpfhaaKFew
namespace Go.Proofs.Yteienakimdpfhaa
open Go.RowKit
set_option maxRecDepth 100000
set_option linter.unusedVariables false
set_option linter.unusedSimpArgs false

theorem RcSl.take {W : World} {s : Option Addr} {rs : List KRec} (h : RcSl W s rs) (k : Nat) : RcSl W s (rs.take k) := fun i hi => by
  rw [List.length_take] at hi
  obtain ⟨a, sb, cb, h1⟩ := h i (by omega)
  rw [List.getElem_take]
  exact ⟨a, sb, cb, h1⟩
theorem join_few {rs : List KRec} (h1 : rs.length ≤ 200) (h2 : sumB rs ≤ 400000) : (joinB rs).length ≤ 1099511627776 := by rw [joinB_len]; omega
set_option maxHeartbeats 32000000 in
theorem recordJoins_walk (w : World) (s : Option Addr) (n cap : Nat) (rs0 : List KRec) (hn : rs0.length = n) (hl : RcSl w s rs0) (hk : ∀ r ∈ rs0, r.1 < 256 ∧ r.2.1 < 256) (hz : s = none → n = 0 ∧ cap = 0) (hc : n ≤ cap) (hm : cap ≤ 9223372036854775807) :
    Calls Try.prog 5 #[.slice s n cap] w (RetYes w) := by
  have HW := Lib.hid (Few_any w s n cap rs0 hn hl (fun e => (hz e).1) hc hm)
  obtain ⟨m, hm0⟩ : ∃ m, min n 200 = m := ⟨_, rfl⟩
  obtain ⟨rs, hrs⟩ : ∃ rs, rs0.take m = rs := ⟨_, rfl⟩
  have hrn : rs.length = m := by rw [← hrs, List.length_take]; omega
  have hlr : RcSl w s rs := by rw [← hrs]; exact hl.take m
  have hkr : ∀ r ∈ rs, r.1 < 256 ∧ r.2.1 < 256 := fun r hr => hk r (by rw [← hrs] at hr; exact List.mem_of_mem_take hr)
  have hmb : m ≤ 200 := by omega
  unfold RetFew at HW
  rw [hm0, hrs] at HW
  have HR := Lib.hid hlr
  have HN := Lib.hid hrn
  have HK := Lib.hid hkr
  clear hl hk hn hm0 hrs hlr hkr hrn hz hc
  go_enter Try.func5, Try.ntmps5
  go_wp2_with fail
  refine HW.out.mono ?_
  rintro e w0 ⟨rfl, ⟨rfl, hsum⟩ | rfl⟩
  · have HJ := Lib.hid (join_few (by rw [HN.out]; exact hmb) hsum)
    clear hsum
    go_wp2_with fail
    refine (Known_any _).mono ?_
    rintro e w1 ⟨rfl, hg1⟩
    have HG1 := Lib.hid hg1
    clear hg1
    go_wp2_with fail
    refine (Join_any w1 s m cap rs HN.out (HR.out.kept HG1.out) HK.out HJ.out (by omega)).mono ?_
    obtain ⟨⟨c, l⟩, hx⟩ : ∃ x, joinD rs = x := ⟨_, rfl⟩
    rw [hx]
    have HX := Lib.hid hx
    clear hx
    rintro e w2 ⟨v, rfl, hO, hg2⟩
    dsimp only at hO
    obtain ⟨sv, cv, rfl, hy2, _, _, _⟩ := hO.shape
    have HY2 := Lib.hid hy2
    have HG2 := Lib.hid (grown_trans HG1.out hg2)
    clear hy2 hg2 hO
    go_wp2_with fail
    refine (RJoin_any w2 s m cap rs HN.out (HR.out.kept HG2.out) HK.out HJ.out (by omega)).mono ?_
    rw [HX.out]
    rintro e w3 ⟨v, rfl, hO, hg3⟩
    dsimp only at hO
    obtain ⟨s3, c3, rfl, hy3, _, _, _⟩ := hO.shape
    have k1 := conv_by w3 sv l.length cv l rfl (HY2.out.kept hg3)
    have k2 := conv_by w3 s3 l.length c3 l rfl hy3
    have HG3 := Lib.hid (grown_trans HG2.out hg3)
    have z1 : ((c : Int) == (c : Int)) = true := by simp
    clear hy3 hg3 hO
    go_wp2_with (simp only [k1, k2])
    go_ret
    exact ⟨by simp, HG3.out⟩
  · go_wp2_with fail
    refine (Known_any _).mono ?_
    rintro e w1 ⟨rfl, hg1⟩
    have HG1 := Lib.hid hg1
    clear hg1
    go_wp2_with fail
    refine (Known_any _).mono ?_
    rintro e w2 ⟨rfl, hg2⟩
    go_wp2_with fail
    go_ret
    exact ⟨rfl, grown_trans HG1.out hg2⟩
end Go.Proofs.Yteienakimdpfhaa
