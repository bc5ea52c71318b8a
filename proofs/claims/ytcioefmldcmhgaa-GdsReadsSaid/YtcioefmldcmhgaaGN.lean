/- Streams as trees: the chapter's examples: known. -/
import Derived.Test.YtcioefmldcmhgaaGK
namespace Go.Proofs.Ytcioefmldcmhgaa
open Go.RowKit
set_option maxRecDepth 100000
set_option linter.unusedVariables false
set_option linter.unusedSimpArgs false

def bareB : List Nat := joinB (recT bareL)
theorem bare_ok : okL bareL = true := by decide +kernel
theorem bare_len : bareB.length = 64 := by decide +kernel
theorem bare_write : writeD bareL = (0, bareB) := by decide +kernel
theorem bare_parse : parseD bareB = (0, bareL, 64) := by kernel_rfl
def cutT : KLib := (bareL.1.take 3, [])
theorem cut_write : writeD cutT = (3, []) := by decide +kernel
theorem bare_size : (joinB (recT bareL)).length ≤ 1099511627776 := by decide +kernel
theorem cut_size : (joinB (recT cutT)).length ≤ 1099511627776 := by decide +kernel
theorem RecsV.cut {W : World} {s : Option Addr} {n c : Nat} {rs : List KRec} (h : RecsV W (.slice s n c) rs) (k : Nat) (hk : k ≤ n) : RecsV W (.slice s k c) (rs.take k) := by
  obtain ⟨s', c', e, h1, h2, h3⟩ := h
  cases e
  have hl : (rs.take k).length = k := by rw [List.length_take]; omega
  refine ⟨s, c, by rw [hl], fun i hi => ?_, ⟨fun e => ?_, by rw [hl]; exact Nat.le_trans hk h2.2.1, h2.2.2⟩, fun r hr => h3 r (List.mem_of_mem_take hr)⟩
  · rw [hl] at hi
    rw [List.getElem_take]
    exact h1 i (by omega)
  · have := h2.1 e; rw [hl]; exact ⟨by omega, this.2⟩
set_option maxHeartbeats 16000000 in
theorem GKnown_any (w : World) : Calls Try.prog 12 #[] w (RetYes w) := by
  go_enter Try.func12, Try.ntmps12
  go_wp2_with fail
  refine (Bare7_any w).mono ?_
  rintro e w1 ⟨v, rfl, hv, hg1⟩
  obtain ⟨sa, ca, sb, cb, rfl⟩ := hv.two
  rw [show bareL.1.length = 4 from rfl, show bareL.2.length = 0 from rfl] at hv ⊢
  have gA := World.grownBy_alloc w1 (.cells #[.slice sa 4 ca, .slice sb 0 cb] 27) none
  have Bt := heap_new w1 (.cells #[.slice sa 4 ca, .slice sb 0 cb] 27) w1.heap.size rfl
  obtain ⟨C0, C1, _, _⟩ := box_cells2 Bt
  have HV := Lib.hid (hv.kept gA)
  have HV1 := Lib.hid hv
  have HGA := Lib.hid gA
  have hG := grown_trans hg1 gA
  have hG1 := hg1
  clear hv hg1
  go_wp2_with fail
  generalize (w1.alloc (.cells #[.slice sa 4 ca, .slice sb 0 cb] 27)) = w2 at *
  refine (Write_any w2 _ bareL HV.out bare_size).mono ?_
  rw [bare_write]
  rintro e w3 ⟨vb, rfl, hb, hg3⟩
  obtain ⟨s3, c3, rfl, hs3, hz3, hc3, hm3⟩ := hb.shape
  rw [bare_len] at hz3 hc3 ⊢
  obtain ⟨a3, rfl⟩ : ∃ a, s3 = some a := by
    cases s3 with
    | none => have := (hz3 rfl).1; omega
    | some a => exact ⟨a, rfl⟩
  have hgx3 := hg3
  have Bt3 := heap_kept hg3 Bt
  have hG3 := grown_trans hG hg3
  have HV3 := Lib.hid (HV.out.kept hg3)
  have HS3 := Lib.hid hs3
  clear hb hg3 hs3 hz3 Bt hG C0 C1 gA HV
  go_wp2_with fail
  refine (Parse_some w3 a3 64 c3 bareB bare_len HS3.out hc3 hm3 (by decide)).mono ?_
  rw [bare_parse]
  rintro e w4 ⟨u, rfl, hu, hg4⟩
  obtain ⟨s4, c4, s5, c5, rfl⟩ := hu.v.two
  rw [show bareL.1.length = 4 from rfl, show bareL.2.length = 0 from rfl] at hu ⊢
  have gB := World.grownBy_alloc w4 (.cells #[.slice s4 4 c4, .slice s5 0 c5] 27) none
  have Bu := heap_new w4 (.cells #[.slice s4 4 c4, .slice s5 0 c5] 27) w4.heap.size rfl
  have Bt4 := heap_kept gB (heap_kept hg4 Bt3)
  have hG4 := grown_trans (grown_trans hG3 hg4) gB
  have HU := Lib.hid (hu.kept gB)
  have HV4 := Lib.hid ((HV3.out.kept hg4).kept gB)
  have hsz := heap_lt (heap_kept hg4 Bt3)
  have HG14 := Lib.hid (grown_trans (grown_trans (grown_trans HGA.out hgx3) hg4) gB)
  clear hu hg4 gB HV3 HS3 Bt3 hG3
  dsimp only
  obtain ⟨C0, C1, F0, _⟩ := box_cells2 Bt4
  have i3 : (3 : Int) ≤ (ca : Int) := by
    obtain ⟨_, _, e, ⟨_, _, e2, _, h, _⟩, _⟩ := HV4.out
    cases e; cases e2
    have := h.2.1
    have e4 : bareL.1.length = 4 := rfl
    omega
  have gp : (w4.alloc (.cells #[.slice s4 4 c4, .slice s5 0 c5] 27)).grownBy ((w4.alloc (.cells #[.slice s4 4 c4, .slice s5 0 c5] 27)).setCell ⟨w1.heap.size, 0, none⟩ (.slice sa 3 ca)) (some w1.heap.size) := grown_set (grown_refl _ _) 0 _
  have HX := Lib.hid (And.intro gp (And.intro Bt4 (And.intro Bu hsz)))
  clear gp Bt4 Bu hsz
  go_wp2_with fail
  have hG5 : w.grownBy ((w4.alloc (.cells #[.slice s4 4 c4, .slice s5 0 c5] 27)).setCell ⟨w1.heap.size, 0, none⟩ (.slice sa 3 ca)) none := grown_new hG4 HX.out.1 (by have := HGA.out.size; have := hG1.size; omega)
  have hv5 : LibV ((w4.alloc (.cells #[.slice s4 4 c4, .slice s5 0 c5] 27)).setCell ⟨w1.heap.size, 0, none⟩ (.slice sa 3 ca)) (.agg #[.slice sa 3 ca, .slice sb 0 cb]) cutT := by
    have h1 : w1.grownBy ((w4.alloc (.cells #[.slice s4 4 c4, .slice s5 0 c5] 27)).setCell ⟨w1.heap.size, 0, none⟩ (.slice sa 3 ca)) none := grown_new HG14.out HX.out.1 (Nat.le_refl _)
    obtain ⟨_, _, e, k1, k2⟩ := HV1.out.kept h1
    cases e
    exact ⟨_, _, rfl, k1.cut 3 (by decide), k2⟩
  have hu5 := Lib.hid (HU.out.off HX.out.1 HX.out.2.1 (by decide) (by decide) (by decide) (by decide))
  have Bu5 := heap_off HX.out.1 HX.out.2.2.1 (by intro e; have := Option.some.inj e; have := HX.out.2.2.2; omega)
  have HV5 := Lib.hid hv5
  clear hv5 HX C0 C1 F0 HG14 HU HV4 HV1 HGA
  generalize ((w4.alloc (.cells #[.slice s4 4 c4, .slice s5 0 c5] 27)).setCell ⟨w1.heap.size, 0, none⟩ (.slice sa 3 ca)) = w5 at *
  refine (Write_any w5 _ cutT HV5.out cut_size).mono ?_
  rw [cut_write]
  rintro e w6 ⟨vb, rfl, hb, hg6⟩
  obtain ⟨s6, c6, rfl, _⟩ := hb.shape
  have Bu6 := heap_kept hg6 Bu5
  have HU6 := Lib.hid (hu5.out.kept hg6).v
  have hG6 := grown_trans hG5 hg6
  obtain ⟨C0, C1, _, _⟩ := box_cells2 Bu6
  clear hb hg6 Bu5 Bu6 hu5 HV5 hG5
  go_wp2_with fail
  refine (Valid_any w6 _ bareL HU6.out).mono ?_
  rw [bare_ok]
  rintro e w7 ⟨rfl, hg7⟩
  have HG7 := Lib.hid (grown_trans hG6 hg7)
  clear hG6 hg7 C0 C1
  go_wp2_with fail
  go_ret
  exact ⟨rfl, HG7.out⟩
end Go.Proofs.Ytcioefmldcmhgaa
