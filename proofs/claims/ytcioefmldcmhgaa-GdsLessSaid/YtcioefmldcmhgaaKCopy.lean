/- Records: copied, bytes.Clone. -/
import Derived.Test.YtcioefmldcmhgaaKBase
namespace Go.Proofs.Ytcioefmldcmhgaa
open Go.RowKit
set_option maxRecDepth 100000
set_option linter.unusedVariables false
set_option linter.unusedSimpArgs false

set_option maxHeartbeats 16000000 in
theorem Clone_some (w : World) (a : Addr) (n cap : Nat) (l : List Nat) (hn : l.length = n) (hl : BySl w (some a) l) (h64 : n ≤ 140737488355328) :
    Calls Try.prog 44 #[.slice (some a) n cap] w (RetBlk w l) := by
  obtain ⟨i1, hi, hz0, hz1, hz2⟩ := info_partsU
  have hG := World.grownBy_alloc w (.cells #[] 5) none
  have HO := Lib.hid (own_empty w)
  have hs1 : (w.alloc (.cells #[] 5)).heap.size = w.heap.size + 1 := by simp
  have HSZ := Lib.hid hs1
  clear hs1
  have HW : Hid (∀ j u, (bvs l)[j]? = some u → (w.alloc (.cells #[] 5)).cell? (a.add j) = some u) := Lib.hid fun j u hj => hG.cell (hl.news j u hj) (by simp)
  have H1 : Hid (∀ u ∈ bvs l, u.oneCell' = true) := Lib.hid (bvs_one l)
  have HLN : Hid ((bvs l).length = n * 1) := Lib.hid (by rw [bvs_len, hn, Nat.mul_one])
  have HL := Lib.hid hl
  have HN := Lib.hid hn
  clear hl hn
  have hne := fun W => Lib.run_eql_slice_nil (P := Try.prog) W 22 5 (some a) n cap 0 0 Try.underlying22
  go_enter Try.func44, Try.ntmps44
  go_wp2_with (first | (simp only [hne]) | (at_builtin; refine wpList_append_own _ rfl (.tmp 5) (.tmp 6) 22 rfl w.heap.size 5 i1 (.int .u8 0) 1 1 Try.underlying22 hi hz0 hz1 hz2 rfl (by decide) (.slice (some ⟨w.heap.size, 0, none⟩) 0 0) 0 [] rfl HO.out a n cap (bvs l) rfl HLN.out HW.out H1.out (by unfold maxLen; omega) (by omega) (by simp) ?_))
  intro v1 w1 hown1 hgrow1 hnil1
  have hg1 : w.grownBy w1 none := grown_new (g := w.heap.size) hG hgrow1 (Nat.le_refl _)
  have hF : Hid (RetBlk w l (.returned v1) w1) := by
    have hown2 := hown1
    try simp only [List.nil_append, Nat.zero_add] at hown2
    have hown3 := hown2
    obtain ⟨_, h⟩ := hown2
    rcases h with ⟨e, _⟩ | ⟨g, c1, cur, rfl, hb, _, hc1, hc2, _⟩
    · exact absurd e (fun e => by first | exact hnil1 e | (have := (hnil1.1 e).1; cases this))
    · have hbb : w.heap.size ≤ g := hb
      exact ⟨g, c1, by rw [HN.out], own_blk hown3 HN.out HL.out.2, hbb, by rw [HN.out]; omega, by unfold maxLen at hc2; omega, hg1⟩
  clear hown1 hgrow1 hnil1 hg1 HL HN HW H1 HLN HO
  go_wp2_with fail
  go_ret
  exact hF.out
theorem Clone_any (w : World) (s : Option Addr) (n cap : Nat) (l : List Nat) (hs : s ≠ none) (hn : l.length = n) (hl : BySl w s l) (h64 : n ≤ 140737488355328) :
    Calls Try.prog 44 #[.slice s n cap] w (RetBlk w l) := by
  cases s with
  | none => exact absurd rfl hs
  | some a => exact Clone_some w a n cap l hn hl h64
end Go.Proofs.Ytcioefmldcmhgaa
