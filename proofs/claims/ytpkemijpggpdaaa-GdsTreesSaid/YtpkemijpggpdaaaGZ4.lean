/- Streams as trees: Write of a tree of few rows, right or not. -/
import Derived.Test.YtpkemijpggpdaaaGZ3
namespace Go.Proofs.Ytpkemijpggpdaaa
open Go.RowKit
set_option maxRecDepth 100000
set_option linter.unusedVariables false
set_option linter.unusedSimpArgs false

set_option maxHeartbeats 16000000 in
theorem Write_no (w : World) (v : Value) (t : KLib) (hv : LibV w v t) (hb : okL t = false) :
    Calls Try.prog 15 #[v] w (RetJoin w (3, [])) := by
  obtain ⟨sa, ca, sb, cb, rfl⟩ := hv.two
  have hG := World.grownBy_alloc w (.cells #[.slice sa t.1.length ca, .slice sb t.2.length cb] 27) none
  have Bt := heap_new w (.cells #[.slice sa t.1.length ca, .slice sb t.2.length cb] 27) w.heap.size rfl
  obtain ⟨C0, C1, _, _⟩ := box_cells2 Bt
  have HV := Lib.hid hv
  have HB := Lib.hid hb
  clear hv hb
  go_enter Try.func15, Try.ntmps15
  go_wp2_with fail
  generalize (w.alloc (.cells #[.slice sa t.1.length ca, .slice sb t.2.length cb] 27)) = wa at *
  refine (Valid_any wa _ t (HV.out.kept hG)).mono ?_
  rw [HB.out]
  rintro e w1 ⟨rfl, hg1⟩
  have Bt1 := heap_kept hg1 Bt
  have hG1 := grown_trans hG hg1
  clear C0 C1 hg1 hG Bt
  obtain ⟨C0, C1, _, _⟩ := box_cells2 Bt1
  have hF : Hid (RetJoin w (3, []) (.returned (.tuple #[.slice none 0 0, .int .i64 3])) w1) := Lib.hid (by
    exact ⟨_, rfl, OwnB.nil _ _, hG1⟩)
  clear hG1 Bt1
  go_wp2_with fail
  go_ret2
  exact hF.out
/-- Rows that are right are not long. -/
theorem rows_short {l : List KRec} (h : ∀ r ∈ l, okR r) : (joinB l).length ≤ 65534 * l.length := by
  induction l with
  | nil => simp [joinB]
  | cons r l ih =>
    have h1 := ih fun x hx => h x (List.mem_cons_of_mem _ hx)
    have h2 := (h r List.mem_cons_self).2
    rw [joinB_cons, List.length_append, recB_len, List.length_cons]
    omega
theorem few_short {t : KLib} (h : okL t = true) (hn : (recT t).length ≤ 400) : (joinB (recT t)).length ≤ 1099511627776 := by
  have := rows_short fun r hr => rt_okR (recT_rt ((okL_iff t).1 h) r hr)
  omega
theorem Write_few (w : World) (v : Value) (t : KLib) (hv : LibV w v t) (hn : (recT t).length ≤ 400) :
    Calls Try.prog 15 #[v] w (RetJoin w (writeD t)) := by
  cases hb : okL t with
  | false => rw [write_bad hb]; exact Write_no w v t hv hb
  | true => exact Write_any w v t hv (few_short hb hn)
end Go.Proofs.Ytpkemijpggpdaaa
