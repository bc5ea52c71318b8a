/- Streams as trees: what is thrown is caught. -/
import Derived.Test.YtcioefmldcmhgaaGL
import Derived.Defers
import Derived.Recover
namespace Go.Proofs.Ytcioefmldcmhgaa
open Go.RowKit
set_option maxRecDepth 100000
set_option linter.unusedVariables false
set_option linter.unusedSimpArgs false

set_option maxHeartbeats 4000000 in
theorem catch_idle (p : Addr) (w : World) :
    CallsD Try.prog 47 #[.pointer (some p)] .returning w fun e u' w' => e = .returned (.tuple #[]) ∧ u' = .returning ∧ w' = w := by
  refine callsD_of_wpS Try.func47 rfl fun c₀ cs hu => ?_
  apply wpS_seq
  apply wpS_region
  simp [wpOpsS, go_sem, recoverD, hu, Try.ntmps47, Exit.thenS]
  apply wpS_seq
  apply wpS_seq
  apply wpS_region
  simp [wpOpsS, go_sem, Exit.thenS]
  refine wpS_cond (t := true) (by simp [Act.eval, Array.replicate]) ?_
  simp only [if_true]
  refine wpS_of_wp (wp_ret ?_)
  cases c₀
  simp_all [bodyPostS, results, Try.results47, Exit.thenS]
set_option maxHeartbeats 4000000 in
theorem catch_misfit (q : Nat) (w : World) (b : Bool) (Bq : w.heap[q]? = some (.cells #[.bool b] 4 (0, 0))) :
    CallsD Try.prog 47 #[.pointer (some ⟨q, 0, none⟩)] (.panicking [{ v := .iface 80 (.agg #[]), recovered := false }]) w fun e u' w' => e = .returned (.tuple #[]) ∧ u' = .panicking [{ v := .iface 80 (.agg #[]), recovered := true }] ∧ w' = (w.alloc (.cells #[] 80)).setCell ⟨q, 0, none⟩ (.bool false) := by
  obtain ⟨hc, hz⟩ := box_cell (heap_kept (World.grownBy_alloc w (.cells #[] 80) none) Bq)
  refine callsD_of_wpS Try.func47 rfl fun c₀ cs hu => ?_
  apply wpS_seq
  apply wpS_region
  simp [wpOpsS, go_sem, recoverD, hu, Try.ntmps47, Exit.thenS]
  apply wpS_seq
  apply wpS_seq
  apply wpS_region
  simp [wpOpsS, go_sem, Exit.thenS]
  refine wpS_cond (t := false) (by simp [Act.eval, Array.replicate]) ?_
  simp only [Bool.false_eq_true, if_false]
  refine wpS_of_wp (wp_skip ?_)
  simp only [Exit.thenS]
  refine wpS_of_wp ?_
  have hta : ∀ W : World, (Instr.typeAssert (.iface 80 (.agg #[])) 20 80 true).run Try.prog W = .ok (.tuple #[.agg #[], .bool true]) W := fun W => by kernel_rfl
  cases c₀
  go_wp2_with fail
  simp_all [bodyPostS, results, Try.results47, Exit.thenS]
set_option maxHeartbeats 16000000 in
theorem GFits_any (w : World) (F : Nat) (cs : Array Value) (row : Option Nat) (R : Bool → World → Prop) (hrow : ∀ r, row = some r → r < w.heap.size)
    (hcf : ∀ (args : Array Value) (W : World), (callFunc F args).run Try.prog W = .ok (.enter F args) W)
    (HR : Hid (∀ b W W' v, R b W → W.grownBy W' (some w.heap.size) → W.heap[w.heap.size]? = some (.cells #[v] 4 (0, 0)) → R b W')) (HN : Hid (∀ b W W', R b W → W.grownBy W' none → R b W'))
    (HD : Hid (∀ W, w.grownBy W none → Calls Try.prog F cs W (fun e w' => W.grownBy w' row ∧ ((e = .returned (.tuple #[]) ∧ R true w') ∨ (e = mis ∧ R false w'))))) :
    Calls Try.prog 27 #[.func (.func F) #[] cs] w (fun e w' => ∃ b, e = .returned (.bool b) ∧ w.grownBy w' row ∧ R b w') := by
  have hmf : ∀ (fn : Fn) (first cap : Array Value) (w : World), (Instr.makeFunc fn first cap).run Try.prog w = .ok (.func fn first cap) w := fun _ _ _ _ => rfl
  have hG := World.grownBy_alloc w (.cells #[.bool false] 4) none
  have Bq := heap_new w (.cells #[.bool false] 4) w.heap.size rfl
  go_enter_defers Try.func27, Try.ntmps27
  go_wp2_with fail
  refine (HD.out _ hG).mono ?_
  rintro e w1 ⟨hg1, ⟨rfl, hr⟩ | ⟨rfl, hr⟩⟩
  · have Bq1 := heap_off hg1 Bq (fun e => by have := hrow _ e.symm; omega)
    obtain ⟨Cq, Fq⟩ := box_cell Bq1
    have gs : w1.grownBy (w1.setCell ⟨w.heap.size, 0, none⟩ (.bool true)) (some w.heap.size) := grown_set (grown_refl _ _) 0 _
    have hF : Hid (R true (w1.setCell ⟨w.heap.size, 0, none⟩ (.bool true)) ∧ w.grownBy (w1.setCell ⟨w.heap.size, 0, none⟩ (.bool true)) row) :=
      Lib.hid ⟨HR.out _ _ _ _ hr gs Bq1, grown_new (grown_trans (grown_any hG) hg1) gs (Nat.le_refl _)⟩
    obtain ⟨D0, _⟩ := box_cell (heap_set Bq1 (.bool true))
    clear hg1 hr Bq1 gs Bq hG
    go_wp2_with fail
    refine leaves_cons (f := 47) (args := #[.pointer (some ⟨w.heap.size, 0, none⟩)]) (by simp) (by simp [go_sem]) ?_
    refine (catch_idle ⟨w.heap.size, 0, none⟩ _).mono ?_
    rintro e u' w'' ⟨rfl, rfl, rfl⟩
    simp [Leaves, settle, results, Try.results27, go_sem, D0]
    exact ⟨hF.out.2, hF.out.1⟩
  · have Bq1 := heap_off hg1 Bq (fun e => by have := hrow _ e.symm; omega)
    have gA := World.grownBy_alloc w1 (.cells #[] 80) none
    have Bq2 := heap_kept gA Bq1
    have gs : (w1.alloc (.cells #[] 80)).grownBy ((w1.alloc (.cells #[] 80)).setCell ⟨w.heap.size, 0, none⟩ (.bool false)) (some w.heap.size) := grown_set (grown_refl _ _) 0 _
    have hF : Hid (R false ((w1.alloc (.cells #[] 80)).setCell ⟨w.heap.size, 0, none⟩ (.bool false)) ∧ w.grownBy ((w1.alloc (.cells #[] 80)).setCell ⟨w.heap.size, 0, none⟩ (.bool false)) row) :=
      Lib.hid ⟨HR.out _ _ _ _ (HN.out _ _ _ hr gA) gs Bq2, grown_new (grown_trans (grown_trans (grown_any hG) hg1) (grown_any gA)) gs (Nat.le_refl _)⟩
    obtain ⟨D0, _⟩ := box_cell (heap_set Bq2 (.bool false))
    have HB := Lib.hid Bq1
    clear hg1 hr Bq1 gs Bq hG gA Bq2
    go_wp2_with fail
    refine leaves_cons (f := 47) (args := #[.pointer (some ⟨w.heap.size, 0, none⟩)]) (by simp) (by simp [go_sem]) ?_
    refine (catch_misfit w.heap.size w1 false HB.out).mono ?_
    rintro e u' w'' ⟨rfl, rfl, rfl⟩
    simp [Leaves, settle, results, Try.results27, go_sem, D0]
    exact ⟨hF.out.2, hF.out.1⟩
end Go.Proofs.Ytcioefmldcmhgaa
