/- Records: frameOf. -/
import Derived.Test.YtcioefmldcmhgaaKTab
import Derived.Test.YtcioefmldcmhgaaKRow
import Derived.IntWalk
import Derived.Laws.EntriesVeiled
namespace Go.Proofs.Ytcioefmldcmhgaa
open Go.RowKit
set_option maxRecDepth 100000
set_option linter.unusedVariables false
set_option linter.unusedSimpArgs false

/-- Which signs: as a value. -/
def sigV : Nat → Value
  | 0 => .nilFunc
  | 1 => .func (.func 89) #[] #[]
  | _ => .func (.func 90) #[] #[]
def frV (f : Frm) : Value := .agg #[.int .u8 (f.1 : Int), .int .i64 (f.2.1 : Int), .int .i64 (f.2.2.1 : Int), sigV f.2.2.2]
def RetFrm (w : World) (v : Value) (c : Bool) (e : Ending) (w' : World) : Prop := e = .returned (.tuple #[v, .bool c]) ∧ w.grownBy w' none
theorem box_cells4 {w : World} {g : Nat} {v0 v1 v2 v3 : Value} {t : TypeId} (h : w.heap[g]? = some (.cells #[v0, v1, v2, v3] t (0, 0))) :
    w.cell? ⟨g, 0, none⟩ = some v0 ∧ w.cell? ⟨g, 1, none⟩ = some v1 ∧ w.cell? ⟨g, 2, none⟩ = some v2 ∧ w.cell? ⟨g, 3, none⟩ = some v3 ∧ w.frozen? ⟨g, 0, none⟩ = false ∧ w.frozen? ⟨g, 1, none⟩ = false ∧ w.frozen? ⟨g, 2, none⟩ = false ∧ w.frozen? ⟨g, 3, none⟩ = false := by
  simp [World.cell?, World.frozen?, h]
theorem heap_set4 {w : World} {g : Nat} {a0 a1 a2 a3 : Value} {t : TypeId} (h : w.heap[g]? = some (.cells #[a0, a1, a2, a3] t (0, 0))) (v0 v1 v2 v3 : Value) : ((((w.setCell ⟨g, 0, none⟩ v0).setCell ⟨g, 1, none⟩ v1).setCell ⟨g, 2, none⟩ v2).setCell ⟨g, 3, none⟩ v3).heap[g]? = some (.cells #[v0, v1, v2, v3] t (0, 0)) := by
  simp [World.setCell, Array.getElem?_modify, h]
set_option maxHeartbeats 16000000 in
theorem FrameOf_0 (w : World) : Calls Try.prog 84 #[.int .u8 0] w (RetFrm w (.agg #[.int .u8 2, .int .i64 2, .int .i64 1, .nilFunc]) true) := by
  have b1 := heap_new w (.cells #[.int .u8 0, .int .i64 0, .int .i64 0, .nilFunc] 112) w.heap.size rfl
  obtain ⟨C0, C1, C2, C3, F0, F1, F2, F3⟩ := box_cells4 b1
  have g2 := World.grownBy_alloc w (.cells #[.int .u8 2, .int .i64 2, .int .i64 1, .nilFunc] 112) none
  have b2 := heap_new w (.cells #[.int .u8 2, .int .i64 2, .int .i64 1, .nilFunc] 112) w.heap.size rfl
  obtain ⟨D0, D1, D2, D3, _, _, _, _⟩ := box_cells4 b2
  clear b1 b2
  go_enter Try.func84, Try.ntmps84
  go_wp2_with fail
  exact bodyPost_ret (v := .tuple #[.agg #[.int .u8 2, .int .i64 2, .int .i64 1, .nilFunc], .bool true]) (by simp [results, Try.results84, go_sem, D0, D1, D2, D3]) rfl ⟨rfl, g2⟩
set_option maxHeartbeats 16000000 in
theorem FrameOf_13 (w : World) : Calls Try.prog 84 #[.int .u8 13] w (RetFrm w (.agg #[.int .u8 2, .int .i64 2, .int .i64 1, .nilFunc]) true) := by
  have b1 := heap_new w (.cells #[.int .u8 0, .int .i64 0, .int .i64 0, .nilFunc] 112) w.heap.size rfl
  obtain ⟨C0, C1, C2, C3, F0, F1, F2, F3⟩ := box_cells4 b1
  have g2 := World.grownBy_alloc w (.cells #[.int .u8 2, .int .i64 2, .int .i64 1, .nilFunc] 112) none
  have b2 := heap_new w (.cells #[.int .u8 2, .int .i64 2, .int .i64 1, .nilFunc] 112) w.heap.size rfl
  obtain ⟨D0, D1, D2, D3, _, _, _, _⟩ := box_cells4 b2
  clear b1 b2
  go_enter Try.func84, Try.ntmps84
  go_wp2_with fail
  exact bodyPost_ret (v := .tuple #[.agg #[.int .u8 2, .int .i64 2, .int .i64 1, .nilFunc], .bool true]) (by simp [results, Try.results84, go_sem, D0, D1, D2, D3]) rfl ⟨rfl, g2⟩
set_option maxHeartbeats 16000000 in
theorem FrameOf_14 (w : World) : Calls Try.prog 84 #[.int .u8 14] w (RetFrm w (.agg #[.int .u8 2, .int .i64 2, .int .i64 1, .nilFunc]) true) := by
  have b1 := heap_new w (.cells #[.int .u8 0, .int .i64 0, .int .i64 0, .nilFunc] 112) w.heap.size rfl
  obtain ⟨C0, C1, C2, C3, F0, F1, F2, F3⟩ := box_cells4 b1
  have g2 := World.grownBy_alloc w (.cells #[.int .u8 2, .int .i64 2, .int .i64 1, .nilFunc] 112) none
  have b2 := heap_new w (.cells #[.int .u8 2, .int .i64 2, .int .i64 1, .nilFunc] 112) w.heap.size rfl
  obtain ⟨D0, D1, D2, D3, _, _, _, _⟩ := box_cells4 b2
  clear b1 b2
  go_enter Try.func84, Try.ntmps84
  go_wp2_with fail
  exact bodyPost_ret (v := .tuple #[.agg #[.int .u8 2, .int .i64 2, .int .i64 1, .nilFunc], .bool true]) (by simp [results, Try.results84, go_sem, D0, D1, D2, D3]) rfl ⟨rfl, g2⟩
set_option maxHeartbeats 16000000 in
theorem FrameOf_22 (w : World) : Calls Try.prog 84 #[.int .u8 22] w (RetFrm w (.agg #[.int .u8 2, .int .i64 2, .int .i64 1, .nilFunc]) true) := by
  have b1 := heap_new w (.cells #[.int .u8 0, .int .i64 0, .int .i64 0, .nilFunc] 112) w.heap.size rfl
  obtain ⟨C0, C1, C2, C3, F0, F1, F2, F3⟩ := box_cells4 b1
  have g2 := World.grownBy_alloc w (.cells #[.int .u8 2, .int .i64 2, .int .i64 1, .nilFunc] 112) none
  have b2 := heap_new w (.cells #[.int .u8 2, .int .i64 2, .int .i64 1, .nilFunc] 112) w.heap.size rfl
  obtain ⟨D0, D1, D2, D3, _, _, _, _⟩ := box_cells4 b2
  clear b1 b2
  go_enter Try.func84, Try.ntmps84
  go_wp2_with fail
  exact bodyPost_ret (v := .tuple #[.agg #[.int .u8 2, .int .i64 2, .int .i64 1, .nilFunc], .bool true]) (by simp [results, Try.results84, go_sem, D0, D1, D2, D3]) rfl ⟨rfl, g2⟩
set_option maxHeartbeats 16000000 in
theorem FrameOf_33 (w : World) : Calls Try.prog 84 #[.int .u8 33] w (RetFrm w (.agg #[.int .u8 2, .int .i64 2, .int .i64 1, .nilFunc]) true) := by
  have b1 := heap_new w (.cells #[.int .u8 0, .int .i64 0, .int .i64 0, .nilFunc] 112) w.heap.size rfl
  obtain ⟨C0, C1, C2, C3, F0, F1, F2, F3⟩ := box_cells4 b1
  have g2 := World.grownBy_alloc w (.cells #[.int .u8 2, .int .i64 2, .int .i64 1, .nilFunc] 112) none
  have b2 := heap_new w (.cells #[.int .u8 2, .int .i64 2, .int .i64 1, .nilFunc] 112) w.heap.size rfl
  obtain ⟨D0, D1, D2, D3, _, _, _, _⟩ := box_cells4 b2
  clear b1 b2
  go_enter Try.func84, Try.ntmps84
  go_wp2_with fail
  exact bodyPost_ret (v := .tuple #[.agg #[.int .u8 2, .int .i64 2, .int .i64 1, .nilFunc], .bool true]) (by simp [results, Try.results84, go_sem, D0, D1, D2, D3]) rfl ⟨rfl, g2⟩
set_option maxHeartbeats 16000000 in
theorem FrameOf_34 (w : World) : Calls Try.prog 84 #[.int .u8 34] w (RetFrm w (.agg #[.int .u8 2, .int .i64 2, .int .i64 1, .nilFunc]) true) := by
  have b1 := heap_new w (.cells #[.int .u8 0, .int .i64 0, .int .i64 0, .nilFunc] 112) w.heap.size rfl
  obtain ⟨C0, C1, C2, C3, F0, F1, F2, F3⟩ := box_cells4 b1
  have g2 := World.grownBy_alloc w (.cells #[.int .u8 2, .int .i64 2, .int .i64 1, .nilFunc] 112) none
  have b2 := heap_new w (.cells #[.int .u8 2, .int .i64 2, .int .i64 1, .nilFunc] 112) w.heap.size rfl
  obtain ⟨D0, D1, D2, D3, _, _, _, _⟩ := box_cells4 b2
  clear b1 b2
  go_enter Try.func84, Try.ntmps84
  go_wp2_with fail
  exact bodyPost_ret (v := .tuple #[.agg #[.int .u8 2, .int .i64 2, .int .i64 1, .nilFunc], .bool true]) (by simp [results, Try.results84, go_sem, D0, D1, D2, D3]) rfl ⟨rfl, g2⟩
set_option maxHeartbeats 16000000 in
theorem FrameOf_42 (w : World) : Calls Try.prog 84 #[.int .u8 42] w (RetFrm w (.agg #[.int .u8 2, .int .i64 2, .int .i64 1, .nilFunc]) true) := by
  have b1 := heap_new w (.cells #[.int .u8 0, .int .i64 0, .int .i64 0, .nilFunc] 112) w.heap.size rfl
  obtain ⟨C0, C1, C2, C3, F0, F1, F2, F3⟩ := box_cells4 b1
  have g2 := World.grownBy_alloc w (.cells #[.int .u8 2, .int .i64 2, .int .i64 1, .nilFunc] 112) none
  have b2 := heap_new w (.cells #[.int .u8 2, .int .i64 2, .int .i64 1, .nilFunc] 112) w.heap.size rfl
  obtain ⟨D0, D1, D2, D3, _, _, _, _⟩ := box_cells4 b2
  clear b1 b2
  go_enter Try.func84, Try.ntmps84
  go_wp2_with fail
  exact bodyPost_ret (v := .tuple #[.agg #[.int .u8 2, .int .i64 2, .int .i64 1, .nilFunc], .bool true]) (by simp [results, Try.results84, go_sem, D0, D1, D2, D3]) rfl ⟨rfl, g2⟩
set_option maxHeartbeats 16000000 in
theorem FrameOf_43 (w : World) : Calls Try.prog 84 #[.int .u8 43] w (RetFrm w (.agg #[.int .u8 2, .int .i64 2, .int .i64 1, .nilFunc]) true) := by
  have b1 := heap_new w (.cells #[.int .u8 0, .int .i64 0, .int .i64 0, .nilFunc] 112) w.heap.size rfl
  obtain ⟨C0, C1, C2, C3, F0, F1, F2, F3⟩ := box_cells4 b1
  have g2 := World.grownBy_alloc w (.cells #[.int .u8 2, .int .i64 2, .int .i64 1, .nilFunc] 112) none
  have b2 := heap_new w (.cells #[.int .u8 2, .int .i64 2, .int .i64 1, .nilFunc] 112) w.heap.size rfl
  obtain ⟨D0, D1, D2, D3, _, _, _, _⟩ := box_cells4 b2
  clear b1 b2
  go_enter Try.func84, Try.ntmps84
  go_wp2_with fail
  exact bodyPost_ret (v := .tuple #[.agg #[.int .u8 2, .int .i64 2, .int .i64 1, .nilFunc], .bool true]) (by simp [results, Try.results84, go_sem, D0, D1, D2, D3]) rfl ⟨rfl, g2⟩
set_option maxHeartbeats 16000000 in
theorem FrameOf_46 (w : World) : Calls Try.prog 84 #[.int .u8 46] w (RetFrm w (.agg #[.int .u8 2, .int .i64 2, .int .i64 1, .nilFunc]) true) := by
  have b1 := heap_new w (.cells #[.int .u8 0, .int .i64 0, .int .i64 0, .nilFunc] 112) w.heap.size rfl
  obtain ⟨C0, C1, C2, C3, F0, F1, F2, F3⟩ := box_cells4 b1
  have g2 := World.grownBy_alloc w (.cells #[.int .u8 2, .int .i64 2, .int .i64 1, .nilFunc] 112) none
  have b2 := heap_new w (.cells #[.int .u8 2, .int .i64 2, .int .i64 1, .nilFunc] 112) w.heap.size rfl
  obtain ⟨D0, D1, D2, D3, _, _, _, _⟩ := box_cells4 b2
  clear b1 b2
  go_enter Try.func84, Try.ntmps84
  go_wp2_with fail
  exact bodyPost_ret (v := .tuple #[.agg #[.int .u8 2, .int .i64 2, .int .i64 1, .nilFunc], .bool true]) (by simp [results, Try.results84, go_sem, D0, D1, D2, D3]) rfl ⟨rfl, g2⟩
set_option maxHeartbeats 16000000 in
theorem FrameOf_54 (w : World) : Calls Try.prog 84 #[.int .u8 54] w (RetFrm w (.agg #[.int .u8 2, .int .i64 2, .int .i64 1, .nilFunc]) true) := by
  have b1 := heap_new w (.cells #[.int .u8 0, .int .i64 0, .int .i64 0, .nilFunc] 112) w.heap.size rfl
  obtain ⟨C0, C1, C2, C3, F0, F1, F2, F3⟩ := box_cells4 b1
  have g2 := World.grownBy_alloc w (.cells #[.int .u8 2, .int .i64 2, .int .i64 1, .nilFunc] 112) none
  have b2 := heap_new w (.cells #[.int .u8 2, .int .i64 2, .int .i64 1, .nilFunc] 112) w.heap.size rfl
  obtain ⟨D0, D1, D2, D3, _, _, _, _⟩ := box_cells4 b2
  clear b1 b2
  go_enter Try.func84, Try.ntmps84
  go_wp2_with fail
  exact bodyPost_ret (v := .tuple #[.agg #[.int .u8 2, .int .i64 2, .int .i64 1, .nilFunc], .bool true]) (by simp [results, Try.results84, go_sem, D0, D1, D2, D3]) rfl ⟨rfl, g2⟩
set_option maxHeartbeats 16000000 in
theorem FrameOf_57 (w : World) : Calls Try.prog 84 #[.int .u8 57] w (RetFrm w (.agg #[.int .u8 2, .int .i64 2, .int .i64 1, .nilFunc]) true) := by
  have b1 := heap_new w (.cells #[.int .u8 0, .int .i64 0, .int .i64 0, .nilFunc] 112) w.heap.size rfl
  obtain ⟨C0, C1, C2, C3, F0, F1, F2, F3⟩ := box_cells4 b1
  have g2 := World.grownBy_alloc w (.cells #[.int .u8 2, .int .i64 2, .int .i64 1, .nilFunc] 112) none
  have b2 := heap_new w (.cells #[.int .u8 2, .int .i64 2, .int .i64 1, .nilFunc] 112) w.heap.size rfl
  obtain ⟨D0, D1, D2, D3, _, _, _, _⟩ := box_cells4 b2
  clear b1 b2
  go_enter Try.func84, Try.ntmps84
  go_wp2_with fail
  exact bodyPost_ret (v := .tuple #[.agg #[.int .u8 2, .int .i64 2, .int .i64 1, .nilFunc], .bool true]) (by simp [results, Try.results84, go_sem, D0, D1, D2, D3]) rfl ⟨rfl, g2⟩
set_option maxHeartbeats 16000000 in
theorem FrameOf_1 (w : World) : Calls Try.prog 84 #[.int .u8 1] w (RetFrm w (.agg #[.int .u8 2, .int .i64 24, .int .i64 1, .nilFunc]) true) := by
  have b1 := heap_new w (.cells #[.int .u8 0, .int .i64 0, .int .i64 0, .nilFunc] 112) w.heap.size rfl
  obtain ⟨C0, C1, C2, C3, F0, F1, F2, F3⟩ := box_cells4 b1
  have g2 := World.grownBy_alloc w (.cells #[.int .u8 2, .int .i64 24, .int .i64 1, .nilFunc] 112) none
  have b2 := heap_new w (.cells #[.int .u8 2, .int .i64 24, .int .i64 1, .nilFunc] 112) w.heap.size rfl
  obtain ⟨D0, D1, D2, D3, _, _, _, _⟩ := box_cells4 b2
  clear b1 b2
  go_enter Try.func84, Try.ntmps84
  go_wp2_with fail
  exact bodyPost_ret (v := .tuple #[.agg #[.int .u8 2, .int .i64 24, .int .i64 1, .nilFunc], .bool true]) (by simp [results, Try.results84, go_sem, D0, D1, D2, D3]) rfl ⟨rfl, g2⟩
set_option maxHeartbeats 16000000 in
theorem FrameOf_5 (w : World) : Calls Try.prog 84 #[.int .u8 5] w (RetFrm w (.agg #[.int .u8 2, .int .i64 24, .int .i64 1, .nilFunc]) true) := by
  have b1 := heap_new w (.cells #[.int .u8 0, .int .i64 0, .int .i64 0, .nilFunc] 112) w.heap.size rfl
  obtain ⟨C0, C1, C2, C3, F0, F1, F2, F3⟩ := box_cells4 b1
  have g2 := World.grownBy_alloc w (.cells #[.int .u8 2, .int .i64 24, .int .i64 1, .nilFunc] 112) none
  have b2 := heap_new w (.cells #[.int .u8 2, .int .i64 24, .int .i64 1, .nilFunc] 112) w.heap.size rfl
  obtain ⟨D0, D1, D2, D3, _, _, _, _⟩ := box_cells4 b2
  clear b1 b2
  go_enter Try.func84, Try.ntmps84
  go_wp2_with fail
  exact bodyPost_ret (v := .tuple #[.agg #[.int .u8 2, .int .i64 24, .int .i64 1, .nilFunc], .bool true]) (by simp [results, Try.results84, go_sem, D0, D1, D2, D3]) rfl ⟨rfl, g2⟩
set_option maxHeartbeats 16000000 in
theorem FrameOf_19 (w : World) : Calls Try.prog 84 #[.int .u8 19] w (RetFrm w (.agg #[.int .u8 2, .int .i64 4, .int .i64 1, .nilFunc]) true) := by
  have b1 := heap_new w (.cells #[.int .u8 0, .int .i64 0, .int .i64 0, .nilFunc] 112) w.heap.size rfl
  obtain ⟨C0, C1, C2, C3, F0, F1, F2, F3⟩ := box_cells4 b1
  have g2 := World.grownBy_alloc w (.cells #[.int .u8 2, .int .i64 4, .int .i64 1, .nilFunc] 112) none
  have b2 := heap_new w (.cells #[.int .u8 2, .int .i64 4, .int .i64 1, .nilFunc] 112) w.heap.size rfl
  obtain ⟨D0, D1, D2, D3, _, _, _, _⟩ := box_cells4 b2
  clear b1 b2
  go_enter Try.func84, Try.ntmps84
  go_wp2_with fail
  exact bodyPost_ret (v := .tuple #[.agg #[.int .u8 2, .int .i64 4, .int .i64 1, .nilFunc], .bool true]) (by simp [results, Try.results84, go_sem, D0, D1, D2, D3]) rfl ⟨rfl, g2⟩
set_option maxHeartbeats 16000000 in
theorem FrameOf_59 (w : World) : Calls Try.prog 84 #[.int .u8 59] w (RetFrm w (.agg #[.int .u8 2, .int .i64 6, .int .i64 32, .nilFunc]) true) := by
  have b1 := heap_new w (.cells #[.int .u8 0, .int .i64 0, .int .i64 0, .nilFunc] 112) w.heap.size rfl
  obtain ⟨C0, C1, C2, C3, F0, F1, F2, F3⟩ := box_cells4 b1
  have g2 := World.grownBy_alloc w (.cells #[.int .u8 2, .int .i64 6, .int .i64 32, .nilFunc] 112) none
  have b2 := heap_new w (.cells #[.int .u8 2, .int .i64 6, .int .i64 32, .nilFunc] 112) w.heap.size rfl
  obtain ⟨D0, D1, D2, D3, _, _, _, _⟩ := box_cells4 b2
  clear b1 b2
  go_enter Try.func84, Try.ntmps84
  go_wp2_with fail
  exact bodyPost_ret (v := .tuple #[.agg #[.int .u8 2, .int .i64 6, .int .i64 32, .nilFunc], .bool true]) (by simp [results, Try.results84, go_sem, D0, D1, D2, D3]) rfl ⟨rfl, g2⟩
set_option maxHeartbeats 16000000 in
theorem FrameOf_4 (w : World) : Calls Try.prog 84 #[.int .u8 4] w (RetFrm w (.agg #[.int .u8 0, .int .i64 0, .int .i64 0, .nilFunc]) true) := by
  have b1 := heap_new w (.cells #[.int .u8 0, .int .i64 0, .int .i64 0, .nilFunc] 112) w.heap.size rfl
  obtain ⟨C0, C1, C2, C3, F0, F1, F2, F3⟩ := box_cells4 b1
  have g2 := World.grownBy_alloc w (.cells #[.int .u8 0, .int .i64 0, .int .i64 0, .nilFunc] 112) none
  have b2 := heap_new w (.cells #[.int .u8 0, .int .i64 0, .int .i64 0, .nilFunc] 112) w.heap.size rfl
  obtain ⟨D0, D1, D2, D3, _, _, _, _⟩ := box_cells4 b2
  clear b1 b2
  go_enter Try.func84, Try.ntmps84
  go_wp2_with fail
  exact bodyPost_ret (v := .tuple #[.agg #[.int .u8 0, .int .i64 0, .int .i64 0, .nilFunc], .bool true]) (by simp [results, Try.results84, go_sem, D0, D1, D2, D3]) rfl ⟨rfl, g2⟩
set_option maxHeartbeats 16000000 in
theorem FrameOf_7 (w : World) : Calls Try.prog 84 #[.int .u8 7] w (RetFrm w (.agg #[.int .u8 0, .int .i64 0, .int .i64 0, .nilFunc]) true) := by
  have b1 := heap_new w (.cells #[.int .u8 0, .int .i64 0, .int .i64 0, .nilFunc] 112) w.heap.size rfl
  obtain ⟨C0, C1, C2, C3, F0, F1, F2, F3⟩ := box_cells4 b1
  have g2 := World.grownBy_alloc w (.cells #[.int .u8 0, .int .i64 0, .int .i64 0, .nilFunc] 112) none
  have b2 := heap_new w (.cells #[.int .u8 0, .int .i64 0, .int .i64 0, .nilFunc] 112) w.heap.size rfl
  obtain ⟨D0, D1, D2, D3, _, _, _, _⟩ := box_cells4 b2
  clear b1 b2
  go_enter Try.func84, Try.ntmps84
  go_wp2_with fail
  exact bodyPost_ret (v := .tuple #[.agg #[.int .u8 0, .int .i64 0, .int .i64 0, .nilFunc], .bool true]) (by simp [results, Try.results84, go_sem, D0, D1, D2, D3]) rfl ⟨rfl, g2⟩
set_option maxHeartbeats 16000000 in
theorem FrameOf_8 (w : World) : Calls Try.prog 84 #[.int .u8 8] w (RetFrm w (.agg #[.int .u8 0, .int .i64 0, .int .i64 0, .nilFunc]) true) := by
  have b1 := heap_new w (.cells #[.int .u8 0, .int .i64 0, .int .i64 0, .nilFunc] 112) w.heap.size rfl
  obtain ⟨C0, C1, C2, C3, F0, F1, F2, F3⟩ := box_cells4 b1
  have g2 := World.grownBy_alloc w (.cells #[.int .u8 0, .int .i64 0, .int .i64 0, .nilFunc] 112) none
  have b2 := heap_new w (.cells #[.int .u8 0, .int .i64 0, .int .i64 0, .nilFunc] 112) w.heap.size rfl
  obtain ⟨D0, D1, D2, D3, _, _, _, _⟩ := box_cells4 b2
  clear b1 b2
  go_enter Try.func84, Try.ntmps84
  go_wp2_with fail
  exact bodyPost_ret (v := .tuple #[.agg #[.int .u8 0, .int .i64 0, .int .i64 0, .nilFunc], .bool true]) (by simp [results, Try.results84, go_sem, D0, D1, D2, D3]) rfl ⟨rfl, g2⟩
set_option maxHeartbeats 16000000 in
theorem FrameOf_9 (w : World) : Calls Try.prog 84 #[.int .u8 9] w (RetFrm w (.agg #[.int .u8 0, .int .i64 0, .int .i64 0, .nilFunc]) true) := by
  have b1 := heap_new w (.cells #[.int .u8 0, .int .i64 0, .int .i64 0, .nilFunc] 112) w.heap.size rfl
  obtain ⟨C0, C1, C2, C3, F0, F1, F2, F3⟩ := box_cells4 b1
  have g2 := World.grownBy_alloc w (.cells #[.int .u8 0, .int .i64 0, .int .i64 0, .nilFunc] 112) none
  have b2 := heap_new w (.cells #[.int .u8 0, .int .i64 0, .int .i64 0, .nilFunc] 112) w.heap.size rfl
  obtain ⟨D0, D1, D2, D3, _, _, _, _⟩ := box_cells4 b2
  clear b1 b2
  go_enter Try.func84, Try.ntmps84
  go_wp2_with fail
  exact bodyPost_ret (v := .tuple #[.agg #[.int .u8 0, .int .i64 0, .int .i64 0, .nilFunc], .bool true]) (by simp [results, Try.results84, go_sem, D0, D1, D2, D3]) rfl ⟨rfl, g2⟩
set_option maxHeartbeats 16000000 in
theorem FrameOf_10 (w : World) : Calls Try.prog 84 #[.int .u8 10] w (RetFrm w (.agg #[.int .u8 0, .int .i64 0, .int .i64 0, .nilFunc]) true) := by
  have b1 := heap_new w (.cells #[.int .u8 0, .int .i64 0, .int .i64 0, .nilFunc] 112) w.heap.size rfl
  obtain ⟨C0, C1, C2, C3, F0, F1, F2, F3⟩ := box_cells4 b1
  have g2 := World.grownBy_alloc w (.cells #[.int .u8 0, .int .i64 0, .int .i64 0, .nilFunc] 112) none
  have b2 := heap_new w (.cells #[.int .u8 0, .int .i64 0, .int .i64 0, .nilFunc] 112) w.heap.size rfl
  obtain ⟨D0, D1, D2, D3, _, _, _, _⟩ := box_cells4 b2
  clear b1 b2
  go_enter Try.func84, Try.ntmps84
  go_wp2_with fail
  exact bodyPost_ret (v := .tuple #[.agg #[.int .u8 0, .int .i64 0, .int .i64 0, .nilFunc], .bool true]) (by simp [results, Try.results84, go_sem, D0, D1, D2, D3]) rfl ⟨rfl, g2⟩
set_option maxHeartbeats 16000000 in
theorem FrameOf_11 (w : World) : Calls Try.prog 84 #[.int .u8 11] w (RetFrm w (.agg #[.int .u8 0, .int .i64 0, .int .i64 0, .nilFunc]) true) := by
  have b1 := heap_new w (.cells #[.int .u8 0, .int .i64 0, .int .i64 0, .nilFunc] 112) w.heap.size rfl
  obtain ⟨C0, C1, C2, C3, F0, F1, F2, F3⟩ := box_cells4 b1
  have g2 := World.grownBy_alloc w (.cells #[.int .u8 0, .int .i64 0, .int .i64 0, .nilFunc] 112) none
  have b2 := heap_new w (.cells #[.int .u8 0, .int .i64 0, .int .i64 0, .nilFunc] 112) w.heap.size rfl
  obtain ⟨D0, D1, D2, D3, _, _, _, _⟩ := box_cells4 b2
  clear b1 b2
  go_enter Try.func84, Try.ntmps84
  go_wp2_with fail
  exact bodyPost_ret (v := .tuple #[.agg #[.int .u8 0, .int .i64 0, .int .i64 0, .nilFunc], .bool true]) (by simp [results, Try.results84, go_sem, D0, D1, D2, D3]) rfl ⟨rfl, g2⟩
set_option maxHeartbeats 16000000 in
theorem FrameOf_12 (w : World) : Calls Try.prog 84 #[.int .u8 12] w (RetFrm w (.agg #[.int .u8 0, .int .i64 0, .int .i64 0, .nilFunc]) true) := by
  have b1 := heap_new w (.cells #[.int .u8 0, .int .i64 0, .int .i64 0, .nilFunc] 112) w.heap.size rfl
  obtain ⟨C0, C1, C2, C3, F0, F1, F2, F3⟩ := box_cells4 b1
  have g2 := World.grownBy_alloc w (.cells #[.int .u8 0, .int .i64 0, .int .i64 0, .nilFunc] 112) none
  have b2 := heap_new w (.cells #[.int .u8 0, .int .i64 0, .int .i64 0, .nilFunc] 112) w.heap.size rfl
  obtain ⟨D0, D1, D2, D3, _, _, _, _⟩ := box_cells4 b2
  clear b1 b2
  go_enter Try.func84, Try.ntmps84
  go_wp2_with fail
  exact bodyPost_ret (v := .tuple #[.agg #[.int .u8 0, .int .i64 0, .int .i64 0, .nilFunc], .bool true]) (by simp [results, Try.results84, go_sem, D0, D1, D2, D3]) rfl ⟨rfl, g2⟩
set_option maxHeartbeats 16000000 in
theorem FrameOf_17 (w : World) : Calls Try.prog 84 #[.int .u8 17] w (RetFrm w (.agg #[.int .u8 0, .int .i64 0, .int .i64 0, .nilFunc]) true) := by
  have b1 := heap_new w (.cells #[.int .u8 0, .int .i64 0, .int .i64 0, .nilFunc] 112) w.heap.size rfl
  obtain ⟨C0, C1, C2, C3, F0, F1, F2, F3⟩ := box_cells4 b1
  have g2 := World.grownBy_alloc w (.cells #[.int .u8 0, .int .i64 0, .int .i64 0, .nilFunc] 112) none
  have b2 := heap_new w (.cells #[.int .u8 0, .int .i64 0, .int .i64 0, .nilFunc] 112) w.heap.size rfl
  obtain ⟨D0, D1, D2, D3, _, _, _, _⟩ := box_cells4 b2
  clear b1 b2
  go_enter Try.func84, Try.ntmps84
  go_wp2_with fail
  exact bodyPost_ret (v := .tuple #[.agg #[.int .u8 0, .int .i64 0, .int .i64 0, .nilFunc], .bool true]) (by simp [results, Try.results84, go_sem, D0, D1, D2, D3]) rfl ⟨rfl, g2⟩
set_option maxHeartbeats 16000000 in
theorem FrameOf_21 (w : World) : Calls Try.prog 84 #[.int .u8 21] w (RetFrm w (.agg #[.int .u8 0, .int .i64 0, .int .i64 0, .nilFunc]) true) := by
  have b1 := heap_new w (.cells #[.int .u8 0, .int .i64 0, .int .i64 0, .nilFunc] 112) w.heap.size rfl
  obtain ⟨C0, C1, C2, C3, F0, F1, F2, F3⟩ := box_cells4 b1
  have g2 := World.grownBy_alloc w (.cells #[.int .u8 0, .int .i64 0, .int .i64 0, .nilFunc] 112) none
  have b2 := heap_new w (.cells #[.int .u8 0, .int .i64 0, .int .i64 0, .nilFunc] 112) w.heap.size rfl
  obtain ⟨D0, D1, D2, D3, _, _, _, _⟩ := box_cells4 b2
  clear b1 b2
  go_enter Try.func84, Try.ntmps84
  go_wp2_with fail
  exact bodyPost_ret (v := .tuple #[.agg #[.int .u8 0, .int .i64 0, .int .i64 0, .nilFunc], .bool true]) (by simp [results, Try.results84, go_sem, D0, D1, D2, D3]) rfl ⟨rfl, g2⟩
set_option maxHeartbeats 16000000 in
theorem FrameOf_45 (w : World) : Calls Try.prog 84 #[.int .u8 45] w (RetFrm w (.agg #[.int .u8 0, .int .i64 0, .int .i64 0, .nilFunc]) true) := by
  have b1 := heap_new w (.cells #[.int .u8 0, .int .i64 0, .int .i64 0, .nilFunc] 112) w.heap.size rfl
  obtain ⟨C0, C1, C2, C3, F0, F1, F2, F3⟩ := box_cells4 b1
  have g2 := World.grownBy_alloc w (.cells #[.int .u8 0, .int .i64 0, .int .i64 0, .nilFunc] 112) none
  have b2 := heap_new w (.cells #[.int .u8 0, .int .i64 0, .int .i64 0, .nilFunc] 112) w.heap.size rfl
  obtain ⟨D0, D1, D2, D3, _, _, _, _⟩ := box_cells4 b2
  clear b1 b2
  go_enter Try.func84, Try.ntmps84
  go_wp2_with fail
  exact bodyPost_ret (v := .tuple #[.agg #[.int .u8 0, .int .i64 0, .int .i64 0, .nilFunc], .bool true]) (by simp [results, Try.results84, go_sem, D0, D1, D2, D3]) rfl ⟨rfl, g2⟩
set_option maxHeartbeats 16000000 in
theorem FrameOf_56 (w : World) : Calls Try.prog 84 #[.int .u8 56] w (RetFrm w (.agg #[.int .u8 0, .int .i64 0, .int .i64 0, .nilFunc]) true) := by
  have b1 := heap_new w (.cells #[.int .u8 0, .int .i64 0, .int .i64 0, .nilFunc] 112) w.heap.size rfl
  obtain ⟨C0, C1, C2, C3, F0, F1, F2, F3⟩ := box_cells4 b1
  have g2 := World.grownBy_alloc w (.cells #[.int .u8 0, .int .i64 0, .int .i64 0, .nilFunc] 112) none
  have b2 := heap_new w (.cells #[.int .u8 0, .int .i64 0, .int .i64 0, .nilFunc] 112) w.heap.size rfl
  obtain ⟨D0, D1, D2, D3, _, _, _, _⟩ := box_cells4 b2
  clear b1 b2
  go_enter Try.func84, Try.ntmps84
  go_wp2_with fail
  exact bodyPost_ret (v := .tuple #[.agg #[.int .u8 0, .int .i64 0, .int .i64 0, .nilFunc], .bool true]) (by simp [results, Try.results84, go_sem, D0, D1, D2, D3]) rfl ⟨rfl, g2⟩
set_option maxHeartbeats 16000000 in
theorem FrameOf_15 (w : World) : Calls Try.prog 84 #[.int .u8 15] w (RetFrm w (.agg #[.int .u8 3, .int .i64 4, .int .i64 1, .nilFunc]) true) := by
  have b1 := heap_new w (.cells #[.int .u8 0, .int .i64 0, .int .i64 0, .nilFunc] 112) w.heap.size rfl
  obtain ⟨C0, C1, C2, C3, F0, F1, F2, F3⟩ := box_cells4 b1
  have g2 := World.grownBy_alloc w (.cells #[.int .u8 3, .int .i64 4, .int .i64 1, .nilFunc] 112) none
  have b2 := heap_new w (.cells #[.int .u8 3, .int .i64 4, .int .i64 1, .nilFunc] 112) w.heap.size rfl
  obtain ⟨D0, D1, D2, D3, _, _, _, _⟩ := box_cells4 b2
  clear b1 b2
  go_enter Try.func84, Try.ntmps84
  go_wp2_with fail
  exact bodyPost_ret (v := .tuple #[.agg #[.int .u8 3, .int .i64 4, .int .i64 1, .nilFunc], .bool true]) (by simp [results, Try.results84, go_sem, D0, D1, D2, D3]) rfl ⟨rfl, g2⟩
set_option maxHeartbeats 16000000 in
theorem FrameOf_47 (w : World) : Calls Try.prog 84 #[.int .u8 47] w (RetFrm w (.agg #[.int .u8 3, .int .i64 4, .int .i64 1, .nilFunc]) true) := by
  have b1 := heap_new w (.cells #[.int .u8 0, .int .i64 0, .int .i64 0, .nilFunc] 112) w.heap.size rfl
  obtain ⟨C0, C1, C2, C3, F0, F1, F2, F3⟩ := box_cells4 b1
  have g2 := World.grownBy_alloc w (.cells #[.int .u8 3, .int .i64 4, .int .i64 1, .nilFunc] 112) none
  have b2 := heap_new w (.cells #[.int .u8 3, .int .i64 4, .int .i64 1, .nilFunc] 112) w.heap.size rfl
  obtain ⟨D0, D1, D2, D3, _, _, _, _⟩ := box_cells4 b2
  clear b1 b2
  go_enter Try.func84, Try.ntmps84
  go_wp2_with fail
  exact bodyPost_ret (v := .tuple #[.agg #[.int .u8 3, .int .i64 4, .int .i64 1, .nilFunc], .bool true]) (by simp [results, Try.results84, go_sem, D0, D1, D2, D3]) rfl ⟨rfl, g2⟩
set_option maxHeartbeats 16000000 in
theorem FrameOf_48 (w : World) : Calls Try.prog 84 #[.int .u8 48] w (RetFrm w (.agg #[.int .u8 3, .int .i64 4, .int .i64 1, .nilFunc]) true) := by
  have b1 := heap_new w (.cells #[.int .u8 0, .int .i64 0, .int .i64 0, .nilFunc] 112) w.heap.size rfl
  obtain ⟨C0, C1, C2, C3, F0, F1, F2, F3⟩ := box_cells4 b1
  have g2 := World.grownBy_alloc w (.cells #[.int .u8 3, .int .i64 4, .int .i64 1, .nilFunc] 112) none
  have b2 := heap_new w (.cells #[.int .u8 3, .int .i64 4, .int .i64 1, .nilFunc] 112) w.heap.size rfl
  obtain ⟨D0, D1, D2, D3, _, _, _, _⟩ := box_cells4 b2
  clear b1 b2
  go_enter Try.func84, Try.ntmps84
  go_wp2_with fail
  exact bodyPost_ret (v := .tuple #[.agg #[.int .u8 3, .int .i64 4, .int .i64 1, .nilFunc], .bool true]) (by simp [results, Try.results84, go_sem, D0, D1, D2, D3]) rfl ⟨rfl, g2⟩
set_option maxHeartbeats 16000000 in
theorem FrameOf_49 (w : World) : Calls Try.prog 84 #[.int .u8 49] w (RetFrm w (.agg #[.int .u8 3, .int .i64 4, .int .i64 1, .nilFunc]) true) := by
  have b1 := heap_new w (.cells #[.int .u8 0, .int .i64 0, .int .i64 0, .nilFunc] 112) w.heap.size rfl
  obtain ⟨C0, C1, C2, C3, F0, F1, F2, F3⟩ := box_cells4 b1
  have g2 := World.grownBy_alloc w (.cells #[.int .u8 3, .int .i64 4, .int .i64 1, .nilFunc] 112) none
  have b2 := heap_new w (.cells #[.int .u8 3, .int .i64 4, .int .i64 1, .nilFunc] 112) w.heap.size rfl
  obtain ⟨D0, D1, D2, D3, _, _, _, _⟩ := box_cells4 b2
  clear b1 b2
  go_enter Try.func84, Try.ntmps84
  go_wp2_with fail
  exact bodyPost_ret (v := .tuple #[.agg #[.int .u8 3, .int .i64 4, .int .i64 1, .nilFunc], .bool true]) (by simp [results, Try.results84, go_sem, D0, D1, D2, D3]) rfl ⟨rfl, g2⟩
set_option maxHeartbeats 16000000 in
theorem FrameOf_16 (w : World) : Calls Try.prog 84 #[.int .u8 16] w (RetFrm w (.agg #[.int .u8 3, .int .i64 8, .int .i64 8191, .nilFunc]) true) := by
  have b1 := heap_new w (.cells #[.int .u8 0, .int .i64 0, .int .i64 0, .nilFunc] 112) w.heap.size rfl
  obtain ⟨C0, C1, C2, C3, F0, F1, F2, F3⟩ := box_cells4 b1
  have g2 := World.grownBy_alloc w (.cells #[.int .u8 3, .int .i64 8, .int .i64 8191, .nilFunc] 112) none
  have b2 := heap_new w (.cells #[.int .u8 3, .int .i64 8, .int .i64 8191, .nilFunc] 112) w.heap.size rfl
  obtain ⟨D0, D1, D2, D3, _, _, _, _⟩ := box_cells4 b2
  clear b1 b2
  go_enter Try.func84, Try.ntmps84
  go_wp2_with fail
  exact bodyPost_ret (v := .tuple #[.agg #[.int .u8 3, .int .i64 8, .int .i64 8191, .nilFunc], .bool true]) (by simp [results, Try.results84, go_sem, D0, D1, D2, D3]) rfl ⟨rfl, g2⟩
set_option maxHeartbeats 16000000 in
theorem FrameOf_27 (w : World) : Calls Try.prog 84 #[.int .u8 27] w (RetFrm w (.agg #[.int .u8 5, .int .i64 8, .int .i64 1, .nilFunc]) true) := by
  have b1 := heap_new w (.cells #[.int .u8 0, .int .i64 0, .int .i64 0, .nilFunc] 112) w.heap.size rfl
  obtain ⟨C0, C1, C2, C3, F0, F1, F2, F3⟩ := box_cells4 b1
  have g2 := World.grownBy_alloc w (.cells #[.int .u8 5, .int .i64 8, .int .i64 1, .nilFunc] 112) none
  have b2 := heap_new w (.cells #[.int .u8 5, .int .i64 8, .int .i64 1, .nilFunc] 112) w.heap.size rfl
  obtain ⟨D0, D1, D2, D3, _, _, _, _⟩ := box_cells4 b2
  clear b1 b2
  go_enter Try.func84, Try.ntmps84
  go_wp2_with fail
  exact bodyPost_ret (v := .tuple #[.agg #[.int .u8 5, .int .i64 8, .int .i64 1, .nilFunc], .bool true]) (by simp [results, Try.results84, go_sem, D0, D1, D2, D3]) rfl ⟨rfl, g2⟩
set_option maxHeartbeats 16000000 in
theorem FrameOf_28 (w : World) : Calls Try.prog 84 #[.int .u8 28] w (RetFrm w (.agg #[.int .u8 5, .int .i64 8, .int .i64 1, .nilFunc]) true) := by
  have b1 := heap_new w (.cells #[.int .u8 0, .int .i64 0, .int .i64 0, .nilFunc] 112) w.heap.size rfl
  obtain ⟨C0, C1, C2, C3, F0, F1, F2, F3⟩ := box_cells4 b1
  have g2 := World.grownBy_alloc w (.cells #[.int .u8 5, .int .i64 8, .int .i64 1, .nilFunc] 112) none
  have b2 := heap_new w (.cells #[.int .u8 5, .int .i64 8, .int .i64 1, .nilFunc] 112) w.heap.size rfl
  obtain ⟨D0, D1, D2, D3, _, _, _, _⟩ := box_cells4 b2
  clear b1 b2
  go_enter Try.func84, Try.ntmps84
  go_wp2_with fail
  exact bodyPost_ret (v := .tuple #[.agg #[.int .u8 5, .int .i64 8, .int .i64 1, .nilFunc], .bool true]) (by simp [results, Try.results84, go_sem, D0, D1, D2, D3]) rfl ⟨rfl, g2⟩
set_option maxHeartbeats 16000000 in
theorem FrameOf_3 (w : World) : Calls Try.prog 84 #[.int .u8 3] w (RetFrm w (.agg #[.int .u8 5, .int .i64 16, .int .i64 1, .nilFunc]) true) := by
  have b1 := heap_new w (.cells #[.int .u8 0, .int .i64 0, .int .i64 0, .nilFunc] 112) w.heap.size rfl
  obtain ⟨C0, C1, C2, C3, F0, F1, F2, F3⟩ := box_cells4 b1
  have g2 := World.grownBy_alloc w (.cells #[.int .u8 5, .int .i64 16, .int .i64 1, .nilFunc] 112) none
  have b2 := heap_new w (.cells #[.int .u8 5, .int .i64 16, .int .i64 1, .nilFunc] 112) w.heap.size rfl
  obtain ⟨D0, D1, D2, D3, _, _, _, _⟩ := box_cells4 b2
  clear b1 b2
  go_enter Try.func84, Try.ntmps84
  go_wp2_with fail
  exact bodyPost_ret (v := .tuple #[.agg #[.int .u8 5, .int .i64 16, .int .i64 1, .nilFunc], .bool true]) (by simp [results, Try.results84, go_sem, D0, D1, D2, D3]) rfl ⟨rfl, g2⟩
set_option maxHeartbeats 16000000 in
theorem FrameOf_23 (w : World) : Calls Try.prog 84 #[.int .u8 23] w (RetFrm w (.agg #[.int .u8 1, .int .i64 2, .int .i64 1, .nilFunc]) true) := by
  have b1 := heap_new w (.cells #[.int .u8 0, .int .i64 0, .int .i64 0, .nilFunc] 112) w.heap.size rfl
  obtain ⟨C0, C1, C2, C3, F0, F1, F2, F3⟩ := box_cells4 b1
  have g2 := World.grownBy_alloc w (.cells #[.int .u8 1, .int .i64 2, .int .i64 1, .nilFunc] 112) none
  have b2 := heap_new w (.cells #[.int .u8 1, .int .i64 2, .int .i64 1, .nilFunc] 112) w.heap.size rfl
  obtain ⟨D0, D1, D2, D3, _, _, _, _⟩ := box_cells4 b2
  clear b1 b2
  go_enter Try.func84, Try.ntmps84
  go_wp2_with fail
  exact bodyPost_ret (v := .tuple #[.agg #[.int .u8 1, .int .i64 2, .int .i64 1, .nilFunc], .bool true]) (by simp [results, Try.results84, go_sem, D0, D1, D2, D3]) rfl ⟨rfl, g2⟩
set_option maxHeartbeats 16000000 in
theorem FrameOf_26 (w : World) : Calls Try.prog 84 #[.int .u8 26] w (RetFrm w (.agg #[.int .u8 1, .int .i64 2, .int .i64 1, .nilFunc]) true) := by
  have b1 := heap_new w (.cells #[.int .u8 0, .int .i64 0, .int .i64 0, .nilFunc] 112) w.heap.size rfl
  obtain ⟨C0, C1, C2, C3, F0, F1, F2, F3⟩ := box_cells4 b1
  have g2 := World.grownBy_alloc w (.cells #[.int .u8 1, .int .i64 2, .int .i64 1, .nilFunc] 112) none
  have b2 := heap_new w (.cells #[.int .u8 1, .int .i64 2, .int .i64 1, .nilFunc] 112) w.heap.size rfl
  obtain ⟨D0, D1, D2, D3, _, _, _, _⟩ := box_cells4 b2
  clear b1 b2
  go_enter Try.func84, Try.ntmps84
  go_wp2_with fail
  exact bodyPost_ret (v := .tuple #[.agg #[.int .u8 1, .int .i64 2, .int .i64 1, .nilFunc], .bool true]) (by simp [results, Try.results84, go_sem, D0, D1, D2, D3]) rfl ⟨rfl, g2⟩
set_option maxHeartbeats 16000000 in
theorem FrameOf_38 (w : World) : Calls Try.prog 84 #[.int .u8 38] w (RetFrm w (.agg #[.int .u8 1, .int .i64 2, .int .i64 1, .nilFunc]) true) := by
  have b1 := heap_new w (.cells #[.int .u8 0, .int .i64 0, .int .i64 0, .nilFunc] 112) w.heap.size rfl
  obtain ⟨C0, C1, C2, C3, F0, F1, F2, F3⟩ := box_cells4 b1
  have g2 := World.grownBy_alloc w (.cells #[.int .u8 1, .int .i64 2, .int .i64 1, .nilFunc] 112) none
  have b2 := heap_new w (.cells #[.int .u8 1, .int .i64 2, .int .i64 1, .nilFunc] 112) w.heap.size rfl
  obtain ⟨D0, D1, D2, D3, _, _, _, _⟩ := box_cells4 b2
  clear b1 b2
  go_enter Try.func84, Try.ntmps84
  go_wp2_with fail
  exact bodyPost_ret (v := .tuple #[.agg #[.int .u8 1, .int .i64 2, .int .i64 1, .nilFunc], .bool true]) (by simp [results, Try.results84, go_sem, D0, D1, D2, D3]) rfl ⟨rfl, g2⟩
set_option maxHeartbeats 16000000 in
theorem FrameOf_52 (w : World) : Calls Try.prog 84 #[.int .u8 52] w (RetFrm w (.agg #[.int .u8 1, .int .i64 2, .int .i64 1, .nilFunc]) true) := by
  have b1 := heap_new w (.cells #[.int .u8 0, .int .i64 0, .int .i64 0, .nilFunc] 112) w.heap.size rfl
  obtain ⟨C0, C1, C2, C3, F0, F1, F2, F3⟩ := box_cells4 b1
  have g2 := World.grownBy_alloc w (.cells #[.int .u8 1, .int .i64 2, .int .i64 1, .nilFunc] 112) none
  have b2 := heap_new w (.cells #[.int .u8 1, .int .i64 2, .int .i64 1, .nilFunc] 112) w.heap.size rfl
  obtain ⟨D0, D1, D2, D3, _, _, _, _⟩ := box_cells4 b2
  clear b1 b2
  go_enter Try.func84, Try.ntmps84
  go_wp2_with fail
  exact bodyPost_ret (v := .tuple #[.agg #[.int .u8 1, .int .i64 2, .int .i64 1, .nilFunc], .bool true]) (by simp [results, Try.results84, go_sem, D0, D1, D2, D3]) rfl ⟨rfl, g2⟩
set_option maxHeartbeats 16000000 in
theorem FrameOf_2 (w : World) : Calls Try.prog 84 #[.int .u8 2] w (RetFrm w (.agg #[.int .u8 6, .int .i64 2, .int .i64 256, .func (.func 89) #[] #[]]) true) := by
  have b1 := heap_new w (.cells #[.int .u8 0, .int .i64 0, .int .i64 0, .nilFunc] 112) w.heap.size rfl
  obtain ⟨C0, C1, C2, C3, F0, F1, F2, F3⟩ := box_cells4 b1
  have g2 := World.grownBy_alloc w (.cells #[.int .u8 6, .int .i64 2, .int .i64 256, .func (.func 89) #[] #[]] 112) none
  have b2 := heap_new w (.cells #[.int .u8 6, .int .i64 2, .int .i64 256, .func (.func 89) #[] #[]] 112) w.heap.size rfl
  obtain ⟨D0, D1, D2, D3, _, _, _, _⟩ := box_cells4 b2
  clear b1 b2
  go_enter Try.func84, Try.ntmps84
  go_wp2_with fail
  exact bodyPost_ret (v := .tuple #[.agg #[.int .u8 6, .int .i64 2, .int .i64 256, .func (.func 89) #[] #[]], .bool true]) (by simp [results, Try.results84, go_sem, D0, D1, D2, D3]) rfl ⟨rfl, g2⟩
set_option maxHeartbeats 16000000 in
theorem FrameOf_25 (w : World) : Calls Try.prog 84 #[.int .u8 25] w (RetFrm w (.agg #[.int .u8 6, .int .i64 2, .int .i64 256, .func (.func 89) #[] #[]]) true) := by
  have b1 := heap_new w (.cells #[.int .u8 0, .int .i64 0, .int .i64 0, .nilFunc] 112) w.heap.size rfl
  obtain ⟨C0, C1, C2, C3, F0, F1, F2, F3⟩ := box_cells4 b1
  have g2 := World.grownBy_alloc w (.cells #[.int .u8 6, .int .i64 2, .int .i64 256, .func (.func 89) #[] #[]] 112) none
  have b2 := heap_new w (.cells #[.int .u8 6, .int .i64 2, .int .i64 256, .func (.func 89) #[] #[]] 112) w.heap.size rfl
  obtain ⟨D0, D1, D2, D3, _, _, _, _⟩ := box_cells4 b2
  clear b1 b2
  go_enter Try.func84, Try.ntmps84
  go_wp2_with fail
  exact bodyPost_ret (v := .tuple #[.agg #[.int .u8 6, .int .i64 2, .int .i64 256, .func (.func 89) #[] #[]], .bool true]) (by simp [results, Try.results84, go_sem, D0, D1, D2, D3]) rfl ⟨rfl, g2⟩
set_option maxHeartbeats 16000000 in
theorem FrameOf_44 (w : World) : Calls Try.prog 84 #[.int .u8 44] w (RetFrm w (.agg #[.int .u8 6, .int .i64 2, .int .i64 256, .func (.func 89) #[] #[]]) true) := by
  have b1 := heap_new w (.cells #[.int .u8 0, .int .i64 0, .int .i64 0, .nilFunc] 112) w.heap.size rfl
  obtain ⟨C0, C1, C2, C3, F0, F1, F2, F3⟩ := box_cells4 b1
  have g2 := World.grownBy_alloc w (.cells #[.int .u8 6, .int .i64 2, .int .i64 256, .func (.func 89) #[] #[]] 112) none
  have b2 := heap_new w (.cells #[.int .u8 6, .int .i64 2, .int .i64 256, .func (.func 89) #[] #[]] 112) w.heap.size rfl
  obtain ⟨D0, D1, D2, D3, _, _, _, _⟩ := box_cells4 b2
  clear b1 b2
  go_enter Try.func84, Try.ntmps84
  go_wp2_with fail
  exact bodyPost_ret (v := .tuple #[.agg #[.int .u8 6, .int .i64 2, .int .i64 256, .func (.func 89) #[] #[]], .bool true]) (by simp [results, Try.results84, go_sem, D0, D1, D2, D3]) rfl ⟨rfl, g2⟩
set_option maxHeartbeats 16000000 in
theorem FrameOf_55 (w : World) : Calls Try.prog 84 #[.int .u8 55] w (RetFrm w (.agg #[.int .u8 6, .int .i64 2, .int .i64 256, .func (.func 89) #[] #[]]) true) := by
  have b1 := heap_new w (.cells #[.int .u8 0, .int .i64 0, .int .i64 0, .nilFunc] 112) w.heap.size rfl
  obtain ⟨C0, C1, C2, C3, F0, F1, F2, F3⟩ := box_cells4 b1
  have g2 := World.grownBy_alloc w (.cells #[.int .u8 6, .int .i64 2, .int .i64 256, .func (.func 89) #[] #[]] 112) none
  have b2 := heap_new w (.cells #[.int .u8 6, .int .i64 2, .int .i64 256, .func (.func 89) #[] #[]] 112) w.heap.size rfl
  obtain ⟨D0, D1, D2, D3, _, _, _, _⟩ := box_cells4 b2
  clear b1 b2
  go_enter Try.func84, Try.ntmps84
  go_wp2_with fail
  exact bodyPost_ret (v := .tuple #[.agg #[.int .u8 6, .int .i64 2, .int .i64 256, .func (.func 89) #[] #[]], .bool true]) (by simp [results, Try.results84, go_sem, D0, D1, D2, D3]) rfl ⟨rfl, g2⟩
set_option maxHeartbeats 16000000 in
theorem FrameOf_58 (w : World) : Calls Try.prog 84 #[.int .u8 58] w (RetFrm w (.agg #[.int .u8 6, .int .i64 2, .int .i64 256, .func (.func 89) #[] #[]]) true) := by
  have b1 := heap_new w (.cells #[.int .u8 0, .int .i64 0, .int .i64 0, .nilFunc] 112) w.heap.size rfl
  obtain ⟨C0, C1, C2, C3, F0, F1, F2, F3⟩ := box_cells4 b1
  have g2 := World.grownBy_alloc w (.cells #[.int .u8 6, .int .i64 2, .int .i64 256, .func (.func 89) #[] #[]] 112) none
  have b2 := heap_new w (.cells #[.int .u8 6, .int .i64 2, .int .i64 256, .func (.func 89) #[] #[]] 112) w.heap.size rfl
  obtain ⟨D0, D1, D2, D3, _, _, _, _⟩ := box_cells4 b2
  clear b1 b2
  go_enter Try.func84, Try.ntmps84
  go_wp2_with fail
  exact bodyPost_ret (v := .tuple #[.agg #[.int .u8 6, .int .i64 2, .int .i64 256, .func (.func 89) #[] #[]], .bool true]) (by simp [results, Try.results84, go_sem, D0, D1, D2, D3]) rfl ⟨rfl, g2⟩
set_option maxHeartbeats 16000000 in
theorem FrameOf_6 (w : World) : Calls Try.prog 84 #[.int .u8 6] w (RetFrm w (.agg #[.int .u8 6, .int .i64 2, .int .i64 16, .func (.func 90) #[] #[]]) true) := by
  have b1 := heap_new w (.cells #[.int .u8 0, .int .i64 0, .int .i64 0, .nilFunc] 112) w.heap.size rfl
  obtain ⟨C0, C1, C2, C3, F0, F1, F2, F3⟩ := box_cells4 b1
  have g2 := World.grownBy_alloc w (.cells #[.int .u8 6, .int .i64 2, .int .i64 16, .func (.func 90) #[] #[]] 112) none
  have b2 := heap_new w (.cells #[.int .u8 6, .int .i64 2, .int .i64 16, .func (.func 90) #[] #[]] 112) w.heap.size rfl
  obtain ⟨D0, D1, D2, D3, _, _, _, _⟩ := box_cells4 b2
  clear b1 b2
  go_enter Try.func84, Try.ntmps84
  go_wp2_with fail
  exact bodyPost_ret (v := .tuple #[.agg #[.int .u8 6, .int .i64 2, .int .i64 16, .func (.func 90) #[] #[]], .bool true]) (by simp [results, Try.results84, go_sem, D0, D1, D2, D3]) rfl ⟨rfl, g2⟩
set_option maxHeartbeats 16000000 in
theorem FrameOf_18 (w : World) : Calls Try.prog 84 #[.int .u8 18] w (RetFrm w (.agg #[.int .u8 6, .int .i64 2, .int .i64 16, .func (.func 90) #[] #[]]) true) := by
  have b1 := heap_new w (.cells #[.int .u8 0, .int .i64 0, .int .i64 0, .nilFunc] 112) w.heap.size rfl
  obtain ⟨C0, C1, C2, C3, F0, F1, F2, F3⟩ := box_cells4 b1
  have g2 := World.grownBy_alloc w (.cells #[.int .u8 6, .int .i64 2, .int .i64 16, .func (.func 90) #[] #[]] 112) none
  have b2 := heap_new w (.cells #[.int .u8 6, .int .i64 2, .int .i64 16, .func (.func 90) #[] #[]] 112) w.heap.size rfl
  obtain ⟨D0, D1, D2, D3, _, _, _, _⟩ := box_cells4 b2
  clear b1 b2
  go_enter Try.func84, Try.ntmps84
  go_wp2_with fail
  exact bodyPost_ret (v := .tuple #[.agg #[.int .u8 6, .int .i64 2, .int .i64 16, .func (.func 90) #[] #[]], .bool true]) (by simp [results, Try.results84, go_sem, D0, D1, D2, D3]) rfl ⟨rfl, g2⟩
set_option maxHeartbeats 16000000 in
theorem FrameOf_35 (w : World) : Calls Try.prog 84 #[.int .u8 35] w (RetFrm w (.agg #[.int .u8 6, .int .i64 44, .int .i64 1, .nilFunc]) true) := by
  have b1 := heap_new w (.cells #[.int .u8 0, .int .i64 0, .int .i64 0, .nilFunc] 112) w.heap.size rfl
  obtain ⟨C0, C1, C2, C3, F0, F1, F2, F3⟩ := box_cells4 b1
  have g2 := World.grownBy_alloc w (.cells #[.int .u8 6, .int .i64 44, .int .i64 1, .nilFunc] 112) none
  have b2 := heap_new w (.cells #[.int .u8 6, .int .i64 44, .int .i64 1, .nilFunc] 112) w.heap.size rfl
  obtain ⟨D0, D1, D2, D3, _, _, _, _⟩ := box_cells4 b2
  clear b1 b2
  go_enter Try.func84, Try.ntmps84
  go_wp2_with fail
  exact bodyPost_ret (v := .tuple #[.agg #[.int .u8 6, .int .i64 44, .int .i64 1, .nilFunc], .bool true]) (by simp [results, Try.results84, go_sem, D0, D1, D2, D3]) rfl ⟨rfl, g2⟩
set_option maxHeartbeats 16000000 in
theorem FrameOf_32 (w : World) : Calls Try.prog 84 #[.int .u8 32] w (RetFrm w (.agg #[.int .u8 6, .int .i64 176, .int .i64 1, .nilFunc]) true) := by
  have b1 := heap_new w (.cells #[.int .u8 0, .int .i64 0, .int .i64 0, .nilFunc] 112) w.heap.size rfl
  obtain ⟨C0, C1, C2, C3, F0, F1, F2, F3⟩ := box_cells4 b1
  have g2 := World.grownBy_alloc w (.cells #[.int .u8 6, .int .i64 176, .int .i64 1, .nilFunc] 112) none
  have b2 := heap_new w (.cells #[.int .u8 6, .int .i64 176, .int .i64 1, .nilFunc] 112) w.heap.size rfl
  obtain ⟨D0, D1, D2, D3, _, _, _, _⟩ := box_cells4 b2
  clear b1 b2
  go_enter Try.func84, Try.ntmps84
  go_wp2_with fail
  exact bodyPost_ret (v := .tuple #[.agg #[.int .u8 6, .int .i64 176, .int .i64 1, .nilFunc], .bool true]) (by simp [results, Try.results84, go_sem, D0, D1, D2, D3]) rfl ⟨rfl, g2⟩
set_option maxHeartbeats 16000000 in
theorem FrameOf_31 (w : World) : Calls Try.prog 84 #[.int .u8 31] w (RetFrm w (.agg #[.int .u8 6, .int .i64 44, .int .i64 17, .nilFunc]) true) := by
  have b1 := heap_new w (.cells #[.int .u8 0, .int .i64 0, .int .i64 0, .nilFunc] 112) w.heap.size rfl
  obtain ⟨C0, C1, C2, C3, F0, F1, F2, F3⟩ := box_cells4 b1
  have g2 := World.grownBy_alloc w (.cells #[.int .u8 6, .int .i64 44, .int .i64 17, .nilFunc] 112) none
  have b2 := heap_new w (.cells #[.int .u8 6, .int .i64 44, .int .i64 17, .nilFunc] 112) w.heap.size rfl
  obtain ⟨D0, D1, D2, D3, _, _, _, _⟩ := box_cells4 b2
  clear b1 b2
  go_enter Try.func84, Try.ntmps84
  go_wp2_with fail
  exact bodyPost_ret (v := .tuple #[.agg #[.int .u8 6, .int .i64 44, .int .i64 17, .nilFunc], .bool true]) (by simp [results, Try.results84, go_sem, D0, D1, D2, D3]) rfl ⟨rfl, g2⟩
set_option maxHeartbeats 16000000 in
theorem FrameOf_no (w : World) (k : Nat) (h0 : k ≠ 0) (h13 : k ≠ 13) (h14 : k ≠ 14) (h22 : k ≠ 22) (h33 : k ≠ 33) (h34 : k ≠ 34) (h42 : k ≠ 42) (h43 : k ≠ 43) (h46 : k ≠ 46) (h54 : k ≠ 54) (h57 : k ≠ 57) (h1 : k ≠ 1) (h5 : k ≠ 5) (h19 : k ≠ 19) (h59 : k ≠ 59) (h4 : k ≠ 4) (h7 : k ≠ 7) (h8 : k ≠ 8) (h9 : k ≠ 9) (h10 : k ≠ 10) (h11 : k ≠ 11) (h12 : k ≠ 12) (h17 : k ≠ 17) (h21 : k ≠ 21) (h45 : k ≠ 45) (h56 : k ≠ 56) (h15 : k ≠ 15) (h47 : k ≠ 47) (h48 : k ≠ 48) (h49 : k ≠ 49) (h16 : k ≠ 16) (h27 : k ≠ 27) (h28 : k ≠ 28) (h3 : k ≠ 3) (h23 : k ≠ 23) (h26 : k ≠ 26) (h38 : k ≠ 38) (h52 : k ≠ 52) (h2 : k ≠ 2) (h25 : k ≠ 25) (h44 : k ≠ 44) (h55 : k ≠ 55) (h58 : k ≠ 58) (h6 : k ≠ 6) (h18 : k ≠ 18) (h35 : k ≠ 35) (h32 : k ≠ 32) (h31 : k ≠ 31) : Calls Try.prog 84 #[.int .u8 (k : Int)] w (RetFrm w (.agg #[.int .u8 0, .int .i64 0, .int .i64 0, .nilFunc]) false) := by
  have f0 : ((k : Int) == 0) = false := beq_eq_false_iff_ne.2 (by omega)
  have f13 : ((k : Int) == 13) = false := beq_eq_false_iff_ne.2 (by omega)
  have f14 : ((k : Int) == 14) = false := beq_eq_false_iff_ne.2 (by omega)
  have f22 : ((k : Int) == 22) = false := beq_eq_false_iff_ne.2 (by omega)
  have f33 : ((k : Int) == 33) = false := beq_eq_false_iff_ne.2 (by omega)
  have f34 : ((k : Int) == 34) = false := beq_eq_false_iff_ne.2 (by omega)
  have f42 : ((k : Int) == 42) = false := beq_eq_false_iff_ne.2 (by omega)
  have f43 : ((k : Int) == 43) = false := beq_eq_false_iff_ne.2 (by omega)
  have f46 : ((k : Int) == 46) = false := beq_eq_false_iff_ne.2 (by omega)
  have f54 : ((k : Int) == 54) = false := beq_eq_false_iff_ne.2 (by omega)
  have f57 : ((k : Int) == 57) = false := beq_eq_false_iff_ne.2 (by omega)
  have f1 : ((k : Int) == 1) = false := beq_eq_false_iff_ne.2 (by omega)
  have f5 : ((k : Int) == 5) = false := beq_eq_false_iff_ne.2 (by omega)
  have f19 : ((k : Int) == 19) = false := beq_eq_false_iff_ne.2 (by omega)
  have f59 : ((k : Int) == 59) = false := beq_eq_false_iff_ne.2 (by omega)
  have f4 : ((k : Int) == 4) = false := beq_eq_false_iff_ne.2 (by omega)
  have f7 : ((k : Int) == 7) = false := beq_eq_false_iff_ne.2 (by omega)
  have f8 : ((k : Int) == 8) = false := beq_eq_false_iff_ne.2 (by omega)
  have f9 : ((k : Int) == 9) = false := beq_eq_false_iff_ne.2 (by omega)
  have f10 : ((k : Int) == 10) = false := beq_eq_false_iff_ne.2 (by omega)
  have f11 : ((k : Int) == 11) = false := beq_eq_false_iff_ne.2 (by omega)
  have f12 : ((k : Int) == 12) = false := beq_eq_false_iff_ne.2 (by omega)
  have f17 : ((k : Int) == 17) = false := beq_eq_false_iff_ne.2 (by omega)
  have f21 : ((k : Int) == 21) = false := beq_eq_false_iff_ne.2 (by omega)
  have f45 : ((k : Int) == 45) = false := beq_eq_false_iff_ne.2 (by omega)
  have f56 : ((k : Int) == 56) = false := beq_eq_false_iff_ne.2 (by omega)
  have f15 : ((k : Int) == 15) = false := beq_eq_false_iff_ne.2 (by omega)
  have f47 : ((k : Int) == 47) = false := beq_eq_false_iff_ne.2 (by omega)
  have f48 : ((k : Int) == 48) = false := beq_eq_false_iff_ne.2 (by omega)
  have f49 : ((k : Int) == 49) = false := beq_eq_false_iff_ne.2 (by omega)
  have f16 : ((k : Int) == 16) = false := beq_eq_false_iff_ne.2 (by omega)
  have f27 : ((k : Int) == 27) = false := beq_eq_false_iff_ne.2 (by omega)
  have f28 : ((k : Int) == 28) = false := beq_eq_false_iff_ne.2 (by omega)
  have f3 : ((k : Int) == 3) = false := beq_eq_false_iff_ne.2 (by omega)
  have f23 : ((k : Int) == 23) = false := beq_eq_false_iff_ne.2 (by omega)
  have f26 : ((k : Int) == 26) = false := beq_eq_false_iff_ne.2 (by omega)
  have f38 : ((k : Int) == 38) = false := beq_eq_false_iff_ne.2 (by omega)
  have f52 : ((k : Int) == 52) = false := beq_eq_false_iff_ne.2 (by omega)
  have f2 : ((k : Int) == 2) = false := beq_eq_false_iff_ne.2 (by omega)
  have f25 : ((k : Int) == 25) = false := beq_eq_false_iff_ne.2 (by omega)
  have f44 : ((k : Int) == 44) = false := beq_eq_false_iff_ne.2 (by omega)
  have f55 : ((k : Int) == 55) = false := beq_eq_false_iff_ne.2 (by omega)
  have f58 : ((k : Int) == 58) = false := beq_eq_false_iff_ne.2 (by omega)
  have f6 : ((k : Int) == 6) = false := beq_eq_false_iff_ne.2 (by omega)
  have f18 : ((k : Int) == 18) = false := beq_eq_false_iff_ne.2 (by omega)
  have f35 : ((k : Int) == 35) = false := beq_eq_false_iff_ne.2 (by omega)
  have f32 : ((k : Int) == 32) = false := beq_eq_false_iff_ne.2 (by omega)
  have f31 : ((k : Int) == 31) = false := beq_eq_false_iff_ne.2 (by omega)
  clear h0 h13 h14 h22 h33 h34 h42 h43 h46 h54 h57 h1 h5 h19 h59 h4 h7 h8 h9 h10 h11 h12 h17 h21 h45 h56 h15 h47 h48 h49 h16 h27 h28 h3 h23 h26 h38 h52 h2 h25 h44 h55 h58 h6 h18 h35 h32 h31
  have b1 := heap_new w (.cells #[.int .u8 0, .int .i64 0, .int .i64 0, .nilFunc] 112) w.heap.size rfl
  obtain ⟨C0, C1, C2, C3, F0, F1, F2, F3⟩ := box_cells4 b1
  have g2 := World.grownBy_alloc w (.cells #[.int .u8 0, .int .i64 0, .int .i64 0, .nilFunc] 112) none
  have b2 := heap_new w (.cells #[.int .u8 0, .int .i64 0, .int .i64 0, .nilFunc] 112) w.heap.size rfl
  obtain ⟨D0, D1, D2, D3, _, _, _, _⟩ := box_cells4 b2
  clear b1 b2
  go_enter Try.func84, Try.ntmps84
  go_wp2_with fail
  exact bodyPost_ret (v := .tuple #[.agg #[.int .u8 0, .int .i64 0, .int .i64 0, .nilFunc], .bool false]) (by simp [results, Try.results84, go_sem, D0, D1, D2, D3]) rfl ⟨rfl, g2⟩
theorem FrameOf_any (w : World) (k : Nat) : Calls Try.prog 84 #[.int .u8 (k : Int)] w (fun e w' => (∃ f, frm k = some f ∧ RetFrm w (frV f) true e w') ∨ (frm k = none ∧ RetFrm w (.agg #[.int .u8 0, .int .i64 0, .int .i64 0, .nilFunc]) false e w')) := by
  by_cases h0 : k = 0
  · subst h0; exact (FrameOf_0 w).mono fun e w' h => Or.inl ⟨_, rfl, h⟩
  by_cases h13 : k = 13
  · subst h13; exact (FrameOf_13 w).mono fun e w' h => Or.inl ⟨_, rfl, h⟩
  by_cases h14 : k = 14
  · subst h14; exact (FrameOf_14 w).mono fun e w' h => Or.inl ⟨_, rfl, h⟩
  by_cases h22 : k = 22
  · subst h22; exact (FrameOf_22 w).mono fun e w' h => Or.inl ⟨_, rfl, h⟩
  by_cases h33 : k = 33
  · subst h33; exact (FrameOf_33 w).mono fun e w' h => Or.inl ⟨_, rfl, h⟩
  by_cases h34 : k = 34
  · subst h34; exact (FrameOf_34 w).mono fun e w' h => Or.inl ⟨_, rfl, h⟩
  by_cases h42 : k = 42
  · subst h42; exact (FrameOf_42 w).mono fun e w' h => Or.inl ⟨_, rfl, h⟩
  by_cases h43 : k = 43
  · subst h43; exact (FrameOf_43 w).mono fun e w' h => Or.inl ⟨_, rfl, h⟩
  by_cases h46 : k = 46
  · subst h46; exact (FrameOf_46 w).mono fun e w' h => Or.inl ⟨_, rfl, h⟩
  by_cases h54 : k = 54
  · subst h54; exact (FrameOf_54 w).mono fun e w' h => Or.inl ⟨_, rfl, h⟩
  by_cases h57 : k = 57
  · subst h57; exact (FrameOf_57 w).mono fun e w' h => Or.inl ⟨_, rfl, h⟩
  by_cases h1 : k = 1
  · subst h1; exact (FrameOf_1 w).mono fun e w' h => Or.inl ⟨_, rfl, h⟩
  by_cases h5 : k = 5
  · subst h5; exact (FrameOf_5 w).mono fun e w' h => Or.inl ⟨_, rfl, h⟩
  by_cases h19 : k = 19
  · subst h19; exact (FrameOf_19 w).mono fun e w' h => Or.inl ⟨_, rfl, h⟩
  by_cases h59 : k = 59
  · subst h59; exact (FrameOf_59 w).mono fun e w' h => Or.inl ⟨_, rfl, h⟩
  by_cases h4 : k = 4
  · subst h4; exact (FrameOf_4 w).mono fun e w' h => Or.inl ⟨_, rfl, h⟩
  by_cases h7 : k = 7
  · subst h7; exact (FrameOf_7 w).mono fun e w' h => Or.inl ⟨_, rfl, h⟩
  by_cases h8 : k = 8
  · subst h8; exact (FrameOf_8 w).mono fun e w' h => Or.inl ⟨_, rfl, h⟩
  by_cases h9 : k = 9
  · subst h9; exact (FrameOf_9 w).mono fun e w' h => Or.inl ⟨_, rfl, h⟩
  by_cases h10 : k = 10
  · subst h10; exact (FrameOf_10 w).mono fun e w' h => Or.inl ⟨_, rfl, h⟩
  by_cases h11 : k = 11
  · subst h11; exact (FrameOf_11 w).mono fun e w' h => Or.inl ⟨_, rfl, h⟩
  by_cases h12 : k = 12
  · subst h12; exact (FrameOf_12 w).mono fun e w' h => Or.inl ⟨_, rfl, h⟩
  by_cases h17 : k = 17
  · subst h17; exact (FrameOf_17 w).mono fun e w' h => Or.inl ⟨_, rfl, h⟩
  by_cases h21 : k = 21
  · subst h21; exact (FrameOf_21 w).mono fun e w' h => Or.inl ⟨_, rfl, h⟩
  by_cases h45 : k = 45
  · subst h45; exact (FrameOf_45 w).mono fun e w' h => Or.inl ⟨_, rfl, h⟩
  by_cases h56 : k = 56
  · subst h56; exact (FrameOf_56 w).mono fun e w' h => Or.inl ⟨_, rfl, h⟩
  by_cases h15 : k = 15
  · subst h15; exact (FrameOf_15 w).mono fun e w' h => Or.inl ⟨_, rfl, h⟩
  by_cases h47 : k = 47
  · subst h47; exact (FrameOf_47 w).mono fun e w' h => Or.inl ⟨_, rfl, h⟩
  by_cases h48 : k = 48
  · subst h48; exact (FrameOf_48 w).mono fun e w' h => Or.inl ⟨_, rfl, h⟩
  by_cases h49 : k = 49
  · subst h49; exact (FrameOf_49 w).mono fun e w' h => Or.inl ⟨_, rfl, h⟩
  by_cases h16 : k = 16
  · subst h16; exact (FrameOf_16 w).mono fun e w' h => Or.inl ⟨_, rfl, h⟩
  by_cases h27 : k = 27
  · subst h27; exact (FrameOf_27 w).mono fun e w' h => Or.inl ⟨_, rfl, h⟩
  by_cases h28 : k = 28
  · subst h28; exact (FrameOf_28 w).mono fun e w' h => Or.inl ⟨_, rfl, h⟩
  by_cases h3 : k = 3
  · subst h3; exact (FrameOf_3 w).mono fun e w' h => Or.inl ⟨_, rfl, h⟩
  by_cases h23 : k = 23
  · subst h23; exact (FrameOf_23 w).mono fun e w' h => Or.inl ⟨_, rfl, h⟩
  by_cases h26 : k = 26
  · subst h26; exact (FrameOf_26 w).mono fun e w' h => Or.inl ⟨_, rfl, h⟩
  by_cases h38 : k = 38
  · subst h38; exact (FrameOf_38 w).mono fun e w' h => Or.inl ⟨_, rfl, h⟩
  by_cases h52 : k = 52
  · subst h52; exact (FrameOf_52 w).mono fun e w' h => Or.inl ⟨_, rfl, h⟩
  by_cases h2 : k = 2
  · subst h2; exact (FrameOf_2 w).mono fun e w' h => Or.inl ⟨_, rfl, h⟩
  by_cases h25 : k = 25
  · subst h25; exact (FrameOf_25 w).mono fun e w' h => Or.inl ⟨_, rfl, h⟩
  by_cases h44 : k = 44
  · subst h44; exact (FrameOf_44 w).mono fun e w' h => Or.inl ⟨_, rfl, h⟩
  by_cases h55 : k = 55
  · subst h55; exact (FrameOf_55 w).mono fun e w' h => Or.inl ⟨_, rfl, h⟩
  by_cases h58 : k = 58
  · subst h58; exact (FrameOf_58 w).mono fun e w' h => Or.inl ⟨_, rfl, h⟩
  by_cases h6 : k = 6
  · subst h6; exact (FrameOf_6 w).mono fun e w' h => Or.inl ⟨_, rfl, h⟩
  by_cases h18 : k = 18
  · subst h18; exact (FrameOf_18 w).mono fun e w' h => Or.inl ⟨_, rfl, h⟩
  by_cases h35 : k = 35
  · subst h35; exact (FrameOf_35 w).mono fun e w' h => Or.inl ⟨_, rfl, h⟩
  by_cases h32 : k = 32
  · subst h32; exact (FrameOf_32 w).mono fun e w' h => Or.inl ⟨_, rfl, h⟩
  by_cases h31 : k = 31
  · subst h31; exact (FrameOf_31 w).mono fun e w' h => Or.inl ⟨_, rfl, h⟩
  have hn : frm k = none := by unfold frm; simp only [List.mem_cons, List.not_mem_nil, or_false, h0, h13, h14, h22, h33, h34, h42, h43, h46, h54, h57, h1, h5, h19, h59, h4, h7, h8, h9, h10, h11, h12, h17, h21, h45, h56, h15, h47, h48, h49, h16, h27, h28, h3, h23, h26, h38, h52, h2, h25, h44, h55, h58, h6, h18, h35, h32, h31, or_self, if_false]
  exact (FrameOf_no w k h0 h13 h14 h22 h33 h34 h42 h43 h46 h54 h57 h1 h5 h19 h59 h4 h7 h8 h9 h10 h11 h12 h17 h21 h45 h56 h15 h47 h48 h49 h16 h27 h28 h3 h23 h26 h38 h52 h2 h25 h44 h55 h58 h6 h18 h35 h32 h31).mono fun e w' h => Or.inr ⟨hn, h⟩
end Go.Proofs.Ytcioefmldcmhgaa
