/- Records: the same records. -/
import Derived.Test.YtcioefmldcmhgaaKRow
namespace Go.Proofs.Ytcioefmldcmhgaa
open Go.RowKit
set_option maxRecDepth 100000
set_option linter.unusedVariables false
set_option linter.unusedSimpArgs false

def RetYes (w : World) (e : Ending) (w' : World) : Prop := e = .returned (.bool true) ∧ w.grownBy w' none
set_option maxHeartbeats 16000000 in
theorem Same_any (w : World) (kd dt : Nat) (s1 s2 : Option Addr) (n c1 c2 : Nat) (l : List Nat) (hn : l.length = n) (h1 : BySl w s1 l) (h2 : BySl w s2 l) :
    Calls Try.prog 25 #[.agg #[.int .u8 (kd : Int), .int .u8 (dt : Int), .slice s1 n c1], .agg #[.int .u8 (kd : Int), .int .u8 (dt : Int), .slice s2 n c2]] w (RetYes w) := by
  have g1 := World.grownBy_alloc w (.cells #[.int .u8 (kd : Int), .int .u8 (dt : Int), .slice s1 n c1] 45) none
  have b1 := heap_new w (.cells #[.int .u8 (kd : Int), .int .u8 (dt : Int), .slice s1 n c1] 45) w.heap.size rfl
  have g2 := World.grownBy_alloc (w.alloc (.cells #[.int .u8 (kd : Int), .int .u8 (dt : Int), .slice s1 n c1] 45)) (.cells #[.int .u8 (kd : Int), .int .u8 (dt : Int), .slice s2 n c2] 45) none
  have b2 := heap_new (w.alloc (.cells #[.int .u8 (kd : Int), .int .u8 (dt : Int), .slice s1 n c1] 45)) (.cells #[.int .u8 (kd : Int), .int .u8 (dt : Int), .slice s2 n c2] 45) (w.heap.size + 1) (by simp)
  replace b1 := heap_kept g2 b1
  have hG := grown_trans g1 g2
  have k1 := conv_by _ s1 n c1 l hn (h1.kept hG)
  have k2 := conv_by _ s2 n c2 l hn (h2.kept hG)
  obtain ⟨C0, C1, C2, _, _, _⟩ := box_cells3 b1
  obtain ⟨D0, D1, D2, _, _, _⟩ := box_cells3 b2
  clear b1 b2 g1 g2 h1 h2 hn
  go_enter Try.func25, Try.ntmps25
  go_wp2_with (simp only [k1, k2])
  go_ret
  exact ⟨rfl, hG⟩
end Go.Proofs.Ytcioefmldcmhgaa
