/- Records: the same records. -/
import Derived.Test.YteienakimdpfhaaKRow
namespace Go.Proofs.Yteienakimdpfhaa
open Go.RowKit
set_option maxRecDepth 100000
set_option linter.unusedVariables false
set_option linter.unusedSimpArgs false

def RetYes (w : World) (e : Ending) (w' : World) : Prop := e = .returned (.bool true) ∧ w.grownBy w' none
set_option maxHeartbeats 16000000 in
theorem Same_any (w : World) (kd dt : Nat) (s1 s2 : Option Addr) (n c1 c2 : Nat) (l : List Nat) (hn : l.length = n) (h1 : BySl w s1 l) (h2 : BySl w s2 l) :
    Calls Try.prog 35 #[.agg #[.int .u8 (kd : Int), .int .u8 (dt : Int), .slice s1 n c1], .agg #[.int .u8 (kd : Int), .int .u8 (dt : Int), .slice s2 n c2]] w (RetYes w) := by
  have g1 := World.grownBy_alloc w (.cells #[.int .u8 (kd : Int), .int .u8 (dt : Int), .slice s1 n c1] 24) none
  have b1 := heap_new w (.cells #[.int .u8 (kd : Int), .int .u8 (dt : Int), .slice s1 n c1] 24) w.heap.size rfl
  have g2 := World.grownBy_alloc (w.alloc (.cells #[.int .u8 (kd : Int), .int .u8 (dt : Int), .slice s1 n c1] 24)) (.cells #[.int .u8 (kd : Int), .int .u8 (dt : Int), .slice s2 n c2] 24) none
  have b2 := heap_new (w.alloc (.cells #[.int .u8 (kd : Int), .int .u8 (dt : Int), .slice s1 n c1] 24)) (.cells #[.int .u8 (kd : Int), .int .u8 (dt : Int), .slice s2 n c2] 24) (w.heap.size + 1) (by simp)
  replace b1 := heap_kept g2 b1
  have hG := grown_trans g1 g2
  have k1 := conv_by _ s1 n c1 l hn (h1.kept hG)
  have k2 := conv_by _ s2 n c2 l hn (h2.kept hG)
  obtain ⟨C0, C1, C2, _, _, _⟩ := box_cells3 b1
  obtain ⟨D0, D1, D2, _, _, _⟩ := box_cells3 b2
  clear b1 b2 g1 g2 h1 h2 hn
  go_enter Try.func35, Try.ntmps35
  go_wp2_with (simp only [k1, k2])
  go_ret
  exact ⟨rfl, hG⟩
set_option maxHeartbeats 16000000 in
theorem LSame_any (w : World) (s1 s2 : Option Addr) (n c1 c2 : Nat) (rs : List KRec) (hn : rs.length = n) (h1 : RcSl w s1 rs) (h2 : RcSl w s2 rs) (hb : n ≤ 9223372036854775807) :
    Calls Try.prog 15 #[.slice s1 n c1, .slice s2 n c2] w (RetYes w) := by
  have HR1 := Lib.hid h1
  have HR2 := Lib.hid h2
  have HN := Lib.hid hn
  clear h1 h2 hn
  have hG : w.grownBy w none := grown_refl _ _
  go_enter Try.func15, Try.ntmps15
  go_wp2_with fail
  go_loopg [5] n (fun gh i wr => ∃ k : Nat, k ≤ n ∧ n - k ≤ gh ∧ i = .int .i64 (k : Int) ∧ w.grownBy wr none)
  case atStart => exact ⟨0, Nat.zero_le _, Nat.le_refl _, rfl, hG⟩
  case round =>
    clear hG
    obtain ⟨k, hk, hgh, rfl, hG⟩ := hrel
    by_cases hlt : k < n
    · have f1 : decide ((k : Int) < (n : Int)) = true := decide_eq_true (by omega)
      have hkr : k < rs.length := by rw [HN.out]; exact hlt
      obtain ⟨a, q, sb, cb, kd, dt, bd, rfl, hq, hr, A0, A1, A2, HB, _⟩ := HR1.out.at k hkr
      obtain ⟨a', q', sb', cb', kd', dt', bd', rfl, hq', hr', B0, B1, B2, HB', _⟩ := HR2.out.at k hkr
      rw [hr] at hr'
      cases hr'
      clear hr
      have HBK := Lib.hid (HB.kept hG)
      have HBK' := Lib.hid (HB'.kept hG)
      have HGG := Lib.hid hG
      have HA := Lib.hid (And.intro A0 (And.intro A1 (And.intro A2 (And.intro B0 (And.intro B1 B2)))))
      replace A0 := hG.cell A0 (by simp)
      replace A1 := hG.cell A1 (by simp)
      replace A2 := hG.cell A2 (by simp)
      replace B0 := hG.cell B0 (by simp)
      replace B1 := hG.cell B1 (by simp)
      replace B2 := hG.cell B2 (by simp)
      clear HB HB' hG
      go_wp2_with fail
      go_region_held3 (fun w' => w'.cell? q = some (.int .u8 (kd : Int)) ∧ w'.cell? ⟨q.block, q.off + 1, none⟩ = some (.int .u8 (dt : Int)) ∧ w'.cell? ⟨q.block, q.off + 2, none⟩ = some (.slice sb bd.length cb) ∧ w'.cell? q' = some (.int .u8 (kd : Int)) ∧ w'.cell? ⟨q'.block, q'.off + 1, none⟩ = some (.int .u8 (dt : Int)) ∧ w'.cell? ⟨q'.block, q'.off + 2, none⟩ = some (.slice sb' bd.length cb'))
        (first | assumption | exact ⟨A0, A1, A2, B0, B1, B2⟩ | go_keep)
        (first
          | (go_at_call 35; (with_reducible refine (Same_any _ kd dt sb sb' bd.length cb cb' bd rfl (HBK.out.kept (grown_drew (grown_refl _ _))) (HBK'.out.kept (grown_drew (grown_refl _ _)))).mono ?_); rintro e w1 ⟨rfl, hg1⟩; have HG1 := Lib.hid (grown_trans HGG.out (grown_trans (grown_drew (grown_refl _ _)) hg1)); have A0 := HG1.out.cell HA.out.1 (by simp); have A1 := HG1.out.cell HA.out.2.1 (by simp); have A2 := HG1.out.cell HA.out.2.2.1 (by simp); have B0 := HG1.out.cell HA.out.2.2.2.1 (by simp); have B1 := HG1.out.cell HA.out.2.2.2.2.1 (by simp); have B2 := HG1.out.cell HA.out.2.2.2.2.2 (by simp); clear hg1))
      go_wp2_with fail
      go_roundg (n - (k + 1))
      case measure => omega
      case rel => exact ⟨k + 1, by omega, Nat.le_refl _, by go_num, HG1.out⟩
    · have f1 : decide ((k : Int) < (n : Int)) = false := decide_eq_false (by omega)
      have HGG := Lib.hid hG
      clear hG
      go_wp2_with fail
      go_ret
      exact ⟨rfl, HGG.out⟩
end Go.Proofs.Yteienakimdpfhaa
