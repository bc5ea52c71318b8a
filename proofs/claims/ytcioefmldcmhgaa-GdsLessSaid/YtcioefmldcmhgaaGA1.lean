/- Streams as trees: a copy, noughts behind it; the same records. -/
import Derived.Test.YtcioefmldcmhgaaGA0
import Derived.Test.YtcioefmldcmhgaaGLaw2
import Derived.Test.YtcioefmldcmhgaaKSame
namespace Go.Proofs.Ytcioefmldcmhgaa
open Go.RowKit
set_option maxRecDepth 100000
set_option linter.unusedVariables false
set_option linter.unusedSimpArgs false

def RetCO (w : World) (l : List Nat) (e : Ending) (w' : World) : Prop := ∃ g cap, e = .returned (.slice (some ⟨g, 0, none⟩) l.length cap) ∧ OwnB w' w.heap.size (.slice (some ⟨g, 0, none⟩) l.length cap) l ∧ w.grownBy w' none
set_option maxHeartbeats 16000000 in
theorem Copied7_any (w : World) (a : Addr) (n cap : Nat) (l : List Nat) (hn : l.length = n) (hl : BySl w (some a) l) (h64 : n ≤ 140737488355328) :
    Calls Try.prog 9 #[.slice (some a) n cap] w (RetCO w l) := by
  obtain ⟨i1, hi, hz0, hz1, hz2⟩ := info_partsU
  have hG := World.grownBy_alloc w (.cells #[] 5) none
  have HO := Lib.hid (own_empty w)
  have hs1 : (w.alloc (.cells #[] 5)).heap.size = w.heap.size + 1 := by simp
  have HSZ := Lib.hid hs1
  clear hs1
  have HW : Hid (∀ j u, (bvs l)[j]? = some u → (w.alloc (.cells #[] 5)).cell? (a.add j) = some u) := Lib.hid fun j u hj => hG.cell (hl.news j u hj) (by simp)
  have HB63 : Hid (0 + n ≤ maxLen) := Lib.hid (by unfold maxLen; omega)
  have HLN : Hid ((bvs l).length = n * 1) := Lib.hid (by rw [bvs_len, hn, Nat.mul_one])
  have HBS : Hid (w.heap.size ≤ (w.alloc (.cells #[] 5)).heap.size) := Lib.hid hG.size
  have HL := Lib.hid hl
  have HN := Lib.hid hn
  clear hl hn
  go_enter Try.func9, Try.ntmps9
  go_wp2_with (at_builtin; refine wpList_own_some rfl (.tmp 3) (.tmp 4) 22 rfl w.heap.size 5 i1 (.int .u8 0) 1 1 Try.underlying22 hi hz0 hz1 hz2 rfl (by decide) (.slice (some ⟨w.heap.size, 0, none⟩) 0 0) 0 [] rfl HO.out a n cap (bvs l) rfl HLN.out HW.out (bvs_one l) HB63.out (by omega) HBS.out (Or.inl (by simp)) n (Nat.zero_add _) ?_)
  intro g c1 w1 hown1 hgrow1 hb1 hc1 hm1
  have hg1 : w.grownBy w1 none := grown_new (g := w.heap.size) hG hgrow1 (Nat.le_refl _)
  have hF : Hid (RetCO w l (.returned (.slice (some ⟨g, 0, none⟩) n c1)) w1) := Lib.hid ⟨g, c1, by rw [HN.out], ⟨by rw [HN.out]; exact hown1, HL.out.2⟩, hg1⟩
  clear hown1 hgrow1 hg1 HL HN HW HLN HO
  go_wp2_with fail
  go_ret
  exact hF.out
theorem zeros_bvs (m : Nat) : (Builtin.zeroCells (Value.int .u8 0).cells m).toList = bvs (List.replicate m 0) := by
  unfold Builtin.zeroCells
  refine List.ext_getElem (by simp [bvs, Value.cells]) ?_
  intro i h1 h2
  simp [bvs, Value.cells, Nat.mod_one]
/-- Noughts behind a row of bytes of the call's own. -/
theorem own_zeros (w : World) (base g c n m : Nat) (l : List Nat) (hl : l.length = n) (hO : OwnB w base (.slice (some ⟨g, 0, none⟩) n c) l) (h63 : n + m ≤ 140737488355328) (hbase : base ≤ w.heap.size) :
    ∃ v' w', (Builtin.append_ #[22, 3] 22 #[.slice (some ⟨g, 0, none⟩) n c, .int .i64 (m : Nat)]).run Try.prog w = .ok v' w' ∧ OwnB w' base v' (l ++ List.replicate m 0) ∧ w.grownBy w' (some g) ∧ v' ≠ .slice none 0 0 := by
  obtain ⟨i1, hi, hz0, hz1, hz2⟩ := info_partsU
  have h1 := hO.1
  rw [hl] at h1
  obtain ⟨v', w', hr, h2, h3, h4⟩ := run_append_own_zeros (P := Try.prog) w base 22 3 22 5 i1 (.int .u8 0) .i64 .i64 1 1 Try.underlying22 Try.underlying3 hi hz0 hz1 hz2 rfl (by decide) (by simp [Value.cells, Value.oneCell']) _ n (bvs l) h1 m (by unfold maxLen; omega) (by omega) hbase
  rw [zeros_bvs] at h2
  refine ⟨v', w', hr, OwnB.of h2 (by rw [hl, List.length_replicate]) hO.2 (by intro x hx; rw [List.eq_of_mem_replicate hx]; decide), h3, fun e => ?_⟩
  have := h4.1 e
  cases this.1
set_option maxHeartbeats 16000000 in
theorem All_any (w : World) (s1 s2 : Option Addr) (n c1 c2 : Nat) (rs : List KRec) (hn : rs.length = n) (h1 : RcSl w s1 rs) (h2 : RcSl w s2 rs) (hb : n ≤ 9223372036854775807) :
    Calls Try.prog 34 #[.slice s1 n c1, .slice s2 n c2] w (RetYes w) := by
  have HR1 := Lib.hid h1
  have HR2 := Lib.hid h2
  have HN := Lib.hid hn
  clear h1 h2 hn
  have hG : w.grownBy w none := grown_refl _ _
  go_enter Try.func34, Try.ntmps34
  go_wp2_with fail
  go_loopg [5] n (fun gh i wr => ∃ k : Nat, k ≤ n ∧ n - k ≤ gh ∧ i = .int .i64 (k : Int) ∧ w.grownBy wr none)
  case atStart => exact ⟨0, Nat.zero_le _, Nat.le_refl _, rfl, hG⟩
  case round =>
    clear hG
    obtain ⟨k, hk, hgh, rfl, hG⟩ := hrel
    by_cases hlt : k < n
    · have f1 : decide ((k : Int) < (n : Int)) = true := decide_eq_true (by omega)
      have hkr : k < rs.length := by rw [HN.out]; exact hlt
      obtain ⟨a, q, sb, cb, kd, dt, bd, rfl, hq, hr, A0, A1, A2, HB, _⟩ := HR1.out.at k hkr
      obtain ⟨a', q', sb', cb', kd', dt', bd', rfl, hq', hr', B0, B1, B2, HB', _⟩ := HR2.out.at k hkr
      rw [hr] at hr'
      cases hr'
      clear hr
      have HBK := Lib.hid (HB.kept hG)
      have HBK' := Lib.hid (HB'.kept hG)
      have HGG := Lib.hid hG
      have HA := Lib.hid (And.intro A0 (And.intro A1 (And.intro A2 (And.intro B0 (And.intro B1 B2)))))
      replace A0 := hG.cell A0 (by simp)
      replace A1 := hG.cell A1 (by simp)
      replace A2 := hG.cell A2 (by simp)
      replace B0 := hG.cell B0 (by simp)
      replace B1 := hG.cell B1 (by simp)
      replace B2 := hG.cell B2 (by simp)
      clear HB HB' hG
      go_wp2_with fail
      go_region_held3 (fun w' => w'.cell? q = some (.int .u8 (kd : Int)) ∧ w'.cell? ⟨q.block, q.off + 1, none⟩ = some (.int .u8 (dt : Int)) ∧ w'.cell? ⟨q.block, q.off + 2, none⟩ = some (.slice sb bd.length cb) ∧ w'.cell? q' = some (.int .u8 (kd : Int)) ∧ w'.cell? ⟨q'.block, q'.off + 1, none⟩ = some (.int .u8 (dt : Int)) ∧ w'.cell? ⟨q'.block, q'.off + 2, none⟩ = some (.slice sb' bd.length cb'))
        (first | assumption | exact ⟨A0, A1, A2, B0, B1, B2⟩ | go_keep)
        (first
          | (go_at_call 25; (with_reducible refine (Same_any _ kd dt sb sb' bd.length cb cb' bd rfl (HBK.out.kept (grown_drew (grown_refl _ _))) (HBK'.out.kept (grown_drew (grown_refl _ _)))).mono ?_); rintro e w1 ⟨rfl, hg1⟩; have HG1 := Lib.hid (grown_trans HGG.out (grown_trans (grown_drew (grown_refl _ _)) hg1)); have A0 := HG1.out.cell HA.out.1 (by simp); have A1 := HG1.out.cell HA.out.2.1 (by simp); have A2 := HG1.out.cell HA.out.2.2.1 (by simp); have B0 := HG1.out.cell HA.out.2.2.2.1 (by simp); have B1 := HG1.out.cell HA.out.2.2.2.2.1 (by simp); have B2 := HG1.out.cell HA.out.2.2.2.2.2 (by simp); clear hg1))
      go_wp2_with fail
      go_roundg (n - (k + 1))
      case measure => omega
      case rel => exact ⟨k + 1, by omega, Nat.le_refl _, by go_num, HG1.out⟩
    · have f1 : decide ((k : Int) < (n : Int)) = false := decide_eq_false (by omega)
      have HGG := Lib.hid hG
      clear hG
      go_wp2_with fail
      go_ret
      exact ⟨rfl, HGG.out⟩
end Go.Proofs.Ytcioefmldcmhgaa
