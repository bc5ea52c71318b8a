/- Streams as trees: the first record of a kind. -/
import Derived.Test.YtpkemijpggpdaaaGT
import Derived.Test.YtpkemijpggpdaaaGU
import Derived.Test.YtpkemijpggpdaaaKText
namespace Go.Proofs.Ytpkemijpggpdaaa
open Go.RowKit
set_option maxRecDepth 100000
set_option linter.unusedVariables false
set_option linter.unusedSimpArgs false

/-- Where the first of a kind stands: behind all where there is none. -/
def FirstK (rs : List KRec) (kd k : Nat) : Prop := k ≤ rs.length ∧ (∀ i (h : i < rs.length), i < k → rs[i].1 ≠ kd) ∧ (∀ h : k < rs.length, rs[k].1 = kd)
/-- The first record of a kind, and whether there is one. -/
def fieldD (rs : List KRec) (kd : Nat) : Bool × KRec := match rs.find? (fun r => r.1 == kd) with | some r => (true, r) | none => (false, (0, 0, []))
theorem field_at {rs : List KRec} {kd k : Nat} (h : FirstK rs kd k) (hk : k < rs.length) : fieldD rs kd = (true, rs[k]) := by
  have e : rs.find? (fun r => r.1 == kd) = some rs[k] := by
    rw [List.find?_eq_some_iff_getElem]
    refine ⟨by simp [h.2.2 hk], k, hk, rfl, fun j hj => ?_⟩
    have := h.2.1 j (by omega) hj
    simpa using this
  unfold fieldD; rw [e]
theorem field_none {rs : List KRec} {kd k : Nat} (h : FirstK rs kd k) (hk : ¬ k < rs.length) : fieldD rs kd = (false, (0, 0, [])) := by
  have e : rs.find? (fun r => r.1 == kd) = none := by
    rw [List.find?_eq_none]
    intro r hr
    obtain ⟨i, hi, rfl⟩ := List.getElem_of_mem hr
    have := h.2.1 i hi (by have := h.1; omega)
    simpa using this
  unfold fieldD; rw [e]
/-- A record's value whose body came in. -/
def RecVal (W : World) (u : Value) (r : KRec) : Prop := ∃ s c, u = .agg #[.int .u8 (r.1 : Int), .int .u8 (r.2.1 : Int), .slice s r.2.2.length c] ∧ BySl W s r.2.2 ∧ SlOk s r.2.2.length c
theorem RecVal.kept {W W' : World} {u : Value} {r : KRec} (h : RecVal W u r) (hg : W.grownBy W' none) : RecVal W' u r := by
  obtain ⟨s, c, e, h1, h2⟩ := h
  exact ⟨s, c, e, h1.kept hg, h2⟩
/-- The record's body is of the world that it came in. -/
def RetField (w0 w : World) (x : Bool × KRec) (e : Ending) (w' : World) : Prop := ∃ u, e = .returned (.tuple #[u, .bool x.1]) ∧ RecVal w0 u x.2 ∧ w.grownBy w' none
theorem cf_pred (args : Array Value) (W : World) : (callFunc 64 args).run Try.prog W = .ok (.enter 64 args) W :=
  run_callFunc_enter Try.func64 (by kernel_rfl) (by kernel_rfl) args W
set_option maxHeartbeats 16000000 in
theorem Pred_any (w : World) (p kd kr dt n cb : Nat) (sb : Option Addr) (Bp : w.heap[p]? = some (.cells #[.int .u8 (kd : Int)] 5 (0, 0))) :
    Calls Try.prog 64 #[.agg #[.int .u8 (kr : Int), .int .u8 (dt : Int), .slice sb n cb], .pointer (some ⟨p, 0, none⟩)] w (RetB w (decide (kr = kd))) := by
  have g1 := World.grownBy_alloc w (.cells #[.int .u8 (kr : Int), .int .u8 (dt : Int), .slice sb n cb] 45) none
  have b1 := heap_new w (.cells #[.int .u8 (kr : Int), .int .u8 (dt : Int), .slice sb n cb] 45) w.heap.size rfl
  obtain ⟨C0, C1, C2, _⟩ := box_cells3 b1
  obtain ⟨P0, _⟩ := box_cell (heap_kept g1 Bp)
  have HG := Lib.hid g1
  have e : ((kr : Int) == (kd : Int)) = decide (kr = kd) := by
    rw [Bool.eq_iff_iff]; simp; omega
  clear g1 b1 Bp
  go_enter Try.func64, Try.ntmps64
  go_wp2_with fail
  go_ret
  exact ⟨rfl, HG.out⟩
set_option maxHeartbeats 16000000 in
theorem Index_any (w : World) (s : Option Addr) (n c p kd : Nat) (rs : List KRec) (hn : rs.length = n) (hl : RcSl w s rs) (hm : n ≤ 9223372036854775807) (Bp : w.heap[p]? = some (.cells #[.int .u8 (kd : Int)] 5 (0, 0))) :
    Calls Try.prog 63 #[.slice s n c, .func (.func 64) #[] #[.pointer (some ⟨p, 0, none⟩)]] w (fun e w' => ∃ k, FirstK rs kd k ∧ e = .returned (.int .i64 (if k < n then (k : Int) else -1)) ∧ w.grownBy w' none) := by
  have HL := Lib.hid hl
  have HN := Lib.hid hn
  have HBP := Lib.hid Bp
  have hcf := cf_pred
  clear hl hn Bp
  go_enter Try.func63, Try.ntmps63
  go_wp2_with fail
  go_loopg [8] n (fun gh i wr => ∃ k : Nat, k ≤ n ∧ n - k ≤ gh ∧ i = .int .i64 (k : Int) ∧ Hid (∀ j (h : j < rs.length), j < k → rs[j].1 ≠ kd) ∧ Hid (w.grownBy wr none))
  case atStart => exact ⟨0, Nat.zero_le _, Nat.le_refl _, rfl, Lib.hid (fun j _ h => by omega), Lib.hid (grown_refl _ _)⟩
  case round =>
    obtain ⟨k, hk, hgh, rfl, HF, HG⟩ := hrel
    by_cases hlt : k < n
    · have f1 : decide ((k : Int) < (n : Int)) = true := decide_eq_true (by omega)
      have hkr : k < rs.length := by rw [HN.out]; exact hlt
      obtain ⟨a, q, sb, cb, kr, dt, bd, rfl, hq, hr, A0, A1, A2, _⟩ := HL.out.at k hkr
      have HR := Lib.hid hr
      replace A0 := HG.out.cell A0 (by simp)
      replace A1 := HG.out.cell A1 (by simp)
      replace A2 := HG.out.cell A2 (by simp)
      have i0 : (0 : Int) ≤ (k : Int) ∧ (k : Int) < (n : Int) := by omega
      clear hr
      go_wp2_with fail
      refine (Pred_any wr p kd kr dt _ cb sb (heap_kept HG.out HBP.out)).mono ?_
      rintro e w1 ⟨rfl, hg1⟩
      have HG1 := Lib.hid (grown_trans HG.out hg1)
      clear hg1 A0 A1 A2
      by_cases he : kr = kd
      · rw [decide_eq_true he]
        have HK : Hid (FirstK rs kd k) := Lib.hid ⟨by omega, HF.out, fun _ => by rw [HR.out]; exact he⟩
        clear he
        go_wp2_with fail
        go_ret
        exact ⟨k, HK.out, by rw [if_pos hlt]; rfl, HG1.out⟩
      · rw [decide_eq_false he]
        have HK : Hid (∀ j (h : j < rs.length), j < k + 1 → rs[j].1 ≠ kd) := Lib.hid (fun j h hj => by
          rcases Nat.lt_or_ge j k with h1 | h1
          · exact HF.out j h h1
          · obtain rfl : j = k := by omega
            rw [HR.out]; exact he)
        clear he
        go_wp2_with fail
        go_roundg (n - (k + 1))
        case measure => omega
        case rel => exact ⟨k + 1, by omega, Nat.le_refl _, by go_num, HK, HG1⟩
    · have f1 : decide ((k : Int) < (n : Int)) = false := decide_eq_false (by omega)
      have HK : Hid (FirstK rs kd k) := Lib.hid ⟨by have := HN.out; omega, HF.out, fun h => by have := HN.out; omega⟩
      go_wp2_with fail
      go_ret
      exact ⟨k, HK.out, by rw [if_neg hlt]; rfl, HG.out⟩
/-- A record's cells, written. -/
theorem put_rec {w w1 : World} {g : Nat} {a0 a1 a2 : Value} (hg : w.grownBy w1 none) (hb : w.heap.size ≤ g) (h : w1.heap[g]? = some (.cells #[a0, a1, a2] 45 (0, 0))) (v0 v1 v2 : Value) :
    w.grownBy (((w1.setCell ⟨g, 0, none⟩ v0).setCell ⟨g, 1, none⟩ v1).setCell ⟨g, 2, none⟩ v2) none ∧ (((w1.setCell ⟨g, 0, none⟩ v0).setCell ⟨g, 1, none⟩ v1).setCell ⟨g, 2, none⟩ v2).heap[g]? = some (.cells #[v0, v1, v2] 45 (0, 0)) :=
  ⟨grown_new (g := g) hg (grown_set (grown_set (grown_set (grown_refl _ _) 0 v0) 1 v1) 2 v2) hb, heap_set3 h v0 v1 v2⟩
set_option maxHeartbeats 16000000 in
theorem First_any7 (w0 w : World) (v : Value) (rs : List KRec) (kd : Nat) (hv : RecsV w0 v rs) (hg0 : w0.grownBy w none) :
    Calls Try.prog 41 #[v, .int .u8 (kd : Int)] w (RetField w0 w (fieldD rs kd)) := by
  have hmf : ∀ (fn : Fn) (first cap : Array Value) (w : World), (Instr.makeFunc fn first cap).run Try.prog w = .ok (.func fn first cap) w := fun _ _ _ _ => rfl
  obtain ⟨s, c, rfl, hl, hok, _⟩ := hv
  obtain ⟨n, hn⟩ : ∃ n, rs.length = n := ⟨_, rfl⟩
  rw [hn] at hok ⊢
  have hm : n ≤ 9223372036854775807 := Nat.le_trans hok.2.1 hok.2.2
  have g1 := World.grownBy_alloc w (.cells #[.int .u8 (kd : Int)] 5) none
  have b1 := heap_new w (.cells #[.int .u8 (kd : Int)] 5) w.heap.size rfl
  have g2 := World.grownBy_alloc (w.alloc (.cells #[.int .u8 (kd : Int)] 5)) (.cells #[.int .u8 0, .int .u8 0, .slice none 0 0] 45) none
  have b2 := heap_new (w.alloc (.cells #[.int .u8 (kd : Int)] 5)) (.cells #[.int .u8 0, .int .u8 0, .slice none 0 0] 45) (w.heap.size + 1) (by simp)
  replace b1 := heap_kept g2 b1
  have HG := Lib.hid (grown_trans g1 g2)
  have HL := Lib.hid hl
  have H0 := Lib.hid hg0
  have HN := Lib.hid hn
  have HB1 := Lib.hid b1
  have HB2 := Lib.hid b2
  clear hg0 hl hn hok g1 g2 b1 b2
  go_enter Try.func41, Try.ntmps41
  go_wp2_with fail
  generalize ((w.alloc (.cells #[.int .u8 (kd : Int)] 5)).alloc (.cells #[.int .u8 0, .int .u8 0, .slice none 0 0] 45)) = wa at *
  refine (Index_any wa s n c w.heap.size kd rs HN.out (HL.out.kept (grown_trans H0.out HG.out)) hm HB1.out).mono ?_
  rintro e w1 ⟨k, hk, rfl, hg1⟩
  obtain ⟨R0, R1, R2, S0, S1, S2⟩ := box_cells3 (heap_kept hg1 HB2.out)
  have HG1 := Lib.hid (grown_trans HG.out hg1)
  have hsz : w.heap.size < w1.heap.size := by
    have := HG.out.size
    have h2 := hg1.size
    obtain ⟨h3, _⟩ := Array.getElem?_eq_some_iff.1 HB1.out
    omega
  by_cases hlt : k < n
  · rw [if_pos hlt]
    have hkr : k < rs.length := by rw [HN.out]; exact hlt
    have HFD := Lib.hid (field_at hk hkr)
    obtain ⟨a, q, sb, cb, kr, dt, bd, rfl, hq, hr, A0, A1, A2, hy, hz⟩ := HL.out.at k hkr
    rw [hr] at HFD
    replace A0 := (grown_trans H0.out HG1.out).cell A0 (by simp)
    replace A1 := (grown_trans H0.out HG1.out).cell A1 (by simp)
    replace A2 := (grown_trans H0.out HG1.out).cell A2 (by simp)
    have HY := Lib.hid (And.intro hy hz)
    have i0 : (0 : Int) ≤ (k : Int) ∧ (k : Int) < (n : Int) := by omega
    have f1 : decide ((k : Int) < 0) = false := decide_eq_false (by omega)
    obtain ⟨gp, hp⟩ := put_rec (g := w.heap.size + 1) HG1.out (Nat.le_succ _) (heap_kept hg1 HB2.out) (.int .u8 (kr : Int)) (.int .u8 (dt : Int)) (.slice sb bd.length cb)
    obtain ⟨D0, D1, D2, _⟩ := box_cells3 hp
    have HF : Hid (RetField w0 w (fieldD rs kd) (.returned (.tuple #[.agg #[.int .u8 (kr : Int), .int .u8 (dt : Int), .slice sb bd.length cb], .bool true])) _) := Lib.hid (by
      rw [HFD.out]; exact ⟨_, rfl, ⟨sb, cb, rfl, HY.out.1, HY.out.2⟩, gp⟩)
    clear hg1 hk hr hy hz gp hp
    go_wp2_with fail
    exact bodyPost_ret (v := .tuple #[.agg #[.int .u8 (kr : Int), .int .u8 (dt : Int), .slice sb bd.length cb], .bool true]) (by simp [results, Try.results41, go_sem, D0, D1, D2]) rfl HF.out
  · rw [if_neg hlt]
    have HFD := Lib.hid (field_none hk (by rw [HN.out]; exact hlt))
    have f1 : decide ((-1 : Int) < 0) = true := by decide
    obtain ⟨gp, hp⟩ := put_rec (g := w.heap.size + 1) HG1.out (Nat.le_succ _) (heap_kept hg1 HB2.out) (.int .u8 0) (.int .u8 0) (.slice none 0 0)
    obtain ⟨D0, D1, D2, _⟩ := box_cells3 hp
    have HF : Hid (RetField w0 w (fieldD rs kd) (.returned (.tuple #[.agg #[.int .u8 0, .int .u8 0, .slice none 0 0], .bool false])) _) := Lib.hid (by
      rw [HFD.out]; exact ⟨_, rfl, ⟨none, 0, rfl, BySl.nil _ _, fun _ => ⟨rfl, rfl⟩, Nat.le_refl _, by omega⟩, gp⟩)
    clear hg1 hk gp hp
    go_wp2_with fail
    exact bodyPost_ret (v := .tuple #[.agg #[.int .u8 0, .int .u8 0, .slice none 0 0], .bool false]) (by simp [results, Try.results41, go_sem, D0, D1, D2]) rfl HF.out
end Go.Proofs.Ytpkemijpggpdaaa
