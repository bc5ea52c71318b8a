/- Records: few. -/
import Derived.Test.YteienakimdpfhaaKRJoin
namespace Go.Proofs.Yteienakimdpfhaa
open Go.RowKit
set_option maxRecDepth 100000
set_option linter.unusedVariables false
set_option linter.unusedSimpArgs false

def RetFew (w : World) (s : Option Addr) (n cap : Nat) (rs : List KRec) (e : Ending) (w' : World) : Prop :=
  w' = w ∧ ((e = .returned (.tuple #[.slice s (min n 200) cap, .bool true]) ∧ sumB (rs.take (min n 200)) ≤ 400000) ∨ e = .returned (.tuple #[.slice none 0 0, .bool false]))
set_option maxHeartbeats 16000000 in
theorem Few_m (w : World) (s : Option Addr) (n m cap : Nat) (rs : List KRec) (hn : rs.length = n) (hl : RcSl w s rs) (hs : s = none → n = 0) (hc : n ≤ cap) (hm : cap ≤ 9223372036854775807) (hmn : m = min n 200) :
    Calls Try.prog 16 #[.slice s n cap] w (RetFew w s n cap rs) := by
  have HR := Lib.hid hl
  have HN := Lib.hid hn
  have HM := Lib.hid hmn
  have HQ : Hid (∀ (h : sumB (rs.take m) ≤ 400000), RetFew w s n cap rs (.returned (.tuple #[.slice s m cap, .bool true])) w) := Lib.hid (fun h => ⟨rfl, Or.inl ⟨by rw [hmn], by rw [hmn] at h; exact h⟩⟩)
  have HF : Hid (RetFew w s n cap rs (.returned (.tuple #[.slice none 0 0, .bool false])) w) := Lib.hid ⟨rfl, Or.inr rfl⟩
  obtain ⟨P, hP⟩ : ∃ P, RetFew w s n cap rs = P := ⟨_, rfl⟩
  rw [hP] at HQ HF ⊢
  have hmle : m ≤ n := by omega
  clear hP hl hn
  by_cases hbig : 200 < n
  · have q0 : decide ((200 : Int) < (n : Int)) = true := decide_eq_true (by omega)
    obtain ⟨a, rfl⟩ : ∃ a, s = some a := by
      cases s with
      | none => have := hs rfl; omega
      | some a => exact ⟨a, rfl⟩
    have hm2 : m = 200 := by omega
    subst hm2
    have i1 : (200 : Int) ≤ (cap : Int) := by omega
    clear hs hbig hmn
    go_enter Try.func16, Try.ntmps16
    go_wp2_with fail
    go_loop [4, 5] (fun sm i => ∃ k S : Nat, k ≤ 200 ∧ S ≤ 400000 ∧ Hid (sumB (rs.take k) = S) ∧ sm = .int .i64 (S : Int) ∧ i = .int .i64 (k : Int)) (fun sm i => 200 - (intOf i).toNat)
    case atStart => exact ⟨0, 0, Nat.zero_le _, Nat.zero_le _, Lib.hid rfl, rfl, rfl⟩
    case round =>
      obtain ⟨k, S, hk, hS, HS, rfl, rfl⟩ := hrel
      by_cases hlt : k < 200
      · have f1 : decide ((k : Int) < 200) = true := decide_eq_true (by omega)
        have hkr : k < rs.length := by rw [HN.out]; omega
        obtain ⟨a, q, sb, cb, kd, dt, bd, ha, hq, hr, A0, A1, A2, HBY, hz, hcb, hmb⟩ := HR.out.at k hkr
        cases ha
        have HSN : Hid (sumB (rs.take (k + 1)) = S + bd.length) := Lib.hid (by rw [sumB_take rs k hkr, HS.out, hr])
        clear hr HBY hkr
        by_cases hb1 : 200000 < bd.length
        · have f2 : decide ((200000 : Int) < (bd.length : Int)) = true := decide_eq_true (by omega)
          go_wp2_with fail
          exact HF.out
        · have f2 : decide ((200000 : Int) < (bd.length : Int)) = false := decide_eq_false (by omega)
          by_cases hb2 : 400000 < S + bd.length
          · have f3 : decide ((400000 : Int) < (S : Int) + (bd.length : Int)) = true := decide_eq_true (by omega)
            go_wp2_with fail
            exact HF.out
          · have f3 : decide ((400000 : Int) < (S : Int) + (bd.length : Int)) = false := decide_eq_false (by omega)
            go_wp2_with fail
            go_round
            case rel => exact ⟨k + 1, S + bd.length, by omega, by omega, HSN, by go_num, by go_num⟩
            case measure => simp [intOf]; omega
      · have f1 : decide ((k : Int) < 200) = false := decide_eq_false (by omega)
        have hkm : k = 200 := by omega
        have hF := Lib.hid (HQ.out (by rw [← hkm, HS.out]; exact hS))
        clear hkm
        go_wp2_with fail
        exact hF.out
  · have q0 : decide ((200 : Int) < (n : Int)) = false := decide_eq_false (by omega)
    have hm2 : m = n := by omega
    subst hm2
    clear hs hbig hmn
    go_enter Try.func16, Try.ntmps16
    go_wp2_with fail
    go_loop [4, 5] (fun sm i => ∃ k S : Nat, k ≤ m ∧ S ≤ 400000 ∧ Hid (sumB (rs.take k) = S) ∧ sm = .int .i64 (S : Int) ∧ i = .int .i64 (k : Int)) (fun sm i => m - (intOf i).toNat)
    case atStart => exact ⟨0, 0, Nat.zero_le _, Nat.zero_le _, Lib.hid rfl, rfl, rfl⟩
    case round =>
      obtain ⟨k, S, hk, hS, HS, rfl, rfl⟩ := hrel
      by_cases hlt : k < m
      · have f1 : decide ((k : Int) < (m : Int)) = true := decide_eq_true (by omega)
        have hkr : k < rs.length := by rw [HN.out]; omega
        obtain ⟨a, q, sb, cb, kd, dt, bd, rfl, hq, hr, A0, A1, A2, HBY, hz, hcb, hmb⟩ := HR.out.at k hkr
        have HSN : Hid (sumB (rs.take (k + 1)) = S + bd.length) := Lib.hid (by rw [sumB_take rs k hkr, HS.out, hr])
        clear hr HBY hkr
        by_cases hb1 : 200000 < bd.length
        · have f2 : decide ((200000 : Int) < (bd.length : Int)) = true := decide_eq_true (by omega)
          go_wp2_with fail
          exact HF.out
        · have f2 : decide ((200000 : Int) < (bd.length : Int)) = false := decide_eq_false (by omega)
          by_cases hb2 : 400000 < S + bd.length
          · have f3 : decide ((400000 : Int) < (S : Int) + (bd.length : Int)) = true := decide_eq_true (by omega)
            go_wp2_with fail
            exact HF.out
          · have f3 : decide ((400000 : Int) < (S : Int) + (bd.length : Int)) = false := decide_eq_false (by omega)
            go_wp2_with fail
            go_round
            case rel => exact ⟨k + 1, S + bd.length, by omega, by omega, HSN, by go_num, by go_num⟩
            case measure => simp [intOf]; omega
      · have f1 : decide ((k : Int) < (m : Int)) = false := decide_eq_false (by omega)
        have hkm : k = m := by omega
        have hF := Lib.hid (HQ.out (by rw [← hkm, HS.out]; exact hS))
        clear hkm
        go_wp2_with fail
        exact hF.out
theorem Few_any (w : World) (s : Option Addr) (n cap : Nat) (rs : List KRec) (hn : rs.length = n) (hl : RcSl w s rs) (hs : s = none → n = 0) (hc : n ≤ cap) (hm : cap ≤ 9223372036854775807) :
    Calls Try.prog 16 #[.slice s n cap] w (RetFew w s n cap rs) := Few_m w s n _ cap rs hn hl hs hc hm rfl
end Go.Proofs.Yteienakimdpfhaa
