/- Bounds, orders; the frame behind a law's walk (where stage 2's own laws are not reached). -/
import Derived.Test.YtldkddogadmpbaaGreatDoorZDec
import Derived.Test.YtldkddogadmpbaaGreatDoorZRef2
import Derived.Test.YtldkddogadmpbaaGreatDoorRows
import Derived.WalkKit
import Derived.ProofKit
import Derived.OpenShut
import Derived.Deep.DeepHandedRow
namespace Go.Proofs.YtldkddogadmpbaaGreatDoor
open Go.ChangeShapes Go.WideShapes Go.ChangeAt Go.RowKit Go.ChangeMaps Mat
set_option maxRecDepth 100000
set_option linter.unusedVariables false
set_option linter.unusedSimpArgs false

theorem law_own : ownKnob Tryz.prog.godebug = none := by kernel_rfl
theorem zadd_bd {x y : Int} {k : Nat} (h1 : x.natAbs < B ^ k) (h2 : y.natAbs < B ^ k) : (x + y).natAbs < B ^ (k + 1) := Nat.lt_of_le_of_lt (Int.natAbs_add_le x y) (badd h1 h2)
theorem zneg_bd {x : Int} {k : Nat} (h1 : x.natAbs < B ^ k) : (-x).natAbs < B ^ k := by rw [Int.natAbs_neg]; exact h1
theorem zsub_bd {x y : Int} {k : Nat} (h1 : x.natAbs < B ^ k) (h2 : y.natAbs < B ^ k) : (x - y).natAbs < B ^ (k + 1) := by
  rw [Int.sub_eq_add_neg]; exact zadd_bd h1 (zneg_bd h2)
theorem zmul_bd {x y : Int} {k m : Nat} (h1 : x.natAbs < B ^ k) (h2 : y.natAbs < B ^ m) : (x * y).natAbs < B ^ (k + m) := by
  rw [Int.natAbs_mul]; exact bmul h1 h2
theorem zval_bd (s : ByteArray) {n k : Nat} (h : s.size ≤ n) (hk : n ≤ 19 * k) : (zval s).natAbs < B ^ k := by
  unfold zval
  split
  · next hc =>
    have hok : zok (bts s) = true := by
      cases e : zok (bts s)
      · unfold zcod at hc
        rw [e] at hc
        split at hc
        · cases hc
        · simp at hc
      · rfl
    have hd := ((zok_iff _).1 hok).1
    have hl : (zdig (bts s)).length ≤ n := by
      unfold zdig
      split
      · rw [List.length_tail, bts_len]; omega
      · rw [bts_len]; exact h
    have hb := dval_bdE hd (Nat.le_trans hl hk)
    unfold znum
    split
    · rw [Int.natAbs_neg, Int.natAbs_natCast]; exact hb
    · rw [Int.natAbs_natCast]; exact hb
  · exact Nat.pow_pos B_pos
theorem zcmp_eq {x y : Int} (h : x = y) : zcmp x y = 0 := by unfold zcmp; rw [if_neg (by omega), if_pos h]
theorem zcmp_add (x y c : Int) : zcmp (x + c) (y + c) = zcmp x y := by
  unfold zcmp
  rcases Int.lt_trichotomy x y with h | h | h
  · rw [if_pos (by omega), if_pos h]
  · rw [if_neg (by omega), if_pos (by omega), if_neg (by omega), if_pos h]
  · rw [if_neg (by omega), if_neg (by omega), if_neg (by omega), if_neg (by omega)]
theorem zcmp_sub (x y : Int) : (x - y).sign = zcmp x y := by
  unfold zcmp
  rcases Int.lt_trichotomy x y with h | h | h
  · rw [if_pos h]; exact Int.sign_eq_neg_one_of_neg (by omega)
  · rw [if_neg (by omega), if_pos h, show x - y = 0 by omega]; rfl
  · rw [if_neg (by omega), if_neg (by omega)]; exact Int.sign_eq_one_of_pos (by omega)
theorem zcmp_swap (x y : Int) : zcmp y x = -zcmp x y := by
  rw [← zcmp_sub, ← zcmp_sub, ← Int.sign_neg, Int.neg_sub]
theorem zcmp_mul (x y c : Int) : zcmp (x * c) (y * c) = zcmp x y * c.sign := by
  rw [← zcmp_sub, ← zcmp_sub, ← Int.sub_mul, Int.sign_mul]
theorem zcmp_bd (x y : Int) : -1 ≤ zcmp x y ∧ zcmp x y ≤ 1 := by rw [← zcmp_sub]; exact sign_bd _
/-- The world behind the call but for new blocks. -/
theorem kept_of_grown {W W' : World} (h : W.grownBy W' none) : W.keptBut W' (fun _ => False) := by
  refine ⟨h.os, h.output, fun i hi => ?_⟩
  rw [h.block i hi (by simp)]
  cases W.heap[i]? with
  | none => rfl
  | some o => cases o <;> simp
theorem post_plain {H : Type} {enc : TypeId × Value → H} {P : Program} {f : Func} {s : ChangeSpec} {apart fresh handsOn again : Bool} {W W' : World} {args : Array Value} {v : Value} {ds gs : List (DataW H)}
    (hW : DataW.Whole enc P f.params.toList s.vars apart W args.toList ds gs [])
    (hres : ∀ (b : Nat) (sp : Nat → Bool) (hd : Bool), DataW.TrodAll enc P W' b sp hd f.resultTypes.toList (v.resultList f.resultTypes.size) (s.fn H (ds ++ gs)).results [])
    (hargs : ∀ sp : Nat → Bool, DataW.TrodAll enc P W' 0 sp true f.params.toList args.toList (s.fn H (ds ++ gs)).args [])
    (hvars : ∀ sp : Nat → Bool, DataW.TrodVars enc P W' sp s.vars (s.fn H (ds ++ gs)).vars [])
    (hg : W.grownBy W' none)
    (hok : ∀ (j : Nat) (t : TypeId) (r : Value), f.resultTypes[j]? = some t → (v.resultList f.resultTypes.size)[j]? = some r → Value.okWide P W' .any 0 t r) :
    s.post enc P f apart fresh handsOn again W args v W' := by
  refine ⟨ds, gs, [], [], [], [], hW, hres _ _ _, hargs _, hvars _, World.keptBut_mono (fun p hp => hp.elim) (kept_of_grown hg), fun _ => ?_⟩
  refine ⟨hok, _, _, [], ⟨[], [], trodAll_append (hargs _) (hres _ _ _), hvars _, rfl, ?_, ?_⟩, ?_⟩
  · intro b off hp; simp at hp
  · intro _; simp
  · intro p hp; simp at hp
end Go.Proofs.YtldkddogadmpbaaGreatDoor
