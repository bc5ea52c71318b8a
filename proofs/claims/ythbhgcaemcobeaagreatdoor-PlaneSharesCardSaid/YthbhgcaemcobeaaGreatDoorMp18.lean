/- What the laws lean on, part 18. -/
import Derived.Test.YthbhgcaemcobeaaGreatDoorRows
import Derived.WalkKit
import Derived.ProofKit
import Derived.OpenShut
import Derived.Deep.DeepHandedRow
import Derived.Laws.Concat
import Derived.Test.YthbhgcaemcobeaaGreatDoorMp16
import Derived.Test.YthbhgcaemcobeaaGreatDoorMp17
import Derived.Test.YthbhgcaemcobeaaGreatDoorMp15
import Derived.Test.YthbhgcaemcobeaaGreatDoorMp13
namespace Go.Proofs.YthbhgcaemcobeaaGreatDoor
open Go.ChangeShapes Go.WideShapes Go.ChangeAt Go.RowKit Go.ChangeMaps Mat
set_option maxRecDepth 100000
set_option linter.unusedVariables false
set_option linter.unusedSimpArgs false
theorem law_own : ownKnob Tryz.prog.godebug = none := by kernel_rfl
theorem zadd_bd {x y : Int} {k : Nat} (h1 : x.natAbs < B ^ k) (h2 : y.natAbs < B ^ k) : (x + y).natAbs < B ^ (k + 1) := Nat.lt_of_le_of_lt (Int.natAbs_add_le x y) (badd h1 h2)
theorem zneg_bd {x : Int} {k : Nat} (h1 : x.natAbs < B ^ k) : (-x).natAbs < B ^ k := by rw [Int.natAbs_neg]; exact h1
theorem zsub_bd {x y : Int} {k : Nat} (h1 : x.natAbs < B ^ k) (h2 : y.natAbs < B ^ k) : (x - y).natAbs < B ^ (k + 1) := by
  rw [Int.sub_eq_add_neg]; exact zadd_bd h1 (zneg_bd h2)
theorem zmul_bd {x y : Int} {k m : Nat} (h1 : x.natAbs < B ^ k) (h2 : y.natAbs < B ^ m) : (x * y).natAbs < B ^ (k + m) := by
  rw [Int.natAbs_mul]; exact bmul h1 h2
theorem zval_bd (s : ByteArray) {n k : Nat} (h : s.size ≤ n) (hk : n ≤ 19 * k) : (zval s).natAbs < B ^ k := by
  unfold zval
  split
  · next hc =>
    have hok : zok (bts s) = true := by
      cases e : zok (bts s)
      · unfold zcod at hc
        rw [e] at hc
        split at hc
        · cases hc
        · simp at hc
      · rfl
    have hd := ((zok_iff _).1 hok).1
    have hl : (zdig (bts s)).length ≤ n := by
      unfold zdig
      split
      · rw [List.length_tail, bts_len]; omega
      · rw [bts_len]; exact h
    have hb := dval_bdE hd (Nat.le_trans hl hk)
    unfold znum
    split
    · rw [Int.natAbs_neg, Int.natAbs_natCast]; exact hb
    · rw [Int.natAbs_natCast]; exact hb
  · exact Nat.pow_pos B_pos
theorem zcmp_eq {x y : Int} (h : x = y) : zcmp x y = 0 := by unfold zcmp; rw [if_neg (by omega), if_pos h]
theorem zcmp_add (x y c : Int) : zcmp (x + c) (y + c) = zcmp x y := by
  unfold zcmp
  rcases Int.lt_trichotomy x y with h | h | h
  · rw [if_pos (by omega), if_pos h]
  · rw [if_neg (by omega), if_pos (by omega), if_neg (by omega), if_pos h]
  · rw [if_neg (by omega), if_neg (by omega), if_neg (by omega), if_neg (by omega)]
theorem zcmp_sub (x y : Int) : (x - y).sign = zcmp x y := by
  unfold zcmp
  rcases Int.lt_trichotomy x y with h | h | h
  · rw [if_pos h]; exact Int.sign_eq_neg_one_of_neg (by omega)
  · rw [if_neg (by omega), if_pos h, show x - y = 0 by omega]; rfl
  · rw [if_neg (by omega), if_neg (by omega)]; exact Int.sign_eq_one_of_pos (by omega)
theorem zcmp_swap (x y : Int) : zcmp y x = -zcmp x y := by
  rw [← zcmp_sub, ← zcmp_sub, ← Int.sign_neg, Int.neg_sub]
theorem zcmp_mul (x y c : Int) : zcmp (x * c) (y * c) = zcmp x y * c.sign := by
  rw [← zcmp_sub, ← zcmp_sub, ← Int.sub_mul, Int.sign_mul]
theorem zcmp_bd (x y : Int) : -1 ≤ zcmp x y ∧ zcmp x y ≤ 1 := by rw [← zcmp_sub]; exact sign_bd _
theorem kept_of_grown {W W' : World} (h : W.grownBy W' none) : W.keptBut W' (fun _ => False) := by
  refine ⟨h.os, h.output, fun i hi => ?_⟩
  rw [h.block i hi (by simp)]
  cases W.heap[i]? with
  | none => rfl
  | some o => cases o <;> simp
theorem post_plain {H : Type} {enc : TypeId × Value → H} {P : Program} {f : Func} {s : ChangeSpec} {apart fresh handsOn again : Bool} {W W' : World} {args : Array Value} {v : Value} {ds gs : List (DataW H)}
    (hW : DataW.Whole enc P f.params.toList s.vars apart W args.toList ds gs [])
    (hres : ∀ (b : Nat) (sp : Nat → Bool) (hd : Bool), DataW.TrodAll enc P W' b sp hd f.resultTypes.toList (v.resultList f.resultTypes.size) (s.fn H (ds ++ gs)).results [])
    (hargs : ∀ sp : Nat → Bool, DataW.TrodAll enc P W' 0 sp true f.params.toList args.toList (s.fn H (ds ++ gs)).args [])
    (hvars : ∀ sp : Nat → Bool, DataW.TrodVars enc P W' sp s.vars (s.fn H (ds ++ gs)).vars [])
    (hg : W.grownBy W' none)
    (hok : ∀ (j : Nat) (t : TypeId) (r : Value), f.resultTypes[j]? = some t → (v.resultList f.resultTypes.size)[j]? = some r → Value.okWide P W' .any 0 t r) :
    s.post enc P f apart fresh handsOn again W args v W' := by
  refine ⟨ds, gs, [], [], [], [], hW, hres _ _ _, hargs _, hvars _, World.keptBut_mono (fun p hp => hp.elim) (kept_of_grown hg), fun _ => ?_⟩
  refine ⟨hok, _, _, [], ⟨[], [], trodAll_append (hargs _) (hres _ _ _), hvars _, rfl, ?_, ?_⟩, ?_⟩
  · intro b off hp; simp at hp
  · intro _; simp
  · intro p hp; simp at hp
end Go.Proofs.YthbhgcaemcobeaaGreatDoor
namespace Go.Proofs.YthbhgcaemcobeaaGreatDoor
open Go.RowKit Mat
set_option maxRecDepth 100000
set_option linter.unusedVariables false
set_option linter.unusedSimpArgs false
theorem ztext_uniq {s t : ByteArray} {z : Int} (hs : ZTextOf s z) (ht : ZTextOf t z) : s = t := by
  obtain ⟨l, hl, vl, el⟩ := hs
  obtain ⟨m, hm, vm, em⟩ := ht
  have : l = m := dec_uniqL hl hm (vl.trans vm.symm)
  subst this
  exact bts_inj (el.trans em.symm)
theorem NZText_any (w : World) (va : Value) (z : Int) (K : Nat) (ha : IntV w va z) (hK : K ≤ 900000) (la : z.natAbs < B ^ K) :
    Calls Tryz.prog 52 #[va] w (RetZText w z) := ZText_any w va z K ha hK la
theorem ztext_len {s : ByteArray} {z : Int} {K : Nat} (h : ZTextOf s z) (la : z.natAbs < B ^ K) : s.size ≤ 20 * K + 2 := by
  obtain ⟨l, hl, vl, el⟩ := h
  have h1 : l.length ≤ 20 * K + 1 := by
    refine dec_len hl ?_ (by omega)
    rw [vl]
    refine Nat.lt_of_lt_of_le la ?_
    have q1 : B ^ K ≤ (10 ^ 20) ^ K := Nat.pow_le_pow_left (by decide) K
    rw [← Nat.pow_mul] at q1
    exact Nat.le_trans q1 (Nat.pow_le_pow_right (by omega) (by omega))
  have h2 := congrArg List.length el
  rw [bts_len] at h2
  rw [h2]
  split
  · rw [List.length_cons]; omega
  · omega
theorem ztext_sh1 {a K : Nat} (h : a ≤ 20 * K + 2) (hK : K ≤ 800000) : ¬ (9223372036854775807 < a + 1) := by omega
theorem ztext_sh2 {a b K : Nat} (h : a ≤ 20 * K + 2) (h' : b ≤ 20 * K + 2) (hK : K ≤ 800000) : ¬ (9223372036854775807 < a + 1 + b) := by omega
def RTextOf (s : ByteArray) (r : Rat) : Prop := (r.den = 1 ∧ ZTextOf s r.num) ∨ (r.den ≠ 1 ∧ ∃ p q : ByteArray, ZTextOf p r.num ∧ ZTextOf q (r.den : Int) ∧ s = p ++ { data := #[47] } ++ q)
theorem rtext_uniq {s t : ByteArray} {r : Rat} (hs : RTextOf s r) (ht : RTextOf t r) : s = t := by
  rcases hs with ⟨h1, h2⟩ | ⟨h1, p, q, h2, h3, h4⟩
  · rcases ht with ⟨g1, g2⟩ | ⟨g1, _⟩
    · exact ztext_uniq h2 g2
    · exact absurd h1 g1
  · rcases ht with ⟨g1, g2⟩ | ⟨g1, p', q', g2, g3, g4⟩
    · exact absurd g1 h1
    · rw [h4, g4, ztext_uniq h2 g2, ztext_uniq h3 g3]
def RetRText (w : World) (r : Rat) (e : Ending) (w' : World) : Prop := ∃ s, e = .returned (.string s) ∧ RTextOf s r ∧ w.grownBy w' none
def fup (s : ByteArray) : ByteArray := if slx s < 0 then s else s.extract 0 (slx s).toNat
def fdown (s : ByteArray) : ByteArray := s.extract ((slx s).toNat + 1) s.size
def ncod (s : ByteArray) : Int := if decB (bts s) = true then 0 else 3
def nval (s : ByteArray) : Nat := if decB (bts s) = true then dval (bts s) else 0
def fcod (s : ByteArray) : Int := if zcod (fup s) ≠ 0 then zcod (fup s) else if slx s < 0 then 0 else if ncod (fdown s) ≠ 0 then ncod (fdown s) else if nval (fdown s) = 0 then 5 else 0
def fval (s : ByteArray) : Rat := if fcod s = 0 then (if slx s < 0 then (zval (fup s) : Rat) else Rat.divInt (zval (fup s)) (nval (fdown s) : Int)) else 0
theorem ncod_or (s : ByteArray) : ncod s = 0 ∨ ncod s = 3 := by unfold ncod; split <;> simp
theorem zcod_or {s : ByteArray} (h : s.size ≤ 4000) : zcod s = 0 ∨ zcod s = 3 := by
  have h1 : (zdig (bts s)).length ≤ 4096 := by
    unfold zdig
    split
    · rw [List.length_tail, bts_len]; omega
    · rw [bts_len]; omega
  unfold zcod
  rw [if_neg (by omega)]
  split
  · right; rfl
  · left; rw [if_neg (by omega)]
theorem fup_size (s : ByteArray) : (fup s).size ≤ s.size := by
  unfold fup
  split
  · exact Nat.le_refl _
  · rw [ByteArray.size_extract]; omega
theorem fdown_size (s : ByteArray) : (fdown s).size ≤ s.size := by
  unfold fdown
  rw [ByteArray.size_extract]; omega
theorem nval_bd (s : ByteArray) {n k : Nat} (h : s.size ≤ n) (hk : n ≤ 19 * k) : nval s < B ^ k := by
  unfold nval
  split
  · next hd => exact dval_bdE ((dec_iff _).1 hd) (by rw [bts_len]; omega)
  · exact Nat.pow_pos B_pos
theorem fval_nb (s : ByteArray) {n k : Nat} (h : s.size ≤ n) (hk : n ≤ 19 * k) : (fval s).num.natAbs < B ^ k := by
  have h1 := zval_bd (fup s) (Nat.le_trans (fup_size s) h) hk
  unfold fval
  split
  · split
    · exact h1
    · exact rdiv_nb h1
  · exact Nat.pow_pos B_pos
theorem fval_db (s : ByteArray) {n k : Nat} (h : s.size ≤ n) (hk : n ≤ 19 * k) (k1 : 1 ≤ k) : (fval s).den < B ^ k := by
  have h1 := nval_bd (fdown s) (Nat.le_trans (fdown_size s) h) hk
  have h3 : 1 < B ^ k := Nat.lt_of_lt_of_le (show 1 < B ^ 1 by unfold B; omega) (Nat.pow_le_pow_right B_pos k1)
  unfold fval
  split
  · next hc =>
    split
    · exact h3
    · next hs =>
      refine rdiv_db (by rw [Int.natAbs_natCast]; exact h1) ?_
      intro e
      unfold fcod at hc
      split at hc
      · next hz => exact hz hc
      · try rw [if_neg hs] at hc
        split at hc
        · next hn => exact hn hc
        · rw [if_pos (by omega)] at hc; omega
  · exact h3
end Go.Proofs.YthbhgcaemcobeaaGreatDoor
namespace Go.Proofs.YthbhgcaemcobeaaGreatDoor
open Go.RowKit Mat Ex
set_option linter.unusedVariables false
set_option linter.unusedSimpArgs false
theorem add_told {P : Program} {ρ : Operand → Value} {o : Oper} {t t' : TypeId} {x y : Operand} {s u : ByteArray} {W : World} (ho : o.op = .binOp .add t x y t') (hx : ρ x = .string s) (hy : ρ y = .string u) (h : s.size + u.size ≤ 9223372036854775807) :
    (execOp ρ o).run P W = .ok (.value (.string (s ++ u))) W := by
  have hg : eqGuard .add t x y (.string s) (.string u) = pure () := by unfold eqGuard; rfl
  have hb : binOp .add t (.string s) (.string u) = Op.stringOp .add s u := by simp [binOp]
  simp only [execOp, ho, hx, hy, hg, hb, Sem.run_bind, Sem.run_pure, Result.andThen_ok, run_string_add_sum W s u h]
theorem FText_any (w : World) (va : Value) (r : Rat) (K : Nat) (Ha : RatV w va r) (hK : K ≤ 800000) (ln : r.num.natAbs < B ^ K) (ld : r.den < B ^ K) :
    Calls Tryz.prog 19 #[va] w (RetRText w r) := by
  by_cases h1 : r.den = 1
  · skip
    refine exec_calls mixed Tryz.func19 [sQ r] [sV (.bool true), sT (fun s => ZTextOf s r.num)] (.cons Ha .nil) (rs := [cl 1 51 [ag 4 0], cl 2 52 [ag 2 0]]) (out := on 2) (nc := 3) (by kernel_rfl)
        ⟨fun σ W g h hb => toV (FWhole_any W _ r K (h 0 rfl) (by omega) ld) (by rw [decide_eq_true h1]),
        fun σ W g h hb => toT (NZText_any W _ r.num K (qn (h 0 rfl)) (by omega) ln),
        trivial⟩ fun τ W g h => by
          obtain ⟨s, e, hs⟩ := h 2 rfl
          exact ⟨s, congrArg Ending.returned e, Or.inl ⟨h1, hs⟩, g⟩
  · skip
    refine exec_calls mixed Tryz.func19 [sQ r] [sV (.bool false), sT (fun s => ZTextOf s r.num), sT (fun s => ∃ p, ZTextOf p r.num ∧ s = p ++ { data := #[47] }), sT (fun s => ZTextOf s (r.den : Int)), sT (fun s => RTextOf s r)] (.cons Ha .nil) (rs := [cl 1 51 [ag 4 0], cl 2 52 [ag 2 0], co 3 (.binOp .add 9 (.tmp 10) (.const (.string ({ data := #[47] }))) 9) 9 [on 2, .v false [.lit (.string ({ data := #[47] }))]] [0, 1, 2] [], cla 4 52 [.v true [.an 0 2, .an 0 3]] [0, 1, 2], co 5 (.binOp .add 9 (.tmp 11) (.tmp 14) 9) 9 [on 3, on 4] [0, 1, 2, 3, 4] []]) (out := on 5) (nc := 6) (by kernel_rfl)
        ⟨fun σ W g h hb => toV (FWhole_any W _ r K (h 0 rfl) (by omega) ld) (by rw [decide_eq_false h1]),
        fun σ W g h hb => toT (NZText_any W _ r.num K (qn (h 0 rfl)) (by omega) ln),
        fun σ W g h hb => fun ρ o ho _ hv => by
          obtain ⟨s, es, hs⟩ := h 2 rfl
          have hl := ztext_len hs ln
          exact ⟨_, add_told ho ((two_vals hv).1.trans es) (two_vals hv).2 (by have : ByteArray.size { data := #[47] } = 1 := rfl; omega), _, rfl, s, hs, rfl⟩,
        fun σ W g h hb => toT (NZText_any W _ (r.den : Int) K (dn_more h1 ▸ qd (h 0 rfl)) (by omega) (ldi ld)),
        fun σ W g h hb => fun ρ o ho _ hv => by
          obtain ⟨s, es, p, hp, rfl⟩ := h 3 rfl
          obtain ⟨t, et, ht⟩ := h 4 rfl
          have hl := ztext_len hp ln
          have hm := ztext_len ht (ldi ld)
          have h47 : ByteArray.size { data := #[47] } = 1 := rfl
          exact ⟨_, add_told ho ((two_vals hv).1.trans es) ((two_vals hv).2.trans et) (by rw [ByteArray.size_append]; omega), _, rfl, Or.inr ⟨h1, p, t, hp, ht, rfl⟩⟩,
        trivial⟩ fun τ W g h => by
          obtain ⟨s, e, hs⟩ := h 5 rfl
          exact ⟨s, congrArg Ending.returned e, hs, g⟩
end Go.Proofs.YthbhgcaemcobeaaGreatDoor
namespace Go.Proofs.YthbhgcaemcobeaaGreatDoor
open Go.RowKit Mat Ex
set_option linter.unusedVariables false
set_option linter.unusedSimpArgs false
theorem FDiv_any (w : World) (va vb : Value) (r t : Rat) (K : Nat) (Ha : RatV w va r) (Hb : RatV w vb t) (hK : K ≤ 300000) (ln : r.num.natAbs < B ^ K) (ld : r.den < B ^ K) (mn : t.num.natAbs < B ^ K) (md : t.den < B ^ K) (hTab : Tab w) :
    Calls Tryz.prog 68 #[va, vb] w (RetRatE w (r / t) (if t = 0 then 5 else 0)) := by
  rcases zsign t.num with ⟨h0, hs⟩ | ⟨h0, hs⟩ | ⟨h0, hs⟩
  · skip
    have ht : t ≠ 0 := fun e => by rw [e] at h0; simp at h0
    rw [if_neg ht, Rat.div_def]
    have hp := rinv_neg t h0
    have n1 : (t⁻¹).num.natAbs < B ^ K := by rw [hp.1, Int.natAbs_neg, Int.natAbs_natCast]; exact md
    have n2 : (t⁻¹).den < B ^ K := by have h := congrArg Int.natAbs hp.2; rw [Int.natAbs_natCast, Int.natAbs_neg] at h; omega
    refine exec_calls mixed Tryz.func68 [sQ r, sQ t] [sI (t.den : Int), sV (.int .i64 (-1)), sI (-(t.den : Int)), sI (-t.num), sI (r.den : Int), sQ (r * t⁻¹)] (.cons Ha (.cons Hb .nil)) (rs := [cl 2 77 [ag 4 1], cl 3 58 [ag 4 1], cl 4 79 [ag 2 2], cl 5 79 [ag 2 1], cl 6 77 [ag 4 0], cl 7 81 [ag 2 0, ag 2 6, ag 2 4, ag 2 5]]) (out := .tup [(true, [.an 7 0, .an 7 1, .an 7 2, .an 7 3]), (false, [.lit (.int .i64 0)])]) (nc := 8) (by kernel_rfl)
        ⟨fun σ W g h hb => FUnder_any W _ t K (h 1 rfl) (by omega) md,
        fun σ W g h hb => toV (FSign_any W _ t K (h 1 rfl) (by omega) mn) (by rw [hs]),
        fun σ W g h hb => ZNeg_any W _ _ K (h 2 rfl) (by omega) (ldi md),
        fun σ W g h hb => ZNeg_any W _ _ K (qn (h 1 rfl)) (by omega) mn,
        fun σ W g h hb => FUnder_any W _ r K (h 0 rfl) (by omega) ld,
        fun σ W g h hb => FProduct_any W _ _ _ _ r t⁻¹ K (qn (h 0 rfl)) (h 6 rfl) (hp.1 ▸ h 4 rfl) (hp.2 ▸ h 5 rfl) hK ln ld n1 n2 (hTab.kept g (by simp)),
        trivial⟩ fun τ W g h => ⟨_, rfl, h 7 rfl, g⟩
  · skip
    have ht : t = 0 := Rat.num_eq_zero.1 h0
    rw [if_pos ht, ht, Rat.div_def, Rat.inv_zero, Rat.mul_zero]
    refine exec_calls mixed Tryz.func68 [sQ r, sQ t] [sI (t.den : Int), sV (.int .i64 0)] (.cons Ha (.cons Hb .nil)) (rs := [cl 2 77 [ag 4 1], cl 3 58 [ag 4 1]]) (out := .tup [(true, [.lit (.slice none 0 0), .lit (.bool false), .lit (.slice none 0 0), .lit (.bool false)]), (false, [.lit (.int .i64 5)])]) (nc := 4) (by kernel_rfl)
        ⟨fun σ W g h hb => FUnder_any W _ t K (h 1 rfl) (by omega) md,
        fun σ W g h hb => toV (FSign_any W _ t K (h 1 rfl) (by omega) mn) (by rw [hs]),
        trivial⟩ fun τ W g h => ⟨_, rfl, RatV.zero W, g⟩
  · skip
    have ht : t ≠ 0 := fun e => by rw [e] at h0; simp at h0
    rw [if_neg ht, Rat.div_def]
    have hp := rinv_pos t h0
    have n1 : (t⁻¹).num.natAbs < B ^ K := by rw [hp.1, Int.natAbs_natCast]; exact md
    have n2 : (t⁻¹).den < B ^ K := by have h := congrArg Int.natAbs hp.2; rw [Int.natAbs_natCast] at h; omega
    refine exec_calls mixed Tryz.func68 [sQ r, sQ t] [sI (t.den : Int), sV (.int .i64 1), sI (r.den : Int), sQ (r * t⁻¹)] (.cons Ha (.cons Hb .nil)) (rs := [cl 2 77 [ag 4 1], cl 3 58 [ag 4 1], cl 4 77 [ag 4 0], cl 5 81 [ag 2 0, ag 2 4, ag 2 2, ag 2 1]]) (out := .tup [(true, [.an 5 0, .an 5 1, .an 5 2, .an 5 3]), (false, [.lit (.int .i64 0)])]) (nc := 6) (by kernel_rfl)
        ⟨fun σ W g h hb => FUnder_any W _ t K (h 1 rfl) (by omega) md,
        fun σ W g h hb => toV (FSign_any W _ t K (h 1 rfl) (by omega) mn) (by rw [hs]),
        fun σ W g h hb => FUnder_any W _ r K (h 0 rfl) (by omega) ld,
        fun σ W g h hb => FProduct_any W _ _ _ _ r t⁻¹ K (qn (h 0 rfl)) (h 4 rfl) (hp.1 ▸ h 2 rfl) (hp.2 ▸ qn (h 1 rfl)) hK ln ld n1 n2 (hTab.kept g (by simp)),
        trivial⟩ fun τ W g h => ⟨_, rfl, h 5 rfl, g⟩
end Go.Proofs.YthbhgcaemcobeaaGreatDoor
namespace Go.Proofs.YthbhgcaemcobeaaGreatDoor
open Go.RowKit Mat Ex PM
set_option linter.unusedVariables false
set_option linter.unusedSimpArgs false
def Bn (K : Nat) (r : Rat) : Prop := r.num.natAbs < B ^ K ∧ r.den < B ^ K
theorem bwd {a K M : Nat} (h : a < B ^ K) (hK : K ≤ M) : a < B ^ M := Nat.lt_of_lt_of_le h (Nat.pow_le_pow_right B_pos hK)
theorem Bn.mono {K M : Nat} {r : Rat} (h : Bn K r) (hK : K ≤ M) : Bn M r := ⟨bwd h.1 hK, bwd h.2 hK⟩
theorem Bn.neg {K : Nat} {r : Rat} (h : Bn K r) : Bn K (-r) := ⟨by rw [Rat.neg_num, Int.natAbs_neg]; exact h.1, by rw [Rat.neg_den]; exact h.2⟩
theorem Bn.add {K : Nat} {r t : Rat} (h : Bn K r) (h' : Bn K t) : Bn (K + K + 1) (r + t) := by
  constructor
  · rw [Rat.num_add]
    exact Nat.lt_of_le_of_lt (Int.natAbs_ediv_le_natAbs _ _) (fadd_bd (fmul_bd h.1 (ldi h'.2)) (fmul_bd h'.1 (ldi h.2)))
  · rw [Rat.den_add]
    refine Nat.lt_of_le_of_lt (Nat.div_le_self _ _) (bwd (K := K + K) ?_ (by omega))
    rw [Nat.pow_add]; exact Nat.mul_lt_mul'' h.2 h'.2
theorem Bn.sub {K : Nat} {r t : Rat} (h : Bn K r) (h' : Bn K t) : Bn (K + K + 1) (r - t) := by rw [Rat.sub_eq_add_neg]; exact h.add h'.neg
theorem Bn.mul {K : Nat} {r t : Rat} (h : Bn K r) (h' : Bn K t) : Bn (K + K) (r * t) := by
  constructor
  · rw [rmul_num, Int.natAbs_mul, Nat.pow_add]
    exact Nat.mul_lt_mul'' (Nat.lt_of_le_of_lt (Int.natAbs_ediv_le_natAbs _ _) h.1) (Nat.lt_of_le_of_lt (Int.natAbs_ediv_le_natAbs _ _) h'.1)
  · rw [rmul_den, Nat.pow_add]
    exact Nat.mul_lt_mul'' (Nat.lt_of_le_of_lt (Nat.div_le_self _ _) h.2) (Nat.lt_of_le_of_lt (Nat.div_le_self _ _) h'.2)
theorem Bn.inv {K : Nat} {r : Rat} (h : Bn K r) (hK : 1 ≤ K) : Bn K r⁻¹ := by
  rcases zsign r.num with ⟨h0, _⟩ | ⟨h0, _⟩ | ⟨h0, _⟩
  · have e := rinv_neg r h0
    exact ⟨by rw [e.1, Int.natAbs_neg, Int.natAbs_natCast]; exact h.2, by have e2 := congrArg Int.natAbs e.2; rw [Int.natAbs_natCast, Int.natAbs_neg] at e2; rw [e2]; exact h.1⟩
  · have : r = 0 := Rat.num_eq_zero.1 h0
    rw [this, Rat.inv_zero]
    exact ⟨Nat.pow_pos B_pos, Nat.one_lt_pow (by omega) (by unfold B; omega)⟩
  · have e := rinv_pos r h0
    exact ⟨by rw [e.1, Int.natAbs_natCast]; exact h.2, by have e2 := congrArg Int.natAbs e.2; rw [Int.natAbs_natCast] at e2; rw [e2]; exact h.1⟩
theorem Bn.div {K : Nat} {r t : Rat} (h : Bn K r) (h' : Bn K t) (hK : 1 ≤ K) : Bn (K + K) (r / t) := by rw [Rat.div_def]; exact h.mul (h'.inv hK)
theorem Bn.zero {K : Nat} (hK : 1 ≤ K) : Bn K (0 : Rat) := ⟨Nat.pow_pos B_pos, Nat.one_lt_pow (by omega) (by unfold B; omega)⟩
def Bp (K : Nat) (p : Pq) : Prop := Bn K p.1 ∧ Bn K p.2
theorem Bp.mono {K M : Nat} {p : Pq} (h : Bp K p) (hK : K ≤ M) : Bp M p := ⟨h.1.mono hK, h.2.mono hK⟩
theorem Bp.cross {K : Nat} {a b c : Pq} (ha : Bp K a) (hb : Bp K b) (hc : Bp K c) : Bn (8 * K + 5) (pcross a b c) := by
  unfold pcross
  exact (((hb.1.sub ha.1).mul (hc.2.sub ha.2)).sub ((hb.2.sub ha.2).mul (hc.1.sub ha.1))).mono (by omega)
theorem Bp.dot {K : Nat} {a b c : Pq} (ha : Bp K a) (hb : Bp K b) (hc : Bp K c) : Bn (8 * K + 5) (pdot a b c) := by
  unfold pdot
  exact (((hb.1.sub ha.1).mul (hc.1.sub ha.1)).add ((hb.2.sub ha.2).mul (hc.2.sub ha.2))).mono (by omega)
theorem Bp.onl {K M : Nat} {a b : Pq} {t : Rat} (ha : Bp K a) (hb : Bp K b) (ht : Bn M t) (hK : 2 * K + 1 ≤ M) : Bp (4 * M + 1) (pat a b t) :=
  ⟨((ha.1.mono (by omega)).add (((hb.1.sub ha.1).mono (by omega)).mul ht)).mono (by omega), ((ha.2.mono (by omega)).add (((hb.2.sub ha.2).mono (by omega)).mul ht)).mono (by omega)⟩
theorem Bp.cut {K : Nat} {a b c d : Pq} (ha : Bp K a) (hb : Bp K b) (hc : Bp K c) (hd : Bp K d) : Bp (128 * K + 100) (pat a b (pcross c d a / (pcross c d a - pcross c d b))) :=
  by
  have h1 : Bn (16 * K + 11) (pcross c d a) := (hc.cross hd ha).mono (by omega)
  have h2 : Bn (16 * K + 11) (pcross c d a - pcross c d b) := ((hc.cross hd ha).sub (hc.cross hd hb)).mono (by omega)
  have h3 : Bn (32 * K + 22) (pcross c d a / (pcross c d a - pcross c d b)) := (h1.div h2 (by omega)).mono (by omega)
  exact (Bp.onl ha hb h3 (by omega)).mono (by omega)
/-! ### Points -/
def PtV (w : World) (v : Value) (p : Pq) : Prop := ∃ a b c d e f g h : Value, v = .agg #[a, b, c, d, e, f, g, h] ∧ RatV w (.agg #[a, b, c, d]) p.1 ∧ RatV w (.agg #[e, f, g, h]) p.2
theorem PtV.kept {w w' : World} {v : Value} {p : Pq} (h : PtV w v p) (hg : w.grownBy w' none) : PtV w' v p := by
  obtain ⟨a, b, c, d, e, f, g, i, e1, h1, h2⟩ := h
  exact ⟨a, b, c, d, e, f, g, i, e1, h1.kept hg, h2.kept hg⟩
theorem PtV.keeps {W W' : World} {v : Value} {p : Pq} (h : PtV W v p) (k : Keeps limbT W W') : PtV W' v p := by
  obtain ⟨a, b, c, d, e, f, g, i, e1, h1, h2⟩ := h
  exact ⟨a, b, c, d, e, f, g, i, e1, h1.keeps k, h2.keeps k⟩
theorem RatV.one {w : World} {a b c d : Value} {r : Rat} (h : RatV w (.agg #[a, b, c, d]) r) : a.oneCell' = true ∧ b.oneCell' = true ∧ c.oneCell' = true ∧ d.oneCell' = true := by
  obtain ⟨s, xs, f, s', xs', f', e, _⟩ := h
  cases e; exact ⟨rfl, rfl, rfl, rfl⟩
theorem PtV.one {w : World} {a b c d e f g h : Value} {p : Pq} (hp : PtV w (.agg #[a, b, c, d, e, f, g, h]) p) : ∀ x ∈ [a, b, c, d, e, f, g, h], x.oneCell' = true := by
  obtain ⟨a', b', c', d', e', f', g', h', q, h1, h2⟩ := hp
  cases q
  obtain ⟨i1, i2, i3, i4⟩ := h1.one
  obtain ⟨i5, i6, i7, i8⟩ := h2.one
  simp [i1, i2, i3, i4, i5, i6, i7, i8]
def sPt (p : Pq) : Sp := .of (.agg 8) (fun v W => PtV W v p) (fun v W h => by
  have h0 := h
  obtain ⟨a, b, c, d, e, f, g, i, rfl, h1, h2⟩ := h
  exact ⟨cellf [a, b, c, d, e, f, g, i], cellf_one h0.one, rfl⟩) (fun v W W' k h => h.keeps k)
theorem pt1 {W : World} {a b c d e f g h : Value} {p : Pq} : PtV W (.agg #[a, b, c, d, e, f, g, h]) p → RatV W (.agg #[a, b, c, d]) p.1 := by
  rintro ⟨a', b', c', d', e', f', g', h', q, h1, h2⟩; cases q; exact h1
theorem pt2 {W : World} {a b c d e f g h : Value} {p : Pq} : PtV W (.agg #[a, b, c, d, e, f, g, h]) p → RatV W (.agg #[e, f, g, h]) p.2 := by
  rintro ⟨a', b', c', d', e', f', g', h', q, h1, h2⟩; cases q; exact h2
theorem mkpt {W : World} {a b c d e f g h : Value} {p : Pq} (h1 : RatV W (.agg #[a, b, c, d]) p.1) (h2 : RatV W (.agg #[e, f, g, h]) p.2) : PtV W (.agg #[a, b, c, d, e, f, g, h]) p := ⟨a, b, c, d, e, f, g, h, rfl, h1, h2⟩
def RetPt (w : World) (p : Pq) (e : Ending) (w' : World) : Prop := ∃ v, e = .returned v ∧ PtV w' v p ∧ w.grownBy w' none
theorem PtV.nil (w : World) : PtV w (.agg #[.slice none 0 0, .bool false, .slice none 0 0, .bool false, .slice none 0 0, .bool false, .slice none 0 0, .bool false]) (0, 0) := mkpt (RatV.zero w) (RatV.zero w)
/-! ### Segments -/
def SgV (w : World) (v : Value) (p q : Pq) : Prop := ∃ a b c d e f g h a' b' c' d' e' f' g' h' : Value, v = .agg #[a, b, c, d, e, f, g, h, a', b', c', d', e', f', g', h'] ∧ PtV w (.agg #[a, b, c, d, e, f, g, h]) p ∧ PtV w (.agg #[a', b', c', d', e', f', g', h']) q
theorem SgV.keeps {W W' : World} {v : Value} {p q : Pq} (h : SgV W v p q) (k : Keeps limbT W W') : SgV W' v p q := by
  obtain ⟨a, b, c, d, e, f, g, i, a', b', c', d', e', f', g', i', e1, h1, h2⟩ := h
  exact ⟨a, b, c, d, e, f, g, i, a', b', c', d', e', f', g', i', e1, h1.keeps k, h2.keeps k⟩
theorem SgV.kept {w w' : World} {v : Value} {p q : Pq} (h : SgV w v p q) (hg : w.grownBy w' none) : SgV w' v p q := by
  obtain ⟨a, b, c, d, e, f, g, i, a', b', c', d', e', f', g', i', e1, h1, h2⟩ := h
  exact ⟨a, b, c, d, e, f, g, i, a', b', c', d', e', f', g', i', e1, h1.kept hg, h2.kept hg⟩
def sSg (p q : Pq) : Sp := .of (.agg 16) (fun v W => SgV W v p q) (fun v W h => by
  obtain ⟨a, b, c, d, e, f, g, i, a', b', c', d', e', f', g', i', rfl, h1, h2⟩ := h
  refine ⟨cellf [a, b, c, d, e, f, g, i, a', b', c', d', e', f', g', i'], cellf_one (fun x hx => ?_), rfl⟩
  rcases List.mem_append.1 (show x ∈ [a, b, c, d, e, f, g, i] ++ [a', b', c', d', e', f', g', i'] from hx) with hx | hx
  · exact h1.one x hx
  · exact h2.one x hx) (fun v W W' k h => h.keeps k)
theorem sg1 {W : World} {a b c d e f g h a' b' c' d' e' f' g' h' : Value} {p q : Pq} : SgV W (.agg #[a, b, c, d, e, f, g, h, a', b', c', d', e', f', g', h']) p q → PtV W (.agg #[a, b, c, d, e, f, g, h]) p := by
  rintro ⟨_, _, _, _, _, _, _, _, _, _, _, _, _, _, _, _, e, h1, h2⟩; cases e; exact h1
theorem sg2 {W : World} {a b c d e f g h a' b' c' d' e' f' g' h' : Value} {p q : Pq} : SgV W (.agg #[a, b, c, d, e, f, g, h, a', b', c', d', e', f', g', h']) p q → PtV W (.agg #[a', b', c', d', e', f', g', h']) q := by
  rintro ⟨_, _, _, _, _, _, _, _, _, _, _, _, _, _, _, _, e, h1, h2⟩; cases e; exact h2
theorem mksg {W : World} {a b c d e f g h a' b' c' d' e' f' g' h' : Value} {p q : Pq} (h1 : PtV W (.agg #[a, b, c, d, e, f, g, h]) p) (h2 : PtV W (.agg #[a', b', c', d', e', f', g', h']) q) : SgV W (.agg #[a, b, c, d, e, f, g, h, a', b', c', d', e', f', g', h']) p q :=
  ⟨_, _, _, _, _, _, _, _, _, _, _, _, _, _, _, _, rfl, h1, h2⟩
/-! ### Two of a kind -/
def sPP (p q : Pq) : Sp := .of (.tup [(none, 9), (none, 9)]) (fun v W => ∃ u t, v = .tuple #[u, t] ∧ PtV W u p ∧ PtV W t q) (fun v W h => by
  obtain ⟨u, t, rfl, h1, h2⟩ := h
  have i1 := h1; have i2 := h2
  obtain ⟨a, b, c, d, e, f, g, i, rfl, _⟩ := h1
  obtain ⟨a', b', c', d', e', f', g', i', rfl, _⟩ := h2
  refine fits2 (u := .bool true) (cs := [a, b, c, d, e, f, g, i, a', b', c', d', e', f', g', i']) (fun x hx => ?_) rfl
  rcases List.mem_append.1 (show x ∈ [a, b, c, d, e, f, g, i] ++ [a', b', c', d', e', f', g', i'] from hx) with hx | hx
  · exact i1.one x hx
  · exact i2.one x hx) (fun v W W' k h => by obtain ⟨u, t, e, h, h'⟩ := h; exact ⟨u, t, e, h.keeps k, h'.keeps k⟩)
theorem pp1 {p q : Pq} {a b : Value} {W : World} : (sPP p q).F (.tuple #[a, b]) W → PtV W a p := by rintro ⟨u, t, e, h, _⟩; cases e; exact h
theorem pp2 {p q : Pq} {a b : Value} {W : World} : (sPP p q).F (.tuple #[a, b]) W → PtV W b q := by rintro ⟨u, t, e, _, h⟩; cases e; exact h
def RetPP (w : World) (p q : Pq) (e : Ending) (w' : World) : Prop := ∃ v u, e = .returned (.tuple #[v, u]) ∧ PtV w' v p ∧ PtV w' u q ∧ w.grownBy w' none
def sQQ (r t : Rat) : Sp := .of (.tup [(none, 5), (none, 5)]) (fun v W => ∃ u s, v = .tuple #[u, s] ∧ RatV W u r ∧ RatV W s t) (fun v W h => by
  obtain ⟨u, t, rfl, ⟨s, xs, b, s', xs', b', rfl, _⟩, z, ys, c, z', ys', c', rfl, _⟩ := h
  exact fits2 (u := .bool true) (cs := [.slice s xs.length xs.length, .bool b, .slice s' xs'.length xs'.length, .bool b', .slice z ys.length ys.length, .bool c, .slice z' ys'.length ys'.length, .bool c']) (by simp [Value.oneCell']) rfl) (fun v W W' k h => by obtain ⟨u, t, e, h, h'⟩ := h; exact ⟨u, t, e, h.keeps k, h'.keeps k⟩)
theorem qq1 {r t : Rat} {a b : Value} {W : World} : (sQQ r t).F (.tuple #[a, b]) W → RatV W a r := by rintro ⟨u, s, e, h, _⟩; cases e; exact h
theorem qq2 {r t : Rat} {a b : Value} {W : World} : (sQQ r t).F (.tuple #[a, b]) W → RatV W b t := by rintro ⟨u, s, e, _, h⟩; cases e; exact h
def RetQQ (w : World) (r t : Rat) (e : Ending) (w' : World) : Prop := ∃ v u, e = .returned (.tuple #[v, u]) ∧ RatV w' v r ∧ RatV w' u t ∧ w.grownBy w' none
section
variable {P : Program} {f : FuncId} {args : Array Value} {W : World}
theorem toPP {p q : Pq} (h : Calls P f args W (RetPP W p q)) : Calls P f args W (Ret W (sPP p q).F) := h.mono fun _ _ ⟨v, u, a, h, h', g⟩ => ⟨_, a, ⟨v, u, rfl, h, h'⟩, g⟩
theorem toQQ {r t : Rat} (h : Calls P f args W (RetQQ W r t)) : Calls P f args W (Ret W (sQQ r t).F) := h.mono fun _ _ ⟨v, u, a, h, h', g⟩ => ⟨_, a, ⟨v, u, rfl, h, h'⟩, g⟩
end
/-! ### Rows of points -/
def PAt (w : World) (cs : Array Value) (o : Nat) (p : Pq) : Prop := ∃ a b c d e f g h : Value, cs[o]? = some a ∧ cs[o + 1]? = some b ∧ cs[o + 2]? = some c ∧ cs[o + 3]? = some d ∧ cs[o + 4]? = some e ∧ cs[o + 5]? = some f ∧ cs[o + 6]? = some g ∧ cs[o + 7]? = some h ∧ PtV w (.agg #[a, b, c, d, e, f, g, h]) p
def PtsV (w : World) (v : Value) (l : List Pq) : Prop := ∃ s n c, v = .slice s n c ∧ l.length = n ∧ n ≤ c ∧ (l = [] ∨ ∃ b off cs, s = some ⟨b, off, none⟩ ∧ w.heap[b]? = some (.cells cs 34 (0, 0)) ∧ ∀ i (h : i < l.length), PAt w cs (off + 8 * i) l[i])
def fpS (v : Value) (q : Nat) : Prop := ∃ off n c, v = .slice (some ⟨q, off, none⟩) (n + 1) c
def fpP (v : Value) (q : Nat) : Prop := ∃ off, v = .pointer (some ⟨q, off, none⟩)
theorem PAt.keeps {W W' : World} {cs : Array Value} {o : Nat} {p : Pq} (h : PAt W cs o p) (k : Keeps limbT W W') : PAt W' cs o p := by
  obtain ⟨a, b, c, d, e, f, g, i, h1, h2, h3, h4, h5, h6, h7, h8, h9⟩ := h
  exact ⟨a, b, c, d, e, f, g, i, h1, h2, h3, h4, h5, h6, h7, h8, h9.keeps k⟩
theorem PtsV.keeps {W W' : World} {v : Value} {l : List Pq} (h : PtsV W v l) (k : Keeps limbT W W') (hq : ∀ q, fpS v q → W'.heap[q]? = W.heap[q]?) : PtsV W' v l := by
  obtain ⟨s, n, c, rfl, hl, hn, h⟩ := h
  refine ⟨s, n, c, rfl, hl, hn, ?_⟩
  by_cases h0 : l = []
  · exact .inl h0
  · obtain ⟨b, off, cs, rfl, hb, hc⟩ := h.resolve_left h0
    obtain ⟨m, rfl⟩ : ∃ m, n = m + 1 := ⟨n - 1, by have := List.length_pos_iff.2 h0; omega⟩
    exact .inr ⟨b, off, cs, rfl, by rw [hq b ⟨off, m, c, rfl⟩]; exact hb, fun i hi => (hc i hi).keeps k⟩
theorem PtsV.inb {W : World} {v : Value} {l : List Pq} (h : PtsV W v l) (q : Nat) (hq : fpS v q) : q < W.heap.size := by
  obtain ⟨s, n, c, rfl, hl, hn, h⟩ := h
  obtain ⟨off, m, c', e⟩ := hq
  cases e
  rcases h with h | ⟨b, off', cs, e, hb, _⟩
  · rw [h] at hl; simp at hl
  · cases e; exact (Array.getElem?_eq_some_iff.1 hb).1
def sPts (s0 : Nat) (l : List Pq) : Sp where
  sh := .one
  F v W := PtsV W v l ∧ ∀ q, fpS v q → s0 ≤ q
  fits v W h := by obtain ⟨⟨s, n, c, rfl, _⟩, _⟩ := h; exact ⟨fun _ => .slice s n c, fun _ => rfl, rfl⟩
  row := true
  fp v _ q := fpS v q
  lasts v W W' k hq h := ⟨⟨h.1.keeps k hq, h.2⟩, fun _ h => h⟩
  inb v W h q hq := h.1.inb q hq
  flat h := by cases h
def AtV (w : World) (v : Value) (p : Pq) : Prop := ∃ b off cs, v = .pointer (some ⟨b, off, none⟩) ∧ w.heap[b]? = some (.cells cs 34 (0, 0)) ∧ PAt w cs off p
def sAt (p : Pq) : Sp where
  sh := .one
  F v W := AtV W v p
  fits v W h := by obtain ⟨b, off, cs, rfl, _⟩ := h; exact ⟨fun _ => .pointer (some ⟨b, off, none⟩), fun _ => rfl, rfl⟩
  row := true
  fp v _ q := fpP v q
  lasts v W W' k hq h := by
    obtain ⟨b, off, cs, rfl, hb, hc⟩ := h
    exact ⟨⟨b, off, cs, rfl, by rw [hq b ⟨off, rfl⟩]; exact hb, hc.keeps k⟩, fun _ h => h⟩
  inb v W h q hq := by
    obtain ⟨b, off, cs, rfl, hb, hc⟩ := h
    obtain ⟨o, e⟩ := hq
    cases e; exact (Array.getElem?_eq_some_iff.1 hb).1
  flat h := by cases h
def RetPts (w : World) (l : List Pq) (e : Ending) (w' : World) : Prop := ∃ v, e = .returned v ∧ PtsV w' v l ∧ w.grownBy w' none ∧ ∀ q, fpS v q → w.heap.size ≤ q
theorem toPts {P : Program} {f : FuncId} {args : Array Value} {W : World} {l : List Pq} {old : Nat → Prop} {s0 : Nat} (hs : s0 ≤ W.heap.size) (h : Calls P f args W (RetPts W l)) : Calls P f args W (RetS W (sPts s0 l) old) :=
  h.mono fun _ _ ⟨v, a, h, g, hq⟩ => ⟨v, a, ⟨h, fun q hf => Nat.le_trans hs (hq q hf)⟩, g, fun q hf => .inl (hq q hf)⟩
section
variable {P : Program} {ρ : Operand → Value} {o : Oper} {W : World}
theorem pts_len {t : TypeId} {x : Operand} {v : Value} {l : List Pq} (h : PtsV W v l) (ho : o.op = .call ⟨.builtin .len, #[x], #[t]⟩) (hx : ρ x = v) (hu : ∃ el, Tryz.prog.underlying t = some (.slice el)) :
    (execOp ρ o).run Tryz.prog W = .ok (.value (.int .i64 l.length)) W := by
  obtain ⟨s, n, c, rfl, hl, hn, h⟩ := h
  obtain ⟨el, hu⟩ := hu
  simp [execOp, ho, resolve, invoke, builtin, Builtin.len_, run_underlying hu W, hx, goInt, hl]
theorem pts_at {x y : Operand} {v : Value} {l : List Pq} (h : PtsV W v l) (ho : o.op = .indexAddr 66 x y) (hx : ρ x = v) (k : Nat) (hk : k < l.length) (hy : ρ y = .int .i64 k) :
    ∃ u, (execOp ρ o).run Tryz.prog W = .ok (.value u) W ∧ AtV W u l[k] ∧ ∀ q, fpP u q → fpS v q := by
  obtain ⟨s, n, c, rfl, hl, hn, h⟩ := h
  obtain ⟨b, off, cs, rfl, hb, hc⟩ := h.resolve_left (fun e => by rw [e] at hk; simp at hk)
  have hu : Tryz.prog.underlying 66 = some (.slice 34) := by kernel_rfl
  have hz : sizeT Tryz.prog 34 = some 8 := by kernel_rfl
  obtain ⟨m, rfl⟩ : ∃ m, n = m + 1 := ⟨n - 1, by omega⟩
  have hk' : (0 : Int) ≤ (k : Int) ∧ (k : Int) < ((m + 1 : Nat) : Int) := by omega
  refine ⟨.pointer (some ⟨b, off + 8 * k, none⟩), ?_, ⟨b, off + 8 * k, cs, rfl, hb, hc k hk⟩, fun q ⟨o', e⟩ => by cases e; exact ⟨off, m, c, rfl⟩⟩
  simp only [execOp, ho, hx, hy, Instr.indexAt, asIntOf, Sem.run_bind, Sem.run_pure, run_underlying hu W, Result.andThen_ok, hk', and_self, if_true, sizeT_run Tryz.prog hz W, Instr.sureAddr, Addr.add_mid]
  rw [show (k : Int).toNat * 8 = 8 * k by omega]
theorem pts_load {x : Operand} {v : Value} {p : Pq} (h : AtV W v p) (ho : o.op = .load 34 x) (hx : ρ x = v) :
    ∃ u, (execOp ρ o).run Tryz.prog W = .ok (.value u) W ∧ PtV W u p := by
  obtain ⟨q, off, cs, rfl, hb, a, b, c, d, e, f, g, i, h1, h2, h3, h4, h5, h6, h7, h8, hp⟩ := h
  refine ⟨_, ?_, hp⟩
  have ha : aggT Tryz.prog 34 = some true := by kernel_rfl
  have hz : sizeT Tryz.prog 34 = some 8 := by kernel_rfl
  have hl : (loadCells ⟨q, off, none⟩ [a, b, c, d, e, f, g, i].length).run Tryz.prog W = .ok [a, b, c, d, e, f, g, i].toArray W :=
    run_loadCells_list (P := Tryz.prog) W ⟨q, off, none⟩ _ fun j v hv => by
      rw [Addr.add_mid]
      simp only [World.cell?, hb]
      match j, hv with
      | 0, hv => cases hv; simpa using h1
      | 1, hv => cases hv; simpa using h2
      | 2, hv => cases hv; simpa using h3
      | 3, hv => cases hv; simpa using h4
      | 4, hv => cases hv; simpa using h5
      | 5, hv => cases hv; simpa using h6
      | 6, hv => cases hv; simpa using h7
      | 7, hv => cases hv; simpa using h8
      | n + 8, hv => simp at hv
  simp only [execOp, ho, hx, Instr.loadAt, Instr.sureAddr, loadVar, Sem.run_bind, Sem.run_pure, Result.andThen_ok, aggT_run Tryz.prog ha W, sizeT_run Tryz.prog hz W, if_true]
  simp only [List.length_cons, List.length_nil] at hl
  rw [hl]; rfl
end
end Go.Proofs.YthbhgcaemcobeaaGreatDoor
namespace Go.Proofs.YthbhgcaemcobeaaGreatDoor
open Go.RowKit Mat Ex PM
set_option linter.unusedVariables false
set_option linter.unusedSimpArgs false
def One3 (a : Int) : Prop := a = -1 ∨ a = 0 ∨ a = 1
theorem mul3_told {t : TypeId} {a b : Int} (ha : One3 a) (hb : One3 b) : binOp .mul t (.int .i64 a) (.int .i64 b) = .pure (.int .i64 (a * b)) := by
  rcases ha with rfl | rfl | rfl <;> rcases hb with rfl | rfl | rfl <;> rfl
theorem gt_told {P : Program} {ρ : Operand → Value} {o : Oper} {t t' : TypeId} {x y : Operand} {a : Int} {W : World} (b : Bool) (ho : o.op = .binOp .gtr t x y t') (hx : ρ x = .int .i64 a) (hy : ρ y = .int .i64 0) (h : decide (0 < a) = b) : (execOp ρ o).run P W = .ok (.value (.bool b)) W :=
  bin_told ho hx hy (by rw [← h]; rfl)
theorem lt_told {P : Program} {ρ : Operand → Value} {o : Oper} {t t' : TypeId} {x y : Operand} {a : Int} {W : World} (b : Bool) (ho : o.op = .binOp .lss t x y t') (hx : ρ x = .int .i64 a) (hy : ρ y = .int .i64 0) (h : decide (a < 0) = b) : (execOp ρ o).run P W = .ok (.value (.bool b)) W :=
  bin_told ho hx hy (by rw [← h]; rfl)
theorem le_told {P : Program} {ρ : Operand → Value} {o : Oper} {t t' : TypeId} {x y : Operand} {a : Int} {W : World} (b : Bool) (ho : o.op = .binOp .leq t x y t') (hx : ρ x = .int .i64 a) (hy : ρ y = .int .i64 0) (h : decide (a ≤ 0) = b) : (execOp ρ o).run P W = .ok (.value (.bool b)) W :=
  bin_told ho hx hy (by rw [← h]; rfl)
theorem eq_told {P : Program} {ρ : Operand → Value} {o : Oper} {t t' : TypeId} {x y : Operand} {a c : Int} {W : World} (b : Bool) (ho : o.op = .binOp .eql t x y t') (hx : ρ x = .int .i64 a) (hy : ρ y = .int .i64 c) (h : decide (a = c) = b) : (execOp ρ o).run P W = .ok (.value (.bool b)) W :=
  bin_told ho hx hy (by rw [← h, show decide (a = c) = (a == c) from (Bool.beq_eq_decide_eq a c).symm]; rfl)
theorem ne_told {P : Program} {ρ : Operand → Value} {o : Oper} {t t' : TypeId} {x y : Operand} {a c : Int} {W : World} (b : Bool) (ho : o.op = .binOp .neq t x y t') (hx : ρ x = .int .i64 a) (hy : ρ y = .int .i64 c) (h : decide (a = c) = !b) : (execOp ρ o).run P W = .ok (.value (.bool b)) W :=
  bin_told ho hx hy (by rw [show b = !decide (a = c) by rw [h, Bool.not_not], show decide (a = c) = (a == c) from (Bool.beq_eq_decide_eq a c).symm]; rfl)
theorem b1int {n : Int} (h1 : -9223372036854775808 ≤ n) (h2 : n ≤ 9223372036854775807) : n.natAbs < B ^ 1 := by
  have : (18446744073709551616 : Nat) = B ^ 1 := by unfold B; decide
  omega
def sPI (x y : Int) : Sp := .of (.agg 2) (fun v _ => v = .agg #[.int .i64 x, .int .i64 y]) (fun v W h => ⟨cellf [.int .i64 x, .int .i64 y], cellf_one (by simp [Value.oneCell']), h⟩) (fun _ _ _ _ h => h)
theorem pi1 {x y : Int} {a b : Value} {W : World} : (sPI x y).F (.agg #[a, b]) W → a = .int .i64 x := fun h => by cases h; rfl
theorem pi2 {x y : Int} {a b : Value} {W : World} : (sPI x y).F (.agg #[a, b]) W → b = .int .i64 y := fun h => by cases h; rfl
def gridP (x y : Int) : Pq := ((x : Rat), (y : Rat))
theorem PWhole_any (w : World) (n : Int) (h1 : -9223372036854775808 ≤ n) (h2 : n ≤ 9223372036854775807) :
    Calls Tryz.prog 44 #[.int .i64 n] w (RetRat w (n : Rat)) := by
  refine exec_calls mixed Tryz.func44 [sZ n] [sI n, sQ (n : Rat)] (.cons rfl .nil) (rs := [cl 1 74 [on 0], cl 2 85 [ag 2 1]]) (out := ag 4 2) (nc := 3) (by kernel_rfl)
      ⟨fun σ W g h hb => arg1 (h 0 rfl) (ZOf_any W n h1 h2),
      fun σ W g h hb => FWholeOf_any W _ n 1 (h 1 rfl) (by omega) (b1int h1 h2),
      trivial⟩ fun τ W g h => ⟨_, rfl, h 2 rfl, g⟩
theorem PGrid_any (w : World) (x y : Int) (h1 : -9223372036854775808 ≤ x) (h2 : x ≤ 9223372036854775807) (h3 : -9223372036854775808 ≤ y) (h4 : y ≤ 9223372036854775807) :
    Calls Tryz.prog 14 #[.agg #[.int .i64 x, .int .i64 y]] w (RetPt w (gridP x y)) := by
  refine exec_calls mixed Tryz.func14 [sPI x y] [sQ (x : Rat), sQ (y : Rat)] (.cons rfl .nil) (rs := [cl 1 44 [on 0], cl 2 44 [.v false [.an 0 1]]]) (out := .v true [.an 1 0, .an 1 1, .an 1 2, .an 1 3, .an 2 0, .an 2 1, .an 2 2, .an 2 3]) (nc := 3) (by kernel_rfl)
      ⟨fun σ W g h hb => arg1 (pi1 (h 0 rfl)) (PWhole_any W x h1 h2),
      fun σ W g h hb => arg1 (pi2 (h 0 rfl)) (PWhole_any W y h3 h4),
      trivial⟩ fun τ W g h => ⟨_, rfl, mkpt (h 1 rfl) (h 2 rfl), g⟩
theorem PMinus_any (w : World) (va vb : Value) (p q : Pq) (K : Nat) (Ha : PtV w va p) (Hb : PtV w vb q) (hK : K ≤ 100000) (ba : Bp K p) (bb : Bp K q) (hTab : Tab w) :
    Calls Tryz.prog 50 #[va, vb] w (RetPt w (p.1 - q.1, p.2 - q.2)) := by
  refine exec_calls mixed Tryz.func50 [sPt p, sPt q] [sQ (p.1 - q.1), sQ (p.2 - q.2)] (.cons Ha (.cons Hb .nil)) (rs := [cl 2 38 [ag 4 0, ag 4 1], cl 3 38 [.v true [.an 0 4, .an 0 5, .an 0 6, .an 0 7], .v true [.an 1 4, .an 1 5, .an 1 6, .an 1 7]]]) (out := .v true [.an 2 0, .an 2 1, .an 2 2, .an 2 3, .an 3 0, .an 3 1, .an 3 2, .an 3 3]) (nc := 4) (by kernel_rfl)
      ⟨fun σ W g h hb => FSub_any W _ _ p.1 q.1 K (pt1 (h 0 rfl)) (pt1 (h 1 rfl)) (by omega) ba.1.1 ba.1.2 bb.1.1 bb.1.2 (hTab.kept g (by simp)),
      fun σ W g h hb => FSub_any W _ _ p.2 q.2 K (pt2 (h 0 rfl)) (pt2 (h 1 rfl)) (by omega) ba.2.1 ba.2.2 bb.2.1 bb.2.2 (hTab.kept g (by simp)),
      trivial⟩ fun τ W g h => ⟨_, rfl, mkpt (h 2 rfl) (h 3 rfl), g⟩
theorem PPlus_any (w : World) (va vb : Value) (p q : Pq) (K : Nat) (Ha : PtV w va p) (Hb : PtV w vb q) (hK : K ≤ 100000) (ba : Bp K p) (bb : Bp K q) (hTab : Tab w) :
    Calls Tryz.prog 97 #[va, vb] w (RetPt w (p.1 + q.1, p.2 + q.2)) := by
  refine exec_calls mixed Tryz.func97 [sPt p, sPt q] [sQ (p.1 + q.1), sQ (p.2 + q.2)] (.cons Ha (.cons Hb .nil)) (rs := [cl 2 37 [ag 4 0, ag 4 1], cl 3 37 [.v true [.an 0 4, .an 0 5, .an 0 6, .an 0 7], .v true [.an 1 4, .an 1 5, .an 1 6, .an 1 7]]]) (out := .v true [.an 2 0, .an 2 1, .an 2 2, .an 2 3, .an 3 0, .an 3 1, .an 3 2, .an 3 3]) (nc := 4) (by kernel_rfl)
      ⟨fun σ W g h hb => FAdd_any W _ _ p.1 q.1 K (pt1 (h 0 rfl)) (pt1 (h 1 rfl)) (by omega) ba.1.1 ba.1.2 bb.1.1 bb.1.2 (hTab.kept g (by simp)),
      fun σ W g h hb => FAdd_any W _ _ p.2 q.2 K (pt2 (h 0 rfl)) (pt2 (h 1 rfl)) (by omega) ba.2.1 ba.2.2 bb.2.1 bb.2.2 (hTab.kept g (by simp)),
      trivial⟩ fun τ W g h => ⟨_, rfl, mkpt (h 2 rfl) (h 3 rfl), g⟩
theorem PTimes_any (w : World) (va vb : Value) (p : Pq) (t : Rat) (K : Nat) (Ha : PtV w va p) (Hb : RatV w vb t) (hK : K ≤ 100000) (ba : Bp K p) (bb : Bn K t) (hTab : Tab w) :
    Calls Tryz.prog 98 #[va, vb] w (RetPt w (p.1 * t, p.2 * t)) := by
  refine exec_calls mixed Tryz.func98 [sPt p, sQ t] [sQ (p.1 * t), sQ (p.2 * t)] (.cons Ha (.cons Hb .nil)) (rs := [cl 2 39 [ag 4 0, ag 4 1], cl 3 39 [.v true [.an 0 4, .an 0 5, .an 0 6, .an 0 7], ag 4 1]]) (out := .v true [.an 2 0, .an 2 1, .an 2 2, .an 2 3, .an 3 0, .an 3 1, .an 3 2, .an 3 3]) (nc := 4) (by kernel_rfl)
      ⟨fun σ W g h hb => FMul_any W _ _ p.1 t K (pt1 (h 0 rfl)) (h 1 rfl) (by omega) ba.1.1 ba.1.2 bb.1 bb.2 (hTab.kept g (by simp)),
      fun σ W g h hb => FMul_any W _ _ p.2 t K (pt2 (h 0 rfl)) (h 1 rfl) (by omega) ba.2.1 ba.2.2 bb.1 bb.2 (hTab.kept g (by simp)),
      trivial⟩ fun τ W g h => ⟨_, rfl, mkpt (h 2 rfl) (h 3 rfl), g⟩
theorem add_nil (p : Pq) : ((p.1 + (0 : Rat), p.2 + (0 : Rat)) : Pq) = p := Prod.ext (Rat.add_zero _) (Rat.add_zero _)
theorem Bp.nil {K : Nat} (hK : 1 ≤ K) : Bp K ((0 : Rat), (0 : Rat)) := ⟨.zero hK, .zero hK⟩
theorem PFresh_any (w : World) (va : Value) (p : Pq) (K : Nat) (Ha : PtV w va p) (hK : 1 ≤ K ∧ K ≤ 100000) (ba : Bp K p) (hTab : Tab w) :
    Calls Tryz.prog 96 #[va] w (RetPt w p) := by
  refine exec_calls mixed Tryz.func96 [sPt p] [sPt p] (.cons Ha .nil) (rs := [cl 1 97 [ag 8 0, .v true [.lit (.slice none 0 0), .lit (.bool false), .lit (.slice none 0 0), .lit (.bool false), .lit (.slice none 0 0), .lit (.bool false), .lit (.slice none 0 0), .lit (.bool false)]]]) (out := ag 8 1) (nc := 2) (by kernel_rfl)
      ⟨fun σ W g h hb => add_nil p ▸ PPlus_any W _ _ p (0, 0) K (h 0 rfl) (PtV.nil W) hK.2 ba (.nil hK.1) (hTab.kept g (by simp)),
      trivial⟩ fun τ W g h => ⟨_, rfl, h 1 rfl, g⟩
theorem PXross_any (w : World) (va vb : Value) (p q : Pq) (K : Nat) (Ha : PtV w va p) (Hb : PtV w vb q) (hK : K ≤ 100000) (ba : Bp K p) (bb : Bp K q) (hTab : Tab w) :
    Calls Tryz.prog 49 #[va, vb] w (RetRat w (p.1 * q.2 - p.2 * q.1)) := by
  refine exec_calls mixed Tryz.func49 [sPt p, sPt q] [sQ (p.1 * q.2), sQ (p.2 * q.1), sQ (p.1 * q.2 - p.2 * q.1)] (.cons Ha (.cons Hb .nil)) (rs := [cl 2 39 [ag 4 0, .v true [.an 1 4, .an 1 5, .an 1 6, .an 1 7]], cl 3 39 [.v true [.an 0 4, .an 0 5, .an 0 6, .an 0 7], ag 4 1], cl 4 38 [ag 4 2, ag 4 3]]) (out := ag 4 4) (nc := 5) (by kernel_rfl)
      ⟨fun σ W g h hb => FMul_any W _ _ (p.1) (q.2) K (pt1 (h 0 rfl)) (pt2 (h 1 rfl)) (by omega) ba.1.1 ba.1.2 bb.2.1 bb.2.2 (hTab.kept g (by simp)),
      fun σ W g h hb => FMul_any W _ _ (p.2) (q.1) K (pt2 (h 0 rfl)) (pt1 (h 1 rfl)) (by omega) ba.2.1 ba.2.2 bb.1.1 bb.1.2 (hTab.kept g (by simp)),
      fun σ W g h hb => FSub_any W _ _ (p.1 * q.2) (p.2 * q.1) (K + K) (h 2 rfl) (h 3 rfl) (by omega) (ba.1.mul bb.2).1 (ba.1.mul bb.2).2 (ba.2.mul bb.1).1 (ba.2.mul bb.1).2 (hTab.kept g (by simp)),
      trivial⟩ fun τ W g h => ⟨_, rfl, h 4 rfl, g⟩
theorem Bp.sub {K : Nat} {p q : Pq} (h : Bp K p) (h' : Bp K q) : Bp (K + K + 1) (p.1 - q.1, p.2 - q.2) := ⟨h.1.sub h'.1, h.2.sub h'.2⟩
theorem PCross_any (w : World) (va vb vc : Value) (a b c : Pq) (K : Nat) (Ha : PtV w va a) (Hb : PtV w vb b) (Hc : PtV w vc c) (hK : K ≤ 10000) (ba : Bp K a) (bb : Bp K b) (bc : Bp K c) (hTab : Tab w) :
    Calls Tryz.prog 18 #[va, vb, vc] w (RetRat w (pcross a b c)) := by
  refine exec_calls mixed Tryz.func18 [sPt a, sPt b, sPt c] [sPt (b.1 - a.1, b.2 - a.2), sPt (c.1 - a.1, c.2 - a.2), sQ (pcross a b c)] (.cons Ha (.cons Hb (.cons Hc .nil))) (rs := [cl 3 50 [ag 8 1, ag 8 0], cl 4 50 [ag 8 2, ag 8 0], cl 5 49 [ag 8 3, ag 8 4]]) (out := ag 4 5) (nc := 6) (by kernel_rfl)
      ⟨fun σ W g h hb => PMinus_any W _ _ b a K (h 1 rfl) (h 0 rfl) (by omega) bb ba (hTab.kept g (by simp)),
      fun σ W g h hb => PMinus_any W _ _ c a K (h 2 rfl) (h 0 rfl) (by omega) bc ba (hTab.kept g (by simp)),
      fun σ W g h hb => PXross_any W _ _ _ _ (K + K + 1) (h 3 rfl) (h 4 rfl) (by omega) (bb.sub ba) (bc.sub ba) (hTab.kept g (by simp)),
      trivial⟩ fun τ W g h => ⟨_, rfl, h 5 rfl, g⟩
theorem PDot_any (w : World) (va vb vc : Value) (a b c : Pq) (K : Nat) (Ha : PtV w va a) (Hb : PtV w vb b) (Hc : PtV w vc c) (hK : K ≤ 10000) (ba : Bp K a) (bb : Bp K b) (bc : Bp K c) (hTab : Tab w) :
    Calls Tryz.prog 22 #[va, vb, vc] w (RetRat w (pdot a b c)) := by
  have m1 := (bb.sub ba).1.mul (bc.sub ba).1
  have m2 := (bb.sub ba).2.mul (bc.sub ba).2
  refine exec_calls mixed Tryz.func22 [sPt a, sPt b, sPt c] [sPt (b.1 - a.1, b.2 - a.2), sPt (c.1 - a.1, c.2 - a.2), sQ ((b.1 - a.1) * (c.1 - a.1)), sQ ((b.2 - a.2) * (c.2 - a.2)), sQ (pdot a b c)] (.cons Ha (.cons Hb (.cons Hc .nil))) (rs := [cl 3 50 [ag 8 1, ag 8 0], cl 4 50 [ag 8 2, ag 8 0], cl 5 39 [ag 4 3, ag 4 4], cl 6 39 [.v true [.an 3 4, .an 3 5, .an 3 6, .an 3 7], .v true [.an 4 4, .an 4 5, .an 4 6, .an 4 7]], cl 7 37 [ag 4 5, ag 4 6]]) (out := ag 4 7) (nc := 8) (by kernel_rfl)
      ⟨fun σ W g h hb => PMinus_any W _ _ b a K (h 1 rfl) (h 0 rfl) (by omega) bb ba (hTab.kept g (by simp)),
      fun σ W g h hb => PMinus_any W _ _ c a K (h 2 rfl) (h 0 rfl) (by omega) bc ba (hTab.kept g (by simp)),
      fun σ W g h hb => FMul_any W _ _ (b.1 - a.1) (c.1 - a.1) (K + K + 1) (pt1 (h 3 rfl)) (pt1 (h 4 rfl)) (by omega) (bb.sub ba).1.1 (bb.sub ba).1.2 (bc.sub ba).1.1 (bc.sub ba).1.2 (hTab.kept g (by simp)),
      fun σ W g h hb => FMul_any W _ _ (b.2 - a.2) (c.2 - a.2) (K + K + 1) (pt2 (h 3 rfl)) (pt2 (h 4 rfl)) (by omega) (bb.sub ba).2.1 (bb.sub ba).2.2 (bc.sub ba).2.1 (bc.sub ba).2.2 (hTab.kept g (by simp)),
      fun σ W g h hb => FAdd_any W _ _ _ _ (K + K + 1 + (K + K + 1)) (h 5 rfl) (h 6 rfl) (by omega) m1.1 m1.2 m2.1 m2.2 (hTab.kept g (by simp)),
      trivial⟩ fun τ W g h => ⟨_, rfl, h 7 rfl, g⟩
theorem PSide_any (w : World) (va vb vc : Value) (a b c : Pq) (K : Nat) (Ha : PtV w va a) (Hb : PtV w vb b) (Hc : PtV w vc c) (hK : K ≤ 10000) (ba : Bp K a) (bb : Bp K b) (bc : Bp K c) (hTab : Tab w) :
    Calls Tryz.prog 24 #[va, vb, vc] w (fun e w' => e = .returned (.int .i64 (rsg (pcross a b c))) ∧ w.grownBy w' none) := by
  refine exec_calls mixed Tryz.func24 [sPt a, sPt b, sPt c] [sQ (pcross a b c), sZ (rsg (pcross a b c))] (.cons Ha (.cons Hb (.cons Hc .nil))) (rs := [cl 3 18 [ag 8 0, ag 8 1, ag 8 2], cl 4 58 [ag 4 3]]) (out := on 4) (nc := 5) (by kernel_rfl)
      ⟨fun σ W g h hb => PCross_any W _ _ _ a b c K (h 0 rfl) (h 1 rfl) (h 2 rfl) hK ba bb bc (hTab.kept g (by simp)),
      fun σ W g h hb => toZ (FSign_any W _ _ (8 * K + 5) (h 3 rfl) (by omega) (ba.cross bb bc).1) rfl,
      trivial⟩ fun τ W g h => ⟨congrArg Ending.returned (h 4 rfl), g⟩
theorem PFirst_any (w : World) (p : Nat) (i j : Int) (Bq : w.heap[p]? = some (.cells #[.int .i64 i, .int .i64 j] 3 (0, 0))) :
    Calls Tryz.prog 45 #[.slice (some ⟨p, 0, none⟩) 2 2] w (fun e w' => e = .returned (.int .i64 (if i = 0 then j else i)) ∧ w.grownBy w' none) := by
  rcases (show i ≠ 0 ∨ (i = 0 ∧ j ≠ 0) ∨ (i = 0 ∧ j = 0) by omega) with h1 | ⟨h1, h2⟩ | ⟨h1, h2⟩
  · rw [if_neg h1]
    exact exec_calls_box mixed Tryz.func45 [sZ i, sZ j, sV (.bool true)] 2 [.v false [.row 0 0 2 2]] [(3, [.an 0 0, .an 1 0])] (rs := [co 2 (.binOp .neq 3 (.tmp 11) (.const (.int .i64 0)) 3) 4 [on 0, .v false [.lit (.int .i64 0)]] [0, 1] []]) (out := on 0) (nc := 3) (by kernel_rfl) w
      ⟨fun n => match n with | 0 => cellf [.int .i64 i] | 1 => cellf [.int .i64 j] | _ => fun _ => .bool false, fun b => match b with | 0 => p | _ => 0, fun _ => undef⟩
      (fun n c => match n with
        | 0 => cellf_one (by simp [Value.oneCell']) c
        | 1 => cellf_one (by simp [Value.oneCell']) c
        | _ + 2 => rfl)
      (fun b q hq => match b, q, hq with
        | 0, _, rfl => Bq
        | _ + 1, _, hq => nomatch hq)
      (fun b c hb hc hq => match b, c, hb, hc with
        | 0, 0, _, _ => rfl
        | _ + 1, _, hb, _ => absurd hb (by simp)
        | _, _ + 1, _, hc => absurd hc (by simp))
      (fun jn hn => match jn, hn with
        | 0, _ => rfl
        | 1, _ => rfl
        | _ + 2, hn => absurd hn (by omega))
      ⟨fun σ W g h hb => fun ρ o ho _ hv => ⟨_, ne_told true ho ((two_vals hv).1.trans (h 0 rfl)) (two_vals hv).2 (decide_eq_false h1), rfl⟩,
      trivial⟩ _ fun τ W g h => ⟨congrArg Ending.returned (h 0 rfl), g⟩
  · rw [if_pos h1]
    exact exec_calls_box mixed Tryz.func45 [sZ i, sZ j, sV (.bool false), sV (.bool true)] 2 [.v false [.row 0 0 2 2]] [(3, [.an 0 0, .an 1 0])] (rs := [co 2 (.binOp .neq 3 (.tmp 11) (.const (.int .i64 0)) 3) 4 [on 0, .v false [.lit (.int .i64 0)]] [0, 1] [], co 3 (.binOp .neq 3 (.tmp 11) (.const (.int .i64 0)) 3) 4 [on 1, .v false [.lit (.int .i64 0)]] [0, 1, 2] []]) (out := on 1) (nc := 4) (by kernel_rfl) w
      ⟨fun n => match n with | 0 => cellf [.int .i64 i] | 1 => cellf [.int .i64 j] | _ => fun _ => .bool false, fun b => match b with | 0 => p | _ => 0, fun _ => undef⟩
      (fun n c => match n with
        | 0 => cellf_one (by simp [Value.oneCell']) c
        | 1 => cellf_one (by simp [Value.oneCell']) c
        | _ + 2 => rfl)
      (fun b q hq => match b, q, hq with
        | 0, _, rfl => Bq
        | _ + 1, _, hq => nomatch hq)
      (fun b c hb hc hq => match b, c, hb, hc with
        | 0, 0, _, _ => rfl
        | _ + 1, _, hb, _ => absurd hb (by simp)
        | _, _ + 1, _, hc => absurd hc (by simp))
      (fun jn hn => match jn, hn with
        | 0, _ => rfl
        | 1, _ => rfl
        | _ + 2, hn => absurd hn (by omega))
      ⟨fun σ W g h hb => fun ρ o ho _ hv => ⟨_, ne_told false ho ((two_vals hv).1.trans (h 0 rfl)) (two_vals hv).2 (decide_eq_true h1), rfl⟩,
      fun σ W g h hb => fun ρ o ho _ hv => ⟨_, ne_told true ho ((two_vals hv).1.trans (h 1 rfl)) (two_vals hv).2 (decide_eq_false h2), rfl⟩,
      trivial⟩ _ fun τ W g h => ⟨congrArg Ending.returned (h 1 rfl), g⟩
  · rw [if_pos h1, h2]
    exact exec_calls_box mixed Tryz.func45 [sZ i, sZ j, sV (.bool false), sV (.bool false)] 2 [.v false [.row 0 0 2 2]] [(3, [.an 0 0, .an 1 0])] (rs := [co 2 (.binOp .neq 3 (.tmp 11) (.const (.int .i64 0)) 3) 4 [on 0, .v false [.lit (.int .i64 0)]] [0, 1] [], co 3 (.binOp .neq 3 (.tmp 11) (.const (.int .i64 0)) 3) 4 [on 1, .v false [.lit (.int .i64 0)]] [0, 1, 2] []]) (out := .v false [.lit (.int .i64 0)]) (nc := 4) (by kernel_rfl) w
      ⟨fun n => match n with | 0 => cellf [.int .i64 i] | 1 => cellf [.int .i64 j] | _ => fun _ => .bool false, fun b => match b with | 0 => p | _ => 0, fun _ => undef⟩
      (fun n c => match n with
        | 0 => cellf_one (by simp [Value.oneCell']) c
        | 1 => cellf_one (by simp [Value.oneCell']) c
        | _ + 2 => rfl)
      (fun b q hq => match b, q, hq with
        | 0, _, rfl => Bq
        | _ + 1, _, hq => nomatch hq)
      (fun b c hb hc hq => match b, c, hb, hc with
        | 0, 0, _, _ => rfl
        | _ + 1, _, hb, _ => absurd hb (by simp)
        | _, _ + 1, _, hc => absurd hc (by simp))
      (fun jn hn => match jn, hn with
        | 0, _ => rfl
        | 1, _ => rfl
        | _ + 2, hn => absurd hn (by omega))
      ⟨fun σ W g h hb => fun ρ o ho _ hv => ⟨_, ne_told false ho ((two_vals hv).1.trans (h 0 rfl)) (two_vals hv).2 (decide_eq_true h1), rfl⟩,
      fun σ W g h hb => fun ρ o ho _ hv => ⟨_, ne_told false ho ((two_vals hv).1.trans (h 1 rfl)) (two_vals hv).2 (decide_eq_true h2), rfl⟩,
      trivial⟩ _ fun τ W g h => ⟨rfl, g⟩
theorem PCmp_any (w : World) (va vb : Value) (p q : Pq) (K : Nat) (Ha : PtV w va p) (Hb : PtV w vb q) (hK : K ≤ 100000) (ba : Bp K p) (bb : Bp K q) :
    Calls Tryz.prog 16 #[va, vb] w (fun e w' => e = .returned (.int .i64 (pcmp p q)) ∧ w.grownBy w' none) := by
  refine exec_calls mixed Tryz.func16 [sPt p, sPt q] [sZ (rcmp p.1 q.1), sZ (rcmp p.2 q.2), sZ (pcmp p q)] (.cons Ha (.cons Hb .nil)) (rs := [cl 2 46 [ag 4 0, ag 4 1], cl 3 46 [.v true [.an 0 4, .an 0 5, .an 0 6, .an 0 7], .v true [.an 1 4, .an 1 5, .an 1 6, .an 1 7]], clb 4 45 [.v false [.row 2 0 2 2]] [0, 1, 2, 3] [(2, 3, [.an 2 0, .an 3 0])]]) (out := on 4) (nc := 5) (by kernel_rfl)
      ⟨fun σ W g h hb => toZ (FCmp_any W _ _ p.1 q.1 K (pt1 (h 0 rfl)) (pt1 (h 1 rfl)) (by omega) ba.1.1 ba.1.2 bb.1.1 bb.1.2) rfl,
      fun σ W g h hb => toZ (FCmp_any W _ _ p.2 q.2 K (pt2 (h 0 rfl)) (pt2 (h 1 rfl)) (by omega) ba.2.1 ba.2.2 bb.2.1 bb.2.2) rfl,
      fun σ W g h hb => toZ (PFirst_any W _ _ _ (by
        have e1 : σ.an 2 0 = .int .i64 (rcmp p.1 q.1) := h 2 rfl
        have e2 : σ.an 3 0 = .int .i64 (rcmp p.2 q.2) := h 3 rfl
        rw [← e1, ← e2]; exact hb.1 _ (.head _))) rfl,
      trivial⟩ fun τ W g h => ⟨congrArg Ending.returned (h 4 rfl), g⟩
end Go.Proofs.YthbhgcaemcobeaaGreatDoor
