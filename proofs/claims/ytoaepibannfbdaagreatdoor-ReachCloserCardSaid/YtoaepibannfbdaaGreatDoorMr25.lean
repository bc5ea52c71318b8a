/- What the laws lean on, part 25. -/
import Derived.Below
import Derived.BigCall
import Derived.BigQuiet
import Derived.BigRegion
import Derived.Deep.AppendLies
import Derived.Deep.CutBlock
import Derived.Deep.CutRange
import Derived.Deep.DeepCutAuto
import Derived.Deep.DeepHandedRow
import Derived.Deep.LoopGhost
import Derived.Deep.MidRow
import Derived.Deep.QuietTactic
import Derived.Deep.RegionHeld3
import Derived.Deep.RegionLaw
import Derived.Deep.WholeRow
import Derived.Laws.AppendOwn
import Derived.Laws.Concat
import Derived.Laws.CopyOwn
import Derived.Laws.Externs
import Derived.Laws.IdiomStrings
import Derived.Lib.BitFns
import Derived.Lib.Bytealg
import Derived.Lib.Hide
import Derived.Lib.Slices
import Derived.Lib.Small
import Derived.Lib.Strings
import Derived.Lib.Walk
import Derived.LoopN
import Derived.Maps.AppendAt
import Derived.OpenShut
import Derived.OrdersHeld
import Derived.Outline
import Derived.OwnWalk
import Derived.ProofKit
import Derived.Shelf.Bits.Mul64
import Derived.Shelf.Spec.TrailingZeros
import Derived.StillTailTactics
import Derived.WalkKit
import Derived.WalkLawsBesides
import Derived.WalkSpells
import Derived.Test.YtoaepibannfbdaaGreatDoorProg
import Derived.Test.YtoaepibannfbdaaGreatDoorRows
import Derived.Test.YtoaepibannfbdaaGreatDoorMr22
import Derived.Test.YtoaepibannfbdaaGreatDoorMr24
namespace Go.Proofs.YtoaepibannfbdaaGreatDoor
open Go.RowKit Mat Ex PM
set_option linter.unusedVariables false
set_option linter.unusedSimpArgs false
set_option maxRecDepth 100000
def HlV (w : World) (v : Value) (E : Nat) (L : List Pq) : Prop := ∃ l : List H3, HrV w v l ∧ l.map rp = L ∧ ∀ p ∈ l, HB E p ∧ 0 < p.z
def sHl (E : Nat) (L : List Pq) : Sp where
  sh := .one
  F v W := HlV W v E L
  fits v W h := by obtain ⟨l, ⟨s, n, c, rfl, _⟩, _⟩ := h; exact ⟨fun _ => .slice s n c, fun _ => rfl, rfl⟩
  row := true
  fp v _ q := fpS v q
  lasts v W W' k hq h := by
    obtain ⟨l, h1, h2⟩ := h
    exact ⟨⟨l, h1.keeps k hq, h2⟩, fun _ h => h⟩
  inb v W h q hq := by obtain ⟨l, h1, _⟩ := h; exact h1.inb q hq
  flat h := by cases h
theorem toHl {P : Program} {f : FuncId} {args : Array Value} {W : World} {E : Nat} {L : List Pq} {old : Nat → Prop} (h : Calls P f args W (RetHl W E L)) : Calls P f args W (RetS W (sHl E L) old) :=
  h.mono fun _ _ ⟨l, ⟨v, a, h, g, hq⟩, h2⟩ => ⟨v, a, ⟨l, h, h2⟩, g, fun q hf => .inl (hq q hf)⟩
end Go.Proofs.YtoaepibannfbdaaGreatDoor
namespace Go.Proofs.YtoaepibannfbdaaGreatDoor
open Go.RowKit Mat Ex PM
set_option linter.unusedVariables false
set_option linter.unusedSimpArgs false
set_option maxRecDepth 100000
theorem hl_len {ρ : Operand → Value} {o : Oper} {W : World} {t : TypeId} {x : Operand} {v : Value} {E : Nat} {L : List Pq} (h : HlV W v E L) (ho : o.op = .call ⟨.builtin .len, #[x], #[t]⟩) (hx : ρ x = v) (hu : ∃ el, Tryz.prog.underlying t = some (.slice el)) :
    (execOp ρ o).run Tryz.prog W = .ok (.value (.int .i64 L.length)) W := by
  obtain ⟨l, h1, h2, _⟩ := h
  rw [hr_len h1 ho hx hu, ← h2, List.length_map]
theorem dLeast_any (w : World) (va vb : Value) (a b c d : H3) (E : Nat) (Ha : HsV w va a b) (Hb : HsV w vb c d) (hE : 1 ≤ E ∧ E ≤ 100) (ba : HB E a) (bb : HB E b) (bc : HB E c) (bd : HB E d) (za : 0 < a.z) (zb : 0 < b.z) (zc : 0 < c.z) (zd : 0 < d.z) :
    Calls Tryz.prog 24 #[va, vb] w (RetRQ w (leastP (rp a) (rp b) (rp c) (rp d)) (T12 E)) := by
  by_cases h1 : (meetP (rp a) (rp b) (rp c) (rp d)) = []
  · skip
    have hm := h1
    rw [show (leastP (rp a) (rp b) (rp c) (rp d)) = min (min (toP (rp a) (rp b) (rp c)) (toP (rp a) (rp b) (rp d))) (min (toP (rp c) (rp d) (rp a)) (toP (rp c) (rp d) (rp b))) by unfold leastP min4; rw [if_pos h1]]
    refine exec_calls mixed Tryz.func24 [sHs a b, sHs c d] [sHl (4 * E + 3) [], sV (.int .i64 0), sRQ (toP (rp a) (rp b) (rp c)) (T12 E), sRQ (toP (rp a) (rp b) (rp d)) (T12 E), sRQ (min (toP (rp a) (rp b) (rp c)) (toP (rp a) (rp b) (rp d))) (T12 E), sRQ (toP (rp c) (rp d) (rp a)) (T12 E), sRQ (toP (rp c) (rp d) (rp b)) (T12 E), sRQ (min (toP (rp c) (rp d) (rp a)) (toP (rp c) (rp d) (rp b))) (T12 E), sRQ (min (min (toP (rp a) (rp b) (rp c)) (toP (rp a) (rp b) (rp d))) (min (toP (rp c) (rp d) (rp a)) (toP (rp c) (rp d) (rp b)))) (T12 E)] (.cons Ha (.cons Hb .nil)) (rs := [cl 2 70 [ag 12 0, ag 12 1], co 3 (.call ⟨.builtin .len, #[(.tmp 7)], #[24]⟩) 3 [on 2] [0, 1, 2] [], cl 4 22 [ag 12 0, ag 6 1], cl 5 22 [ag 12 0, .v true [.an 1 6, .an 1 7, .an 1 8, .an 1 9, .an 1 10, .an 1 11]], cl 6 71 [ag 4 4, ag 4 5], cl 7 22 [ag 12 1, ag 6 0], cl 8 22 [ag 12 1, .v true [.an 0 6, .an 0 7, .an 0 8, .an 0 9, .an 0 10, .an 0 11]], cl 9 71 [ag 4 7, ag 4 8], cl 10 71 [ag 4 6, ag 4 9]]) (out := ag 4 10) (nc := 11) (by kernel_rfl)
        ⟨fun σ W g h hb => toHl (hm ▸ (by
          rw [meet_same]
          exact rHMeet_any W _ _ a b c d E (h 0 rfl) (h 1 rfl) hE ba bb bc bd za zb zc zd)),
        fun σ W g h hb => fun ρ o ho _ hv => ⟨_, hl_len (h 2 rfl) ho (one_val hv) ⟨43, by kernel_rfl⟩, rfl⟩,
        fun σ W g h hb => dTo_any W _ _ a b c E (h 0 rfl) (hs1 (h 1 rfl)) hE ba bb bc za zb zc,
        fun σ W g h hb => dTo_any W _ _ a b d E (h 0 rfl) (hs2 (h 1 rfl)) hE ba bb bd za zb zd,
        fun σ W g h hb => dLesser_any W _ _ _ _ _ (h 4 rfl) (h 5 rfl) (by unfold T12; omega),
        fun σ W g h hb => dTo_any W _ _ c d a E (h 1 rfl) (hs1 (h 0 rfl)) hE bc bd ba zc zd za,
        fun σ W g h hb => dTo_any W _ _ c d b E (h 1 rfl) (hs2 (h 0 rfl)) hE bc bd bb zc zd zb,
        fun σ W g h hb => dLesser_any W _ _ _ _ _ (h 7 rfl) (h 8 rfl) (by unfold T12; omega),
        fun σ W g h hb => dLesser_any W _ _ _ _ _ (h 6 rfl) (h 9 rfl) (by unfold T12; omega),
        trivial⟩ fun τ W g h => ⟨_, rfl, h 10 rfl, g⟩
  · skip
    rw [show (leastP (rp a) (rp b) (rp c) (rp d)) = 0 by unfold leastP; rw [if_neg h1]]
    refine exec_calls mixed Tryz.func24 [sHs a b, sHs c d] [sHl (4 * E + 3) (meetP (rp a) (rp b) (rp c) (rp d)), sZ ((meetP (rp a) (rp b) (rp c) (rp d)).length : Nat), sV (.bool true), sRQ 0 5] (.cons Ha (.cons Hb .nil)) (rs := [cl 2 70 [ag 12 0, ag 12 1], co 3 (.call ⟨.builtin .len, #[(.tmp 7)], #[24]⟩) 3 [on 2] [0, 1, 2] [], co 4 (.binOp .gtr 3 (.tmp 8) (.const (.int .i64 0)) 3) 4 [on 3, .v false [.lit (.int .i64 0)]] [0, 1, 2, 3] [], cl 5 56 [.v false [.lit (.int .i64 0)]]]) (out := ag 4 5) (nc := 6) (by kernel_rfl)
        ⟨fun σ W g h hb => toHl ((by
          rw [meet_same]
          exact rHMeet_any W _ _ a b c d E (h 0 rfl) (h 1 rfl) hE ba bb bc bd za zb zc zd)),
        fun σ W g h hb => fun ρ o ho _ hv => ⟨_, hl_len (h 2 rfl) ho (one_val hv) ⟨43, by kernel_rfl⟩, rfl⟩,
        fun σ W g h hb => fun ρ o ho _ hv => ⟨_, gt_told true ho ((two_vals hv).1.trans (h 3 rfl)) (two_vals hv).2 (decide_eq_true (by have := List.length_pos_iff.2 h1; omega)), rfl⟩,
        fun σ W g h hb => rQOf_any W 0 (by omega) (by omega),
        trivial⟩ fun τ W g h => ⟨_, rfl, (h 5 rfl).mono (by unfold T12; omega), g⟩
end Go.Proofs.YtoaepibannfbdaaGreatDoor
