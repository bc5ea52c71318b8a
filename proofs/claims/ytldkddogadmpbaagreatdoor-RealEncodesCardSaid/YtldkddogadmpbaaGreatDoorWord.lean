/- A number as a word. -/
import Derived.Test.YtldkddogadmpbaaGreatDoorBits
namespace Go.Proofs.YtldkddogadmpbaaGreatDoor
open Go.RowKit Mat
set_option maxRecDepth 100000
set_option linter.unusedVariables false
set_option linter.unusedSimpArgs false

/-- A word and whether it is one. -/
def RetWord (w : World) (a : Nat) (e : Ending) (w' : World) : Prop :=
  (∃ x : Nat, e = .returned (.tuple #[.int .u64 (x : Int), .bool (decide (a < B))]) ∧ (a < B → x = a) ∧ (¬ a < B → x = 0)) ∧ w.grownBy w' none

set_option maxHeartbeats 1000000 in
theorem Word_any (w : World) (va : Value) (a K : Nat) (ha : NatV w va a) (hK : K ≤ 1073741824) (la : a < B ^ K) :
    Calls Tryz.prog 62 #[va] w (RetWord w a) := by
  obtain ⟨sa, xs, rfl, hx, rfl⟩ := ha
  have h1 := hx.len la
  clear la
  rcases Nat.lt_trichotomy xs.length 1 with h | h | h
  · obtain rfl : xs = [] := List.length_eq_zero_iff.1 (by omega)
    have e0 : val B [] = 0 := rfl
    have hF : Hid (RetWord w (val B []) (.returned (.tuple #[.int .u64 0, .bool true])) (w.alloc (.cells #[.slice sa 0 0] 24))) := ⟨⟨0, by rw [e0]; rfl, fun _ => rfl, fun _ => rfl⟩, World.grownBy_alloc _ _ _⟩
    simp only [List.length_nil]
    go_enter Tryz.func62, Tryz.ntmps62
    go_wp2_with fail
    go_ret2
    exact hF.out
  · obtain ⟨x, rfl⟩ := List.length_eq_one_iff.1 h
    obtain ⟨b, o, rfl, cx⟩ := hx.rd.cell (by simp)
    have ct := cx 0 (by simp)
    have ev : val B [x] = x := by simp [val]
    have hxB : x < B := hx.dig x (by simp)
    have ct2 := (World.grownBy_alloc w (.cells #[.slice (some ⟨b, o, none⟩) 1 1] 24) none).cell ct (by simp)
    simp only [List.getElem_cons_zero, Nat.add_zero] at ct2
    have hF : Hid (RetWord w (val B [x]) (.returned (.tuple #[.int .u64 (x : Int), .bool true])) (w.alloc (.cells #[.slice (some ⟨b, o, none⟩) 1 1] 24))) := by
      refine ⟨⟨x, ?_, fun _ => ev.symm, fun h => absurd (by rw [ev]; exact hxB) h⟩, World.grownBy_alloc _ _ _⟩
      rw [ev, decide_eq_true hxB]
    clear cx ct hxB ev
    simp only [List.length_singleton]
    go_enter Tryz.func62, Tryz.ntmps62
    go_wp2_with fail
    go_ret2
    exact hF.out
  · obtain ⟨n, hn⟩ : ∃ n, xs.length = n := ⟨_, rfl⟩
    have hge : ¬ val B xs < B := by
      have h2 := val_ge B xs (by rintro rfl; simp at h) hx.top
      have h3 : B ^ 1 ≤ B ^ (xs.length - 1) := Nat.pow_le_pow_right B_pos (by omega)
      rw [Nat.pow_one] at h3
      omega
    have hF : Hid (RetWord w (val B xs) (.returned (.tuple #[.int .u64 0, .bool false])) (w.alloc (.cells #[.slice sa n n] 24))) := by
      refine ⟨⟨0, by rw [decide_eq_false hge]; rfl, fun h => absurd h hge, fun _ => rfl⟩, World.grownBy_alloc _ _ _⟩
    rw [hn] at h h1 ⊢
    have f1 : ((n : Int) == 0) = false := beq_eq_false_iff_ne.2 (by omega)
    have f2 : ((n : Int) == 1) = false := beq_eq_false_iff_ne.2 (by omega)
    clear hn hge
    go_enter Tryz.func62, Tryz.ntmps62
    go_wp2_with fail
    go_ret2
    exact hF.out
end Go.Proofs.YtldkddogadmpbaaGreatDoor
