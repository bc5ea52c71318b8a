/- How many bits a limb has: Len64, LeadingZeros64. -/
import Derived.Test.YtldkddogadmpbaaGreatDoorShift
import Derived.Lib.BitFns
import Derived.Deep.CutRange
import Derived.Lib.Strings
import Derived.Lib.Slices
import Derived.Lib.Small
import Derived.Lib.Walk
namespace Go.Proofs.YtldkddogadmpbaaGreatDoor
open Go.RowKit Mat
set_option maxRecDepth 100000
set_option linter.unusedVariables false
set_option linter.unusedSimpArgs false

/-- The table of the library's text, as the translation has it. -/
theorem fold_tab : (⟨(([0, 1, 2, 2, 3, 3, 3, 3, 4, 4, 4, 4, 4, 4, 4, 4, 5, 5, 5, 5, 5, 5, 5, 5, 5, 5, 5, 5, 5, 5, 5, 5, 6, 6, 6, 6, 6, 6, 6, 6, 6, 6, 6, 6, 6, 6, 6, 6, 6, 6, 6, 6, 6, 6, 6, 6, 6, 6, 6, 6, 6, 6, 6, 6].append [7, 7, 7, 7, 7, 7, 7, 7, 7, 7, 7, 7, 7, 7, 7, 7, 7, 7, 7, 7, 7, 7, 7, 7, 7, 7, 7, 7, 7, 7, 7, 7, 7, 7, 7, 7, 7, 7, 7, 7, 7, 7, 7, 7, 7, 7, 7, 7, 7, 7, 7, 7, 7, 7, 7, 7, 7, 7, 7, 7, 7, 7, 7, 7]).append ([8, 8, 8, 8, 8, 8, 8, 8, 8, 8, 8, 8, 8, 8, 8, 8, 8, 8, 8, 8, 8, 8, 8, 8, 8, 8, 8, 8, 8, 8, 8, 8, 8, 8, 8, 8, 8, 8, 8, 8, 8, 8, 8, 8, 8, 8, 8, 8, 8, 8, 8, 8, 8, 8, 8, 8, 8, 8, 8, 8, 8, 8, 8, 8].append [8, 8, 8, 8, 8, 8, 8, 8, 8, 8, 8, 8, 8, 8, 8, 8, 8, 8, 8, 8, 8, 8, 8, 8, 8, 8, 8, 8, 8, 8, 8, 8, 8, 8, 8, 8, 8, 8, 8, 8, 8, 8, 8, 8, 8, 8, 8, 8, 8, 8, 8, 8, 8, 8, 8, 8, 8, 8, 8, 8, 8, 8, 8, 8])).toArray⟩ : ByteArray) = Lib.len8tab := by decide +kernel

theorem tab_at (b : Int) (h0 : 0 ≤ b) (h1 : b ≤ 255) (hs : b.toNat < Lib.len8tab.size) : ((Lib.len8tab[b.toNat]'hs).toNat : Int) = (Lib.bitLen b.toNat : Int) := by
  have := Lib.len8_of b h0 h1
  rw [← this]
  simp [Lib.len8, hs]
theorem tab_sum (k b : Int) (n : Nat) (h0 : 0 ≤ b) (h1 : b ≤ 255) (hs : b.toNat < Lib.len8tab.size) (hk : 0 ≤ k) (hk2 : k ≤ 56) (e : (n : Int) = k + (Lib.bitLen b.toNat : Int)) : wrap64 (k + wrap64 ((Lib.len8tab[b.toNat]'hs).toNat : Int)) = (n : Int) := by
  have l := Lib.bitLen_le8' b h0 h1
  rw [tab_at b h0 h1 hs, IntWalk.wrap64_in (Lib.bitLen b.toNat : Int) ⟨by omega, by omega⟩, IntWalk.wrap64_in _ ⟨by omega, by omega⟩, e]

theorem tab_one (b : Int) (h0 : 0 ≤ b) (h1 : b ≤ 255) (hs : b.toNat < Lib.len8tab.size) : wrap64 ((Lib.len8tab[b.toNat]'hs).toNat : Int) = (Lib.bitLen b.toNat : Int) := by
  have l := Lib.bitLen_le8' b h0 h1
  rw [tab_at b h0 h1 hs, IntWalk.wrap64_in (Lib.bitLen b.toNat : Int) ⟨by omega, by omega⟩]
theorem tab_two (b : Int) (h0 : 0 ≤ b) (h1 : b ≤ 255) (hs : b.toNat < Lib.len8tab.size) : wrap64 (wrap64 ((Lib.len8tab[b.toNat]'hs).toNat : Int)) = (Lib.bitLen b.toNat : Int) := by
  have l := Lib.bitLen_le8' b h0 h1
  rw [tab_one b h0 h1 hs, IntWalk.wrap64_in (Lib.bitLen b.toNat : Int) ⟨by omega, by omega⟩]

set_option maxHeartbeats 4000000 in
theorem len64_int (x : Int) (h0 : 0 ≤ x) (h1 : x ≤ 18446744073709551615) (w : World) :
    Calls Tryz.prog 69 #[.int .u64 x] w fun e w' => e = .returned (.int .i64 (Lib.bitLen x.toNat : Int)) ∧ w = w' := by
  have hsz := Lib.len8tab_size
  go_enter Tryz.func69, Tryz.ntmps69
  rw [fold_tab]
  go_wp2
  all_goals (go_ret; refine ⟨congrArg Ending.returned (congrArg (Value.int IntKind.i64) ?_), rfl⟩)
  all_goals first
    | (have e : (x / 4294967296 / 65536 / 256).toNat = x.toNat / 72057594037927936 := by omega
       have s := Lib.bitLen_shift56 x.toNat (by omega) (by omega)
       exact tab_sum 56 (x / 4294967296 / 65536 / 256) _ (by omega) (by omega) _ (by omega) (by omega) (by rw [e, s]; omega))
    | (have e : (x / 4294967296 / 65536).toNat = x.toNat / 281474976710656 := by omega
       have s := Lib.bitLen_shift48 x.toNat (by omega) (by omega)
       exact tab_sum 48 (x / 4294967296 / 65536) _ (by omega) (by omega) _ (by omega) (by omega) (by rw [e, s]; omega))
    | (have e : (x / 4294967296 / 256).toNat = x.toNat / 1099511627776 := by omega
       have s := Lib.bitLen_shift40 x.toNat (by omega) (by omega)
       exact tab_sum 40 (x / 4294967296 / 256) _ (by omega) (by omega) _ (by omega) (by omega) (by rw [e, s]; omega))
    | (have e : (x / 4294967296).toNat = x.toNat / 4294967296 := by omega
       have s := Lib.bitLen_shift32 x.toNat (by omega) (by omega)
       exact tab_sum 32 (x / 4294967296) _ (by omega) (by omega) _ (by omega) (by omega) (by rw [e, s]; omega))
    | (have e : (x / 65536 / 256).toNat = x.toNat / 16777216 := by omega
       have s := Lib.bitLen_shift24 x.toNat (by omega) (by omega)
       exact tab_sum 24 (x / 65536 / 256) _ (by omega) (by omega) _ (by omega) (by omega) (by rw [e, s]; omega))
    | (have e : (x / 65536).toNat = x.toNat / 65536 := by omega
       have s := Lib.bitLen_shift16 x.toNat (by omega) (by omega)
       exact tab_sum 16 (x / 65536) _ (by omega) (by omega) _ (by omega) (by omega) (by rw [e, s]; omega))
    | (have e : (x / 256).toNat = x.toNat / 256 := by omega
       have s := Lib.bitLen_shift8 x.toNat (by omega) (by omega)
       exact tab_sum 8 (x / 256) _ (by omega) (by omega) _ (by omega) (by omega) (by rw [e, s]; omega))
    | exact tab_one x (by omega) (by omega) _
    | exact tab_two x (by omega) (by omega) _

theorem len64_any (x : Nat) (hx : x < B) (w : World) :
    Calls Tryz.prog 69 #[.int .u64 (x : Int)] w fun e w' => e = .returned (.int .i64 (Lib.bitLen x : Int)) ∧ w = w' := by
  have hx : x < 18446744073709551616 := hx
  have := len64_int (x : Int) (by omega) (by omega) w
  rwa [Int.toNat_natCast] at this

/-- How many bits: between which powers of two. -/
theorem bitLen_spec : ∀ (n x : Nat), x < n → x ≠ 0 → x < 2 ^ 64 → 2 ^ (Lib.bitLen x - 1) ≤ x ∧ x < 2 ^ Lib.bitLen x ∧ 1 ≤ Lib.bitLen x := by
  intro n
  induction n with
  | zero => intro x h; omega
  | succ n ih =>
    intro x h h0 hx
    rw [Lib.bitLen_half x h0 hx]
    by_cases h2 : x / 2 = 0
    · have : x = 1 := by omega
      subst this
      decide
    · obtain ⟨h3, h4, h5⟩ := ih (x / 2) (by omega) h2 (by omega)
      refine ⟨?_, ?_, by omega⟩
      · rw [show 1 + Lib.bitLen (x / 2) - 1 = (Lib.bitLen (x / 2) - 1) + 1 from by omega, Nat.pow_succ]; omega
      · rw [Nat.add_comm, Nat.pow_succ]; omega
theorem bitLen_zero : Lib.bitLen 0 = 0 := by decide
theorem bitLen_le (x : Nat) (hx : x < B) : Lib.bitLen x ≤ 64 := by
  by_cases h : x = 0
  · subst h; decide
  · obtain ⟨h1, _, h3⟩ := bitLen_spec (x + 1) x (by omega) h (by rw [← B_pow]; exact hx)
    rcases Nat.lt_or_ge 64 (Lib.bitLen x) with h4 | h4
    · have : 2 ^ 64 ≤ 2 ^ (Lib.bitLen x - 1) := Nat.pow_le_pow_right (by omega) (by omega)
      rw [← B_pow] at this; omega
    · exact h4

set_option maxHeartbeats 1000000 in
theorem lead64_any (x : Nat) (hx : x < B) (w : World) :
    Calls Tryz.prog 107 #[.int .u64 (x : Int)] w fun e w' => e = .returned (.int .i64 ((64 - Lib.bitLen x : Nat) : Int)) ∧ w = w' := by
  have hl := bitLen_le x hx
  go_enter Tryz.func107, Tryz.ntmps107
  go_wp2_with fail
  refine (len64_any x hx _).mono ?_
  rintro e w' ⟨rfl, rfl⟩
  go_wp2_with fail
  go_ret
  exact ⟨congrArg Ending.returned (congrArg (Value.int IntKind.i64) (by omega)), rfl⟩
end Go.Proofs.YtldkddogadmpbaaGreatDoor
