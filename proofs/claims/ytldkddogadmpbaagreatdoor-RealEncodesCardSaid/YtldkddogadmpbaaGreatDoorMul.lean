/- Products: Mul64, addScaled, Mul, scaled. -/
import Derived.Test.YtldkddogadmpbaaGreatDoorAdd
import Derived.Shelf.Bits.Mul64
namespace Go.Proofs.YtldkddogadmpbaaGreatDoor
open Go.RowKit Mat
set_option maxRecDepth 100000
set_option linter.unusedVariables false
set_option linter.unusedSimpArgs false

/-- The upper and the lower limb of a product. -/
def mulHi (x y : Nat) : Nat := x * y / B
def mulLo (x y : Nat) : Nat := x * y % B
theorem mulLo_lt (x y : Nat) : mulLo x y < B := Nat.mod_lt _ B_pos
theorem mul_eq (x y : Nat) : mulLo x y + B * mulHi x y = x * y := Nat.mod_add_div ..
theorem mulHi_lt {x y : Nat} (hx : x < B) (hy : y < B) : mulHi x y < B := by
  unfold mulHi
  rw [Nat.div_lt_iff_lt_mul B_pos]
  exact Nat.mul_lt_mul'' hx hy

set_option maxHeartbeats 1000000 in
theorem mul64_any (x y : Nat) (hx : x < B) (hy : y < B) (w : World) :
    Calls Tryz.prog 71 #[.int .u64 (x : Int), .int .u64 (y : Int)] w fun e w' => e = .returned (.tuple #[.int .u64 (mulHi x y : Int), .int .u64 (mulLo x y : Int)]) ∧ w = w' := by
  show Calls _ _ _ _ fun e w' => e = .returned (.tuple #[.int .u64 ((x * y / 18446744073709551616 : Nat) : Int), .int .u64 ((x * y % 18446744073709551616 : Nat) : Int)]) ∧ w = w'
  have hx : x < 18446744073709551616 := hx
  have hy : y < 18446744073709551616 := hy
  obtain ⟨bd, bt, bw, hhi⟩ := Lib.mul64_hi x y hx hy
  have ba := Lib.half_mul_le (a := x / 4294967296) (b := y / 4294967296) (by omega) (by omega)
  have bb := Lib.half_mul_le (a := x / 4294967296) (b := y % 4294967296) (by omega) (by omega)
  have bc := Lib.half_mul_le (a := x % 4294967296) (b := y / 4294967296) (by omega) (by omega)
  have ba' : x / 4294967296 * (y / 4294967296) < 18446744073709551616 := by omega
  have bb' : x / 4294967296 * (y % 4294967296) < 18446744073709551616 := by omega
  have bc' : x % 4294967296 * (y / 4294967296) < 18446744073709551616 := by omega
  have bh1 : x / 4294967296 * (y / 4294967296) + (x / 4294967296 * (y % 4294967296) + x % 4294967296 * (y % 4294967296) / 4294967296) / 4294967296 < 18446744073709551616 := by omega
  have bh : x / 4294967296 * (y / 4294967296) + (x / 4294967296 * (y % 4294967296) + x % 4294967296 * (y % 4294967296) / 4294967296) / 4294967296 + ((x / 4294967296 * (y % 4294967296) + x % 4294967296 * (y % 4294967296) / 4294967296) % 4294967296 + x % 4294967296 * (y / 4294967296)) / 4294967296 < 18446744073709551616 := by omega
  have Hhi := Lib.hid hhi
  clear hhi
  go_enter Tryz.func71, Tryz.ntmps71
  go_wp2
  simp only [Mul64.maskN x hx, Mul64.maskN y hy, Mul64.divN, Mul64.mulN, Mul64.addN, Mul64.wrapN _ bd, Mul64.wrapN _ bb', Mul64.wrapN _ bt, Mul64.maskN _ bt, Mul64.wrapN _ bc', Mul64.wrapN _ bw, Mul64.wrapN _ ba', Mul64.wrapN _ bh1, Mul64.wrapN _ bh, Mul64.wrapM (x * y)]
  rw [Hhi.out]
  go_ret2
  exact ⟨rfl, rfl⟩

/-- One step of a product by one limb, added. -/
theorem muladd_step (k v x y by' add s : Nat) (h : v + add * B ^ k = s) :
    v + B ^ k * addLo x (addLo (mulLo y by') add 0) 0 + (mulHi y by' + addHi (mulLo y by') add 0 + addHi x (addLo (mulLo y by') add 0) 0) * B ^ (k + 1) = s + B ^ k * x + B ^ k * (y * by') := by
  have e1 := mul_eq y by'
  have e2 : addLo (mulLo y by') add 0 + B * addHi (mulLo y by') add 0 = mulLo y by' + add + 0 := Nat.mod_add_div ..
  have e3 : addLo x (addLo (mulLo y by') add 0) 0 + B * addHi x (addLo (mulLo y by') add 0) 0 = x + addLo (mulLo y by') add 0 + 0 := Nat.mod_add_div ..
  generalize addLo x (addLo (mulLo y by') add 0) 0 = r3 at *
  generalize addHi x (addLo (mulLo y by') add 0) 0 = c3 at *
  generalize addLo (mulLo y by') add 0 = r2 at *
  generalize addHi (mulLo y by') add 0 = c2 at *
  generalize mulLo y by' = r1 at *
  generalize mulHi y by' = q1 at *
  rw [← e1, Nat.pow_succ]
  grind
theorem muladd_bd {x y by' add : Nat} (hx : x < B) (hy : y < B) (hb : by' < B) (ha : add < B) :
    mulHi y by' + addHi (mulLo y by') add 0 < B ∧ mulHi y by' + addHi (mulLo y by') add 0 + addHi x (addLo (mulLo y by') add 0) 0 < B := by
  have e1 := mul_eq y by'
  have e2 : addLo (mulLo y by') add 0 + B * addHi (mulLo y by') add 0 = mulLo y by' + add + 0 := Nat.mod_add_div ..
  have e3 : addLo x (addLo (mulLo y by') add 0) 0 + B * addHi x (addLo (mulLo y by') add 0) 0 = x + addLo (mulLo y by') add 0 + 0 := Nat.mod_add_div ..
  have h1 : y * by' ≤ (B - 1) * (B - 1) := Nat.mul_le_mul (by omega) (by omega)
  have h2 : (B - 1) * (B - 1) + (B - 1) + (B - 1) < B * B := by decide +kernel
  generalize addLo x (addLo (mulLo y by') add 0) 0 = r3 at *
  generalize addHi x (addLo (mulLo y by') add 0) 0 = c3 at *
  generalize addLo (mulLo y by') add 0 = r2 at *
  generalize addHi (mulLo y by') add 0 = c2 at *
  generalize mulLo y by' = r1 at *
  generalize mulHi y by' = q1 at *
  have h3 : B * (q1 + c2 + c3) < B * B := by
    have : B * (q1 + c2 + c3) = B * q1 + B * c2 + B * c3 := by rw [Nat.mul_add, Nat.mul_add]
    omega
  have h4 := Nat.lt_of_mul_lt_mul_left h3
  omega

/-- What addScaled leaves. -/
def AddedScaled (w : World) (b off : Nat) (xs ys : List Nat) (by' : Nat) (cs : Array Value) (e : Ending) (w' : World) : Prop :=
  ∃ (zs : List Nat) (cs' : Array Value), e = .returned (.tuple #[]) ∧ Blk w' b cs' ∧ Wrote cs cs' off zs ∧ w.grownBy w' (some b) ∧ zs.length = ys.length + 1 ∧ Dig B zs ∧ val B zs = val B (xs.take ys.length) + val B ys * by'

theorem mul_step {us ys zs : List Nat} {i x V : Nat} (hi : i ≤ us.length) (hv : val B us = V * val B ys) (hz : val B zs = val B ((us.drop i ++ [0]).take ys.length) + val B ys * x) (hl : us.length = i + ys.length) :
    val B (us.take i ++ zs) = (V + B ^ i * x) * val B ys := by
  have e : (us.drop i ++ [0]).take ys.length = us.drop i := by
    rw [List.take_append_of_le_length (by rw [List.length_drop]; omega), List.take_of_length_le (by rw [List.length_drop]; omega)]
  rw [e] at hz
  have h1 := val_split B us i hi
  rw [val_append, List.length_take, Nat.min_eq_left hi, hz, Nat.mul_add, ← Nat.add_assoc, ← h1, hv, Nat.add_mul]
  congr 1
  rw [Nat.mul_assoc, Nat.mul_comm x]

theorem win_at {cs : Array Value} {us : List Nat} {k j : Nat} (h : At cs 0 (us ++ List.replicate (j + 1) 0)) (hk : k ≤ us.length) : At cs k (us.drop k ++ [0]) := by
  have h1 := h.drop k
  rw [Nat.zero_add, List.drop_append_of_le_length hk] at h1
  have h2 := h1.take ((us.drop k).length + 1)
  rw [List.take_length_add_append, List.take_replicate, Nat.min_eq_left (by omega)] at h2
  exact h2
theorem win_put {cs cs' : Array Value} {us zs : List Nat} {k j m : Nat} (h : At cs 0 (us ++ List.replicate (j + 1) 0)) (hu : us.length = k + m) (hz : zs.length = m + 1) (hw : Wrote cs cs' k zs) : At cs' 0 ((us.take k ++ zs) ++ List.replicate j 0) := by
  have hlk : (us.take k).length = k := by rw [List.length_take]; omega
  refine At.append (At.append ?_ ?_) ?_
  · intro i hi
    rw [hlk] at hi
    rw [hw.out _ (by omega), h i (by simp; omega), List.getElem_append_left (by omega), List.getElem_take]
  · rw [hlk, Nat.zero_add]; exact hw.lies
  · intro i hi
    rw [List.length_replicate] at hi
    rw [List.length_append, hlk, hz]
    rw [hw.out _ (by omega), List.getElem_replicate]
    have := h (k + (m + 1) + i) (by simp; omega)
    rw [Nat.zero_add] at this ⊢
    rw [this, List.getElem_append_right (by omega), List.getElem_replicate]

end Go.Proofs.YtldkddogadmpbaaGreatDoor
