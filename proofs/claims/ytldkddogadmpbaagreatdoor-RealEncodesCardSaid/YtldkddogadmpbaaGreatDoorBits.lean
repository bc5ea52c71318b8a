/- Lengths in bits; what many texts share. -/
import Derived.Test.YtldkddogadmpbaaGreatDoorDiv
namespace Go.Proofs.YtldkddogadmpbaaGreatDoor
open Go.RowKit Mat
set_option maxRecDepth 100000
set_option linter.unusedVariables false
set_option linter.unusedSimpArgs false

/-- How many bits a number has. -/
def nb (a : Nat) : Nat := if a = 0 then 0 else Nat.log2 a + 1
theorem nb_zero : nb 0 = 0 := rfl
theorem nb_pos {a : Nat} (h : 0 < a) : 2 ^ (nb a - 1) ≤ a ∧ a < 2 ^ nb a ∧ 1 ≤ nb a := by
  unfold nb
  rw [if_neg (by omega), Nat.add_sub_cancel]
  exact ⟨Nat.log2_self_le (by omega), Nat.lt_log2_self, by omega⟩
theorem nb_of {a k : Nat} (h1 : 2 ^ k ≤ a) (h2 : a < 2 ^ (k + 1)) : nb a = k + 1 := by
  obtain ⟨a1, a2, a3⟩ := nb_pos (a := a) (Nat.lt_of_lt_of_le (Nat.two_pow_pos k) h1)
  rcases Nat.lt_trichotomy (nb a) (k + 1) with h | h | h
  · have : 2 ^ nb a ≤ 2 ^ k := Nat.pow_le_pow_right (by omega) (by omega)
    omega
  · exact h
  · have : 2 ^ (k + 1) ≤ 2 ^ (nb a - 1) := Nat.pow_le_pow_right (by omega) (by omega)
    omega
theorem nb_limbs {xs : List Nat} (dx : Dig B xs) (n t : Nat) (hn : xs.length = n + 1) (ht : xs.getD n 0 = t) (h0 : t ≠ 0) : nb (val B xs) = n * 64 + Lib.bitLen t := by
  have h1 := val_take_succD B xs n (by omega)
  rw [List.take_of_length_le (by omega), ht] at h1
  have h2 := val_lt B (xs.take n) (dx.take n)
  rw [List.length_take, Nat.min_eq_left (by omega)] at h2
  have htB : t < B := by rw [← ht]; exact dx.getD B_pos n
  obtain ⟨s1, s2, s3⟩ := bitLen_spec (t + 1) t (by omega) h0 (by rw [← B_pow]; exact htB)
  obtain ⟨L, hL⟩ : ∃ L, Lib.bitLen t = L + 1 := ⟨Lib.bitLen t - 1, by omega⟩
  rw [hL, Nat.add_sub_cancel] at s1
  rw [hL] at s2 ⊢
  have hB : B ^ n = 2 ^ (n * 64) := by rw [B_pow, ← Nat.pow_mul, Nat.mul_comm]
  rw [show n * 64 + (L + 1) = (n * 64 + L) + 1 from by omega]
  refine nb_of ?_ ?_
  · rw [h1, Nat.pow_add, ← hB]
    have : B ^ n * 2 ^ L ≤ B ^ n * t := Nat.mul_le_mul_left _ s1
    omega
  · rw [h1, show n * 64 + L + 1 = n * 64 + (L + 1) from by omega, Nat.pow_add, ← hB]
    have : B ^ n * (t + 1) ≤ B ^ n * 2 ^ (L + 1) := Nat.mul_le_mul_left _ s2
    rw [Nat.mul_add, Nat.mul_one] at this
    omega
set_option maxHeartbeats 1000000 in
theorem Bits_any (w : World) (va : Value) (a K : Nat) (ha : NatV w va a) (hK : K ≤ 1073741824) (la : a < B ^ K) :
    Calls Tryz.prog 38 #[va] w fun e w' => e = .returned (.int .i64 (nb a : Int)) ∧ w.grownBy w' none := by
  obtain ⟨sa, xs, rfl, hx, rfl⟩ := ha
  have h1 := hx.len la
  clear la
  by_cases h0 : xs.length = 0
  · obtain rfl : xs = [] := List.length_eq_zero_iff.1 h0
    simp only [List.length_nil]
    go_enter Tryz.func38, Tryz.ntmps38
    go_wp2_with fail
    go_ret
    exact ⟨rfl, World.grownBy_alloc _ _ _⟩
  · obtain ⟨n, hn⟩ : ∃ n, xs.length = n + 1 := ⟨xs.length - 1, by omega⟩
    obtain ⟨b, o, rfl, cx⟩ := hx.rd.cell (by omega)
    obtain ⟨t, ht⟩ : ∃ t, xs.getD n 0 = t := ⟨_, rfl⟩
    have ct := cx n (by omega)
    rw [get_getD, ht] at ct
    have ht0 : t ≠ 0 := by
      refine hx.top _ ?_
      rw [List.getLast?_eq_getElem?, hn, Nat.add_sub_cancel, List.getElem?_eq_getElem (by omega), get_getD, ht]
    have htB : t < B := by rw [← ht]; exact hx.dig.getD B_pos _
    have HB := Lib.hid (nb_limbs hx.dig n t hn ht ht0)
    have hl := bitLen_le t htB
    rw [hn]
    rw [hn] at h1
    have ct2 := (World.grownBy_alloc w (.cells #[.slice (some ⟨b, o, none⟩) (n + 1) (n + 1)] 24) none).cell ct (by simp)
    have f1 : ((n : Int) + 1 == 0) = false := beq_eq_false_iff_ne.2 (by omega)
    clear cx ht hn h0 ct
    go_enter Tryz.func38, Tryz.ntmps38
    go_wp2_with fail
    refine (len64_any t htB _).mono ?_
    rintro e w' ⟨rfl, rfl⟩
    go_wp2_with fail
    go_ret
    refine ⟨?_, World.grownBy_alloc _ _ _⟩
    rw [HB.out]
    exact congrArg Ending.returned (congrArg (Value.int IntKind.i64) (by omega))
/-- r is the root of a, rounded down. -/
def IsRoot (a r : Nat) : Prop := r * r ≤ a ∧ a < (r + 1) * (r + 1)
theorem grown_heap {w W : World} (h : W.heap = w.heap) (h1 : W.os = w.os) (h2 : W.tape = w.tape) (h3 : W.output = w.output) : w.grownBy W none := ⟨h1, h2, h3, by rw [h]; exact Nat.le_refl _, fun k _ _ => by rw [h]⟩
theorem grown_pre (w : World) {W W' : World} (hg : W.grownBy W' none) (h : W.heap = w.heap) (h1 : W.os = w.os) (h2 : W.tape = w.tape) (h3 : W.output = w.output) : w.grownBy W' none := grown_trans (grown_heap h h1 h2 h3) hg
theorem heap_set {w : World} {g : Nat} {v0 : Value} {t : TypeId} (h : w.heap[g]? = some (.cells #[v0] t (0, 0))) (v : Value) : (w.setCell ⟨g, 0, none⟩ v).heap[g]? = some (.cells #[v] t (0, 0)) := by
  simp [World.setCell, Array.getElem?_modify, h]
theorem heap_unset {w : World} {g k : Nat} {o : Obj} (h : w.heap[k]? = some o) (hk : k ≠ g) (v : Value) : (w.setCell ⟨g, 0, none⟩ v).heap[k]? = some o := (Below.heap_setCell _ _ _ _ (by simpa using hk)).trans h
theorem below_row {a b : World} {N g : Nat} (h : a.grownBy b (some g)) (hN : N ≤ g) (hs : N ≤ a.heap.size) : Below N a b :=
  ⟨h.os, h.tape, h.output, h.size, fun k hk => h.block k (by omega) (by intro e; cases e; omega)⟩
theorem below_none {a b : World} {N : Nat} (h : a.grownBy b none) (hs : N ≤ a.heap.size) : Below N a b :=
  ⟨h.os, h.tape, h.output, h.size, fun k hk => h.block k (by omega) (by simp)⟩
theorem compare_at (w : World) (sa sb : Option Addr) (n m : Nat) (xs ys : List Nat) (hn : xs.length = n) (hm : ys.length = m) (hx : Lm w sa xs) (hy : Lm w sb ys) (bn : n ≤ 1099511627776) (bm : m ≤ 1099511627776) :
    Calls Tryz.prog 82 #[.slice sa n n, .slice sb m m] w (Compared w (val B xs) (val B ys)) := by
  subst hn; subst hm; exact compare_any w sa sb xs ys hx hy bn bm
theorem FreshAt.mono {n m : Nat} {s : Option Addr} (h : FreshAt n s) (hm : m ≤ n) : FreshAt m s := fun ad e => ⟨Nat.le_trans hm (h ad e).1, (h ad e).2⟩
theorem FreshAt.sa {n k : Nat} {s : Option Addr} (h : FreshAt n s) : FreshAt n (Sa s k) := by
  unfold Sa; split
  · exact FreshAt.none n
  · exact h
theorem Lm.lt {w : World} {s : Option Addr} {xs : List Nat} (h : Lm w s xs) {ad : Addr} (e : s = some ad) : ad.block < w.heap.size := by
  rcases h.rd with hn | ⟨b, off, cs, e1, h1, _⟩
  · rw [h.nil hn] at e; cases e
  · rw [e1] at e; cases e; exact h1.lt
theorem Lm.pos {w : World} {s : Option Addr} {xs : List Nat} (h : Lm w s xs) (h0 : 0 < xs.length) : 0 < val B xs := by
  rcases Nat.eq_zero_or_pos (val B xs) with e | e
  · rw [(val_zero_iff B B_pos xs h.top).1 e] at h0; simp at h0
  · exact e
def ClonedLm (w : World) (n : Nat) (xs : List Nat) (e : Ending) (w' : World) : Prop :=
  ∃ (s : Option Addr) (cap : Nat), e = .returned (.slice s n cap) ∧ Lm w' s xs ∧ n ≤ cap ∧ (n = 0 → cap = 0) ∧ FreshAt w.heap.size s ∧ w.grownBy w' none
theorem Clone_lm (w : World) (sa : Option Addr) (n : Nat) (xs : List Nat) (hn : xs.length = n) (hx : Lm w sa xs) (bn : n ≤ 1099511627776) :
    Calls Tryz.prog 84 #[.slice sa n n] w (ClonedLm w n xs) := by
  rcases Nat.eq_zero_or_pos n with h0 | h0
  · subst h0
    obtain rfl := List.length_eq_zero_iff.1 hn
    obtain rfl := hx.nil rfl
    refine (Clone_nil w).mono ?_
    rintro e w' ⟨rfl, rfl⟩
    exact ⟨none, 0, rfl, hx, Nat.le_refl _, fun _ => rfl, FreshAt.none _, grown_refl _ _⟩
  · obtain ⟨b1, o1, cs1, rfl, hb1, hat1⟩ := hx.rd.get 0 (by omega)
    refine (Clone_at w b1 o1 n n cs1 xs hn hb1 hat1 h0 bn).mono ?_
    rintro e w' ⟨g, cap, cs2, rfl, hge, hb2, hat2, hcap, hg2⟩
    rw [hn] at hcap ⊢
    exact ⟨_, cap, rfl, ⟨Rdo.of hb2 hat2, by rintro rfl; simp at hn; omega, hx.top, hx.dig⟩, hcap, fun e => absurd e (by omega), FreshAt.some hge, hg2⟩
end Go.Proofs.YtldkddogadmpbaaGreatDoor
