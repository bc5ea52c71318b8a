/- Plain arithmetic of numbers by limbs: values of lists of digits to a base, sums with carries, products, quotients by guessed digits. Nothing of Go is named here. -/
import Derived.WalkKit
namespace Go.Proofs.YtldkddogadmpbaaGreatDoor.Mat

/-- The value of digits, the lowest first, to the base m. -/
def val (m : Nat) : List Nat → Nat
  | [] => 0
  | x :: xs => x + m * val m xs

/-- Every digit is below the base. -/
def Dig (m : Nat) (xs : List Nat) : Prop := ∀ x ∈ xs, x < m

/-- No 0 on top. -/
def Top (xs : List Nat) : Prop := ∀ x, xs.getLast? = some x → x ≠ 0

theorem val_append (m : Nat) (xs ys : List Nat) : val m (xs ++ ys) = val m xs + m ^ xs.length * val m ys := by
  induction xs with
  | nil => simp [val]
  | cons x xs ih => simp only [List.cons_append, val, ih, List.length_cons]; grind

theorem val_snoc (m : Nat) (xs : List Nat) (y : Nat) : val m (xs ++ [y]) = val m xs + m ^ xs.length * y := by
  rw [val_append]; simp [val]

theorem val_lt (m : Nat) (xs : List Nat) (h : Dig m xs) : val m xs < m ^ xs.length := by
  induction xs with
  | nil => simp [val]
  | cons x xs ih =>
    have h1 := ih (fun y hy => h y (List.mem_cons_of_mem _ hy))
    have h2 : x < m := h x (List.mem_cons_self ..)
    have h3 : m * (val m xs + 1) ≤ m * m ^ xs.length := Nat.mul_le_mul_left m h1
    simp only [val, List.length_cons]
    grind

theorem Dig.nil (m : Nat) : Dig m [] := fun _ h => by cases h
theorem Dig.cons {m x : Nat} {xs : List Nat} (hx : x < m) (h : Dig m xs) : Dig m (x :: xs) := by
  intro y hy; rcases List.mem_cons.1 hy with rfl | hy; exact hx; exact h y hy
theorem Dig.append {m : Nat} {xs ys : List Nat} (h : Dig m xs) (k : Dig m ys) : Dig m (xs ++ ys) := by
  intro y hy; rcases List.mem_append.1 hy with hy | hy; exact h y hy; exact k y hy
theorem Dig.snoc {m y : Nat} {xs : List Nat} (h : Dig m xs) (hy : y < m) : Dig m (xs ++ [y]) := h.append (Dig.cons hy (Dig.nil m))
theorem Dig.take {m : Nat} {xs : List Nat} (h : Dig m xs) (k : Nat) : Dig m (xs.take k) := fun y hy => h y (List.mem_of_mem_take hy)
theorem Dig.drop {m : Nat} {xs : List Nat} (h : Dig m xs) (k : Nat) : Dig m (xs.drop k) := fun y hy => h y (List.mem_of_mem_drop hy)
theorem Dig.get {m : Nat} {xs : List Nat} (h : Dig m xs) (k : Nat) (hk : k < xs.length) : xs[k] < m := h _ (List.getElem_mem hk)
theorem Dig.getD {m : Nat} {xs : List Nat} (h : Dig m xs) (hm : 0 < m) (k : Nat) : xs.getD k 0 < m := by
  rw [List.getD_eq_getElem?_getD]
  cases e : xs[k]? with
  | none => simpa using hm
  | some v => simpa using h v (List.mem_of_getElem? e)
theorem Dig.replicate {m : Nat} (hm : 0 < m) (k : Nat) : Dig m (List.replicate k 0) := fun y hy => by rw [(List.mem_replicate.1 hy).2]; exact hm

theorem val_replicate (m k : Nat) : val m (List.replicate k 0) = 0 := by
  induction k with
  | zero => rfl
  | succ k ih => simp [List.replicate_succ, val, ih]

theorem val_take_succ (m : Nat) (xs : List Nat) (k : Nat) (hk : k < xs.length) : val m (xs.take (k + 1)) = val m (xs.take k) + m ^ k * xs[k] := by
  rw [List.take_succ_eq_append_getElem hk, val_snoc, List.length_take, Nat.min_eq_left (by omega)]

theorem val_take_succD (m : Nat) (xs : List Nat) (k : Nat) (hk : k < xs.length) : val m (xs.take (k + 1)) = val m (xs.take k) + m ^ k * xs.getD k 0 := by
  rw [val_take_succ m xs k hk]; simp [List.getD_eq_getElem?_getD, hk]

theorem val_take_drop (m : Nat) (xs : List Nat) (k : Nat) : val m xs = val m (xs.take k) + m ^ (xs.take k).length * val m (xs.drop k) := by
  rw [← val_append, List.take_append_drop]

theorem val_split (m : Nat) (xs : List Nat) (k : Nat) (hk : k ≤ xs.length) : val m xs = val m (xs.take k) + m ^ k * val m (xs.drop k) := by
  have := val_take_drop m xs k
  rwa [List.length_take, Nat.min_eq_left hk] at this

/-- Numbers without a 0 on top are at least their highest place. -/
theorem val_ge (m : Nat) (xs : List Nat) (hx : xs ≠ []) (ht : Top xs) : m ^ (xs.length - 1) ≤ val m xs := by
  have e := List.dropLast_concat_getLast hx
  have h : xs.getLast hx ≠ 0 := ht _ (List.getLast?_eq_some_getLast hx)
  rw [← e, val_snoc]
  simp only [List.length_append, List.length_dropLast, List.length_cons, List.length_nil]
  have : m ^ (xs.length - 1) * 1 ≤ m ^ (xs.length - 1) * xs.getLast hx := Nat.mul_le_mul_left _ (by omega)
  have e2 : xs.length - 1 + (0 + 1) - 1 = xs.length - 1 := by omega
  rw [e2]; omega

theorem val_pos (m : Nat) (hm : 0 < m) (xs : List Nat) (hx : xs ≠ []) (ht : Top xs) : 0 < val m xs :=
  Nat.lt_of_lt_of_le (Nat.pow_pos hm) (val_ge m xs hx ht)

theorem val_zero_iff (m : Nat) (hm : 0 < m) (xs : List Nat) (ht : Top xs) : val m xs = 0 ↔ xs = [] := by
  constructor
  · intro h
    refine Classical.byContradiction fun hx => ?_
    have := val_pos m hm xs hx ht
    omega
  · rintro rfl; rfl

/-- More digits, a greater number. -/
theorem val_lt_of_length (m : Nat) (hm : 0 < m) (xs ys : List Nat) (hd : Dig m xs) (ht : Top ys) (hl : xs.length < ys.length) : val m xs < val m ys := by
  have h1 := val_lt m xs hd
  have h2 := val_ge m ys (by intro h; simp [h] at hl) ht
  have h3 : m ^ xs.length ≤ m ^ (ys.length - 1) := Nat.pow_le_pow_right hm (by omega)
  omega

theorem val_inj (m : Nat) : ∀ (xs ys : List Nat), Dig m xs → Dig m ys → xs.length = ys.length → val m xs = val m ys → xs = ys
  | [], [], _, _, _, _ => rfl
  | [], y :: ys, _, _, h, _ => by simp at h
  | x :: xs, [], _, _, h, _ => by simp at h
  | x :: xs, y :: ys, hx, hy, h, e => by
    have a : x < m := hx x (List.mem_cons_self ..)
    have b : y < m := hy y (List.mem_cons_self ..)
    simp only [val] at e
    have e1 : x = y := by
      have := congrArg (· % m) e
      simpa [Nat.mod_eq_of_lt a, Nat.mod_eq_of_lt b] using this
    subst e1
    have e2 : val m xs = val m ys := by
      have : m * val m xs = m * val m ys := by omega
      exact Nat.eq_of_mul_eq_mul_left (by omega) this
    rw [val_inj m xs ys (fun z hz => hx z (List.mem_cons_of_mem _ hz)) (fun z hz => hy z (List.mem_cons_of_mem _ hz)) (by simpa using h) e2]

theorem val_uniq (m : Nat) (hm : 0 < m) (xs ys : List Nat) (hx : Dig m xs) (hy : Dig m ys) (tx : Top xs) (ty : Top ys) (e : val m xs = val m ys) : xs = ys := by
  rcases Nat.lt_trichotomy xs.length ys.length with h | h | h
  · have := val_lt_of_length m hm xs ys hx ty h; omega
  · exact val_inj m xs ys hx hy h e
  · have := val_lt_of_length m hm ys xs hy tx h; omega

/-- The first digit from above in which two rows part decides. -/
theorem val_lt_at (m : Nat) (xs ys : List Nat) (k : Nat) (hl : xs.length = ys.length) (hk : k < xs.length) (hx : Dig m xs) (hd : xs.drop (k + 1) = ys.drop (k + 1)) (hlt : xs[k] < ys[k]'(by omega)) : val m xs < val m ys := by
  have e1 := val_split m xs (k + 1) (by omega)
  have e2 := val_split m ys (k + 1) (by omega)
  rw [val_take_succ m xs k hk] at e1
  rw [val_take_succ m ys k (by omega)] at e2
  have h1 := val_lt m (xs.take k) (hx.take k)
  rw [List.length_take, Nat.min_eq_left (by omega)] at h1
  have h2 : m ^ k * (xs[k] + 1) ≤ m ^ k * ys[k]'(by omega) := Nat.mul_le_mul_left _ hlt
  rw [hd] at e1
  rw [Nat.mul_add] at h2
  omega

/-- Without noughts on top: the longest beginning whose top isn't 0. -/
theorem val_take_of_noughts (m : Nat) (xs : List Nat) (n : Nat) (h : ∀ x ∈ xs.drop n, x = 0) : val m (xs.take n) = val m xs := by
  rw [val_take_drop m xs n]
  have : val m (xs.drop n) = 0 := by
    have e : xs.drop n = List.replicate (xs.drop n).length 0 := List.eq_replicate_iff.2 ⟨rfl, h⟩
    rw [e, val_replicate]
  rw [this]; simp

/-- One step of a sum with a carry. -/
theorem carry_step (m k v x y c s : Nat) (h : v + c * m ^ k = s) : v + m ^ k * ((x + y + c) % m) + (x + y + c) / m * m ^ (k + 1) = s + m ^ k * x + m ^ k * y := by
  have e := Nat.mod_add_div (x + y + c) m
  generalize (x + y + c) % m = r at *
  generalize (x + y + c) / m = q at *
  have : m ^ k * (r + m * q) = m ^ k * (x + y + c) := by rw [e]
  rw [Nat.pow_succ]
  grind

/-- One step of a difference with a borrow. -/
theorem borrow_step (m k v x y c s t : Nat) (hx : x < m) (hy : y < m) (hc : c ≤ 1) (h : v + t = s + c * m ^ k) :
    v + m ^ k * ((x + m - y - c) % m) + (t + m ^ k * y) = s + m ^ k * x + (if x < y + c then 1 else 0) * m ^ (k + 1) := by
  have e : (x + m - y - c) % m + y + c = x + (if x < y + c then 1 else 0) * m := by
    split
    · rw [Nat.mod_eq_of_lt (by omega)]; omega
    · have : x + m - y - c = (x - y - c) + m := by omega
      rw [this, Nat.add_mod_right, Nat.mod_eq_of_lt (by omega)]; omega
  generalize (x + m - y - c) % m = r at *
  generalize (if x < y + c then 1 else 0) = q at *
  have : m ^ k * (r + y + c) = m ^ k * (x + q * m) := by rw [e]
  rw [Nat.pow_succ]
  grind

end Go.Proofs.YtldkddogadmpbaaGreatDoor.Mat
