/- What the laws lean on, part 22. -/
import Derived.Deep.RegionHeld3
import Derived.Test.YthbhgcaemcobeaaGreatDoorMp18
import Derived.Test.YthbhgcaemcobeaaGreatDoorMp21
import Derived.Test.YthbhgcaemcobeaaGreatDoorMp17
import Derived.Test.YthbhgcaemcobeaaGreatDoorMp20
namespace Go.Proofs.YthbhgcaemcobeaaGreatDoor
open Go.RowKit Mat Ex
set_option linter.unusedVariables false
set_option linter.unusedSimpArgs false
def RQ (w : World) (v : Value) (r : Rat) (E : Nat) : Prop := ∃ (g : Int) (s : Option Addr) (l c : Nat) (g' : Int) (s' : Option Addr) (l' c' : Nat) (n d : Int), v = .agg #[.int .i64 g, .slice s l c, .int .i64 g', .slice s' l' c'] ∧ RIntV w (.agg #[.int .i64 g, .slice s l c]) n ∧ RIntV w (.agg #[.int .i64 g', .slice s' l' c']) d ∧ Hid (0 < d ∧ Rat.divInt n d = r ∧ n.natAbs < D ^ E ∧ d.natAbs < D ^ E)
theorem RQ.kept {w w' : World} {v : Value} {r : Rat} {E : Nat} (h : RQ w v r E) (hg : w.grownBy w' none) : RQ w' v r E := by
  obtain ⟨g, s, l, c, g', s', l', c', n, d, e, h1, h2, h3⟩ := h
  exact ⟨g, s, l, c, g', s', l', c', n, d, e, h1.kept hg, h2.kept hg, h3⟩
theorem dpw {a E M : Nat} (h : a < D ^ E) (hE : E ≤ M) : a < D ^ M := Nat.lt_of_lt_of_le h (Nat.pow_le_pow_right D_pos hE)
theorem dp6 {a E : Nat} (h : a < D ^ E) (hE : E ≤ 1000000) : a < D ^ 1000000 := by
  obtain ⟨M, hM⟩ : ∃ M, M = 1000000 := ⟨_, rfl⟩
  rw [← hM] at hE ⊢
  exact dpw h hE
theorem dp4 {a E : Nat} (h : a < D ^ E) (hE : E ≤ 400000) : a < D ^ 400000 := by
  obtain ⟨M, hM⟩ : ∃ M, M = 400000 := ⟨_, rfl⟩
  rw [← hM] at hE ⊢
  exact dpw h hE
theorem RQ.mono {w : World} {v : Value} {r : Rat} {E M : Nat} (h : RQ w v r E) (hE : E ≤ M) : RQ w v r M := by
  obtain ⟨g, s, l, c, g', s', l', c', n, d, e, h1, h2, h3, h4, h5, h6⟩ := h
  exact ⟨g, s, l, c, g', s', l', c', n, d, e, h1, h2, h3, h4, dpw h5 hE, dpw h6 hE⟩
def RetRQ (w : World) (r : Rat) (E : Nat) (e : Ending) (w' : World) : Prop := ∃ v, e = .returned v ∧ RQ w' v r E ∧ w.grownBy w' none
def RetRQE (w : World) (r : Rat) (E : Nat) (code : Int) (e : Ending) (w' : World) : Prop := ∃ v, e = .returned (.tuple #[v, .int .i64 code]) ∧ RQ w' v r E ∧ w.grownBy w' none
theorem RQ.of {w : World} {g g' : Int} {s s' : Option Addr} {l c l' c' : Nat} {n d : Int} {r : Rat} {E : Nat} (h1 : RIntV w (.agg #[.int .i64 g, .slice s l c]) n) (h2 : RIntV w (.agg #[.int .i64 g', .slice s' l' c']) d) (h3 : 0 < d) (h4 : Rat.divInt n d = r) (h5 : n.natAbs < D ^ E) (h6 : d.natAbs < D ^ E) : RQ w (.agg #[.int .i64 g, .slice s l c, .int .i64 g', .slice s' l' c']) r E :=
  ⟨g, s, l, c, g', s', l', c', n, d, rfl, h1, h2, h3, h4, h5, h6⟩
theorem dmul_bd {x y : Int} {E F : Nat} (hx : x.natAbs < D ^ E) (hy : y.natAbs < D ^ F) : (x * y).natAbs < D ^ (E + F) := by
  rw [Int.natAbs_mul, Nat.pow_add]; exact Nat.mul_lt_mul'' hx hy
theorem dadd_bd {x y : Int} {E : Nat} (hx : x.natAbs < D ^ E) (hy : y.natAbs < D ^ E) : (x + y).natAbs < D ^ (E + 1) := by
  have h1 := Int.natAbs_add_le x y
  rw [Nat.pow_succ]
  have h2 : D ^ E * 2 ≤ D ^ E * D := Nat.mul_le_mul_left _ (by unfold D; omega)
  omega
theorem dneg_bd {x : Int} {E : Nat} (hx : x.natAbs < D ^ E) : (-x).natAbs < D ^ E := by rw [Int.natAbs_neg]; exact hx
theorem rq_add {n d m e : Int} {r t : Rat} (hd : 0 < d) (he : 0 < e) (h1 : Rat.divInt n d = r) (h2 : Rat.divInt m e = t) : Rat.divInt (n * e + m * d) (d * e) = r + t := by
  rw [← h1, ← h2, Rat.divInt_add_divInt _ _ (by omega) (by omega)]
theorem rq_add1 {n d m : Int} {r t : Rat} (hd : 0 < d) (h1 : Rat.divInt n d = r) (h2 : Rat.divInt m d = t) : Rat.divInt (n + m) d = r + t := by
  rw [← rq_add hd hd h1 h2, ← Int.add_mul, Rat.divInt_mul_right (by omega)]
theorem rq_neg {n d : Int} {r : Rat} (h1 : Rat.divInt n d = r) : Rat.divInt (-n) d = -r := by rw [← h1, Rat.neg_divInt]
theorem rq_mul {n d m e : Int} {r t : Rat} (h1 : Rat.divInt n d = r) (h2 : Rat.divInt m e = t) : Rat.divInt (n * m) (d * e) = r * t := by
  rw [← h1, ← h2, Rat.divInt_mul_divInt]
theorem rq_div {n d m e : Int} {r t : Rat} (h1 : Rat.divInt n d = r) (h2 : Rat.divInt m e = t) : Rat.divInt (n * e) (d * m) = r / t := by
  rw [← h1, ← h2, Rat.div_def, Rat.inv_divInt, Rat.divInt_mul_divInt]
theorem rq_num_ne {n d : Int} {r : Rat} (h : Rat.divInt n d = r) (h0 : r ≠ 0) : n ≠ 0 := fun e => h0 (by rw [← h, e, Rat.zero_divInt])
theorem rq_sign {n d : Int} {r : Rat} (hd : 0 < d) (h1 : Rat.divInt n d = r) : n.sign = r.num.sign := by
  have h := rsg_divInt (n := n) hd
  rw [h1] at h; exact h.symm
theorem RRdo.keeps {W W' : World} {sa : Option Addr} {xs : List Nat} (h : RRdo W sa xs) (k : Keeps limbT W W') : RRdo W' sa xs := by
  rcases h with h | ⟨b, off, cs, e, h1, h2⟩
  · exact Or.inl h
  · exact Or.inr ⟨b, off, cs, e, k b cs _ _ rfl h1, h2⟩
theorem RefV.keeps {W W' : World} {v : Value} {n : Nat} (h : RefV W v n) (k : Keeps limbT W W') : RefV W' v n := by
  obtain ⟨s, l, cap, xs, e, h1, h2, h3, h4⟩ := h
  exact ⟨s, l, cap, xs, e, h1, h2, h3.keeps k, h4⟩
theorem RIntV.keeps {W W' : World} {v : Value} {z : Int} (h : RIntV W v z) (k : Keeps limbT W W') : RIntV W' v z := by
  obtain ⟨g, s, l, c, e, h1, h2⟩ := h
  exact ⟨g, s, l, c, e, h1, h2.keeps k⟩
theorem RQ.keeps {W W' : World} {v : Value} {r : Rat} {E : Nat} (h : RQ W v r E) (k : Keeps limbT W W') : RQ W' v r E := by
  obtain ⟨g, s, l, c, g', s', l', c', n, d, e, h1, h2, h3⟩ := h
  exact ⟨g, s, l, c, g', s', l', c', n, d, e, h1.keeps k, h2.keeps k, h3⟩
def RF (w : World) (v : Value) (n d : Int) : Prop := ∃ (g : Int) (s : Option Addr) (l c : Nat) (g' : Int) (s' : Option Addr) (l' c' : Nat), v = .agg #[.int .i64 g, .slice s l c, .int .i64 g', .slice s' l' c'] ∧ RIntV w (.agg #[.int .i64 g, .slice s l c]) n ∧ RIntV w (.agg #[.int .i64 g', .slice s' l' c']) d
theorem RF.keeps {W W' : World} {v : Value} {n d : Int} (h : RF W v n d) (k : Keeps limbT W W') : RF W' v n d := by
  obtain ⟨g, s, l, c, g', s', l', c', e, h1, h2⟩ := h
  exact ⟨g, s, l, c, g', s', l', c', e, h1.keeps k, h2.keeps k⟩
theorem RF.rq {w : World} {v : Value} {n d : Int} {r : Rat} {E : Nat} (h : RF w v n d) (h0 : 0 < d) (hr : Rat.divInt n d = r) (hn : n.natAbs < D ^ E) (hd : d.natAbs < D ^ E) : RQ w v r E := by
  obtain ⟨g, s, l, c, g', s', l', c', e, h1, h2⟩ := h
  exact ⟨g, s, l, c, g', s', l', c', n, d, e, h1, h2, h0, hr, hn, hd⟩
theorem RQ.rf {w : World} {v : Value} {r : Rat} {E : Nat} (h : RQ w v r E) : ∃ n d, RF w v n d ∧ 0 < d ∧ Rat.divInt n d = r ∧ n.natAbs < D ^ E ∧ d.natAbs < D ^ E := by
  obtain ⟨g, s, l, c, g', s', l', c', n, d, e, h1, h2, h3⟩ := h
  exact ⟨n, d, ⟨g, s, l, c, g', s', l', c', e, h1, h2⟩, h3.out⟩
def sRN (n : Nat) : Sp := .of (.agg 1) (fun v W => RefV W v n) (fun v W h => by
  obtain ⟨s, k, cap, xs, rfl, _⟩ := h
  exact ⟨cellf [.slice s k cap], cellf_one (by simp [Value.oneCell']), rfl⟩) (fun v W W' k h => h.keeps k)
def sR (z : Int) : Sp := .of (.agg 2) (fun v W => RIntV W v z) (fun v W h => by
  obtain ⟨g, s, l, c, rfl, _⟩ := h
  exact ⟨cellf [.int .i64 g, .slice s l c], cellf_one (by simp [Value.oneCell']), rfl⟩) (fun v W W' k h => h.keeps k)
def sRF (n d : Int) : Sp := .of (.agg 4) (fun v W => RF W v n d) (fun v W h => by
  obtain ⟨g, s, l, c, g', s', l', c', rfl, _⟩ := h
  exact ⟨cellf [.int .i64 g, .slice s l c, .int .i64 g', .slice s' l' c'], cellf_one (by simp [Value.oneCell']), rfl⟩) (fun v W W' k h => h.keeps k)
def sRNN (n m : Nat) : Sp := .of (.tup [(none, 2), (none, 2)]) (fun v W => ∃ u t, v = .tuple #[u, t] ∧ RefV W u n ∧ RefV W t m) (fun v W h => by
  obtain ⟨u, t, rfl, ⟨s, k, c, _, rfl, _⟩, s', k', c', _, rfl, _⟩ := h
  exact fits2 (u := .bool true) (cs := [.slice s k c, .slice s' k' c']) (by simp [Value.oneCell']) rfl) (fun v W W' k h => by obtain ⟨u, t, e, h, h'⟩ := h; exact ⟨u, t, e, h.keeps k, h'.keeps k⟩)
def sRR (n m : Int) : Sp := .of (.tup [(none, 3), (none, 3)]) (fun v W => ∃ u t, v = .tuple #[u, t] ∧ RIntV W u n ∧ RIntV W t m) (fun v W h => by
  obtain ⟨u, t, rfl, ⟨g, s, k, c, rfl, _⟩, g', s', k', c', rfl, _⟩ := h
  exact fits2 (u := .bool true) (cs := [.int .i64 g, .slice s k c, .int .i64 g', .slice s' k' c']) (by simp [Value.oneCell']) rfl) (fun v W W' k h => by obtain ⟨u, t, e, h, h'⟩ := h; exact ⟨u, t, e, h.keeps k, h'.keeps k⟩)
theorem rnn1 {n m : Nat} {a b : Value} {W : World} : (sRNN n m).F (.tuple #[a, b]) W → RefV W a n := by rintro ⟨u, t, e, h, _⟩; cases e; exact h
theorem rnn2 {n m : Nat} {a b : Value} {W : World} : (sRNN n m).F (.tuple #[a, b]) W → RefV W b m := by rintro ⟨u, t, e, _, h⟩; cases e; exact h
theorem rr1 {n m : Int} {a b : Value} {W : World} : (sRR n m).F (.tuple #[a, b]) W → RIntV W a n := by rintro ⟨u, t, e, h, _⟩; cases e; exact h
theorem rr2 {n m : Int} {a b : Value} {W : World} : (sRR n m).F (.tuple #[a, b]) W → RIntV W b m := by rintro ⟨u, t, e, _, h⟩; cases e; exact h
theorem rs1 {W : World} {a b : Value} {z : Int} : RIntV W (.agg #[a, b]) z → a = .int .i64 z.sign := by
  rintro ⟨g, s, l, c, e, h1, h2⟩; cases e; rw [show g = z.sign from h1]
theorem rs2 {W : World} {a b : Value} {z : Int} : RIntV W (.agg #[a, b]) z → RefV W (.agg #[b]) z.natAbs := by
  rintro ⟨g, s, l, c, e, h1, h2⟩; cases e; exact h2
theorem rn {W : World} {a b c d : Value} {n m : Int} : RF W (.agg #[a, b, c, d]) n m → RIntV W (.agg #[a, b]) n := by
  rintro ⟨g, s, l, k, g', s', l', k', e, h, h'⟩; cases e; exact h
theorem rd {W : World} {a b c d : Value} {n m : Int} : RF W (.agg #[a, b, c, d]) n m → RIntV W (.agg #[c, d]) m := by
  rintro ⟨g, s, l, k, g', s', l', k', e, h, h'⟩; cases e; exact h'
theorem mkrf {W : World} {a b c d : Value} {n m : Int} (h : RIntV W (.agg #[a, b]) n) (h' : RIntV W (.agg #[c, d]) m) : RF W (.agg #[a, b, c, d]) n m := by
  obtain ⟨g, s, l, k, e, h1⟩ := h
  obtain ⟨g', s', l', k', e', h1'⟩ := h'
  cases e; cases e'
  exact ⟨g, s, l, k, g', s', l', k', rfl, ⟨g, s, l, k, rfl, h1⟩, g', s', l', k', rfl, h1'⟩
def RetRF (w : World) (n d : Int) (e : Ending) (w' : World) : Prop := ∃ v, e = .returned v ∧ RF w' v n d ∧ w.grownBy w' none
section
variable {P : Program} {f : FuncId} {args : Array Value} {W : World}
theorem toRNN {n m : Nat} (h : Calls P f args W (fun e w' => ∃ v u, e = .returned (.tuple #[v, u]) ∧ RefV w' v n ∧ RefV w' u m ∧ W.grownBy w' none)) : Calls P f args W (Ret W (sRNN n m).F) :=
  h.mono fun _ _ ⟨v, u, a, h, h', g⟩ => ⟨_, a, ⟨v, u, rfl, h, h'⟩, g⟩
theorem toRR {n m : Int} (h : Calls P f args W (fun e w' => ∃ v u, e = .returned (.tuple #[v, u]) ∧ RIntV w' v n ∧ RIntV w' u m ∧ W.grownBy w' none)) : Calls P f args W (Ret W (sRR n m).F) :=
  h.mono fun _ _ ⟨v, u, a, h, h', g⟩ => ⟨_, a, ⟨v, u, rfl, h, h'⟩, g⟩
end
theorem d51 : (1 : Int).natAbs < D ^ 5 := by unfold D; decide
theorem dint {n : Int} (h1 : -9223372036854775808 ≤ n) (h2 : n ≤ 9223372036854775807) : n.natAbs < D ^ 5 := by
  have : (100000000000000000000 : Nat) = D ^ 5 := by unfold D; decide
  omega
theorem rFOf_any (w : World) (n : Int) (h1 : -9223372036854775808 ≤ n) (h2 : n ≤ 9223372036854775807) :
    Calls Tryz.prog 69 #[.int .i64 n] w (RetRF w n 1) := by
  refine exec_calls mixed Tryz.func69 [sZ n] [sR n, sR 1] (.cons rfl .nil) (rs := [cl 1 42 [on 0], cl 2 42 [.v false [.lit (.int .i64 1)]]]) (out := .v true [.an 1 0, .an 1 1, .an 2 0, .an 2 1]) (nc := 3) (by kernel_rfl)
      ⟨fun σ W g h hb => arg1 (h 0 rfl) (rZOf_any W n h1 h2),
      fun σ W g h hb => rZOf_any W 1 (by omega) (by omega),
      trivial⟩ fun τ W g h => ⟨_, rfl, mkrf (h 1 rfl) (h 2 rfl), g⟩
theorem rFFrac_any (w : World) (n d : Int) (h1 : -9223372036854775808 ≤ n) (h2 : n ≤ 9223372036854775807) (h3 : -9223372036854775808 ≤ d) (h4 : d ≤ 9223372036854775807) :
    Calls Tryz.prog 72 #[.int .i64 n, .int .i64 d] w (RetRF w n d) := by
  refine exec_calls mixed Tryz.func72 [sZ n, sZ d] [sR n, sR d] (.cons rfl (.cons rfl .nil)) (rs := [cl 2 42 [on 0], cl 3 42 [on 1]]) (out := .v true [.an 2 0, .an 2 1, .an 3 0, .an 3 1]) (nc := 4) (by kernel_rfl)
      ⟨fun σ W g h hb => arg1 (h 0 rfl) (rZOf_any W n h1 h2),
      fun σ W g h hb => arg1 (h 1 rfl) (rZOf_any W d h3 h4),
      trivial⟩ fun τ W g h => ⟨_, rfl, mkrf (h 2 rfl) (h 3 rfl), g⟩
theorem rFMul_any (w : World) (va vb : Value) (n d m e : Int) (Ha : RF w va n d) (Hb : RF w vb m e) (E : Nat) (hE : E ≤ 400000) (l1 : n.natAbs < D ^ E) (l2 : d.natAbs < D ^ E) (l3 : m.natAbs < D ^ E) (l4 : e.natAbs < D ^ E) :
    Calls Tryz.prog 71 #[va, vb] w (RetRF w (n * m) (d * e)) := by
  refine exec_calls mixed Tryz.func71 [sRF n d, sRF m e] [sR (n * m), sR (d * e)] (.cons Ha (.cons Hb .nil)) (rs := [cl 2 88 [ag 2 0, ag 2 1], cl 3 88 [.v true [.an 0 2, .an 0 3], .v true [.an 1 2, .an 1 3]]]) (out := .v true [.an 2 0, .an 2 1, .an 3 0, .an 3 1]) (nc := 4) (by kernel_rfl)
      ⟨fun σ W g h hb => rZMul_any W _ _ _ _ (rn (h 0 rfl)) (rn (h 1 rfl)) (dp6 l1 (by omega)) (dp6 l3 (by omega)),
      fun σ W g h hb => rZMul_any W _ _ _ _ (rd (h 0 rfl)) (rd (h 1 rfl)) (dp6 l2 (by omega)) (dp6 l4 (by omega)),
      trivial⟩ fun τ W g h => ⟨_, rfl, mkrf (h 2 rfl) (h 3 rfl), g⟩
theorem zcmp_same {x y : Int} (h : x = y) : zcmp x y = 0 := by unfold zcmp; rw [if_neg (by omega), if_pos h]
theorem zcmp_ne {x y : Int} (h : x ≠ y) : zcmp x y ≠ 0 := by unfold zcmp; split <;> simp [h]
theorem rFAdd_any (w : World) (va vb : Value) (n d m e : Int) (Ha : RF w va n d) (Hb : RF w vb m e) (E : Nat) (hE : E ≤ 400000) (l1 : n.natAbs < D ^ E) (l2 : d.natAbs < D ^ E) (l3 : m.natAbs < D ^ E) (l4 : e.natAbs < D ^ E) :
    Calls Tryz.prog 70 #[va, vb] w (fun x w' => ∃ v, x = .returned v ∧ RF w' v (if d = e then n + m else n * e + m * d) (if d = e then d else d * e) ∧ w.grownBy w' none) := by
  by_cases h1 : d = e
  · skip
    rw [if_pos h1, if_pos h1]
    refine exec_calls mixed Tryz.func70 [sRF n d, sRF m e] [sV (.int .i64 0), sR (n + m)] (.cons Ha (.cons Hb .nil)) (rs := [cl 2 47 [.v true [.an 0 2, .an 0 3], .v true [.an 1 2, .an 1 3]], cl 3 95 [ag 2 0, ag 2 1]]) (out := .v true [.an 3 0, .an 3 1, .an 0 2, .an 0 3]) (nc := 4) (by kernel_rfl)
        ⟨fun σ W g h hb => toV (rZCmp_any W _ _ _ _ (rd (h 0 rfl)) (rd (h 1 rfl)) (dp6 l2 (by omega)) (dp6 l4 (by omega))) (by rw [zcmp_same h1]),
        fun σ W g h hb => rZAdd_any W _ _ _ _ (rn (h 0 rfl)) (rn (h 1 rfl)) (dp6 l1 (by omega)) (dp6 l3 (by omega)),
        trivial⟩ fun τ W g h => ⟨_, rfl, mkrf (h 3 rfl) (rd (h 0 rfl)), g⟩
  · skip
    rw [if_neg h1, if_neg h1]
    refine exec_calls mixed Tryz.func70 [sRF n d, sRF m e] [sZ (zcmp d e), sV (.bool false), sR (n * e), sR (m * d), sR (n * e + m * d), sR (d * e)] (.cons Ha (.cons Hb .nil)) (rs := [cl 2 47 [.v true [.an 0 2, .an 0 3], .v true [.an 1 2, .an 1 3]], co 3 (.binOp .eql 3 (.tmp 9) (.const (.int .i64 0)) 3) 4 [on 2, .v false [.lit (.int .i64 0)]] [0, 1, 2] [], cl 4 88 [ag 2 0, .v true [.an 1 2, .an 1 3]], cl 5 88 [ag 2 1, .v true [.an 0 2, .an 0 3]], cl 6 95 [ag 2 4, ag 2 5], cl 7 88 [.v true [.an 0 2, .an 0 3], .v true [.an 1 2, .an 1 3]]]) (out := .v true [.an 6 0, .an 6 1, .an 7 0, .an 7 1]) (nc := 8) (by kernel_rfl)
        ⟨fun σ W g h hb => toZ (rZCmp_any W _ _ _ _ (rd (h 0 rfl)) (rd (h 1 rfl)) (dp6 l2 (by omega)) (dp6 l4 (by omega))) rfl,
        fun σ W g h hb => fun ρ o ho _ hv => ⟨_, bin_told ho ((two_vals hv).1.trans (h 2 rfl)) (two_vals hv).2 rfl, congrArg Value.bool (beq_eq_false_iff_ne.2 (zcmp_ne h1))⟩,
        fun σ W g h hb => rZMul_any W _ _ _ _ (rn (h 0 rfl)) (rd (h 1 rfl)) (dp6 l1 (by omega)) (dp6 l4 (by omega)),
        fun σ W g h hb => rZMul_any W _ _ _ _ (rn (h 1 rfl)) (rd (h 0 rfl)) (dp6 l3 (by omega)) (dp6 l2 (by omega)),
        fun σ W g h hb => rZAdd_any W _ _ _ _ (h 4 rfl) (h 5 rfl) (dp6 (dmul_bd l1 l4) (by omega)) (dp6 (dmul_bd l3 l2) (by omega)),
        fun σ W g h hb => rZMul_any W _ _ _ _ (rd (h 0 rfl)) (rd (h 1 rfl)) (dp6 l2 (by omega)) (dp6 l4 (by omega)),
        trivial⟩ fun τ W g h => ⟨_, rfl, mkrf (h 6 rfl) (h 7 rfl), g⟩
theorem natAbs_ediv_dvd {x : Int} {G : Nat} (h : G ∣ x.natAbs) (hG : 0 < G) : (x / (G : Int)).natAbs = x.natAbs / G := by
  obtain ⟨k, hk⟩ := Int.ofNat_dvd_left.2 h
  rw [hk, Int.mul_ediv_cancel_left _ (by omega), Int.natAbs_mul, Int.natAbs_natCast, Nat.mul_div_cancel_left _ hG]
theorem rq_low {n d : Int} {r : Rat} (hd : 0 < d) (h : Rat.divInt n d = r) : r.num.natAbs = n.natAbs / Nat.gcd n.natAbs d.natAbs ∧ ((r.den : Nat) : Int).natAbs = d.natAbs / Nat.gcd n.natAbs d.natAbs ∧ r.num.sign = n.sign ∧ 0 < Nat.gcd n.natAbs d.natAbs := by
  have hp : 0 < Nat.gcd n.natAbs d.natAbs := Nat.gcd_pos_of_pos_right _ (by omega)
  have h1 := fmake_pos n d hd
  rw [h] at h1
  refine ⟨?_, ?_, (rq_sign hd h).symm, hp⟩
  · rw [h1.1]; exact natAbs_ediv_dvd (Nat.gcd_dvd_left _ _) hp
  · rw [h1.2]; exact natAbs_ediv_dvd (Nat.gcd_dvd_right _ _) hp
theorem rq_nle {n d : Int} {r : Rat} {E : Nat} (hd : 0 < d) (h : Rat.divInt n d = r) (hn : n.natAbs < D ^ E) : r.num.natAbs < D ^ E := by
  rw [(rq_low hd h).1]; exact Nat.lt_of_le_of_lt (Nat.div_le_self _ _) hn
theorem rq_dle {n d : Int} {r : Rat} {E : Nat} (hd : 0 < d) (h : Rat.divInt n d = r) (hn : d.natAbs < D ^ E) : ((r.den : Nat) : Int).natAbs < D ^ E := by
  rw [(rq_low hd h).2.1]; exact Nat.lt_of_le_of_lt (Nat.div_le_self _ _) hn
theorem ztext_lenD {s : ByteArray} {z : Int} {E : Nat} (h : ZTextOf s z) (hz : z.natAbs < D ^ E) (hE : 1 ≤ E) : s.size ≤ 4 * E + 1 := by
  obtain ⟨l, hl, vl, el⟩ := h
  have h1 := dlen hl vl hz hE
  have h2 := congrArg List.length el
  rw [bts_len] at h2
  rw [h2]
  split
  · rw [List.length_cons]; omega
  · omega
theorem rFLow_any (w : World) (va : Value) (n d : Int) (r : Rat) (Ha : RF w va n d) (E : Nat) (hE : E ≤ 200000) (h0 : 0 < d) (hr : Rat.divInt n d = r) (l1 : n.natAbs < D ^ E) (l2 : d.natAbs < D ^ E) :
    Calls Tryz.prog 53 #[va] w (fun e w' => ∃ v u, e = .returned (.tuple #[v, u]) ∧ RIntV w' v r.num ∧ RIntV w' u (r.den : Int) ∧ w.grownBy w' none) := by
  have hl := rq_low h0 hr
  obtain ⟨G, hG⟩ : ∃ G, Nat.gcd n.natAbs d.natAbs = G := ⟨_, rfl⟩
  rw [hG] at hl
  have gb : G < D ^ E := by rw [← hG]; exact Nat.lt_of_le_of_lt (Nat.gcd_le_right _ (by omega)) l2
  have hs : n.natAbs / G = 0 ∨ r.num.sign = n.sign := .inr hl.2.2.1
  refine exec_calls mixed Tryz.func53 [sRF n d] [sRN G, sRNN (n.natAbs / G) (n.natAbs % G), sRNN (d.natAbs / G) (d.natAbs % G), sR r.num, sR (r.den : Int)] (.cons Ha .nil) (rs := [cl 1 91 [.v true [.an 0 1], .v true [.an 0 3]], cl 2 92 [.v true [.an 0 1], ag 1 1], cl 3 92 [.v true [.an 0 3], ag 1 1], cl 4 82 [on 0, ag 1 2], cl 5 82 [.v false [.lit (.int .i64 1)], ag 1 3]]) (out := .tup [(true, [.an 4 0, .an 4 1]), (true, [.an 5 0, .an 5 1])]) (nc := 6) (by kernel_rfl)
      ⟨fun σ W g h hb => hG ▸ rGcd_any W _ _ n.natAbs d.natAbs (rs2 (rn (h 0 rfl))) (rs2 (rd (h 0 rfl))) (dp4 l1 (by omega)) (dp4 l2 (by omega)),
      fun σ W g h hb => toRNN (rDiv_any W _ _ _ _ (rs2 (rn (h 0 rfl))) (h 1 rfl) (dp4 l1 (by omega)) (dp4 gb (by omega)) hl.2.2.2),
      fun σ W g h hb => toRNN (rDiv_any W _ _ _ _ (rs2 (rd (h 0 rfl))) (h 1 rfl) (dp4 l2 (by omega)) (dp4 gb (by omega)) hl.2.2.2),
      fun σ W g h hb => argl (congrArg (fun x => [x, _]) (rs1 (rn (h 0 rfl)))) (rMade_any W _ n.sign _ r.num (rnn1 (h 2 rfl)) hl.1 hs),
      fun σ W g h hb => rMade_any W _ 1 _ (r.den : Int) (rnn1 (h 3 rfl)) hl.2.1 (.inr (Int.sign_eq_one_of_pos (by have := r.den_pos; omega))),
      trivial⟩ fun τ W g h => ⟨_, _, rfl, h 4 rfl, h 5 rfl, g⟩
theorem rden_ne {r : Rat} (h : r.den ≠ 1) : zcmp (r.den : Int) 1 ≠ 0 := zcmp_ne (by omega)
theorem rFText_any (w : World) (va : Value) (n d : Int) (r : Rat) (Ha : RF w va n d) (E : Nat) (hE : 1 ≤ E ∧ E ≤ 200000) (h0 : 0 < d) (hr : Rat.divInt n d = r) (l1 : n.natAbs < D ^ E) (l2 : d.natAbs < D ^ E) :
    Calls Tryz.prog 20 #[va] w (RetRText w r) := by
  have b1 := rq_nle h0 hr l1
  have b2 := rq_dle h0 hr l2
  by_cases h1 : r.den = 1
  · skip
    refine exec_calls mixed Tryz.func20 [sRF n d] [sRR r.num (r.den : Int), sT (fun s => ZTextOf s r.num), sR 1, sV (.int .i64 0)] (.cons Ha .nil) (rs := [cl 1 53 [ag 4 0], cl 2 54 [ag 2 1], cl 3 42 [.v false [.lit (.int .i64 1)]], cl 4 47 [.v true [.an 1 2, .an 1 3], ag 2 3]]) (out := on 2) (nc := 5) (by kernel_rfl)
        ⟨fun σ W g h hb => toRR (rFLow_any W _ n d r (h 0 rfl) E (by omega) h0 hr l1 l2),
        fun σ W g h hb => toT (rZText_any W _ _ (rr1 (h 1 rfl)) (dp6 b1 (by omega))),
        fun σ W g h hb => rZOf_any W 1 (by omega) (by omega),
        fun σ W g h hb => toV (rZCmp_any W _ _ _ _ (rr2 (h 1 rfl)) (h 3 rfl) (dp6 b2 (by omega)) (dp6 d51 (by omega))) (by rw [zcmp_same (by omega)]),
        trivial⟩ fun τ W g h => by
          obtain ⟨s, e, hs⟩ := h 2 rfl
          exact ⟨s, congrArg Ending.returned e, .inl ⟨h1, hs⟩, g⟩
  · skip
    refine exec_calls mixed Tryz.func20 [sRF n d] [sRR r.num (r.den : Int), sT (fun s => ZTextOf s r.num), sR 1, sZ (zcmp (r.den : Int) 1), sV (.bool true), sT (fun s => ∃ p, ZTextOf p r.num ∧ s = p ++ { data := #[47] }), sT (fun s => ZTextOf s (r.den : Int)), sT (fun s => RTextOf s r)] (.cons Ha .nil) (rs := [cl 1 53 [ag 4 0], cl 2 54 [ag 2 1], cl 3 42 [.v false [.lit (.int .i64 1)]], cl 4 47 [.v true [.an 1 2, .an 1 3], ag 2 3], co 5 (.binOp .neq 3 (.tmp 15) (.const (.int .i64 0)) 3) 4 [on 4, .v false [.lit (.int .i64 0)]] [0, 1, 2, 3, 4] [], co 6 (.binOp .add 9 (.tmp 17) (.const (.string ({ data := #[47] }))) 9) 9 [on 2, .v false [.lit (.string ({ data := #[47] }))]] [0, 1, 2, 3, 4, 5] [], cla 7 54 [.v true [.an 1 2, .an 1 3]] [0, 1, 2, 3, 4, 5], co 8 (.binOp .add 9 (.tmp 18) (.tmp 20) 9) 9 [on 6, on 7] [0, 1, 2, 3, 4, 5, 6, 7] []]) (out := on 8) (nc := 9) (by kernel_rfl)
        ⟨fun σ W g h hb => toRR (rFLow_any W _ n d r (h 0 rfl) E (by omega) h0 hr l1 l2),
        fun σ W g h hb => toT (rZText_any W _ _ (rr1 (h 1 rfl)) (dp6 b1 (by omega))),
        fun σ W g h hb => rZOf_any W 1 (by omega) (by omega),
        fun σ W g h hb => toZ (rZCmp_any W _ _ _ _ (rr2 (h 1 rfl)) (h 3 rfl) (dp6 b2 (by omega)) (dp6 d51 (by omega))) rfl,
        fun σ W g h hb => fun ρ o ho _ hv => ⟨_, bin_told ho ((two_vals hv).1.trans (h 4 rfl)) (two_vals hv).2 rfl, congrArg Value.bool (bne_iff_ne.2 (rden_ne h1))⟩,
        fun σ W g h hb => fun ρ o ho _ hv => by
          obtain ⟨s, e, hs⟩ := h 2 rfl
          exact ⟨_, add_told ho ((two_vals hv).1.trans e) (two_vals hv).2 (by have := ztext_lenD hs b1 hE.1; show s.size + 1 ≤ _; omega), _, rfl, s, hs, rfl⟩,
        fun σ W g h hb => toT (rZText_any W _ _ (rr2 (h 1 rfl)) (dp6 b2 (by omega))),
        fun σ W g h hb => fun ρ o ho _ hv => by
          obtain ⟨s, e, p, hp, rfl⟩ := h 6 rfl
          obtain ⟨t, e2, ht⟩ := h 7 rfl
          exact ⟨_, add_told ho ((two_vals hv).1.trans e) ((two_vals hv).2.trans e2) (by have h3 := ztext_lenD hp b1 hE.1; have h4 := ztext_lenD ht b2 hE.1; simp only [ByteArray.size_append]; have : ({ data := #[47] } : ByteArray).size = 1 := rfl; omega), _, rfl, .inr ⟨h1, p, t, hp, ht, rfl⟩⟩,
        trivial⟩ fun τ W g h => by
          obtain ⟨s, e, hs⟩ := h 8 rfl
          exact ⟨s, congrArg Ending.returned e, hs, g⟩
end Go.Proofs.YthbhgcaemcobeaaGreatDoor
namespace Go.Proofs.YthbhgcaemcobeaaGreatDoor
open Go.RowKit Mat Ex PM
set_option linter.unusedVariables false
set_option linter.unusedSimpArgs false
structure H3 where
  x : Int
  y : Int
  z : Int
def rp (a : H3) : Pq := (Rat.divInt a.x a.z, Rat.divInt a.y a.z)
def HB (E : Nat) (a : H3) : Prop := a.x.natAbs < D ^ E ∧ a.y.natAbs < D ^ E ∧ a.z.natAbs < D ^ E
theorem HB.mono {E M : Nat} {a : H3} (h : HB E a) (hE : E ≤ M) : HB M a := ⟨dpw h.1 hE, dpw h.2.1 hE, dpw h.2.2 hE⟩
def HV (w : World) (v : Value) (p : H3) : Prop := ∃ a b c d e f : Value, v = .agg #[a, b, c, d, e, f] ∧ RIntV w (.agg #[a, b]) p.x ∧ RIntV w (.agg #[c, d]) p.y ∧ RIntV w (.agg #[e, f]) p.z
theorem HV.keeps {W W' : World} {v : Value} {p : H3} (h : HV W v p) (k : Keeps limbT W W') : HV W' v p := by
  obtain ⟨a, b, c, d, e, f, q, h1, h2, h3⟩ := h
  exact ⟨a, b, c, d, e, f, q, h1.keeps k, h2.keeps k, h3.keeps k⟩
theorem HV.kept {w w' : World} {v : Value} {p : H3} (h : HV w v p) (g : w.grownBy w' none) : HV w' v p := by
  obtain ⟨a, b, c, d, e, f, q, h1, h2, h3⟩ := h
  exact ⟨a, b, c, d, e, f, q, h1.kept g, h2.kept g, h3.kept g⟩
theorem RIntV.one {w : World} {a b : Value} {z : Int} (h : RIntV w (.agg #[a, b]) z) : a.oneCell' = true ∧ b.oneCell' = true := by
  obtain ⟨g, s, l, c, e, _⟩ := h; cases e; exact ⟨rfl, rfl⟩
theorem HV.one {w : World} {a b c d e f : Value} {p : H3} (h : HV w (.agg #[a, b, c, d, e, f]) p) : ∀ x ∈ [a, b, c, d, e, f], x.oneCell' = true := by
  obtain ⟨_, _, _, _, _, _, q, h1, h2, h3⟩ := h
  cases q
  simp [h1.one, h2.one, h3.one]
def sH (p : H3) : Sp := .of (.agg 6) (fun v W => HV W v p) (fun v W h => by
  have h0 := h
  obtain ⟨a, b, c, d, e, f, rfl, _⟩ := h
  exact ⟨cellf [a, b, c, d, e, f], cellf_one h0.one, rfl⟩) (fun v W W' k h => h.keeps k)
theorem h31 {W : World} {a b c d e f : Value} {p : H3} : HV W (.agg #[a, b, c, d, e, f]) p → RIntV W (.agg #[a, b]) p.x := by rintro ⟨_, _, _, _, _, _, q, h1, h2, h3⟩; cases q; exact h1
theorem h32 {W : World} {a b c d e f : Value} {p : H3} : HV W (.agg #[a, b, c, d, e, f]) p → RIntV W (.agg #[c, d]) p.y := by rintro ⟨_, _, _, _, _, _, q, h1, h2, h3⟩; cases q; exact h2
theorem h33 {W : World} {a b c d e f : Value} {p : H3} : HV W (.agg #[a, b, c, d, e, f]) p → RIntV W (.agg #[e, f]) p.z := by rintro ⟨_, _, _, _, _, _, q, h1, h2, h3⟩; cases q; exact h3
theorem mkh {W : World} {a b c d e f : Value} {p : H3} (h1 : RIntV W (.agg #[a, b]) p.x) (h2 : RIntV W (.agg #[c, d]) p.y) (h3 : RIntV W (.agg #[e, f]) p.z) : HV W (.agg #[a, b, c, d, e, f]) p := ⟨_, _, _, _, _, _, rfl, h1, h2, h3⟩
def RetH (w : World) (p : H3) (e : Ending) (w' : World) : Prop := ∃ v, e = .returned v ∧ HV w' v p ∧ w.grownBy w' none
def HsV (w : World) (v : Value) (p q : H3) : Prop := ∃ a b c d e f a' b' c' d' e' f' : Value, v = .agg #[a, b, c, d, e, f, a', b', c', d', e', f'] ∧ HV w (.agg #[a, b, c, d, e, f]) p ∧ HV w (.agg #[a', b', c', d', e', f']) q
theorem HsV.keeps {W W' : World} {v : Value} {p q : H3} (h : HsV W v p q) (k : Keeps limbT W W') : HsV W' v p q := by
  obtain ⟨a, b, c, d, e, f, a', b', c', d', e', f', e1, h1, h2⟩ := h
  exact ⟨a, b, c, d, e, f, a', b', c', d', e', f', e1, h1.keeps k, h2.keeps k⟩
def sHs (p q : H3) : Sp := .of (.agg 12) (fun v W => HsV W v p q) (fun v W h => by
  obtain ⟨a, b, c, d, e, f, a', b', c', d', e', f', rfl, h1, h2⟩ := h
  refine ⟨cellf [a, b, c, d, e, f, a', b', c', d', e', f'], cellf_one (fun x hx => ?_), rfl⟩
  rcases List.mem_append.1 (show x ∈ [a, b, c, d, e, f] ++ [a', b', c', d', e', f'] from hx) with hx | hx
  · exact h1.one x hx
  · exact h2.one x hx) (fun v W W' k h => h.keeps k)
theorem hs1 {W : World} {a b c d e f a' b' c' d' e' f' : Value} {p q : H3} : HsV W (.agg #[a, b, c, d, e, f, a', b', c', d', e', f']) p q → HV W (.agg #[a, b, c, d, e, f]) p := by
  rintro ⟨_, _, _, _, _, _, _, _, _, _, _, _, e, h1, h2⟩; cases e; exact h1
theorem hs2 {W : World} {a b c d e f a' b' c' d' e' f' : Value} {p q : H3} : HsV W (.agg #[a, b, c, d, e, f, a', b', c', d', e', f']) p q → HV W (.agg #[a', b', c', d', e', f']) q := by
  rintro ⟨_, _, _, _, _, _, _, _, _, _, _, _, e, h1, h2⟩; cases e; exact h2
theorem mkhs {W : World} {a b c d e f a' b' c' d' e' f' : Value} {p q : H3} (h1 : HV W (.agg #[a, b, c, d, e, f]) p) (h2 : HV W (.agg #[a', b', c', d', e', f']) q) : HsV W (.agg #[a, b, c, d, e, f, a', b', c', d', e', f']) p q := ⟨_, _, _, _, _, _, _, _, _, _, _, _, rfl, h1, h2⟩
def sRRR (n m k : Int) : Sp := .of (.tup [(none, 3), (none, 3), (none, 3)]) (fun v W => ∃ u t s, v = .tuple #[u, t, s] ∧ RIntV W u n ∧ RIntV W t m ∧ RIntV W s k) (fun v W h => by
  obtain ⟨u, t, s, rfl, ⟨g, a, b, c, rfl, _⟩, ⟨g', a', b', c', rfl, _⟩, g2, a2, b2, c2, rfl, _⟩ := h
  exact fits2 (u := .bool true) (cs := [.int .i64 g, .slice a b c, .int .i64 g', .slice a' b' c', .int .i64 g2, .slice a2 b2 c2]) (by simp [Value.oneCell']) rfl) (fun v W W' k h => by obtain ⟨u, t, s, e, h1, h2, h3⟩ := h; exact ⟨u, t, s, e, h1.keeps k, h2.keeps k, h3.keeps k⟩)
theorem rrr1 {n m k : Int} {a b c : Value} {W : World} : (sRRR n m k).F (.tuple #[a, b, c]) W → RIntV W a n := by rintro ⟨u, t, s, e, h1, h2, h3⟩; cases e; exact h1
theorem rrr2 {n m k : Int} {a b c : Value} {W : World} : (sRRR n m k).F (.tuple #[a, b, c]) W → RIntV W b m := by rintro ⟨u, t, s, e, h1, h2, h3⟩; cases e; exact h2
theorem rrr3 {n m k : Int} {a b c : Value} {W : World} : (sRRR n m k).F (.tuple #[a, b, c]) W → RIntV W c k := by rintro ⟨u, t, s, e, h1, h2, h3⟩; cases e; exact h3
/-! ### Rows -/
def HAt (w : World) (cs : Array Value) (o : Nat) (p : H3) : Prop := ∃ a b c d e f : Value, cs[o]? = some a ∧ cs[o + 1]? = some b ∧ cs[o + 2]? = some c ∧ cs[o + 3]? = some d ∧ cs[o + 4]? = some e ∧ cs[o + 5]? = some f ∧ HV w (.agg #[a, b, c, d, e, f]) p
theorem HAt.keeps {W W' : World} {cs : Array Value} {o : Nat} {p : H3} (h : HAt W cs o p) (k : Keeps limbT W W') : HAt W' cs o p := by
  obtain ⟨a, b, c, d, e, f, h1, h2, h3, h4, h5, h6, h7⟩ := h
  exact ⟨a, b, c, d, e, f, h1, h2, h3, h4, h5, h6, h7.keeps k⟩
def HrV (w : World) (v : Value) (l : List H3) : Prop := ∃ s n c, v = .slice s n c ∧ l.length = n ∧ n ≤ c ∧ (l = [] ∨ ∃ b off cs, s = some ⟨b, off, none⟩ ∧ w.heap[b]? = some (.cells cs 42 (0, 0)) ∧ ∀ i (h : i < l.length), HAt w cs (off + 6 * i) l[i])
theorem HrV.keeps {W W' : World} {v : Value} {l : List H3} (h : HrV W v l) (k : Keeps limbT W W') (hq : ∀ q, fpS v q → W'.heap[q]? = W.heap[q]?) : HrV W' v l := by
  obtain ⟨s, n, c, rfl, hl, hn, h⟩ := h
  refine ⟨s, n, c, rfl, hl, hn, ?_⟩
  by_cases h0 : l = []
  · exact .inl h0
  · obtain ⟨b, off, cs, rfl, hb, hc⟩ := h.resolve_left h0
    obtain ⟨m, rfl⟩ : ∃ m, n = m + 1 := ⟨n - 1, by have := List.length_pos_iff.2 h0; omega⟩
    exact .inr ⟨b, off, cs, rfl, by rw [hq b ⟨off, m, c, rfl⟩]; exact hb, fun i hi => (hc i hi).keeps k⟩
theorem HrV.inb {W : World} {v : Value} {l : List H3} (h : HrV W v l) (q : Nat) (hq : fpS v q) : q < W.heap.size := by
  obtain ⟨s, n, c, rfl, hl, hn, h⟩ := h
  obtain ⟨off, m, c', e⟩ := hq
  cases e
  rcases h with h | ⟨b, off', cs, e, hb, _⟩
  · rw [h] at hl; simp at hl
  · cases e; exact (Array.getElem?_eq_some_iff.1 hb).1
def sHr (s0 : Nat) (l : List H3) : Sp where
  sh := .one
  F v W := HrV W v l ∧ ∀ q, fpS v q → s0 ≤ q
  fits v W h := by obtain ⟨⟨s, n, c, rfl, _⟩, _⟩ := h; exact ⟨fun _ => .slice s n c, fun _ => rfl, rfl⟩
  row := true
  fp v _ q := fpS v q
  lasts v W W' k hq h := ⟨⟨h.1.keeps k hq, h.2⟩, fun _ h => h⟩
  inb v W h q hq := h.1.inb q hq
  flat h := by cases h
def HaV (w : World) (v : Value) (p : H3) : Prop := ∃ b off cs, v = .pointer (some ⟨b, off, none⟩) ∧ w.heap[b]? = some (.cells cs 42 (0, 0)) ∧ HAt w cs off p
def sHa (p : H3) : Sp where
  sh := .one
  F v W := HaV W v p
  fits v W h := by obtain ⟨b, off, cs, rfl, _⟩ := h; exact ⟨fun _ => .pointer (some ⟨b, off, none⟩), fun _ => rfl, rfl⟩
  row := true
  fp v _ q := fpP v q
  lasts v W W' k hq h := by
    obtain ⟨b, off, cs, rfl, hb, hc⟩ := h
    exact ⟨⟨b, off, cs, rfl, by rw [hq b ⟨off, rfl⟩]; exact hb, hc.keeps k⟩, fun _ h => h⟩
  inb v W h q hq := by
    obtain ⟨b, off, cs, rfl, hb, hc⟩ := h
    obtain ⟨o, e⟩ := hq
    cases e; exact (Array.getElem?_eq_some_iff.1 hb).1
  flat h := by cases h
def RetHr (w : World) (l : List H3) (e : Ending) (w' : World) : Prop := ∃ v, e = .returned v ∧ HrV w' v l ∧ w.grownBy w' none ∧ ∀ q, fpS v q → w.heap.size ≤ q
theorem toHr {P : Program} {f : FuncId} {args : Array Value} {W : World} {l : List H3} {old : Nat → Prop} {s0 : Nat} (hs : s0 ≤ W.heap.size) (h : Calls P f args W (RetHr W l)) : Calls P f args W (RetS W (sHr s0 l) old) :=
  h.mono fun _ _ ⟨v, a, h, g, hq⟩ => ⟨v, a, ⟨h, fun q hf => Nat.le_trans hs (hq q hf)⟩, g, fun q hf => .inl (hq q hf)⟩
section
variable {P : Program} {ρ : Operand → Value} {o : Oper} {W : World}
theorem hr_len {t : TypeId} {x : Operand} {v : Value} {l : List H3} (h : HrV W v l) (ho : o.op = .call ⟨.builtin .len, #[x], #[t]⟩) (hx : ρ x = v) (hu : ∃ el, Tryz.prog.underlying t = some (.slice el)) :
    (execOp ρ o).run Tryz.prog W = .ok (.value (.int .i64 l.length)) W := by
  obtain ⟨s, n, c, rfl, hl, hn, h⟩ := h
  obtain ⟨el, hu⟩ := hu
  simp [execOp, ho, resolve, invoke, builtin, Builtin.len_, run_underlying hu W, hx, goInt, hl]
theorem hr_at {x y : Operand} {v : Value} {l : List H3} (h : HrV W v l) (ho : o.op = .indexAddr 68 x y) (hx : ρ x = v) (k : Nat) (hk : k < l.length) (hy : ρ y = .int .i64 k) :
    ∃ u, (execOp ρ o).run Tryz.prog W = .ok (.value u) W ∧ HaV W u l[k] ∧ ∀ q, fpP u q → fpS v q := by
  obtain ⟨s, n, c, rfl, hl, hn, h⟩ := h
  obtain ⟨b, off, cs, rfl, hb, hc⟩ := h.resolve_left (fun e => by rw [e] at hk; simp at hk)
  have hu : Tryz.prog.underlying 68 = some (.slice 42) := by kernel_rfl
  have hz : sizeT Tryz.prog 42 = some 6 := by kernel_rfl
  obtain ⟨m, rfl⟩ : ∃ m, n = m + 1 := ⟨n - 1, by omega⟩
  have hk' : (0 : Int) ≤ (k : Int) ∧ (k : Int) < ((m + 1 : Nat) : Int) := by omega
  refine ⟨.pointer (some ⟨b, off + 6 * k, none⟩), ?_, ⟨b, off + 6 * k, cs, rfl, hb, hc k hk⟩, fun q ⟨o', e⟩ => by cases e; exact ⟨off, m, c, rfl⟩⟩
  simp only [execOp, ho, hx, hy, Instr.indexAt, asIntOf, Sem.run_bind, Sem.run_pure, run_underlying hu W, Result.andThen_ok, hk', and_self, if_true, sizeT_run Tryz.prog hz W, Instr.sureAddr, Addr.add_mid]
  rw [show (k : Int).toNat * 6 = 6 * k by omega]
theorem hr_load {x : Operand} {v : Value} {p : H3} (h : HaV W v p) (ho : o.op = .load 42 x) (hx : ρ x = v) :
    ∃ u, (execOp ρ o).run Tryz.prog W = .ok (.value u) W ∧ HV W u p := by
  obtain ⟨q, off, cs, rfl, hb, a, b, c, d, e, f, h1, h2, h3, h4, h5, h6, hp⟩ := h
  refine ⟨_, ?_, hp⟩
  have ha : aggT Tryz.prog 42 = some true := by kernel_rfl
  have hz : sizeT Tryz.prog 42 = some 6 := by kernel_rfl
  have hl : (loadCells ⟨q, off, none⟩ [a, b, c, d, e, f].length).run Tryz.prog W = .ok [a, b, c, d, e, f].toArray W :=
    run_loadCells_list (P := Tryz.prog) W ⟨q, off, none⟩ _ fun j v hv => by
      rw [Addr.add_mid]
      simp only [World.cell?, hb]
      match j, hv with
      | 0, hv => cases hv; simpa using h1
      | 1, hv => cases hv; simpa using h2
      | 2, hv => cases hv; simpa using h3
      | 3, hv => cases hv; simpa using h4
      | 4, hv => cases hv; simpa using h5
      | 5, hv => cases hv; simpa using h6
      | n + 6, hv => simp at hv
  simp only [execOp, ho, hx, Instr.loadAt, Instr.sureAddr, loadVar, Sem.run_bind, Sem.run_pure, Result.andThen_ok, aggT_run Tryz.prog ha W, sizeT_run Tryz.prog hz W, if_true]
  simp only [List.length_cons, List.length_nil] at hl
  rw [hl]; rfl
end
theorem hr_one {w : World} {b n c : Nat} {cs : Array Value} {a0 a1 a2 a3 a4 a5 : Value} {p : H3} (hb : w.heap[b]? = some (.cells cs 42 (0, 0))) (hn : n = 1) (hc : n ≤ c) (h0 : cs[0]? = some a0) (h1 : cs[1]? = some a1) (h2 : cs[2]? = some a2) (h3 : cs[3]? = some a3) (h4 : cs[4]? = some a4) (h5 : cs[5]? = some a5) (hp : HV w (.agg #[a0, a1, a2, a3, a4, a5]) p) : HrV w (.slice (some ⟨b, 0, none⟩) n c) [p] := by
  refine ⟨_, _, _, rfl, hn.symm, hc, .inr ⟨b, 0, _, rfl, hb, fun i hi => ?_⟩⟩
  obtain rfl : i = 0 := by simpa using hi
  exact ⟨_, _, _, _, _, _, h0, h1, h2, h3, h4, h5, hp⟩
theorem hr_two {w : World} {b : Nat} {a0 a1 a2 a3 a4 a5 c0 c1 c2 c3 c4 c5 : Value} {p q : H3} (hb : w.heap[b]? = some (.cells #[a0, a1, a2, a3, a4, a5, c0, c1, c2, c3, c4, c5] 42 (0, 0))) (hp : HV w (.agg #[a0, a1, a2, a3, a4, a5]) p) (hq : HV w (.agg #[c0, c1, c2, c3, c4, c5]) q) : HrV w (.slice (some ⟨b, 0, none⟩) 2 2) [p, q] := by
  refine ⟨_, _, _, rfl, rfl, Nat.le_refl _, .inr ⟨b, 0, _, rfl, hb, fun i hi => ?_⟩⟩
  match i, hi with
  | 0, _ => exact ⟨_, _, _, _, _, _, rfl, rfl, rfl, rfl, rfl, rfl, hp⟩
  | 1, _ => exact ⟨_, _, _, _, _, _, rfl, rfl, rfl, rfl, rfl, rfl, hq⟩
  | n + 2, hi => exact absurd hi (by simp)
theorem hr_nil (w : World) : HrV w (.slice none 0 0) [] := ⟨none, 0, 0, rfl, rfl, Nat.le_refl _, .inl rfl⟩
/-! ### Reckoned -/
def hlx (a b : H3) : Int := b.x * a.z - a.x * b.z
def hly (a b : H3) : Int := b.y * a.z - a.y * b.z
def hcr (a b c : H3) : Int := hlx a b * hly a c - hly a b * hlx a c
def hdt (a b c : H3) : Int := hlx a b * hlx a c + hly a b * hly a c
def hdn (a b c : H3) : Int := a.z * a.z * (b.z * c.z)
theorem HB.less {E : Nat} {a b : H3} (ha : HB E a) (hb : HB E b) : (hlx a b).natAbs < D ^ (E + E + 1) ∧ (hly a b).natAbs < D ^ (E + E + 1) := by
  unfold hlx hly
  constructor <;> rw [Int.sub_eq_add_neg]
  · exact dadd_bd (dmul_bd hb.1 ha.2.2) (dneg_bd (dmul_bd ha.1 hb.2.2))
  · exact dadd_bd (dmul_bd hb.2.1 ha.2.2) (dneg_bd (dmul_bd ha.2.1 hb.2.2))
theorem HB.cr {E : Nat} {a b c : H3} (ha : HB E a) (hb : HB E b) (hc : HB E c) : (hcr a b c).natAbs < D ^ (4 * E + 3) ∧ (hdt a b c).natAbs < D ^ (4 * E + 3) ∧ (hdn a b c).natAbs < D ^ (4 * E + 3) := by
  have h1 := ha.less hb
  have h2 := ha.less hc
  refine ⟨?_, ?_, ?_⟩
  · unfold hcr; rw [Int.sub_eq_add_neg]
    exact dpw (dadd_bd (dmul_bd h1.1 h2.2) (dneg_bd (dmul_bd h1.2 h2.1))) (by omega)
  · unfold hdt
    exact dpw (dadd_bd (dmul_bd h1.1 h2.1) (dmul_bd h1.2 h2.2)) (by omega)
  · unfold hdn
    exact dpw (dmul_bd (dmul_bd ha.2.2 ha.2.2) (dmul_bd hb.2.2 hc.2.2)) (by omega)
theorem q_of {n d : Int} : Rat.divInt n d = (n : Rat) / (d : Rat) := Rat.divInt_eq_div n d
theorem hz {z : Int} (h : 0 < z) : (z : Rat) ≠ 0 := by
  intro e
  have : z = 0 := by exact_mod_cast e
  omega
theorem hdn_pos {a b c : H3} (ha : 0 < a.z) (hb : 0 < b.z) (hc : 0 < c.z) : 0 < hdn a b c := Int.mul_pos (Int.mul_pos ha ha) (Int.mul_pos hb hc)
theorem rp_cross {a b c : H3} (ha : 0 < a.z) (hb : 0 < b.z) (hc : 0 < c.z) : Rat.divInt (hcr a b c) (hdn a b c) = pcross (rp a) (rp b) (rp c) := by
  have h1 := hz ha; have h2 := hz hb; have h3 := hz hc
  unfold hcr hdn hlx hly pcross rp
  simp only [q_of, Rat.intCast_mul, Rat.intCast_sub]
  generalize (a.z : Rat) = az at *; generalize (b.z : Rat) = bz at *; generalize (c.z : Rat) = cz at *
  generalize (a.x : Rat) = ax; generalize (b.x : Rat) = bx; generalize (c.x : Rat) = cx
  generalize (a.y : Rat) = ay; generalize (b.y : Rat) = byy; generalize (c.y : Rat) = cy
  grind
theorem rp_dot {a b c : H3} (ha : 0 < a.z) (hb : 0 < b.z) (hc : 0 < c.z) : Rat.divInt (hdt a b c) (hdn a b c) = pdot (rp a) (rp b) (rp c) := by
  have h1 := hz ha; have h2 := hz hb; have h3 := hz hc
  unfold hdt hdn hlx hly pdot rp
  simp only [q_of, Rat.intCast_mul, Rat.intCast_sub, Rat.intCast_add]
  generalize (a.z : Rat) = az at *; generalize (b.z : Rat) = bz at *; generalize (c.z : Rat) = cz at *
  generalize (a.x : Rat) = ax; generalize (b.x : Rat) = bx; generalize (c.x : Rat) = cx
  generalize (a.y : Rat) = ay; generalize (b.y : Rat) = byy; generalize (c.y : Rat) = cy
  grind
theorem hcr_sign {a b c : H3} (ha : 0 < a.z) (hb : 0 < b.z) (hc : 0 < c.z) : (hcr a b c).sign = rsg (pcross (rp a) (rp b) (rp c)) := by
  rw [← rp_cross ha hb hc, rsg_divInt (hdn_pos ha hb hc)]
theorem hdt_sign {a b c : H3} (ha : 0 < a.z) (hb : 0 < b.z) (hc : 0 < c.z) : (hdt a b c).sign = rsg (pdot (rp a) (rp b) (rp c)) := by
  rw [← rp_dot ha hb hc, rsg_divInt (hdn_pos ha hb hc)]
theorem hcmp {a b : H3} (ha : 0 < a.z) (hb : 0 < b.z) : zcmp (a.x * b.z) (b.x * a.z) = rcmp (rp a).1 (rp b).1 ∧ zcmp (a.y * b.z) (b.y * a.z) = rcmp (rp a).2 (rp b).2 := ⟨(rcmp_divInt ha hb).symm, (rcmp_divInt ha hb).symm⟩
end Go.Proofs.YthbhgcaemcobeaaGreatDoor
namespace Go.Proofs.YthbhgcaemcobeaaGreatDoor
open Go.RowKit Mat
set_option maxRecDepth 100000
set_option linter.unusedVariables false
set_option linter.unusedSimpArgs false
set_option maxHeartbeats 8000000 in
theorem rZSub_any (w : World) (va vb : Value) (x y : Int) (Ha : RIntV w va x) (Hb : RIntV w vb y) (la' : x.natAbs < D ^ 1000000) (lb' : y.natAbs < D ^ 1000000) :
    Calls Tryz.prog 94 #[va, vb] w (RetRInt w (x - y)) := by
  have Hla := Lib.hid la'
  have Hlb := Lib.hid lb'
  clear la' lb'
  obtain ⟨ga, sa, la, ca, rfl, ha, ma⟩ := Ha
  obtain ⟨gb, sb, lb, cb, rfl, hb, mb⟩ := Hb
  have hG : w.grownBy (((w.alloc (.cells #[.int .i64 ga, .slice sa la ca] 40)).alloc (.cells #[.int .i64 gb, .slice sb lb cb] 40)).alloc (.cells #[.int .i64 0, .slice none 0 0] 40)) none := (grown_alloc (grown_alloc (World.grownBy_alloc _ _ _) _) _)
  have Ba := heap_kept (grown_alloc (World.grownBy_alloc _ (.cells #[.int .i64 gb, .slice sb lb cb] 40) none) (.cells #[.int .i64 0, .slice none 0 0] 40)) (heap_new w (.cells #[.int .i64 ga, .slice sa la ca] 40) (w.heap.size) rfl)
  have Bb := heap_kept (World.grownBy_alloc _ (.cells #[.int .i64 0, .slice none 0 0] 40) none) (heap_new (w.alloc (.cells #[.int .i64 ga, .slice sa la ca] 40)) (.cells #[.int .i64 gb, .slice sb lb cb] 40) (w.heap.size + 1) (by simp))
  have Bq := (heap_new ((w.alloc (.cells #[.int .i64 ga, .slice sa la ca] 40)).alloc (.cells #[.int .i64 gb, .slice sb lb cb] 40)) (.cells #[.int .i64 0, .slice none 0 0] 40) (w.heap.size + 1 + 1) (by simp))
  have ra : RIntV (((w.alloc (.cells #[.int .i64 ga, .slice sa la ca] 40)).alloc (.cells #[.int .i64 gb, .slice sb lb cb] 40)).alloc (.cells #[.int .i64 0, .slice none 0 0] 40)) (.agg #[.int .i64 ga, .slice sa la ca]) (x) := ⟨ga, sa, la, ca, rfl, ha, ma.kept hG⟩
  have rb : RIntV (((w.alloc (.cells #[.int .i64 ga, .slice sa la ca] 40)).alloc (.cells #[.int .i64 gb, .slice sb lb cb] 40)).alloc (.cells #[.int .i64 0, .slice none 0 0] 40)) (.agg #[.int .i64 gb, .slice sb lb cb]) (y) := ⟨gb, sb, lb, cb, rfl, hb, mb.kept hG⟩
  have oa : RIntV w (.agg #[.int .i64 ga, .slice sa la ca]) (x) := ⟨ga, sa, la, ca, rfl, ha, ma⟩
  clear ma
  have ob : RIntV w (.agg #[.int .i64 gb, .slice sb lb cb]) (y) := ⟨gb, sb, lb, cb, rfl, hb, mb⟩
  clear mb
  go_enter Tryz.func94, Tryz.ntmps94
  have HN : Hid ((-y).natAbs < D ^ 1000000) := Lib.hid (neg_lt Hlb.out)
  have HE : Hid (x + -y = x - y) := by show _ = _; omega
  obtain ⟨Ca0, Ca1, Fa0, Fa1⟩ := box_cells Ba
  obtain ⟨Cb0, Cb1, Fb0, Fb1⟩ := box_cells Bb
  obtain ⟨Cq0, Cq1, Fq0, Fq1⟩ := box_cells Bq
  go_wp2_with fail
  generalize (((w.alloc (.cells #[.int .i64 ga, .slice sa la ca] 40)).alloc (.cells #[.int .i64 gb, .slice sb lb cb] 40)).alloc (.cells #[.int .i64 0, .slice none 0 0] 40)) = w0 at *
  go_region_held3 (fun w' => w'.cell? ⟨w.heap.size, 0, none⟩ = some (.int .i64 ga) ∧ w'.cell? ⟨w.heap.size, 1, none⟩ = some (.slice sa la ca) ∧ w'.cell? ⟨w.heap.size + 1, 0, none⟩ = some (.int .i64 gb) ∧ w'.cell? ⟨w.heap.size + 1, 1, none⟩ = some (.slice sb lb cb))
    (first | assumption | exact ⟨Ca0, Ca1, Cb0, Cb1⟩ | exact HSw1_20 | go_keep)
    (first
      | (go_at_call 100; (with_reducible refine (rNeg_any w0.drew _ y (rb.kept (grown_drew (grown_refl _ _)))).mono ?_); rintro e w1_1 ⟨vp, rfl, rp, gw1_1⟩; have hGw1_1 := grown_pre w0 gw1_1 rfl rfl rfl rfl; have hSw1_1 := (And.intro (hGw1_1.cell Ca0 (by simp)) (And.intro (hGw1_1.cell Ca1 (by simp)) (And.intro (hGw1_1.cell Cb0 (by simp)) (hGw1_1.cell Cb1 (by simp))))); clear gw1_1)
      | (go_at_call 95; (with_reducible refine (rZAdd_any w1_1 _ _ x (-y) (ra.kept hGw1_1) rp Hla.out HN.out).mono ?_); rintro e w1_2 ⟨_, rfl, ⟨gd, sd, ld, cd, rfl, hd, md⟩, gw1_2⟩; have hGw1_2 := grown_trans hGw1_1 gw1_2; replace rp := rp.kept gw1_2; have rd : RIntV w1_2 (.agg #[.int .i64 gd, .slice sd ld cd]) (x + -y) := ⟨gd, sd, ld, cd, rfl, hd, md⟩; have hSw1_2 := (And.intro (hGw1_2.cell Ca0 (by simp)) (And.intro (hGw1_2.cell Ca1 (by simp)) (And.intro (hGw1_2.cell Cb0 (by simp)) (hGw1_2.cell Cb1 (by simp))))); clear gw1_2; clear md; (obtain ⟨dq0, dq1, dq2, dq3⟩ := box_cells (heap_kept hGw1_2 Bq)); have HSw1_20 := (And.intro ((box_cells (heap_unset2 (heap_kept hGw1_2 Ba) (show w.heap.size ≠ w.heap.size + 1 + 1 by omega) (.int .i64 gd) (.slice sd ld cd))).1) (And.intro ((box_cells (heap_unset2 (heap_kept hGw1_2 Ba) (show w.heap.size ≠ w.heap.size + 1 + 1 by omega) (.int .i64 gd) (.slice sd ld cd))).2.1) (And.intro ((box_cells (heap_unset2 (heap_kept hGw1_2 Bb) (show w.heap.size + 1 ≠ w.heap.size + 1 + 1 by omega) (.int .i64 gd) (.slice sd ld cd))).1) ((box_cells (heap_unset2 (heap_kept hGw1_2 Bb) (show w.heap.size + 1 ≠ w.heap.size + 1 + 1 by omega) (.int .i64 gd) (.slice sd ld cd))).2.1))))))
  replace Ba := heap_kept hGw1_2 Ba
  replace Bb := heap_kept hGw1_2 Bb
  replace Bq := heap_kept hGw1_2 Bq
  replace ra := ra.kept hGw1_2
  replace rb := rb.kept hGw1_2
  replace hG := grown_trans hG hGw1_2
  clear Ca0 Fa0 Ca1 Fa1 Cb0 Fb0 Cb1 Fb1 Cq0 Fq0 Cq1 Fq1
  rw [← HE.out]
  obtain ⟨k90, k91, k92, k93⟩ := box_cells Bq
  obtain ⟨q90, q91, q92, q93⟩ := box_cells (heap_set2 Bq (.int .i64 gd) (.slice sd ld cd))
  have hF : Hid (RetRInt w (x + -y) (.returned (.agg #[.int .i64 gd, .slice sd ld cd])) ((w1_2.setCell ⟨w.heap.size + 1 + 1, 0, none⟩ (.int .i64 gd)).setCell ⟨w.heap.size + 1 + 1, 1, none⟩ (.slice sd ld cd))) := ret_rintv hG Bq (by omega) rd
  clear ra rb rp rd
  go_wp2_with fail
  exact bodyPost_ret (v := .agg #[.int .i64 gd, .slice sd ld cd]) (by simp [results, Tryz.results94, go_sem, q90, q91]) rfl hF.out
end Go.Proofs.YthbhgcaemcobeaaGreatDoor
