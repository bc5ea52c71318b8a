/- What the laws lean on, part 23. -/
import Derived.Test.YthbhgcaemcobeaaGreatDoorMp22
namespace Go.Proofs.YthbhgcaemcobeaaGreatDoor
open Go.RowKit Mat Ex PM
set_option linter.unusedVariables false
set_option linter.unusedSimpArgs false
theorem rt_less {P : Program} {f : FuncId} {args : Array Value} {W : World} {n m : Int} (h : Calls P f args W (fun e w' => ∃ v u, e = .returned (.tuple #[v, u]) ∧ RIntV w' v n ∧ RIntV w' u m ∧ W.grownBy w' none)) : Calls P f args W (Ret W (sRR n m).F) := toRR h
def RetRR (w : World) (n m : Int) (e : Ending) (w' : World) : Prop := ∃ v u, e = .returned (.tuple #[v, u]) ∧ RIntV w' v n ∧ RIntV w' u m ∧ w.grownBy w' none
def RetRRR (w : World) (n m k : Int) (e : Ending) (w' : World) : Prop := ∃ v u t, e = .returned (.tuple #[v, u, t]) ∧ RIntV w' v n ∧ RIntV w' u m ∧ RIntV w' t k ∧ w.grownBy w' none
theorem toRRR {P : Program} {f : FuncId} {args : Array Value} {W : World} {n m k : Int} (h : Calls P f args W (RetRRR W n m k)) : Calls P f args W (Ret W (sRRR n m k).F) :=
  h.mono fun _ _ ⟨v, u, t, a, h1, h2, h3, g⟩ => ⟨_, a, ⟨v, u, t, rfl, h1, h2, h3⟩, g⟩
def sDt (x y d : Int) : Sp := .of (.agg 3) (fun v _ => v = .agg #[.int .i64 x, .int .i64 y, .int .i64 d]) (fun v W h => ⟨cellf [.int .i64 x, .int .i64 y, .int .i64 d], cellf_one (by simp [Value.oneCell']), h⟩) (fun _ _ _ _ h => h)
theorem dt1 {x y d : Int} {a b c : Value} {W : World} : (sDt x y d).F (.agg #[a, b, c]) W → a = .int .i64 x := fun h => by cases h; rfl
theorem dt2 {x y d : Int} {a b c : Value} {W : World} : (sDt x y d).F (.agg #[a, b, c]) W → b = .int .i64 y := fun h => by cases h; rfl
theorem dt3 {x y d : Int} {a b c : Value} {W : World} : (sDt x y d).F (.agg #[a, b, c]) W → c = .int .i64 d := fun h => by cases h; rfl
def und (d : Int) : Int := 1 + (IntKind.u64.wrap d) % 60
theorem und_pos (d : Int) : 0 < und d ∧ und d ≤ 60 := by unfold und; omega
theorem wrap_at (d : Int) : 0 ≤ IntKind.u64.wrap d ∧ IntKind.u64.wrap d < 18446744073709551616 := by
  simp [IntKind.wrap, IntKind.signed, IntKind.bits]; omega
theorem one_val {ρ : Operand → Value} {x : Operand} {u : Value} (h : [x].map ρ = [u]) : ρ x = u := by simpa using h
theorem conv_int {P : Program} {ρ : Operand → Value} {o : Oper} {t t' : TypeId} {x : Operand} {k k0 k1 : IntKind} {d : Int} {W : World} (ho : o.op = .convert t t' x) (hx : ρ x = .int k0 d) (h0 : P.underlying t = some (.int k1)) (h1 : P.underlying t' = some (.int k)) : (execOp ρ o).run P W = .ok (.value (.int k (k.wrap d))) W := by
  simp only [execOp, ho, hx, convert, Sem.run_bind, run_underlying h0 W, run_underlying h1 W, Result.andThen_ok, Conv.intToInt, Sem.run_pure]
theorem conv_ui {ρ : Operand → Value} {o : Oper} {x : Operand} {d : Int} {W : World} (ho : o.op = .convert 3 80 x) (hx : ρ x = .int .i64 d) : (execOp ρ o).run Tryz.prog W = .ok (.value (.int .u64 (IntKind.u64.wrap d))) W :=
  conv_int (k1 := .i64) ho hx (by kernel_rfl) (by kernel_rfl)
theorem conv_iu {ρ : Operand → Value} {o : Oper} {x : Operand} {d : Int} {W : World} (ho : o.op = .convert 80 3 x) (hx : ρ x = .int .u64 d) (h0 : 0 ≤ d) (h1 : d ≤ 1000) : (execOp ρ o).run Tryz.prog W = .ok (.value (.int .i64 d)) W := by
  rw [conv_int (k1 := .u64) (k := .i64) ho hx (by kernel_rfl) (by kernel_rfl), show IntKind.i64.wrap d = d by simp [IntKind.wrap, IntKind.signed, IntKind.bits]; omega]
theorem rem_told {P : Program} {ρ : Operand → Value} {o : Oper} {t t' : TypeId} {x y : Operand} {d k : Int} {W : World} (ho : o.op = .binOp .rem t x y t') (hx : ρ x = .int .u64 (IntKind.u64.wrap d)) (hy : ρ y = .int .u64 k) (hk : 0 < k := by omega) : (execOp ρ o).run P W = .ok (.value (.int .u64 (IntKind.u64.wrap d % k))) W := by
  have h0 := wrap_at d
  have hm : (IntKind.u64.wrap d).tmod k = IntKind.u64.wrap d % k := Int.tmod_eq_emod_of_nonneg h0.1
  have hg : eqGuard .rem t x y (.int .u64 (IntKind.u64.wrap d)) (.int .u64 k) = pure () := by unfold eqGuard; rfl
  have hb : binOp .rem t (.int .u64 (IntKind.u64.wrap d)) (.int .u64 k) = pure (.int .u64 (IntKind.u64.wrap d % k)) := by
    rw [← hm]
    show Op.intDiv .rem .u64 _ k = _
    unfold Op.intDiv
    rw [if_neg (by omega)]
  simp only [execOp, ho, hx, hy, hg, hb, Sem.run_bind, Sem.run_pure, Result.andThen_ok]
theorem add_100 {t : TypeId} {x y : Int} (h0 : 0 ≤ x + y) (h1 : x + y ≤ 1000) : binOp .add t (.int .i64 x) (.int .i64 y) = .pure (.int .i64 (x + y)) := by
  show Sem.pure (Value.int .i64 (IntKind.i64.wrap (x + y))) = _
  rw [show IntKind.i64.wrap (x + y) = x + y by simp [IntKind.wrap, IntKind.signed, IntKind.bits]; omega]
theorem rHUnder_any (w : World) (x y d : Int) :
    Calls Tryz.prog 41 #[.agg #[.int .i64 x, .int .i64 y, .int .i64 d]] w (fun e w' => e = .returned (.int .i64 (und d)) ∧ w.grownBy w' none) := by
  refine exec_calls mixed Tryz.func41 [sDt x y d] [sC (.int .u64 (IntKind.u64.wrap d)) rfl, sC (.int .u64 (IntKind.u64.wrap d % 60)) rfl, sZ (IntKind.u64.wrap d % 60), sZ (und d)] (.cons rfl .nil) (rs := [co 1 (.convert 3 80 (.tmp 4)) 80 [.v false [.an 0 2]] [0] [], co 2 (.binOp .rem 80 (.tmp 5) (.const (.int .u64 60)) 80) 80 [on 1, .v false [.lit (.int .u64 60)]] [0, 1] [], co 3 (.convert 80 3 (.tmp 6)) 3 [on 2] [0, 1, 2] [], co 4 (.binOp .add 3 (.const (.int .i64 1)) (.tmp 7) 3) 3 [.v false [.lit (.int .i64 1)], on 3] [0, 1, 2, 3] []]) (out := on 4) (nc := 5) (by kernel_rfl)
      ⟨fun σ W g h hb => fun ρ o ho _ hv => ⟨_, conv_ui ho ((one_val hv).trans (dt3 (h 0 rfl))), rfl⟩,
      fun σ W g h hb => fun ρ o ho _ hv => ⟨_, rem_told ho ((two_vals hv).1.trans (h 1 rfl)) (two_vals hv).2, rfl⟩,
      fun σ W g h hb => fun ρ o ho _ hv => ⟨_, conv_iu ho ((one_val hv).trans (h 2 rfl)) (by omega) (by omega), rfl⟩,
      fun σ W g h hb => fun ρ o ho _ hv => ⟨_, bin_told ho (two_vals hv).1 ((two_vals hv).2.trans (h 3 rfl)) (add_100 (by omega) (by omega)), rfl⟩,
      trivial⟩ fun τ W g h => ⟨congrArg Ending.returned (h 4 rfl), g⟩
theorem und_b (d : Int) : -9223372036854775808 ≤ und d ∧ und d ≤ 9223372036854775807 := by have := und_pos d; omega
theorem rHAt_any (w : World) (x y d : Int) (h1 : -9223372036854775808 ≤ x) (h2 : x ≤ 9223372036854775807) (h3 : -9223372036854775808 ≤ y) (h4 : y ≤ 9223372036854775807) :
    Calls Tryz.prog 10 #[.agg #[.int .i64 x, .int .i64 y, .int .i64 d]] w (RetH w ⟨x, y, und d⟩) := by
  refine exec_calls mixed Tryz.func10 [sDt x y d] [sR x, sR y, sZ (und d), sR (und d)] (.cons rfl .nil) (rs := [cl 1 42 [on 0], cl 2 42 [.v false [.an 0 1]], cl 3 41 [ag 3 0], cl 4 42 [on 3]]) (out := .v true [.an 1 0, .an 1 1, .an 2 0, .an 2 1, .an 4 0, .an 4 1]) (nc := 5) (by kernel_rfl)
      ⟨fun σ W g h hb => arg1 (dt1 (h 0 rfl)) (rZOf_any W x h1 h2),
      fun σ W g h hb => arg1 (dt2 (h 0 rfl)) (rZOf_any W y h3 h4),
      fun σ W g h hb => argl (congrArg (fun v => [v]) (h 0 rfl)) (rHUnder_any W x y d) |>.mono fun _ _ ⟨a, g⟩ => ⟨_, a, rfl, g⟩,
      fun σ W g h hb => arg1 (h 3 rfl) (rZOf_any W _ (und_b d).1 (und_b d).2),
      trivial⟩ fun τ W g h => ⟨_, rfl, mkh (h 1 rfl) (h 2 rfl) (h 4 rfl), g⟩
theorem rHOf_any (w : World) (x y : Int) (h1 : -9223372036854775808 ≤ x) (h2 : x ≤ 9223372036854775807) (h3 : -9223372036854775808 ≤ y) (h4 : y ≤ 9223372036854775807) :
    Calls Tryz.prog 15 #[.int .i64 x, .int .i64 y] w (RetH w ⟨x, y, 1⟩) := by
  refine exec_calls mixed Tryz.func15 [sZ x, sZ y] [sR x, sR y, sR 1] (.cons rfl (.cons rfl .nil)) (rs := [cl 2 42 [on 0], cl 3 42 [on 1], cl 4 42 [.v false [.lit (.int .i64 1)]]]) (out := .v true [.an 2 0, .an 2 1, .an 3 0, .an 3 1, .an 4 0, .an 4 1]) (nc := 5) (by kernel_rfl)
      ⟨fun σ W g h hb => arg1 (h 0 rfl) (rZOf_any W x h1 h2),
      fun σ W g h hb => arg1 (h 1 rfl) (rZOf_any W y h3 h4),
      fun σ W g h hb => rZOf_any W 1 (by omega) (by omega),
      trivial⟩ fun τ W g h => ⟨_, rfl, mkh (h 2 rfl) (h 3 rfl) (h 4 rfl), g⟩
theorem rHmul_any (w : World) (va vb : Value) (x y : Int) (E : Nat) (Ha : RIntV w va x) (Hb : RIntV w vb y) (hE : E ≤ 1000000) (l1 : x.natAbs < D ^ E) (l2 : y.natAbs < D ^ E) :
    Calls Tryz.prog 48 #[va, vb] w (RetRInt w (x * y)) := by
  refine exec_calls mixed Tryz.func48 [sR x, sR y] [sR (x * y)] (.cons Ha (.cons Hb .nil)) (rs := [cl 2 88 [ag 2 0, ag 2 1]]) (out := ag 2 2) (nc := 3) (by kernel_rfl)
      ⟨fun σ W g h hb => rZMul_any W _ _ _ _ (h 0 rfl) (h 1 rfl) (dp6 l1 hE) (dp6 l2 hE),
      trivial⟩ fun τ W g h => ⟨_, rfl, h 2 rfl, g⟩
theorem rHsub_any (w : World) (va vb : Value) (x y : Int) (E : Nat) (Ha : RIntV w va x) (Hb : RIntV w vb y) (hE : E ≤ 1000000) (l1 : x.natAbs < D ^ E) (l2 : y.natAbs < D ^ E) :
    Calls Tryz.prog 56 #[va, vb] w (RetRInt w (x - y)) := by
  refine exec_calls mixed Tryz.func56 [sR x, sR y] [sR (x - y)] (.cons Ha (.cons Hb .nil)) (rs := [cl 2 94 [ag 2 0, ag 2 1]]) (out := ag 2 2) (nc := 3) (by kernel_rfl)
      ⟨fun σ W g h hb => rZSub_any W _ _ _ _ (h 0 rfl) (h 1 rfl) (dp6 l1 hE) (dp6 l2 hE),
      trivial⟩ fun τ W g h => ⟨_, rfl, h 2 rfl, g⟩
theorem rHadd_any (w : World) (va vb : Value) (x y : Int) (E : Nat) (Ha : RIntV w va x) (Hb : RIntV w vb y) (hE : E ≤ 1000000) (l1 : x.natAbs < D ^ E) (l2 : y.natAbs < D ^ E) :
    Calls Tryz.prog 57 #[va, vb] w (RetRInt w (x + y)) := by
  refine exec_calls mixed Tryz.func57 [sR x, sR y] [sR (x + y)] (.cons Ha (.cons Hb .nil)) (rs := [cl 2 95 [ag 2 0, ag 2 1]]) (out := ag 2 2) (nc := 3) (by kernel_rfl)
      ⟨fun σ W g h hb => rZAdd_any W _ _ _ _ (h 0 rfl) (h 1 rfl) (dp6 l1 hE) (dp6 l2 hE),
      trivial⟩ fun τ W g h => ⟨_, rfl, h 2 rfl, g⟩
theorem rHless_any (w : World) (va vb : Value) (a b : H3) (E : Nat) (Ha : HV w va a) (Hb : HV w vb b) (hE : E ≤ 10000) (ba : HB E a) (bb : HB E b) :
    Calls Tryz.prog 55 #[va, vb] w (RetRR w (hlx a b) (hly a b)) := by
  refine exec_calls mixed Tryz.func55 [sH a, sH b] [sR (b.x * a.z), sR (a.x * b.z), sR (hlx a b), sR (b.y * a.z), sR (a.y * b.z), sR (hly a b)] (.cons Ha (.cons Hb .nil)) (rs := [cl 2 48 [ag 2 1, .v true [.an 0 4, .an 0 5]], cl 3 48 [ag 2 0, .v true [.an 1 4, .an 1 5]], cl 4 56 [ag 2 2, ag 2 3], cl 5 48 [.v true [.an 1 2, .an 1 3], .v true [.an 0 4, .an 0 5]], cl 6 48 [.v true [.an 0 2, .an 0 3], .v true [.an 1 4, .an 1 5]], cl 7 56 [ag 2 5, ag 2 6]]) (out := .tup [(true, [.an 4 0, .an 4 1]), (true, [.an 7 0, .an 7 1])]) (nc := 8) (by kernel_rfl)
      ⟨fun σ W g h hb => rHmul_any W _ _ _ _ E (h31 (h 1 rfl)) (h33 (h 0 rfl)) (by omega) bb.1 ba.2.2,
      fun σ W g h hb => rHmul_any W _ _ _ _ E (h31 (h 0 rfl)) (h33 (h 1 rfl)) (by omega) ba.1 bb.2.2,
      fun σ W g h hb => rHsub_any W _ _ _ _ (E + E) (h 2 rfl) (h 3 rfl) (by omega) (dmul_bd bb.1 ba.2.2) (dmul_bd ba.1 bb.2.2),
      fun σ W g h hb => rHmul_any W _ _ _ _ E (h32 (h 1 rfl)) (h33 (h 0 rfl)) (by omega) bb.2.1 ba.2.2,
      fun σ W g h hb => rHmul_any W _ _ _ _ E (h32 (h 0 rfl)) (h33 (h 1 rfl)) (by omega) ba.2.1 bb.2.2,
      fun σ W g h hb => rHsub_any W _ _ _ _ (E + E) (h 5 rfl) (h 6 rfl) (by omega) (dmul_bd bb.2.1 ba.2.2) (dmul_bd ba.2.1 bb.2.2),
      trivial⟩ fun τ W g h => ⟨_, _, rfl, h 4 rfl, h 7 rfl, g⟩
theorem rHCmp_any (w : World) (va vb : Value) (a b : H3) (E : Nat) (Ha : HV w va a) (Hb : HV w vb b) (hE : E ≤ 10000) (ba : HB E a) (bb : HB E b) (za : 0 < a.z) (zb : 0 < b.z) :
    Calls Tryz.prog 17 #[va, vb] w (fun e w' => e = .returned (.int .i64 (pcmp (rp a) (rp b))) ∧ w.grownBy w' none) := by
  by_cases h1 : rcmp (rp a).1 (rp b).1 = 0
  · skip
    unfold pcmp
    rw [if_pos h1]
    refine exec_calls mixed Tryz.func17 [sH a, sH b] [sR (a.x * b.z), sR (b.x * a.z), sZ (rcmp (rp a).1 (rp b).1), sV (.bool false), sR (a.y * b.z), sR (b.y * a.z), sZ (rcmp (rp a).2 (rp b).2)] (.cons Ha (.cons Hb .nil)) (rs := [cl 2 48 [ag 2 0, .v true [.an 1 4, .an 1 5]], cl 3 48 [ag 2 1, .v true [.an 0 4, .an 0 5]], cl 4 47 [ag 2 2, ag 2 3], co 5 (.binOp .neq 3 (.tmp 17) (.const (.int .i64 0)) 3) 4 [on 4, .v false [.lit (.int .i64 0)]] [0, 1, 2, 3, 4] [], cl 6 48 [.v true [.an 0 2, .an 0 3], .v true [.an 1 4, .an 1 5]], cl 7 48 [.v true [.an 1 2, .an 1 3], .v true [.an 0 4, .an 0 5]], cl 8 47 [ag 2 6, ag 2 7]]) (out := on 8) (nc := 9) (by kernel_rfl)
        ⟨fun σ W g h hb => rHmul_any W _ _ _ _ E (h31 (h 0 rfl)) (h33 (h 1 rfl)) (by omega) ba.1 bb.2.2,
        fun σ W g h hb => rHmul_any W _ _ _ _ E (h31 (h 1 rfl)) (h33 (h 0 rfl)) (by omega) bb.1 ba.2.2,
        fun σ W g h hb => toZ (rZCmp_any W _ _ _ _ (h 2 rfl) (h 3 rfl) (dp6 (dmul_bd ba.1 bb.2.2) (by omega)) (dp6 (dmul_bd bb.1 ba.2.2) (by omega))) (hcmp za zb).1,
        fun σ W g h hb => fun ρ o ho _ hv => ⟨_, ne_told false ho ((two_vals hv).1.trans (h 4 rfl)) (two_vals hv).2 (decide_eq_true h1), rfl⟩,
        fun σ W g h hb => rHmul_any W _ _ _ _ E (h32 (h 0 rfl)) (h33 (h 1 rfl)) (by omega) ba.2.1 bb.2.2,
        fun σ W g h hb => rHmul_any W _ _ _ _ E (h32 (h 1 rfl)) (h33 (h 0 rfl)) (by omega) bb.2.1 ba.2.2,
        fun σ W g h hb => toZ (rZCmp_any W _ _ _ _ (h 6 rfl) (h 7 rfl) (dp6 (dmul_bd ba.2.1 bb.2.2) (by omega)) (dp6 (dmul_bd bb.2.1 ba.2.2) (by omega))) (hcmp za zb).2,
        trivial⟩ fun τ W g h => ⟨congrArg Ending.returned (h 8 rfl), g⟩
  · skip
    unfold pcmp
    rw [if_neg h1]
    refine exec_calls mixed Tryz.func17 [sH a, sH b] [sR (a.x * b.z), sR (b.x * a.z), sZ (rcmp (rp a).1 (rp b).1), sV (.bool true)] (.cons Ha (.cons Hb .nil)) (rs := [cl 2 48 [ag 2 0, .v true [.an 1 4, .an 1 5]], cl 3 48 [ag 2 1, .v true [.an 0 4, .an 0 5]], cl 4 47 [ag 2 2, ag 2 3], co 5 (.binOp .neq 3 (.tmp 17) (.const (.int .i64 0)) 3) 4 [on 4, .v false [.lit (.int .i64 0)]] [0, 1, 2, 3, 4] []]) (out := on 4) (nc := 6) (by kernel_rfl)
        ⟨fun σ W g h hb => rHmul_any W _ _ _ _ E (h31 (h 0 rfl)) (h33 (h 1 rfl)) (by omega) ba.1 bb.2.2,
        fun σ W g h hb => rHmul_any W _ _ _ _ E (h31 (h 1 rfl)) (h33 (h 0 rfl)) (by omega) bb.1 ba.2.2,
        fun σ W g h hb => toZ (rZCmp_any W _ _ _ _ (h 2 rfl) (h 3 rfl) (dp6 (dmul_bd ba.1 bb.2.2) (by omega)) (dp6 (dmul_bd bb.1 ba.2.2) (by omega))) (hcmp za zb).1,
        fun σ W g h hb => fun ρ o ho _ hv => ⟨_, ne_told true ho ((two_vals hv).1.trans (h 4 rfl)) (two_vals hv).2 (decide_eq_false h1), rfl⟩,
        trivial⟩ fun τ W g h => ⟨congrArg Ending.returned (h 4 rfl), g⟩
theorem rHCross_any (w : World) (va vb vc : Value) (a b c : H3) (E : Nat) (Ha : HV w va a) (Hb : HV w vb b) (Hc : HV w vc c) (hE : E ≤ 10000) (ba : HB E a) (bb : HB E b) (bc : HB E c) :
    Calls Tryz.prog 21 #[va, vb, vc] w (RetRF w (hcr a b c) (hdn a b c)) := by
  have l1 := ba.less bb
  have l2 := ba.less bc
  refine exec_calls mixed Tryz.func21 [sH a, sH b, sH c] [sRR (hlx a b) (hly a b), sRR (hlx a c) (hly a c), sR (hlx a b * hly a c), sR (hly a b * hlx a c), sR (hcr a b c), sR (a.z * a.z), sR (b.z * c.z), sR (hdn a b c)] (.cons Ha (.cons Hb (.cons Hc .nil))) (rs := [cl 3 55 [ag 6 0, ag 6 1], cl 4 55 [ag 6 0, ag 6 2], cl 5 48 [ag 2 3, .v true [.an 4 2, .an 4 3]], cl 6 48 [.v true [.an 3 2, .an 3 3], ag 2 4], cl 7 56 [ag 2 5, ag 2 6], cl 8 48 [.v true [.an 0 4, .an 0 5], .v true [.an 0 4, .an 0 5]], cl 9 48 [.v true [.an 1 4, .an 1 5], .v true [.an 2 4, .an 2 5]], cl 10 48 [ag 2 8, ag 2 9]]) (out := .v true [.an 7 0, .an 7 1, .an 10 0, .an 10 1]) (nc := 11) (by kernel_rfl)
      ⟨fun σ W g h hb => toRR (rHless_any W _ _ a b E (h 0 rfl) (h 1 rfl) hE ba bb),
      fun σ W g h hb => toRR (rHless_any W _ _ a c E (h 0 rfl) (h 2 rfl) hE ba bc),
      fun σ W g h hb => rHmul_any W _ _ _ _ (E + E + 1) (rr1 (h 3 rfl)) (rr2 (h 4 rfl)) (by omega) l1.1 l2.2,
      fun σ W g h hb => rHmul_any W _ _ _ _ (E + E + 1) (rr2 (h 3 rfl)) (rr1 (h 4 rfl)) (by omega) l1.2 l2.1,
      fun σ W g h hb => rHsub_any W _ _ _ _ (E + E + 1 + (E + E + 1)) (h 5 rfl) (h 6 rfl) (by omega) (dmul_bd l1.1 l2.2) (dmul_bd l1.2 l2.1),
      fun σ W g h hb => rHmul_any W _ _ _ _ E (h33 (h 0 rfl)) (h33 (h 0 rfl)) (by omega) ba.2.2 ba.2.2,
      fun σ W g h hb => rHmul_any W _ _ _ _ E (h33 (h 1 rfl)) (h33 (h 2 rfl)) (by omega) bb.2.2 bc.2.2,
      fun σ W g h hb => rHmul_any W _ _ _ _ (E + E) (h 8 rfl) (h 9 rfl) (by omega) (dmul_bd ba.2.2 ba.2.2) (dmul_bd bb.2.2 bc.2.2),
      trivial⟩ fun τ W g h => ⟨_, rfl, mkrf (h 7 rfl) (h 10 rfl), g⟩
theorem rHTimes_any (w : World) (va vb vc : Value) (a b c : H3) (E : Nat) (Ha : HV w va a) (Hb : HV w vb b) (Hc : HV w vc c) (hE : E ≤ 10000) (ba : HB E a) (bb : HB E b) (bc : HB E c) :
    Calls Tryz.prog 23 #[va, vb, vc] w (RetRF w (hdt a b c) (hdn a b c)) := by
  have l1 := ba.less bb
  have l2 := ba.less bc
  refine exec_calls mixed Tryz.func23 [sH a, sH b, sH c] [sRR (hlx a b) (hly a b), sRR (hlx a c) (hly a c), sR (hlx a b * hlx a c), sR (hly a b * hly a c), sR (hdt a b c), sR (a.z * a.z), sR (b.z * c.z), sR (hdn a b c)] (.cons Ha (.cons Hb (.cons Hc .nil))) (rs := [cl 3 55 [ag 6 0, ag 6 1], cl 4 55 [ag 6 0, ag 6 2], cl 5 48 [ag 2 3, ag 2 4], cl 6 48 [.v true [.an 3 2, .an 3 3], .v true [.an 4 2, .an 4 3]], cl 7 57 [ag 2 5, ag 2 6], cl 8 48 [.v true [.an 0 4, .an 0 5], .v true [.an 0 4, .an 0 5]], cl 9 48 [.v true [.an 1 4, .an 1 5], .v true [.an 2 4, .an 2 5]], cl 10 48 [ag 2 8, ag 2 9]]) (out := .v true [.an 7 0, .an 7 1, .an 10 0, .an 10 1]) (nc := 11) (by kernel_rfl)
      ⟨fun σ W g h hb => toRR (rHless_any W _ _ a b E (h 0 rfl) (h 1 rfl) hE ba bb),
      fun σ W g h hb => toRR (rHless_any W _ _ a c E (h 0 rfl) (h 2 rfl) hE ba bc),
      fun σ W g h hb => rHmul_any W _ _ _ _ (E + E + 1) (rr1 (h 3 rfl)) (rr1 (h 4 rfl)) (by omega) l1.1 l2.1,
      fun σ W g h hb => rHmul_any W _ _ _ _ (E + E + 1) (rr2 (h 3 rfl)) (rr2 (h 4 rfl)) (by omega) l1.2 l2.2,
      fun σ W g h hb => rHadd_any W _ _ _ _ (E + E + 1 + (E + E + 1)) (h 5 rfl) (h 6 rfl) (by omega) (dmul_bd l1.1 l2.1) (dmul_bd l1.2 l2.2),
      fun σ W g h hb => rHmul_any W _ _ _ _ E (h33 (h 0 rfl)) (h33 (h 0 rfl)) (by omega) ba.2.2 ba.2.2,
      fun σ W g h hb => rHmul_any W _ _ _ _ E (h33 (h 1 rfl)) (h33 (h 2 rfl)) (by omega) bb.2.2 bc.2.2,
      fun σ W g h hb => rHmul_any W _ _ _ _ (E + E) (h 8 rfl) (h 9 rfl) (by omega) (dmul_bd ba.2.2 ba.2.2) (dmul_bd bb.2.2 bc.2.2),
      trivial⟩ fun τ W g h => ⟨_, rfl, mkrf (h 7 rfl) (h 10 rfl), g⟩
theorem rHSide_any (w : World) (va vb vc : Value) (a b c : H3) (E : Nat) (Ha : HV w va a) (Hb : HV w vb b) (Hc : HV w vc c) (hE : E ≤ 10000) (ba : HB E a) (bb : HB E b) (bc : HB E c) (za : 0 < a.z) (zb : 0 < b.z) (zc : 0 < c.z) :
    Calls Tryz.prog 25 #[va, vb, vc] w (fun e w' => e = .returned (.int .i64 (rsg (pcross (rp a) (rp b) (rp c)))) ∧ w.grownBy w' none) := by
  have l1 := ba.less bb
  have l2 := ba.less bc
  refine exec_calls mixed Tryz.func25 [sH a, sH b, sH c] [sRR (hlx a b) (hly a b), sRR (hlx a c) (hly a c), sR (hlx a b * hly a c), sR (hly a b * hlx a c), sZ (rsg (pcross (rp a) (rp b) (rp c)))] (.cons Ha (.cons Hb (.cons Hc .nil))) (rs := [cl 3 55 [ag 6 0, ag 6 1], cl 4 55 [ag 6 0, ag 6 2], cl 5 48 [ag 2 3, .v true [.an 4 2, .an 4 3]], cl 6 48 [.v true [.an 3 2, .an 3 3], ag 2 4], cl 7 47 [ag 2 5, ag 2 6]]) (out := on 7) (nc := 8) (by kernel_rfl)
      ⟨fun σ W g h hb => toRR (rHless_any W _ _ a b E (h 0 rfl) (h 1 rfl) hE ba bb),
      fun σ W g h hb => toRR (rHless_any W _ _ a c E (h 0 rfl) (h 2 rfl) hE ba bc),
      fun σ W g h hb => rHmul_any W _ _ _ _ (E + E + 1) (rr1 (h 3 rfl)) (rr2 (h 4 rfl)) (by omega) l1.1 l2.2,
      fun σ W g h hb => rHmul_any W _ _ _ _ (E + E + 1) (rr2 (h 3 rfl)) (rr1 (h 4 rfl)) (by omega) l1.2 l2.1,
      fun σ W g h hb => toZ (rZCmp_any W _ _ _ _ (h 5 rfl) (h 6 rfl) (dp6 (dmul_bd l1.1 l2.2) (by omega)) (dp6 (dmul_bd l1.2 l2.1) (by omega))) (by rw [← hcr_sign za zb zc, ← zcmp_subE]; rfl),
      trivial⟩ fun τ W g h => ⟨congrArg Ending.returned (h 7 rfl), g⟩
theorem rsg_le {r : Rat} : rsg r ≤ 0 ↔ r ≤ 0 := by
  have h1 := @rsg_pos r
  rcases rsg_or r with e | e | e
  · have := rsg_nz.1 e; constructor <;> intro _ <;> first | omega | grind
  · have := rsg_zero.1 e; constructor <;> intro _ <;> first | omega | grind
  · have := h1.1 e; constructor <;> intro _ <;> first | omega | grind
theorem rHOn_any (w : World) (va vb : Value) (a b c : H3) (E : Nat) (Ha : HsV w va a b) (Hb : HV w vb c) (hE : E ≤ 10000) (ba : HB E a) (bb : HB E b) (bc : HB E c) (za : 0 < a.z) (zb : 0 < b.z) (zc : 0 < c.z) :
    Calls Tryz.prog 31 #[va, vb] w (RetB w (dec (InS (rp a) (rp b) (rp c)))) := by
  rcases (show pcross (rp a) (rp b) (rp c) ≠ 0 ∨ (pcross (rp a) (rp b) (rp c) = 0 ∧ ¬ pdot (rp c) (rp a) (rp b) ≤ 0) ∨ (pcross (rp a) (rp b) (rp c) = 0 ∧ pdot (rp c) (rp a) (rp b) ≤ 0) by grind) with h1 | ⟨h1, h2⟩ | ⟨h1, h2⟩
  · skip
    rw [dec_f (fun q => h1 (ins_doc.1 q).1)]
    refine exec_calls mixed Tryz.func31 [sHs a b, sH c] [sZ (rsg (pcross (rp a) (rp b) (rp c))), sV (.bool false)] (.cons Ha (.cons Hb .nil)) (rs := [cl 2 25 [ag 6 0, .v true [.an 0 6, .an 0 7, .an 0 8, .an 0 9, .an 0 10, .an 0 11], ag 6 1], co 3 (.binOp .eql 3 (.tmp 10) (.const (.int .i64 0)) 3) 4 [on 2, .v false [.lit (.int .i64 0)]] [0, 1, 2] []]) (out := .v false [.lit (.bool false)]) (nc := 4) (by kernel_rfl)
        ⟨fun σ W g h hb => toZ (rHSide_any W _ _ _ a b c E (hs1 (h 0 rfl)) (hs2 (h 0 rfl)) (h 1 rfl) hE ba bb bc za zb zc) rfl,
        fun σ W g h hb => fun ρ o ho _ hv => ⟨_, eq_told false ho ((two_vals hv).1.trans (h 2 rfl)) (two_vals hv).2 (decide_eq_false (fun q => h1 (rsg_zero.1 q))), rfl⟩,
        trivial⟩ fun τ W g h => ⟨rfl, g⟩
  · skip
    rw [dec_f (fun q => h2 (ins_doc.1 q).2)]
    refine exec_calls mixed Tryz.func31 [sHs a b, sH c] [sZ (rsg (pcross (rp a) (rp b) (rp c))), sV (.bool true), sRF (hdt c a b) (hdn c a b), sV (.bool false)] (.cons Ha (.cons Hb .nil)) (rs := [cl 2 25 [ag 6 0, .v true [.an 0 6, .an 0 7, .an 0 8, .an 0 9, .an 0 10, .an 0 11], ag 6 1], co 3 (.binOp .eql 3 (.tmp 10) (.const (.int .i64 0)) 3) 4 [on 2, .v false [.lit (.int .i64 0)]] [0, 1, 2] [], cl 4 23 [ag 6 1, ag 6 0, .v true [.an 0 6, .an 0 7, .an 0 8, .an 0 9, .an 0 10, .an 0 11]], co 5 (.binOp .leq 3 (.tmp 20) (.const (.int .i64 0)) 3) 4 [on 4, .v false [.lit (.int .i64 0)]] [0, 1, 2, 3, 4] []]) (out := .v false [.lit (.bool false)]) (nc := 6) (by kernel_rfl)
        ⟨fun σ W g h hb => toZ (rHSide_any W _ _ _ a b c E (hs1 (h 0 rfl)) (hs2 (h 0 rfl)) (h 1 rfl) hE ba bb bc za zb zc) rfl,
        fun σ W g h hb => fun ρ o ho _ hv => ⟨_, eq_told true ho ((two_vals hv).1.trans (h 2 rfl)) (two_vals hv).2 (decide_eq_true (rsg_zero.2 h1)), rfl⟩,
        fun σ W g h hb => rHTimes_any W _ _ _ c a b E (h 1 rfl) (hs1 (h 0 rfl)) (hs2 (h 0 rfl)) hE bc ba bb,
        fun σ W g h hb => fun ρ o ho _ hv => ⟨_, le_told false ho ((two_vals hv).1.trans (rs1 (rn (h 4 rfl)))) (two_vals hv).2 (decide_eq_false (by rw [hdt_sign zc za zb]; exact fun q => h2 (rsg_le.1 q))), rfl⟩,
        trivial⟩ fun τ W g h => ⟨rfl, g⟩
  · skip
    rw [dec_t (ins_doc.2 ⟨h1, h2⟩)]
    refine exec_calls mixed Tryz.func31 [sHs a b, sH c] [sZ (rsg (pcross (rp a) (rp b) (rp c))), sV (.bool true), sRF (hdt c a b) (hdn c a b), sV (.bool true)] (.cons Ha (.cons Hb .nil)) (rs := [cl 2 25 [ag 6 0, .v true [.an 0 6, .an 0 7, .an 0 8, .an 0 9, .an 0 10, .an 0 11], ag 6 1], co 3 (.binOp .eql 3 (.tmp 10) (.const (.int .i64 0)) 3) 4 [on 2, .v false [.lit (.int .i64 0)]] [0, 1, 2] [], cl 4 23 [ag 6 1, ag 6 0, .v true [.an 0 6, .an 0 7, .an 0 8, .an 0 9, .an 0 10, .an 0 11]], co 5 (.binOp .leq 3 (.tmp 20) (.const (.int .i64 0)) 3) 4 [on 4, .v false [.lit (.int .i64 0)]] [0, 1, 2, 3, 4] []]) (out := .v false [.lit (.bool true)]) (nc := 6) (by kernel_rfl)
        ⟨fun σ W g h hb => toZ (rHSide_any W _ _ _ a b c E (hs1 (h 0 rfl)) (hs2 (h 0 rfl)) (h 1 rfl) hE ba bb bc za zb zc) rfl,
        fun σ W g h hb => fun ρ o ho _ hv => ⟨_, eq_told true ho ((two_vals hv).1.trans (h 2 rfl)) (two_vals hv).2 (decide_eq_true (rsg_zero.2 h1)), rfl⟩,
        fun σ W g h hb => rHTimes_any W _ _ _ c a b E (h 1 rfl) (hs1 (h 0 rfl)) (hs2 (h 0 rfl)) hE bc ba bb,
        fun σ W g h hb => fun ρ o ho _ hv => ⟨_, le_told true ho ((two_vals hv).1.trans (rs1 (rn (h 4 rfl)))) (two_vals hv).2 (decide_eq_true (by rw [hdt_sign zc za zb]; exact rsg_le.2 h2)), rfl⟩,
        trivial⟩ fun τ W g h => ⟨rfl, g⟩
theorem rtext_sizeD {s : ByteArray} {n d : Int} {E : Nat} (h : RTextOf s (Rat.divInt n d)) (h0 : 0 < d) (hE : 1 ≤ E) (h1 : n.natAbs < D ^ E) (h2 : d.natAbs < D ^ E) : s.size ≤ 8 * E + 10 := by
  have b1 := rq_nle (r := Rat.divInt n d) h0 rfl h1
  have b2 := rq_dle (r := Rat.divInt n d) h0 rfl h2
  rcases h with ⟨_, h⟩ | ⟨_, p, q, hp, hq, rfl⟩
  · have := ztext_lenD h b1 hE; omega
  · have h3 := ztext_lenD hp b1 hE
    have h4 := ztext_lenD hq b2 hE
    simp only [ByteArray.size_append]
    have : ({ data := #[47] } : ByteArray).size = 1 := rfl
    omega
theorem rHText_any (w : World) (va : Value) (a : H3) (E : Nat) (Ha : HV w va a) (hE : 1 ≤ E ∧ E ≤ 200000) (ba : HB E a) (za : 0 < a.z) :
    Calls Tryz.prog 13 #[va] w (RetPText w (rp a)) := by
  refine exec_calls mixed Tryz.func13 [sH a] [sT (fun s => RTextOf s (rp a).1), sT (fun s => ∃ t, RTextOf t (rp a).1 ∧ s = t ++ { data := #[32] }), sT (fun s => RTextOf s (rp a).2), sT (fun s => PTextOf s (rp a))] (.cons Ha .nil) (rs := [cl 1 20 [.v true [.an 0 0, .an 0 1, .an 0 4, .an 0 5]], co 2 (.binOp .add 9 (.tmp 8) (.const (.string ({ data := #[32] }))) 9) 9 [on 1, .v false [.lit (.string ({ data := #[32] }))]] [0, 1] [], cla 3 20 [.v true [.an 0 2, .an 0 3, .an 0 4, .an 0 5]] [0, 1], co 4 (.binOp .add 9 (.tmp 9) (.tmp 15) 9) 9 [on 2, on 3] [0, 1, 2, 3] []]) (out := on 4) (nc := 5) (by kernel_rfl)
      ⟨fun σ W g h hb => toT (rFText_any W _ a.x a.z (rp a).1 (mkrf (h31 (h 0 rfl)) (h33 (h 0 rfl))) E hE za rfl ba.1 ba.2.2),
      fun σ W g h hb => fun ρ o ho _ hv => by
        obtain ⟨s, e, hs⟩ := h 1 rfl
        exact ⟨_, add_told ho ((two_vals hv).1.trans e) (two_vals hv).2 (by have := rtext_sizeD hs za hE.1 ba.1 ba.2.2; show s.size + 1 ≤ _; omega), _, rfl, s, hs, rfl⟩,
      fun σ W g h hb => toT (rFText_any W _ a.y a.z (rp a).2 (mkrf (h32 (h 0 rfl)) (h33 (h 0 rfl))) E hE za rfl ba.2.1 ba.2.2),
      fun σ W g h hb => fun ρ o ho _ hv => by
        obtain ⟨s, e, p, hp, rfl⟩ := h 2 rfl
        obtain ⟨t, e2, ht⟩ := h 3 rfl
        exact ⟨_, add_told ho ((two_vals hv).1.trans e) ((two_vals hv).2.trans e2) (by have h1 := rtext_sizeD hp za hE.1 ba.1 ba.2.2; have h2 := rtext_sizeD ht za hE.1 ba.2.1 ba.2.2; simp only [ByteArray.size_append]; have : ({ data := #[32] } : ByteArray).size = 1 := rfl; omega), _, rfl, p, t, hp, ht, rfl⟩,
      trivial⟩ fun τ W g h => by
        obtain ⟨s, e, hs⟩ := h 4 rfl
        exact ⟨s, congrArg Ending.returned e, hs, g⟩
end Go.Proofs.YthbhgcaemcobeaaGreatDoor
namespace Go.Proofs.YthbhgcaemcobeaaGreatDoor
open Go.RowKit Mat Ex PM
set_option linter.unusedVariables false
set_option linter.unusedSimpArgs false
def lna (a b : H3) : Int := a.y * b.z - b.y * a.z
def lnb (a b : H3) : Int := b.x * a.z - a.x * b.z
def lnc (a b : H3) : Int := b.x * a.y - a.x * b.y
def crw (a b c d : H3) : Int := lna a b * lnb c d - lnb a b * lna c d
def crx (a b c d : H3) : Int := lnc a b * lnb c d - lnb a b * lnc c d
def cry (a b c d : H3) : Int := lna a b * lnc c d - lnc a b * lna c d
def crp (a b c d : H3) : H3 := if crw a b c d < 0 then ⟨-crx a b c d, -cry a b c d, -crw a b c d⟩ else ⟨crx a b c d, cry a b c d, crw a b c d⟩
theorem HB.line {E : Nat} {a b : H3} (ha : HB E a) (hb : HB E b) : (lna a b).natAbs < D ^ (E + E + 1) ∧ (lnb a b).natAbs < D ^ (E + E + 1) ∧ (lnc a b).natAbs < D ^ (E + E + 1) := by
  unfold lna lnb lnc
  refine ⟨?_, ?_, ?_⟩ <;> rw [Int.sub_eq_add_neg]
  · exact dadd_bd (dmul_bd ha.2.1 hb.2.2) (dneg_bd (dmul_bd hb.2.1 ha.2.2))
  · exact dadd_bd (dmul_bd hb.1 ha.2.2) (dneg_bd (dmul_bd ha.1 hb.2.2))
  · exact dadd_bd (dmul_bd hb.1 ha.2.1) (dneg_bd (dmul_bd ha.1 hb.2.1))
theorem HB.crw {E : Nat} {a b c d : H3} (ha : HB E a) (hb : HB E b) (hc : HB E c) (hd : HB E d) : (crw a b c d).natAbs < D ^ (4 * E + 3) ∧ (crx a b c d).natAbs < D ^ (4 * E + 3) ∧ (cry a b c d).natAbs < D ^ (4 * E + 3) := by
  have h1 := ha.line hb
  have h2 := hc.line hd
  unfold Proofs.YthbhgcaemcobeaaGreatDoor.crw crx cry
  refine ⟨?_, ?_, ?_⟩ <;> rw [Int.sub_eq_add_neg]
  · exact dpw (dadd_bd (dmul_bd h1.1 h2.2.1) (dneg_bd (dmul_bd h1.2.1 h2.1))) (by omega)
  · exact dpw (dadd_bd (dmul_bd h1.2.2 h2.2.1) (dneg_bd (dmul_bd h1.2.1 h2.2.2))) (by omega)
  · exact dpw (dadd_bd (dmul_bd h1.1 h2.2.2) (dneg_bd (dmul_bd h1.2.2 h2.1))) (by omega)
theorem HB.crp {E : Nat} {a b c d : H3} (ha : HB E a) (hb : HB E b) (hc : HB E c) (hd : HB E d) : HB (4 * E + 3) (crp a b c d) := by
  obtain ⟨h1, h2, h3⟩ := ha.crw hb hc hd
  unfold Proofs.YthbhgcaemcobeaaGreatDoor.crp
  split
  · exact ⟨dneg_bd h2, dneg_bd h3, dneg_bd h1⟩
  · exact ⟨h2, h3, h1⟩
theorem rq_mk {n d : Int} (h : 0 < d) : (n : Rat) = Rat.divInt n d * (d : Rat) := by
  rw [q_of]; exact (Rat.div_mul_cancel (hz h)).symm
theorem crw_eq {a b c d : H3} (za : 0 < a.z) (zb : 0 < b.z) (zc : 0 < c.z) (zd : 0 < d.z) :
    (crw a b c d : Rat) = (a.z : Rat) * b.z * c.z * d.z * (pcross (rp c) (rp d) (rp a) - pcross (rp c) (rp d) (rp b)) ∧
    (crx a b c d : Rat) = (a.z : Rat) * b.z * c.z * d.z * ((rp a).1 * (pcross (rp c) (rp d) (rp a) - pcross (rp c) (rp d) (rp b)) + ((rp b).1 - (rp a).1) * pcross (rp c) (rp d) (rp a)) ∧
    (cry a b c d : Rat) = (a.z : Rat) * b.z * c.z * d.z * ((rp a).2 * (pcross (rp c) (rp d) (rp a) - pcross (rp c) (rp d) (rp b)) + ((rp b).2 - (rp a).2) * pcross (rp c) (rp d) (rp a)) := by
  unfold crw crx cry lna lnb lnc pcross rp
  simp only [Rat.intCast_mul, Rat.intCast_sub]
  rw [rq_mk (n := a.x) za, rq_mk (n := a.y) za, rq_mk (n := b.x) zb, rq_mk (n := b.y) zb, rq_mk (n := c.x) zc, rq_mk (n := c.y) zc, rq_mk (n := d.x) zd, rq_mk (n := d.y) zd]
  generalize (a.z : Rat) = az at *; generalize (b.z : Rat) = bz at *; generalize (c.z : Rat) = cz at *; generalize (d.z : Rat) = dz at *
  generalize Rat.divInt a.x a.z = ax; generalize Rat.divInt b.x b.z = bx; generalize Rat.divInt c.x c.z = cx; generalize Rat.divInt d.x d.z = dx
  generalize Rat.divInt a.y a.z = ay; generalize Rat.divInt b.y b.z = b2; generalize Rat.divInt c.y c.z = cy; generalize Rat.divInt d.y d.z = dy
  refine ⟨by grind, by grind, by grind⟩
theorem hz4 {a b c d : H3} (za : 0 < a.z) (zb : 0 < b.z) (zc : 0 < c.z) (zd : 0 < d.z) : (a.z : Rat) * b.z * c.z * d.z ≠ 0 := by
  have h1 := hz za; have h2 := hz zb; have h3 := hz zc; have h4 := hz zd
  intro e
  rcases Rat.mul_eq_zero.1 e with e | e
  · rcases Rat.mul_eq_zero.1 e with e | e
    · rcases Rat.mul_eq_zero.1 e with e | e
      · exact h1 e
      · exact h2 e
    · exact h3 e
  · exact h4 e
theorem crw_zero {a b c d : H3} (za : 0 < a.z) (zb : 0 < b.z) (zc : 0 < c.z) (zd : 0 < d.z) : crw a b c d = 0 ↔ pcross (rp c) (rp d) (rp a) = pcross (rp c) (rp d) (rp b) := by
  have h := (crw_eq za zb zc zd).1
  have hn := hz4 za zb zc zd
  constructor
  · intro e
    rw [e] at h
    rcases Rat.mul_eq_zero.1 h.symm with e2 | e2
    · exact absurd e2 hn
    · grind
  · intro e
    rw [e, Rat.sub_self, Rat.mul_zero] at h
    exact_mod_cast h
theorem crp_pos {a b c d : H3} (h : crw a b c d ≠ 0) : 0 < (crp a b c d).z := by
  unfold crp; split
  · show 0 < -crw a b c d; omega
  · show 0 < crw a b c d; omega
theorem div_neg2 (x y : Rat) : -x / -y = x / y := by
  by_cases h : y = 0
  · subst h; simp [Rat.div_def, Rat.inv_zero]
  · have : -y ≠ 0 := by grind
    grind
theorem cut_div {K N p q u : Rat} (hK : K ≠ 0) (hN : N ≠ 0) : K * (p * N + (q - p) * u) / (K * N) = p + (q - p) * (u / N) := by
  have hKN : K * N ≠ 0 := fun e => (Rat.mul_eq_zero.1 e).elim hK hN
  have e1 := Rat.div_mul_cancel (a := K * (p * N + (q - p) * u)) hKN
  have e2 := Rat.div_mul_cancel (a := u) hN
  generalize K * (p * N + (q - p) * u) / (K * N) = y at *
  generalize u / N = z at *
  have : (y - (p + (q - p) * z)) * (K * N) = 0 := by grind
  rcases Rat.mul_eq_zero.1 this with h | h
  · grind
  · exact absurd h hKN
theorem crp_is {a b c d : H3} (za : 0 < a.z) (zb : 0 < b.z) (zc : 0 < c.z) (zd : 0 < d.z) (h : crw a b c d ≠ 0) :
    rp (crp a b c d) = pat (rp a) (rp b) (pcross (rp c) (rp d) (rp a) / (pcross (rp c) (rp d) (rp a) - pcross (rp c) (rp d) (rp b))) := by
  have e : rp (crp a b c d) = ((crx a b c d : Rat) / (crw a b c d : Rat), (cry a b c d : Rat) / (crw a b c d : Rat)) := by
    unfold crp rp
    split
    · simp only [q_of, Rat.intCast_neg, div_neg2]
    · simp only [q_of]
  obtain ⟨h1, h2, h3⟩ := crw_eq za zb zc zd
  have hne : pcross (rp c) (rp d) (rp a) - pcross (rp c) (rp d) (rp b) ≠ 0 := fun q => h ((crw_zero za zb zc zd).2 (by grind))
  have hK := hz4 za zb zc zd
  rw [e, h1, h2, h3]
  generalize (a.z : Rat) * b.z * c.z * d.z = K at *
  generalize hu : pcross (rp c) (rp d) (rp a) = u at *
  generalize hv : pcross (rp c) (rp d) (rp b) = v at *
  simp only [pat]
  generalize hN : u - v = N at *
  refine Prod.ext ?_ ?_
  · show K * ((rp a).1 * N + ((rp b).1 - (rp a).1) * u) / (K * N) = (rp a).1 + ((rp b).1 - (rp a).1) * (u / N)
    exact cut_div hK hne
  · show K * ((rp a).2 * N + ((rp b).2 - (rp a).2) * u) / (K * N) = (rp a).2 + ((rp b).2 - (rp a).2) * (u / N)
    exact cut_div hK hne
end Go.Proofs.YthbhgcaemcobeaaGreatDoor
