/- What the laws lean on, part 2. -/
import Derived.Test.YthbhgcaemcobeaaGreatDoorMp25
import Derived.Test.YthbhgcaemcobeaaGreatDoorMq1
namespace Go.Proofs.YthbhgcaemcobeaaGreatDoor
open Go.RowKit Mat Ex PM
set_option linter.unusedVariables false
set_option linter.unusedSimpArgs false
set_option maxRecDepth 100000
theorem meet_two (a b c d : Pq) : (meetP a b c d).length ≤ 2 := by
  have h : ∀ p q : Pq, (btw p q).length ≤ 2 := fun p q => by unfold btw; split <;> simp
  unfold meetP
  split
  · split
    · simp
    · split
      · simp
      · split <;> exact h _ _
  · simp
theorem meet_bd {K : Nat} {a b c d : Pq} (ha : Bp K a) (hb : Bp K b) (hc : Bp K c) (hd : Bp K d) : ∀ x ∈ meetP a b c d, Bp (128 * K + 100) x := by
  have hx := ha.cut hb hc hd
  unfold meetP
  split
  · split
    · intro x hx; cases hx
    · split
      · intro x hx; cases hx
      · split
        · intro x h; exact (btw_bd ((ha.lo hb).max (hc.lo hd)) ((ha.hi hb).min (hc.hi hd)) x h).mono (by omega)
        · exact btw_bd hx hx
  · intro x hx; cases hx
theorem beqb_told {P : Program} {ρ : Operand → Value} {o : Oper} {t t' : TypeId} {x y : Operand} {a b : Bool} {W : World} (ho : o.op = .binOp .eql t x y t') (hx : ρ x = .bool a) (hy : ρ y = .bool b) (hu : P.underlying t = some .bool) (h : a = b) : (execOp ρ o).run P W = .ok (.value (.bool true)) W := by
  have hg : eqGuard .eql t x y (.bool a) (.bool b) = pure () := by unfold eqGuard; rfl
  have hb : binOp .eql t (.bool a) (.bool b) = (do pure (.bool (← Op.equal t (.bool a) (.bool b)))) := by simp [binOp]
  have he : (Op.equal t (.bool a) (.bool b)).run P W = .ok true W := by
    subst h
    have key : ∀ d : Nat, (Op.equalIn (d + 1) t (.bool a) (.bool a)).run P W = .ok true W := fun d => by
      rw [Op.equalIn, Sem.run_bind, run_underlying hu W, Result.andThen_ok]
      show Sem.run P (pure (a == a)) W = _
      rw [beq_self_eq_true]; rfl
    exact key _
  simp only [execOp, ho, hx, hy, hg, hb, Sem.run_bind, Sem.run_pure, Result.andThen_ok, he]
theorem planeMeets_walk (w : World) (x0 y0 d0 x1 y1 d1 x2 y2 d2 x3 y3 d3 : Int) (a0 : -9223372036854775808 ≤ x0) (b0 : x0 ≤ 9223372036854775807) (c0 : -9223372036854775808 ≤ y0) (e0 : y0 ≤ 9223372036854775807) (a1 : -9223372036854775808 ≤ x1) (b1 : x1 ≤ 9223372036854775807) (c1 : -9223372036854775808 ≤ y1) (e1 : y1 ≤ 9223372036854775807) (a2 : -9223372036854775808 ≤ x2) (b2 : x2 ≤ 9223372036854775807) (c2 : -9223372036854775808 ≤ y2) (e2 : y2 ≤ 9223372036854775807) (a3 : -9223372036854775808 ≤ x3) (b3 : x3 ≤ 9223372036854775807) (c3 : -9223372036854775808 ≤ y3) (e3 : y3 ≤ 9223372036854775807) (hTab : Tab w) :
    Calls Tryz.prog 4 #[.agg #[.int .i64 x0, .int .i64 y0, .int .i64 d0], .agg #[.int .i64 x1, .int .i64 y1, .int .i64 d1], .agg #[.int .i64 x2, .int .i64 y2, .int .i64 d2], .agg #[.int .i64 x3, .int .i64 y3, .int .i64 d3]] w (fun e w' => e = .returned (.bool true) ∧ w.grownBy w' none) := by
  refine exec_calls mixed Tryz.func4 [sDt x0 y0 d0, sDt x1 y1 d1, sDt x2 y2 d2, sDt x3 y3 d3] [sSH (lat x0 y0 d0) (lat x1 y1 d1) ⟨x0, y0, und d0⟩ ⟨x1, y1, und d1⟩, sSH (lat x2 y2 d2) (lat x3 y3 d3) ⟨x2, y2, und d2⟩ ⟨x3, y3, und d3⟩, sV (.bool true), sPts 0 (meetP (lat x0 y0 d0) (lat x1 y1 d1) (lat x2 y2 d2) (lat x3 y3 d3)), sHl 23 (meetP (lat x0 y0 d0) (lat x1 y1 d1) (lat x2 y2 d2) (lat x3 y3 d3)), sV (.bool true), sPt (lat x2 y2 d2), sBd (dec (InS (lat x0 y0 d0) (lat x1 y1 d1) (lat x2 y2 d2))), sH ⟨x2, y2, und d2⟩, sBd (dec (InS (lat x0 y0 d0) (lat x1 y1 d1) (lat x2 y2 d2))), sV (.bool true), sPt (lat x0 y0 d0), sBd (dec (InS (lat x2 y2 d2) (lat x3 y3 d3) (lat x0 y0 d0))), sH ⟨x0, y0, und d0⟩, sBd (dec (InS (lat x2 y2 d2) (lat x3 y3 d3) (lat x0 y0 d0))), sV (.bool true)] (.cons rfl (.cons rfl (.cons rfl (.cons rfl .nil)))) (rs := [cl 4 26 [ag 3 0, ag 3 1], cl 5 26 [ag 3 2, ag 3 3], cl 6 11 [], cl 7 28 [ag 16 4, ag 16 5], cl 8 29 [.v true [.an 4 16, .an 4 17, .an 4 18, .an 4 19, .an 4 20, .an 4 21, .an 4 22, .an 4 23, .an 4 24, .an 4 25, .an 4 26, .an 4 27], .v true [.an 5 16, .an 5 17, .an 5 18, .an 5 19, .an 5 20, .an 5 21, .an 5 22, .an 5 23, .an 5 24, .an 5 25, .an 5 26, .an 5 27]], cl 9 27 [on 7, on 8], cl 10 9 [ag 3 2], cl 11 30 [ag 16 4, ag 8 10], cl 12 10 [ag 3 2], cl 13 31 [.v true [.an 4 16, .an 4 17, .an 4 18, .an 4 19, .an 4 20, .an 4 21, .an 4 22, .an 4 23, .an 4 24, .an 4 25, .an 4 26, .an 4 27], ag 6 12], co 14 (.binOp .eql 4 (.tmp 39) (.tmp 43) 4) 4 [on 11, on 13] [0, 1, 2, 3, 4, 5, 6, 7, 8, 9, 10, 11, 12, 13] [], cl 15 9 [ag 3 0], cl 16 30 [ag 16 5, ag 8 15], cl 17 10 [ag 3 0], cl 18 31 [.v true [.an 5 16, .an 5 17, .an 5 18, .an 5 19, .an 5 20, .an 5 21, .an 5 22, .an 5 23, .an 5 24, .an 5 25, .an 5 26, .an 5 27], ag 6 17], co 19 (.binOp .eql 4 (.tmp 50) (.tmp 54) 4) 4 [on 16, on 18] [0, 1, 2, 3, 4, 5, 6, 7, 8, 9, 10, 11, 12, 13, 14, 15, 16, 17, 18] []]) (out := .v false [.lit (.bool true)]) (nc := 20) (by kernel_rfl)
      ⟨fun σ W g h hb => toSH (argl (congr3 (h 0 rfl) (h 1 rfl)) (LSeg_any W x0 y0 d0 x1 y1 d1 a0 b0 c0 e0 a1 b1 c1 e1 (hTab.kept g (by simp)))),
      fun σ W g h hb => toSH (argl (congr3 (h 2 rfl) (h 3 rfl)) (LSeg_any W x2 y2 d2 x3 y3 d3 a2 b2 c2 e2 a3 b3 c3 e3 (hTab.kept g (by simp)))),
      fun σ W g h hb => toV (LKnown_any W (hTab.kept g (by simp))) rfl,
      fun σ W g h hb => toPts (Nat.zero_le _) (PMeet_any W _ _ (lat x0 y0 d0) (lat x1 y1 d1) (lat x2 y2 d2) (lat x3 y3 d3) 1 (sh1 (h 4 rfl)) (sh1 (h 5 rfl)) (by omega) (lat_b a0 b0 c0 e0) (lat_b a1 b1 c1 e1) (lat_b a2 b2 c2 e2) (lat_b a3 b3 c3 e3) (hTab.kept g (by simp))),
      fun σ W g h hb => toHl (by
        rw [meet_same]
        exact rHMeet_any W _ _ ⟨x0, y0, und d0⟩ ⟨x1, y1, und d1⟩ ⟨x2, y2, und d2⟩ ⟨x3, y3, und d3⟩ 5 (sh2 (h 4 rfl)) (sh2 (h 5 rfl)) (by omega) (lat_h a0 b0 c0 e0) (lat_h a1 b1 c1 e1) (lat_h a2 b2 c2 e2) (lat_h a3 b3 c3 e3) (und_pos d0).1 (und_pos d1).1 (und_pos d2).1 (und_pos d3).1),
      fun σ W g h hb => toV (alike_any W _ _ (meetP (lat x0 y0 d0) (lat x1 y1 d1) (lat x2 y2 d2) (lat x3 y3 d3)) 228 23 (by omega) (by omega) (h 7 rfl).1 (h 8 rfl) (meet_two _ _ _ _) (meet_bd (K := 1) (lat_b a0 b0 c0 e0) (lat_b a1 b1 c1 e1) (lat_b a2 b2 c2 e2) (lat_b a3 b3 c3 e3))) rfl,
      fun σ W g h hb => arg1 (h 2 rfl) (LAt_any W x2 y2 d2 a2 b2 c2 e2 (hTab.kept g (by simp))),
      fun σ W g h hb => toBd (POn_any W _ _ (lat x0 y0 d0) (lat x1 y1 d1) (lat x2 y2 d2) 1 (sh1 (h 4 rfl)) (h 10 rfl) (by omega) (lat_b a0 b0 c0 e0) (lat_b a1 b1 c1 e1) (lat_b a2 b2 c2 e2) (hTab.kept g (by simp))),
      fun σ W g h hb => arg1 (h 2 rfl) (rHAt_any W x2 y2 d2 a2 b2 c2 e2),
      fun σ W g h hb => toBd (rHOn_any W _ _ ⟨x0, y0, und d0⟩ ⟨x1, y1, und d1⟩ ⟨x2, y2, und d2⟩ 5 (sh2 (h 4 rfl)) (h 12 rfl) (by omega) (lat_h a0 b0 c0 e0) (lat_h a1 b1 c1 e1) (lat_h a2 b2 c2 e2) (und_pos d0).1 (und_pos d1).1 (und_pos d2).1),
      fun σ W g h hb => fun ρ o ho _ hv => ⟨_, beqb_told ho ((two_vals hv).1.trans (h 11 rfl)) ((two_vals hv).2.trans (h 13 rfl)) (by kernel_rfl) rfl, rfl⟩,
      fun σ W g h hb => arg1 (h 0 rfl) (LAt_any W x0 y0 d0 a0 b0 c0 e0 (hTab.kept g (by simp))),
      fun σ W g h hb => toBd (POn_any W _ _ (lat x2 y2 d2) (lat x3 y3 d3) (lat x0 y0 d0) 1 (sh1 (h 5 rfl)) (h 15 rfl) (by omega) (lat_b a2 b2 c2 e2) (lat_b a3 b3 c3 e3) (lat_b a0 b0 c0 e0) (hTab.kept g (by simp))),
      fun σ W g h hb => arg1 (h 0 rfl) (rHAt_any W x0 y0 d0 a0 b0 c0 e0),
      fun σ W g h hb => toBd (rHOn_any W _ _ ⟨x2, y2, und d2⟩ ⟨x3, y3, und d3⟩ ⟨x0, y0, und d0⟩ 5 (sh2 (h 5 rfl)) (h 17 rfl) (by omega) (lat_h a2 b2 c2 e2) (lat_h a3 b3 c3 e3) (lat_h a0 b0 c0 e0) (und_pos d2).1 (und_pos d3).1 (und_pos d0).1),
      fun σ W g h hb => fun ρ o ho _ hv => ⟨_, beqb_told ho ((two_vals hv).1.trans (h 16 rfl)) ((two_vals hv).2.trans (h 18 rfl)) (by kernel_rfl) rfl, rfl⟩,
      trivial⟩ fun τ W g h => ⟨rfl, g⟩
end Go.Proofs.YthbhgcaemcobeaaGreatDoor
namespace Go.Proofs.YthbhgcaemcobeaaGreatDoor
open Go.RowKit Mat Ex PM
set_option linter.unusedVariables false
set_option linter.unusedSimpArgs false
set_option maxRecDepth 100000
theorem eq_decq {p q : Pq} {b : Bool} (h : dec (p = q) = b) : decide (pcmp p q = 0) = b := by rw [eq_dec, h]
theorem LWithin_0 (w : World) (va : Value) (r : Nat) (u0 u1 u2 u3 u4 u5 u6 u7 : Value) (p : Pq) (K : Nat) (Ha : PtsV w va []) (Bq : w.heap[r]? = some (.cells #[u0, u1, u2, u3, u4, u5, u6, u7] 34 (0, 0))) (Hp : PtV w (.agg #[u0, u1, u2, u3, u4, u5, u6, u7]) p) (hK : 1 ≤ K ∧ K ≤ 10000) (bp : Bp K p) (hTab : Tab w) :
    Calls Tryz.prog 40 #[va, .pointer (some ⟨r, 0, none⟩)] w (RetB w (false)) := by
  obtain ⟨s9, n9, c9, e, hrest⟩ := Ha
  subst e
  have Ha : PtsV w (.slice s9 n9 c9) [] := ⟨s9, n9, c9, rfl, hrest⟩
  exact exec_calls_box mixed Tryz.func40 [sPts 0 [], sPt p, sV (.int .i64 0), sV (.int .i64 0)] 2 [.v false [.an 0 0], .v false [.ptr 0 0]] [(34, [.an 1 0, .an 1 1, .an 1 2, .an 1 3, .an 1 4, .an 1 5, .an 1 6, .an 1 7])] (rs := [co 2 (.call ⟨.builtin .len, #[(.tmp 4)], #[66]⟩) 3 [on 0] [0, 1] [], co 3 (.call ⟨.builtin .len, #[(.tmp 16)], #[66]⟩) 3 [on 0] [0, 1, 2] []]) (out := .v false [.lit (.bool false)]) (nc := 4) (by kernel_rfl) w
    ⟨fun n => match n with | 0 => cellf [.slice s9 n9 c9] | 1 => cellf [u0, u1, u2, u3, u4, u5, u6, u7] | _ => fun _ => .bool false, fun b => match b with | 0 => r | _ => 0, fun _ => undef⟩
    (fun n c => match n with
      | 0 => cellf_one (by simp [Value.oneCell']) c
      | 1 => cellf_one (Hp.one) c
      | _ + 2 => rfl)
    (fun b q hq => match b, q, hq with
      | 0, _, rfl => Bq
      | _ + 1, _, hq => nomatch hq)
    (fun b c hb hc hq => match b, c, hb, hc with
      | 0, 0, _, _ => rfl
      | _ + 1, _, hb, _ => absurd hb (by simp)
      | _, _ + 1, _, hc => absurd hc (by simp))
    (fun jn hn => match jn, hn with
      | 0, _ => (⟨Ha, fun _ _ => Nat.zero_le _⟩ : PtsV w (.slice s9 n9 c9) [] ∧ ∀ q, fpS (.slice s9 n9 c9) q → 0 ≤ q)
      | 1, _ => Hp
      | _ + 2, hn => absurd hn (by omega))
    ⟨fun σ W g h hb => fun ρ o ho _ hv => ⟨_, pts_len (h 0 rfl).1 ho (one_val hv) ⟨34, by kernel_rfl⟩, rfl⟩,
    fun σ W g h hb => fun ρ o ho _ hv => ⟨_, pts_len (h 0 rfl).1 ho (one_val hv) ⟨34, by kernel_rfl⟩, rfl⟩,
    trivial⟩ _ fun τ W g h => ⟨rfl, g⟩
theorem LWithin_1t (w : World) (va : Value) (r : Nat) (u0 u1 u2 u3 u4 u5 u6 u7 : Value) (p q : Pq) (K : Nat) (Ha : PtsV w va [q]) (Bq : w.heap[r]? = some (.cells #[u0, u1, u2, u3, u4, u5, u6, u7] 34 (0, 0))) (Hp : PtV w (.agg #[u0, u1, u2, u3, u4, u5, u6, u7]) p) (hK : 1 ≤ K ∧ K ≤ 10000) (bp : Bp K p) (bq : Bp K q) (hTab : Tab w) (hq : q = p) :
    Calls Tryz.prog 40 #[va, .pointer (some ⟨r, 0, none⟩)] w (RetB w (true)) := by
  obtain ⟨s9, n9, c9, e, hrest⟩ := Ha
  subst e
  have Ha : PtsV w (.slice s9 n9 c9) [q] := ⟨s9, n9, c9, rfl, hrest⟩
  exact exec_calls_box mixed Tryz.func40 [sPts 0 [q], sPt p, sV (.int .i64 1), sAt q, sPt q, sZ (pcmp q p), sV (.bool true)] 2 [.v false [.an 0 0], .v false [.ptr 0 0]] [(34, [.an 1 0, .an 1 1, .an 1 2, .an 1 3, .an 1 4, .an 1 5, .an 1 6, .an 1 7])] (rs := [co 2 (.call ⟨.builtin .len, #[(.tmp 4)], #[66]⟩) 3 [on 0] [0, 1] [], co 3 (.indexAddr 66 (.tmp 8) (.const (.int .i64 0))) 0 [on 0, .v false [.lit (.int .i64 0)]] [0, 1, 2] [], co 4 (.load 34 (.tmp 9)) 34 [on 3] [0, 1, 2, 3] [], cl 5 16 [ag 8 4, ag 8 1], co 6 (.binOp .eql 3 (.tmp 12) (.const (.int .i64 0)) 3) 4 [on 5, .v false [.lit (.int .i64 0)]] [0, 1, 2, 3, 4, 5] []]) (out := .v false [.lit (.bool true)]) (nc := 7) (by kernel_rfl) w
    ⟨fun n => match n with | 0 => cellf [.slice s9 n9 c9] | 1 => cellf [u0, u1, u2, u3, u4, u5, u6, u7] | _ => fun _ => .bool false, fun b => match b with | 0 => r | _ => 0, fun _ => undef⟩
    (fun n c => match n with
      | 0 => cellf_one (by simp [Value.oneCell']) c
      | 1 => cellf_one (Hp.one) c
      | _ + 2 => rfl)
    (fun b q hq => match b, q, hq with
      | 0, _, rfl => Bq
      | _ + 1, _, hq => nomatch hq)
    (fun b c hb hc hq => match b, c, hb, hc with
      | 0, 0, _, _ => rfl
      | _ + 1, _, hb, _ => absurd hb (by simp)
      | _, _ + 1, _, hc => absurd hc (by simp))
    (fun jn hn => match jn, hn with
      | 0, _ => (⟨Ha, fun _ _ => Nat.zero_le _⟩ : PtsV w (.slice s9 n9 c9) [q] ∧ ∀ q, fpS (.slice s9 n9 c9) q → 0 ≤ q)
      | 1, _ => Hp
      | _ + 2, hn => absurd hn (by omega))
    ⟨fun σ W g h hb => fun ρ o ho _ hv => ⟨_, pts_len (h 0 rfl).1 ho (one_val hv) ⟨34, by kernel_rfl⟩, rfl⟩,
    fun σ W g h hb => fun ρ o ho _ hv => by
      obtain ⟨u, h1, h2, h3⟩ := pts_at (h 0 rfl).1 ho (two_vals hv).1 0 (by simp) (two_vals hv).2
      exact ⟨u, h1, h2, fun q hq => ⟨0, rfl, h3 q hq⟩⟩,
    fun σ W g h hb => fun ρ o ho _ hv => pts_load (h 3 rfl) ho (one_val hv),
    fun σ W g h hb => toZ (PCmp_any W _ _ q p K (h 4 rfl) (h 1 rfl) (by omega) bq bp) rfl,
    fun σ W g h hb => fun ρ o ho _ hv => ⟨_, eq_told true ho ((two_vals hv).1.trans (h 5 rfl)) (two_vals hv).2 (decide_eq_true (pcmp_zero.2 hq)), rfl⟩,
    trivial⟩ _ fun τ W g h => ⟨rfl, g⟩
theorem LWithin_1f (w : World) (va : Value) (r : Nat) (u0 u1 u2 u3 u4 u5 u6 u7 : Value) (p q : Pq) (K : Nat) (Ha : PtsV w va [q]) (Bq : w.heap[r]? = some (.cells #[u0, u1, u2, u3, u4, u5, u6, u7] 34 (0, 0))) (Hp : PtV w (.agg #[u0, u1, u2, u3, u4, u5, u6, u7]) p) (hK : 1 ≤ K ∧ K ≤ 10000) (bp : Bp K p) (bq : Bp K q) (hTab : Tab w) (hq : q ≠ p) :
    Calls Tryz.prog 40 #[va, .pointer (some ⟨r, 0, none⟩)] w (RetB w (false)) := by
  obtain ⟨s9, n9, c9, e, hrest⟩ := Ha
  subst e
  have Ha : PtsV w (.slice s9 n9 c9) [q] := ⟨s9, n9, c9, rfl, hrest⟩
  exact exec_calls_box mixed Tryz.func40 [sPts 0 [q], sPt p, sV (.int .i64 1), sAt q, sPt q, sZ (pcmp q p), sV (.bool false), sV (.int .i64 1)] 2 [.v false [.an 0 0], .v false [.ptr 0 0]] [(34, [.an 1 0, .an 1 1, .an 1 2, .an 1 3, .an 1 4, .an 1 5, .an 1 6, .an 1 7])] (rs := [co 2 (.call ⟨.builtin .len, #[(.tmp 4)], #[66]⟩) 3 [on 0] [0, 1] [], co 3 (.indexAddr 66 (.tmp 8) (.const (.int .i64 0))) 0 [on 0, .v false [.lit (.int .i64 0)]] [0, 1, 2] [], co 4 (.load 34 (.tmp 9)) 34 [on 3] [0, 1, 2, 3] [], cl 5 16 [ag 8 4, ag 8 1], co 6 (.binOp .eql 3 (.tmp 12) (.const (.int .i64 0)) 3) 4 [on 5, .v false [.lit (.int .i64 0)]] [0, 1, 2, 3, 4, 5] [], co 7 (.call ⟨.builtin .len, #[(.tmp 16)], #[66]⟩) 3 [on 0] [0, 1, 2, 3, 4, 5, 6] []]) (out := .v false [.lit (.bool false)]) (nc := 8) (by kernel_rfl) w
    ⟨fun n => match n with | 0 => cellf [.slice s9 n9 c9] | 1 => cellf [u0, u1, u2, u3, u4, u5, u6, u7] | _ => fun _ => .bool false, fun b => match b with | 0 => r | _ => 0, fun _ => undef⟩
    (fun n c => match n with
      | 0 => cellf_one (by simp [Value.oneCell']) c
      | 1 => cellf_one (Hp.one) c
      | _ + 2 => rfl)
    (fun b q hq => match b, q, hq with
      | 0, _, rfl => Bq
      | _ + 1, _, hq => nomatch hq)
    (fun b c hb hc hq => match b, c, hb, hc with
      | 0, 0, _, _ => rfl
      | _ + 1, _, hb, _ => absurd hb (by simp)
      | _, _ + 1, _, hc => absurd hc (by simp))
    (fun jn hn => match jn, hn with
      | 0, _ => (⟨Ha, fun _ _ => Nat.zero_le _⟩ : PtsV w (.slice s9 n9 c9) [q] ∧ ∀ q, fpS (.slice s9 n9 c9) q → 0 ≤ q)
      | 1, _ => Hp
      | _ + 2, hn => absurd hn (by omega))
    ⟨fun σ W g h hb => fun ρ o ho _ hv => ⟨_, pts_len (h 0 rfl).1 ho (one_val hv) ⟨34, by kernel_rfl⟩, rfl⟩,
    fun σ W g h hb => fun ρ o ho _ hv => by
      obtain ⟨u, h1, h2, h3⟩ := pts_at (h 0 rfl).1 ho (two_vals hv).1 0 (by simp) (two_vals hv).2
      exact ⟨u, h1, h2, fun q hq => ⟨0, rfl, h3 q hq⟩⟩,
    fun σ W g h hb => fun ρ o ho _ hv => pts_load (h 3 rfl) ho (one_val hv),
    fun σ W g h hb => toZ (PCmp_any W _ _ q p K (h 4 rfl) (h 1 rfl) (by omega) bq bp) rfl,
    fun σ W g h hb => fun ρ o ho _ hv => ⟨_, eq_told false ho ((two_vals hv).1.trans (h 5 rfl)) (two_vals hv).2 (decide_eq_false (fun z => hq (pcmp_zero.1 z))), rfl⟩,
    fun σ W g h hb => fun ρ o ho _ hv => ⟨_, pts_len (h 0 rfl).1 ho (one_val hv) ⟨34, by kernel_rfl⟩, rfl⟩,
    trivial⟩ _ fun τ W g h => ⟨rfl, g⟩
theorem LWithin_2 (w : World) (va : Value) (r : Nat) (u0 u1 u2 u3 u4 u5 u6 u7 : Value) (p q t : Pq) (K : Nat) (Ha : PtsV w va [q, t]) (Bq : w.heap[r]? = some (.cells #[u0, u1, u2, u3, u4, u5, u6, u7] 34 (0, 0))) (Hp : PtV w (.agg #[u0, u1, u2, u3, u4, u5, u6, u7]) p) (hK : 1 ≤ K ∧ K ≤ 10000) (bp : Bp K p) (bq : Bp K q) (bt : Bp K t) (hTab : Tab w) :
    Calls Tryz.prog 40 #[va, .pointer (some ⟨r, 0, none⟩)] w (RetB w (dec (InS q t p))) := by
  obtain ⟨s9, n9, c9, e, hrest⟩ := Ha
  subst e
  have Ha : PtsV w (.slice s9 n9 c9) [q, t] := ⟨s9, n9, c9, rfl, hrest⟩
  exact exec_calls_box mixed Tryz.func40 [sPts 0 [q, t], sPt p, sV (.int .i64 2), sV (.int .i64 2), sAt q, sPt q, sAt t, sPt t, sBd (dec (InS q t p))] 2 [.v false [.an 0 0], .v false [.ptr 0 0]] [(34, [.an 1 0, .an 1 1, .an 1 2, .an 1 3, .an 1 4, .an 1 5, .an 1 6, .an 1 7])] (rs := [co 2 (.call ⟨.builtin .len, #[(.tmp 4)], #[66]⟩) 3 [on 0] [0, 1] [], co 3 (.call ⟨.builtin .len, #[(.tmp 16)], #[66]⟩) 3 [on 0] [0, 1, 2] [], co 4 (.indexAddr 66 (.tmp 20) (.const (.int .i64 0))) 0 [on 0, .v false [.lit (.int .i64 0)]] [0, 1, 2, 3] [], co 5 (.load 34 (.tmp 21)) 34 [on 4] [0, 1, 2, 3, 4] [], co 6 (.indexAddr 66 (.tmp 23) (.const (.int .i64 1))) 0 [on 0, .v false [.lit (.int .i64 1)]] [0, 1, 2, 3] [], co 7 (.load 34 (.tmp 24)) 34 [on 6] [0, 1, 2, 3, 6] [], cl 8 30 [.v true [.an 5 0, .an 5 1, .an 5 2, .an 5 3, .an 5 4, .an 5 5, .an 5 6, .an 5 7, .an 7 0, .an 7 1, .an 7 2, .an 7 3, .an 7 4, .an 7 5, .an 7 6, .an 7 7], ag 8 1]]) (out := on 8) (nc := 9) (by kernel_rfl) w
    ⟨fun n => match n with | 0 => cellf [.slice s9 n9 c9] | 1 => cellf [u0, u1, u2, u3, u4, u5, u6, u7] | _ => fun _ => .bool false, fun b => match b with | 0 => r | _ => 0, fun _ => undef⟩
    (fun n c => match n with
      | 0 => cellf_one (by simp [Value.oneCell']) c
      | 1 => cellf_one (Hp.one) c
      | _ + 2 => rfl)
    (fun b q hq => match b, q, hq with
      | 0, _, rfl => Bq
      | _ + 1, _, hq => nomatch hq)
    (fun b c hb hc hq => match b, c, hb, hc with
      | 0, 0, _, _ => rfl
      | _ + 1, _, hb, _ => absurd hb (by simp)
      | _, _ + 1, _, hc => absurd hc (by simp))
    (fun jn hn => match jn, hn with
      | 0, _ => (⟨Ha, fun _ _ => Nat.zero_le _⟩ : PtsV w (.slice s9 n9 c9) [q, t] ∧ ∀ q, fpS (.slice s9 n9 c9) q → 0 ≤ q)
      | 1, _ => Hp
      | _ + 2, hn => absurd hn (by omega))
    ⟨fun σ W g h hb => fun ρ o ho _ hv => ⟨_, pts_len (h 0 rfl).1 ho (one_val hv) ⟨34, by kernel_rfl⟩, rfl⟩,
    fun σ W g h hb => fun ρ o ho _ hv => ⟨_, pts_len (h 0 rfl).1 ho (one_val hv) ⟨34, by kernel_rfl⟩, rfl⟩,
    fun σ W g h hb => fun ρ o ho _ hv => by
      obtain ⟨u, h1, h2, h3⟩ := pts_at (h 0 rfl).1 ho (two_vals hv).1 0 (by simp) (two_vals hv).2
      exact ⟨u, h1, h2, fun q hq => ⟨0, rfl, h3 q hq⟩⟩,
    fun σ W g h hb => fun ρ o ho _ hv => pts_load (h 4 rfl) ho (one_val hv),
    fun σ W g h hb => fun ρ o ho _ hv => by
      obtain ⟨u, h1, h2, h3⟩ := pts_at (h 0 rfl).1 ho (two_vals hv).1 1 (by simp) (two_vals hv).2
      exact ⟨u, h1, h2, fun q hq => ⟨0, rfl, h3 q hq⟩⟩,
    fun σ W g h hb => fun ρ o ho _ hv => pts_load (h 6 rfl) ho (one_val hv),
    fun σ W g h hb => toBd (POn_any W _ _ q t p K (mksg (h 5 rfl) (h 7 rfl)) (h 1 rfl) hK bq bt bp (hTab.kept g (by simp))),
    trivial⟩ _ fun τ W g h => ⟨congrArg Ending.returned (h 8 rfl), g⟩
theorem LWithin_any (w : World) (va : Value) (r : Nat) (u0 u1 u2 u3 u4 u5 u6 u7 : Value) (p : Pq) (l : List Pq) (K : Nat) (Ha : PtsV w va l) (Bq : w.heap[r]? = some (.cells #[u0, u1, u2, u3, u4, u5, u6, u7] 34 (0, 0))) (Hp : PtV w (.agg #[u0, u1, u2, u3, u4, u5, u6, u7]) p) (hK : 1 ≤ K ∧ K ≤ 10000) (bp : Bp K p) (hl : l.length ≤ 2) (bl : ∀ x ∈ l, Bp K x) (hTab : Tab w) :
    Calls Tryz.prog 40 #[va, .pointer (some ⟨r, 0, none⟩)] w (RetB w (dec (InL l p))) := by
  match l, hl, bl with
  | [], _, _ =>
    rw [dec_f (show ¬ InL [] p from fun h => h)]
    exact LWithin_0 w va r u0 u1 u2 u3 u4 u5 u6 u7 p K Ha Bq Hp hK bp hTab
  | [q], _, bl =>
    by_cases hq : q = p
    · rw [dec_t (show InL [q] p from hq.symm)]
      exact LWithin_1t w va r u0 u1 u2 u3 u4 u5 u6 u7 p q K Ha Bq Hp hK bp (bl q (by simp)) hTab hq
    · rw [dec_f (show ¬ InL [q] p from fun h => hq h.symm)]
      exact LWithin_1f w va r u0 u1 u2 u3 u4 u5 u6 u7 p q K Ha Bq Hp hK bp (bl q (by simp)) hTab hq
  | [q, t], _, bl => exact LWithin_2 w va r u0 u1 u2 u3 u4 u5 u6 u7 p q t K Ha Bq Hp hK bp (bl q (by simp)) (bl t (by simp)) hTab
  | _ :: _ :: _ :: _, hl, _ => exact absurd hl (by simp)
def hun (n : Int) : Rat := Rat.divInt (IntKind.u64.wrap n % 101) 100
theorem hun_k (n : Int) : 0 ≤ IntKind.u64.wrap n % 101 ∧ IntKind.u64.wrap n % 101 ≤ 100 := by have := wrap_at n; omega
theorem hun_unit (n : Int) : 0 ≤ hun n ∧ hun n ≤ 1 := by
  have h := hun_k n
  unfold hun
  rw [q_of]
  generalize IntKind.u64.wrap n % 101 = k at *
  have h0 : (0 : Rat) ≤ (k : Rat) := by exact_mod_cast h.1
  have h1 : (k : Rat) ≤ ((100 : Int) : Rat) := by exact_mod_cast h.2
  have h2 : ((100 : Int) : Rat) = 100 := rfl
  rw [h2] at h1 ⊢
  have e : (k : Rat) / 100 * 100 = k := Rat.div_mul_cancel (by decide)
  generalize (k : Rat) / 100 = t at *
  constructor <;> grind
theorem hun_b (n : Int) : Bn 3 (hun n) := by
  have h := hun_k n
  unfold hun
  have h1 : (IntKind.u64.wrap n % 101).natAbs < B ^ 1 := b1int (by omega) (by omega)
  have h2 : (100 : Int).natAbs < B ^ 1 := b1int (by omega) (by omega)
  exact (show Bn 1 _ from ⟨rdiv_nb h1, rdiv_db h2 (by decide)⟩).mono (by omega)
theorem part_b {n : Int} {a b : Pq} (ha : Bp 1 a) (hb : Bp 1 b) : Bp 13 (pat a b (hun n)) := (Bp.onl ha hb (hun_b n) (by omega)).mono (by omega)
theorem arg1b {P : Program} {f : FuncId} {a b c : Value} {w : World} {R : Ending → World → Prop} (e : a = b) (h : Calls P f #[b, c] w R) : Calls P f #[a, c] w R := e ▸ h
theorem planeParts_walk (w : World) (x0 y0 d0 x1 y1 d1 x2 y2 d2 x3 y3 d3 n : Int) (a0 : -9223372036854775808 ≤ x0) (b0 : x0 ≤ 9223372036854775807) (c0 : -9223372036854775808 ≤ y0) (e0 : y0 ≤ 9223372036854775807) (a1 : -9223372036854775808 ≤ x1) (b1 : x1 ≤ 9223372036854775807) (c1 : -9223372036854775808 ≤ y1) (e1 : y1 ≤ 9223372036854775807) (a2 : -9223372036854775808 ≤ x2) (b2 : x2 ≤ 9223372036854775807) (c2 : -9223372036854775808 ≤ y2) (e2 : y2 ≤ 9223372036854775807) (a3 : -9223372036854775808 ≤ x3) (b3 : x3 ≤ 9223372036854775807) (c3 : -9223372036854775808 ≤ y3) (e3 : y3 ≤ 9223372036854775807) (n1 : -9223372036854775808 ≤ n) (n2 : n ≤ 9223372036854775807) (hTab : Tab w) :
    Calls Tryz.prog 8 #[.agg #[.int .i64 x0, .int .i64 y0, .int .i64 d0], .agg #[.int .i64 x1, .int .i64 y1, .int .i64 d1], .agg #[.int .i64 x2, .int .i64 y2, .int .i64 d2], .agg #[.int .i64 x3, .int .i64 y3, .int .i64 d3], .int .i64 n] w (fun e w' => e = .returned (.bool true) ∧ w.grownBy w' none) := by
  refine exec_calls mixed Tryz.func8 [sDt x0 y0 d0, sDt x1 y1 d1, sDt x2 y2 d2, sDt x3 y3 d3, sZ n] [sSH (lat x0 y0 d0) (lat x1 y1 d1) ⟨x0, y0, und d0⟩ ⟨x1, y1, und d1⟩, sSH (lat x2 y2 d2) (lat x3 y3 d3) ⟨x2, y2, und d2⟩ ⟨x3, y3, und d3⟩, sPts 0 (clipP (lat x0 y0 d0) (lat x1 y1 d1) (lat x2 y2 d2) (lat x3 y3 d3)), sPts 0 (clipP (lat x0 y0 d0) (lat x1 y1 d1) (lat x3 y3 d3) (lat x2 y2 d2)), sC (.int .u64 (IntKind.u64.wrap n)) rfl, sC (.int .u64 (IntKind.u64.wrap n % 101)) rfl, sZ (IntKind.u64.wrap n % 101), sQE (hun n) 0, sQ ((lat x1 y1 d1).1 - (lat x0 y0 d0).1), sQ (((lat x1 y1 d1).1 - (lat x0 y0 d0).1) * hun n), sQ ((lat x0 y0 d0).1 + ((lat x1 y1 d1).1 - (lat x0 y0 d0).1) * hun n), sQ ((lat x1 y1 d1).2 - (lat x0 y0 d0).2), sQ (((lat x1 y1 d1).2 - (lat x0 y0 d0).2) * hun n), sQ ((lat x0 y0 d0).2 + ((lat x1 y1 d1).2 - (lat x0 y0 d0).2) * hun n), sZ (rsg (pcross (lat x2 y2 d2) (lat x3 y3 d3) (pat (lat x0 y0 d0) (lat x1 y1 d1) (hun n)))), sV (.bool true), sBd (dec (InL (clipP (lat x0 y0 d0) (lat x1 y1 d1) (lat x2 y2 d2) (lat x3 y3 d3)) (pat (lat x0 y0 d0) (lat x1 y1 d1) (hun n)))), sBd (dec (0 ≤ (pcross (lat x2 y2 d2) (lat x3 y3 d3) (pat (lat x0 y0 d0) (lat x1 y1 d1) (hun n))))), sV (.bool true), sBd (dec (InL (clipP (lat x0 y0 d0) (lat x1 y1 d1) (lat x3 y3 d3) (lat x2 y2 d2)) (pat (lat x0 y0 d0) (lat x1 y1 d1) (hun n)))), sBd (dec ((pcross (lat x2 y2 d2) (lat x3 y3 d3) (pat (lat x0 y0 d0) (lat x1 y1 d1) (hun n))) ≤ 0)), sV (.bool true)] (.cons rfl (.cons rfl (.cons rfl (.cons rfl (.cons rfl .nil))))) (rs := [cl 5 26 [ag 3 0, ag 3 1], cl 6 26 [ag 3 2, ag 3 3], cl 7 32 [ag 16 5, ag 16 6], cl 8 32 [ag 16 5, .v true [.an 6 8, .an 6 9, .an 6 10, .an 6 11, .an 6 12, .an 6 13, .an 6 14, .an 6 15, .an 6 0, .an 6 1, .an 6 2, .an 6 3, .an 6 4, .an 6 5, .an 6 6, .an 6 7]], co 9 (.convert 3 80 (.tmp 45)) 80 [on 4] [0, 1, 2, 3, 4, 5, 6, 7, 8] [], co 10 (.binOp .rem 80 (.tmp 46) (.const (.int .u64 101)) 80) 80 [on 9, .v false [.lit (.int .u64 101)]] [0, 1, 2, 3, 4, 5, 6, 7, 8, 9] [], co 11 (.convert 80 3 (.tmp 47)) 3 [on 10] [0, 1, 2, 3, 4, 5, 6, 7, 8, 9, 10] [], cl 12 36 [on 11, .v false [.lit (.int .i64 100)]], cl 13 38 [.v true [.an 5 8, .an 5 9, .an 5 10, .an 5 11], ag 4 5], cl 14 39 [ag 4 13, ag 4 12], cl 15 37 [ag 4 5, ag 4 14], cl 16 38 [.v true [.an 5 12, .an 5 13, .an 5 14, .an 5 15], .v true [.an 5 4, .an 5 5, .an 5 6, .an 5 7]], cl 17 39 [ag 4 16, ag 4 12], cl 18 37 [.v true [.an 5 4, .an 5 5, .an 5 6, .an 5 7], ag 4 17], cl 19 24 [ag 8 6, .v true [.an 6 8, .an 6 9, .an 6 10, .an 6 11, .an 6 12, .an 6 13, .an 6 14, .an 6 15], .v true [.an 15 0, .an 15 1, .an 15 2, .an 15 3, .an 18 0, .an 18 1, .an 18 2, .an 18 3]], cl 20 11 [], clb 21 40 [on 7, .v false [.ptr 9 0]] [0, 1, 2, 3, 4, 5, 6, 7, 8, 9, 10, 11, 12, 13, 14, 15, 16, 17, 18, 19, 20] [(9, 34, [.an 15 0, .an 15 1, .an 15 2, .an 15 3, .an 18 0, .an 18 1, .an 18 2, .an 18 3])], co 22 (.binOp .geq 3 (.tmp 91) (.const (.int .i64 0)) 3) 4 [on 19, .v false [.lit (.int .i64 0)]] [0, 1, 2, 3, 4, 5, 6, 7, 8, 9, 10, 11, 12, 13, 14, 15, 16, 17, 18, 19, 20] [], co 23 (.binOp .eql 4 (.tmp 90) (.tmp 92) 4) 4 [on 21, on 22] [0, 1, 2, 3, 4, 5, 6, 7, 8, 9, 10, 11, 12, 13, 14, 15, 16, 17, 18, 19, 20, 21, 22] [], clb 24 40 [on 8, .v false [.ptr 9 0]] [0, 1, 2, 3, 4, 5, 6, 7, 8, 9, 10, 11, 12, 13, 14, 15, 16, 17, 18, 19, 20, 21, 22, 23] [(9, 34, [.an 15 0, .an 15 1, .an 15 2, .an 15 3, .an 18 0, .an 18 1, .an 18 2, .an 18 3])], co 25 (.binOp .leq 3 (.tmp 99) (.const (.int .i64 0)) 3) 4 [on 19, .v false [.lit (.int .i64 0)]] [0, 1, 2, 3, 4, 5, 6, 7, 8, 9, 10, 11, 12, 13, 14, 15, 16, 17, 18, 19, 20, 21, 22, 23] [], co 26 (.binOp .eql 4 (.tmp 98) (.tmp 100) 4) 4 [on 24, on 25] [0, 1, 2, 3, 4, 5, 6, 7, 8, 9, 10, 11, 12, 13, 14, 15, 16, 17, 18, 19, 20, 21, 22, 23, 24, 25] []]) (out := .v false [.lit (.bool true)]) (nc := 27) (by kernel_rfl)
      ⟨fun σ W g h hb => toSH (argl (congr3 (h 0 rfl) (h 1 rfl)) (LSeg_any W x0 y0 d0 x1 y1 d1 a0 b0 c0 e0 a1 b1 c1 e1 (hTab.kept g (by simp)))),
      fun σ W g h hb => toSH (argl (congr3 (h 2 rfl) (h 3 rfl)) (LSeg_any W x2 y2 d2 x3 y3 d3 a2 b2 c2 e2 a3 b3 c3 e3 (hTab.kept g (by simp)))),
      fun σ W g h hb => toPts (Nat.zero_le _) (PClip_any W _ _ (lat x0 y0 d0) (lat x1 y1 d1) (lat x2 y2 d2) (lat x3 y3 d3) 1 (sh1 (h 5 rfl)) (sh1 (h 6 rfl)) (by omega) (lat_b a0 b0 c0 e0) (lat_b a1 b1 c1 e1) (lat_b a2 b2 c2 e2) (lat_b a3 b3 c3 e3) (hTab.kept g (by simp))),
      fun σ W g h hb => toPts (Nat.zero_le _) (PClip_any W _ _ (lat x0 y0 d0) (lat x1 y1 d1) (lat x3 y3 d3) (lat x2 y2 d2) 1 (sh1 (h 5 rfl)) (mksg (sg2 (sh1 (h 6 rfl))) (sg1 (sh1 (h 6 rfl)))) (by omega) (lat_b a0 b0 c0 e0) (lat_b a1 b1 c1 e1) (lat_b a3 b3 c3 e3) (lat_b a2 b2 c2 e2) (hTab.kept g (by simp))),
      fun σ W g h hb => fun ρ o ho _ hv => ⟨_, conv_ui ho ((one_val hv).trans (h 4 rfl)), rfl⟩,
      fun σ W g h hb => fun ρ o ho _ hv => ⟨_, rem_told ho ((two_vals hv).1.trans (h 9 rfl)) (two_vals hv).2, rfl⟩,
      fun σ W g h hb => fun ρ o ho _ hv => ⟨_, conv_iu ho ((one_val hv).trans (h 10 rfl)) (by have := hun_k n; omega) (by have := hun_k n; omega), rfl⟩,
      fun σ W g h hb => arg1b (h 11 rfl) (toQE (FOf_any W (IntKind.u64.wrap n % 101) 100 (by have := hun_k n; omega) (by have := hun_k n; omega) (by decide) (by decide) (hTab.kept g (by simp))) (by rw [if_neg (by decide)])),
      fun σ W g h hb => FSub_any W _ _ ((lat x1 y1 d1).1) ((lat x0 y0 d0).1) 1 (pt1 (sg2 (sh1 (h 5 rfl)))) (pt1 (sg1 (sh1 (h 5 rfl)))) (by omega) (lat_b a1 b1 c1 e1).1.1 (lat_b a1 b1 c1 e1).1.2 (lat_b a0 b0 c0 e0).1.1 (lat_b a0 b0 c0 e0).1.2 (hTab.kept g (by simp)),
      fun σ W g h hb => FMul_any W _ _ ((lat x1 y1 d1).1 - (lat x0 y0 d0).1) (hun n) 3 (h 13 rfl) (qE (h 12 rfl)) (by omega) (Bn.sub (lat_b a1 b1 c1 e1).1 (lat_b a0 b0 c0 e0).1).1 (Bn.sub (lat_b a1 b1 c1 e1).1 (lat_b a0 b0 c0 e0).1).2 (hun_b n).1 (hun_b n).2 (hTab.kept g (by simp)),
      fun σ W g h hb => FAdd_any W _ _ ((lat x0 y0 d0).1) (((lat x1 y1 d1).1 - (lat x0 y0 d0).1) * hun n) 6 (pt1 (sg1 (sh1 (h 5 rfl)))) (h 14 rfl) (by omega) (Bn.mono (lat_b a0 b0 c0 e0).1 (by omega)).1 (Bn.mono (lat_b a0 b0 c0 e0).1 (by omega)).2 ((Bn.sub (lat_b a1 b1 c1 e1).1 (lat_b a0 b0 c0 e0).1).mul (hun_b n)).1 ((Bn.sub (lat_b a1 b1 c1 e1).1 (lat_b a0 b0 c0 e0).1).mul (hun_b n)).2 (hTab.kept g (by simp)),
      fun σ W g h hb => FSub_any W _ _ ((lat x1 y1 d1).2) ((lat x0 y0 d0).2) 1 (pt2 (sg2 (sh1 (h 5 rfl)))) (pt2 (sg1 (sh1 (h 5 rfl)))) (by omega) (lat_b a1 b1 c1 e1).2.1 (lat_b a1 b1 c1 e1).2.2 (lat_b a0 b0 c0 e0).2.1 (lat_b a0 b0 c0 e0).2.2 (hTab.kept g (by simp)),
      fun σ W g h hb => FMul_any W _ _ ((lat x1 y1 d1).2 - (lat x0 y0 d0).2) (hun n) 3 (h 16 rfl) (qE (h 12 rfl)) (by omega) (Bn.sub (lat_b a1 b1 c1 e1).2 (lat_b a0 b0 c0 e0).2).1 (Bn.sub (lat_b a1 b1 c1 e1).2 (lat_b a0 b0 c0 e0).2).2 (hun_b n).1 (hun_b n).2 (hTab.kept g (by simp)),
      fun σ W g h hb => FAdd_any W _ _ ((lat x0 y0 d0).2) (((lat x1 y1 d1).2 - (lat x0 y0 d0).2) * hun n) 6 (pt2 (sg1 (sh1 (h 5 rfl)))) (h 17 rfl) (by omega) (Bn.mono (lat_b a0 b0 c0 e0).2 (by omega)).1 (Bn.mono (lat_b a0 b0 c0 e0).2 (by omega)).2 ((Bn.sub (lat_b a1 b1 c1 e1).2 (lat_b a0 b0 c0 e0).2).mul (hun_b n)).1 ((Bn.sub (lat_b a1 b1 c1 e1).2 (lat_b a0 b0 c0 e0).2).mul (hun_b n)).2 (hTab.kept g (by simp)),
      fun σ W g h hb => toZ (PSide_any W _ _ _ (lat x2 y2 d2) (lat x3 y3 d3) (pat (lat x0 y0 d0) (lat x1 y1 d1) (hun n)) 13 (sg1 (sh1 (h 6 rfl))) (sg2 (sh1 (h 6 rfl))) (mkpt (h 15 rfl) (h 18 rfl)) (by omega) (Bp.mono (lat_b a2 b2 c2 e2) (by omega)) (Bp.mono (lat_b a3 b3 c3 e3) (by omega)) (part_b (n := n) (lat_b a0 b0 c0 e0) (lat_b a1 b1 c1 e1)) (hTab.kept g (by simp))) rfl,
      fun σ W g h hb => toV (LKnown_any W (hTab.kept g (by simp))) rfl,
      fun σ W g h hb => toBd (LWithin_any W _ _ _ _ _ _ _ _ _ _ (pat (lat x0 y0 d0) (lat x1 y1 d1) (hun n)) (clipP (lat x0 y0 d0) (lat x1 y1 d1) (lat x2 y2 d2) (lat x3 y3 d3)) 228 (h 7 rfl).1 (hb.1 _ (.head _)) (mkpt (h 15 rfl) (h 18 rfl)) (by omega) ((part_b (n := n) (lat_b a0 b0 c0 e0) (lat_b a1 b1 c1 e1)).mono (by omega)) (clip_two _ _ _ _) (clip_bd (K := 1) (lat_b a0 b0 c0 e0) (lat_b a1 b1 c1 e1) (lat_b a2 b2 c2 e2) (lat_b a3 b3 c3 e3)) (hTab.kept g (by simp))),
      fun σ W g h hb => fun ρ o ho _ hv => ⟨_, ge_told _ ho ((two_vals hv).1.trans (h 19 rfl)) (two_vals hv).2 (by rw [dec_of']; exact dec_congr rsg_ge), rfl⟩,
      fun σ W g h hb => fun ρ o ho _ hv => ⟨_, beqb_told ho ((two_vals hv).1.trans (h 21 rfl)) ((two_vals hv).2.trans (h 22 rfl)) (by kernel_rfl) (dec_congr (clip_has (lat x0 y0 d0) (lat x1 y1 d1) (lat x2 y2 d2) (lat x3 y3 d3) (hun n) (hun_unit n).1 (hun_unit n).2)), rfl⟩,
      fun σ W g h hb => toBd (LWithin_any W _ _ _ _ _ _ _ _ _ _ (pat (lat x0 y0 d0) (lat x1 y1 d1) (hun n)) (clipP (lat x0 y0 d0) (lat x1 y1 d1) (lat x3 y3 d3) (lat x2 y2 d2)) 228 (h 8 rfl).1 (hb.1 _ (.head _)) (mkpt (h 15 rfl) (h 18 rfl)) (by omega) ((part_b (n := n) (lat_b a0 b0 c0 e0) (lat_b a1 b1 c1 e1)).mono (by omega)) (clip_two _ _ _ _) (clip_bd (K := 1) (lat_b a0 b0 c0 e0) (lat_b a1 b1 c1 e1) (lat_b a3 b3 c3 e3) (lat_b a2 b2 c2 e2)) (hTab.kept g (by simp))),
      fun σ W g h hb => fun ρ o ho _ hv => ⟨_, le_told _ ho ((two_vals hv).1.trans (h 19 rfl)) (two_vals hv).2 (by rw [dec_of']; exact dec_congr rsg_le), rfl⟩,
      fun σ W g h hb => fun ρ o ho _ hv => ⟨_, beqb_told ho ((two_vals hv).1.trans (h 24 rfl)) ((two_vals hv).2.trans (h 25 rfl)) (by kernel_rfl) (dec_congr ((clip_has (lat x0 y0 d0) (lat x1 y1 d1) (lat x3 y3 d3) (lat x2 y2 d2) (hun n) (hun_unit n).1 (hun_unit n).2).trans (by rw [cross_back]; constructor <;> intro _ <;> grind))), rfl⟩,
      trivial⟩ fun τ W g h => ⟨rfl, g⟩
end Go.Proofs.YthbhgcaemcobeaaGreatDoor
