/- What the laws lean on, part 24. -/
import Derived.Test.YthbhgcaemcobeaaGreatDoorMp23
namespace Go.Proofs.YthbhgcaemcobeaaGreatDoor
open Go.RowKit Mat Ex PM
set_option linter.unusedVariables false
set_option linter.unusedSimpArgs false
theorem rHLine_any (w : World) (va : Value) (a b : H3) (E : Nat) (Ha : HsV w va a b) (hE : E ≤ 10000) (ba : HB E a) (bb : HB E b) :
    Calls Tryz.prog 99 #[va] w (RetRRR w (lna a b) (lnb a b) (lnc a b)) := by
  refine exec_calls mixed Tryz.func99 [sHs a b] [sR (a.y * b.z), sR (b.y * a.z), sR (lna a b), sR (b.x * a.z), sR (a.x * b.z), sR (lnb a b), sR (b.x * a.y), sR (a.x * b.y), sR (lnc a b)] (.cons Ha .nil) (rs := [cl 1 48 [.v true [.an 0 2, .an 0 3], .v true [.an 0 10, .an 0 11]], cl 2 48 [.v true [.an 0 8, .an 0 9], .v true [.an 0 4, .an 0 5]], cl 3 56 [ag 2 1, ag 2 2], cl 4 48 [.v true [.an 0 6, .an 0 7], .v true [.an 0 4, .an 0 5]], cl 5 48 [ag 2 0, .v true [.an 0 10, .an 0 11]], cl 6 56 [ag 2 4, ag 2 5], cl 7 48 [.v true [.an 0 6, .an 0 7], .v true [.an 0 2, .an 0 3]], cl 8 48 [ag 2 0, .v true [.an 0 8, .an 0 9]], cl 9 56 [ag 2 7, ag 2 8]]) (out := .tup [(true, [.an 3 0, .an 3 1]), (true, [.an 6 0, .an 6 1]), (true, [.an 9 0, .an 9 1])]) (nc := 10) (by kernel_rfl)
      ⟨fun σ W g h hb => rHmul_any W _ _ _ _ E (h32 (hs1 (h 0 rfl))) (h33 (hs2 (h 0 rfl))) (by omega) ba.2.1 bb.2.2,
      fun σ W g h hb => rHmul_any W _ _ _ _ E (h32 (hs2 (h 0 rfl))) (h33 (hs1 (h 0 rfl))) (by omega) bb.2.1 ba.2.2,
      fun σ W g h hb => rHsub_any W _ _ _ _ (E + E) (h 1 rfl) (h 2 rfl) (by omega) (dmul_bd ba.2.1 bb.2.2) (dmul_bd bb.2.1 ba.2.2),
      fun σ W g h hb => rHmul_any W _ _ _ _ E (h31 (hs2 (h 0 rfl))) (h33 (hs1 (h 0 rfl))) (by omega) bb.1 ba.2.2,
      fun σ W g h hb => rHmul_any W _ _ _ _ E (h31 (hs1 (h 0 rfl))) (h33 (hs2 (h 0 rfl))) (by omega) ba.1 bb.2.2,
      fun σ W g h hb => rHsub_any W _ _ _ _ (E + E) (h 4 rfl) (h 5 rfl) (by omega) (dmul_bd bb.1 ba.2.2) (dmul_bd ba.1 bb.2.2),
      fun σ W g h hb => rHmul_any W _ _ _ _ E (h31 (hs2 (h 0 rfl))) (h32 (hs1 (h 0 rfl))) (by omega) bb.1 ba.2.1,
      fun σ W g h hb => rHmul_any W _ _ _ _ E (h31 (hs1 (h 0 rfl))) (h32 (hs2 (h 0 rfl))) (by omega) ba.1 bb.2.1,
      fun σ W g h hb => rHsub_any W _ _ _ _ (E + E) (h 7 rfl) (h 8 rfl) (by omega) (dmul_bd bb.1 ba.2.1) (dmul_bd ba.1 bb.2.1),
      trivial⟩ fun τ W g h => ⟨_, _, _, rfl, h 3 rfl, h 6 rfl, h 9 rfl, g⟩
theorem crw_cmp (a b c d : H3) : zcmp (lna a b * lnb c d) (lnb a b * lna c d) = 0 ↔ crw a b c d = 0 := by
  unfold crw
  constructor
  · intro h
    exact Classical.byContradiction fun h2 => zcmp_ne (fun e => h2 (by omega)) h
  · intro h; exact zcmp_same (by omega)
theorem rHParallel_any (w : World) (va vb : Value) (a b c d : H3) (E : Nat) (Ha : HsV w va a b) (Hb : HsV w vb c d) (hE : 1 ≤ E ∧ E ≤ 100) (ba : HB E a) (bb : HB E b) (bc : HB E c) (bd : HB E d) :
    Calls Tryz.prog 64 #[va, vb] w (RetB w (dec (crw a b c d = 0))) := by
  have l1 := ba.line bb
  have l2 := bc.line bd
  by_cases h1 : crw a b c d = 0
  · skip
    rw [dec_t h1]
    refine exec_calls mixed Tryz.func64 [sHs a b, sHs c d] [sRRR (lna a b) (lnb a b) (lnc a b), sRRR (lna c d) (lnb c d) (lnc c d), sR (lna a b * lnb c d), sR (lnb a b * lna c d), sZ (zcmp (lna a b * lnb c d) (lnb a b * lna c d)), sV (.bool true)] (.cons Ha (.cons Hb .nil)) (rs := [cl 2 99 [ag 12 0], cl 3 99 [ag 12 1], cl 4 48 [ag 2 2, .v true [.an 3 2, .an 3 3]], cl 5 48 [.v true [.an 2 2, .an 2 3], ag 2 3], cl 6 47 [ag 2 4, ag 2 5], co 7 (.binOp .eql 3 (.tmp 29) (.const (.int .i64 0)) 3) 4 [on 6, .v false [.lit (.int .i64 0)]] [0, 1, 2, 3, 4, 5, 6] []]) (out := .v false [.lit (.bool true)]) (nc := 8) (by kernel_rfl)
        ⟨fun σ W g h hb => toRRR (rHLine_any W _ a b E (h 0 rfl) (by omega) ba bb),
        fun σ W g h hb => toRRR (rHLine_any W _ c d E (h 1 rfl) (by omega) bc bd),
        fun σ W g h hb => rHmul_any W _ _ _ _ (E + E + 1) (rrr1 (h 2 rfl)) (rrr2 (h 3 rfl)) (by omega) l1.1 l2.2.1,
        fun σ W g h hb => rHmul_any W _ _ _ _ (E + E + 1) (rrr2 (h 2 rfl)) (rrr1 (h 3 rfl)) (by omega) l1.2.1 l2.1,
        fun σ W g h hb => toZ (rZCmp_any W _ _ _ _ (h 4 rfl) (h 5 rfl) (dp6 (dmul_bd l1.1 l2.2.1) (by omega)) (dp6 (dmul_bd l1.2.1 l2.1) (by omega))) rfl,
        fun σ W g h hb => fun ρ o ho _ hv => ⟨_, eq_told true ho ((two_vals hv).1.trans (h 6 rfl)) (two_vals hv).2 (decide_eq_true ((crw_cmp a b c d).2 h1)), rfl⟩,
        trivial⟩ fun τ W g h => ⟨rfl, g⟩
  · skip
    rw [dec_f h1]
    refine exec_calls mixed Tryz.func64 [sHs a b, sHs c d] [sRRR (lna a b) (lnb a b) (lnc a b), sRRR (lna c d) (lnb c d) (lnc c d), sR (lna a b * lnb c d), sR (lnb a b * lna c d), sZ (zcmp (lna a b * lnb c d) (lnb a b * lna c d)), sV (.bool false)] (.cons Ha (.cons Hb .nil)) (rs := [cl 2 99 [ag 12 0], cl 3 99 [ag 12 1], cl 4 48 [ag 2 2, .v true [.an 3 2, .an 3 3]], cl 5 48 [.v true [.an 2 2, .an 2 3], ag 2 3], cl 6 47 [ag 2 4, ag 2 5], co 7 (.binOp .eql 3 (.tmp 29) (.const (.int .i64 0)) 3) 4 [on 6, .v false [.lit (.int .i64 0)]] [0, 1, 2, 3, 4, 5, 6] []]) (out := .v false [.lit (.bool false)]) (nc := 8) (by kernel_rfl)
        ⟨fun σ W g h hb => toRRR (rHLine_any W _ a b E (h 0 rfl) (by omega) ba bb),
        fun σ W g h hb => toRRR (rHLine_any W _ c d E (h 1 rfl) (by omega) bc bd),
        fun σ W g h hb => rHmul_any W _ _ _ _ (E + E + 1) (rrr1 (h 2 rfl)) (rrr2 (h 3 rfl)) (by omega) l1.1 l2.2.1,
        fun σ W g h hb => rHmul_any W _ _ _ _ (E + E + 1) (rrr2 (h 2 rfl)) (rrr1 (h 3 rfl)) (by omega) l1.2.1 l2.1,
        fun σ W g h hb => toZ (rZCmp_any W _ _ _ _ (h 4 rfl) (h 5 rfl) (dp6 (dmul_bd l1.1 l2.2.1) (by omega)) (dp6 (dmul_bd l1.2.1 l2.1) (by omega))) rfl,
        fun σ W g h hb => fun ρ o ho _ hv => ⟨_, eq_told false ho ((two_vals hv).1.trans (h 6 rfl)) (two_vals hv).2 (decide_eq_false (fun q => h1 ((crw_cmp a b c d).1 q))), rfl⟩,
        trivial⟩ fun τ W g h => ⟨rfl, g⟩
theorem sgn_lt {z : Int} : z.sign < 0 ↔ z < 0 := by rcases zsign z with ⟨h, e⟩ | ⟨h, e⟩ | ⟨h, e⟩ <;> omega
theorem rHCrossing_any (w : World) (va vb : Value) (a b c d : H3) (E : Nat) (Ha : HsV w va a b) (Hb : HsV w vb c d) (hE : 1 ≤ E ∧ E ≤ 100) (ba : HB E a) (bb : HB E b) (bc : HB E c) (bd : HB E d) :
    Calls Tryz.prog 65 #[va, vb] w (RetH w (crp a b c d)) := by
  have l1 := ba.line bb
  have l2 := bc.line bd
  by_cases h1 : crw a b c d < 0
  · skip
    unfold crp
    rw [if_pos h1]
    refine exec_calls mixed Tryz.func65 [sHs a b, sHs c d] [sRRR (lna a b) (lnb a b) (lnc a b), sRRR (lna c d) (lnb c d) (lnc c d), sR (lna a b * lnb c d), sR (lnb a b * lna c d), sR (crw a b c d), sR (lnc a b * lnb c d), sR (lnb a b * lnc c d), sR (crx a b c d), sR (lna a b * lnc c d), sR (lnc a b * lna c d), sR (cry a b c d), sV (.bool true), sR (-crx a b c d), sR (-cry a b c d), sR (-crw a b c d)] (.cons Ha (.cons Hb .nil)) (rs := [cl 2 99 [ag 12 0], cl 3 99 [ag 12 1], cl 4 48 [ag 2 2, .v true [.an 3 2, .an 3 3]], cl 5 48 [.v true [.an 2 2, .an 2 3], ag 2 3], cl 6 56 [ag 2 4, ag 2 5], cl 7 48 [.v true [.an 2 4, .an 2 5], .v true [.an 3 2, .an 3 3]], cl 8 48 [.v true [.an 2 2, .an 2 3], .v true [.an 3 4, .an 3 5]], cl 9 56 [ag 2 7, ag 2 8], cl 10 48 [ag 2 2, .v true [.an 3 4, .an 3 5]], cl 11 48 [.v true [.an 2 4, .an 2 5], ag 2 3], cl 12 56 [ag 2 10, ag 2 11], co 13 (.binOp .lss 3 (.tmp 48) (.const (.int .i64 0)) 3) 4 [on 6, .v false [.lit (.int .i64 0)]] [0, 1, 2, 3, 4, 5, 6, 7, 8, 9, 10, 11, 12] [], cl 14 100 [ag 2 9], cl 15 100 [ag 2 12], cl 16 100 [ag 2 6]]) (out := .v true [.an 14 0, .an 14 1, .an 15 0, .an 15 1, .an 16 0, .an 16 1]) (nc := 17) (by kernel_rfl)
        ⟨fun σ W g h hb => toRRR (rHLine_any W _ a b E (h 0 rfl) (by omega) ba bb),
        fun σ W g h hb => toRRR (rHLine_any W _ c d E (h 1 rfl) (by omega) bc bd),
        fun σ W g h hb => rHmul_any W _ _ _ _ (E + E + 1) (rrr1 (h 2 rfl)) (rrr2 (h 3 rfl)) (by omega) l1.1 l2.2.1,
        fun σ W g h hb => rHmul_any W _ _ _ _ (E + E + 1) (rrr2 (h 2 rfl)) (rrr1 (h 3 rfl)) (by omega) l1.2.1 l2.1,
        fun σ W g h hb => rHsub_any W _ _ _ _ (E + E + 1 + (E + E + 1)) (h 4 rfl) (h 5 rfl) (by omega) (dmul_bd l1.1 l2.2.1) (dmul_bd l1.2.1 l2.1),
        fun σ W g h hb => rHmul_any W _ _ _ _ (E + E + 1) (rrr3 (h 2 rfl)) (rrr2 (h 3 rfl)) (by omega) l1.2.2 l2.2.1,
        fun σ W g h hb => rHmul_any W _ _ _ _ (E + E + 1) (rrr2 (h 2 rfl)) (rrr3 (h 3 rfl)) (by omega) l1.2.1 l2.2.2,
        fun σ W g h hb => rHsub_any W _ _ _ _ (E + E + 1 + (E + E + 1)) (h 7 rfl) (h 8 rfl) (by omega) (dmul_bd l1.2.2 l2.2.1) (dmul_bd l1.2.1 l2.2.2),
        fun σ W g h hb => rHmul_any W _ _ _ _ (E + E + 1) (rrr1 (h 2 rfl)) (rrr3 (h 3 rfl)) (by omega) l1.1 l2.2.2,
        fun σ W g h hb => rHmul_any W _ _ _ _ (E + E + 1) (rrr3 (h 2 rfl)) (rrr1 (h 3 rfl)) (by omega) l1.2.2 l2.1,
        fun σ W g h hb => rHsub_any W _ _ _ _ (E + E + 1 + (E + E + 1)) (h 10 rfl) (h 11 rfl) (by omega) (dmul_bd l1.1 l2.2.2) (dmul_bd l1.2.2 l2.1),
        fun σ W g h hb => fun ρ o ho _ hv => ⟨_, lt_told true ho ((two_vals hv).1.trans (rs1 (h 6 rfl))) (two_vals hv).2 (decide_eq_true (sgn_lt.2 h1)), rfl⟩,
        fun σ W g h hb => rNeg_any W _ _ (h 9 rfl),
        fun σ W g h hb => rNeg_any W _ _ (h 12 rfl),
        fun σ W g h hb => rNeg_any W _ _ (h 6 rfl),
        trivial⟩ fun τ W g h => ⟨_, rfl, mkh (h 14 rfl) (h 15 rfl) (h 16 rfl), g⟩
  · skip
    unfold crp
    rw [if_neg h1]
    refine exec_calls mixed Tryz.func65 [sHs a b, sHs c d] [sRRR (lna a b) (lnb a b) (lnc a b), sRRR (lna c d) (lnb c d) (lnc c d), sR (lna a b * lnb c d), sR (lnb a b * lna c d), sR (crw a b c d), sR (lnc a b * lnb c d), sR (lnb a b * lnc c d), sR (crx a b c d), sR (lna a b * lnc c d), sR (lnc a b * lna c d), sR (cry a b c d), sV (.bool false)] (.cons Ha (.cons Hb .nil)) (rs := [cl 2 99 [ag 12 0], cl 3 99 [ag 12 1], cl 4 48 [ag 2 2, .v true [.an 3 2, .an 3 3]], cl 5 48 [.v true [.an 2 2, .an 2 3], ag 2 3], cl 6 56 [ag 2 4, ag 2 5], cl 7 48 [.v true [.an 2 4, .an 2 5], .v true [.an 3 2, .an 3 3]], cl 8 48 [.v true [.an 2 2, .an 2 3], .v true [.an 3 4, .an 3 5]], cl 9 56 [ag 2 7, ag 2 8], cl 10 48 [ag 2 2, .v true [.an 3 4, .an 3 5]], cl 11 48 [.v true [.an 2 4, .an 2 5], ag 2 3], cl 12 56 [ag 2 10, ag 2 11], co 13 (.binOp .lss 3 (.tmp 48) (.const (.int .i64 0)) 3) 4 [on 6, .v false [.lit (.int .i64 0)]] [0, 1, 2, 3, 4, 5, 6, 7, 8, 9, 10, 11, 12] []]) (out := .v true [.an 9 0, .an 9 1, .an 12 0, .an 12 1, .an 6 0, .an 6 1]) (nc := 14) (by kernel_rfl)
        ⟨fun σ W g h hb => toRRR (rHLine_any W _ a b E (h 0 rfl) (by omega) ba bb),
        fun σ W g h hb => toRRR (rHLine_any W _ c d E (h 1 rfl) (by omega) bc bd),
        fun σ W g h hb => rHmul_any W _ _ _ _ (E + E + 1) (rrr1 (h 2 rfl)) (rrr2 (h 3 rfl)) (by omega) l1.1 l2.2.1,
        fun σ W g h hb => rHmul_any W _ _ _ _ (E + E + 1) (rrr2 (h 2 rfl)) (rrr1 (h 3 rfl)) (by omega) l1.2.1 l2.1,
        fun σ W g h hb => rHsub_any W _ _ _ _ (E + E + 1 + (E + E + 1)) (h 4 rfl) (h 5 rfl) (by omega) (dmul_bd l1.1 l2.2.1) (dmul_bd l1.2.1 l2.1),
        fun σ W g h hb => rHmul_any W _ _ _ _ (E + E + 1) (rrr3 (h 2 rfl)) (rrr2 (h 3 rfl)) (by omega) l1.2.2 l2.2.1,
        fun σ W g h hb => rHmul_any W _ _ _ _ (E + E + 1) (rrr2 (h 2 rfl)) (rrr3 (h 3 rfl)) (by omega) l1.2.1 l2.2.2,
        fun σ W g h hb => rHsub_any W _ _ _ _ (E + E + 1 + (E + E + 1)) (h 7 rfl) (h 8 rfl) (by omega) (dmul_bd l1.2.2 l2.2.1) (dmul_bd l1.2.1 l2.2.2),
        fun σ W g h hb => rHmul_any W _ _ _ _ (E + E + 1) (rrr1 (h 2 rfl)) (rrr3 (h 3 rfl)) (by omega) l1.1 l2.2.2,
        fun σ W g h hb => rHmul_any W _ _ _ _ (E + E + 1) (rrr3 (h 2 rfl)) (rrr1 (h 3 rfl)) (by omega) l1.2.2 l2.1,
        fun σ W g h hb => rHsub_any W _ _ _ _ (E + E + 1 + (E + E + 1)) (h 10 rfl) (h 11 rfl) (by omega) (dmul_bd l1.1 l2.2.2) (dmul_bd l1.2.2 l2.1),
        fun σ W g h hb => fun ρ o ho _ hv => ⟨_, lt_told false ho ((two_vals hv).1.trans (rs1 (h 6 rfl))) (two_vals hv).2 (decide_eq_false (fun q => h1 (sgn_lt.1 q))), rfl⟩,
        trivial⟩ fun τ W g h => ⟨_, rfl, mkh (h 9 rfl) (h 12 rfl) (h 6 rfl), g⟩
def RetHl (w : World) (E : Nat) (L : List Pq) (e : Ending) (w' : World) : Prop := ∃ l : List H3, RetHr w l e w' ∧ l.map rp = L ∧ ∀ p ∈ l, HB E p ∧ 0 < p.z
theorem hl_nil {w w' : World} {E : Nat} (g : w.grownBy w' none) : RetHl w E [] (.returned (.slice none 0 0)) w' := ⟨[], ⟨_, rfl, hr_nil _, g, fp_nil⟩, rfl, fun p hp => by cases hp⟩
theorem hl_one {w w' : World} {E b n c : Nat} {cs : Array Value} {a0 a1 a2 a3 a4 a5 : Value} {p : H3} {q : Pq} (hl : w.heap.size ≤ b) (g : w.grownBy w' none) (hb : w'.heap[b]? = some (.cells cs 42 (0, 0))) (hn : n = 1) (hc : n ≤ c) (h0 : cs[0]? = some a0) (h1 : cs[1]? = some a1) (h2 : cs[2]? = some a2) (h3 : cs[3]? = some a3) (h4 : cs[4]? = some a4) (h5 : cs[5]? = some a5)
    (hp : HV w' (.agg #[a0, a1, a2, a3, a4, a5]) p) (he : rp p = q) (hB : HB E p) (hz : 0 < p.z) : RetHl w E [q] (.returned (.slice (some ⟨b, 0, none⟩) n c)) w' :=
  ⟨[p], ⟨_, rfl, hr_one hb hn hc h0 h1 h2 h3 h4 h5 hp, g, fp_new hl⟩, by rw [← he]; rfl, fun x hx => by
    obtain rfl : x = p := by simpa using hx
    exact ⟨hB, hz⟩⟩
theorem hl_two {w w' : World} {E b : Nat} {a0 a1 a2 a3 a4 a5 c0 c1 c2 c3 c4 c5 : Value} {p q : H3} {P Q : Pq} (hl : w.heap.size ≤ b) (g : w.grownBy w' none) (hb : w'.heap[b]? = some (.cells #[a0, a1, a2, a3, a4, a5, c0, c1, c2, c3, c4, c5] 42 (0, 0))) (hp : HV w' (.agg #[a0, a1, a2, a3, a4, a5]) p) (hq : HV w' (.agg #[c0, c1, c2, c3, c4, c5]) q)
    (hP : rp p = P) (hQ : rp q = Q) (bp : HB E p) (bq : HB E q) (zp : 0 < p.z) (zq : 0 < q.z) : RetHl w E [P, Q] (.returned (.slice (some ⟨b, 0, none⟩) 2 2)) w' :=
  ⟨[p, q], ⟨_, rfl, hr_two hb hp hq, g, fp_new hl⟩, by rw [← hP, ← hQ]; rfl, fun x hx => by
    rcases List.mem_cons.1 hx with rfl | hx
    · exact ⟨bp, zp⟩
    · obtain rfl : x = q := by simpa using hx
      exact ⟨bq, zq⟩⟩
theorem ge_told {P : Program} {ρ : Operand → Value} {o : Oper} {t t' : TypeId} {x y : Operand} {a : Int} {W : World} (b : Bool) (ho : o.op = .binOp .geq t x y t') (hx : ρ x = .int .i64 a) (hy : ρ y = .int .i64 0) (h : decide (0 ≤ a) = b) : (execOp ρ o).run P W = .ok (.value (.bool b)) W :=
  bin_told ho hx hy (by rw [← h]; rfl)
theorem rsg_gt {r : Rat} : 0 < rsg r ↔ 0 < r := by
  rw [← rsg_pos]; rcases rsg_or r with e | e | e <;> omega
theorem rsg_lt' {r : Rat} : rsg r < 0 ↔ r < 0 := rsg_lt
theorem rHClip_any (w : World) (va vb : Value) (a b c d : H3) (E : Nat) (Ha : HsV w va a b) (Hb : HsV w vb c d) (hE : 1 ≤ E ∧ E ≤ 100) (ba : HB E a) (bb : HB E b) (bc : HB E c) (bd : HB E d) (za : 0 < a.z) (zb : 0 < b.z) (zc : 0 < c.z) (zd : 0 < d.z) :
    Calls Tryz.prog 33 #[va, vb] w (RetHl w (4 * E + 3) (clipD (rp a) (rp b) (rp c) (rp d))) := by
  have hcz := crw_zero za zb zc zd
  have hci := crp_is za zb zc zd
  have hcp : crw a b c d ≠ 0 → 0 < (crp a b c d).z := crp_pos
  have bcr := ba.crp bb bc bd
  rcases (show (0 ≤ (pcross (rp c) (rp d) (rp a)) ∧ 0 ≤ (pcross (rp c) (rp d) (rp b)) ∧ rp a = rp b) ∨ (0 ≤ (pcross (rp c) (rp d) (rp a)) ∧ 0 ≤ (pcross (rp c) (rp d) (rp b)) ∧ rp a ≠ rp b) ∨ ((pcross (rp c) (rp d) (rp a)) < 0 ∧ (pcross (rp c) (rp d) (rp b)) < 0) ∨ ((pcross (rp c) (rp d) (rp a)) = 0 ∧ (pcross (rp c) (rp d) (rp b)) < 0) ∨ ((pcross (rp c) (rp d) (rp a)) < 0 ∧ (pcross (rp c) (rp d) (rp b)) = 0) ∨ (0 < (pcross (rp c) (rp d) (rp a)) ∧ (pcross (rp c) (rp d) (rp b)) < 0) ∨ ((pcross (rp c) (rp d) (rp a)) < 0 ∧ 0 < (pcross (rp c) (rp d) (rp b))) by grind) with ⟨h1, h2, h3⟩ | ⟨h1, h2, h3⟩ | ⟨h1, h2⟩ | ⟨h1, h2⟩ | ⟨h1, h2⟩ | ⟨h1, h2⟩ | ⟨h1, h2⟩
  · skip
    unfold clipD
    rw [if_pos ⟨h1, h2⟩, ← h3, btw_self]
    refine exec_callso mixed Tryz.func33 [sHs a b, sHs c d] [sZ (rsg (pcross (rp c) (rp d) (rp a))), sZ (rsg (pcross (rp c) (rp d) (rp b))), sV (.bool true), sV (.bool true), sZ (pcmp (rp a) (rp b)), sV (.bool true)] (.cons Ha (.cons Hb .nil)) (rs := [cl 2 25 [ag 6 1, .v true [.an 1 6, .an 1 7, .an 1 8, .an 1 9, .an 1 10, .an 1 11], ag 6 0], cl 3 25 [ag 6 1, .v true [.an 1 6, .an 1 7, .an 1 8, .an 1 9, .an 1 10, .an 1 11], .v true [.an 0 6, .an 0 7, .an 0 8, .an 0 9, .an 0 10, .an 0 11]], co 4 (.binOp .geq 3 (.tmp 22) (.const (.int .i64 0)) 3) 4 [on 2, .v false [.lit (.int .i64 0)]] [0, 1, 2, 3] [], co 5 (.binOp .geq 3 (.tmp 25) (.const (.int .i64 0)) 3) 4 [on 3, .v false [.lit (.int .i64 0)]] [0, 1, 2, 3, 4] [], cl 6 17 [ag 6 0, .v true [.an 0 6, .an 0 7, .an 0 8, .an 0 9, .an 0 10, .an 0 11]], co 7 (.binOp .eql 3 (.tmp 32) (.const (.int .i64 0)) 3) 4 [on 6, .v false [.lit (.int .i64 0)]] [0, 1, 2, 3, 4, 5, 6] []]) (out := .v false [.row 2 0 1 1]) (nc := 8) (nd := [(2, 42, [.an 0 0, .an 0 1, .an 0 2, .an 0 3, .an 0 4, .an 0 5])]) (own := [2]) (by kernel_rfl)
        ⟨fun σ W g h hb => toZ (rHSide_any W _ _ _ c d a E (hs1 (h 1 rfl)) (hs2 (h 1 rfl)) (hs1 (h 0 rfl)) (by omega) bc bd ba zc zd za) rfl,
        fun σ W g h hb => toZ (rHSide_any W _ _ _ c d b E (hs1 (h 1 rfl)) (hs2 (h 1 rfl)) (hs2 (h 0 rfl)) (by omega) bc bd bb zc zd zb) rfl,
        fun σ W g h hb => fun ρ o ho _ hv => ⟨_, ge_told true ho ((two_vals hv).1.trans (h 2 rfl)) (two_vals hv).2 (decide_eq_true (rsg_ge.2 h1)), rfl⟩,
        fun σ W g h hb => fun ρ o ho _ hv => ⟨_, ge_told true ho ((two_vals hv).1.trans (h 3 rfl)) (two_vals hv).2 (decide_eq_true (rsg_ge.2 h2)), rfl⟩,
        fun σ W g h hb => toZ (rHCmp_any W _ _ a b E (hs1 (h 0 rfl)) (hs2 (h 0 rfl)) (by omega) ba bb za zb) rfl,
        fun σ W g h hb => fun ρ o ho _ hv => ⟨_, eq_told true ho ((two_vals hv).1.trans (h 6 rfl)) (two_vals hv).2 (decide_eq_true (pcmp_zero.2 h3)), rfl⟩,
        trivial⟩ fun τ W g h hb ho => hl_one (ho _ rfl) g (hb.1 _ (.head _)) rfl (Nat.le_refl _) rfl rfl rfl rfl rfl rfl (hs1 (h 0 rfl)) rfl (ba.mono (by omega)) za
  · skip
    unfold clipD
    rw [if_pos ⟨h1, h2⟩, btw_f h3]
    refine exec_callso mixed Tryz.func33 [sHs a b, sHs c d] [sZ (rsg (pcross (rp c) (rp d) (rp a))), sZ (rsg (pcross (rp c) (rp d) (rp b))), sV (.bool true), sV (.bool true), sZ (pcmp (rp a) (rp b)), sV (.bool false)] (.cons Ha (.cons Hb .nil)) (rs := [cl 2 25 [ag 6 1, .v true [.an 1 6, .an 1 7, .an 1 8, .an 1 9, .an 1 10, .an 1 11], ag 6 0], cl 3 25 [ag 6 1, .v true [.an 1 6, .an 1 7, .an 1 8, .an 1 9, .an 1 10, .an 1 11], .v true [.an 0 6, .an 0 7, .an 0 8, .an 0 9, .an 0 10, .an 0 11]], co 4 (.binOp .geq 3 (.tmp 22) (.const (.int .i64 0)) 3) 4 [on 2, .v false [.lit (.int .i64 0)]] [0, 1, 2, 3] [], co 5 (.binOp .geq 3 (.tmp 25) (.const (.int .i64 0)) 3) 4 [on 3, .v false [.lit (.int .i64 0)]] [0, 1, 2, 3, 4] [], cl 6 17 [ag 6 0, .v true [.an 0 6, .an 0 7, .an 0 8, .an 0 9, .an 0 10, .an 0 11]], co 7 (.binOp .eql 3 (.tmp 32) (.const (.int .i64 0)) 3) 4 [on 6, .v false [.lit (.int .i64 0)]] [0, 1, 2, 3, 4, 5, 6] []]) (out := .v false [.row 2 0 2 2]) (nc := 8) (nd := [(2, 42, [.an 0 0, .an 0 1, .an 0 2, .an 0 3, .an 0 4, .an 0 5, .an 0 6, .an 0 7, .an 0 8, .an 0 9, .an 0 10, .an 0 11])]) (own := [2]) (by kernel_rfl)
        ⟨fun σ W g h hb => toZ (rHSide_any W _ _ _ c d a E (hs1 (h 1 rfl)) (hs2 (h 1 rfl)) (hs1 (h 0 rfl)) (by omega) bc bd ba zc zd za) rfl,
        fun σ W g h hb => toZ (rHSide_any W _ _ _ c d b E (hs1 (h 1 rfl)) (hs2 (h 1 rfl)) (hs2 (h 0 rfl)) (by omega) bc bd bb zc zd zb) rfl,
        fun σ W g h hb => fun ρ o ho _ hv => ⟨_, ge_told true ho ((two_vals hv).1.trans (h 2 rfl)) (two_vals hv).2 (decide_eq_true (rsg_ge.2 h1)), rfl⟩,
        fun σ W g h hb => fun ρ o ho _ hv => ⟨_, ge_told true ho ((two_vals hv).1.trans (h 3 rfl)) (two_vals hv).2 (decide_eq_true (rsg_ge.2 h2)), rfl⟩,
        fun σ W g h hb => toZ (rHCmp_any W _ _ a b E (hs1 (h 0 rfl)) (hs2 (h 0 rfl)) (by omega) ba bb za zb) rfl,
        fun σ W g h hb => fun ρ o ho _ hv => ⟨_, eq_told false ho ((two_vals hv).1.trans (h 6 rfl)) (two_vals hv).2 (decide_eq_false (fun q => h3 (pcmp_zero.1 q))), rfl⟩,
        trivial⟩ fun τ W g h hb ho => hl_two (ho _ rfl) g (hb.1 _ (.head _)) (hs1 (h 0 rfl)) (hs2 (h 0 rfl)) rfl rfl (ba.mono (by omega)) (bb.mono (by omega)) za zb
  · skip
    unfold clipD
    rw [if_neg (by grind), if_pos ⟨h1, h2⟩]
    refine exec_callso mixed Tryz.func33 [sHs a b, sHs c d] [sZ (rsg (pcross (rp c) (rp d) (rp a))), sZ (rsg (pcross (rp c) (rp d) (rp b))), sV (.bool false), sV (.bool true), sV (.bool true)] (.cons Ha (.cons Hb .nil)) (rs := [cl 2 25 [ag 6 1, .v true [.an 1 6, .an 1 7, .an 1 8, .an 1 9, .an 1 10, .an 1 11], ag 6 0], cl 3 25 [ag 6 1, .v true [.an 1 6, .an 1 7, .an 1 8, .an 1 9, .an 1 10, .an 1 11], .v true [.an 0 6, .an 0 7, .an 0 8, .an 0 9, .an 0 10, .an 0 11]], co 4 (.binOp .geq 3 (.tmp 22) (.const (.int .i64 0)) 3) 4 [on 2, .v false [.lit (.int .i64 0)]] [0, 1, 2, 3] [], co 5 (.binOp .lss 3 (.tmp 42) (.const (.int .i64 0)) 3) 4 [on 2, .v false [.lit (.int .i64 0)]] [0, 1, 2, 3, 4] [], co 6 (.binOp .lss 3 (.tmp 45) (.const (.int .i64 0)) 3) 4 [on 3, .v false [.lit (.int .i64 0)]] [0, 1, 2, 3, 4, 5] []]) (out := .v false [.lit (.slice none 0 0)]) (nc := 7) (nd := []) (own := []) (by kernel_rfl)
        ⟨fun σ W g h hb => toZ (rHSide_any W _ _ _ c d a E (hs1 (h 1 rfl)) (hs2 (h 1 rfl)) (hs1 (h 0 rfl)) (by omega) bc bd ba zc zd za) rfl,
        fun σ W g h hb => toZ (rHSide_any W _ _ _ c d b E (hs1 (h 1 rfl)) (hs2 (h 1 rfl)) (hs2 (h 0 rfl)) (by omega) bc bd bb zc zd zb) rfl,
        fun σ W g h hb => fun ρ o ho _ hv => ⟨_, ge_told false ho ((two_vals hv).1.trans (h 2 rfl)) (two_vals hv).2 (decide_eq_false (fun q => (fun e => absurd e (by grind)) (rsg_ge.1 q))), rfl⟩,
        fun σ W g h hb => fun ρ o ho _ hv => ⟨_, lt_told true ho ((two_vals hv).1.trans (h 2 rfl)) (two_vals hv).2 (decide_eq_true (rsg_lt.2 h1)), rfl⟩,
        fun σ W g h hb => fun ρ o ho _ hv => ⟨_, lt_told true ho ((two_vals hv).1.trans (h 3 rfl)) (two_vals hv).2 (decide_eq_true (rsg_lt.2 h2)), rfl⟩,
        trivial⟩ fun τ W g h hb ho => hl_nil g
  · skip
    unfold clipD
    rw [if_neg (by grind), if_neg (by grind), if_pos h1]
    refine exec_callso mixed Tryz.func33 [sHs a b, sHs c d] [sZ (rsg (pcross (rp c) (rp d) (rp a))), sZ (rsg (pcross (rp c) (rp d) (rp b))), sV (.bool true), sV (.bool false), sV (.bool false), sV (.bool true)] (.cons Ha (.cons Hb .nil)) (rs := [cl 2 25 [ag 6 1, .v true [.an 1 6, .an 1 7, .an 1 8, .an 1 9, .an 1 10, .an 1 11], ag 6 0], cl 3 25 [ag 6 1, .v true [.an 1 6, .an 1 7, .an 1 8, .an 1 9, .an 1 10, .an 1 11], .v true [.an 0 6, .an 0 7, .an 0 8, .an 0 9, .an 0 10, .an 0 11]], co 4 (.binOp .geq 3 (.tmp 22) (.const (.int .i64 0)) 3) 4 [on 2, .v false [.lit (.int .i64 0)]] [0, 1, 2, 3] [], co 5 (.binOp .geq 3 (.tmp 25) (.const (.int .i64 0)) 3) 4 [on 3, .v false [.lit (.int .i64 0)]] [0, 1, 2, 3, 4] [], co 6 (.binOp .lss 3 (.tmp 42) (.const (.int .i64 0)) 3) 4 [on 2, .v false [.lit (.int .i64 0)]] [0, 1, 2, 3, 4, 5] [], co 7 (.binOp .eql 3 (.tmp 48) (.const (.int .i64 0)) 3) 4 [on 2, .v false [.lit (.int .i64 0)]] [0, 1, 2, 3, 4, 5, 6] []]) (out := .v false [.row 2 0 1 1]) (nc := 8) (nd := [(2, 42, [.an 0 0, .an 0 1, .an 0 2, .an 0 3, .an 0 4, .an 0 5])]) (own := [2]) (by kernel_rfl)
        ⟨fun σ W g h hb => toZ (rHSide_any W _ _ _ c d a E (hs1 (h 1 rfl)) (hs2 (h 1 rfl)) (hs1 (h 0 rfl)) (by omega) bc bd ba zc zd za) rfl,
        fun σ W g h hb => toZ (rHSide_any W _ _ _ c d b E (hs1 (h 1 rfl)) (hs2 (h 1 rfl)) (hs2 (h 0 rfl)) (by omega) bc bd bb zc zd zb) rfl,
        fun σ W g h hb => fun ρ o ho _ hv => ⟨_, ge_told true ho ((two_vals hv).1.trans (h 2 rfl)) (two_vals hv).2 (decide_eq_true (rsg_ge.2 (by grind))), rfl⟩,
        fun σ W g h hb => fun ρ o ho _ hv => ⟨_, ge_told false ho ((two_vals hv).1.trans (h 3 rfl)) (two_vals hv).2 (decide_eq_false (fun q => (fun e => absurd e (by grind)) (rsg_ge.1 q))), rfl⟩,
        fun σ W g h hb => fun ρ o ho _ hv => ⟨_, lt_told false ho ((two_vals hv).1.trans (h 2 rfl)) (two_vals hv).2 (decide_eq_false (fun q => absurd (rsg_lt.1 q) (by grind))), rfl⟩,
        fun σ W g h hb => fun ρ o ho _ hv => ⟨_, eq_told true ho ((two_vals hv).1.trans (h 2 rfl)) (two_vals hv).2 (decide_eq_true (rsg_zero.2 h1)), rfl⟩,
        trivial⟩ fun τ W g h hb ho => hl_one (ho _ rfl) g (hb.1 _ (.head _)) rfl (Nat.le_refl _) rfl rfl rfl rfl rfl rfl (hs1 (h 0 rfl)) rfl (ba.mono (by omega)) za
  · skip
    unfold clipD
    rw [if_neg (by grind), if_neg (by grind), if_neg (by grind), if_pos h2]
    refine exec_callso mixed Tryz.func33 [sHs a b, sHs c d] [sZ (rsg (pcross (rp c) (rp d) (rp a))), sZ (rsg (pcross (rp c) (rp d) (rp b))), sV (.bool false), sV (.bool true), sV (.bool false), sV (.bool false), sV (.bool true)] (.cons Ha (.cons Hb .nil)) (rs := [cl 2 25 [ag 6 1, .v true [.an 1 6, .an 1 7, .an 1 8, .an 1 9, .an 1 10, .an 1 11], ag 6 0], cl 3 25 [ag 6 1, .v true [.an 1 6, .an 1 7, .an 1 8, .an 1 9, .an 1 10, .an 1 11], .v true [.an 0 6, .an 0 7, .an 0 8, .an 0 9, .an 0 10, .an 0 11]], co 4 (.binOp .geq 3 (.tmp 22) (.const (.int .i64 0)) 3) 4 [on 2, .v false [.lit (.int .i64 0)]] [0, 1, 2, 3] [], co 5 (.binOp .lss 3 (.tmp 42) (.const (.int .i64 0)) 3) 4 [on 2, .v false [.lit (.int .i64 0)]] [0, 1, 2, 3, 4] [], co 6 (.binOp .lss 3 (.tmp 45) (.const (.int .i64 0)) 3) 4 [on 3, .v false [.lit (.int .i64 0)]] [0, 1, 2, 3, 4, 5] [], co 7 (.binOp .eql 3 (.tmp 48) (.const (.int .i64 0)) 3) 4 [on 2, .v false [.lit (.int .i64 0)]] [0, 1, 2, 3, 4, 5, 6] [], co 8 (.binOp .eql 3 (.tmp 53) (.const (.int .i64 0)) 3) 4 [on 3, .v false [.lit (.int .i64 0)]] [0, 1, 2, 3, 4, 5, 6, 7] []]) (out := .v false [.row 2 0 1 1]) (nc := 9) (nd := [(2, 42, [.an 0 6, .an 0 7, .an 0 8, .an 0 9, .an 0 10, .an 0 11])]) (own := [2]) (by kernel_rfl)
        ⟨fun σ W g h hb => toZ (rHSide_any W _ _ _ c d a E (hs1 (h 1 rfl)) (hs2 (h 1 rfl)) (hs1 (h 0 rfl)) (by omega) bc bd ba zc zd za) rfl,
        fun σ W g h hb => toZ (rHSide_any W _ _ _ c d b E (hs1 (h 1 rfl)) (hs2 (h 1 rfl)) (hs2 (h 0 rfl)) (by omega) bc bd bb zc zd zb) rfl,
        fun σ W g h hb => fun ρ o ho _ hv => ⟨_, ge_told false ho ((two_vals hv).1.trans (h 2 rfl)) (two_vals hv).2 (decide_eq_false (fun q => (fun e => absurd e (by grind)) (rsg_ge.1 q))), rfl⟩,
        fun σ W g h hb => fun ρ o ho _ hv => ⟨_, lt_told true ho ((two_vals hv).1.trans (h 2 rfl)) (two_vals hv).2 (decide_eq_true (rsg_lt.2 h1)), rfl⟩,
        fun σ W g h hb => fun ρ o ho _ hv => ⟨_, lt_told false ho ((two_vals hv).1.trans (h 3 rfl)) (two_vals hv).2 (decide_eq_false (fun q => absurd (rsg_lt.1 q) (by grind))), rfl⟩,
        fun σ W g h hb => fun ρ o ho _ hv => ⟨_, eq_told false ho ((two_vals hv).1.trans (h 2 rfl)) (two_vals hv).2 (decide_eq_false (fun q => absurd (rsg_zero.1 q) (by grind))), rfl⟩,
        fun σ W g h hb => fun ρ o ho _ hv => ⟨_, eq_told true ho ((two_vals hv).1.trans (h 3 rfl)) (two_vals hv).2 (decide_eq_true (rsg_zero.2 h2)), rfl⟩,
        trivial⟩ fun τ W g h hb ho => hl_one (ho _ rfl) g (hb.1 _ (.head _)) rfl (Nat.le_refl _) rfl rfl rfl rfl rfl rfl (hs2 (h 0 rfl)) rfl (bb.mono (by omega)) zb
  · skip
    unfold clipD
    rw [if_neg (by grind), if_neg (by grind), if_neg (by grind), if_neg (by grind), if_pos h1]
    have hn : crw a b c d ≠ 0 := fun e => by have := hcz.1 e; grind
    refine exec_callso mixed Tryz.func33 [sHs a b, sHs c d] [sZ (rsg (pcross (rp c) (rp d) (rp a))), sZ (rsg (pcross (rp c) (rp d) (rp b))), sV (.bool true), sV (.bool false), sV (.bool false), sV (.bool false), sV (.bool false), sH (crp a b c d), sV (.bool true)] (.cons Ha (.cons Hb .nil)) (rs := [cl 2 25 [ag 6 1, .v true [.an 1 6, .an 1 7, .an 1 8, .an 1 9, .an 1 10, .an 1 11], ag 6 0], cl 3 25 [ag 6 1, .v true [.an 1 6, .an 1 7, .an 1 8, .an 1 9, .an 1 10, .an 1 11], .v true [.an 0 6, .an 0 7, .an 0 8, .an 0 9, .an 0 10, .an 0 11]], co 4 (.binOp .geq 3 (.tmp 22) (.const (.int .i64 0)) 3) 4 [on 2, .v false [.lit (.int .i64 0)]] [0, 1, 2, 3] [], co 5 (.binOp .geq 3 (.tmp 25) (.const (.int .i64 0)) 3) 4 [on 3, .v false [.lit (.int .i64 0)]] [0, 1, 2, 3, 4] [], co 6 (.binOp .lss 3 (.tmp 42) (.const (.int .i64 0)) 3) 4 [on 2, .v false [.lit (.int .i64 0)]] [0, 1, 2, 3, 4, 5] [], co 7 (.binOp .eql 3 (.tmp 48) (.const (.int .i64 0)) 3) 4 [on 2, .v false [.lit (.int .i64 0)]] [0, 1, 2, 3, 4, 5, 6] [], co 8 (.binOp .eql 3 (.tmp 53) (.const (.int .i64 0)) 3) 4 [on 3, .v false [.lit (.int .i64 0)]] [0, 1, 2, 3, 4, 5, 6, 7] [], cl 9 65 [ag 12 0, ag 12 1], co 10 (.binOp .gtr 3 (.tmp 61) (.const (.int .i64 0)) 3) 4 [on 2, .v false [.lit (.int .i64 0)]] [0, 1, 2, 3, 4, 5, 6, 7, 8, 9] []]) (out := .v false [.row 3 0 2 2]) (nc := 11) (nd := [(3, 42, [.an 0 0, .an 0 1, .an 0 2, .an 0 3, .an 0 4, .an 0 5, .an 9 0, .an 9 1, .an 9 2, .an 9 3, .an 9 4, .an 9 5])]) (own := [3]) (by kernel_rfl)
        ⟨fun σ W g h hb => toZ (rHSide_any W _ _ _ c d a E (hs1 (h 1 rfl)) (hs2 (h 1 rfl)) (hs1 (h 0 rfl)) (by omega) bc bd ba zc zd za) rfl,
        fun σ W g h hb => toZ (rHSide_any W _ _ _ c d b E (hs1 (h 1 rfl)) (hs2 (h 1 rfl)) (hs2 (h 0 rfl)) (by omega) bc bd bb zc zd zb) rfl,
        fun σ W g h hb => fun ρ o ho _ hv => ⟨_, ge_told true ho ((two_vals hv).1.trans (h 2 rfl)) (two_vals hv).2 (decide_eq_true (rsg_ge.2 (by grind))), rfl⟩,
        fun σ W g h hb => fun ρ o ho _ hv => ⟨_, ge_told false ho ((two_vals hv).1.trans (h 3 rfl)) (two_vals hv).2 (decide_eq_false (fun q => (fun e => absurd e (by grind)) (rsg_ge.1 q))), rfl⟩,
        fun σ W g h hb => fun ρ o ho _ hv => ⟨_, lt_told false ho ((two_vals hv).1.trans (h 2 rfl)) (two_vals hv).2 (decide_eq_false (fun q => absurd (rsg_lt.1 q) (by grind))), rfl⟩,
        fun σ W g h hb => fun ρ o ho _ hv => ⟨_, eq_told false ho ((two_vals hv).1.trans (h 2 rfl)) (two_vals hv).2 (decide_eq_false (fun q => absurd (rsg_zero.1 q) (by grind))), rfl⟩,
        fun σ W g h hb => fun ρ o ho _ hv => ⟨_, eq_told false ho ((two_vals hv).1.trans (h 3 rfl)) (two_vals hv).2 (decide_eq_false (fun q => absurd (rsg_zero.1 q) (by grind))), rfl⟩,
        fun σ W g h hb => rHCrossing_any W _ _ a b c d E (h 0 rfl) (h 1 rfl) hE ba bb bc bd,
        fun σ W g h hb => fun ρ o ho _ hv => ⟨_, gt_told true ho ((two_vals hv).1.trans (h 2 rfl)) (two_vals hv).2 (decide_eq_true (rsg_gt.2 h1)), rfl⟩,
        trivial⟩ fun τ W g h hb ho => hl_two (ho _ rfl) g (hb.1 _ (.head _)) (hs1 (h 0 rfl)) (h 9 rfl) rfl (hci hn) (ba.mono (by omega)) bcr za (hcp hn)
  · skip
    unfold clipD
    rw [if_neg (by grind), if_neg (by grind), if_neg (by grind), if_neg (by grind), if_neg (by grind)]
    have hn : crw a b c d ≠ 0 := fun e => by have := hcz.1 e; grind
    refine exec_callso mixed Tryz.func33 [sHs a b, sHs c d] [sZ (rsg (pcross (rp c) (rp d) (rp a))), sZ (rsg (pcross (rp c) (rp d) (rp b))), sV (.bool false), sV (.bool true), sV (.bool false), sV (.bool false), sV (.bool false), sH (crp a b c d), sV (.bool false)] (.cons Ha (.cons Hb .nil)) (rs := [cl 2 25 [ag 6 1, .v true [.an 1 6, .an 1 7, .an 1 8, .an 1 9, .an 1 10, .an 1 11], ag 6 0], cl 3 25 [ag 6 1, .v true [.an 1 6, .an 1 7, .an 1 8, .an 1 9, .an 1 10, .an 1 11], .v true [.an 0 6, .an 0 7, .an 0 8, .an 0 9, .an 0 10, .an 0 11]], co 4 (.binOp .geq 3 (.tmp 22) (.const (.int .i64 0)) 3) 4 [on 2, .v false [.lit (.int .i64 0)]] [0, 1, 2, 3] [], co 5 (.binOp .lss 3 (.tmp 42) (.const (.int .i64 0)) 3) 4 [on 2, .v false [.lit (.int .i64 0)]] [0, 1, 2, 3, 4] [], co 6 (.binOp .lss 3 (.tmp 45) (.const (.int .i64 0)) 3) 4 [on 3, .v false [.lit (.int .i64 0)]] [0, 1, 2, 3, 4, 5] [], co 7 (.binOp .eql 3 (.tmp 48) (.const (.int .i64 0)) 3) 4 [on 2, .v false [.lit (.int .i64 0)]] [0, 1, 2, 3, 4, 5, 6] [], co 8 (.binOp .eql 3 (.tmp 53) (.const (.int .i64 0)) 3) 4 [on 3, .v false [.lit (.int .i64 0)]] [0, 1, 2, 3, 4, 5, 6, 7] [], cl 9 65 [ag 12 0, ag 12 1], co 10 (.binOp .gtr 3 (.tmp 61) (.const (.int .i64 0)) 3) 4 [on 2, .v false [.lit (.int .i64 0)]] [0, 1, 2, 3, 4, 5, 6, 7, 8, 9] []]) (out := .v false [.row 3 0 2 2]) (nc := 11) (nd := [(3, 42, [.an 9 0, .an 9 1, .an 9 2, .an 9 3, .an 9 4, .an 9 5, .an 0 6, .an 0 7, .an 0 8, .an 0 9, .an 0 10, .an 0 11])]) (own := [3]) (by kernel_rfl)
        ⟨fun σ W g h hb => toZ (rHSide_any W _ _ _ c d a E (hs1 (h 1 rfl)) (hs2 (h 1 rfl)) (hs1 (h 0 rfl)) (by omega) bc bd ba zc zd za) rfl,
        fun σ W g h hb => toZ (rHSide_any W _ _ _ c d b E (hs1 (h 1 rfl)) (hs2 (h 1 rfl)) (hs2 (h 0 rfl)) (by omega) bc bd bb zc zd zb) rfl,
        fun σ W g h hb => fun ρ o ho _ hv => ⟨_, ge_told false ho ((two_vals hv).1.trans (h 2 rfl)) (two_vals hv).2 (decide_eq_false (fun q => (fun e => absurd e (by grind)) (rsg_ge.1 q))), rfl⟩,
        fun σ W g h hb => fun ρ o ho _ hv => ⟨_, lt_told true ho ((two_vals hv).1.trans (h 2 rfl)) (two_vals hv).2 (decide_eq_true (rsg_lt.2 h1)), rfl⟩,
        fun σ W g h hb => fun ρ o ho _ hv => ⟨_, lt_told false ho ((two_vals hv).1.trans (h 3 rfl)) (two_vals hv).2 (decide_eq_false (fun q => absurd (rsg_lt.1 q) (by grind))), rfl⟩,
        fun σ W g h hb => fun ρ o ho _ hv => ⟨_, eq_told false ho ((two_vals hv).1.trans (h 2 rfl)) (two_vals hv).2 (decide_eq_false (fun q => absurd (rsg_zero.1 q) (by grind))), rfl⟩,
        fun σ W g h hb => fun ρ o ho _ hv => ⟨_, eq_told false ho ((two_vals hv).1.trans (h 3 rfl)) (two_vals hv).2 (decide_eq_false (fun q => absurd (rsg_zero.1 q) (by grind))), rfl⟩,
        fun σ W g h hb => rHCrossing_any W _ _ a b c d E (h 0 rfl) (h 1 rfl) hE ba bb bc bd,
        fun σ W g h hb => fun ρ o ho _ hv => ⟨_, gt_told false ho ((two_vals hv).1.trans (h 2 rfl)) (two_vals hv).2 (decide_eq_false (fun q => absurd (rsg_gt.1 q) (by grind))), rfl⟩,
        trivial⟩ fun τ W g h hb ho => hl_two (ho _ rfl) g (hb.1 _ (.head _)) (h 9 rfl) (hs2 (h 0 rfl)) (hci hn) rfl bcr (bb.mono (by omega)) (hcp hn) zb
end Go.Proofs.YthbhgcaemcobeaaGreatDoor
namespace Go.Proofs.YthbhgcaemcobeaaGreatDoor
open Go.RowKit Mat Ex PM
set_option linter.unusedVariables false
set_option linter.unusedSimpArgs false
/-! ### Helpers of the laws -/
def lat (x y d : Int) : Pq := rp ⟨x, y, und d⟩
theorem lat_b {x y d : Int} (h1 : -9223372036854775808 ≤ x) (h2 : x ≤ 9223372036854775807) (h3 : -9223372036854775808 ≤ y) (h4 : y ≤ 9223372036854775807) : Bp 1 (lat x y d) := by
  have h := und_pos d
  have hu : (und d).natAbs < B ^ 1 := b1int (und_b d).1 (und_b d).2
  exact ⟨⟨rdiv_nb (b1int h1 h2), rdiv_db hu (Int.ne_of_gt h.1)⟩, ⟨rdiv_nb (b1int h3 h4), rdiv_db hu (Int.ne_of_gt h.1)⟩⟩
theorem lat_h {x y d : Int} (h1 : -9223372036854775808 ≤ x) (h2 : x ≤ 9223372036854775807) (h3 : -9223372036854775808 ≤ y) (h4 : y ≤ 9223372036854775807) : HB 5 ⟨x, y, und d⟩ :=
  ⟨dint h1 h2, dint h3 h4, dint (und_b d).1 (und_b d).2⟩
theorem arg2 {P : Program} {f : FuncId} {a b c d : Value} {w : World} {R : Ending → World → Prop} (h : a = b) (h2 : c = d) (k : Calls P f #[b, d] w R) : Calls P f #[a, c] w R := by subst h; subst h2; exact k
theorem dDt {W : World} {x y d : Int} {a b c : Value} (h : (sDt x y d).F (.agg #[a, b, c]) W) : (Value.agg #[a, b, c]) = .agg #[.int .i64 x, .int .i64 y, .int .i64 d] := h
theorem ptext_uniq {s t : ByteArray} {p : Pq} (hs : PTextOf s p) (ht : PTextOf t p) : s = t := by
  obtain ⟨a, b, h1, h2, rfl⟩ := hs
  obtain ⟨c, d, h3, h4, rfl⟩ := ht
  rw [rtext_uniq h1 h3, rtext_uniq h2 h4]
theorem seq_told {P : Program} {ρ : Operand → Value} {o : Oper} {t t' : TypeId} {x y : Operand} {s u : ByteArray} {W : World} (ho : o.op = .binOp .eql t x y t') (hx : ρ x = .string s) (hy : ρ y = .string u) (h : s = u) : (execOp ρ o).run P W = .ok (.value (.bool true)) W := by
  have hg : eqGuard .eql t x y (.string s) (.string u) = pure () := by unfold eqGuard; rfl
  have hb : binOp .eql t (.string s) (.string u) = pure (.bool true) := by
    subst h
    have : binOp .eql t (.string s) (.string s) = Op.stringOp .eql s s := by simp [binOp]
    rw [this]; simp [Op.stringOp]
  simp only [execOp, ho, hx, hy, hg, hb, Sem.run_bind, Sem.run_pure, Result.andThen_ok]
theorem sne_told {P : Program} {ρ : Operand → Value} {o : Oper} {t t' : TypeId} {x y : Operand} {s u : ByteArray} {W : World} (ho : o.op = .binOp .neq t x y t') (hx : ρ x = .string s) (hy : ρ y = .string u) (h : s = u) : (execOp ρ o).run P W = .ok (.value (.bool false)) W := by
  have hg : eqGuard .neq t x y (.string s) (.string u) = pure () := by unfold eqGuard; rfl
  have hb : binOp .neq t (.string s) (.string u) = pure (.bool false) := by
    subst h
    have : binOp .neq t (.string s) (.string s) = Op.stringOp .neq s s := by simp [binOp]
    rw [this]; simp [Op.stringOp]
  simp only [execOp, ho, hx, hy, hg, hb, Sem.run_bind, Sem.run_pure, Result.andThen_ok]
def sSH (p q : Pq) (a b : H3) : Sp := .of (.tup [(none, 17), (none, 13)]) (fun v W => ∃ u t, v = .tuple #[u, t] ∧ SgV W u p q ∧ HsV W t a b) (fun v W h => by
  obtain ⟨u, t, rfl, ⟨_, _, _, _, _, _, _, _, _, _, _, _, _, _, _, _, rfl, h1, h2⟩, _, _, _, _, _, _, _, _, _, _, _, _, rfl, h3, h4⟩ := h
  have i1 := h1.one; have i2 := h2.one; have i3 := h3.one; have i4 := h4.one
  refine fits2 (u := .bool true) (cs := [_, _, _, _, _, _, _, _, _, _, _, _, _, _, _, _, _, _, _, _, _, _, _, _, _, _, _, _]) (fun x hx => ?_) rfl
  rcases List.mem_append.1 (show x ∈ ([_, _, _, _, _, _, _, _] ++ [_, _, _, _, _, _, _, _]) ++ ([_, _, _, _, _, _] ++ [_, _, _, _, _, _]) from hx) with hx | hx
  · rcases List.mem_append.1 hx with hx | hx
    · exact i1 x hx
    · exact i2 x hx
  · rcases List.mem_append.1 hx with hx | hx
    · exact i3 x hx
    · exact i4 x hx) (fun v W W' k h => by obtain ⟨u, t, e, h1, h2⟩ := h; exact ⟨u, t, e, h1.keeps k, h2.keeps k⟩)
theorem sh1 {p q : Pq} {a b : H3} {u v : Value} {W : World} : (sSH p q a b).F (.tuple #[u, v]) W → SgV W u p q := by rintro ⟨_, _, e, h, _⟩; cases e; exact h
theorem sh2 {p q : Pq} {a b : H3} {u v : Value} {W : World} : (sSH p q a b).F (.tuple #[u, v]) W → HsV W v a b := by rintro ⟨_, _, e, _, h⟩; cases e; exact h
def RetSH (w : World) (p q : Pq) (a b : H3) (e : Ending) (w' : World) : Prop := ∃ u v, e = .returned (.tuple #[u, v]) ∧ SgV w' u p q ∧ HsV w' v a b ∧ w.grownBy w' none
theorem toSH {P : Program} {f : FuncId} {args : Array Value} {W : World} {p q : Pq} {a b : H3} (h : Calls P f args W (RetSH W p q a b)) : Calls P f args W (Ret W (sSH p q a b).F) :=
  h.mono fun _ _ ⟨v, u, a, h1, h2, g⟩ => ⟨_, a, ⟨v, u, rfl, h1, h2⟩, g⟩
theorem LAt_any (w : World) (x y d : Int) (h1 : -9223372036854775808 ≤ x) (h2 : x ≤ 9223372036854775807) (h3 : -9223372036854775808 ≤ y) (h4 : y ≤ 9223372036854775807) (hTab : Tab w) :
    Calls Tryz.prog 9 #[.agg #[.int .i64 x, .int .i64 y, .int .i64 d]] w (RetPt w (lat x y d)) := by
  refine exec_calls mixed Tryz.func9 [sDt x y d] [sZ (und d), sQE (Rat.divInt x (und d)) 0, sZ (und d), sQE (Rat.divInt y (und d)) 0] (.cons rfl .nil) (rs := [cl 1 41 [ag 3 0], cl 2 36 [on 0, on 1], cl 3 41 [ag 3 0], cl 4 36 [.v false [.an 0 1], on 3]]) (out := .v true [.an 2 0, .an 2 1, .an 2 2, .an 2 3, .an 4 0, .an 4 1, .an 4 2, .an 4 3]) (nc := 5) (by kernel_rfl)
      ⟨fun σ W g h hb => argl (congrArg (fun v => [v]) (h 0 rfl)) (rHUnder_any W x y d) |>.mono fun _ _ ⟨a, g⟩ => ⟨_, a, rfl, g⟩,
      fun σ W g h hb => arg2 (dt1 (h 0 rfl)) (h 1 rfl) (toQE (FOf_any W x (und d) h1 h2 (und_b d).1 (und_b d).2 (hTab.kept g (by simp))) (by rw [if_neg (by have := und_pos d; omega)])),
      fun σ W g h hb => argl (congrArg (fun v => [v]) (h 0 rfl)) (rHUnder_any W x y d) |>.mono fun _ _ ⟨a, g⟩ => ⟨_, a, rfl, g⟩,
      fun σ W g h hb => arg2 (dt2 (h 0 rfl)) (h 3 rfl) (toQE (FOf_any W y (und d) h3 h4 (und_b d).1 (und_b d).2 (hTab.kept g (by simp))) (by rw [if_neg (by have := und_pos d; omega)])),
      trivial⟩ fun τ W g h => ⟨_, rfl, mkpt (qE (h 2 rfl)) (qE (h 4 rfl)), g⟩
theorem LSeg_any (w : World) (x y d x' y' d' : Int) (h1 : -9223372036854775808 ≤ x) (h2 : x ≤ 9223372036854775807) (h3 : -9223372036854775808 ≤ y) (h4 : y ≤ 9223372036854775807) (k1 : -9223372036854775808 ≤ x') (k2 : x' ≤ 9223372036854775807) (k3 : -9223372036854775808 ≤ y') (k4 : y' ≤ 9223372036854775807) (hTab : Tab w) :
    Calls Tryz.prog 26 #[.agg #[.int .i64 x, .int .i64 y, .int .i64 d], .agg #[.int .i64 x', .int .i64 y', .int .i64 d']] w (RetSH w (lat x y d) (lat x' y' d') ⟨x, y, und d⟩ ⟨x', y', und d'⟩) := by
  refine exec_calls mixed Tryz.func26 [sDt x y d, sDt x' y' d'] [sPt (lat x y d), sPt (lat x' y' d'), sH ⟨x, y, und d⟩, sH ⟨x', y', und d'⟩] (.cons rfl (.cons rfl .nil)) (rs := [cl 2 9 [ag 3 0], cl 3 9 [ag 3 1], cl 4 10 [ag 3 0], cl 5 10 [ag 3 1]]) (out := .tup [(true, [.an 2 0, .an 2 1, .an 2 2, .an 2 3, .an 2 4, .an 2 5, .an 2 6, .an 2 7, .an 3 0, .an 3 1, .an 3 2, .an 3 3, .an 3 4, .an 3 5, .an 3 6, .an 3 7]), (true, [.an 4 0, .an 4 1, .an 4 2, .an 4 3, .an 4 4, .an 4 5, .an 5 0, .an 5 1, .an 5 2, .an 5 3, .an 5 4, .an 5 5])]) (nc := 6) (by kernel_rfl)
      ⟨fun σ W g h hb => argl (congrArg (fun v => [v]) (h 0 rfl)) (LAt_any W x y d h1 h2 h3 h4 (hTab.kept g (by simp))),
      fun σ W g h hb => argl (congrArg (fun v => [v]) (h 1 rfl)) (LAt_any W x' y' d' k1 k2 k3 k4 (hTab.kept g (by simp))),
      fun σ W g h hb => argl (congrArg (fun v => [v]) (h 0 rfl)) (rHAt_any W x y d h1 h2 h3 h4),
      fun σ W g h hb => argl (congrArg (fun v => [v]) (h 1 rfl)) (rHAt_any W x' y' d' k1 k2 k3 k4),
      trivial⟩ fun τ W g h => ⟨_, _, rfl, mksg (h 2 rfl) (h 3 rfl), mkhs (h 4 rfl) (h 5 rfl), g⟩
theorem LAlike_0 (w : World) (va vb : Value) (K E : Nat) (hK : 1 ≤ K ∧ K ≤ 100000) (hE : 1 ≤ E ∧ E ≤ 200000) (Ha : PtsV w va []) (Hb : HrV w vb []) :
    Calls Tryz.prog 27 #[va, vb] w (fun e w' => e = .returned (.bool true) ∧ w.grownBy w' none) := by
  refine exec_calls mixed Tryz.func27 [sPts 0 [], sHr 0 []] [sV (.int .i64 0), sV (.int .i64 0), sV (.int .i64 0)] (.cons ⟨Ha, fun _ _ => Nat.zero_le _⟩ (.cons ⟨Hb, fun _ _ => Nat.zero_le _⟩ .nil)) (rs := [co 2 (.call ⟨.builtin .len, #[(.tmp 6)], #[66]⟩) 3 [on 0] [0, 1] [], co 3 (.call ⟨.builtin .len, #[(.tmp 8)], #[68]⟩) 3 [on 1] [0, 1] [], co 4 (.call ⟨.builtin .len, #[(.tmp 12)], #[66]⟩) 3 [on 0] [0, 1, 2, 3] []]) (out := .v false [.lit (.bool true)]) (nc := 5) (by kernel_rfl)
      ⟨fun σ W g h hb => fun ρ o ho _ hv => ⟨_, pts_len (h 0 rfl).1 ho (one_val hv) ⟨34, by kernel_rfl⟩, rfl⟩,
      fun σ W g h hb => fun ρ o ho _ hv => ⟨_, hr_len (h 1 rfl).1 ho (one_val hv) ⟨42, by kernel_rfl⟩, rfl⟩,
      fun σ W g h hb => fun ρ o ho _ hv => ⟨_, pts_len (h 0 rfl).1 ho (one_val hv) ⟨34, by kernel_rfl⟩, rfl⟩,
      trivial⟩ fun τ W g h => ⟨rfl, g⟩
theorem LAlike_1 (w : World) (va vb : Value) (a : H3) (K E : Nat) (hK : 1 ≤ K ∧ K ≤ 100000) (hE : 1 ≤ E ∧ E ≤ 200000) (ba : Bp K (rp a)) (ha : HB E a ∧ 0 < a.z) (Ha : PtsV w va [rp a]) (Hb : HrV w vb [a]) :
    Calls Tryz.prog 27 #[va, vb] w (fun e w' => e = .returned (.bool true) ∧ w.grownBy w' none) := by
  refine exec_calls mixed Tryz.func27 [sPts 0 [rp a], sHr 0 [a]] [sV (.int .i64 1), sV (.int .i64 1), sV (.int .i64 1), sAt (rp a), sPt (rp a), sT (fun s => PTextOf s (rp a)), sHa a, sH a, sT (fun s => PTextOf s (rp a)), sV (.bool false), sV (.int .i64 1)] (.cons ⟨Ha, fun _ _ => Nat.zero_le _⟩ (.cons ⟨Hb, fun _ _ => Nat.zero_le _⟩ .nil)) (rs := [co 2 (.call ⟨.builtin .len, #[(.tmp 6)], #[66]⟩) 3 [on 0] [0, 1] [], co 3 (.call ⟨.builtin .len, #[(.tmp 8)], #[68]⟩) 3 [on 1] [0, 1] [], co 4 (.call ⟨.builtin .len, #[(.tmp 12)], #[66]⟩) 3 [on 0] [0, 1, 2, 3] [], co 5 (.indexAddr 66 (.tmp 17) (.tmp 18)) 0 [on 0, .v false [.lit (.int .i64 0)]] [0, 1, 2, 3, 4] [], co 6 (.load 34 (.tmp 19)) 34 [on 5] [0, 1, 2, 3, 4, 5] [], cl 7 12 [ag 8 6], co 8 (.indexAddr 68 (.tmp 22) (.tmp 23)) 0 [on 1, .v false [.lit (.int .i64 0)]] [0, 1, 2, 3, 4] [], co 9 (.load 42 (.tmp 24)) 42 [on 8] [0, 1, 2, 3, 4, 8] [], cl 10 13 [ag 6 9], co 11 (.binOp .neq 9 (.tmp 21) (.tmp 26) 9) 4 [on 7, on 10] [0, 1, 2, 3, 4, 5, 6, 7, 8, 9, 10] [], co 12 (.call ⟨.builtin .len, #[(.tmp 12)], #[66]⟩) 3 [on 0] [0, 1, 2, 3, 4, 5, 6, 7, 8, 9, 10, 11] []]) (out := .v false [.lit (.bool true)]) (nc := 13) (by kernel_rfl)
      ⟨fun σ W g h hb => fun ρ o ho _ hv => ⟨_, pts_len (h 0 rfl).1 ho (one_val hv) ⟨34, by kernel_rfl⟩, rfl⟩,
      fun σ W g h hb => fun ρ o ho _ hv => ⟨_, hr_len (h 1 rfl).1 ho (one_val hv) ⟨42, by kernel_rfl⟩, rfl⟩,
      fun σ W g h hb => fun ρ o ho _ hv => ⟨_, pts_len (h 0 rfl).1 ho (one_val hv) ⟨34, by kernel_rfl⟩, rfl⟩,
      fun σ W g h hb => fun ρ o ho _ hv => by
        obtain ⟨u, h1, h2, h3⟩ := pts_at (h 0 rfl).1 ho (two_vals hv).1 0 (by simp) (two_vals hv).2
        exact ⟨u, h1, h2, fun q hq => ⟨0, rfl, h3 q hq⟩⟩,
      fun σ W g h hb => fun ρ o ho _ hv => pts_load (h 5 rfl) ho (one_val hv),
      fun σ W g h hb => toT (PText_any W _ (rp a) K (h 6 rfl) hK ba),
      fun σ W g h hb => fun ρ o ho _ hv => by
        obtain ⟨u, h1, h2, h3⟩ := hr_at (h 1 rfl).1 ho (two_vals hv).1 0 (by simp) (two_vals hv).2
        exact ⟨u, h1, h2, fun q hq => ⟨1, rfl, h3 q hq⟩⟩,
      fun σ W g h hb => fun ρ o ho _ hv => hr_load (h 8 rfl) ho (one_val hv),
      fun σ W g h hb => toT (rHText_any W _ a E (h 9 rfl) hE ha.1 ha.2),
      fun σ W g h hb => fun ρ o ho _ hv => by
        obtain ⟨s, e, hs⟩ := h 7 rfl
        obtain ⟨t, e2, ht⟩ := h 10 rfl
        exact ⟨_, sne_told ho ((two_vals hv).1.trans e) ((two_vals hv).2.trans e2) (ptext_uniq hs ht), rfl⟩,
      fun σ W g h hb => fun ρ o ho _ hv => ⟨_, pts_len (h 0 rfl).1 ho (one_val hv) ⟨34, by kernel_rfl⟩, rfl⟩,
      trivial⟩ fun τ W g h => ⟨rfl, g⟩
theorem LAlike_2 (w : World) (va vb : Value) (a b : H3) (K E : Nat) (hK : 1 ≤ K ∧ K ≤ 100000) (hE : 1 ≤ E ∧ E ≤ 200000) (ba : Bp K (rp a)) (ha : HB E a ∧ 0 < a.z) (bb : Bp K (rp b)) (hb' : HB E b ∧ 0 < b.z) (Ha : PtsV w va [rp a, rp b]) (Hb : HrV w vb [a, b]) :
    Calls Tryz.prog 27 #[va, vb] w (fun e w' => e = .returned (.bool true) ∧ w.grownBy w' none) := by
  refine exec_calls mixed Tryz.func27 [sPts 0 [rp a, rp b], sHr 0 [a, b]] [sV (.int .i64 2), sV (.int .i64 2), sV (.int .i64 2), sAt (rp a), sPt (rp a), sT (fun s => PTextOf s (rp a)), sHa a, sH a, sT (fun s => PTextOf s (rp a)), sV (.bool false), sV (.int .i64 2), sAt (rp b), sPt (rp b), sT (fun s => PTextOf s (rp b)), sHa b, sH b, sT (fun s => PTextOf s (rp b)), sV (.bool false), sV (.int .i64 2)] (.cons ⟨Ha, fun _ _ => Nat.zero_le _⟩ (.cons ⟨Hb, fun _ _ => Nat.zero_le _⟩ .nil)) (rs := [co 2 (.call ⟨.builtin .len, #[(.tmp 6)], #[66]⟩) 3 [on 0] [0, 1] [], co 3 (.call ⟨.builtin .len, #[(.tmp 8)], #[68]⟩) 3 [on 1] [0, 1] [], co 4 (.call ⟨.builtin .len, #[(.tmp 12)], #[66]⟩) 3 [on 0] [0, 1, 2, 3] [], co 5 (.indexAddr 66 (.tmp 17) (.tmp 18)) 0 [on 0, .v false [.lit (.int .i64 0)]] [0, 1, 2, 3, 4] [], co 6 (.load 34 (.tmp 19)) 34 [on 5] [0, 1, 2, 3, 4, 5] [], cl 7 12 [ag 8 6], co 8 (.indexAddr 68 (.tmp 22) (.tmp 23)) 0 [on 1, .v false [.lit (.int .i64 0)]] [0, 1, 2, 3, 4] [], co 9 (.load 42 (.tmp 24)) 42 [on 8] [0, 1, 2, 3, 4, 8] [], cl 10 13 [ag 6 9], co 11 (.binOp .neq 9 (.tmp 21) (.tmp 26) 9) 4 [on 7, on 10] [0, 1, 2, 3, 4, 5, 6, 7, 8, 9, 10] [], co 12 (.call ⟨.builtin .len, #[(.tmp 12)], #[66]⟩) 3 [on 0] [0, 1, 2, 3, 4, 5, 6, 7, 8, 9, 10, 11] [], co 13 (.indexAddr 66 (.tmp 17) (.tmp 18)) 0 [on 0, .v false [.lit (.int .i64 1)]] [0, 1, 2, 3, 4, 5, 6, 7, 8, 9, 10, 11, 12] [], co 14 (.load 34 (.tmp 19)) 34 [on 13] [0, 1, 2, 3, 4, 5, 6, 7, 8, 9, 10, 11, 12, 13] [], cl 15 12 [ag 8 14], co 16 (.indexAddr 68 (.tmp 22) (.tmp 23)) 0 [on 1, .v false [.lit (.int .i64 1)]] [0, 1, 2, 3, 4, 5, 6, 7, 8, 9, 10, 11, 12] [], co 17 (.load 42 (.tmp 24)) 42 [on 16] [0, 1, 2, 3, 4, 5, 6, 7, 8, 9, 10, 11, 12, 16] [], cl 18 13 [ag 6 17], co 19 (.binOp .neq 9 (.tmp 21) (.tmp 26) 9) 4 [on 15, on 18] [0, 1, 2, 3, 4, 5, 6, 7, 8, 9, 10, 11, 12, 13, 14, 15, 16, 17, 18] [], co 20 (.call ⟨.builtin .len, #[(.tmp 12)], #[66]⟩) 3 [on 0] [0, 1, 2, 3, 4, 5, 6, 7, 8, 9, 10, 11, 12, 13, 14, 15, 16, 17, 18, 19] []]) (out := .v false [.lit (.bool true)]) (nc := 21) (by kernel_rfl)
      ⟨fun σ W g h hb => fun ρ o ho _ hv => ⟨_, pts_len (h 0 rfl).1 ho (one_val hv) ⟨34, by kernel_rfl⟩, rfl⟩,
      fun σ W g h hb => fun ρ o ho _ hv => ⟨_, hr_len (h 1 rfl).1 ho (one_val hv) ⟨42, by kernel_rfl⟩, rfl⟩,
      fun σ W g h hb => fun ρ o ho _ hv => ⟨_, pts_len (h 0 rfl).1 ho (one_val hv) ⟨34, by kernel_rfl⟩, rfl⟩,
      fun σ W g h hb => fun ρ o ho _ hv => by
        obtain ⟨u, h1, h2, h3⟩ := pts_at (h 0 rfl).1 ho (two_vals hv).1 0 (by simp) (two_vals hv).2
        exact ⟨u, h1, h2, fun q hq => ⟨0, rfl, h3 q hq⟩⟩,
      fun σ W g h hb => fun ρ o ho _ hv => pts_load (h 5 rfl) ho (one_val hv),
      fun σ W g h hb => toT (PText_any W _ (rp a) K (h 6 rfl) hK ba),
      fun σ W g h hb => fun ρ o ho _ hv => by
        obtain ⟨u, h1, h2, h3⟩ := hr_at (h 1 rfl).1 ho (two_vals hv).1 0 (by simp) (two_vals hv).2
        exact ⟨u, h1, h2, fun q hq => ⟨1, rfl, h3 q hq⟩⟩,
      fun σ W g h hb => fun ρ o ho _ hv => hr_load (h 8 rfl) ho (one_val hv),
      fun σ W g h hb => toT (rHText_any W _ a E (h 9 rfl) hE ha.1 ha.2),
      fun σ W g h hb => fun ρ o ho _ hv => by
        obtain ⟨s, e, hs⟩ := h 7 rfl
        obtain ⟨t, e2, ht⟩ := h 10 rfl
        exact ⟨_, sne_told ho ((two_vals hv).1.trans e) ((two_vals hv).2.trans e2) (ptext_uniq hs ht), rfl⟩,
      fun σ W g h hb => fun ρ o ho _ hv => ⟨_, pts_len (h 0 rfl).1 ho (one_val hv) ⟨34, by kernel_rfl⟩, rfl⟩,
      fun σ W g h hb => fun ρ o ho _ hv => by
        obtain ⟨u, h1, h2, h3⟩ := pts_at (h 0 rfl).1 ho (two_vals hv).1 1 (by simp) (two_vals hv).2
        exact ⟨u, h1, h2, fun q hq => ⟨0, rfl, h3 q hq⟩⟩,
      fun σ W g h hb => fun ρ o ho _ hv => pts_load (h 13 rfl) ho (one_val hv),
      fun σ W g h hb => toT (PText_any W _ (rp b) K (h 14 rfl) hK bb),
      fun σ W g h hb => fun ρ o ho _ hv => by
        obtain ⟨u, h1, h2, h3⟩ := hr_at (h 1 rfl).1 ho (two_vals hv).1 1 (by simp) (two_vals hv).2
        exact ⟨u, h1, h2, fun q hq => ⟨1, rfl, h3 q hq⟩⟩,
      fun σ W g h hb => fun ρ o ho _ hv => hr_load (h 16 rfl) ho (one_val hv),
      fun σ W g h hb => toT (rHText_any W _ b E (h 17 rfl) hE hb'.1 hb'.2),
      fun σ W g h hb => fun ρ o ho _ hv => by
        obtain ⟨s, e, hs⟩ := h 15 rfl
        obtain ⟨t, e2, ht⟩ := h 18 rfl
        exact ⟨_, sne_told ho ((two_vals hv).1.trans e) ((two_vals hv).2.trans e2) (ptext_uniq hs ht), rfl⟩,
      fun σ W g h hb => fun ρ o ho _ hv => ⟨_, pts_len (h 0 rfl).1 ho (one_val hv) ⟨34, by kernel_rfl⟩, rfl⟩,
      trivial⟩ fun τ W g h => ⟨rfl, g⟩
theorem LAlike_any (w : World) (va vb : Value) (L : List Pq) (M : List H3) (K E : Nat) (hK : 1 ≤ K ∧ K ≤ 100000) (hE : 1 ≤ E ∧ E ≤ 200000) (Ha : PtsV w va L) (Hb : HrV w vb M) (hLM : M.map rp = L) (h2 : L.length ≤ 2) (ba : ∀ p ∈ L, Bp K p) (bb : ∀ a ∈ M, HB E a ∧ 0 < a.z) :
    Calls Tryz.prog 27 #[va, vb] w (fun e w' => e = .returned (.bool true) ∧ w.grownBy w' none) := by
  subst hLM
  match M, h2, ba, bb with
  | [], _, _, _ => exact LAlike_0 w va vb K E hK hE Ha Hb
  | [a], _, ba, bb => exact LAlike_1 w va vb a K E hK hE (ba _ (by simp)) (bb _ (by simp)) Ha Hb
  | [a, b], _, ba, bb => exact LAlike_2 w va vb a b K E hK hE (ba _ (by simp)) (bb _ (by simp)) (ba _ (by simp)) (bb _ (by simp)) Ha Hb
  | _ :: _ :: _ :: _, h2, _, _ => exact absurd h2 (by simp)
end Go.Proofs.YthbhgcaemcobeaaGreatDoor
