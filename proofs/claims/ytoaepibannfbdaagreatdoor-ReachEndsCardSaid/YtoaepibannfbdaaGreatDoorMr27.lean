/- What the laws lean on, part 27. -/
import Derived.Below
import Derived.BigCall
import Derived.BigQuiet
import Derived.BigRegion
import Derived.Deep.AppendLies
import Derived.Deep.CutBlock
import Derived.Deep.CutRange
import Derived.Deep.DeepCutAuto
import Derived.Deep.DeepHandedRow
import Derived.Deep.LoopGhost
import Derived.Deep.MidRow
import Derived.Deep.QuietTactic
import Derived.Deep.RegionHeld3
import Derived.Deep.RegionLaw
import Derived.Deep.WholeRow
import Derived.Laws.AppendOwn
import Derived.Laws.Concat
import Derived.Laws.CopyOwn
import Derived.Laws.Externs
import Derived.Laws.IdiomStrings
import Derived.Lib.BitFns
import Derived.Lib.Bytealg
import Derived.Lib.Hide
import Derived.Lib.Slices
import Derived.Lib.Small
import Derived.Lib.Strings
import Derived.Lib.Walk
import Derived.LoopN
import Derived.Maps.AppendAt
import Derived.OpenShut
import Derived.OrdersHeld
import Derived.Outline
import Derived.OwnWalk
import Derived.ProofKit
import Derived.Shelf.Bits.Mul64
import Derived.Shelf.Spec.TrailingZeros
import Derived.StillTailTactics
import Derived.WalkKit
import Derived.WalkLawsBesides
import Derived.WalkSpells
import Derived.Test.YtoaepibannfbdaaGreatDoorProg
import Derived.Test.YtoaepibannfbdaaGreatDoorRows
import Derived.Test.YtoaepibannfbdaaGreatDoorMr19
import Derived.Test.YtoaepibannfbdaaGreatDoorMr22
import Derived.Test.YtoaepibannfbdaaGreatDoorMr26
namespace Go.Proofs.YtoaepibannfbdaaGreatDoor
open Go.RowKit Mat
set_option maxRecDepth 100000
set_option linter.unusedVariables false
set_option linter.unusedSimpArgs false
set_option maxHeartbeats 8000000 in
theorem rGcd_any (w : World) (va vb : Value) (a b : Nat) (ha : RefV w va a) (hb : RefV w vb b) (ba : a < D ^ 400000) (bb : b < D ^ 400000) :
    Calls Tryz.prog 98 #[va, vb] w (RetRef w (Nat.gcd a b)) := by
  obtain ⟨E, hE⟩ : ∃ E, E = 400000 := ⟨_, rfl⟩
  rw [← hE] at ba bb
  obtain ⟨sa, n, cx, xs, rfl, ha'⟩ := ha
  obtain ⟨sb, m, cy, ys, rfl, hb'⟩ := hb
  have na : RefV w (.agg #[.slice sa n cx]) a := ⟨sa, n, cx, xs, rfl, ha'⟩
  have nb : RefV w (.agg #[.slice sb m cy]) b := ⟨sb, m, cy, ys, rfl, hb'⟩
  have hgw0 : w.grownBy (((w.alloc (.cells #[.slice sa n cx] 39)).alloc (.cells #[.slice sb m cy] 39)).alloc (.cells #[.slice none 0 0] 39)) none := grown_alloc (grown_alloc (World.grownBy_alloc _ _ _) _) _
  have hb3 := heap_new ((w.alloc (.cells #[.slice sa n cx] 39)).alloc (.cells #[.slice sb m cy] 39)) (.cells #[.slice none 0 0] 39) (w.heap.size + 1 + 1) (by simp)
  have hb2 := heap_kept (World.grownBy_alloc _ (.cells #[.slice none 0 0] 39) none) (heap_new (w.alloc (.cells #[.slice sa n cx] 39)) (.cells #[.slice sb m cy] 39) (w.heap.size + 1) (by simp))
  have hb1 := heap_kept (grown_alloc (World.grownBy_alloc _ (.cells #[.slice sb m cy] 39) none) (.cells #[.slice none 0 0] 39)) (heap_new w (.cells #[.slice sa n cx] 39) w.heap.size rfl)
  have B1 : Boxed _ w.heap.size a := ⟨_, _, _, hb1, na.kept hgw0⟩
  have B2 : Boxed _ (w.heap.size + 1) b := ⟨_, _, _, hb2, nb.kept hgw0⟩
  have HBA := Lib.hid ba
  have HBB := Lib.hid bb
  have HE := Lib.hid hE
  clear ha' hb' na nb hb1 hb2 ba bb hE
  go_enter Tryz.func98, Tryz.ntmps98
  go_wp2_with fail
  generalize (((w.alloc (.cells #[.slice sa n cx] 39)).alloc (.cells #[.slice sb m cy] 39)).alloc (.cells #[.slice none 0 0] 39)) = w0 at *
  go_loopg [5, 6] b (fun gh u5 u6 wr => ∃ (x y : Nat), Hid (y ≤ gh) ∧ Boxed wr w.heap.size x ∧ Boxed wr (w.heap.size + 1) y ∧ Hid (Nat.gcd x y = Nat.gcd a b) ∧ Hid (x < D ^ E ∧ y < D ^ E) ∧ wr.heap[w.heap.size + 1 + 1]? = some (.cells #[.slice none 0 0] 39 (0, 0)) ∧ w.grownBy wr none)
  case atStart => exact ⟨a, b, Nat.le_refl _, B1, B2, rfl, ⟨HBA.out, HBB.out⟩, hb3, hgw0⟩
  case round =>
    clear B1 B2 hb3 hgw0
    obtain ⟨x, y, hgh, hX, hY, hgc, hbd, hr, hG⟩ := hrel
    obtain ⟨sX, kX, cX, hbX, nX⟩ := hX
    obtain ⟨sY, kY, cY, hbY, nY⟩ := hY
    obtain ⟨cX1, fX1⟩ := box_cell hbX
    obtain ⟨cY1, fY1⟩ := box_cell hbY
    obtain ⟨cr, fr⟩ := box_cell hr
    obtain ⟨sY', kY', cY', rs, eY, hyl, hyc, hyr, tys, dys, hyv⟩ := nY
    cases eY
    rcases Nat.eq_zero_or_pos kY with h0 | h0
    · subst h0
      have hy0 : y = 0 := by rw [List.length_eq_zero_iff.1 hyl] at hyv; simpa [val] using hyv.symm
      have hF : Hid (RetRef w (Nat.gcd a b) (.returned (.agg #[.slice sX kX cX])) (wr.setCell ⟨w.heap.size + 1 + 1, 0, none⟩ (.slice sX kX cX))) := by
        rw [← hgc.out, hy0, Nat.gcd_zero_right]
        exact rret hG hr (by decide) (by omega) nX _
      clear nX hyl hyv hgh hgc hbd
      go_wp2_with fail
      exact bodyPost_ret (v := .agg #[.slice sX kX cX]) (by simp [results, Tryz.results98, go_sem, cr]) rfl hF.out
    · have f0 : decide ((0 : Int) < (kY : Int)) = true := decide_eq_true (by omega)
      have hy0 : 0 < y := by
        rw [← hyv]
        refine val_pos D D_pos rs ?_ tys
        intro e
        rw [e] at hyl; simp at hyl; omega
      have nY : RefV wr (.agg #[.slice sY kY cY]) y := ⟨sY, kY, cY, rs, rfl, hyl, hyc, hyr, tys, dys, hyv⟩
      have hxE : x < D ^ 400000 := by rw [← HE.out]; exact hbd.out.1
      have hyE : y < D ^ 400000 := by rw [← HE.out]; exact hbd.out.2
      have HX := Lib.hid hxE
      have HY := Lib.hid hyE
      have H0 := Lib.hid hy0
      clear hxE hyE hy0 hyl hyv hyr tys dys hyc
      go_wp2_with fail
      refine (rDiv_any wr _ _ x y nX nY HX.out HY.out H0.out).mono ?_
      rintro e w5 ⟨v, u, rfl, ⟨s5, k5, c5, z5, rfl, n5⟩, ⟨s6, k6, c6, z6, rfl, n6⟩, g5⟩
      have hG6 : wr.grownBy ((w5.alloc (.cells #[.slice s5 k5 c5] 39)).alloc (.cells #[.slice s6 k6 c6] 39)) none := grown_alloc (grown_alloc g5 _) _
      have hbX6 := heap_kept hG6 hbX
      have hbY6 := heap_kept hG6 hbY
      have hr6 := heap_kept hG6 hr
      have nY6 := nY.kept hG6
      have n66 : RefV ((w5.alloc (.cells #[.slice s5 k5 c5] 39)).alloc (.cells #[.slice s6 k6 c6] 39)) (.agg #[.slice s6 k6 c6]) (x % y) := RefV.kept ⟨s6, k6, c6, z6, rfl, n6⟩ (grown_alloc (World.grownBy_alloc _ _ _) _)
      have hb66 := heap_new (w5.alloc (.cells #[.slice s5 k5 c5] 39)) (.cells #[.slice s6 k6 c6] 39) (w5.heap.size + 1) (by simp)
      have hlo5 : w.heap.size + 1 + 1 < w5.heap.size := by have h1 := (Array.getElem?_eq_some_iff.1 hr).1; have := g5.size; omega
      obtain ⟨cX6, fX6⟩ := box_cell hbX6
      obtain ⟨cY6, fY6⟩ := box_cell hbY6
      obtain ⟨c66, f66⟩ := box_cell hb66
      have hbX7 := heap_set hbX6 (.slice sY kY cY)
      have hbY7 := heap_unset (g := w.heap.size) hbY6 (by omega) (.slice sY kY cY)
      have hb67 := heap_unset (g := w.heap.size) hb66 (by omega) (.slice sY kY cY)
      have hr7 := heap_unset (g := w.heap.size) hr6 (by omega) (.slice sY kY cY)
      have nY7 := nY6.set_other hbX6 (by decide) 0 (.slice sY kY cY)
      have n67 := n66.set_other hbX6 (by decide) 0 (.slice sY kY cY)
      obtain ⟨c67, f67⟩ := box_cell hb67
      obtain ⟨cY7, fY7⟩ := box_cell hbY7
      have hbX8 := heap_unset (g := w.heap.size + 1) hbX7 (by omega) (.slice s6 k6 c6)
      have hbY8 := heap_set hbY7 (.slice s6 k6 c6)
      have hr8 := heap_unset (g := w.heap.size + 1) hr7 (by omega) (.slice s6 k6 c6)
      have nY8 := nY7.set_other hbY7 (by decide) 0 (.slice s6 k6 c6)
      have n68 := n67.set_other hbY7 (by decide) 0 (.slice s6 k6 c6)
      have hG8 := grown_new (grown_new (grown_trans hG hG6) (grown_set (grown_refl _ (some w.heap.size)) 0 (.slice sY kY cY)) (Nat.le_refl _)) (grown_set (grown_refl _ (some (w.heap.size + 1))) 0 (.slice s6 k6 c6)) (by omega)
      have hgn : Hid (Nat.gcd y (x % y) = Nat.gcd a b) := by
        show _ = _
        rw [← hgc.out, Nat.gcd_comm x y, Nat.gcd_rec y x, Nat.gcd_comm]
      have hlt : Hid (x % y < gk) := by
        show _ < _
        exact Nat.lt_of_lt_of_le (Nat.mod_lt _ H0.out) hgh.out
      have hbn : Hid (y < D ^ E ∧ x % y < D ^ E) := ⟨hbd.out.2, Nat.lt_of_le_of_lt (Nat.mod_le _ _) hbd.out.1⟩
      clear g5 n5 n6 hG6 nY6 n66 nY7 n67 hbX7 hr6 hr7 nX nY hgc hbd hgh hG
      go_wp2_with fail
      go_roundg (x % y)
      case measure => exact hlt.out
      case rel => exact ⟨y, x % y, Nat.le_refl _, ⟨sY, kY, cY, hbX8, nY8⟩, ⟨s6, k6, c6, hbY8, n68⟩, hgn, hbn, hr8, hG8⟩
end Go.Proofs.YtoaepibannfbdaaGreatDoor
namespace Go.Proofs.YtoaepibannfbdaaGreatDoor
open Go.RowKit Mat Ex
set_option linter.unusedVariables false
set_option linter.unusedSimpArgs false
set_option maxRecDepth 100000
theorem dp4 {a E : Nat} (h : a < D ^ E) (hE : E ≤ 400000) : a < D ^ 400000 := by
  obtain ⟨M, hM⟩ : ∃ M, M = 400000 := ⟨_, rfl⟩
  rw [← hM] at hE ⊢
  exact dpw h hE
def sRN (n : Nat) : Sp := .of (.agg 1) (fun v W => RefV W v n) (fun v W h => by
  obtain ⟨s, k, cap, xs, rfl, _⟩ := h
  exact ⟨cellf [.slice s k cap], cellf_one (by simp [Value.oneCell']), rfl⟩) (fun v W W' k h => h.keeps k)
def sRNN (n m : Nat) : Sp := .of (.tup [(none, 2), (none, 2)]) (fun v W => ∃ u t, v = .tuple #[u, t] ∧ RefV W u n ∧ RefV W t m) (fun v W h => by
  obtain ⟨u, t, rfl, ⟨s, k, c, _, rfl, _⟩, s', k', c', _, rfl, _⟩ := h
  exact fits2 (u := .bool true) (cs := [.slice s k c, .slice s' k' c']) (by simp [Value.oneCell']) rfl) (fun v W W' k h => by obtain ⟨u, t, e, h, h'⟩ := h; exact ⟨u, t, e, h.keeps k, h'.keeps k⟩)
theorem rnn1 {n m : Nat} {a b : Value} {W : World} : (sRNN n m).F (.tuple #[a, b]) W → RefV W a n := by rintro ⟨u, t, e, h, _⟩; cases e; exact h
theorem rs2 {W : World} {a b : Value} {z : Int} : RIntV W (.agg #[a, b]) z → RefV W (.agg #[b]) z.natAbs := by
  rintro ⟨g, s, l, c, e, h1, h2⟩; cases e; exact h2
section
variable {P : Program} {f : FuncId} {args : Array Value} {W : World}
theorem toRNN {n m : Nat} (h : Calls P f args W (fun e w' => ∃ v u, e = .returned (.tuple #[v, u]) ∧ RefV w' v n ∧ RefV w' u m ∧ W.grownBy w' none)) : Calls P f args W (Ret W (sRNN n m).F) :=
  h.mono fun _ _ ⟨v, u, a, h, h', g⟩ => ⟨_, a, ⟨v, u, rfl, h, h'⟩, g⟩
end
theorem natAbs_ediv_dvd {x : Int} {G : Nat} (h : G ∣ x.natAbs) (hG : 0 < G) : (x / (G : Int)).natAbs = x.natAbs / G := by
  obtain ⟨k, hk⟩ := Int.ofNat_dvd_left.2 h
  rw [hk, Int.mul_ediv_cancel_left _ (by omega), Int.natAbs_mul, Int.natAbs_natCast, Nat.mul_div_cancel_left _ hG]
theorem rq_low {n d : Int} {r : Rat} (hd : 0 < d) (h : Rat.divInt n d = r) : r.num.natAbs = n.natAbs / Nat.gcd n.natAbs d.natAbs ∧ ((r.den : Nat) : Int).natAbs = d.natAbs / Nat.gcd n.natAbs d.natAbs ∧ r.num.sign = n.sign ∧ 0 < Nat.gcd n.natAbs d.natAbs := by
  have hp : 0 < Nat.gcd n.natAbs d.natAbs := Nat.gcd_pos_of_pos_right _ (by omega)
  have h1 := fmake_pos n d hd
  rw [h] at h1
  refine ⟨?_, ?_, (rq_sign hd h).symm, hp⟩
  · rw [h1.1]; exact natAbs_ediv_dvd (Nat.gcd_dvd_left _ _) hp
  · rw [h1.2]; exact natAbs_ediv_dvd (Nat.gcd_dvd_right _ _) hp
theorem rq_nle {n d : Int} {r : Rat} {E : Nat} (hd : 0 < d) (h : Rat.divInt n d = r) (hn : n.natAbs < D ^ E) : r.num.natAbs < D ^ E := by
  rw [(rq_low hd h).1]; exact Nat.lt_of_le_of_lt (Nat.div_le_self _ _) hn
theorem rq_dle {n d : Int} {r : Rat} {E : Nat} (hd : 0 < d) (h : Rat.divInt n d = r) (hn : d.natAbs < D ^ E) : ((r.den : Nat) : Int).natAbs < D ^ E := by
  rw [(rq_low hd h).2.1]; exact Nat.lt_of_le_of_lt (Nat.div_le_self _ _) hn
theorem ztext_lenD {s : ByteArray} {z : Int} {E : Nat} (h : ZTextOf s z) (hz : z.natAbs < D ^ E) (hE : 1 ≤ E) : s.size ≤ 4 * E + 1 := by
  obtain ⟨l, hl, vl, el⟩ := h
  have h1 := dlen hl vl hz hE
  have h2 := congrArg List.length el
  rw [bts_len] at h2
  rw [h2]
  split
  · rw [List.length_cons]; omega
  · omega
theorem rFLow_any (w : World) (va : Value) (n d : Int) (r : Rat) (Ha : RF w va n d) (E : Nat) (hE : E ≤ 200000) (h0 : 0 < d) (hr : Rat.divInt n d = r) (l1 : n.natAbs < D ^ E) (l2 : d.natAbs < D ^ E) :
    Calls Tryz.prog 53 #[va] w (fun e w' => ∃ v u, e = .returned (.tuple #[v, u]) ∧ RIntV w' v r.num ∧ RIntV w' u (r.den : Int) ∧ w.grownBy w' none) := by
  have hl := rq_low h0 hr
  obtain ⟨G, hG⟩ : ∃ G, Nat.gcd n.natAbs d.natAbs = G := ⟨_, rfl⟩
  rw [hG] at hl
  have gb : G < D ^ E := by rw [← hG]; exact Nat.lt_of_le_of_lt (Nat.gcd_le_right _ (by omega)) l2
  have hs : n.natAbs / G = 0 ∨ r.num.sign = n.sign := .inr hl.2.2.1
  refine exec_calls mixed Tryz.func53 [sRF n d] [sRN G, sRNN (n.natAbs / G) (n.natAbs % G), sRNN (d.natAbs / G) (d.natAbs % G), sR r.num, sR (r.den : Int)] (.cons Ha .nil) (rs := [cl 1 98 [.v true [.an 0 1], .v true [.an 0 3]], cl 2 99 [.v true [.an 0 1], ag 1 1], cl 3 99 [.v true [.an 0 3], ag 1 1], cl 4 88 [on 0, ag 1 2], cl 5 88 [.v false [.lit (.int .i64 1)], ag 1 3]]) (out := .tup [(true, [.an 4 0, .an 4 1]), (true, [.an 5 0, .an 5 1])]) (nc := 6) (by kernel_rfl)
      ⟨fun σ W g h hb => hG ▸ rGcd_any W _ _ n.natAbs d.natAbs (rs2 (rn (h 0 rfl))) (rs2 (rd (h 0 rfl))) (dp4 l1 (by omega)) (dp4 l2 (by omega)),
      fun σ W g h hb => toRNN (rDiv_any W _ _ _ _ (rs2 (rn (h 0 rfl))) (h 1 rfl) (dp4 l1 (by omega)) (dp4 gb (by omega)) hl.2.2.2),
      fun σ W g h hb => toRNN (rDiv_any W _ _ _ _ (rs2 (rd (h 0 rfl))) (h 1 rfl) (dp4 l2 (by omega)) (dp4 gb (by omega)) hl.2.2.2),
      fun σ W g h hb => argl (congrArg (fun x => [x, _]) (rs1 (rn (h 0 rfl)))) (rMade_any W _ n.sign _ r.num (rnn1 (h 2 rfl)) hl.1 hs),
      fun σ W g h hb => rMade_any W _ 1 _ (r.den : Int) (rnn1 (h 3 rfl)) hl.2.1 (.inr (Int.sign_eq_one_of_pos (by have := r.den_pos; omega))),
      trivial⟩ fun τ W g h => ⟨_, _, rfl, h 4 rfl, h 5 rfl, g⟩
theorem rden_ne {r : Rat} (h : r.den ≠ 1) : zcmp (r.den : Int) 1 ≠ 0 := zcmp_ne (by omega)
theorem rFText_any (w : World) (va : Value) (n d : Int) (r : Rat) (Ha : RF w va n d) (E : Nat) (hE : 1 ≤ E ∧ E ≤ 200000) (h0 : 0 < d) (hr : Rat.divInt n d = r) (l1 : n.natAbs < D ^ E) (l2 : d.natAbs < D ^ E) :
    Calls Tryz.prog 14 #[va] w (RetRText w r) := by
  have b1 := rq_nle h0 hr l1
  have b2 := rq_dle h0 hr l2
  by_cases h1 : r.den = 1
  · skip
    refine exec_calls mixed Tryz.func14 [sRF n d] [sRR r.num (r.den : Int), sT (fun s => ZTextOf s r.num), sR 1, sV (.int .i64 0)] (.cons Ha .nil) (rs := [cl 1 53 [ag 4 0], cl 2 54 [ag 2 1], cl 3 41 [.v false [.lit (.int .i64 1)]], cl 4 55 [.v true [.an 1 2, .an 1 3], ag 2 3]]) (out := on 2) (nc := 5) (by kernel_rfl)
        ⟨fun σ W g h hb => toRR (rFLow_any W _ n d r (h 0 rfl) E (by omega) h0 hr l1 l2),
        fun σ W g h hb => toT (rZText_any W _ _ (rr1 (h 1 rfl)) (dp6 b1 (by omega))),
        fun σ W g h hb => rZOf_any W 1 (by omega) (by omega),
        fun σ W g h hb => toV (rZCmp_any W _ _ _ _ (rr2 (h 1 rfl)) (h 3 rfl) (dp6 b2 (by omega)) (dp6 d51 (by omega))) (by rw [zcmp_same (by omega)]),
        trivial⟩ fun τ W g h => by
          obtain ⟨s, e, hs⟩ := h 2 rfl
          exact ⟨s, congrArg Ending.returned e, .inl ⟨h1, hs⟩, g⟩
  · skip
    refine exec_calls mixed Tryz.func14 [sRF n d] [sRR r.num (r.den : Int), sT (fun s => ZTextOf s r.num), sR 1, sZ (zcmp (r.den : Int) 1), sV (.bool true), sT (fun s => ∃ p, ZTextOf p r.num ∧ s = p ++ { data := #[47] }), sT (fun s => ZTextOf s (r.den : Int)), sT (fun s => RTextOf s r)] (.cons Ha .nil) (rs := [cl 1 53 [ag 4 0], cl 2 54 [ag 2 1], cl 3 41 [.v false [.lit (.int .i64 1)]], cl 4 55 [.v true [.an 1 2, .an 1 3], ag 2 3], co 5 (.binOp .neq 3 (.tmp 15) (.const (.int .i64 0)) 3) 4 [on 4, .v false [.lit (.int .i64 0)]] [0, 1, 2, 3, 4] [], co 6 (.binOp .add 9 (.tmp 17) (.const (.string ({ data := #[47] }))) 9) 9 [on 2, .v false [.lit (.string ({ data := #[47] }))]] [0, 1, 2, 3, 4, 5] [], cla 7 54 [.v true [.an 1 2, .an 1 3]] [0, 1, 2, 3, 4, 5], co 8 (.binOp .add 9 (.tmp 18) (.tmp 20) 9) 9 [on 6, on 7] [0, 1, 2, 3, 4, 5, 6, 7] []]) (out := on 8) (nc := 9) (by kernel_rfl)
        ⟨fun σ W g h hb => toRR (rFLow_any W _ n d r (h 0 rfl) E (by omega) h0 hr l1 l2),
        fun σ W g h hb => toT (rZText_any W _ _ (rr1 (h 1 rfl)) (dp6 b1 (by omega))),
        fun σ W g h hb => rZOf_any W 1 (by omega) (by omega),
        fun σ W g h hb => toZ (rZCmp_any W _ _ _ _ (rr2 (h 1 rfl)) (h 3 rfl) (dp6 b2 (by omega)) (dp6 d51 (by omega))) rfl,
        fun σ W g h hb => fun ρ o ho _ hv => ⟨_, bin_told ho ((two_vals hv).1.trans (h 4 rfl)) (two_vals hv).2 rfl, congrArg Value.bool (bne_iff_ne.2 (rden_ne h1))⟩,
        fun σ W g h hb => fun ρ o ho _ hv => by
          obtain ⟨s, e, hs⟩ := h 2 rfl
          exact ⟨_, add_told ho ((two_vals hv).1.trans e) (two_vals hv).2 (by have := ztext_lenD hs b1 hE.1; show s.size + 1 ≤ _; omega), _, rfl, s, hs, rfl⟩,
        fun σ W g h hb => toT (rZText_any W _ _ (rr2 (h 1 rfl)) (dp6 b2 (by omega))),
        fun σ W g h hb => fun ρ o ho _ hv => by
          obtain ⟨s, e, p, hp, rfl⟩ := h 6 rfl
          obtain ⟨t, e2, ht⟩ := h 7 rfl
          exact ⟨_, add_told ho ((two_vals hv).1.trans e) ((two_vals hv).2.trans e2) (by have h3 := ztext_lenD hp b1 hE.1; have h4 := ztext_lenD ht b2 hE.1; simp only [ByteArray.size_append]; have : ({ data := #[47] } : ByteArray).size = 1 := rfl; omega), _, rfl, .inr ⟨h1, p, t, hp, ht, rfl⟩⟩,
        trivial⟩ fun τ W g h => by
          obtain ⟨s, e, hs⟩ := h 8 rfl
          exact ⟨s, congrArg Ending.returned e, hs, g⟩
end Go.Proofs.YtoaepibannfbdaaGreatDoor
namespace Go.Proofs.YtoaepibannfbdaaGreatDoor
open Go.RowKit Mat Ex PM
set_option linter.unusedVariables false
set_option linter.unusedSimpArgs false
set_option maxRecDepth 100000
theorem rQText_any (w : World) (va : Value) (r : Rat) (E : Nat) (Ha : RQ w va r E) (hE : 1 ≤ E ∧ E ≤ 200000) : Calls Tryz.prog 14 #[va] w (RetRText w r) := by
  obtain ⟨n, d, H, h0, hr, l1, l2⟩ := Ha.rf
  exact rFText_any w va n d r H E hE h0 hr l1 l2
end Go.Proofs.YtoaepibannfbdaaGreatDoor
namespace Go.Proofs.YtoaepibannfbdaaGreatDoor
open Go.RowKit Mat Ex PM
set_option linter.unusedVariables false
set_option linter.unusedSimpArgs false
set_option maxRecDepth 100000
section
variable (w : World) (va vb : Value) (r t : Rat) (E : Nat) (Ha : RQ w va r E) (Hb : RQ w vb t E) (hE : E ≤ 200000)
include Ha
theorem rQNeg_any : Calls Tryz.prog 73 #[va] w (RetRQ w (-r) E) := by
  obtain ⟨n, d, H, h0, hr, l1, l2⟩ := Ha.rf
  exact (rFNeg_any w va n d H).mono fun _ _ ⟨v, e, h, g⟩ => ⟨v, e, h.rq h0 (rq_neg hr) (dneg_bd l1) l2, g⟩
include Hb hE
end
end Go.Proofs.YtoaepibannfbdaaGreatDoor
namespace Go.Proofs.YtoaepibannfbdaaGreatDoor.PM
open Go.RowKit Mat Ex
set_option linter.unusedVariables false
set_option linter.unusedSimpArgs false
theorem neg_row (x y z w : Rat) : - min (min (-x) (-y)) (min (-z) (-w)) = max4 x y z w := by unfold max4; grind
end Go.Proofs.YtoaepibannfbdaaGreatDoor.PM
namespace Go.Proofs.YtoaepibannfbdaaGreatDoor
open Go.RowKit Mat Ex PM
set_option linter.unusedVariables false
set_option linter.unusedSimpArgs false
end Go.Proofs.YtoaepibannfbdaaGreatDoor
namespace Go.Proofs.YtoaepibannfbdaaGreatDoor
open Go.RowKit Mat Ex PM
set_option linter.unusedVariables false
set_option linter.unusedSimpArgs false
set_option maxRecDepth 100000
theorem dMost_any (w : World) (va vb : Value) (a b c d : H3) (E : Nat) (Ha : HsV w va a b) (Hb : HsV w vb c d) (hE : 1 ≤ E ∧ E ≤ 100) (ba : HB E a) (bb : HB E b) (bc : HB E c) (bd : HB E d) (za : 0 < a.z) (zb : 0 < b.z) (zc : 0 < c.z) (zd : 0 < d.z) :
    Calls Tryz.prog 26 #[va, vb] w (RetRQ w (mostP (rp a) (rp b) (rp c) (rp d)) (4 * E + 3)) := by
  rw [show (mostP (rp a) (rp b) (rp c) (rp d)) = -min (min (-(sq (rp a) (rp c))) (-(sq (rp a) (rp d)))) (min (-(sq (rp b) (rp c))) (-(sq (rp b) (rp d)))) from (neg_row _ _ _ _).symm]
  refine exec_calls mixed Tryz.func26 [sHs a b, sHs c d] [sRQ (sq (rp a) (rp c)) (4 * E + 3), sRQ (sq (rp a) (rp d)) (4 * E + 3), sRQ (sq (rp b) (rp c)) (4 * E + 3), sRQ (sq (rp b) (rp d)) (4 * E + 3), sRQ (-(sq (rp a) (rp c))) (4 * E + 3), sRQ (-(sq (rp a) (rp d))) (4 * E + 3), sRQ (min (-(sq (rp a) (rp c))) (-(sq (rp a) (rp d)))) (4 * E + 3), sRQ (-(sq (rp b) (rp c))) (4 * E + 3), sRQ (-(sq (rp b) (rp d))) (4 * E + 3), sRQ (min (-(sq (rp b) (rp c))) (-(sq (rp b) (rp d)))) (4 * E + 3), sRQ (min (min (-(sq (rp a) (rp c))) (-(sq (rp a) (rp d)))) (min (-(sq (rp b) (rp c))) (-(sq (rp b) (rp d))))) (4 * E + 3), sRQ (-min (min (-(sq (rp a) (rp c))) (-(sq (rp a) (rp d)))) (min (-(sq (rp b) (rp c))) (-(sq (rp b) (rp d))))) (4 * E + 3)] (.cons Ha (.cons Hb .nil)) (rs := [cl 2 20 [ag 6 0, ag 6 1], cl 3 20 [ag 6 0, .v true [.an 1 6, .an 1 7, .an 1 8, .an 1 9, .an 1 10, .an 1 11]], cl 4 20 [.v true [.an 0 6, .an 0 7, .an 0 8, .an 0 9, .an 0 10, .an 0 11], ag 6 1], cl 5 20 [.v true [.an 0 6, .an 0 7, .an 0 8, .an 0 9, .an 0 10, .an 0 11], .v true [.an 1 6, .an 1 7, .an 1 8, .an 1 9, .an 1 10, .an 1 11]], cl 6 73 [ag 4 2], cl 7 73 [ag 4 3], cl 8 71 [ag 4 6, ag 4 7], cl 9 73 [ag 4 4], cl 10 73 [ag 4 5], cl 11 71 [ag 4 9, ag 4 10], cl 12 71 [ag 4 8, ag 4 11], cl 13 73 [ag 4 12]]) (out := ag 4 13) (nc := 14) (by kernel_rfl)
      ⟨fun σ W g h hb => dSquare_any W _ _ a c E (hs1 (h 0 rfl)) (hs1 (h 1 rfl)) hE ba bc za zc,
      fun σ W g h hb => dSquare_any W _ _ a d E (hs1 (h 0 rfl)) (hs2 (h 1 rfl)) hE ba bd za zd,
      fun σ W g h hb => dSquare_any W _ _ b c E (hs2 (h 0 rfl)) (hs1 (h 1 rfl)) hE bb bc zb zc,
      fun σ W g h hb => dSquare_any W _ _ b d E (hs2 (h 0 rfl)) (hs2 (h 1 rfl)) hE bb bd zb zd,
      fun σ W g h hb => rQNeg_any W _ _ _ (h 2 rfl),
      fun σ W g h hb => rQNeg_any W _ _ _ (h 3 rfl),
      fun σ W g h hb => dLesser_any W _ _ _ _ _ (h 6 rfl) (h 7 rfl) (by omega),
      fun σ W g h hb => rQNeg_any W _ _ _ (h 4 rfl),
      fun σ W g h hb => rQNeg_any W _ _ _ (h 5 rfl),
      fun σ W g h hb => dLesser_any W _ _ _ _ _ (h 9 rfl) (h 10 rfl) (by omega),
      fun σ W g h hb => dLesser_any W _ _ _ _ _ (h 8 rfl) (h 11 rfl) (by omega),
      fun σ W g h hb => rQNeg_any W _ _ _ (h 12 rfl),
      trivial⟩ fun τ W g h => ⟨_, rfl, h 13 rfl, g⟩
end Go.Proofs.YtoaepibannfbdaaGreatDoor
namespace Go.Proofs.YtoaepibannfbdaaGreatDoor
open Go.RowKit Mat Ex PM
set_option linter.unusedVariables false
set_option linter.unusedSimpArgs false
set_option maxRecDepth 100000
theorem LSame12_any (w : World) (va vb : Value) (r : Rat) (K E : Nat) (Ha : RatV w va r) (Hb : RQ w vb r E) (hK : K ≤ 100000) (ba : Bn K r) (hE : 1 ≤ E ∧ E ≤ 200000) :
    Calls Tryz.prog 18 #[va, vb] w (fun e w' => e = .returned (.bool true) ∧ w.grownBy w' none) := by
  refine exec_calls mixed Tryz.func18 [sQ r, sRQ r E] [sT (fun s => RTextOf s r), sT (fun s => RTextOf s r), sV (.bool true)] (.cons Ha (.cons Hb .nil)) (rs := [cl 2 13 [ag 4 0], cl 3 14 [ag 4 1], co 4 (.binOp .eql 9 (.tmp 6) (.tmp 8) 9) 4 [on 2, on 3] [0, 1, 2, 3] []]) (out := .v false [.lit (.bool true)]) (nc := 5) (by kernel_rfl)
      ⟨fun σ W g h hb => toT (FText_any W _ r K (h 0 rfl) (by omega) ba.1 ba.2),
      fun σ W g h hb => toT (rQText_any W _ r E (h 1 rfl) hE),
      fun σ W g h hb => fun ρ o ho _ hv => by
        obtain ⟨s, e, hs⟩ := h 2 rfl
        obtain ⟨t, e2, ht⟩ := h 3 rfl
        exact ⟨_, seq_told ho ((two_vals hv).1.trans e) ((two_vals hv).2.trans e2) (rtext_uniq hs ht), rfl⟩,
      trivial⟩ fun τ W g h => ⟨rfl, g⟩
end Go.Proofs.YtoaepibannfbdaaGreatDoor
