/- What the laws lean on, part 9. -/
import Derived.BigQuiet
import Derived.BigRegion
import Derived.Deep.AppendLies
import Derived.Deep.CutBlock
import Derived.Deep.CutRange
import Derived.Deep.DeepCutAuto
import Derived.Deep.LoopGhost
import Derived.Deep.QuietTactic
import Derived.Deep.RegionHeld3
import Derived.Laws.CopyOwn
import Derived.Laws.Externs
import Derived.Laws.IdiomStrings
import Derived.Lib.BitFns
import Derived.Lib.Hide
import Derived.Lib.Slices
import Derived.Lib.Small
import Derived.Lib.Strings
import Derived.Lib.Walk
import Derived.Outline
import Derived.OwnWalk
import Derived.Shelf.Bits.Mul64
import Derived.StillTailTactics
import Derived.WalkKit
import Derived.WalkLawsBesides
import Derived.WalkSpells
import Derived.Test.YtoaepibannfbdaaGreatDoorProg
import Derived.Test.YtoaepibannfbdaaGreatDoorMr8
namespace Go.Proofs.YtoaepibannfbdaaGreatDoor
open Go.RowKit Mat
set_option maxRecDepth 100000
set_option linter.unusedVariables false
set_option linter.unusedSimpArgs false
theorem intv_pos {w : World} {s : Option Addr} {xs : List Nat} {r : Nat} {z : Int} (h : Lm w s xs) (hv : val B xs = r) (e : (r : Int) = z) : IntV w (.agg #[.slice s xs.length xs.length, .bool false]) z :=
  ⟨s, xs, false, rfl, h, by omega, by constructor <;> intro h <;> first | cases h | omega⟩
theorem Of_one (w : World) : Calls Tryz.prog 77 #[.int .u64 1] w (RetNat w 1) := Of_any w 1 (by decide)
set_option maxHeartbeats 8000000 in
theorem ZFloor_some (w : World) (va vb : Value) (x y : Int) (K : Nat) (ha : IntV w va x) (hb : IntV w vb y) (hK : K ≤ 900000) (la : x.natAbs < B ^ K) (lb : y.natAbs < B ^ K) (h0 : y ≠ 0) :
    Calls Tryz.prog 148 #[va, vb] w (RetInt2E w (x / y) (x % y) 0) := by
  obtain ⟨sa, xs, za, rfl, hx, hv, hza⟩ := ha
  obtain ⟨sb, ys, zb, rfl, hy, hvy, hzb⟩ := hb
  have hgw0 : w.grownBy ((((w.alloc (.cells #[.slice sa xs.length xs.length, .bool za] 29)).alloc (.cells #[.slice sb ys.length ys.length, .bool zb] 29)).alloc (.cells #[.slice none 0 0, .bool false] 29)).alloc (.cells #[.slice none 0 0, .bool false] 29)) none := grown_alloc (grown_alloc (grown_alloc (World.grownBy_alloc _ _ _) _) _) _
  have na : NatV ((((w.alloc (.cells #[.slice sa xs.length xs.length, .bool za] 29)).alloc (.cells #[.slice sb ys.length ys.length, .bool zb] 29)).alloc (.cells #[.slice none 0 0, .bool false] 29)).alloc (.cells #[.slice none 0 0, .bool false] 29)) (.agg #[.slice sa xs.length xs.length]) x.natAbs := ⟨sa, xs, rfl, hx.kept hgw0, hv⟩
  have nn : NatV ((((w.alloc (.cells #[.slice sa xs.length xs.length, .bool za] 29)).alloc (.cells #[.slice sb ys.length ys.length, .bool zb] 29)).alloc (.cells #[.slice none 0 0, .bool false] 29)).alloc (.cells #[.slice none 0 0, .bool false] 29)) (.agg #[.slice sb ys.length ys.length]) y.natAbs := ⟨sb, ys, rfl, hy.kept hgw0, hvy⟩
  have ia : IntV ((((w.alloc (.cells #[.slice sa xs.length xs.length, .bool za] 29)).alloc (.cells #[.slice sb ys.length ys.length, .bool zb] 29)).alloc (.cells #[.slice none 0 0, .bool false] 29)).alloc (.cells #[.slice none 0 0, .bool false] 29)) (.agg #[.slice sa xs.length xs.length, .bool za]) x := ⟨sa, xs, za, rfl, hx.kept hgw0, hv, hza⟩
  have hR2 := heap_new (((w.alloc (.cells #[.slice sa xs.length xs.length, .bool za] 29)).alloc (.cells #[.slice sb ys.length ys.length, .bool zb] 29)).alloc (.cells #[.slice none 0 0, .bool false] 29)) (.cells #[.slice none 0 0, .bool false] 29) (w.heap.size + 1 + 1 + 1) (by simp)
  have hR1 := heap_kept (World.grownBy_alloc _ (.cells #[.slice none 0 0, .bool false] 29) none) (heap_new ((w.alloc (.cells #[.slice sa xs.length xs.length, .bool za] 29)).alloc (.cells #[.slice sb ys.length ys.length, .bool zb] 29)) (.cells #[.slice none 0 0, .bool false] 29) (w.heap.size + 1 + 1) (by simp))
  have hbb := heap_kept (grown_alloc (World.grownBy_alloc _ (.cells #[.slice none 0 0, .bool false] 29) none) (.cells #[.slice none 0 0, .bool false] 29)) (heap_new (w.alloc (.cells #[.slice sa xs.length xs.length, .bool za] 29)) (.cells #[.slice sb ys.length ys.length, .bool zb] 29) (w.heap.size + 1) (by simp))
  have hba := heap_kept (grown_alloc (grown_alloc (World.grownBy_alloc _ (.cells #[.slice sb ys.length ys.length, .bool zb] 29) none) (.cells #[.slice none 0 0, .bool false] 29)) (.cells #[.slice none 0 0, .bool false] 29)) (heap_new w (.cells #[.slice sa xs.length xs.length, .bool za] 29) w.heap.size rfl)
  have hs4 : ((((w.alloc (.cells #[.slice sa xs.length xs.length, .bool za] 29)).alloc (.cells #[.slice sb ys.length ys.length, .bool zb] 29)).alloc (.cells #[.slice none 0 0, .bool false] 29)).alloc (.cells #[.slice none 0 0, .bool false] 29)).heap.size = w.heap.size + 4 := by simp
  have Hla := Lib.hid la
  have Hlb := Lib.hid lb
  obtain ⟨X, hX⟩ : ∃ X, x / y = X := ⟨_, rfl⟩
  obtain ⟨Y, hY⟩ : ∃ Y, x % y = Y := ⟨_, rfl⟩
  rw [hX, hY]
  have hC : 0 < y.natAbs := by omega
  have hdm := Nat.div_add_mod x.natAbs y.natAbs
  have hml := Nat.mod_lt x.natAbs hC
  have hlq := Nat.lt_of_le_of_lt (Nat.div_le_self x.natAbs y.natAbs) la
  have hlr := Nat.lt_of_le_of_lt (Nat.mod_le x.natAbs y.natAbs) la
  obtain ⟨q, hq⟩ : ∃ q, x.natAbs / y.natAbs = q := ⟨_, rfl⟩
  obtain ⟨r, hr⟩ : ∃ r, x.natAbs % y.natAbs = r := ⟨_, rfl⟩
  rw [hq] at hdm hlq
  rw [hr] at hdm hml hlr
  obtain ⟨s0, h1⟩ : ∃ s, x.sign = s := ⟨_, rfl⟩
  have H1 := Lib.hid h1
  have hs := zsign x
  rw [h1] at hs
  have HQ := Lib.hid hq
  have HR := Lib.hid hr
  have HLQ := Lib.hid hlq
  have HLR := Lib.hid hlr
  have HC := Lib.hid hC
  have FF : Hid (∀ k t, t < y.natAbs → (¬ x < 0 ∧ y.natAbs * k + t = x.natAbs) ∨ (x < 0 ∧ y.natAbs * k = x.natAbs + t) → (if (za != zb) = true then -(k : Int) else k) = X ∧ (t : Int) = Y) := fun k t ht h => by rw [← hX, ← hY]; exact floor_far hza hzb k t ht h
  have hc : (za = false ∧ decide (s0 < 0) = false ∧ Hid ((if (za != zb) = true then -(q : Int) else q) = X ∧ (r : Int) = Y)) ∨ (za = true ∧ decide (s0 < 0) = true ∧ Hid (r = 0) ∧ Hid ((if (za != zb) = true then -(q : Int) else q) = X ∧ (r : Int) = Y)) ∨ (za = true ∧ decide (s0 < 0) = true ∧ Hid (0 < r) ∧ Hid ((if (za != zb) = true then -((q + 1 : Nat) : Int) else ((q + 1 : Nat) : Int)) = X ∧ ((y.natAbs - r : Nat) : Int) = Y)) := by
    by_cases q1 : x < 0
    · right
      have e1 := hza.2 q1
      have e2 : decide (s0 < 0) = true := decide_eq_true (by rcases hs with ⟨h, e⟩ | ⟨h, e⟩ | ⟨h, e⟩ <;> omega)
      rcases Nat.eq_zero_or_pos r with h | h
      · left; exact ⟨e1, e2, h, FF.out q r hml (Or.inr ⟨q1, by omega⟩)⟩
      · right; refine ⟨e1, e2, h, FF.out (q + 1) (y.natAbs - r) (by omega) (Or.inr ⟨q1, ?_⟩)⟩
        rw [Nat.mul_succ]; omega
    · left
      refine ⟨?_, decide_eq_false (by rcases hs with ⟨h, e⟩ | ⟨h, e⟩ | ⟨h, e⟩ <;> omega), FF.out q r hml (Or.inl ⟨q1, by omega⟩)⟩
      cases za
      · rfl
      · exact absurd (hza.1 rfl) q1
  have HML := Lib.hid hml
  clear hx hv hy hvy la lb hza hzb hX hY hC hdm hml hlq hlr hq hr h1 hs FF h0
  obtain ⟨C, hCC⟩ : ∃ C, y.natAbs = C := ⟨_, rfl⟩
  obtain ⟨M, hMM⟩ : ∃ M, x.natAbs = M := ⟨_, rfl⟩
  rw [hCC] at HQ HR HC HML Hlb hc nn
  rw [hMM] at HQ HR Hla na
  have HMM := Lib.hid hMM
  clear hCC hMM
  rcases hc with ⟨rfl, f1, hz⟩ | ⟨rfl, f1, hr0, hz⟩ | ⟨rfl, f1, hr0, hz⟩
  · cases zb
    · have HSG : Hid (∀ W v, NatV W v q → Calls Tryz.prog 119 #[v, .bool false] W (RetInt W X)) := fun W v hn => by
        have t := signed_any W v _ K false hn (by omega) HLQ.out
        rw [show (if false = true then -(q : Int) else (q : Int)) = X from hz.out.1] at t
        exact t
      go_enter Tryz.func148, Tryz.ntmps148
      obtain ⟨ca0, ca1, fa0, fa1⟩ := box_cells hba
      obtain ⟨cb0, cb1, fb0, fb1⟩ := box_cells hbb
      go_wp2_with fail
      refine (Div_some _ _ _ M C K na nn (by omega) Hla.out Hlb.out HC.out).mono ?_
      rw [HQ.out, HR.out]
      rintro e w1 ⟨v1, v2, rfl, ⟨s1, x1, rfl, h1, vv1⟩, ⟨s2, x2, rfl, h2, vv2⟩, g1⟩
      have hsz : w.heap.size + 1 + 1 + 1 < w1.heap.size := by have := g1.4; rw [hs4] at this; omega
      have g0 := grown_alloc (World.grownBy_alloc w1 (.cells #[.slice s1 x1.length x1.length] 27) none) (.cells #[.slice s2 x2.length x2.length] 27)
      have gA := grown_trans g1 g0
      have hq := heap_kept (World.grownBy_alloc _ (.cells #[.slice s2 x2.length x2.length] 27) none) (heap_new w1 (.cells #[.slice s1 x1.length x1.length] 27) w1.heap.size rfl)
      have hr := heap_new (w1.alloc (.cells #[.slice s1 x1.length x1.length] 27)) (.cells #[.slice s2 x2.length x2.length] 27) (w1.heap.size + 1) (by simp)
      have L1 := h1.kept g0
      have L2 := h2.kept g0
      have V1 := Lib.hid vv1
      have V2 := Lib.hid vv2
      replace hba := heap_kept gA hba
      replace hbb := heap_kept gA hbb
      replace hR1 := heap_kept gA hR1
      replace hR2 := heap_kept gA hR2
      replace ia := ia.kept gA
      replace nn := nn.kept gA
      replace hgw0 := grown_trans hgw0 gA
      clear ca0 ca1 fa0 fa1 cb0 cb1 fb0 fb1 na h1 h2 vv1 vv2 g1 g0 gA hs4
      obtain ⟨ca0, ca1, fa0, fa1⟩ := box_cells hba
      go_wp2_with fail
      generalize ((w1.alloc (.cells #[.slice s1 x1.length x1.length] 27)).alloc (.cells #[.slice s2 x2.length x2.length] 27)) = w2 at *
      generalize w1.heap.size = G at *
      clear ca0 ca1 fa0 fa1 w1
      refine (Sign_any w2 _ x K ia (by omega) (by rw [HMM.out]; exact Hla.out)).mono ?_
      rintro e w3 ⟨rfl, g3⟩
      rw [H1.out]
      replace hba := heap_kept g3 hba
      replace hbb := heap_kept g3 hbb
      replace hR1 := heap_kept g3 hR1
      replace hR2 := heap_kept g3 hR2
      replace hq := heap_kept g3 hq
      replace hr := heap_kept g3 hr
      replace L1 := L1.kept g3
      replace L2 := L2.kept g3
      replace ia := ia.kept g3
      replace nn := nn.kept g3
      replace hgw0 := grown_trans hgw0 g3
      clear g3
      obtain ⟨cr, fr⟩ := box_cell hr
      go_wp2_with fail
      obtain ⟨ca0, ca1, fa0, fa1⟩ := box_cells hba
      obtain ⟨cb0, cb1, fb0, fb1⟩ := box_cells hbb
      obtain ⟨cq, fq⟩ := box_cell hq
      try clear cr fr
      obtain ⟨cr, fr⟩ := box_cell hr
      have nq : NatV w3 (.agg #[.slice s1 x1.length x1.length]) _ := ⟨_, _, rfl, L1, V1.out⟩
      go_region_held3 (fun w' => w'.cell? ⟨w.heap.size, 1, none⟩ = some (.bool false) ∧ w'.cell? ⟨w.heap.size + 1, 1, none⟩ = some (.bool false) ∧ w'.cell? ⟨G, 0, none⟩ = some (.slice s1 x1.length x1.length) ∧ w'.cell? ⟨G + 1, 0, none⟩ = some (.slice s2 x2.length x2.length))
        (first | assumption | exact ⟨ca1, cb1, cq, cr⟩ | exact HS3 | exact HS4 | go_keep)
        (first
          | (go_at_call 119; (with_reducible refine (HSG.out w3.drew _ (nq.kept (grown_drew (grown_refl _ _)))).mono ?_); rintro e w9 ⟨v9, rfl, ⟨s9, x9, fl9, rfl, h9, vv9, hb9⟩, g9⟩; have hG := grown_pre w3 g9 rfl rfl rfl rfl; have hS2 := And.intro (hG.cell ca1 (by simp)) (And.intro (hG.cell cb1 (by simp)) (And.intro (hG.cell cq (by simp)) (hG.cell cr (by simp)))); have hR19 := heap_kept hG hR1; have hR29 := heap_kept hG hR2; (obtain ⟨d0, d1, k0, k1⟩ := box_cells hR19); have qa := heap_unset2 (heap_kept hG hba) (show w.heap.size ≠ w.heap.size + 1 + 1 by omega) (.slice s9 x9.length x9.length) (.bool fl9); have qb := heap_unset2 (heap_kept hG hbb) (show w.heap.size + 1 ≠ w.heap.size + 1 + 1 by omega) (.slice s9 x9.length x9.length) (.bool fl9); have qq := heap_unset2 (heap_kept hG hq) (show G ≠ w.heap.size + 1 + 1 by omega) (.slice s9 x9.length x9.length) (.bool fl9); have qr := heap_unset2 (heap_kept hG hr) (show G + 1 ≠ w.heap.size + 1 + 1 by omega) (.slice s9 x9.length x9.length) (.bool fl9); have HS3 := And.intro (box_cells qa).2.1 (And.intro (box_cells qb).2.1 (And.intro (box_cell qq).1 (box_cell qr).1)); have qR := heap_unset2 hR29 (show w.heap.size + 1 + 1 + 1 ≠ w.heap.size + 1 + 1 by omega) (.slice s9 x9.length x9.length) (.bool fl9); (obtain ⟨m0, m1, p0, p1⟩ := box_cells qR); have HS4 := And.intro (box_cells (heap_unset2 qa (show w.heap.size ≠ w.heap.size + 1 + 1 + 1 by omega) (.slice s2 x2.length x2.length) (.bool false))).2.1 (And.intro (box_cells (heap_unset2 qb (show w.heap.size + 1 ≠ w.heap.size + 1 + 1 + 1 by omega) (.slice s2 x2.length x2.length) (.bool false))).2.1 (And.intro (box_cell (heap_unset2 qq (show G ≠ w.heap.size + 1 + 1 + 1 by omega) (.slice s2 x2.length x2.length) (.bool false))).1 (box_cell (heap_unset2 qr (show G + 1 ≠ w.heap.size + 1 + 1 + 1 by omega) (.slice s2 x2.length x2.length) (.bool false))).1))))
      have hgw9 := grown_trans hgw0 hG
      have I1 : IntV w9 (.agg #[.slice s9 x9.length x9.length, .bool fl9]) X := ⟨s9, x9, fl9, rfl, h9, vv9, hb9⟩
      have I2 : IntV w9 (.agg #[.slice s2 x2.length x2.length, .bool false]) Y := intv_pos (L2.kept hG) V2.out hz.out.2
      have hF : Hid (RetInt2E w X Y 0 _ _) := ret_int2 hgw9 hR19 hR29 (by omega) I1 I2
      have hQ := cells_int2 hR19 hR29 (.slice s9 x9.length x9.length) (.bool fl9) (.slice s2 x2.length x2.length) (.bool false)
      obtain ⟨o0, o1, o2, o3⟩ := hQ
      clear h9 vv9 hb9 I1 I2 g9 hgw0 hgw9
      go_wp2_with fail
      exact bodyPost_ret (v := .tuple #[.agg #[.slice s9 x9.length x9.length, .bool fl9], .agg #[.slice s2 x2.length x2.length, .bool false], .int .i64 0]) (by simp [results, Tryz.results148, go_sem, o0, o1, o2, o3]) rfl hF.out
    · have HSG : Hid (∀ W v, NatV W v q → Calls Tryz.prog 119 #[v, .bool true] W (RetInt W X)) := fun W v hn => by
        have t := signed_any W v _ K true hn (by omega) HLQ.out
        rw [show (if true = true then -(q : Int) else (q : Int)) = X from hz.out.1] at t
        exact t
      go_enter Tryz.func148, Tryz.ntmps148
      obtain ⟨ca0, ca1, fa0, fa1⟩ := box_cells hba
      obtain ⟨cb0, cb1, fb0, fb1⟩ := box_cells hbb
      go_wp2_with fail
      refine (Div_some _ _ _ M C K na nn (by omega) Hla.out Hlb.out HC.out).mono ?_
      rw [HQ.out, HR.out]
      rintro e w1 ⟨v1, v2, rfl, ⟨s1, x1, rfl, h1, vv1⟩, ⟨s2, x2, rfl, h2, vv2⟩, g1⟩
      have hsz : w.heap.size + 1 + 1 + 1 < w1.heap.size := by have := g1.4; rw [hs4] at this; omega
      have g0 := grown_alloc (World.grownBy_alloc w1 (.cells #[.slice s1 x1.length x1.length] 27) none) (.cells #[.slice s2 x2.length x2.length] 27)
      have gA := grown_trans g1 g0
      have hq := heap_kept (World.grownBy_alloc _ (.cells #[.slice s2 x2.length x2.length] 27) none) (heap_new w1 (.cells #[.slice s1 x1.length x1.length] 27) w1.heap.size rfl)
      have hr := heap_new (w1.alloc (.cells #[.slice s1 x1.length x1.length] 27)) (.cells #[.slice s2 x2.length x2.length] 27) (w1.heap.size + 1) (by simp)
      have L1 := h1.kept g0
      have L2 := h2.kept g0
      have V1 := Lib.hid vv1
      have V2 := Lib.hid vv2
      replace hba := heap_kept gA hba
      replace hbb := heap_kept gA hbb
      replace hR1 := heap_kept gA hR1
      replace hR2 := heap_kept gA hR2
      replace ia := ia.kept gA
      replace nn := nn.kept gA
      replace hgw0 := grown_trans hgw0 gA
      clear ca0 ca1 fa0 fa1 cb0 cb1 fb0 fb1 na h1 h2 vv1 vv2 g1 g0 gA hs4
      obtain ⟨ca0, ca1, fa0, fa1⟩ := box_cells hba
      go_wp2_with fail
      generalize ((w1.alloc (.cells #[.slice s1 x1.length x1.length] 27)).alloc (.cells #[.slice s2 x2.length x2.length] 27)) = w2 at *
      generalize w1.heap.size = G at *
      clear ca0 ca1 fa0 fa1 w1
      refine (Sign_any w2 _ x K ia (by omega) (by rw [HMM.out]; exact Hla.out)).mono ?_
      rintro e w3 ⟨rfl, g3⟩
      rw [H1.out]
      replace hba := heap_kept g3 hba
      replace hbb := heap_kept g3 hbb
      replace hR1 := heap_kept g3 hR1
      replace hR2 := heap_kept g3 hR2
      replace hq := heap_kept g3 hq
      replace hr := heap_kept g3 hr
      replace L1 := L1.kept g3
      replace L2 := L2.kept g3
      replace ia := ia.kept g3
      replace nn := nn.kept g3
      replace hgw0 := grown_trans hgw0 g3
      clear g3
      obtain ⟨cr, fr⟩ := box_cell hr
      go_wp2_with fail
      obtain ⟨ca0, ca1, fa0, fa1⟩ := box_cells hba
      obtain ⟨cb0, cb1, fb0, fb1⟩ := box_cells hbb
      obtain ⟨cq, fq⟩ := box_cell hq
      try clear cr fr
      obtain ⟨cr, fr⟩ := box_cell hr
      have nq : NatV w3 (.agg #[.slice s1 x1.length x1.length]) _ := ⟨_, _, rfl, L1, V1.out⟩
      go_region_held3 (fun w' => w'.cell? ⟨w.heap.size, 1, none⟩ = some (.bool false) ∧ w'.cell? ⟨w.heap.size + 1, 1, none⟩ = some (.bool true) ∧ w'.cell? ⟨G, 0, none⟩ = some (.slice s1 x1.length x1.length) ∧ w'.cell? ⟨G + 1, 0, none⟩ = some (.slice s2 x2.length x2.length))
        (first | assumption | exact ⟨ca1, cb1, cq, cr⟩ | exact HS3 | exact HS4 | go_keep)
        (first
          | (go_at_call 119; (with_reducible refine (HSG.out w3.drew _ (nq.kept (grown_drew (grown_refl _ _)))).mono ?_); rintro e w9 ⟨v9, rfl, ⟨s9, x9, fl9, rfl, h9, vv9, hb9⟩, g9⟩; have hG := grown_pre w3 g9 rfl rfl rfl rfl; have hS2 := And.intro (hG.cell ca1 (by simp)) (And.intro (hG.cell cb1 (by simp)) (And.intro (hG.cell cq (by simp)) (hG.cell cr (by simp)))); have hR19 := heap_kept hG hR1; have hR29 := heap_kept hG hR2; (obtain ⟨d0, d1, k0, k1⟩ := box_cells hR19); have qa := heap_unset2 (heap_kept hG hba) (show w.heap.size ≠ w.heap.size + 1 + 1 by omega) (.slice s9 x9.length x9.length) (.bool fl9); have qb := heap_unset2 (heap_kept hG hbb) (show w.heap.size + 1 ≠ w.heap.size + 1 + 1 by omega) (.slice s9 x9.length x9.length) (.bool fl9); have qq := heap_unset2 (heap_kept hG hq) (show G ≠ w.heap.size + 1 + 1 by omega) (.slice s9 x9.length x9.length) (.bool fl9); have qr := heap_unset2 (heap_kept hG hr) (show G + 1 ≠ w.heap.size + 1 + 1 by omega) (.slice s9 x9.length x9.length) (.bool fl9); have HS3 := And.intro (box_cells qa).2.1 (And.intro (box_cells qb).2.1 (And.intro (box_cell qq).1 (box_cell qr).1)); have qR := heap_unset2 hR29 (show w.heap.size + 1 + 1 + 1 ≠ w.heap.size + 1 + 1 by omega) (.slice s9 x9.length x9.length) (.bool fl9); (obtain ⟨m0, m1, p0, p1⟩ := box_cells qR); have HS4 := And.intro (box_cells (heap_unset2 qa (show w.heap.size ≠ w.heap.size + 1 + 1 + 1 by omega) (.slice s2 x2.length x2.length) (.bool false))).2.1 (And.intro (box_cells (heap_unset2 qb (show w.heap.size + 1 ≠ w.heap.size + 1 + 1 + 1 by omega) (.slice s2 x2.length x2.length) (.bool false))).2.1 (And.intro (box_cell (heap_unset2 qq (show G ≠ w.heap.size + 1 + 1 + 1 by omega) (.slice s2 x2.length x2.length) (.bool false))).1 (box_cell (heap_unset2 qr (show G + 1 ≠ w.heap.size + 1 + 1 + 1 by omega) (.slice s2 x2.length x2.length) (.bool false))).1))))
      have hgw9 := grown_trans hgw0 hG
      have I1 : IntV w9 (.agg #[.slice s9 x9.length x9.length, .bool fl9]) X := ⟨s9, x9, fl9, rfl, h9, vv9, hb9⟩
      have I2 : IntV w9 (.agg #[.slice s2 x2.length x2.length, .bool false]) Y := intv_pos (L2.kept hG) V2.out hz.out.2
      have hF : Hid (RetInt2E w X Y 0 _ _) := ret_int2 hgw9 hR19 hR29 (by omega) I1 I2
      have hQ := cells_int2 hR19 hR29 (.slice s9 x9.length x9.length) (.bool fl9) (.slice s2 x2.length x2.length) (.bool false)
      obtain ⟨o0, o1, o2, o3⟩ := hQ
      clear h9 vv9 hb9 I1 I2 g9 hgw0 hgw9
      go_wp2_with fail
      exact bodyPost_ret (v := .tuple #[.agg #[.slice s9 x9.length x9.length, .bool fl9], .agg #[.slice s2 x2.length x2.length, .bool false], .int .i64 0]) (by simp [results, Tryz.results148, go_sem, o0, o1, o2, o3]) rfl hF.out
  · cases zb
    · have HSG : Hid (∀ W v, NatV W v q → Calls Tryz.prog 119 #[v, .bool true] W (RetInt W X)) := fun W v hn => by
        have t := signed_any W v _ K true hn (by omega) HLQ.out
        rw [show (if true = true then -(q : Int) else (q : Int)) = X from hz.out.1] at t
        exact t
      go_enter Tryz.func148, Tryz.ntmps148
      obtain ⟨ca0, ca1, fa0, fa1⟩ := box_cells hba
      obtain ⟨cb0, cb1, fb0, fb1⟩ := box_cells hbb
      go_wp2_with fail
      refine (Div_some _ _ _ M C K na nn (by omega) Hla.out Hlb.out HC.out).mono ?_
      rw [HQ.out, HR.out]
      rintro e w1 ⟨v1, v2, rfl, ⟨s1, x1, rfl, h1, vv1⟩, ⟨s2, x2, rfl, h2, vv2⟩, g1⟩
      have hsz : w.heap.size + 1 + 1 + 1 < w1.heap.size := by have := g1.4; rw [hs4] at this; omega
      have g0 := grown_alloc (World.grownBy_alloc w1 (.cells #[.slice s1 x1.length x1.length] 27) none) (.cells #[.slice s2 x2.length x2.length] 27)
      have gA := grown_trans g1 g0
      have hq := heap_kept (World.grownBy_alloc _ (.cells #[.slice s2 x2.length x2.length] 27) none) (heap_new w1 (.cells #[.slice s1 x1.length x1.length] 27) w1.heap.size rfl)
      have hr := heap_new (w1.alloc (.cells #[.slice s1 x1.length x1.length] 27)) (.cells #[.slice s2 x2.length x2.length] 27) (w1.heap.size + 1) (by simp)
      have L1 := h1.kept g0
      have L2 := h2.kept g0
      have V1 := Lib.hid vv1
      have V2 := Lib.hid vv2
      replace hba := heap_kept gA hba
      replace hbb := heap_kept gA hbb
      replace hR1 := heap_kept gA hR1
      replace hR2 := heap_kept gA hR2
      replace ia := ia.kept gA
      replace nn := nn.kept gA
      replace hgw0 := grown_trans hgw0 gA
      clear ca0 ca1 fa0 fa1 cb0 cb1 fb0 fb1 na h1 h2 vv1 vv2 g1 g0 gA hs4
      obtain ⟨ca0, ca1, fa0, fa1⟩ := box_cells hba
      go_wp2_with fail
      generalize ((w1.alloc (.cells #[.slice s1 x1.length x1.length] 27)).alloc (.cells #[.slice s2 x2.length x2.length] 27)) = w2 at *
      generalize w1.heap.size = G at *
      clear ca0 ca1 fa0 fa1 w1
      refine (Sign_any w2 _ x K ia (by omega) (by rw [HMM.out]; exact Hla.out)).mono ?_
      rintro e w3 ⟨rfl, g3⟩
      rw [H1.out]
      replace hba := heap_kept g3 hba
      replace hbb := heap_kept g3 hbb
      replace hR1 := heap_kept g3 hR1
      replace hR2 := heap_kept g3 hR2
      replace hq := heap_kept g3 hq
      replace hr := heap_kept g3 hr
      replace L1 := L1.kept g3
      replace L2 := L2.kept g3
      replace ia := ia.kept g3
      replace nn := nn.kept g3
      replace hgw0 := grown_trans hgw0 g3
      clear g3
      obtain ⟨cr, fr⟩ := box_cell hr
      go_wp2_with fail
      have nr : NatV w3 (.agg #[.slice s2 x2.length x2.length]) r := ⟨_, _, rfl, L2, V2.out⟩
      refine (Bits_any w3 _ r K nr (by omega) HLR.out).mono ?_
      rintro e w4 ⟨rfl, g4⟩
      rw [hr0.out]; rw [show ((nb 0 : Nat) : Int) = 0 from rfl]
      replace hba := heap_kept g4 hba
      replace hbb := heap_kept g4 hbb
      replace hR1 := heap_kept g4 hR1
      replace hR2 := heap_kept g4 hR2
      replace hq := heap_kept g4 hq
      replace hr := heap_kept g4 hr
      replace L1 := L1.kept g4
      replace L2 := L2.kept g4
      replace ia := ia.kept g4
      replace nn := nn.kept g4
      replace hgw0 := grown_trans hgw0 g4
      clear g4 nr cr fr
      go_wp2_with fail
      obtain ⟨ca0, ca1, fa0, fa1⟩ := box_cells hba
      obtain ⟨cb0, cb1, fb0, fb1⟩ := box_cells hbb
      obtain ⟨cq, fq⟩ := box_cell hq
      try clear cr fr
      obtain ⟨cr, fr⟩ := box_cell hr
      have nq : NatV w4 (.agg #[.slice s1 x1.length x1.length]) _ := ⟨_, _, rfl, L1, V1.out⟩
      go_region_held3 (fun w' => w'.cell? ⟨w.heap.size, 1, none⟩ = some (.bool true) ∧ w'.cell? ⟨w.heap.size + 1, 1, none⟩ = some (.bool false) ∧ w'.cell? ⟨G, 0, none⟩ = some (.slice s1 x1.length x1.length) ∧ w'.cell? ⟨G + 1, 0, none⟩ = some (.slice s2 x2.length x2.length))
        (first | assumption | exact ⟨ca1, cb1, cq, cr⟩ | exact HS3 | exact HS4 | go_keep)
        (first
          | (go_at_call 119; (with_reducible refine (HSG.out w4.drew _ (nq.kept (grown_drew (grown_refl _ _)))).mono ?_); rintro e w9 ⟨v9, rfl, ⟨s9, x9, fl9, rfl, h9, vv9, hb9⟩, g9⟩; have hG := grown_pre w4 g9 rfl rfl rfl rfl; have hS2 := And.intro (hG.cell ca1 (by simp)) (And.intro (hG.cell cb1 (by simp)) (And.intro (hG.cell cq (by simp)) (hG.cell cr (by simp)))); have hR19 := heap_kept hG hR1; have hR29 := heap_kept hG hR2; (obtain ⟨d0, d1, k0, k1⟩ := box_cells hR19); have qa := heap_unset2 (heap_kept hG hba) (show w.heap.size ≠ w.heap.size + 1 + 1 by omega) (.slice s9 x9.length x9.length) (.bool fl9); have qb := heap_unset2 (heap_kept hG hbb) (show w.heap.size + 1 ≠ w.heap.size + 1 + 1 by omega) (.slice s9 x9.length x9.length) (.bool fl9); have qq := heap_unset2 (heap_kept hG hq) (show G ≠ w.heap.size + 1 + 1 by omega) (.slice s9 x9.length x9.length) (.bool fl9); have qr := heap_unset2 (heap_kept hG hr) (show G + 1 ≠ w.heap.size + 1 + 1 by omega) (.slice s9 x9.length x9.length) (.bool fl9); have HS3 := And.intro (box_cells qa).2.1 (And.intro (box_cells qb).2.1 (And.intro (box_cell qq).1 (box_cell qr).1)); have qR := heap_unset2 hR29 (show w.heap.size + 1 + 1 + 1 ≠ w.heap.size + 1 + 1 by omega) (.slice s9 x9.length x9.length) (.bool fl9); (obtain ⟨m0, m1, p0, p1⟩ := box_cells qR); have HS4 := And.intro (box_cells (heap_unset2 qa (show w.heap.size ≠ w.heap.size + 1 + 1 + 1 by omega) (.slice s2 x2.length x2.length) (.bool false))).2.1 (And.intro (box_cells (heap_unset2 qb (show w.heap.size + 1 ≠ w.heap.size + 1 + 1 + 1 by omega) (.slice s2 x2.length x2.length) (.bool false))).2.1 (And.intro (box_cell (heap_unset2 qq (show G ≠ w.heap.size + 1 + 1 + 1 by omega) (.slice s2 x2.length x2.length) (.bool false))).1 (box_cell (heap_unset2 qr (show G + 1 ≠ w.heap.size + 1 + 1 + 1 by omega) (.slice s2 x2.length x2.length) (.bool false))).1))))
      have hgw9 := grown_trans hgw0 hG
      have I1 : IntV w9 (.agg #[.slice s9 x9.length x9.length, .bool fl9]) X := ⟨s9, x9, fl9, rfl, h9, vv9, hb9⟩
      have I2 : IntV w9 (.agg #[.slice s2 x2.length x2.length, .bool false]) Y := intv_pos (L2.kept hG) V2.out hz.out.2
      have hF : Hid (RetInt2E w X Y 0 _ _) := ret_int2 hgw9 hR19 hR29 (by omega) I1 I2
      have hQ := cells_int2 hR19 hR29 (.slice s9 x9.length x9.length) (.bool fl9) (.slice s2 x2.length x2.length) (.bool false)
      obtain ⟨o0, o1, o2, o3⟩ := hQ
      clear h9 vv9 hb9 I1 I2 g9 hgw0 hgw9
      go_wp2_with fail
      exact bodyPost_ret (v := .tuple #[.agg #[.slice s9 x9.length x9.length, .bool fl9], .agg #[.slice s2 x2.length x2.length, .bool false], .int .i64 0]) (by simp [results, Tryz.results148, go_sem, o0, o1, o2, o3]) rfl hF.out
    · have HSG : Hid (∀ W v, NatV W v q → Calls Tryz.prog 119 #[v, .bool false] W (RetInt W X)) := fun W v hn => by
        have t := signed_any W v _ K false hn (by omega) HLQ.out
        rw [show (if false = true then -(q : Int) else (q : Int)) = X from hz.out.1] at t
        exact t
      go_enter Tryz.func148, Tryz.ntmps148
      obtain ⟨ca0, ca1, fa0, fa1⟩ := box_cells hba
      obtain ⟨cb0, cb1, fb0, fb1⟩ := box_cells hbb
      go_wp2_with fail
      refine (Div_some _ _ _ M C K na nn (by omega) Hla.out Hlb.out HC.out).mono ?_
      rw [HQ.out, HR.out]
      rintro e w1 ⟨v1, v2, rfl, ⟨s1, x1, rfl, h1, vv1⟩, ⟨s2, x2, rfl, h2, vv2⟩, g1⟩
      have hsz : w.heap.size + 1 + 1 + 1 < w1.heap.size := by have := g1.4; rw [hs4] at this; omega
      have g0 := grown_alloc (World.grownBy_alloc w1 (.cells #[.slice s1 x1.length x1.length] 27) none) (.cells #[.slice s2 x2.length x2.length] 27)
      have gA := grown_trans g1 g0
      have hq := heap_kept (World.grownBy_alloc _ (.cells #[.slice s2 x2.length x2.length] 27) none) (heap_new w1 (.cells #[.slice s1 x1.length x1.length] 27) w1.heap.size rfl)
      have hr := heap_new (w1.alloc (.cells #[.slice s1 x1.length x1.length] 27)) (.cells #[.slice s2 x2.length x2.length] 27) (w1.heap.size + 1) (by simp)
      have L1 := h1.kept g0
      have L2 := h2.kept g0
      have V1 := Lib.hid vv1
      have V2 := Lib.hid vv2
      replace hba := heap_kept gA hba
      replace hbb := heap_kept gA hbb
      replace hR1 := heap_kept gA hR1
      replace hR2 := heap_kept gA hR2
      replace ia := ia.kept gA
      replace nn := nn.kept gA
      replace hgw0 := grown_trans hgw0 gA
      clear ca0 ca1 fa0 fa1 cb0 cb1 fb0 fb1 na h1 h2 vv1 vv2 g1 g0 gA hs4
      obtain ⟨ca0, ca1, fa0, fa1⟩ := box_cells hba
      go_wp2_with fail
      generalize ((w1.alloc (.cells #[.slice s1 x1.length x1.length] 27)).alloc (.cells #[.slice s2 x2.length x2.length] 27)) = w2 at *
      generalize w1.heap.size = G at *
      clear ca0 ca1 fa0 fa1 w1
      refine (Sign_any w2 _ x K ia (by omega) (by rw [HMM.out]; exact Hla.out)).mono ?_
      rintro e w3 ⟨rfl, g3⟩
      rw [H1.out]
      replace hba := heap_kept g3 hba
      replace hbb := heap_kept g3 hbb
      replace hR1 := heap_kept g3 hR1
      replace hR2 := heap_kept g3 hR2
      replace hq := heap_kept g3 hq
      replace hr := heap_kept g3 hr
      replace L1 := L1.kept g3
      replace L2 := L2.kept g3
      replace ia := ia.kept g3
      replace nn := nn.kept g3
      replace hgw0 := grown_trans hgw0 g3
      clear g3
      obtain ⟨cr, fr⟩ := box_cell hr
      go_wp2_with fail
      have nr : NatV w3 (.agg #[.slice s2 x2.length x2.length]) r := ⟨_, _, rfl, L2, V2.out⟩
      refine (Bits_any w3 _ r K nr (by omega) HLR.out).mono ?_
      rintro e w4 ⟨rfl, g4⟩
      rw [hr0.out]; rw [show ((nb 0 : Nat) : Int) = 0 from rfl]
      replace hba := heap_kept g4 hba
      replace hbb := heap_kept g4 hbb
      replace hR1 := heap_kept g4 hR1
      replace hR2 := heap_kept g4 hR2
      replace hq := heap_kept g4 hq
      replace hr := heap_kept g4 hr
      replace L1 := L1.kept g4
      replace L2 := L2.kept g4
      replace ia := ia.kept g4
      replace nn := nn.kept g4
      replace hgw0 := grown_trans hgw0 g4
      clear g4 nr cr fr
      go_wp2_with fail
      obtain ⟨ca0, ca1, fa0, fa1⟩ := box_cells hba
      obtain ⟨cb0, cb1, fb0, fb1⟩ := box_cells hbb
      obtain ⟨cq, fq⟩ := box_cell hq
      try clear cr fr
      obtain ⟨cr, fr⟩ := box_cell hr
      have nq : NatV w4 (.agg #[.slice s1 x1.length x1.length]) _ := ⟨_, _, rfl, L1, V1.out⟩
      go_region_held3 (fun w' => w'.cell? ⟨w.heap.size, 1, none⟩ = some (.bool true) ∧ w'.cell? ⟨w.heap.size + 1, 1, none⟩ = some (.bool true) ∧ w'.cell? ⟨G, 0, none⟩ = some (.slice s1 x1.length x1.length) ∧ w'.cell? ⟨G + 1, 0, none⟩ = some (.slice s2 x2.length x2.length))
        (first | assumption | exact ⟨ca1, cb1, cq, cr⟩ | exact HS3 | exact HS4 | go_keep)
        (first
          | (go_at_call 119; (with_reducible refine (HSG.out w4.drew _ (nq.kept (grown_drew (grown_refl _ _)))).mono ?_); rintro e w9 ⟨v9, rfl, ⟨s9, x9, fl9, rfl, h9, vv9, hb9⟩, g9⟩; have hG := grown_pre w4 g9 rfl rfl rfl rfl; have hS2 := And.intro (hG.cell ca1 (by simp)) (And.intro (hG.cell cb1 (by simp)) (And.intro (hG.cell cq (by simp)) (hG.cell cr (by simp)))); have hR19 := heap_kept hG hR1; have hR29 := heap_kept hG hR2; (obtain ⟨d0, d1, k0, k1⟩ := box_cells hR19); have qa := heap_unset2 (heap_kept hG hba) (show w.heap.size ≠ w.heap.size + 1 + 1 by omega) (.slice s9 x9.length x9.length) (.bool fl9); have qb := heap_unset2 (heap_kept hG hbb) (show w.heap.size + 1 ≠ w.heap.size + 1 + 1 by omega) (.slice s9 x9.length x9.length) (.bool fl9); have qq := heap_unset2 (heap_kept hG hq) (show G ≠ w.heap.size + 1 + 1 by omega) (.slice s9 x9.length x9.length) (.bool fl9); have qr := heap_unset2 (heap_kept hG hr) (show G + 1 ≠ w.heap.size + 1 + 1 by omega) (.slice s9 x9.length x9.length) (.bool fl9); have HS3 := And.intro (box_cells qa).2.1 (And.intro (box_cells qb).2.1 (And.intro (box_cell qq).1 (box_cell qr).1)); have qR := heap_unset2 hR29 (show w.heap.size + 1 + 1 + 1 ≠ w.heap.size + 1 + 1 by omega) (.slice s9 x9.length x9.length) (.bool fl9); (obtain ⟨m0, m1, p0, p1⟩ := box_cells qR); have HS4 := And.intro (box_cells (heap_unset2 qa (show w.heap.size ≠ w.heap.size + 1 + 1 + 1 by omega) (.slice s2 x2.length x2.length) (.bool false))).2.1 (And.intro (box_cells (heap_unset2 qb (show w.heap.size + 1 ≠ w.heap.size + 1 + 1 + 1 by omega) (.slice s2 x2.length x2.length) (.bool false))).2.1 (And.intro (box_cell (heap_unset2 qq (show G ≠ w.heap.size + 1 + 1 + 1 by omega) (.slice s2 x2.length x2.length) (.bool false))).1 (box_cell (heap_unset2 qr (show G + 1 ≠ w.heap.size + 1 + 1 + 1 by omega) (.slice s2 x2.length x2.length) (.bool false))).1))))
      have hgw9 := grown_trans hgw0 hG
      have I1 : IntV w9 (.agg #[.slice s9 x9.length x9.length, .bool fl9]) X := ⟨s9, x9, fl9, rfl, h9, vv9, hb9⟩
      have I2 : IntV w9 (.agg #[.slice s2 x2.length x2.length, .bool false]) Y := intv_pos (L2.kept hG) V2.out hz.out.2
      have hF : Hid (RetInt2E w X Y 0 _ _) := ret_int2 hgw9 hR19 hR29 (by omega) I1 I2
      have hQ := cells_int2 hR19 hR29 (.slice s9 x9.length x9.length) (.bool fl9) (.slice s2 x2.length x2.length) (.bool false)
      obtain ⟨o0, o1, o2, o3⟩ := hQ
      clear h9 vv9 hb9 I1 I2 g9 hgw0 hgw9
      go_wp2_with fail
      exact bodyPost_ret (v := .tuple #[.agg #[.slice s9 x9.length x9.length, .bool fl9], .agg #[.slice s2 x2.length x2.length, .bool false], .int .i64 0]) (by simp [results, Tryz.results148, go_sem, o0, o1, o2, o3]) rfl hF.out
  · cases zb
    · have HSG : Hid (∀ W v, NatV W v (q + 1) → Calls Tryz.prog 119 #[v, .bool true] W (RetInt W X)) := fun W v hn => by
        have t := signed_any W v _ (K + 1) true hn (by omega) (badd HLQ.out (Nat.lt_of_le_of_lt (Nat.succ_le_of_lt HC.out) Hlb.out))
        rw [show (if true = true then -((q + 1 : Nat) : Int) else ((q + 1 : Nat) : Int)) = X from hz.out.1] at t
        exact t
      go_enter Tryz.func148, Tryz.ntmps148
      obtain ⟨ca0, ca1, fa0, fa1⟩ := box_cells hba
      obtain ⟨cb0, cb1, fb0, fb1⟩ := box_cells hbb
      go_wp2_with fail
      refine (Div_some _ _ _ M C K na nn (by omega) Hla.out Hlb.out HC.out).mono ?_
      rw [HQ.out, HR.out]
      rintro e w1 ⟨v1, v2, rfl, ⟨s1, x1, rfl, h1, vv1⟩, ⟨s2, x2, rfl, h2, vv2⟩, g1⟩
      have hsz : w.heap.size + 1 + 1 + 1 < w1.heap.size := by have := g1.4; rw [hs4] at this; omega
      have g0 := grown_alloc (World.grownBy_alloc w1 (.cells #[.slice s1 x1.length x1.length] 27) none) (.cells #[.slice s2 x2.length x2.length] 27)
      have gA := grown_trans g1 g0
      have hq := heap_kept (World.grownBy_alloc _ (.cells #[.slice s2 x2.length x2.length] 27) none) (heap_new w1 (.cells #[.slice s1 x1.length x1.length] 27) w1.heap.size rfl)
      have hr := heap_new (w1.alloc (.cells #[.slice s1 x1.length x1.length] 27)) (.cells #[.slice s2 x2.length x2.length] 27) (w1.heap.size + 1) (by simp)
      have L1 := h1.kept g0
      have L2 := h2.kept g0
      have V1 := Lib.hid vv1
      have V2 := Lib.hid vv2
      replace hba := heap_kept gA hba
      replace hbb := heap_kept gA hbb
      replace hR1 := heap_kept gA hR1
      replace hR2 := heap_kept gA hR2
      replace ia := ia.kept gA
      replace nn := nn.kept gA
      replace hgw0 := grown_trans hgw0 gA
      clear ca0 ca1 fa0 fa1 cb0 cb1 fb0 fb1 na h1 h2 vv1 vv2 g1 g0 gA hs4
      obtain ⟨ca0, ca1, fa0, fa1⟩ := box_cells hba
      go_wp2_with fail
      generalize ((w1.alloc (.cells #[.slice s1 x1.length x1.length] 27)).alloc (.cells #[.slice s2 x2.length x2.length] 27)) = w2 at *
      generalize w1.heap.size = G at *
      clear ca0 ca1 fa0 fa1 w1
      refine (Sign_any w2 _ x K ia (by omega) (by rw [HMM.out]; exact Hla.out)).mono ?_
      rintro e w3 ⟨rfl, g3⟩
      rw [H1.out]
      replace hba := heap_kept g3 hba
      replace hbb := heap_kept g3 hbb
      replace hR1 := heap_kept g3 hR1
      replace hR2 := heap_kept g3 hR2
      replace hq := heap_kept g3 hq
      replace hr := heap_kept g3 hr
      replace L1 := L1.kept g3
      replace L2 := L2.kept g3
      replace ia := ia.kept g3
      replace nn := nn.kept g3
      replace hgw0 := grown_trans hgw0 g3
      clear g3
      obtain ⟨cr, fr⟩ := box_cell hr
      go_wp2_with fail
      have nr : NatV w3 (.agg #[.slice s2 x2.length x2.length]) r := ⟨_, _, rfl, L2, V2.out⟩
      refine (Bits_any w3 _ r K nr (by omega) HLR.out).mono ?_
      rintro e w4 ⟨rfl, g4⟩
      have hnb : decide (0 < nb r) = true := decide_eq_true (by have := nb_pos hr0.out; omega)
      generalize nb r = bits at *
      replace hba := heap_kept g4 hba
      replace hbb := heap_kept g4 hbb
      replace hR1 := heap_kept g4 hR1
      replace hR2 := heap_kept g4 hR2
      replace hq := heap_kept g4 hq
      replace hr := heap_kept g4 hr
      replace L1 := L1.kept g4
      replace L2 := L2.kept g4
      replace ia := ia.kept g4
      replace nn := nn.kept g4
      replace hgw0 := grown_trans hgw0 g4
      clear g4 nr cr fr
      go_wp2_with fail
      obtain ⟨cq, fq⟩ := box_cell hq
      have nq : NatV w4 (.agg #[.slice s1 x1.length x1.length]) q := ⟨_, _, rfl, L1, V1.out⟩
      have h1K : 1 < B ^ K := Nat.lt_of_le_of_lt (Nat.succ_le_of_lt HC.out) Hlb.out
      go_region_with (first
        | (go_at_call 77; (with_reducible refine (Of_one w4.drew).mono ?_); rintro e w5 ⟨v5, rfl, n5, g5⟩; have hG5 := grown_pre w4 g5 rfl rfl rfl rfl; (obtain ⟨cq5, fq5⟩ := box_cell (heap_kept hG5 hq)))
        | (go_at_call 150; (with_reducible refine (Add_any w5 _ _ q 1 K (nq.kept hG5) n5 (by omega) HLQ.out h1K).mono ?_); rintro e w6 ⟨v6, rfl, ⟨s6, x6, rfl, h6, vv6⟩, g6⟩; have hG6 := grown_trans hG5 g6; (obtain ⟨cq6, fq6⟩ := box_cell (heap_kept hG6 hq))))
      all_goals (
        have hq6 := heap_kept hG6 hq
        have L6 := h6.set_other hq6 (by decide) 0 (.slice s6 x6.length x6.length)
        have L26 := (L2.kept hG6).set_other hq6 (by decide) 0 (.slice s6 x6.length x6.length)
        have nn6 := (nn.kept hG6).set_other hq6 (by decide) 0 (.slice s6 x6.length x6.length)
        have V6 := Lib.hid vv6
        replace hba := heap_unset (heap_kept hG6 hba) (g := G) (by omega) (.slice s6 x6.length x6.length)
        replace hbb := heap_unset (heap_kept hG6 hbb) (g := G) (by omega) (.slice s6 x6.length x6.length)
        replace hR1 := heap_unset (heap_kept hG6 hR1) (g := G) (by omega) (.slice s6 x6.length x6.length)
        replace hR2 := heap_unset (heap_kept hG6 hR2) (g := G) (by omega) (.slice s6 x6.length x6.length)
        replace hr := heap_unset (heap_kept hG6 hr) (g := G) (by omega) (.slice s6 x6.length x6.length)
        replace hq := heap_set hq6 (.slice s6 x6.length x6.length)
        have hgw6 : w.grownBy (w6.setCell ⟨G, 0, none⟩ (.slice s6 x6.length x6.length)) none := grown_new (g := G) (grown_trans hgw0 hG6) (grown_set (grown_refl _ _) _ _) (by omega)
        clear cq fq cq5 fq5 cq6 fq6 n5 g5 hG5 g6 hG6 nq h6 vv6 hq6 hgw0 L1 L2 nn ia
        obtain ⟨cb0, cb1, fb0, fb1⟩ := box_cells hbb
        obtain ⟨cr, fr⟩ := box_cell hr
        go_wp2_with fail
        generalize (w6.setCell ⟨G, 0, none⟩ (.slice s6 x6.length x6.length)) = w7 at *
        have nr7 : NatV w7 (.agg #[.slice s2 x2.length x2.length]) r := ⟨_, _, rfl, L26, V2.out⟩
        refine (Sub_some w7 _ _ C r K nn6 nr7 (by omega) Hlb.out (Nat.le_of_lt HML.out)).mono ?_
        rintro e w8 ⟨v8, rfl, ⟨s8, x8, rfl, h8, vv8⟩, g8⟩
        have hr8 := heap_kept g8 hr
        clear cr fr cb0 cb1 fb0 fb1 nr7 nn6
        obtain ⟨cr, fr⟩ := box_cell hr8
        have L8 := h8.set_other hr8 (by decide) 0 (.slice s8 x8.length x8.length)
        have L68 := (L6.kept g8).set_other hr8 (by decide) 0 (.slice s8 x8.length x8.length)
        have V8 := Lib.hid vv8
        replace hba := heap_unset (heap_kept g8 hba) (g := G + 1) (by omega) (.slice s8 x8.length x8.length)
        replace hbb := heap_unset (heap_kept g8 hbb) (g := G + 1) (by omega) (.slice s8 x8.length x8.length)
        replace hR1 := heap_unset (heap_kept g8 hR1) (g := G + 1) (by omega) (.slice s8 x8.length x8.length)
        replace hR2 := heap_unset (heap_kept g8 hR2) (g := G + 1) (by omega) (.slice s8 x8.length x8.length)
        replace hq := heap_unset (heap_kept g8 hq) (g := G + 1) (by omega) (.slice s8 x8.length x8.length)
        replace hr := heap_set hr8 (.slice s8 x8.length x8.length)
        have hgw0 : w.grownBy (w8.setCell ⟨G + 1, 0, none⟩ (.slice s8 x8.length x8.length)) none := grown_new (g := G + 1) (grown_trans hgw6 g8) (grown_set (grown_refl _ _) _ _) (by omega)
        clear g8 h8 vv8 hr8 hgw6 L6 L26
        go_wp2_with fail
        generalize (w8.setCell ⟨G + 1, 0, none⟩ (.slice s8 x8.length x8.length)) = wA at *
        clear cr fr
        obtain ⟨ca0, ca1, fa0, fa1⟩ := box_cells hba
        obtain ⟨cb0, cb1, fb0, fb1⟩ := box_cells hbb
        obtain ⟨cq, fq⟩ := box_cell hq
        try clear cr fr
        obtain ⟨cr, fr⟩ := box_cell hr
        have nq : NatV wA (.agg #[.slice s6 x6.length x6.length]) _ := ⟨_, _, rfl, L68, V6.out⟩
        go_region_held3 (fun w' => w'.cell? ⟨w.heap.size, 1, none⟩ = some (.bool true) ∧ w'.cell? ⟨w.heap.size + 1, 1, none⟩ = some (.bool false) ∧ w'.cell? ⟨G, 0, none⟩ = some (.slice s6 x6.length x6.length) ∧ w'.cell? ⟨G + 1, 0, none⟩ = some (.slice s8 x8.length x8.length))
          (first | assumption | exact ⟨ca1, cb1, cq, cr⟩ | exact HS3 | exact HS4 | go_keep)
          (first
            | (go_at_call 119; (with_reducible refine (HSG.out wA.drew _ (nq.kept (grown_drew (grown_refl _ _)))).mono ?_); rintro e w9 ⟨v9, rfl, ⟨s9, x9, fl9, rfl, h9, vv9, hb9⟩, g9⟩; have hG := grown_pre wA g9 rfl rfl rfl rfl; have hS2 := And.intro (hG.cell ca1 (by simp)) (And.intro (hG.cell cb1 (by simp)) (And.intro (hG.cell cq (by simp)) (hG.cell cr (by simp)))); have hR19 := heap_kept hG hR1; have hR29 := heap_kept hG hR2; (obtain ⟨d0, d1, k0, k1⟩ := box_cells hR19); have qa := heap_unset2 (heap_kept hG hba) (show w.heap.size ≠ w.heap.size + 1 + 1 by omega) (.slice s9 x9.length x9.length) (.bool fl9); have qb := heap_unset2 (heap_kept hG hbb) (show w.heap.size + 1 ≠ w.heap.size + 1 + 1 by omega) (.slice s9 x9.length x9.length) (.bool fl9); have qq := heap_unset2 (heap_kept hG hq) (show G ≠ w.heap.size + 1 + 1 by omega) (.slice s9 x9.length x9.length) (.bool fl9); have qr := heap_unset2 (heap_kept hG hr) (show G + 1 ≠ w.heap.size + 1 + 1 by omega) (.slice s9 x9.length x9.length) (.bool fl9); have HS3 := And.intro (box_cells qa).2.1 (And.intro (box_cells qb).2.1 (And.intro (box_cell qq).1 (box_cell qr).1)); have qR := heap_unset2 hR29 (show w.heap.size + 1 + 1 + 1 ≠ w.heap.size + 1 + 1 by omega) (.slice s9 x9.length x9.length) (.bool fl9); (obtain ⟨m0, m1, p0, p1⟩ := box_cells qR); have HS4 := And.intro (box_cells (heap_unset2 qa (show w.heap.size ≠ w.heap.size + 1 + 1 + 1 by omega) (.slice s8 x8.length x8.length) (.bool false))).2.1 (And.intro (box_cells (heap_unset2 qb (show w.heap.size + 1 ≠ w.heap.size + 1 + 1 + 1 by omega) (.slice s8 x8.length x8.length) (.bool false))).2.1 (And.intro (box_cell (heap_unset2 qq (show G ≠ w.heap.size + 1 + 1 + 1 by omega) (.slice s8 x8.length x8.length) (.bool false))).1 (box_cell (heap_unset2 qr (show G + 1 ≠ w.heap.size + 1 + 1 + 1 by omega) (.slice s8 x8.length x8.length) (.bool false))).1))))
        have hgw9 := grown_trans hgw0 hG
        have I1 : IntV w9 (.agg #[.slice s9 x9.length x9.length, .bool fl9]) X := ⟨s9, x9, fl9, rfl, h9, vv9, hb9⟩
        have I2 : IntV w9 (.agg #[.slice s8 x8.length x8.length, .bool false]) Y := intv_pos (L8.kept hG) V8.out hz.out.2
        have hF : Hid (RetInt2E w X Y 0 _ _) := ret_int2 hgw9 hR19 hR29 (by omega) I1 I2
        have hQ := cells_int2 hR19 hR29 (.slice s9 x9.length x9.length) (.bool fl9) (.slice s8 x8.length x8.length) (.bool false)
        obtain ⟨o0, o1, o2, o3⟩ := hQ
        clear h9 vv9 hb9 I1 I2 g9 hgw0 hgw9
        go_wp2_with fail
        exact bodyPost_ret (v := .tuple #[.agg #[.slice s9 x9.length x9.length, .bool fl9], .agg #[.slice s8 x8.length x8.length, .bool false], .int .i64 0]) (by simp [results, Tryz.results148, go_sem, o0, o1, o2, o3]) rfl hF.out)
    · have HSG : Hid (∀ W v, NatV W v (q + 1) → Calls Tryz.prog 119 #[v, .bool false] W (RetInt W X)) := fun W v hn => by
        have t := signed_any W v _ (K + 1) false hn (by omega) (badd HLQ.out (Nat.lt_of_le_of_lt (Nat.succ_le_of_lt HC.out) Hlb.out))
        rw [show (if false = true then -((q + 1 : Nat) : Int) else ((q + 1 : Nat) : Int)) = X from hz.out.1] at t
        exact t
      go_enter Tryz.func148, Tryz.ntmps148
      obtain ⟨ca0, ca1, fa0, fa1⟩ := box_cells hba
      obtain ⟨cb0, cb1, fb0, fb1⟩ := box_cells hbb
      go_wp2_with fail
      refine (Div_some _ _ _ M C K na nn (by omega) Hla.out Hlb.out HC.out).mono ?_
      rw [HQ.out, HR.out]
      rintro e w1 ⟨v1, v2, rfl, ⟨s1, x1, rfl, h1, vv1⟩, ⟨s2, x2, rfl, h2, vv2⟩, g1⟩
      have hsz : w.heap.size + 1 + 1 + 1 < w1.heap.size := by have := g1.4; rw [hs4] at this; omega
      have g0 := grown_alloc (World.grownBy_alloc w1 (.cells #[.slice s1 x1.length x1.length] 27) none) (.cells #[.slice s2 x2.length x2.length] 27)
      have gA := grown_trans g1 g0
      have hq := heap_kept (World.grownBy_alloc _ (.cells #[.slice s2 x2.length x2.length] 27) none) (heap_new w1 (.cells #[.slice s1 x1.length x1.length] 27) w1.heap.size rfl)
      have hr := heap_new (w1.alloc (.cells #[.slice s1 x1.length x1.length] 27)) (.cells #[.slice s2 x2.length x2.length] 27) (w1.heap.size + 1) (by simp)
      have L1 := h1.kept g0
      have L2 := h2.kept g0
      have V1 := Lib.hid vv1
      have V2 := Lib.hid vv2
      replace hba := heap_kept gA hba
      replace hbb := heap_kept gA hbb
      replace hR1 := heap_kept gA hR1
      replace hR2 := heap_kept gA hR2
      replace ia := ia.kept gA
      replace nn := nn.kept gA
      replace hgw0 := grown_trans hgw0 gA
      clear ca0 ca1 fa0 fa1 cb0 cb1 fb0 fb1 na h1 h2 vv1 vv2 g1 g0 gA hs4
      obtain ⟨ca0, ca1, fa0, fa1⟩ := box_cells hba
      go_wp2_with fail
      generalize ((w1.alloc (.cells #[.slice s1 x1.length x1.length] 27)).alloc (.cells #[.slice s2 x2.length x2.length] 27)) = w2 at *
      generalize w1.heap.size = G at *
      clear ca0 ca1 fa0 fa1 w1
      refine (Sign_any w2 _ x K ia (by omega) (by rw [HMM.out]; exact Hla.out)).mono ?_
      rintro e w3 ⟨rfl, g3⟩
      rw [H1.out]
      replace hba := heap_kept g3 hba
      replace hbb := heap_kept g3 hbb
      replace hR1 := heap_kept g3 hR1
      replace hR2 := heap_kept g3 hR2
      replace hq := heap_kept g3 hq
      replace hr := heap_kept g3 hr
      replace L1 := L1.kept g3
      replace L2 := L2.kept g3
      replace ia := ia.kept g3
      replace nn := nn.kept g3
      replace hgw0 := grown_trans hgw0 g3
      clear g3
      obtain ⟨cr, fr⟩ := box_cell hr
      go_wp2_with fail
      have nr : NatV w3 (.agg #[.slice s2 x2.length x2.length]) r := ⟨_, _, rfl, L2, V2.out⟩
      refine (Bits_any w3 _ r K nr (by omega) HLR.out).mono ?_
      rintro e w4 ⟨rfl, g4⟩
      have hnb : decide (0 < nb r) = true := decide_eq_true (by have := nb_pos hr0.out; omega)
      generalize nb r = bits at *
      replace hba := heap_kept g4 hba
      replace hbb := heap_kept g4 hbb
      replace hR1 := heap_kept g4 hR1
      replace hR2 := heap_kept g4 hR2
      replace hq := heap_kept g4 hq
      replace hr := heap_kept g4 hr
      replace L1 := L1.kept g4
      replace L2 := L2.kept g4
      replace ia := ia.kept g4
      replace nn := nn.kept g4
      replace hgw0 := grown_trans hgw0 g4
      clear g4 nr cr fr
      go_wp2_with fail
      obtain ⟨cq, fq⟩ := box_cell hq
      have nq : NatV w4 (.agg #[.slice s1 x1.length x1.length]) q := ⟨_, _, rfl, L1, V1.out⟩
      have h1K : 1 < B ^ K := Nat.lt_of_le_of_lt (Nat.succ_le_of_lt HC.out) Hlb.out
      go_region_with (first
        | (go_at_call 77; (with_reducible refine (Of_one w4.drew).mono ?_); rintro e w5 ⟨v5, rfl, n5, g5⟩; have hG5 := grown_pre w4 g5 rfl rfl rfl rfl; (obtain ⟨cq5, fq5⟩ := box_cell (heap_kept hG5 hq)))
        | (go_at_call 150; (with_reducible refine (Add_any w5 _ _ q 1 K (nq.kept hG5) n5 (by omega) HLQ.out h1K).mono ?_); rintro e w6 ⟨v6, rfl, ⟨s6, x6, rfl, h6, vv6⟩, g6⟩; have hG6 := grown_trans hG5 g6; (obtain ⟨cq6, fq6⟩ := box_cell (heap_kept hG6 hq))))
      all_goals (
        have hq6 := heap_kept hG6 hq
        have L6 := h6.set_other hq6 (by decide) 0 (.slice s6 x6.length x6.length)
        have L26 := (L2.kept hG6).set_other hq6 (by decide) 0 (.slice s6 x6.length x6.length)
        have nn6 := (nn.kept hG6).set_other hq6 (by decide) 0 (.slice s6 x6.length x6.length)
        have V6 := Lib.hid vv6
        replace hba := heap_unset (heap_kept hG6 hba) (g := G) (by omega) (.slice s6 x6.length x6.length)
        replace hbb := heap_unset (heap_kept hG6 hbb) (g := G) (by omega) (.slice s6 x6.length x6.length)
        replace hR1 := heap_unset (heap_kept hG6 hR1) (g := G) (by omega) (.slice s6 x6.length x6.length)
        replace hR2 := heap_unset (heap_kept hG6 hR2) (g := G) (by omega) (.slice s6 x6.length x6.length)
        replace hr := heap_unset (heap_kept hG6 hr) (g := G) (by omega) (.slice s6 x6.length x6.length)
        replace hq := heap_set hq6 (.slice s6 x6.length x6.length)
        have hgw6 : w.grownBy (w6.setCell ⟨G, 0, none⟩ (.slice s6 x6.length x6.length)) none := grown_new (g := G) (grown_trans hgw0 hG6) (grown_set (grown_refl _ _) _ _) (by omega)
        clear cq fq cq5 fq5 cq6 fq6 n5 g5 hG5 g6 hG6 nq h6 vv6 hq6 hgw0 L1 L2 nn ia
        obtain ⟨cb0, cb1, fb0, fb1⟩ := box_cells hbb
        obtain ⟨cr, fr⟩ := box_cell hr
        go_wp2_with fail
        generalize (w6.setCell ⟨G, 0, none⟩ (.slice s6 x6.length x6.length)) = w7 at *
        have nr7 : NatV w7 (.agg #[.slice s2 x2.length x2.length]) r := ⟨_, _, rfl, L26, V2.out⟩
        refine (Sub_some w7 _ _ C r K nn6 nr7 (by omega) Hlb.out (Nat.le_of_lt HML.out)).mono ?_
        rintro e w8 ⟨v8, rfl, ⟨s8, x8, rfl, h8, vv8⟩, g8⟩
        have hr8 := heap_kept g8 hr
        clear cr fr cb0 cb1 fb0 fb1 nr7 nn6
        obtain ⟨cr, fr⟩ := box_cell hr8
        have L8 := h8.set_other hr8 (by decide) 0 (.slice s8 x8.length x8.length)
        have L68 := (L6.kept g8).set_other hr8 (by decide) 0 (.slice s8 x8.length x8.length)
        have V8 := Lib.hid vv8
        replace hba := heap_unset (heap_kept g8 hba) (g := G + 1) (by omega) (.slice s8 x8.length x8.length)
        replace hbb := heap_unset (heap_kept g8 hbb) (g := G + 1) (by omega) (.slice s8 x8.length x8.length)
        replace hR1 := heap_unset (heap_kept g8 hR1) (g := G + 1) (by omega) (.slice s8 x8.length x8.length)
        replace hR2 := heap_unset (heap_kept g8 hR2) (g := G + 1) (by omega) (.slice s8 x8.length x8.length)
        replace hq := heap_unset (heap_kept g8 hq) (g := G + 1) (by omega) (.slice s8 x8.length x8.length)
        replace hr := heap_set hr8 (.slice s8 x8.length x8.length)
        have hgw0 : w.grownBy (w8.setCell ⟨G + 1, 0, none⟩ (.slice s8 x8.length x8.length)) none := grown_new (g := G + 1) (grown_trans hgw6 g8) (grown_set (grown_refl _ _) _ _) (by omega)
        clear g8 h8 vv8 hr8 hgw6 L6 L26
        go_wp2_with fail
        generalize (w8.setCell ⟨G + 1, 0, none⟩ (.slice s8 x8.length x8.length)) = wA at *
        clear cr fr
        obtain ⟨ca0, ca1, fa0, fa1⟩ := box_cells hba
        obtain ⟨cb0, cb1, fb0, fb1⟩ := box_cells hbb
        obtain ⟨cq, fq⟩ := box_cell hq
        try clear cr fr
        obtain ⟨cr, fr⟩ := box_cell hr
        have nq : NatV wA (.agg #[.slice s6 x6.length x6.length]) _ := ⟨_, _, rfl, L68, V6.out⟩
        go_region_held3 (fun w' => w'.cell? ⟨w.heap.size, 1, none⟩ = some (.bool true) ∧ w'.cell? ⟨w.heap.size + 1, 1, none⟩ = some (.bool true) ∧ w'.cell? ⟨G, 0, none⟩ = some (.slice s6 x6.length x6.length) ∧ w'.cell? ⟨G + 1, 0, none⟩ = some (.slice s8 x8.length x8.length))
          (first | assumption | exact ⟨ca1, cb1, cq, cr⟩ | exact HS3 | exact HS4 | go_keep)
          (first
            | (go_at_call 119; (with_reducible refine (HSG.out wA.drew _ (nq.kept (grown_drew (grown_refl _ _)))).mono ?_); rintro e w9 ⟨v9, rfl, ⟨s9, x9, fl9, rfl, h9, vv9, hb9⟩, g9⟩; have hG := grown_pre wA g9 rfl rfl rfl rfl; have hS2 := And.intro (hG.cell ca1 (by simp)) (And.intro (hG.cell cb1 (by simp)) (And.intro (hG.cell cq (by simp)) (hG.cell cr (by simp)))); have hR19 := heap_kept hG hR1; have hR29 := heap_kept hG hR2; (obtain ⟨d0, d1, k0, k1⟩ := box_cells hR19); have qa := heap_unset2 (heap_kept hG hba) (show w.heap.size ≠ w.heap.size + 1 + 1 by omega) (.slice s9 x9.length x9.length) (.bool fl9); have qb := heap_unset2 (heap_kept hG hbb) (show w.heap.size + 1 ≠ w.heap.size + 1 + 1 by omega) (.slice s9 x9.length x9.length) (.bool fl9); have qq := heap_unset2 (heap_kept hG hq) (show G ≠ w.heap.size + 1 + 1 by omega) (.slice s9 x9.length x9.length) (.bool fl9); have qr := heap_unset2 (heap_kept hG hr) (show G + 1 ≠ w.heap.size + 1 + 1 by omega) (.slice s9 x9.length x9.length) (.bool fl9); have HS3 := And.intro (box_cells qa).2.1 (And.intro (box_cells qb).2.1 (And.intro (box_cell qq).1 (box_cell qr).1)); have qR := heap_unset2 hR29 (show w.heap.size + 1 + 1 + 1 ≠ w.heap.size + 1 + 1 by omega) (.slice s9 x9.length x9.length) (.bool fl9); (obtain ⟨m0, m1, p0, p1⟩ := box_cells qR); have HS4 := And.intro (box_cells (heap_unset2 qa (show w.heap.size ≠ w.heap.size + 1 + 1 + 1 by omega) (.slice s8 x8.length x8.length) (.bool false))).2.1 (And.intro (box_cells (heap_unset2 qb (show w.heap.size + 1 ≠ w.heap.size + 1 + 1 + 1 by omega) (.slice s8 x8.length x8.length) (.bool false))).2.1 (And.intro (box_cell (heap_unset2 qq (show G ≠ w.heap.size + 1 + 1 + 1 by omega) (.slice s8 x8.length x8.length) (.bool false))).1 (box_cell (heap_unset2 qr (show G + 1 ≠ w.heap.size + 1 + 1 + 1 by omega) (.slice s8 x8.length x8.length) (.bool false))).1))))
        have hgw9 := grown_trans hgw0 hG
        have I1 : IntV w9 (.agg #[.slice s9 x9.length x9.length, .bool fl9]) X := ⟨s9, x9, fl9, rfl, h9, vv9, hb9⟩
        have I2 : IntV w9 (.agg #[.slice s8 x8.length x8.length, .bool false]) Y := intv_pos (L8.kept hG) V8.out hz.out.2
        have hF : Hid (RetInt2E w X Y 0 _ _) := ret_int2 hgw9 hR19 hR29 (by omega) I1 I2
        have hQ := cells_int2 hR19 hR29 (.slice s9 x9.length x9.length) (.bool fl9) (.slice s8 x8.length x8.length) (.bool false)
        obtain ⟨o0, o1, o2, o3⟩ := hQ
        clear h9 vv9 hb9 I1 I2 g9 hgw0 hgw9
        go_wp2_with fail
        exact bodyPost_ret (v := .tuple #[.agg #[.slice s9 x9.length x9.length, .bool fl9], .agg #[.slice s8 x8.length x8.length, .bool false], .int .i64 0]) (by simp [results, Tryz.results148, go_sem, o0, o1, o2, o3]) rfl hF.out)
end Go.Proofs.YtoaepibannfbdaaGreatDoor
