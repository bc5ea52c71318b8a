/- What the laws lean on, part 14. -/
import Derived.Below
import Derived.BigCall
import Derived.BigQuiet
import Derived.BigRegion
import Derived.Deep.AppendLies
import Derived.Deep.CutBlock
import Derived.Deep.CutRange
import Derived.Deep.DeepCutAuto
import Derived.Deep.DeepHandedRow
import Derived.Deep.LoopGhost
import Derived.Deep.MidRow
import Derived.Deep.QuietTactic
import Derived.Deep.RegionHeld3
import Derived.Deep.WholeRow
import Derived.Laws.AppendOwn
import Derived.Laws.Concat
import Derived.Laws.CopyOwn
import Derived.Laws.Externs
import Derived.Laws.IdiomStrings
import Derived.Lib.BitFns
import Derived.Lib.Bytealg
import Derived.Lib.Hide
import Derived.Lib.Slices
import Derived.Lib.Small
import Derived.Lib.Strings
import Derived.Lib.Walk
import Derived.LoopN
import Derived.OpenShut
import Derived.OrdersHeld
import Derived.Outline
import Derived.OwnWalk
import Derived.ProofKit
import Derived.Shelf.Bits.Mul64
import Derived.Shelf.Spec.TrailingZeros
import Derived.StillTailTactics
import Derived.WalkKit
import Derived.WalkLawsBesides
import Derived.WalkSpells
import Derived.Test.YtoaepibannfbdaaGreatDoorProg
import Derived.Test.YtoaepibannfbdaaGreatDoorRows
import Derived.Test.YtoaepibannfbdaaGreatDoorMr11
import Derived.Test.YtoaepibannfbdaaGreatDoorMr13
namespace Go.Proofs.YtoaepibannfbdaaGreatDoor
open Go.RowKit Mat
set_option maxRecDepth 100000
set_option linter.unusedVariables false
set_option linter.unusedSimpArgs false
def RIntV (w : World) (v : Value) (z : Int) : Prop := ∃ (g : Int) (s : Option Addr) (l c : Nat), v = .agg #[.int .i64 g, .slice s l c] ∧ Hid (g = z.sign) ∧ RefV w (.agg #[.slice s l c]) z.natAbs
theorem RIntV.kept {w w' : World} {v : Value} {z : Int} (h : RIntV w v z) (hg : w.grownBy w' none) : RIntV w' v z := by
  obtain ⟨g, s, l, c, e, h1, h2⟩ := h
  exact ⟨g, s, l, c, e, h1, h2.kept hg⟩
theorem RIntV.zero (w : World) : RIntV w (.agg #[.int .i64 0, .slice none 0 0]) 0 := ⟨0, none, 0, 0, rfl, rfl, RefV.zero w⟩
def RetRInt (w : World) (z : Int) (e : Ending) (w' : World) : Prop := ∃ v, e = .returned v ∧ RIntV w' v z ∧ w.grownBy w' none
theorem RIntV.set_other {w : World} {v : Value} {n : Int} {g : Nat} {c : Array Value} {t : TypeId} (h : RIntV w v n) (hbox : w.heap[g]? = some (.cells c t (0, 0))) (ht : t ≠ 3) (o : Nat) (u : Value) : RIntV (w.setCell ⟨g, o, none⟩ u) v n := by
  obtain ⟨s, a, l, k, e, h1, h2⟩ := h
  exact ⟨s, a, l, k, e, h1, h2.set_other hbox ht o u⟩
theorem heap_setfst {w : World} {g : Nat} {a0 a1 : Value} {t : TypeId} (h : w.heap[g]? = some (.cells #[a0, a1] t (0, 0))) (v0 : Value) : (w.setCell ⟨g, 0, none⟩ v0).heap[g]? = some (.cells #[v0, a1] t (0, 0)) := by
  simp [World.setCell, Array.getElem?_modify, h]
theorem grown_two {w w' : World} {g : Nat} (hg : w.grownBy w' none) (hl : w.heap.size ≤ g) (v0 v1 : Value) : w.grownBy ((w'.setCell ⟨g, 0, none⟩ v0).setCell ⟨g, 1, none⟩ v1) none :=
  grown_new (grown_new hg (grown_set (grown_refl _ _) _ _) hl) (grown_set (grown_refl _ _) _ _) hl
theorem ret_rintv {w w' : World} {z : Int} {g : Nat} {a0 a1 v0 v1 : Value} (hg : w.grownBy w' none) (hbox : w'.heap[g]? = some (.cells #[a0, a1] 41 (0, 0))) (hl : w.heap.size ≤ g) (h : RIntV w' (.agg #[v0, v1]) z) :
    RetRInt w z (.returned (.agg #[v0, v1])) ((w'.setCell ⟨g, 0, none⟩ v0).setCell ⟨g, 1, none⟩ v1) :=
  ⟨_, rfl, (h.set_other hbox (by decide) 0 v0).set_other (heap_setfst hbox v0) (by decide) 1 v1, grown_two hg hl v0 v1⟩
theorem rv_len {w : World} {s : Option Addr} {l c n : Nat} (h : RefV w (.agg #[.slice s l c]) n) : (n = 0 → l = 0) ∧ (0 < n → 0 < l) := by
  obtain ⟨s', l', c', xs, e, hl, -, -, ht, -, hv⟩ := h
  cases e
  refine ⟨fun h0 => ?_, fun h0 => ?_⟩
  · have := (val_zero_iff D D_pos xs ht).1 (hv.trans h0)
    rw [← hl, this]; rfl
  · rcases Nat.eq_zero_or_pos l with h1 | h1
    · rw [h1] at hl
      rw [List.length_eq_zero_iff.1 hl] at hv
      simp [val] at hv; omega
    · exact h1
set_option maxHeartbeats 4000000 in
theorem rMade_any (w : World) (va : Value) (s : Int) (n : Nat) (z : Int) (Ha : RefV w va n) (hz : z.natAbs = n) (hs : n = 0 ∨ z.sign = s) :
    Calls Tryz.prog 88 #[.int .i64 s, va] w (RetRInt w z) := by
  have HS : Hid (n = 0 ∨ z.sign = s) := hs
  have HZ := Lib.hid hz
  clear hz hs
  have HL := Lib.hid Ha
  rcases Nat.eq_zero_or_pos n with h0 | h0
  · skip
    obtain rfl : z = 0 := by have := HZ.out; omega
    subst h0
    obtain ⟨sa, la, ca, ya, rfl, ha⟩ := Ha
    obtain rfl : la = 0 := (rv_len HL.out).1 rfl
    have Ha : RefV w (.agg #[.slice sa 0 ca]) 0 := HL.out
    clear HL ha HS HZ
    have hG : w.grownBy ((w.alloc (.cells #[.slice sa 0 ca] 39)).alloc (.cells #[.int .i64 0, .slice none 0 0] 41)) none := grown_alloc (World.grownBy_alloc _ _ _) _
    have Ba := heap_kept (World.grownBy_alloc _ (.cells #[.int .i64 0, .slice none 0 0] 41) none) (heap_new w (.cells #[.slice sa 0 ca] 39) w.heap.size rfl)
    have Bq := heap_new (w.alloc (.cells #[.slice sa 0 ca] 39)) (.cells #[.int .i64 0, .slice none 0 0] 41) (w.heap.size + 1) (by simp)
    have ma := Ha.kept hG
    go_enter Tryz.func88, Tryz.ntmps88
    obtain ⟨Ca0, Fa0⟩ := box_cell Ba
    obtain ⟨Cq0, Cq1, Fq0, Fq1⟩ := box_cells Bq
    have hG' : w.grownBy ((w.alloc (.cells #[.slice sa 0 ca] 39)).alloc (.cells #[.int .i64 0, .slice none 0 0] 41)) none := (grown_alloc (World.grownBy_alloc _ _ _) _)
    have hF : Hid (RetRInt w (0) (.returned (.agg #[.int .i64 0, .slice none 0 0])) ((w.alloc (.cells #[.slice sa 0 ca] 39)).alloc (.cells #[.int .i64 0, .slice none 0 0] 41))) := ⟨_, rfl, RIntV.zero _, hG'⟩
    clear hG' ma
    go_wp2_with fail
    exact bodyPost_ret (v := .agg #[.int .i64 0, .slice none 0 0]) (by simp [results, Tryz.results88, go_sem]) rfl hF.out
  · skip
    obtain hs : z.sign = s := HS.out.resolve_left (by omega)
    obtain ⟨sa, la, ca, ya, rfl, ha⟩ := Ha
    have hl := (rv_len HL.out).2 h0
    have f1 : ((la : Int) == 0) = false := beq_eq_false_iff_ne.2 (by omega)
    have Ha : RefV w (.agg #[.slice sa la ca]) n := HL.out
    have HS2 := Lib.hid hs
    clear HL ha HS hs hl
    have hG : w.grownBy ((w.alloc (.cells #[.slice sa la ca] 39)).alloc (.cells #[.int .i64 0, .slice none 0 0] 41)) none := grown_alloc (World.grownBy_alloc _ _ _) _
    have Ba := heap_kept (World.grownBy_alloc _ (.cells #[.int .i64 0, .slice none 0 0] 41) none) (heap_new w (.cells #[.slice sa la ca] 39) w.heap.size rfl)
    have Bq := heap_new (w.alloc (.cells #[.slice sa la ca] 39)) (.cells #[.int .i64 0, .slice none 0 0] 41) (w.heap.size + 1) (by simp)
    have ma := Ha.kept hG
    go_enter Tryz.func88, Tryz.ntmps88
    obtain ⟨Ca0, Fa0⟩ := box_cell Ba
    obtain ⟨Cq0, Cq1, Fq0, Fq1⟩ := box_cells Bq
    have hG' : w.grownBy ((w.alloc (.cells #[.slice sa la ca] 39)).alloc (.cells #[.int .i64 s, .slice sa la ca] 41)) none := (grown_alloc (World.grownBy_alloc _ _ _) _)
    have hF : Hid (RetRInt w (z) (.returned (.agg #[.int .i64 s, .slice sa la ca])) ((w.alloc (.cells #[.slice sa la ca] 39)).alloc (.cells #[.int .i64 s, .slice sa la ca] 41))) := ⟨_, rfl, ⟨s, sa, la, ca, rfl, HS2.out.symm, by rw [HZ.out]; exact Ha.kept hG'⟩, hG'⟩
    clear hG' ma
    go_wp2_with fail
    exact bodyPost_ret (v := .agg #[.int .i64 s, .slice sa la ca]) (by simp [results, Tryz.results88, go_sem]) rfl hF.out
end Go.Proofs.YtoaepibannfbdaaGreatDoor
namespace Go.Proofs.YtoaepibannfbdaaGreatDoor
open Go.RowKit Mat
set_option maxRecDepth 100000
set_option linter.unusedVariables false
set_option linter.unusedSimpArgs false
theorem rof_1 (w : World) : Calls Tryz.prog 90 #[.int .u64 1] w (RetRef w 1) := rOf_any w 1 (by decide)
theorem lt_DE {m E : Nat} (h : m < B) (hE : 5 ≤ E) : m < D ^ E :=
  Nat.lt_of_lt_of_le h (Nat.le_trans (show B ≤ D ^ 5 by unfold B D; decide) (Nat.pow_le_pow_right D_pos hE))
theorem lt_D1 {m : Nat} (h : m < B) : m < D ^ 1000000 := by
  obtain ⟨E, hE⟩ : ∃ E, E = 1000000 := ⟨_, rfl⟩
  rw [← hE]; exact lt_DE h (by omega)
set_option maxHeartbeats 4000000 in
theorem rZOf_any (w : World) (n : Int) (h1 : -9223372036854775808 ≤ n) (h2 : n ≤ 9223372036854775807) :
    Calls Tryz.prog 41 #[.int .i64 n] w (RetRInt w n) := by
  by_cases hn : n < 0
  · skip
    have f1 : decide (n < 0) = true := decide_eq_true hn
    obtain ⟨m, hm⟩ : ∃ m : Nat, n = -(m : Int) - 1 := ⟨(-(n + 1)).toNat, by omega⟩
    obtain ⟨k1, hk1⟩ : ∃ k, IntKind.i64.wrap (n + 1) = k := ⟨_, rfl⟩
    obtain ⟨k2, hk2⟩ : ∃ k, IntKind.i64.wrap (-k1) = k := ⟨_, rfl⟩
    have hk3 : IntKind.u64.wrap k2 = (m : Int) := by rw [IntKind.wrap_i64] at hk1 hk2; rw [IntKind.wrap_u64]; omega
    have HM : Hid (m < B) := by show m < B; unfold B; omega
    have HB1 : Hid (m < D ^ 1000000) := Lib.hid (lt_D1 HM.out)
    have HB2 : Hid (1 < D ^ 1000000) := Lib.hid (lt_D1 (show 1 < B by unfold B; omega))
    have HN : Hid (n.natAbs = m + 1) := by show _ = _; omega
    have HSG : Hid (n.sign = -1) := Int.sign_eq_neg_one_of_neg hn
    clear hm h1 h2 hn
    have hG : w.grownBy (w.alloc (.cells #[.int .i64 0, .slice none 0 0] 41)) none := (World.grownBy_alloc _ _ _)
    have Bq := (heap_new w (.cells #[.int .i64 0, .slice none 0 0] 41) (w.heap.size) rfl)
    go_enter Tryz.func41, Tryz.ntmps41
    obtain ⟨Cq0, Cq1, Fq0, Fq1⟩ := box_cells Bq
    go_wp2_with fail
    generalize (w.alloc (.cells #[.int .i64 0, .slice none 0 0] 41)) = w0 at *
    clear Cq0 Fq0 Cq1 Fq1
    refine (rOf_any w0 m HM.out).mono ?_
    rintro e w1 ⟨vp, rfl, mp, gw1⟩
    replace Bq := heap_kept gw1 Bq
    replace hG := grown_trans hG gw1
    clear gw1
    obtain ⟨Cq0, Cq1, Fq0, Fq1⟩ := box_cells Bq
    go_wp2_with fail
    clear Cq0 Fq0 Cq1 Fq1
    refine (rof_1 w1).mono ?_
    rintro e w2 ⟨vo, rfl, mo, gw2⟩
    replace Bq := heap_kept gw2 Bq
    replace mp := mp.kept gw2
    replace hG := grown_trans hG gw2
    clear gw2
    obtain ⟨Cq0, Cq1, Fq0, Fq1⟩ := box_cells Bq
    go_wp2_with fail
    clear Cq0 Fq0 Cq1 Fq1
    refine (rAdd_any w2 _ _ m 1 mp mo HB1.out HB2.out).mono ?_
    rintro e w3 ⟨vs, rfl, ms, gw3⟩
    replace Bq := heap_kept gw3 Bq
    replace mp := mp.kept gw3
    replace mo := mo.kept gw3
    replace hG := grown_trans hG gw3
    clear gw3
    obtain ⟨Cq0, Cq1, Fq0, Fq1⟩ := box_cells Bq
    go_wp2_with fail
    clear Cq0 Fq0 Cq1 Fq1
    refine (rMade_any w3 _ (-1) (m + 1) n ms HN.out (Or.inr HSG.out)).mono ?_
    rintro e w4 ⟨_, rfl, ⟨gd, sd, ld, cd, rfl, hd, md⟩, gw4⟩
    have rd : RIntV w4 (.agg #[.int .i64 gd, .slice sd ld cd]) (n) := ⟨gd, sd, ld, cd, rfl, hd, md⟩
    replace Bq := heap_kept gw4 Bq
    replace mp := mp.kept gw4
    replace mo := mo.kept gw4
    replace ms := ms.kept gw4
    replace hG := grown_trans hG gw4
    clear gw4
    clear md
    obtain ⟨Cq0, Cq1, Fq0, Fq1⟩ := box_cells Bq
    clear Cq0 Fq0 Cq1 Fq1
    obtain ⟨k90, k91, k92, k93⟩ := box_cells Bq
    obtain ⟨q90, q91, q92, q93⟩ := box_cells (heap_set2 Bq (.int .i64 gd) (.slice sd ld cd))
    have hF : Hid (RetRInt w (n) (.returned (.agg #[.int .i64 gd, .slice sd ld cd])) ((w4.setCell ⟨w.heap.size, 0, none⟩ (.int .i64 gd)).setCell ⟨w.heap.size, 1, none⟩ (.slice sd ld cd))) := ret_rintv hG Bq (by omega) rd
    clear mp mo ms rd
    go_wp2_with fail
    exact bodyPost_ret (v := .agg #[.int .i64 gd, .slice sd ld cd]) (by simp [results, Tryz.results41, go_sem, q90, q91]) rfl hF.out
  · skip
    have f1 : decide (n < 0) = false := decide_eq_false hn
    obtain ⟨m, hm⟩ : ∃ m : Nat, n = (m : Int) := ⟨n.toNat, by omega⟩
    have hk3 : IntKind.u64.wrap n = (m : Int) := by rw [IntKind.wrap_u64]; omega
    have HM : Hid (m < B) := by show m < B; unfold B; omega
    have HN : Hid (n.natAbs = m) := by show _ = _; omega
    have HSG : Hid (m = 0 ∨ n.sign = 1) := by
      show _ ∨ _
      rcases zsign n with ⟨h, e⟩ | ⟨h, e⟩ | ⟨h, e⟩
      · omega
      · left; omega
      · right; exact e
    clear hm h1 h2 hn
    have hG : w.grownBy (w.alloc (.cells #[.int .i64 0, .slice none 0 0] 41)) none := (World.grownBy_alloc _ _ _)
    have Bq := (heap_new w (.cells #[.int .i64 0, .slice none 0 0] 41) (w.heap.size) rfl)
    go_enter Tryz.func41, Tryz.ntmps41
    obtain ⟨Cq0, Cq1, Fq0, Fq1⟩ := box_cells Bq
    go_wp2_with fail
    generalize (w.alloc (.cells #[.int .i64 0, .slice none 0 0] 41)) = w0 at *
    clear Cq0 Fq0 Cq1 Fq1
    refine (rOf_any w0 m HM.out).mono ?_
    rintro e w1 ⟨vp, rfl, mp, gw1⟩
    replace Bq := heap_kept gw1 Bq
    replace hG := grown_trans hG gw1
    clear gw1
    obtain ⟨Cq0, Cq1, Fq0, Fq1⟩ := box_cells Bq
    go_wp2_with fail
    clear Cq0 Fq0 Cq1 Fq1
    refine (rMade_any w1 _ 1 m n mp HN.out HSG.out).mono ?_
    rintro e w2 ⟨_, rfl, ⟨gd, sd, ld, cd, rfl, hd, md⟩, gw2⟩
    have rd : RIntV w2 (.agg #[.int .i64 gd, .slice sd ld cd]) (n) := ⟨gd, sd, ld, cd, rfl, hd, md⟩
    replace Bq := heap_kept gw2 Bq
    replace mp := mp.kept gw2
    replace hG := grown_trans hG gw2
    clear gw2
    clear md
    obtain ⟨Cq0, Cq1, Fq0, Fq1⟩ := box_cells Bq
    clear Cq0 Fq0 Cq1 Fq1
    obtain ⟨k90, k91, k92, k93⟩ := box_cells Bq
    obtain ⟨q90, q91, q92, q93⟩ := box_cells (heap_set2 Bq (.int .i64 gd) (.slice sd ld cd))
    have hF : Hid (RetRInt w (n) (.returned (.agg #[.int .i64 gd, .slice sd ld cd])) ((w2.setCell ⟨w.heap.size, 0, none⟩ (.int .i64 gd)).setCell ⟨w.heap.size, 1, none⟩ (.slice sd ld cd))) := ret_rintv hG Bq (by omega) rd
    clear mp rd
    go_wp2_with fail
    exact bodyPost_ret (v := .agg #[.int .i64 gd, .slice sd ld cd]) (by simp [results, Tryz.results41, go_sem, q90, q91]) rfl hF.out
def RetZText (w : World) (z : Int) (e : Ending) (w' : World) : Prop := ∃ s, e = .returned (.string s) ∧ ZTextOf s z ∧ w.grownBy w' none
end Go.Proofs.YtoaepibannfbdaaGreatDoor
namespace Go.Proofs.YtoaepibannfbdaaGreatDoor
open Go.ChangeShapes Go.WideShapes Go.ChangeAt Go.RowKit Go.ChangeMaps Mat
set_option maxRecDepth 100000
set_option linter.unusedVariables false
set_option linter.unusedSimpArgs false
theorem law_own : ownKnob Tryz.prog.godebug = none := by kernel_rfl
theorem kept_of_grown {W W' : World} (h : W.grownBy W' none) : W.keptBut W' (fun _ => False) := by
  refine ⟨h.os, h.output, fun i hi => ?_⟩
  rw [h.block i hi (by simp)]
  cases W.heap[i]? with
  | none => rfl
  | some o => cases o <;> simp
end Go.Proofs.YtoaepibannfbdaaGreatDoor
namespace Go.Proofs.YtoaepibannfbdaaGreatDoor
open Go.RowKit Mat
set_option maxRecDepth 100000
set_option linter.unusedVariables false
set_option linter.unusedSimpArgs false
theorem ztext_uniq {s t : ByteArray} {z : Int} (hs : ZTextOf s z) (ht : ZTextOf t z) : s = t := by
  obtain ⟨l, hl, vl, el⟩ := hs
  obtain ⟨m, hm, vm, em⟩ := ht
  have : l = m := dec_uniqL hl hm (vl.trans vm.symm)
  subst this
  exact bts_inj (el.trans em.symm)
theorem NZText_any (w : World) (va : Value) (z : Int) (K : Nat) (ha : IntV w va z) (hK : K ≤ 900000) (la : z.natAbs < B ^ K) :
    Calls Tryz.prog 52 #[va] w (RetZText w z) := ZText_any w va z K ha hK la
theorem ztext_len {s : ByteArray} {z : Int} {K : Nat} (h : ZTextOf s z) (la : z.natAbs < B ^ K) : s.size ≤ 20 * K + 2 := by
  obtain ⟨l, hl, vl, el⟩ := h
  have h1 : l.length ≤ 20 * K + 1 := by
    refine dec_len hl ?_ (by omega)
    rw [vl]
    refine Nat.lt_of_lt_of_le la ?_
    have q1 : B ^ K ≤ (10 ^ 20) ^ K := Nat.pow_le_pow_left (by decide) K
    rw [← Nat.pow_mul] at q1
    exact Nat.le_trans q1 (Nat.pow_le_pow_right (by omega) (by omega))
  have h2 := congrArg List.length el
  rw [bts_len] at h2
  rw [h2]
  split
  · rw [List.length_cons]; omega
  · omega
def RTextOf (s : ByteArray) (r : Rat) : Prop := (r.den = 1 ∧ ZTextOf s r.num) ∨ (r.den ≠ 1 ∧ ∃ p q : ByteArray, ZTextOf p r.num ∧ ZTextOf q (r.den : Int) ∧ s = p ++ { data := #[47] } ++ q)
theorem rtext_uniq {s t : ByteArray} {r : Rat} (hs : RTextOf s r) (ht : RTextOf t r) : s = t := by
  rcases hs with ⟨h1, h2⟩ | ⟨h1, p, q, h2, h3, h4⟩
  · rcases ht with ⟨g1, g2⟩ | ⟨g1, _⟩
    · exact ztext_uniq h2 g2
    · exact absurd h1 g1
  · rcases ht with ⟨g1, g2⟩ | ⟨g1, p', q', g2, g3, g4⟩
    · exact absurd g1 h1
    · rw [h4, g4, ztext_uniq h2 g2, ztext_uniq h3 g3]
def RetRText (w : World) (r : Rat) (e : Ending) (w' : World) : Prop := ∃ s, e = .returned (.string s) ∧ RTextOf s r ∧ w.grownBy w' none
end Go.Proofs.YtoaepibannfbdaaGreatDoor
namespace Go.Proofs.YtoaepibannfbdaaGreatDoor
open Go.RowKit Mat Ex
set_option linter.unusedVariables false
set_option linter.unusedSimpArgs false
set_option maxRecDepth 100000
theorem add_told {P : Program} {ρ : Operand → Value} {o : Oper} {t t' : TypeId} {x y : Operand} {s u : ByteArray} {W : World} (ho : o.op = .binOp .add t x y t') (hx : ρ x = .string s) (hy : ρ y = .string u) (h : s.size + u.size ≤ 9223372036854775807) :
    (execOp ρ o).run P W = .ok (.value (.string (s ++ u))) W := by
  have hg : eqGuard .add t x y (.string s) (.string u) = pure () := by unfold eqGuard; rfl
  have hb : binOp .add t (.string s) (.string u) = Op.stringOp .add s u := by simp [binOp]
  simp only [execOp, ho, hx, hy, hg, hb, Sem.run_bind, Sem.run_pure, Result.andThen_ok, run_string_add_sum W s u h]
theorem FText_any (w : World) (va : Value) (r : Rat) (K : Nat) (Ha : RatV w va r) (hK : K ≤ 800000) (ln : r.num.natAbs < B ^ K) (ld : r.den < B ^ K) :
    Calls Tryz.prog 13 #[va] w (RetRText w r) := by
  by_cases h1 : r.den = 1
  · skip
    refine exec_calls mixed Tryz.func13 [sQ r] [sV (.bool true), sT (fun s => ZTextOf s r.num)] (.cons Ha .nil) (rs := [cl 1 51 [ag 4 0], cl 2 52 [ag 2 0]]) (out := on 2) (nc := 3) (by kernel_rfl)
        ⟨fun σ W g h hb => toV (FWhole_any W _ r K (h 0 rfl) (by omega) ld) (by rw [decide_eq_true h1]),
        fun σ W g h hb => toT (NZText_any W _ r.num K (qn (h 0 rfl)) (by omega) ln),
        trivial⟩ fun τ W g h => by
          obtain ⟨s, e, hs⟩ := h 2 rfl
          exact ⟨s, congrArg Ending.returned e, Or.inl ⟨h1, hs⟩, g⟩
  · skip
    refine exec_calls mixed Tryz.func13 [sQ r] [sV (.bool false), sT (fun s => ZTextOf s r.num), sT (fun s => ∃ p, ZTextOf p r.num ∧ s = p ++ { data := #[47] }), sT (fun s => ZTextOf s (r.den : Int)), sT (fun s => RTextOf s r)] (.cons Ha .nil) (rs := [cl 1 51 [ag 4 0], cl 2 52 [ag 2 0], co 3 (.binOp .add 9 (.tmp 10) (.const (.string ({ data := #[47] }))) 9) 9 [on 2, .v false [.lit (.string ({ data := #[47] }))]] [0, 1, 2] [], cla 4 52 [.v true [.an 0 2, .an 0 3]] [0, 1, 2], co 5 (.binOp .add 9 (.tmp 11) (.tmp 14) 9) 9 [on 3, on 4] [0, 1, 2, 3, 4] []]) (out := on 5) (nc := 6) (by kernel_rfl)
        ⟨fun σ W g h hb => toV (FWhole_any W _ r K (h 0 rfl) (by omega) ld) (by rw [decide_eq_false h1]),
        fun σ W g h hb => toT (NZText_any W _ r.num K (qn (h 0 rfl)) (by omega) ln),
        fun σ W g h hb => fun ρ o ho _ hv => by
          obtain ⟨s, es, hs⟩ := h 2 rfl
          have hl := ztext_len hs ln
          exact ⟨_, add_told ho ((two_vals hv).1.trans es) (two_vals hv).2 (by have : ByteArray.size { data := #[47] } = 1 := rfl; omega), _, rfl, s, hs, rfl⟩,
        fun σ W g h hb => toT (NZText_any W _ (r.den : Int) K (dn_more h1 ▸ qd (h 0 rfl)) (by omega) (ldi ld)),
        fun σ W g h hb => fun ρ o ho _ hv => by
          obtain ⟨s, es, p, hp, rfl⟩ := h 3 rfl
          obtain ⟨t, et, ht⟩ := h 4 rfl
          have hl := ztext_len hp ln
          have hm := ztext_len ht (ldi ld)
          have h47 : ByteArray.size { data := #[47] } = 1 := rfl
          exact ⟨_, add_told ho ((two_vals hv).1.trans es) ((two_vals hv).2.trans et) (by rw [ByteArray.size_append]; omega), _, rfl, Or.inr ⟨h1, p, t, hp, ht, rfl⟩⟩,
        trivial⟩ fun τ W g h => by
          obtain ⟨s, e, hs⟩ := h 5 rfl
          exact ⟨s, congrArg Ending.returned e, hs, g⟩
end Go.Proofs.YtoaepibannfbdaaGreatDoor
namespace Go.Proofs.YtoaepibannfbdaaGreatDoor
open Go.RowKit Mat Ex
set_option linter.unusedVariables false
set_option linter.unusedSimpArgs false
set_option maxRecDepth 100000
theorem FDiv_any (w : World) (va vb : Value) (r t : Rat) (K : Nat) (Ha : RatV w va r) (Hb : RatV w vb t) (hK : K ≤ 300000) (ln : r.num.natAbs < B ^ K) (ld : r.den < B ^ K) (mn : t.num.natAbs < B ^ K) (md : t.den < B ^ K) (hTab : Tab w) :
    Calls Tryz.prog 49 #[va, vb] w (RetRatE w (r / t) (if t = 0 then 5 else 0)) := by
  rcases zsign t.num with ⟨h0, hs⟩ | ⟨h0, hs⟩ | ⟨h0, hs⟩
  · skip
    have ht : t ≠ 0 := fun e => by rw [e] at h0; simp at h0
    rw [if_neg ht, Rat.div_def]
    have hp := rinv_neg t h0
    have n1 : (t⁻¹).num.natAbs < B ^ K := by rw [hp.1, Int.natAbs_neg, Int.natAbs_natCast]; exact md
    have n2 : (t⁻¹).den < B ^ K := by have h := congrArg Int.natAbs hp.2; rw [Int.natAbs_natCast, Int.natAbs_neg] at h; omega
    refine exec_calls mixed Tryz.func49 [sQ r, sQ t] [sI (t.den : Int), sV (.int .i64 (-1)), sI (-(t.den : Int)), sI (-t.num), sI (r.den : Int), sQ (r * t⁻¹)] (.cons Ha (.cons Hb .nil)) (rs := [cl 2 81 [ag 4 1], cl 3 35 [ag 4 1], cl 4 86 [ag 2 2], cl 5 86 [ag 2 1], cl 6 81 [ag 4 0], cl 7 82 [ag 2 0, ag 2 6, ag 2 4, ag 2 5]]) (out := .tup [(true, [.an 7 0, .an 7 1, .an 7 2, .an 7 3]), (false, [.lit (.int .i64 0)])]) (nc := 8) (by kernel_rfl)
        ⟨fun σ W g h hb => FUnder_any W _ t K (h 1 rfl) (by omega) md,
        fun σ W g h hb => toV (FSign_any W _ t K (h 1 rfl) (by omega) mn) (by rw [hs]),
        fun σ W g h hb => ZNeg_any W _ _ K (h 2 rfl) (by omega) (ldi md),
        fun σ W g h hb => ZNeg_any W _ _ K (qn (h 1 rfl)) (by omega) mn,
        fun σ W g h hb => FUnder_any W _ r K (h 0 rfl) (by omega) ld,
        fun σ W g h hb => FProduct_any W _ _ _ _ r t⁻¹ K (qn (h 0 rfl)) (h 6 rfl) (hp.1 ▸ h 4 rfl) (hp.2 ▸ h 5 rfl) hK ln ld n1 n2 (hTab.kept g (by simp)),
        trivial⟩ fun τ W g h => ⟨_, rfl, h 7 rfl, g⟩
  · skip
    have ht : t = 0 := Rat.num_eq_zero.1 h0
    rw [if_pos ht, ht, Rat.div_def, Rat.inv_zero, Rat.mul_zero]
    refine exec_calls mixed Tryz.func49 [sQ r, sQ t] [sI (t.den : Int), sV (.int .i64 0)] (.cons Ha (.cons Hb .nil)) (rs := [cl 2 81 [ag 4 1], cl 3 35 [ag 4 1]]) (out := .tup [(true, [.lit (.slice none 0 0), .lit (.bool false), .lit (.slice none 0 0), .lit (.bool false)]), (false, [.lit (.int .i64 5)])]) (nc := 4) (by kernel_rfl)
        ⟨fun σ W g h hb => FUnder_any W _ t K (h 1 rfl) (by omega) md,
        fun σ W g h hb => toV (FSign_any W _ t K (h 1 rfl) (by omega) mn) (by rw [hs]),
        trivial⟩ fun τ W g h => ⟨_, rfl, RatV.zero W, g⟩
  · skip
    have ht : t ≠ 0 := fun e => by rw [e] at h0; simp at h0
    rw [if_neg ht, Rat.div_def]
    have hp := rinv_pos t h0
    have n1 : (t⁻¹).num.natAbs < B ^ K := by rw [hp.1, Int.natAbs_natCast]; exact md
    have n2 : (t⁻¹).den < B ^ K := by have h := congrArg Int.natAbs hp.2; rw [Int.natAbs_natCast] at h; omega
    refine exec_calls mixed Tryz.func49 [sQ r, sQ t] [sI (t.den : Int), sV (.int .i64 1), sI (r.den : Int), sQ (r * t⁻¹)] (.cons Ha (.cons Hb .nil)) (rs := [cl 2 81 [ag 4 1], cl 3 35 [ag 4 1], cl 4 81 [ag 4 0], cl 5 82 [ag 2 0, ag 2 4, ag 2 2, ag 2 1]]) (out := .tup [(true, [.an 5 0, .an 5 1, .an 5 2, .an 5 3]), (false, [.lit (.int .i64 0)])]) (nc := 6) (by kernel_rfl)
        ⟨fun σ W g h hb => FUnder_any W _ t K (h 1 rfl) (by omega) md,
        fun σ W g h hb => toV (FSign_any W _ t K (h 1 rfl) (by omega) mn) (by rw [hs]),
        fun σ W g h hb => FUnder_any W _ r K (h 0 rfl) (by omega) ld,
        fun σ W g h hb => FProduct_any W _ _ _ _ r t⁻¹ K (qn (h 0 rfl)) (h 4 rfl) (hp.1 ▸ h 2 rfl) (hp.2 ▸ qn (h 1 rfl)) hK ln ld n1 n2 (hTab.kept g (by simp)),
        trivial⟩ fun τ W g h => ⟨_, rfl, h 5 rfl, g⟩
end Go.Proofs.YtoaepibannfbdaaGreatDoor
namespace Go.Proofs.YtoaepibannfbdaaGreatDoor
open Go.RowKit Mat Ex PM
set_option linter.unusedVariables false
set_option linter.unusedSimpArgs false
def Bn (K : Nat) (r : Rat) : Prop := r.num.natAbs < B ^ K ∧ r.den < B ^ K
theorem bwd {a K M : Nat} (h : a < B ^ K) (hK : K ≤ M) : a < B ^ M := Nat.lt_of_lt_of_le h (Nat.pow_le_pow_right B_pos hK)
theorem Bn.mono {K M : Nat} {r : Rat} (h : Bn K r) (hK : K ≤ M) : Bn M r := ⟨bwd h.1 hK, bwd h.2 hK⟩
theorem Bn.neg {K : Nat} {r : Rat} (h : Bn K r) : Bn K (-r) := ⟨by rw [Rat.neg_num, Int.natAbs_neg]; exact h.1, by rw [Rat.neg_den]; exact h.2⟩
theorem Bn.add {K : Nat} {r t : Rat} (h : Bn K r) (h' : Bn K t) : Bn (K + K + 1) (r + t) := by
  constructor
  · rw [Rat.num_add]
    exact Nat.lt_of_le_of_lt (Int.natAbs_ediv_le_natAbs _ _) (fadd_bd (fmul_bd h.1 (ldi h'.2)) (fmul_bd h'.1 (ldi h.2)))
  · rw [Rat.den_add]
    refine Nat.lt_of_le_of_lt (Nat.div_le_self _ _) (bwd (K := K + K) ?_ (by omega))
    rw [Nat.pow_add]; exact Nat.mul_lt_mul'' h.2 h'.2
theorem Bn.sub {K : Nat} {r t : Rat} (h : Bn K r) (h' : Bn K t) : Bn (K + K + 1) (r - t) := by rw [Rat.sub_eq_add_neg]; exact h.add h'.neg
theorem Bn.mul {K : Nat} {r t : Rat} (h : Bn K r) (h' : Bn K t) : Bn (K + K) (r * t) := by
  constructor
  · rw [rmul_num, Int.natAbs_mul, Nat.pow_add]
    exact Nat.mul_lt_mul'' (Nat.lt_of_le_of_lt (Int.natAbs_ediv_le_natAbs _ _) h.1) (Nat.lt_of_le_of_lt (Int.natAbs_ediv_le_natAbs _ _) h'.1)
  · rw [rmul_den, Nat.pow_add]
    exact Nat.mul_lt_mul'' (Nat.lt_of_le_of_lt (Nat.div_le_self _ _) h.2) (Nat.lt_of_le_of_lt (Nat.div_le_self _ _) h'.2)
theorem Bn.inv {K : Nat} {r : Rat} (h : Bn K r) (hK : 1 ≤ K) : Bn K r⁻¹ := by
  rcases zsign r.num with ⟨h0, _⟩ | ⟨h0, _⟩ | ⟨h0, _⟩
  · have e := rinv_neg r h0
    exact ⟨by rw [e.1, Int.natAbs_neg, Int.natAbs_natCast]; exact h.2, by have e2 := congrArg Int.natAbs e.2; rw [Int.natAbs_natCast, Int.natAbs_neg] at e2; rw [e2]; exact h.1⟩
  · have : r = 0 := Rat.num_eq_zero.1 h0
    rw [this, Rat.inv_zero]
    exact ⟨Nat.pow_pos B_pos, Nat.one_lt_pow (by omega) (by unfold B; omega)⟩
  · have e := rinv_pos r h0
    exact ⟨by rw [e.1, Int.natAbs_natCast]; exact h.2, by have e2 := congrArg Int.natAbs e.2; rw [Int.natAbs_natCast] at e2; rw [e2]; exact h.1⟩
theorem Bn.div {K : Nat} {r t : Rat} (h : Bn K r) (h' : Bn K t) (hK : 1 ≤ K) : Bn (K + K) (r / t) := by rw [Rat.div_def]; exact h.mul (h'.inv hK)
theorem Bn.zero {K : Nat} (hK : 1 ≤ K) : Bn K (0 : Rat) := ⟨Nat.pow_pos B_pos, Nat.one_lt_pow (by omega) (by unfold B; omega)⟩
def Bp (K : Nat) (p : Pq) : Prop := Bn K p.1 ∧ Bn K p.2
theorem Bp.mono {K M : Nat} {p : Pq} (h : Bp K p) (hK : K ≤ M) : Bp M p := ⟨h.1.mono hK, h.2.mono hK⟩
theorem Bp.cross {K : Nat} {a b c : Pq} (ha : Bp K a) (hb : Bp K b) (hc : Bp K c) : Bn (8 * K + 5) (pcross a b c) := by
  unfold pcross
  exact (((hb.1.sub ha.1).mul (hc.2.sub ha.2)).sub ((hb.2.sub ha.2).mul (hc.1.sub ha.1))).mono (by omega)
theorem Bp.dot {K : Nat} {a b c : Pq} (ha : Bp K a) (hb : Bp K b) (hc : Bp K c) : Bn (8 * K + 5) (pdot a b c) := by
  unfold pdot
  exact (((hb.1.sub ha.1).mul (hc.1.sub ha.1)).add ((hb.2.sub ha.2).mul (hc.2.sub ha.2))).mono (by omega)
theorem Bp.onl {K M : Nat} {a b : Pq} {t : Rat} (ha : Bp K a) (hb : Bp K b) (ht : Bn M t) (hK : 2 * K + 1 ≤ M) : Bp (4 * M + 1) (pat a b t) :=
  ⟨((ha.1.mono (by omega)).add (((hb.1.sub ha.1).mono (by omega)).mul ht)).mono (by omega), ((ha.2.mono (by omega)).add (((hb.2.sub ha.2).mono (by omega)).mul ht)).mono (by omega)⟩
theorem Bp.cut {K : Nat} {a b c d : Pq} (ha : Bp K a) (hb : Bp K b) (hc : Bp K c) (hd : Bp K d) : Bp (128 * K + 100) (pat a b (pcross c d a / (pcross c d a - pcross c d b))) :=
  by
  have h1 : Bn (16 * K + 11) (pcross c d a) := (hc.cross hd ha).mono (by omega)
  have h2 : Bn (16 * K + 11) (pcross c d a - pcross c d b) := ((hc.cross hd ha).sub (hc.cross hd hb)).mono (by omega)
  have h3 : Bn (32 * K + 22) (pcross c d a / (pcross c d a - pcross c d b)) := (h1.div h2 (by omega)).mono (by omega)
  exact (Bp.onl ha hb h3 (by omega)).mono (by omega)
def PtV (w : World) (v : Value) (p : Pq) : Prop := ∃ a b c d e f g h : Value, v = .agg #[a, b, c, d, e, f, g, h] ∧ RatV w (.agg #[a, b, c, d]) p.1 ∧ RatV w (.agg #[e, f, g, h]) p.2
theorem PtV.kept {w w' : World} {v : Value} {p : Pq} (h : PtV w v p) (hg : w.grownBy w' none) : PtV w' v p := by
  obtain ⟨a, b, c, d, e, f, g, i, e1, h1, h2⟩ := h
  exact ⟨a, b, c, d, e, f, g, i, e1, h1.kept hg, h2.kept hg⟩
theorem PtV.keeps {W W' : World} {v : Value} {p : Pq} (h : PtV W v p) (k : Keeps limbT W W') : PtV W' v p := by
  obtain ⟨a, b, c, d, e, f, g, i, e1, h1, h2⟩ := h
  exact ⟨a, b, c, d, e, f, g, i, e1, h1.keeps k, h2.keeps k⟩
theorem RatV.one {w : World} {a b c d : Value} {r : Rat} (h : RatV w (.agg #[a, b, c, d]) r) : a.oneCell' = true ∧ b.oneCell' = true ∧ c.oneCell' = true ∧ d.oneCell' = true := by
  obtain ⟨s, xs, f, s', xs', f', e, _⟩ := h
  cases e; exact ⟨rfl, rfl, rfl, rfl⟩
theorem PtV.one {w : World} {a b c d e f g h : Value} {p : Pq} (hp : PtV w (.agg #[a, b, c, d, e, f, g, h]) p) : ∀ x ∈ [a, b, c, d, e, f, g, h], x.oneCell' = true := by
  obtain ⟨a', b', c', d', e', f', g', h', q, h1, h2⟩ := hp
  cases q
  obtain ⟨i1, i2, i3, i4⟩ := h1.one
  obtain ⟨i5, i6, i7, i8⟩ := h2.one
  simp [i1, i2, i3, i4, i5, i6, i7, i8]
def sPt (p : Pq) : Sp := .of (.agg 8) (fun v W => PtV W v p) (fun v W h => by
  have h0 := h
  obtain ⟨a, b, c, d, e, f, g, i, rfl, h1, h2⟩ := h
  exact ⟨cellf [a, b, c, d, e, f, g, i], cellf_one h0.one, rfl⟩) (fun v W W' k h => h.keeps k)
theorem pt1 {W : World} {a b c d e f g h : Value} {p : Pq} : PtV W (.agg #[a, b, c, d, e, f, g, h]) p → RatV W (.agg #[a, b, c, d]) p.1 := by
  rintro ⟨a', b', c', d', e', f', g', h', q, h1, h2⟩; cases q; exact h1
theorem pt2 {W : World} {a b c d e f g h : Value} {p : Pq} : PtV W (.agg #[a, b, c, d, e, f, g, h]) p → RatV W (.agg #[e, f, g, h]) p.2 := by
  rintro ⟨a', b', c', d', e', f', g', h', q, h1, h2⟩; cases q; exact h2
theorem mkpt {W : World} {a b c d e f g h : Value} {p : Pq} (h1 : RatV W (.agg #[a, b, c, d]) p.1) (h2 : RatV W (.agg #[e, f, g, h]) p.2) : PtV W (.agg #[a, b, c, d, e, f, g, h]) p := ⟨a, b, c, d, e, f, g, h, rfl, h1, h2⟩
def RetPt (w : World) (p : Pq) (e : Ending) (w' : World) : Prop := ∃ v, e = .returned v ∧ PtV w' v p ∧ w.grownBy w' none
theorem PtV.nil (w : World) : PtV w (.agg #[.slice none 0 0, .bool false, .slice none 0 0, .bool false, .slice none 0 0, .bool false, .slice none 0 0, .bool false]) (0, 0) := mkpt (RatV.zero w) (RatV.zero w)
def SgV (w : World) (v : Value) (p q : Pq) : Prop := ∃ a b c d e f g h a' b' c' d' e' f' g' h' : Value, v = .agg #[a, b, c, d, e, f, g, h, a', b', c', d', e', f', g', h'] ∧ PtV w (.agg #[a, b, c, d, e, f, g, h]) p ∧ PtV w (.agg #[a', b', c', d', e', f', g', h']) q
theorem SgV.keeps {W W' : World} {v : Value} {p q : Pq} (h : SgV W v p q) (k : Keeps limbT W W') : SgV W' v p q := by
  obtain ⟨a, b, c, d, e, f, g, i, a', b', c', d', e', f', g', i', e1, h1, h2⟩ := h
  exact ⟨a, b, c, d, e, f, g, i, a', b', c', d', e', f', g', i', e1, h1.keeps k, h2.keeps k⟩
theorem SgV.kept {w w' : World} {v : Value} {p q : Pq} (h : SgV w v p q) (hg : w.grownBy w' none) : SgV w' v p q := by
  obtain ⟨a, b, c, d, e, f, g, i, a', b', c', d', e', f', g', i', e1, h1, h2⟩ := h
  exact ⟨a, b, c, d, e, f, g, i, a', b', c', d', e', f', g', i', e1, h1.kept hg, h2.kept hg⟩
def sSg (p q : Pq) : Sp := .of (.agg 16) (fun v W => SgV W v p q) (fun v W h => by
  obtain ⟨a, b, c, d, e, f, g, i, a', b', c', d', e', f', g', i', rfl, h1, h2⟩ := h
  refine ⟨cellf [a, b, c, d, e, f, g, i, a', b', c', d', e', f', g', i'], cellf_one (fun x hx => ?_), rfl⟩
  rcases List.mem_append.1 (show x ∈ [a, b, c, d, e, f, g, i] ++ [a', b', c', d', e', f', g', i'] from hx) with hx | hx
  · exact h1.one x hx
  · exact h2.one x hx) (fun v W W' k h => h.keeps k)
theorem sg1 {W : World} {a b c d e f g h a' b' c' d' e' f' g' h' : Value} {p q : Pq} : SgV W (.agg #[a, b, c, d, e, f, g, h, a', b', c', d', e', f', g', h']) p q → PtV W (.agg #[a, b, c, d, e, f, g, h]) p := by
  rintro ⟨_, _, _, _, _, _, _, _, _, _, _, _, _, _, _, _, e, h1, h2⟩; cases e; exact h1
theorem sg2 {W : World} {a b c d e f g h a' b' c' d' e' f' g' h' : Value} {p q : Pq} : SgV W (.agg #[a, b, c, d, e, f, g, h, a', b', c', d', e', f', g', h']) p q → PtV W (.agg #[a', b', c', d', e', f', g', h']) q := by
  rintro ⟨_, _, _, _, _, _, _, _, _, _, _, _, _, _, _, _, e, h1, h2⟩; cases e; exact h2
theorem mksg {W : World} {a b c d e f g h a' b' c' d' e' f' g' h' : Value} {p q : Pq} (h1 : PtV W (.agg #[a, b, c, d, e, f, g, h]) p) (h2 : PtV W (.agg #[a', b', c', d', e', f', g', h']) q) : SgV W (.agg #[a, b, c, d, e, f, g, h, a', b', c', d', e', f', g', h']) p q :=
  ⟨_, _, _, _, _, _, _, _, _, _, _, _, _, _, _, _, rfl, h1, h2⟩
def sPP (p q : Pq) : Sp := .of (.tup [(none, 9), (none, 9)]) (fun v W => ∃ u t, v = .tuple #[u, t] ∧ PtV W u p ∧ PtV W t q) (fun v W h => by
  obtain ⟨u, t, rfl, h1, h2⟩ := h
  have i1 := h1; have i2 := h2
  obtain ⟨a, b, c, d, e, f, g, i, rfl, _⟩ := h1
  obtain ⟨a', b', c', d', e', f', g', i', rfl, _⟩ := h2
  refine fits2 (u := .bool true) (cs := [a, b, c, d, e, f, g, i, a', b', c', d', e', f', g', i']) (fun x hx => ?_) rfl
  rcases List.mem_append.1 (show x ∈ [a, b, c, d, e, f, g, i] ++ [a', b', c', d', e', f', g', i'] from hx) with hx | hx
  · exact i1.one x hx
  · exact i2.one x hx) (fun v W W' k h => by obtain ⟨u, t, e, h, h'⟩ := h; exact ⟨u, t, e, h.keeps k, h'.keeps k⟩)
theorem pp1 {p q : Pq} {a b : Value} {W : World} : (sPP p q).F (.tuple #[a, b]) W → PtV W a p := by rintro ⟨u, t, e, h, _⟩; cases e; exact h
theorem pp2 {p q : Pq} {a b : Value} {W : World} : (sPP p q).F (.tuple #[a, b]) W → PtV W b q := by rintro ⟨u, t, e, _, h⟩; cases e; exact h
def RetPP (w : World) (p q : Pq) (e : Ending) (w' : World) : Prop := ∃ v u, e = .returned (.tuple #[v, u]) ∧ PtV w' v p ∧ PtV w' u q ∧ w.grownBy w' none
def sQQ (r t : Rat) : Sp := .of (.tup [(none, 5), (none, 5)]) (fun v W => ∃ u s, v = .tuple #[u, s] ∧ RatV W u r ∧ RatV W s t) (fun v W h => by
  obtain ⟨u, t, rfl, ⟨s, xs, b, s', xs', b', rfl, _⟩, z, ys, c, z', ys', c', rfl, _⟩ := h
  exact fits2 (u := .bool true) (cs := [.slice s xs.length xs.length, .bool b, .slice s' xs'.length xs'.length, .bool b', .slice z ys.length ys.length, .bool c, .slice z' ys'.length ys'.length, .bool c']) (by simp [Value.oneCell']) rfl) (fun v W W' k h => by obtain ⟨u, t, e, h, h'⟩ := h; exact ⟨u, t, e, h.keeps k, h'.keeps k⟩)
theorem qq1 {r t : Rat} {a b : Value} {W : World} : (sQQ r t).F (.tuple #[a, b]) W → RatV W a r := by rintro ⟨u, s, e, h, _⟩; cases e; exact h
theorem qq2 {r t : Rat} {a b : Value} {W : World} : (sQQ r t).F (.tuple #[a, b]) W → RatV W b t := by rintro ⟨u, s, e, _, h⟩; cases e; exact h
def RetQQ (w : World) (r t : Rat) (e : Ending) (w' : World) : Prop := ∃ v u, e = .returned (.tuple #[v, u]) ∧ RatV w' v r ∧ RatV w' u t ∧ w.grownBy w' none
section
variable {P : Program} {f : FuncId} {args : Array Value} {W : World}
theorem toPP {p q : Pq} (h : Calls P f args W (RetPP W p q)) : Calls P f args W (Ret W (sPP p q).F) := h.mono fun _ _ ⟨v, u, a, h, h', g⟩ => ⟨_, a, ⟨v, u, rfl, h, h'⟩, g⟩
theorem toQQ {r t : Rat} (h : Calls P f args W (RetQQ W r t)) : Calls P f args W (Ret W (sQQ r t).F) := h.mono fun _ _ ⟨v, u, a, h, h', g⟩ => ⟨_, a, ⟨v, u, rfl, h, h'⟩, g⟩
end
def PAt (w : World) (cs : Array Value) (o : Nat) (p : Pq) : Prop := ∃ a b c d e f g h : Value, cs[o]? = some a ∧ cs[o + 1]? = some b ∧ cs[o + 2]? = some c ∧ cs[o + 3]? = some d ∧ cs[o + 4]? = some e ∧ cs[o + 5]? = some f ∧ cs[o + 6]? = some g ∧ cs[o + 7]? = some h ∧ PtV w (.agg #[a, b, c, d, e, f, g, h]) p
def PtsV (w : World) (v : Value) (l : List Pq) : Prop := ∃ s n c, v = .slice s n c ∧ l.length = n ∧ n ≤ c ∧ (l = [] ∨ ∃ b off cs, s = some ⟨b, off, none⟩ ∧ w.heap[b]? = some (.cells cs 33 (0, 0)) ∧ ∀ i (h : i < l.length), PAt w cs (off + 8 * i) l[i])
def fpS (v : Value) (q : Nat) : Prop := ∃ off n c, v = .slice (some ⟨q, off, none⟩) (n + 1) c
def fpP (v : Value) (q : Nat) : Prop := ∃ off, v = .pointer (some ⟨q, off, none⟩)
theorem PAt.keeps {W W' : World} {cs : Array Value} {o : Nat} {p : Pq} (h : PAt W cs o p) (k : Keeps limbT W W') : PAt W' cs o p := by
  obtain ⟨a, b, c, d, e, f, g, i, h1, h2, h3, h4, h5, h6, h7, h8, h9⟩ := h
  exact ⟨a, b, c, d, e, f, g, i, h1, h2, h3, h4, h5, h6, h7, h8, h9.keeps k⟩
theorem PtsV.keeps {W W' : World} {v : Value} {l : List Pq} (h : PtsV W v l) (k : Keeps limbT W W') (hq : ∀ q, fpS v q → W'.heap[q]? = W.heap[q]?) : PtsV W' v l := by
  obtain ⟨s, n, c, rfl, hl, hn, h⟩ := h
  refine ⟨s, n, c, rfl, hl, hn, ?_⟩
  by_cases h0 : l = []
  · exact .inl h0
  · obtain ⟨b, off, cs, rfl, hb, hc⟩ := h.resolve_left h0
    obtain ⟨m, rfl⟩ : ∃ m, n = m + 1 := ⟨n - 1, by have := List.length_pos_iff.2 h0; omega⟩
    exact .inr ⟨b, off, cs, rfl, by rw [hq b ⟨off, m, c, rfl⟩]; exact hb, fun i hi => (hc i hi).keeps k⟩
theorem PtsV.inb {W : World} {v : Value} {l : List Pq} (h : PtsV W v l) (q : Nat) (hq : fpS v q) : q < W.heap.size := by
  obtain ⟨s, n, c, rfl, hl, hn, h⟩ := h
  obtain ⟨off, m, c', e⟩ := hq
  cases e
  rcases h with h | ⟨b, off', cs, e, hb, _⟩
  · rw [h] at hl; simp at hl
  · cases e; exact (Array.getElem?_eq_some_iff.1 hb).1
def sPts (s0 : Nat) (l : List Pq) : Sp where
  sh := .one
  F v W := PtsV W v l ∧ ∀ q, fpS v q → s0 ≤ q
  fits v W h := by obtain ⟨⟨s, n, c, rfl, _⟩, _⟩ := h; exact ⟨fun _ => .slice s n c, fun _ => rfl, rfl⟩
  row := true
  fp v _ q := fpS v q
  lasts v W W' k hq h := ⟨⟨h.1.keeps k hq, h.2⟩, fun _ h => h⟩
  inb v W h q hq := h.1.inb q hq
  flat h := by cases h
def RetPts (w : World) (l : List Pq) (e : Ending) (w' : World) : Prop := ∃ v, e = .returned v ∧ PtsV w' v l ∧ w.grownBy w' none ∧ ∀ q, fpS v q → w.heap.size ≤ q
theorem toPts {P : Program} {f : FuncId} {args : Array Value} {W : World} {l : List Pq} {old : Nat → Prop} {s0 : Nat} (hs : s0 ≤ W.heap.size) (h : Calls P f args W (RetPts W l)) : Calls P f args W (RetS W (sPts s0 l) old) :=
  h.mono fun _ _ ⟨v, a, h, g, hq⟩ => ⟨v, a, ⟨h, fun q hf => Nat.le_trans hs (hq q hf)⟩, g, fun q hf => .inl (hq q hf)⟩
section
variable {P : Program} {ρ : Operand → Value} {o : Oper} {W : World}
theorem pts_len {t : TypeId} {x : Operand} {v : Value} {l : List Pq} (h : PtsV W v l) (ho : o.op = .call ⟨.builtin .len, #[x], #[t]⟩) (hx : ρ x = v) (hu : ∃ el, Tryz.prog.underlying t = some (.slice el)) :
    (execOp ρ o).run Tryz.prog W = .ok (.value (.int .i64 l.length)) W := by
  obtain ⟨s, n, c, rfl, hl, hn, h⟩ := h
  obtain ⟨el, hu⟩ := hu
  simp [execOp, ho, resolve, invoke, builtin, Builtin.len_, run_underlying hu W, hx, goInt, hl]
end
end Go.Proofs.YtoaepibannfbdaaGreatDoor
