/- What the laws lean on, part 10. -/
import Derived.Deep.RegionHeld3
import Derived.Test.YtgbbdgioohaknaaGreatDoorRows
import Derived.WalkKit
import Derived.ProofKit
import Derived.OpenShut
import Derived.Deep.DeepHandedRow
import Derived.Shelf.Spec.TrailingZeros
import Derived.Test.YtgbbdgioohaknaaGreatDoorPb9
namespace Go.Proofs.YtgbbdgioohaknaaGreatDoor
open Go.RowKit Mat
set_option maxRecDepth 100000
set_option linter.unusedVariables false
set_option linter.unusedSimpArgs false
def hM_ (l : List Nat) : Bool := l.all (fun d => Nat.ble 48 d && Nat.ble d 57) && (l == [48] || (!l.isEmpty && l.head? != some 48))
theorem cc_ {l : List Nat} (h : hM_ l = true) : cF_ l := by
 unfold hM_ at h
 simp only [Bool.and_eq_true, Bool.or_eq_true, List.all_eq_true] at h
 obtain ⟨h1, h2⟩ := h
 refine ⟨fun k hk => ?_, ?_⟩
 · have := h1 _ (List.getElem_mem hk)
   simpa using this
 · rcases h2 with h2 | h2
   · left; simpa using h2
   · right; simpa using h2
theorem li_ {l : List Nat} (h : hM_ l = false) : ¬ cF_ l := by
 intro hd
 have : hM_ l = true := by
  unfold hM_
  simp only [Bool.and_eq_true, Bool.or_eq_true, List.all_eq_true]
  refine ⟨fun x hx => ?_, ?_⟩
  · obtain ⟨k, hk, rfl⟩ := List.getElem_of_mem hx
    simpa using hd.1 k hk
  · rcases hd.2 with h2 | h2
    · left; simpa using h2
    · right; simpa using h2
 rw [h] at this; cases this
theorem cd_ (l : List Nat) : hM_ l = true ↔ cF_ l := by
 constructor
 · exact cc_
 · intro h
   cases e : hM_ l
   · exact absurd h (li_ e)
   · rfl
theorem iT_ {l : List Nat} (h : hM_ l = true) : aC_ l < 10 ^ l.length := by
 have hd := (cc_ h).1
 rw [ek_ hd]
 have := ba_ 10 _ (gz_ hd)
 rw [List.length_reverse, List.length_map] at this; exact this
theorem fn_ {l : List Nat} {E : Nat} (h : cF_ l) (hl : l.length ≤ 19 * E) : aC_ l < B ^ E := by
 refine Nat.lt_of_lt_of_le (iT_ ((cd_ l).2 h)) ?_
 refine Nat.le_trans (Nat.pow_le_pow_right (by omega) hl) ?_
 rw [Nat.pow_mul]
 exact Nat.pow_le_pow_left (by unfold B; decide) E
theorem lh_ {l : List Nat} (h : cF_ l) (hl : l.length ≤ 4097) : aC_ l < B ^ 216 := fn_ h (by omega)
def eE_ (l : List Nat) : Bool := l.head? == some 45
def dC_ (l : List Nat) : List Nat := if eE_ l = true then l.tail else l
def zok (l : List Nat) : Bool := hM_ (dC_ l) && !(eE_ l && dC_ l == [48])
def hm_ (l : List Nat) : Int := if eE_ l = true then -(aC_ (dC_ l) : Int) else aC_ (dC_ l)
def de_ (s : ByteArray) : Int := if 4097 < s.size then 2 else if zok (bts s) = false then 3 else if 4096 < (dC_ (bts s)).length then 2 else 0
def aL_ (s : ByteArray) : Int := if de_ s = 0 then hm_ (bts s) else 0
theorem eV_ {l : List Nat} (h : eE_ l = true) : dC_ l = l.tail := by unfold dC_; rw [if_pos h]
theorem eU_ {l : List Nat} (h : eE_ l = false) : dC_ l = l := by unfold dC_; rw [h]; rfl
theorem aS_ (l : List Nat) : zok l = true ↔ (cF_ (dC_ l) ∧ ¬ (eE_ l = true ∧ aC_ (dC_ l) = 0)) := by
 unfold zok
 rw [Bool.and_eq_true, cd_]
 constructor
 · rintro ⟨h1, h2⟩
   refine ⟨h1, ?_⟩
   rintro ⟨h3, h4⟩
   have : dC_ l = [48] := em_ h1 (cc_ (by decide +kernel)) (h4.trans (by decide +kernel))
   rw [h3, this] at h2; simp at h2
 · rintro ⟨h1, h2⟩
   refine ⟨h1, ?_⟩
   cases e : eE_ l
   · rfl
   · cases e2 : (dC_ l == [48])
     · rfl
     · exact absurd ⟨e, by rw [beq_iff_eq.1 e2]; decide +kernel⟩ h2
theorem hY_ {s : ByteArray} (h : 4097 < s.size) : de_ s = 2 ∧ aL_ s = 0 := by
 have : de_ s = 2 := by unfold de_; rw [if_pos h]
 exact ⟨this, by unfold aL_; rw [this]; rfl⟩
theorem df_ {s : ByteArray} (h : s.size ≤ 4097) (h1 : ¬ zok (bts s) = true) : de_ s = 3 ∧ aL_ s = 0 := by
 have : de_ s = 3 := by unfold de_; rw [if_neg (by omega), if_pos (by simpa using h1)]
 exact ⟨this, by unfold aL_; rw [this]; rfl⟩
theorem hX_ {s : ByteArray} (h : s.size ≤ 4097) (h1 : zok (bts s) = true) (h2 : 4096 < (dC_ (bts s)).length) : de_ s = 2 ∧ aL_ s = 0 := by
 have : de_ s = 2 := by unfold de_; rw [if_neg (by omega), if_neg (by rw [h1]; simp), if_pos h2]
 exact ⟨this, by unfold aL_; rw [this]; rfl⟩
theorem fE_ {s : ByteArray} (h : s.size ≤ 4097) (h1 : zok (bts s) = true) (h2 : (dC_ (bts s)).length ≤ 4096) : de_ s = 0 ∧ aL_ s = hm_ (bts s) := by
 have : de_ s = 0 := by unfold de_; rw [if_neg (by omega), if_neg (by rw [h1]; simp), if_neg (by omega)]
 exact ⟨this, by unfold aL_; rw [if_pos this]⟩
def pfx (s p : ByteArray) : Bool := decide (p.size ≤ s.size) && ((s.extract 0 p.size).toList == p.toList)
theorem gU_ (s : ByteArray) : pfx s { data := #[45] } = eE_ (bts s) := by
 have e1 : (s.extract 0 1).toList = s.data.toList.take 1 := by
  obtain ⟨⟨l⟩⟩ := s
  rw [ByteArray.extract_mk, ByteArray.toList_eq]
  simp
 have e2 : s.size = s.data.toList.length := by simp only [Array.length_toList]; rfl
 unfold pfx eE_ bts
 show (decide (1 ≤ s.size) && ((s.extract 0 1).toList == (⟨#[45]⟩ : ByteArray).toList)) = _
 rw [e1, e2, ByteArray.toList_eq]
 generalize s.data.toList = l
 cases l with
 | nil => rfl
 | cons x t =>
  simp only [List.length_cons, List.take_succ_cons, List.take_zero, List.map_cons, List.head?_cons]
  by_cases h : x = 45
  · subst h; simp
  · have : x.toNat ≠ 45 := fun e => h (UInt8.toNat_inj.1 e)
    have hx1 : (x == 45) = false := beq_eq_false_iff_ne.2 h
    have hx2 : (x.toNat == 45) = false := beq_eq_false_iff_ne.2 this
    simp [hx1, hx2]
theorem ix_ (w : World) (s p : ByteArray) :
    Calls Tryz.prog 135 #[.string s, .string p] w (fun e w' => e = .returned (.bool (pfx s p)) ∧ w = w') := by
 by_cases h : p.size ≤ s.size
 · go_enter Tryz.func135, Tryz.ntmps135
   go_wp2_with fail
   go_ret
   refine ⟨?_, rfl⟩
   show Ending.returned (Value.bool ((s.extract 0 p.size).toList == p.toList)) = _
   unfold pfx; simp [h]
 · go_enter Tryz.func135, Tryz.ntmps135
   go_wp2_with fail
   go_ret
   refine ⟨?_, rfl⟩
   show Ending.returned (Value.bool false) = _
   unfold pfx; simp [h]
theorem ki_ (w : World) (s p : ByteArray) (h : pfx s p = true) :
    Calls Tryz.prog 116 #[.string s, .string p] w (fun e w' => e = .returned (.tuple #[.string (s.extract p.size s.size), .bool true]) ∧ w = w') := by
 have H := H_ h
 have hp : p.size ≤ s.size ∨ False := Or.inl (by unfold pfx at h; simp at h; exact h.1)
 clear h
 go_enter Tryz.func116, Tryz.ntmps116
 go_wp2_with fail
 replace hp := hp.resolve_right id
 refine (ix_ w s p).mono ?_
 rintro e w' ⟨rfl, rfl⟩
 rw [H.out]
 go_wp2_with fail
 go_ret2
 exact ⟨rfl, rfl⟩
theorem jd_ (w : World) (s p : ByteArray) (h : pfx s p = false) :
    Calls Tryz.prog 116 #[.string s, .string p] w (fun e w' => e = .returned (.tuple #[.string s, .bool false]) ∧ w = w') := by
 have H := H_ h
 have hp : p.size ≤ s.size ∨ True := Or.inr trivial
 clear h
 go_enter Tryz.func116, Tryz.ntmps116
 go_wp2_with fail
 refine (ix_ w s p).mono ?_
 rintro e w' ⟨rfl, rfl⟩
 rw [H.out]
 go_wp2_with fail
 go_ret2
 exact ⟨rfl, rfl⟩
theorem ll_ (w : World) (s p : ByteArray) (h : pfx s p = true) :
    Calls Tryz.prog 90 #[.string s, .string p] w (fun e w' => e = .returned (.tuple #[.string (s.extract p.size s.size), .bool true]) ∧ w = w') := by
 have H := H_ h
 have hp : p.size ≤ s.size ∨ False := Or.inl (by unfold pfx at h; simp at h; exact h.1)
 clear h
 go_enter Tryz.func90, Tryz.ntmps90
 go_wp2_with fail
 refine (ki_ w s p H.out).mono ?_
 rintro e w' ⟨rfl, rfl⟩
 go_wp2_with fail
 go_ret2
 exact ⟨rfl, rfl⟩
theorem kj_ (w : World) (s p : ByteArray) (h : pfx s p = false) :
    Calls Tryz.prog 90 #[.string s, .string p] w (fun e w' => e = .returned (.tuple #[.string s, .bool false]) ∧ w = w') := by
 have H := H_ h
 have hp : p.size ≤ s.size ∨ True := Or.inr trivial
 clear h
 go_enter Tryz.func90, Tryz.ntmps90
 go_wp2_with fail
 refine (jd_ w s p H.out).mono ?_
 rintro e w' ⟨rfl, rfl⟩
 go_wp2_with fail
 go_ret2
 exact ⟨rfl, rfl⟩
set_option maxHeartbeats 2000000 in
theorem gW_ (w : World) (s : ByteArray) (hs : s.size ≤ 4097) (h1 : 1 < s.size) :
    Calls Tryz.prog 91 #[.string s] w (eR_ w s) := by
 obtain ⟨x0, ex0⟩ : ∃ x, (s[0]'(by omega)).toNat = x := ⟨_, rfl⟩
 have HB0 : Hid (¬ s.toList = [48] ∧ ¬ s.toList = [] ∧ (bts s).head? = some x0) := by
  refine ⟨fun h => ?_, fun h => ?_, by rw [aO_ s (by omega), ex0]⟩
  · have := (jg_ s).2 h
    have h2 := z_ s; rw [this] at h2; simp at h2; omega
  · have := (ft_ s).2 h
    have h2 := z_ s; rw [this] at h2; simp at h2; omega
 obtain ⟨bb, f9, HK⟩ : ∃ bb : Bool, ((x0 : Int) != 48) = bb ∧ Hid (bb = true ↔ (s.toList = [48] ∨ (s.toList ≠ [] ∧ (bts s).head? ≠ some 48))) := by
  obtain ⟨q1, q2, q3⟩ := HB0.out
  refine ⟨_, rfl, ?_⟩
  show _ ↔ _
  rw [q3]
  by_cases h : x0 = 48
  · subst h
    constructor
    · intro h; cases h
    · rintro (h | ⟨h, h2⟩)
      · exact absurd h q1
      · exact absurd rfl h2
  · have hne : ((x0 : Int) == 48) = false := beq_eq_false_iff_ne.2 (by omega)
    rw [bne, hne]
    exact ⟨fun _ => Or.inr ⟨q2, fun e => h (Option.some.inj e)⟩, fun _ => rfl⟩
 all_goals (
  go_enter Tryz.func91, Tryz.ntmps91
  go_wp2_with fail
  go_loopw [6] (fun i wr => ∃ k : Nat, k ≤ s.size ∧ i = .int .i64 k ∧ w = wr ∧ Hid (∀ j (h : j < s.size), j < k → 48 ≤ (s[j]'h).toNat ∧ (s[j]'h).toNat ≤ 57)) (fun i _ => s.size - (intOf i).toNat)
  case atStart => exact ⟨0, Nat.zero_le _, rfl, rfl, fun j h h0 => absurd h0 (by omega)⟩
  case round =>
   obtain ⟨k, hk, rfl, rfl, hd⟩ := hrel
   by_cases hlt : k < s.size
   · obtain ⟨x, ex⟩ : ∃ x, (s[k]'hlt).toNat = x := ⟨_, rfl⟩
     by_cases hx : 48 ≤ x ∧ x ≤ 57
     · have f1 : decide ((x : Int) < 48) = false := decide_eq_false (by omega)
       have f2 : decide ((57 : Int) < (x : Int)) = false := decide_eq_false (by omega)
       go_wp2_with fail
       go_roundw
       case rel =>
        refine ⟨k + 1, by omega, by go_num, by trivial, fun j h hj => ?_⟩
        rcases Nat.lt_or_ge j k with h1 | h1
        · exact hd.out j h h1
        · obtain rfl : j = k := by omega
          rw [ex]; exact hx
       case measure => simp [intOf]; omega
     · have HF : Hid (eR_ w s (.returned (.bool false)) w) := jc_ k hlt (by rw [ex]; exact hx)
       go_wp2_with fail
       all_goals first | (go_ret; exact HF.out) | (exfalso; omega)
   · obtain rfl : k = s.size := by omega
     have HE := H_ (jb_ (w := w) hd.out bb HK.out)
     clear hd
     go_wp2_with fail
     go_ret
     exact HE.out)
def Ints (w : World) (g : Nat) (zs : List Nat) : Prop := RBlk w g (zs.map iv).toArray
theorem Ints.drewN {w : World} {g : Nat} {zs : List Nat} (h : Ints w g zs) (q : Nat) : Ints (w.drewN q) g zs := h
theorem Ints.cell {w : World} {g : Nat} {zs : List Nat} {n : Nat} (h : Ints w g zs) (hn : zs.length = n) (j : Nat) (hj : j < n) : w.cell? ⟨g, j, none⟩ = some (.int .i64 (zs.getD j 0 : Int)) := by
 rw [RBlk.cell h, List.getElem?_toArray, List.getElem?_map, List.getD_eq_getElem?_getD, List.getElem?_eq_getElem (by omega)]; rfl
theorem Ints.frozen {w : World} {g : Nat} {zs : List Nat} (h : Ints w g zs) (j : Nat) : w.frozen? ⟨g, j, none⟩ = false := RBlk.frozen h j
theorem Ints.rd {w : World} {g : Nat} {zs : List Nat} (h : Ints w g zs) : RRdo w (some ⟨g, 0, none⟩) zs := by
 refine Or.inr ⟨g, 0, _, rfl, h, fun i hi => ?_⟩
 rw [Nat.zero_add, List.getElem?_toArray, List.getElem?_map, List.getElem?_eq_getElem hi]; rfl
def RIntV (w : World) (v : Value) (z : Int) : Prop := ∃ (g : Int) (s : Option Addr) (l c : Nat), v = .agg #[.int .i64 g, .slice s l c] ∧ Hid (g = z.sign) ∧ RefV w (.agg #[.slice s l c]) z.natAbs
theorem RIntV.kept {w w' : World} {v : Value} {z : Int} (h : RIntV w v z) (hg : w.grownBy w' none) : RIntV w' v z := by
 obtain ⟨g, s, l, c, e, h1, h2⟩ := h
 exact ⟨g, s, l, c, e, h1, h2.kept hg⟩
theorem RIntV.zero (w : World) : RIntV w (.agg #[.int .i64 0, .slice none 0 0]) 0 := ⟨0, none, 0, 0, rfl, rfl, RefV.zero w⟩
def Z_ (w : World) (z : Int) (e : Ending) (w' : World) : Prop := ∃ v, e = .returned v ∧ RIntV w' v z ∧ w.grownBy w' none
theorem RIntV.set_other {w : World} {v : Value} {n : Int} {g : Nat} {c : Array Value} {t : TypeId} (h : RIntV w v n) (hbox : w.heap[g]? = some (.cells c t (0, 0))) (ht : t ≠ 3) (o : Nat) (u : Value) : RIntV (w.setCell ⟨g, o, none⟩ u) v n := by
 obtain ⟨s, a, l, k, e, h1, h2⟩ := h
 exact ⟨s, a, l, k, e, h1, h2.set_other hbox ht o u⟩
theorem cE_ {w : World} {g : Nat} {a0 a1 : Value} {t : TypeId} (h : w.heap[g]? = some (.cells #[a0, a1] t (0, 0))) (v0 : Value) : (w.setCell ⟨g, 0, none⟩ v0).heap[g]? = some (.cells #[v0, a1] t (0, 0)) := by
 simp [World.setCell, Array.getElem?_modify, h]
theorem bn_ {w w' : World} {g : Nat} (hg : w.grownBy w' none) (hl : w.heap.size ≤ g) (v0 v1 : Value) : w.grownBy ((w'.setCell ⟨g, 0, none⟩ v0).setCell ⟨g, 1, none⟩ v1) none :=
 s_ (s_ hg (q_ (h_ _ _) _ _) hl) (q_ (h_ _ _) _ _) hl
theorem au_ {w w' : World} {z : Int} {g : Nat} {a0 a1 v0 v1 : Value} (hg : w.grownBy w' none) (hbox : w'.heap[g]? = some (.cells #[a0, a1] 36 (0, 0))) (hl : w.heap.size ≤ g) (h : RIntV w' (.agg #[v0, v1]) z) :
    Z_ w z (.returned (.agg #[v0, v1])) ((w'.setCell ⟨g, 0, none⟩ v0).setCell ⟨g, 1, none⟩ v1) :=
 ⟨_, rfl, (h.set_other hbox (by decide) 0 v0).set_other (cE_ hbox v0) (by decide) 1 v1, bn_ hg hl v0 v1⟩
theorem eI_ {w : World} {s : Option Addr} {l c n : Nat} (h : RefV w (.agg #[.slice s l c]) n) : (n = 0 → l = 0) ∧ (0 < n → 0 < l) := by
 obtain ⟨s', l', c', xs, e, hl, -, -, ht, -, hv⟩ := h
 cases e
 refine ⟨fun h0 => ?_, fun h0 => ?_⟩
 · have := (aZ_ D bi_ xs ht).1 (hv.trans h0)
   rw [← hl, this]; rfl
 · rcases Nat.eq_zero_or_pos l with h1 | h1
   · rw [h1] at hl
     rw [List.length_eq_zero_iff.1 hl] at hv
     simp [val] at hv; omega
   · exact h1
set_option maxHeartbeats 4000000 in
theorem K_ (w : World) (va : Value) (s : Int) (n : Nat) (z : Int) (Ha : RefV w va n) (hz : z.natAbs = n) (hs : n = 0 ∨ z.sign = s) :
    Calls Tryz.prog 57 #[.int .i64 s, va] w (Z_ w z) := by
 have HS : Hid (n = 0 ∨ z.sign = s) := hs
 have HZ := H_ hz
 clear hz hs
 have HL := H_ Ha
 rcases Nat.eq_zero_or_pos n with h0 | h0
 · skip
   obtain rfl : z = 0 := by have := HZ.out; omega
   subst h0
   obtain ⟨sa, la, ca, ya, rfl, ha⟩ := Ha
   obtain rfl : la = 0 := (eI_ HL.out).1 rfl
   have Ha : RefV w (.agg #[.slice sa 0 ca]) 0 := HL.out
   clear HL ha HS HZ
   obtain ⟨hG, Ba, Bq⟩ := en2_ w (.cells #[.slice sa 0 ca] 34) (.cells #[.int .i64 0, .slice none 0 0] 36)
   have ma := Ha.kept hG
   go_enter Tryz.func57, Tryz.ntmps57
   obtain ⟨Ca0, Fa0⟩ := j_ Ba
   obtain ⟨Cq0, Cq1, Fq0, Fq1⟩ := c_ Bq
   have hG' : w.grownBy ((w.alloc (.cells #[.slice sa 0 ca] 34)).alloc (.cells #[.int .i64 0, .slice none 0 0] 36)) none := (l_ (wg_ _ _ _) _)
   have hF : Hid (Z_ w (0) (.returned (.agg #[.int .i64 0, .slice none 0 0])) ((w.alloc (.cells #[.slice sa 0 ca] 34)).alloc (.cells #[.int .i64 0, .slice none 0 0] 36))) := ⟨_, rfl, RIntV.zero _, hG'⟩
   clear hG' ma
   go_wp2_with fail
   exact bodyPost_ret (v := .agg #[.int .i64 0, .slice none 0 0]) (by simp [results, Tryz.results57, go_sem]) rfl hF.out
 · skip
   obtain hs : z.sign = s := HS.out.resolve_left (by omega)
   obtain ⟨sa, la, ca, ya, rfl, ha⟩ := Ha
   have hl := (eI_ HL.out).2 h0
   have f1 : ((la : Int) == 0) = false := beq_eq_false_iff_ne.2 (by omega)
   have Ha : RefV w (.agg #[.slice sa la ca]) n := HL.out
   have HS2 := H_ hs
   clear HL ha HS hs hl
   obtain ⟨hG, Ba, Bq⟩ := en2_ w (.cells #[.slice sa la ca] 34) (.cells #[.int .i64 0, .slice none 0 0] 36)
   have ma := Ha.kept hG
   go_enter Tryz.func57, Tryz.ntmps57
   obtain ⟨Ca0, Fa0⟩ := j_ Ba
   obtain ⟨Cq0, Cq1, Fq0, Fq1⟩ := c_ Bq
   have hG' : w.grownBy ((w.alloc (.cells #[.slice sa la ca] 34)).alloc (.cells #[.int .i64 s, .slice sa la ca] 36)) none := (l_ (wg_ _ _ _) _)
   have hF : Hid (Z_ w (z) (.returned (.agg #[.int .i64 s, .slice sa la ca])) ((w.alloc (.cells #[.slice sa la ca] 34)).alloc (.cells #[.int .i64 s, .slice sa la ca] 36))) := ⟨_, rfl, ⟨s, sa, la, ca, rfl, HS2.out.symm, by rw [HZ.out]; exact Ha.kept hG'⟩, hG'⟩
   clear hG' ma
   go_wp2_with fail
   exact bodyPost_ret (v := .agg #[.int .i64 s, .slice sa la ca]) (by simp [results, Tryz.results57, go_sem]) rfl hF.out
theorem dR_ (z : Int) : -1 ≤ z.sign ∧ z.sign ≤ 1 := by
 rcases bl_ z with ⟨_, e⟩ | ⟨_, e⟩ | ⟨_, e⟩ <;> omega
set_option maxHeartbeats 4000000 in
theorem ff_ (w : World) (va : Value) (x : Int) (Ha : RIntV w va x) :
    Calls Tryz.prog 72 #[va] w (Z_ w (-x)) := by
 obtain ⟨ga, sa, la, ca, rfl, ha, ma⟩ := Ha
 obtain ⟨hG, Ba, Bq⟩ := en2_ w (.cells #[.int .i64 ga, .slice sa la ca] 36) (.cells #[.int .i64 0, .slice none 0 0] 36)
 have oa : RIntV w (.agg #[.int .i64 ga, .slice sa la ca]) (x) := ⟨ga, sa, la, ca, rfl, ha, ma⟩
 have ra := oa.kept hG
 have ma' := (show RefV w (.agg #[.slice sa la ca]) (x).natAbs from ma).kept hG
 clear ma
 go_enter Tryz.func72, Tryz.ntmps72
 have hb := dR_ x
 rw [← ha.out] at hb
 obtain ⟨hb1, hb2⟩ := hb
 obtain ⟨Ca0, Ca1, Fa0, Fa1⟩ := c_ Ba
 obtain ⟨Cq0, Cq1, Fq0, Fq1⟩ := c_ Bq
 go_wp2_with fail
 generalize ((w.alloc (.cells #[.int .i64 ga, .slice sa la ca] 36)).alloc (.cells #[.int .i64 0, .slice none 0 0] 36)) = w0 at *
 clear Ca0 Fa0 Ca1 Fa1 Cq0 Fq0 Cq1 Fq1
 refine (K_ w0 _ (-ga) x.natAbs (-x) ma' (by omega) (Or.inr (by rw [Int.sign_neg, ha.out]))).mono ?_
 rintro e w1 ⟨_, rfl, ⟨gd, sd, ld, cd, rfl, hd, md⟩, gw1⟩
 have rd : RIntV w1 (.agg #[.int .i64 gd, .slice sd ld cd]) (-x) := ⟨gd, sd, ld, cd, rfl, hd, md⟩
 replace Ba := a_ gw1 Ba
 replace Bq := a_ gw1 Bq
 replace hG := d_ hG gw1
 clear gw1
 clear md
 obtain ⟨Ca0, Ca1, Fa0, Fa1⟩ := c_ Ba
 obtain ⟨Cq0, Cq1, Fq0, Fq1⟩ := c_ Bq
 clear Ca0 Fa0 Ca1 Fa1 Cq0 Fq0 Cq1 Fq1
 obtain ⟨k90, k91, k92, k93⟩ := c_ Bq
 obtain ⟨q90, q91, q92, q93⟩ := c_ (m_ Bq (.int .i64 gd) (.slice sd ld cd))
 have hF : Hid (Z_ w (-x) (.returned (.agg #[.int .i64 gd, .slice sd ld cd])) ((w1.setCell ⟨w.heap.size + 1, 0, none⟩ (.int .i64 gd)).setCell ⟨w.heap.size + 1, 1, none⟩ (.slice sd ld cd))) := au_ hG Bq (by omega) rd
 clear ra ma' rd
 go_wp2_with fail
 exact bodyPost_ret (v := .agg #[.int .i64 gd, .slice sd ld cd]) (by simp [results, Tryz.results72, go_sem, q90, q91]) rfl hF.out
theorem lA_ (w : World) : Calls Tryz.prog 74 #[.int .u64 1] w (bJ_ w 1) := fe_ w 1 (by decide)
theorem lX_ {m E : Nat} (h : m < B) (hE : 5 ≤ E) : m < D ^ E :=
 Nat.lt_of_lt_of_le h (Nat.le_trans (show B ≤ D ^ 5 by unfold B D; decide) (Nat.pow_le_pow_right bi_ hE))
theorem jZ_ {m : Nat} (h : m < B) : m < D ^ 1000000 := by
 obtain ⟨E, hE⟩ : ∃ E, E = 1000000 := ⟨_, rfl⟩
 rw [← hE]; exact lX_ h (by omega)
set_option maxHeartbeats 4000000 in
theorem aq_ (w : World) (n : Int) (h1 : -9223372036854775808 ≤ n) (h2 : n ≤ 9223372036854775807) :
    Calls Tryz.prog 27 #[.int .i64 n] w (Z_ w n) := by
 by_cases hn : n < 0
 · skip
   have f1 : decide (n < 0) = true := decide_eq_true hn
   obtain ⟨m, hm⟩ : ∃ m : Nat, n = -(m : Int) - 1 := ⟨(-(n + 1)).toNat, by omega⟩
   obtain ⟨k1, hk1⟩ : ∃ k, IntKind.i64.wrap (n + 1) = k := ⟨_, rfl⟩
   obtain ⟨k2, hk2⟩ : ∃ k, IntKind.i64.wrap (-k1) = k := ⟨_, rfl⟩
   have hk3 : IntKind.u64.wrap k2 = (m : Int) := by rw [IntKind.wrap_i64] at hk1 hk2; rw [IntKind.wrap_u64]; omega
   have HM : Hid (m < B) := by show m < B; unfold B; omega
   have HB1 : Hid (m < D ^ 1000000) := H_ (jZ_ HM.out)
   have HB2 : Hid (1 < D ^ 1000000) := H_ (jZ_ (show 1 < B by unfold B; omega))
   have HN : Hid (n.natAbs = m + 1) := by show _ = _; omega
   have HSG : Hid (n.sign = -1) := Int.sign_eq_neg_one_of_neg hn
   clear hm h1 h2 hn
   obtain ⟨hG, Bq⟩ := en1_ w (.cells #[.int .i64 0, .slice none 0 0] 36)
   go_enter Tryz.func27, Tryz.ntmps27
   obtain ⟨Cq0, Cq1, Fq0, Fq1⟩ := c_ Bq
   go_wp2_with fail
   generalize (w.alloc (.cells #[.int .i64 0, .slice none 0 0] 36)) = w0 at *
   clear Cq0 Fq0 Cq1 Fq1
   refine (fe_ w0 m HM.out).mono ?_
   rintro e w1 ⟨vp, rfl, mp, gw1⟩
   replace Bq := a_ gw1 Bq
   replace hG := d_ hG gw1
   clear gw1
   obtain ⟨Cq0, Cq1, Fq0, Fq1⟩ := c_ Bq
   go_wp2_with fail
   clear Cq0 Fq0 Cq1 Fq1
   refine (lA_ w1).mono ?_
   rintro e w2 ⟨vo, rfl, mo, gw2⟩
   replace Bq := a_ gw2 Bq
   replace mp := mp.kept gw2
   replace hG := d_ hG gw2
   clear gw2
   obtain ⟨Cq0, Cq1, Fq0, Fq1⟩ := c_ Bq
   go_wp2_with fail
   clear Cq0 Fq0 Cq1 Fq1
   refine (fg_ w2 _ _ m 1 mp mo HB1.out HB2.out).mono ?_
   rintro e w3 ⟨vs, rfl, ms, gw3⟩
   replace Bq := a_ gw3 Bq
   replace hG := d_ hG gw3
   clear gw3
   obtain ⟨Cq0, Cq1, Fq0, Fq1⟩ := c_ Bq
   go_wp2_with fail
   clear Cq0 Fq0 Cq1 Fq1
   refine (K_ w3 _ (-1) (m + 1) n ms HN.out (Or.inr HSG.out)).mono ?_
   rintro e w4 ⟨_, rfl, ⟨gd, sd, ld, cd, rfl, hd, md⟩, gw4⟩
   have rd : RIntV w4 (.agg #[.int .i64 gd, .slice sd ld cd]) (n) := ⟨gd, sd, ld, cd, rfl, hd, md⟩
   replace Bq := a_ gw4 Bq
   replace hG := d_ hG gw4
   clear gw4
   clear md
   obtain ⟨Cq0, Cq1, Fq0, Fq1⟩ := c_ Bq
   clear Cq0 Fq0 Cq1 Fq1
   obtain ⟨k90, k91, k92, k93⟩ := c_ Bq
   obtain ⟨q90, q91, q92, q93⟩ := c_ (m_ Bq (.int .i64 gd) (.slice sd ld cd))
   have hF : Hid (Z_ w (n) (.returned (.agg #[.int .i64 gd, .slice sd ld cd])) ((w4.setCell ⟨w.heap.size, 0, none⟩ (.int .i64 gd)).setCell ⟨w.heap.size, 1, none⟩ (.slice sd ld cd))) := au_ hG Bq (by omega) rd
   clear mp mo ms rd
   go_wp2_with fail
   exact bodyPost_ret (v := .agg #[.int .i64 gd, .slice sd ld cd]) (by simp [results, Tryz.results27, go_sem, q90, q91]) rfl hF.out
 · skip
   have f1 : decide (n < 0) = false := decide_eq_false hn
   obtain ⟨m, hm⟩ : ∃ m : Nat, n = (m : Int) := ⟨n.toNat, by omega⟩
   have hk3 : IntKind.u64.wrap n = (m : Int) := by rw [IntKind.wrap_u64]; omega
   have HM : Hid (m < B) := by show m < B; unfold B; omega
   have HN : Hid (n.natAbs = m) := by show _ = _; omega
   have HSG : Hid (m = 0 ∨ n.sign = 1) := by
    show _ ∨ _
    rcases bl_ n with ⟨h, e⟩ | ⟨h, e⟩ | ⟨h, e⟩
    · omega
    · left; omega
    · right; exact e
   clear hm h1 h2 hn
   obtain ⟨hG, Bq⟩ := en1_ w (.cells #[.int .i64 0, .slice none 0 0] 36)
   go_enter Tryz.func27, Tryz.ntmps27
   obtain ⟨Cq0, Cq1, Fq0, Fq1⟩ := c_ Bq
   go_wp2_with fail
   generalize (w.alloc (.cells #[.int .i64 0, .slice none 0 0] 36)) = w0 at *
   clear Cq0 Fq0 Cq1 Fq1
   refine (fe_ w0 m HM.out).mono ?_
   rintro e w1 ⟨vp, rfl, mp, gw1⟩
   replace Bq := a_ gw1 Bq
   replace hG := d_ hG gw1
   clear gw1
   obtain ⟨Cq0, Cq1, Fq0, Fq1⟩ := c_ Bq
   go_wp2_with fail
   clear Cq0 Fq0 Cq1 Fq1
   refine (K_ w1 _ 1 m n mp HN.out HSG.out).mono ?_
   rintro e w2 ⟨_, rfl, ⟨gd, sd, ld, cd, rfl, hd, md⟩, gw2⟩
   have rd : RIntV w2 (.agg #[.int .i64 gd, .slice sd ld cd]) (n) := ⟨gd, sd, ld, cd, rfl, hd, md⟩
   replace Bq := a_ gw2 Bq
   replace hG := d_ hG gw2
   clear gw2
   clear md
   obtain ⟨Cq0, Cq1, Fq0, Fq1⟩ := c_ Bq
   clear Cq0 Fq0 Cq1 Fq1
   obtain ⟨k90, k91, k92, k93⟩ := c_ Bq
   obtain ⟨q90, q91, q92, q93⟩ := c_ (m_ Bq (.int .i64 gd) (.slice sd ld cd))
   have hF : Hid (Z_ w (n) (.returned (.agg #[.int .i64 gd, .slice sd ld cd])) ((w2.setCell ⟨w.heap.size, 0, none⟩ (.int .i64 gd)).setCell ⟨w.heap.size, 1, none⟩ (.slice sd ld cd))) := au_ hG Bq (by omega) rd
   clear mp rd
   go_wp2_with fail
   exact bodyPost_ret (v := .agg #[.int .i64 gd, .slice sd ld cd]) (by simp [results, Tryz.results27, go_sem, q90, q91]) rfl hF.out
def hi_ (w : World) (z : Int) (e : Ending) (w' : World) : Prop := ∃ s, e = .returned (.string s) ∧ ar_ s z ∧ w.grownBy w' none
end Go.Proofs.YtgbbdgioohaknaaGreatDoor
namespace Go.Proofs.YtgbbdgioohaknaaGreatDoor
open Go.ChangeShapes Go.WideShapes Go.ChangeAt Go.RowKit Go.ChangeMaps Mat
set_option maxRecDepth 100000
set_option linter.unusedVariables false
set_option linter.unusedSimpArgs false
theorem cD_ : ownKnob Tryz.prog.godebug = none := by kernel_rfl
theorem gf_ {x y : Int} {k : Nat} (h1 : x.natAbs < B ^ k) (h2 : y.natAbs < B ^ k) : (x + y).natAbs < B ^ (k + 1) := Nat.lt_of_le_of_lt (Int.natAbs_add_le x y) (lL_ h1 h2)
theorem hT_ (s : ByteArray) {n k : Nat} (h : s.size ≤ n) (hk : n ≤ 19 * k) : (aL_ s).natAbs < B ^ k := by
 unfold aL_
 split
 · next hc =>
   have hok : zok (bts s) = true := by
    cases e : zok (bts s)
    · unfold de_ at hc
      rw [e] at hc
      split at hc
      · cases hc
      · simp at hc
    · rfl
   have hd := ((aS_ _).1 hok).1
   have hl : (dC_ (bts s)).length ≤ n := by
    unfold dC_
    split
    · rw [List.length_tail, z_]; omega
    · rw [z_]; exact h
   have hb := fn_ hd (Nat.le_trans hl hk)
   unfold hm_
   split
   · rw [Int.natAbs_neg, Int.natAbs_natCast]; exact hb
   · rw [Int.natAbs_natCast]; exact hb
 · exact Nat.pow_pos T_
theorem fi_ {W W' : World} (h : W.grownBy W' none) : W.keptBut W' (fun _ => False) := by
 refine ⟨h.os, h.output, fun i hi => ?_⟩
 rw [h.block i hi (by simp)]
 cases W.heap[i]? with
 | none => rfl
 | some o => cases o <;> simp
theorem aT_ {H : Type} {enc : TypeId × Value → H} {P : Program} {f : Func} {s : ChangeSpec} {apart fresh handsOn again : Bool} {W W' : World} {args : Array Value} {v : Value} {ds gs : List (DataW H)}
    (hW : DataW.Whole enc P f.params.toList s.vars apart W args.toList ds gs [])
    (hres : ∀ (b : Nat) (sp : Nat → Bool) (hd : Bool), DataW.TrodAll enc P W' b sp hd f.resultTypes.toList (v.resultList f.resultTypes.size) (s.fn H (ds ++ gs)).results [])
    (hargs : ∀ sp : Nat → Bool, DataW.TrodAll enc P W' 0 sp true f.params.toList args.toList (s.fn H (ds ++ gs)).args [])
    (hvars : ∀ sp : Nat → Bool, DataW.TrodVars enc P W' sp s.vars (s.fn H (ds ++ gs)).vars [])
    (hg : W.grownBy W' none)
    (hok : ∀ (j : Nat) (t : TypeId) (r : Value), f.resultTypes[j]? = some t → (v.resultList f.resultTypes.size)[j]? = some r → Value.okWide P W' .any 0 t r) :
    s.post enc P f apart fresh handsOn again W args v W' := by
 refine ⟨ds, gs, [], [], [], [], hW, hres _ _ _, hargs _, hvars _, World.keptBut_mono (fun p hp => hp.elim) (fi_ hg), fun _ => ?_⟩
 refine ⟨hok, _, _, [], ⟨[], [], trodAll_append (hargs _) (hres _ _ _), hvars _, rfl, ?_, ?_⟩, ?_⟩
 · intro b off hp; simp at hp
 · intro _; simp
 · intro p hp; simp at hp
end Go.Proofs.YtgbbdgioohaknaaGreatDoor
namespace Go.Proofs.YtgbbdgioohaknaaGreatDoor
open Go.RowKit Mat
set_option maxRecDepth 100000
set_option linter.unusedVariables false
set_option linter.unusedSimpArgs false
theorem ii_ (v : Value) (W : World) : (Instr.field 24 (.agg #[v]) 0).run Tryz.prog W = .ok v W := by kernel_rfl
def Tab (w : World) : Prop := TabAt 3 Lib.deBruijn64tab w
theorem Tab.kept {w w' : World} {row : Option Nat} (h : Tab w) (hg : w.grownBy w' row) (hr : some 3 ≠ row) : Tab w' := fun j hj => hg.cell (h j hj) hr
theorem Tab.size {w : World} (h : Tab w) : 3 < w.heap.size := by
 have := h 0 (by decide)
 unfold World.cell? at this
 rcases Nat.lt_or_ge 3 w.heap.size with h1 | h1
 · exact h1
 · rw [Array.getElem?_eq_none h1] at this; simp at this
set_option maxHeartbeats 1000000 in
theorem kN_ (x k idx : Nat) (w : World) (hx0 : ((x : Int) == 0) = false)
    (key : IntKind.u64.wrap (bits BinOp.and IntKind.u64 (x : Int) (IntKind.u64.wrap (-(x : Int))) * 285870213051353865) / 288230376151711744 = (idx : Int))
    (hi : idx < 64) (hk : k < 64) (hcell : w.cell? ⟨3, idx, none⟩ = some (.int .u8 k)) :
    Calls Tryz.prog 139 #[.int .u64 x] w fun e w' => e = .returned (.int .i64 k) ∧ w' = w := by
 go_enter Tryz.func139, Tryz.ntmps139
 go_wp2_with (simp only [key])
 go_ret
 exact ⟨rfl, rfl⟩
theorem ib_ (x : Nat) (hx : x < B) (h0 : x ≠ 0) (w : World) (hT : Tab w) :
    Calls Tryz.prog 139 #[.int .u64 x] w fun e w' => e = .returned (.int .i64 (Lib.ctz 64 x)) ∧ w' = w := by
 have hx' : x < 18446744073709551616 := hx
 obtain ⟨hlow, hk⟩ := Lib.lowest_bit 64 x h0 hx'
 obtain ⟨hi, htab⟩ := Lib.deBruijn64_at _ hk
 have hcell := hT _ hi
 rw [htab] at hcell
 exact kN_ x _ _ w (by simp; omega) (tz64_key x _ hx' h0 hlow) hi hk hcell
theorem fs_ (x : Nat) (hx : x < B) (h0 : x ≠ 0) : ∃ m, x = 2 ^ Lib.ctz 64 x * (2 * m + 1) ∧ Lib.ctz 64 x < 64 := by
 have hx' : x < 2 ^ 64 := hx
 have := Lib.ctzFrom_spec 64 x (by omega) hx'
 unfold Lib.ctz
 rw [if_neg h0]
 exact this
theorem ic_ {xs : List Nat} (dx : Dig B xs) (k x : Nat) (hk : k < xs.length) (ex : xs[k] = x) (h0 : val B (xs.take k) = 0) (hx : x ≠ 0) : ∃ m, val B xs = 2 ^ (k * 64 + Lib.ctz 64 x) * (2 * m + 1) ∧ Lib.ctz 64 x < 64 := by
 have hxB : x < B := ex ▸ dx.get k _
 obtain ⟨m, hm, ht⟩ := fs_ x hxB hx
 generalize Lib.ctz 64 x = t at *
 have h1 := aB_ B xs k (by omega)
 rw [h0, Nat.zero_add, List.drop_eq_getElem_cons hk, ex] at h1
 have h2 : val B (x :: xs.drop (k + 1)) = x + B * val B (xs.drop (k + 1)) := rfl
 rw [h2] at h1
 obtain ⟨d, hd⟩ : ∃ d, 64 = t + (d + 1) := ⟨63 - t, by omega⟩
 have hB : B = 2 ^ t * (2 ^ d * 2) := by rw [← Nat.pow_succ, ← Nat.pow_add, ← hd, ← dt_]
 have hBk : B ^ k = 2 ^ (k * 64) := by rw [dt_, ← Nat.pow_mul, Nat.mul_comm]
 refine ⟨m + 2 ^ d * val B (xs.drop (k + 1)), ?_, ht⟩
 rw [h1, hBk, Nat.pow_add, Nat.mul_assoc]
 congr 1
 rw [hB]
 generalize val B (xs.drop (k + 1)) = r
 rw [hm]
 generalize 2 ^ t = a
 generalize 2 ^ d = b
 grind
def lM_ (w : World) (v : Nat) (n : Nat) (e : Ending) (w' : World) : Prop := ∃ t m : Nat, e = .returned (.int .i64 (t : Int)) ∧ v = 2 ^ t * (2 * m + 1) ∧ t < 64 * n ∧ w = w'
set_option maxHeartbeats 1000000 in
theorem dF_ (w : World) (sa : Option Addr) (n cap : Nat) (xs : List Nat) (hn : xs.length = n) (hx : Rdo w sa xs) (dx : Dig B xs) (h0 : 0 < val B xs) (bn : n ≤ 1073741824) (hT : Tab w) :
    Calls Tryz.prog 123 #[.slice sa n cap] w (lM_ w (val B xs) n) := by
 have Hn := H_ hn
 have H0 := H_ h0
 have HT := H_ hT
 have hn0 : 0 < n := by
  rw [← hn]
  rcases Nat.eq_zero_or_pos xs.length with h | h
  · rw [List.length_eq_zero_iff.1 h] at h0; simp [val] at h0
  · exact h
 clear hn h0 hT
 go_enter Tryz.func123, Tryz.ntmps123
 go_wp2_with fail
 go_loopw [3] (fun i wr => ∃ (k : Nat), k < n ∧ i = .int .i64 k ∧ w = wr ∧ Hid (val B (xs.take k) = 0)) (fun i _ => n - (intOf i).toNat)
 case atStart => exact ⟨0, hn0, rfl, rfl, by show _ = _; rw [List.take_zero]; rfl⟩
 case round =>
  obtain ⟨k, hk, rfl, rfl, hv⟩ := hrel
  obtain ⟨b1, o1, rfl, c1⟩ := hx.cell (by rw [Hn.out]; omega)
  have c1 := c1 k (by rw [Hn.out]; omega)
  obtain ⟨x, ex⟩ : ∃ x, xs[k]'(by rw [Hn.out]; omega) = x := ⟨_, rfl⟩
  rw [ex] at c1
  have hxB : x < B := ex ▸ dx.get k _
  have EX := H_ ex
  clear ex
  by_cases hz : x = 0
  · subst hz
    have hv2 : val B (xs.take (k + 1)) = 0 := by rw [w_ B xs k (by rw [Hn.out]; omega), EX.out, hv.out]; omega
    have hk2 : k + 1 < n := by
     rcases Nat.lt_or_ge (k + 1) n with h | h
     · exact h
     · have := H0.out
       rw [List.take_of_length_le (by rw [Hn.out]; omega)] at hv2
       omega
    have HV2 := H_ hv2
    clear hv2
    go_wp2_with fail
    go_roundw
    case rel => exact ⟨k + 1, by omega, by go_num, by trivial, HV2⟩
    case measure => simp [intOf]; omega
  · have t : ((x : Int) == 0) = false := beq_eq_false_iff_ne.2 (by omega)
    obtain ⟨m, hm, ht⟩ := ic_ dx k x (by rw [Hn.out]; omega) EX.out hv.out hz
    obtain ⟨q, hq⟩ : ∃ q, Lib.ctz 64 x = q := ⟨_, rfl⟩
    have hC := ib_ x hxB hz w HT.out
    rw [hq] at hm ht hC
    have HC := H_ hC
    have HM := H_ hm
    clear hC hm hq hxB hz
    go_wp2_with fail
    refine HC.out.mono ?_
    rintro e w' ⟨rfl, rfl⟩
    go_wp2_with fail
    go_ret
    exact ⟨k * 64 + q, m, congrArg Ending.returned (congrArg (Value.int IntKind.i64) (by omega)), HM.out, by omega, rfl⟩
theorem dK_ {x y t m : Nat} (hy : y % 2 = 1) (hxy : y < x) (h : x - y = 2 ^ t * (2 * m + 1)) : Nat.gcd (2 * m + 1) y = Nat.gcd x y := by
 have h1 : Nat.gcd x y = Nat.gcd (x - y) y := (Nat.gcd_sub_self_left (Nat.le_of_lt hxy)).symm
 rw [h1, h]
 have hc : Nat.Coprime (2 ^ t) y := by
  apply Nat.Coprime.pow_left
  rw [Nat.coprime_comm]
  unfold Nat.Coprime
  rw [Nat.gcd_comm, Nat.gcd_rec, hy]
  rfl
 rw [Nat.Coprime.gcd_mul_left_cancel _ hc]
set_option maxHeartbeats 1000000 in
theorem ew_ (w : World) (x0 y0 : Nat) (hx : x0 < B) (hy : y0 < B) (ox : x0 % 2 = 1) (oy : y0 % 2 = 1) (hT : Tab w) :
    Calls Tryz.prog 140 #[.int .u64 x0, .int .u64 y0] w fun e w' => e = .returned (.int .u64 (Nat.gcd x0 y0 : Int)) ∧ w = w' := by
 have HT := H_ hT
 clear hT
 obtain ⟨g, hg⟩ : ∃ g, Nat.gcd x0 y0 = g := ⟨_, rfl⟩
 rw [hg]
 have HG := H_ hg
 clear hg
 go_enter Tryz.func140, Tryz.ntmps140
 go_wp2_with fail
 go_loopw [0, 1] (fun a b wr => ∃ (x y : Nat), a = .int .u64 x ∧ b = .int .u64 y ∧ x < B ∧ y < B ∧ x % 2 = 1 ∧ y % 2 = 1 ∧ w = wr ∧ Hid (Nat.gcd x y = g)) (fun a b _ => (intOf a).toNat + (intOf b).toNat)
 case atStart => exact ⟨x0, y0, rfl, rfl, hx, hy, ox, oy, rfl, HG⟩
 case round =>
  obtain ⟨x, y, rfl, rfl, hxB, hyB, ox, oy, rfl, hg⟩ := hrel
  rcases Nat.lt_trichotomy y x with h | h | h
  · have f1 : ((x : Int) == (y : Int)) = false := beq_eq_false_iff_ne.2 (by omega)
    have f2 : decide (x < y) = false := decide_eq_false (by omega)
    have f3 : IntKind.u64.wrap ((x : Int) - (y : Int)) = ((x - y : Nat) : Int) := by rw [IntKind.wrap_u64]; unfold B at *; omega
    obtain ⟨d, hd⟩ : ∃ d, x - y = d := ⟨_, rfl⟩
    rw [hd] at f3
    have hC := ib_ d (by omega) (by omega) w HT.out
    obtain ⟨m, hm, hq64⟩ := fs_ d (by omega) (by omega)
    obtain ⟨q, hq⟩ : ∃ q, Lib.ctz 64 d = q := ⟨_, rfl⟩
    rw [hq] at hm hC hq64
    have HC := H_ hC
    have HM := H_ hm
    have HD := H_ hd
    have HX := H_ h
    clear hC hm hd h
    go_wp2_with fail
    refine HC.out.mono ?_
    rintro e w' ⟨rfl, rfl⟩
    go_wp2_with fail
    have hgc : Hid (Nat.gcd (2 * m + 1) y = g) := by show _ = _; rw [dK_ oy HX.out (HD.out.trans HM.out)]; exact hg.out
    have hdv : d / 2 ^ q = 2 * m + 1 := by rw [HM.out]; exact Nat.mul_div_cancel_left _ (Nat.two_pow_pos q)
    have hle : 2 * m + 1 ≤ d := by rw [HM.out]; exact Nat.le_mul_of_pos_left _ (Nat.two_pow_pos q)
    have hdx : d < x := by have := HD.out; omega
    have hdi : (d : Int) / 2 ^ q = ((2 * m + 1 : Nat) : Int) := by rw [← hdv]; norm_cast
    go_roundw
    case rel =>
     refine ⟨2 * m + 1, y, ?_, rfl, by omega, hyB, by omega, oy, by trivial, hgc⟩
     rw [hdi]
    case measure =>
     rw [hdi]
     simp only [intOf]
     omega
  · subst h
    have f1 : ((y : Int) == (y : Int)) = true := beq_self_eq_true _
    rw [Nat.gcd_self] at hg
    have HG2 := hg.out
    subst HG2
    go_wp2_with fail
    go_ret
    exact ⟨rfl, rfl⟩
  · have f1 : ((x : Int) == (y : Int)) = false := beq_eq_false_iff_ne.2 (by omega)
    have f2 : decide (x < y) = true := decide_eq_true (by omega)
    have f3 : IntKind.u64.wrap ((y : Int) - (x : Int)) = ((y - x : Nat) : Int) := by rw [IntKind.wrap_u64]; unfold B at *; omega
    obtain ⟨d, hd⟩ : ∃ d, y - x = d := ⟨_, rfl⟩
    rw [hd] at f3
    have hC := ib_ d (by omega) (by omega) w HT.out
    obtain ⟨m, hm, hq64⟩ := fs_ d (by omega) (by omega)
    obtain ⟨q, hq⟩ : ∃ q, Lib.ctz 64 d = q := ⟨_, rfl⟩
    rw [hq] at hm hC hq64
    have HC := H_ hC
    have HM := H_ hm
    have HD := H_ hd
    have HX := H_ h
    clear hC hm hd h
    go_wp2_with fail
    refine HC.out.mono ?_
    rintro e w' ⟨rfl, rfl⟩
    go_wp2_with fail
    have hgc : Hid (Nat.gcd (2 * m + 1) x = g) := by show _ = _; rw [dK_ ox HX.out (HD.out.trans HM.out), Nat.gcd_comm]; exact hg.out
    have hdv : d / 2 ^ q = 2 * m + 1 := by rw [HM.out]; exact Nat.mul_div_cancel_left _ (Nat.two_pow_pos q)
    have hle : 2 * m + 1 ≤ d := by rw [HM.out]; exact Nat.le_mul_of_pos_left _ (Nat.two_pow_pos q)
    have hdx : d < y := by have := HD.out; omega
    have hdi : (d : Int) / 2 ^ q = ((2 * m + 1 : Nat) : Int) := by rw [← hdv]; norm_cast
    go_roundw
    case rel =>
     refine ⟨2 * m + 1, x, ?_, rfl, by omega, hxB, by omega, ox, by trivial, hgc⟩
     rw [hdi]
    case measure =>
     rw [hdi]
     simp only [intOf]
     omega
end Go.Proofs.YtgbbdgioohaknaaGreatDoor
