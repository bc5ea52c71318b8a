/- What the laws lean on, part 26. -/
import Derived.BigQuiet
import Derived.BigRegion
import Derived.Deep.AppendLies
import Derived.Deep.CutBlock
import Derived.Deep.CutRange
import Derived.Deep.DeepCutAuto
import Derived.Deep.LoopGhost
import Derived.Deep.QuietTactic
import Derived.Deep.RegionHeld3
import Derived.Deep.RegionLaw
import Derived.Laws.CopyOwn
import Derived.Laws.Externs
import Derived.Laws.IdiomStrings
import Derived.Lib.BitFns
import Derived.Lib.Hide
import Derived.Lib.Slices
import Derived.Lib.Small
import Derived.Lib.Strings
import Derived.Lib.Walk
import Derived.Outline
import Derived.OwnWalk
import Derived.Shelf.Bits.Mul64
import Derived.StillTailTactics
import Derived.WalkKit
import Derived.WalkLawsBesides
import Derived.WalkSpells
import Derived.Test.YtoaepibannfbdaaGreatDoorProg
import Derived.Test.YtoaepibannfbdaaGreatDoorMr21
namespace Go.Proofs.YtoaepibannfbdaaGreatDoor
open Go.RowKit Mat
set_option maxRecDepth 100000
set_option linter.unusedVariables false
set_option linter.unusedSimpArgs false
theorem bts_get (s : ByteArray) (k : Nat) (h : k < s.size) : (bts s)[k]'(by rw [bts_len]; exact h) = (s[k]'h).toNat := by
  unfold bts
  rw [List.getElem_map]
  rfl
theorem bts_head (s : ByteArray) (h : 0 < s.size) : (bts s).head? = some (s[0]'h).toNat := by
  have h2 : 0 < (bts s).length := by rw [bts_len]; exact h
  rw [List.head?_eq_getElem?, List.getElem?_eq_getElem h2, bts_get s 0 h]
end Go.Proofs.YtoaepibannfbdaaGreatDoor
namespace Go.Proofs.YtoaepibannfbdaaGreatDoor
open Go.RowKit Mat
set_option maxRecDepth 100000
set_option linter.unusedVariables false
set_option linter.unusedSimpArgs false
theorem bts_extract (t : ByteArray) (m : Nat) : bts (t.extract m t.size) = (bts t).drop m := by
  apply List.ext_getElem?
  intro i
  rw [List.getElem?_drop]
  by_cases h : m + i < t.size
  · have h1 : i < (t.extract m t.size).size := by rw [ByteArray.size_extract]; omega
    rw [List.getElem?_eq_getElem (by rw [bts_len]; exact h1), List.getElem?_eq_getElem (by rw [bts_len]; exact h), bts_get _ _ h1, bts_get _ _ h]
    rw [ByteArray.getElem_extract]
  · rw [List.getElem?_eq_none (by rw [bts_len, ByteArray.size_extract]; omega), List.getElem?_eq_none (by rw [bts_len]; omega)]
end Go.Proofs.YtoaepibannfbdaaGreatDoor
namespace Go.Proofs.YtoaepibannfbdaaGreatDoor
open Go.RowKit Mat
set_option maxRecDepth 100000
set_option linter.unusedVariables false
set_option linter.unusedSimpArgs false
def u8l (x : Nat) : List UInt8 := [UInt8.ofNat (48 + x / 1000), UInt8.ofNat (48 + x / 100 % 10), UInt8.ofNat (48 + x / 10 % 10), UInt8.ofNat (48 + x % 10)]
def four4 (x : Nat) : ByteArray := ⟨(u8l x).toArray⟩
theorem bts_four (x : Nat) (h : x < 10000) : bts (four4 x) = [48 + x / 1000, 48 + x / 100 % 10, 48 + x / 10 % 10, 48 + x % 10] := by
  have h1 : 48 + x / 1000 < 256 := by omega
  have h2 : 48 + x / 100 % 10 < 256 := by omega
  have h3 : 48 + x / 10 % 10 < 256 := by omega
  have h4 : 48 + x % 10 < 256 := by omega
  simp [bts, four4, u8l, UInt8.toNat_ofNat', Nat.mod_eq_of_lt h1, Nat.mod_eq_of_lt h2, Nat.mod_eq_of_lt h3, Nat.mod_eq_of_lt h4]
theorem dig_four (x : Nat) (h : x < 10000) : DigL (bts (four4 x)) := by
  rw [bts_four x h]
  intro k hk
  simp only [List.length_cons, List.length_nil] at hk
  rcases (show k = 0 ∨ k = 1 ∨ k = 2 ∨ k = 3 by omega) with rfl | rfl | rfl | rfl <;> simp <;> omega
theorem dval_four (x : Nat) (h : x < 10000) : dval (bts (four4 x)) = x := by
  rw [bts_four x h]
  simp [dval]; omega
theorem dval_cons48 (l : List Nat) : dval (48 :: l) = dval l := rfl
set_option maxHeartbeats 2000000 in
theorem rText_zero (w : World) (va : Value) (ha : RefV w va 0) :
    Calls Tryz.prog 100 #[va] w (RetText w 0) := by
  obtain ⟨sa, n, cx, xs, rfl, hn, hnc, hx, tx, dx, h0⟩ := ha
  obtain rfl := (val_zero_iff D D_pos xs tx).1 h0
  obtain rfl : n = 0 := by rw [← hn]; rfl
  clear h0
  have hF : Hid (RetText w 0 (.returned (.string { data := #[48] })) (w.alloc (.cells #[.slice sa 0 cx] 39))) := by
    refine ⟨_, rfl, ⟨fun k hk => ?_, Or.inl rfl⟩, rfl, World.grownBy_alloc _ _ _⟩
    have : k = 0 := by have : k < 1 := hk; omega
    subst this
    exact ⟨Nat.le_refl 48, (by decide : (48 : Nat) ≤ 57)⟩
  go_enter Tryz.func100, Tryz.ntmps100
  go_wp2_with fail
  go_ret
  exact hF.out
set_option maxHeartbeats 4000000 in
theorem rText_some (w : World) (va : Value) (a : Nat) (ha : RefV w va a) (h0 : 0 < a) (ba : a < D ^ 1000000) :
    Calls Tryz.prog 100 #[va] w (RetText w a) := by
  obtain ⟨sa, n, cx, xs, rfl, hn, hnc, hx, tx, dx, rfl⟩ := ha
  have Hn := Lib.hid hn
  have hn6 : n ≤ 1000000 := rlen tx hn ba
  have hn0 : 0 < n := by
    rcases Nat.eq_zero_or_pos n with e | e
    · rw [e] at hn
      rw [List.length_eq_zero_iff.1 hn] at h0
      simp [val] at h0
    · exact e
  have H0 := Lib.hid h0
  have f0 : ((n : Int) == 0) = false := beq_eq_false_iff_ne.2 (by omega)
  have hgw0 := World.grownBy_alloc w (.cells #[.slice sa n cx] 39) none
  have hbox0 := heap_new w (.cells #[.slice sa n cx] 39) w.heap.size rfl
  clear hn h0 ba
  go_enter Tryz.func100, Tryz.ntmps100
  go_wp2_with fail
  generalize (w.alloc (.cells #[.slice sa n cx] 39)) = w0 at *
  go_loopw [3, 4] (fun s i wr => ∃ (j : Nat) (t : ByteArray), j ≤ n ∧ i = .int .i64 ((j : Int) - 1) ∧ s = .string t ∧ t.size = 4 * (n - j) ∧ Hid (DigL (bts t)) ∧ Hid (dval (bts t) = val D (xs.drop j)) ∧ w0.grownBy wr none) (fun _ i _ => (intOf i + 1).toNat)
  case atStart => exact ⟨n, { data := #[] }, Nat.le_refl _, rfl, rfl, by simp; rfl, fun k hk => by simp [bts] at hk, by show _ = _; rw [List.drop_of_length_le (by rw [Hn.out]; exact Nat.le_refl _)]; rfl, grown_refl _ _⟩
  case round =>
    obtain ⟨j, t, hj, rfl, rfl, hts, hdg, hv, hg⟩ := hrel
    obtain ⟨ca, fa⟩ := box_cell (heap_kept hg hbox0)
    by_cases hz : j = 0
    · subst hz
      have hv0 : Hid (dval (bts t) = val D xs) := by show _ = _; rw [hv.out]; rfl
      have hgw := grown_trans hgw0 hg
      clear hv hg hts
      go_wp2_with fail
      go_loopw [3] (fun s wz => ∃ (t2 : ByteArray), s = .string t2 ∧ Hid (DigL (bts t2)) ∧ Hid (dval (bts t2) = val D xs) ∧ wr = wz) (fun s _ => match s with | .string b => b.size | _ => 0)
      case atStart => exact ⟨t, rfl, hdg, hv0, rfl⟩
      case round =>
        clear hdg hv0
        obtain ⟨t2, rfl, hdg, hv0, rfl⟩ := hrel
        have hsz : 0 < t2.size := by
          rcases Nat.eq_zero_or_pos t2.size with e | e
          · have h1 := bts_len t2
            rw [e] at h1
            have h2 := hv0.out
            rw [List.length_eq_zero_iff.1 h1] at h2
            have := H0.out
            simp [dval] at h2; omega
          · exact e
        obtain ⟨x, ex⟩ : ∃ x, (t2[0]'hsz).toNat = x := ⟨_, rfl⟩
        have hhd : Hid ((bts t2).head? = some x) := by show _ = _; rw [bts_head t2 hsz, ex]
        by_cases h48 : x = 48
        · subst h48
          have hcons : bts t2 = 48 :: (bts t2).drop 1 := by
            have h1 := hhd.out
            cases hb : bts t2 with
            | nil => rw [hb] at h1; simp at h1
            | cons y l => rw [hb] at h1; simp at h1; simp [h1]
          have hex : bts (t2.extract 1 t2.size) = (bts t2).drop 1 := bts_extract t2 1
          have hd2 : Hid (DigL (bts (t2.extract 1 t2.size))) := by show DigL _; rw [hex]; exact hdg.out.drop 1
          have hv2 : Hid (dval (bts (t2.extract 1 t2.size)) = val D xs) := by
            show _ = _
            rw [hex, ← dval_cons48, ← hcons]; exact hv0.out
          have hsz2 : (t2.extract 1 t2.size).size = t2.size - 1 := by rw [ByteArray.size_extract]; omega
          clear hcons hex
          go_wp2_with fail
          go_roundw
          case rel => exact ⟨t2.extract 1 t2.size, rfl, hd2, hv2, by trivial⟩
          case measure => simp [hsz2]; omega
        · have f1 : ((x : Int) == 48) = false := beq_eq_false_iff_ne.2 (by omega)
          have hF : Hid (RetText w (val D xs) (.returned (.string t2)) wr) := by
            refine ⟨_, rfl, ⟨hdg.out, Or.inr ⟨fun e => ?_, ?_⟩⟩, hv0.out, hgw⟩
            · have := hhd.out; rw [e] at this; simp at this
            · rw [hhd.out]; intro e; exact h48 (Option.some.inj e)
          go_wp2_with fail
          go_ret
          exact hF.out
    · obtain ⟨k, rfl⟩ : ∃ k, j = k + 1 := ⟨j - 1, by omega⟩
      clear hz
      obtain ⟨x, ex⟩ : ∃ x, xs.getD k 0 = x := ⟨_, rfl⟩
      have hx4 : x < 10000 := ex ▸ getD_lt dx k
      obtain ⟨b1, o1, rfl, c1⟩ := rcell ((hx.kept hgw0).kept hg) Hn.out k (by omega)
      rw [ex] at c1
      have EX := Lib.hid ex
      have ek : ((k + 1 : Nat) : Int) - 1 = (k : Int) := by omega
      rw [ek]
      have hnews : ∀ j u, ([.int .u8 (48 + (x : Int) / 1000), .int .u8 (48 + (x : Int) / 100 % 10), .int .u8 (48 + (x : Int) / 10 % 10), .int .u8 (48 + (x : Int) % 10)] : List Value)[j]? = some u → (wr.alloc (.cells #[.int .u8 (48 + (x : Int) / 1000), .int .u8 (48 + (x : Int) / 100 % 10), .int .u8 (48 + (x : Int) / 10 % 10), .int .u8 (48 + (x : Int) % 10)] 5)).cell? ((⟨wr.heap.size, 0, none⟩ : Addr).add j) = some u := World.news_of_block (heap_alloc_new wr _)
      have hconv : (convert 157 9 (.slice (some ⟨wr.heap.size, 0, none⟩) 4 4)).run Tryz.prog (wr.alloc (.cells #[.int .u8 (48 + (x : Int) / 1000), .int .u8 (48 + (x : Int) / 100 % 10), .int .u8 (48 + (x : Int) / 10 % 10), .int .u8 (48 + (x : Int) % 10)] 5)) = .ok (.string (four4 x)) (wr.alloc (.cells #[.int .u8 (48 + (x : Int) / 1000), .int .u8 (48 + (x : Int) / 100 % 10), .int .u8 (48 + (x : Int) / 10 % 10), .int .u8 (48 + (x : Int) % 10)] 5)) := by
        refine run_convert_bytes_back (P := Tryz.prog) _ 157 9 5 ⟨wr.heap.size, 0, none⟩ 4 (u8l x) Tryz.underlying157 Tryz.underlying5 Tryz.underlying9 ?_
        intro j hj
        refine hnews j _ ?_
        have hj4 : j < 4 := hj
        have w1 : (48 + x / 1000) % 256 = 48 + x / 1000 := by omega
        have w2 : (48 + x / 100 % 10) % 256 = 48 + x / 100 % 10 := by omega
        have w3 : (48 + x / 10 % 10) % 256 = 48 + x / 10 % 10 := by omega
        have w4 : (48 + x % 10) % 256 = 48 + x % 10 := by omega
        rcases (show j = 0 ∨ j = 1 ∨ j = 2 ∨ j = 3 by omega) with rfl | rfl | rfl | rfl <;> simp [u8l, UInt8.toNat_ofNat', w1, w2, w3, w4]
      clear hnews
      have hs4 : (four4 x).size = 4 := rfl
      have hg2 : w0.grownBy (wr.alloc (.cells #[.int .u8 (48 + (x : Int) / 1000), .int .u8 (48 + (x : Int) / 100 % 10), .int .u8 (48 + (x : Int) / 10 % 10), .int .u8 (48 + (x : Int) % 10)] 5)) none := grown_alloc hg _
      have hdn : Hid (DigL (bts (t ++ four4 x))) := by show DigL _; rw [bts_app]; exact hdg.out.append (dig_four x hx4)
      have hvn : Hid (dval (bts (t ++ four4 x)) = val D (xs.drop k)) := by
        show _ = _
        rw [bts_app, dval_append, dval_four x hx4, hv.out, bts_len, hs4, List.drop_eq_getElem_cons (i := k) (by rw [Hn.out]; omega)]
        have e : xs[k]'(by rw [Hn.out]; omega) = x := by rw [← EX.out, List.getD_eq_getElem?_getD, List.getElem?_eq_getElem (by rw [Hn.out]; omega)]; rfl
        rw [e]
        show val D (xs.drop (k + 1)) * 10 ^ 4 + x = x + D * val D (xs.drop (k + 1))
        unfold D; omega
      have hsn : (t ++ four4 x).size = 4 * (n - k) := by rw [ByteArray.size_append, hts, hs4]; omega
      clear hg hv hdg ek
      go_wp2_with fail
      go_roundw
      case rel => exact ⟨k, t ++ four4 x, by omega, by go_num, rfl, hsn, hdn, hvn, hg2⟩
      case measure => simp [intOf]
end Go.Proofs.YtoaepibannfbdaaGreatDoor
namespace Go.Proofs.YtoaepibannfbdaaGreatDoor
open Go.RowKit Mat
set_option maxRecDepth 100000
set_option linter.unusedVariables false
set_option linter.unusedSimpArgs false
theorem rtext_any (w : World) (va : Value) (a : Nat) (ha : RefV w va a) (ba : a < D ^ 1000000) :
    Calls Tryz.prog 100 #[va] w (RetText w a) := by
  rcases Nat.eq_zero_or_pos a with h | h
  · subst h; exact rText_zero w va ha
  · exact rText_some w va a ha h ba
theorem dlen {l : List Nat} {n E : Nat} (h : DecL l) (hv : dval l = n) (hn : n < D ^ E) (hE : 1 ≤ E) : l.length ≤ 4 * E :=
  dec_len h (by rw [hv, Nat.pow_mul]; exact hn) (by omega)
set_option maxHeartbeats 4000000 in
theorem rZText_any (w : World) (va : Value) (x : Int) (Ha : RIntV w va x) (la' : x.natAbs < D ^ 1000000) :
    Calls Tryz.prog 54 #[va] w (RetZText w x) := by
  have Hla := Lib.hid la'
  clear la'
  obtain ⟨ga, sa, la, ca, rfl, ha, ma⟩ := Ha
  have hG : w.grownBy (w.alloc (.cells #[.int .i64 ga, .slice sa la ca] 41)) none := (World.grownBy_alloc _ _ _)
  have Ba := (heap_new w (.cells #[.int .i64 ga, .slice sa la ca] 41) (w.heap.size) rfl)
  have ra : RIntV (w.alloc (.cells #[.int .i64 ga, .slice sa la ca] 41)) (.agg #[.int .i64 ga, .slice sa la ca]) (x) := ⟨ga, sa, la, ca, rfl, ha, ma.kept hG⟩
  have ma' : RefV (w.alloc (.cells #[.int .i64 ga, .slice sa la ca] 41)) (.agg #[.slice sa la ca]) (x).natAbs := ma.kept hG
  have oa : RIntV w (.agg #[.int .i64 ga, .slice sa la ca]) (x) := ⟨ga, sa, la, ca, rfl, ha, ma⟩
  clear ma
  go_enter Tryz.func54, Tryz.ntmps54
  have hc : (decide (ga < 0) = true ∧ Hid (x < 0)) ∨ (decide (ga < 0) = false ∧ Hid (¬ x < 0)) := by
    have ea := ha.out
    rcases zsign x with ⟨h, e⟩ | ⟨h, e⟩ | ⟨h, e⟩
    · left; exact ⟨decide_eq_true (by omega), h⟩
    · right; exact ⟨decide_eq_false (by omega), by show ¬ _; omega⟩
    · right; exact ⟨decide_eq_false (by omega), by show ¬ _; omega⟩
  rcases hc with ⟨f1, HZ⟩ | ⟨f1, HZ⟩
  · skip
    obtain ⟨Ca0, Ca1, Fa0, Fa1⟩ := box_cells Ba
    go_wp2_with fail
    generalize (w.alloc (.cells #[.int .i64 ga, .slice sa la ca] 41)) = w0 at *
    clear Ca0 Fa0 Ca1 Fa1
    refine (rtext_any w0 _ x.natAbs ma' Hla.out).mono ?_
    rintro e w1 ⟨s, rfl, hd, hdv, gw1⟩
    replace Ba := heap_kept gw1 Ba
    replace ra := ra.kept gw1
    replace ma' := ma'.kept gw1
    replace hG := grown_trans hG gw1
    clear gw1
    obtain ⟨Ca0, Ca1, Fa0, Fa1⟩ := box_cells Ba
    have hsz : s.size ≤ 4000000 := by
      rw [← bts_len]
      exact dlen hd hdv Hla.out (by omega)
    have hF : Hid (ZTextOf ({ data := #[45] } ++ s) x) := ⟨bts s, hd, hdv, by rw [bts_app, if_pos HZ.out]; rfl⟩
    clear hd hdv
    go_wp2_with fail
    go_ret
    exact ⟨_, rfl, hF.out, hG⟩
  · skip
    obtain ⟨Ca0, Ca1, Fa0, Fa1⟩ := box_cells Ba
    go_wp2_with fail
    generalize (w.alloc (.cells #[.int .i64 ga, .slice sa la ca] 41)) = w0 at *
    clear Ca0 Fa0 Ca1 Fa1
    refine (rtext_any w0 _ x.natAbs ma' Hla.out).mono ?_
    rintro e w1 ⟨s, rfl, hd, hdv, gw1⟩
    replace Ba := heap_kept gw1 Ba
    replace ra := ra.kept gw1
    replace ma' := ma'.kept gw1
    replace hG := grown_trans hG gw1
    clear gw1
    obtain ⟨Ca0, Ca1, Fa0, Fa1⟩ := box_cells Ba
    have hF : Hid (ZTextOf s x) := ⟨bts s, hd, hdv, by rw [if_neg (by have := HZ.out; omega)]⟩
    clear hd hdv
    go_wp2_with fail
    go_ret
    exact ⟨_, rfl, hF.out, hG⟩
end Go.Proofs.YtoaepibannfbdaaGreatDoor
namespace Go.Proofs.YtoaepibannfbdaaGreatDoor
open Go.RowKit Mat
set_option maxRecDepth 100000
set_option linter.unusedVariables false
set_option linter.unusedSimpArgs false
theorem set_rep {k d : Nat} {hs : List Nat} : (List.replicate (k + 1) 0 ++ hs).set k d = List.replicate k 0 ++ d :: hs := by
  rw [List.replicate_succ', List.append_assoc, List.set_append]
  simp
theorem val_drop (xs : List Nat) (k : Nat) (hk : k < xs.length) : val D (xs.drop k) = xs.getD k 0 + D * val D (xs.drop (k + 1)) := by
  rw [List.drop_eq_getElem_cons hk, List.getD_eq_getElem?_getD, List.getElem?_eq_getElem hk]; rfl
set_option maxHeartbeats 2000000 in
theorem rcut_at (w : World) (s : Option Addr) (n cap : Nat) (xs : List Nat) (hn : xs.length = n) (hx : RRdo w s xs) (hnc : n ≤ cap) (bn : n ≤ 1099511627776) :
    Calls Tryz.prog 135 #[.slice s n cap] w (fun e w' => ∃ k, e = .returned (.agg #[.slice s k cap]) ∧ k ≤ n ∧ Top (xs.take k) ∧ val D (xs.take k) = val D xs ∧ w.grownBy w' none) := by
  have Hn := Lib.hid hn
  have hgw0 := World.grownBy_alloc w (.cells #[.slice none 0 0] 39) none
  have hbox0 := heap_new w (.cells #[.slice none 0 0] 39) w.heap.size rfl
  obtain ⟨cb, fb⟩ := box_cell hbox0
  have hx0 := hx.kept hgw0
  clear hn
  go_enter Tryz.func135, Tryz.ntmps135
  go_wp2_with fail
  generalize (w.alloc (.cells #[.slice none 0 0] 39)) = w0 at *
  go_loopw [3] (fun i wr => ∃ (k : Nat), k ≤ n ∧ i = .int .i64 k ∧ w0 = wr ∧ Hid (val D (xs.take k) = val D xs)) (fun i _ => (intOf i).toNat)
  case atStart => exact ⟨n, Nat.le_refl _, rfl, rfl, by show _ = _; rw [← Hn.out, List.take_length]⟩
  case round =>
    obtain ⟨k, hk, rfl, rfl, hv⟩ := hrel
    have hF : Hid (Top (xs.take k) → ∃ k', Ending.returned (.agg #[.slice s k cap]) = Ending.returned (.agg #[.slice s k' cap]) ∧ k' ≤ n ∧ Top (xs.take k') ∧ val D (xs.take k') = val D xs ∧ w.grownBy (w0.setCell ⟨w.heap.size, 0, none⟩ (.slice s k cap)) none) := by
      intro ht
      exact ⟨k, rfl, hk, ht, hv.out, grown_new hgw0 (grown_set (grown_refl _ _) _ _) (Nat.le_refl _)⟩
    by_cases h0 : k = 0
    · subst h0
      have hF2 := Lib.hid (hF.out (by intro x hx; simp at hx))
      clear hF
      go_wp2_with fail
      exact bodyPost_ret (v := .agg #[.slice s 0 cap]) (by simp [results, Tryz.results135, go_sem, cb]) rfl hF2.out
    · obtain ⟨j, rfl⟩ : ∃ j, k = j + 1 := ⟨k - 1, by omega⟩
      clear h0
      obtain ⟨b1, o1, cs1, rfl, hb1, hat1⟩ := hx0.get j (by rw [Hn.out]; omega)
      obtain ⟨x, ex⟩ : ∃ x, xs[j]'(by rw [Hn.out]; omega) = x := ⟨_, rfl⟩
      have c1 : w0.cell? ⟨b1, o1 + j, none⟩ = some (.int .i64 (x : Int)) := by
        rw [hb1.cell, hat1 j (by rw [Hn.out]; omega), ex]; rfl
      have EX := Lib.hid ex
      clear ex
      by_cases hz : x = 0
      · subst hz
        clear hF
        go_wp2_with fail
        go_roundw
        case rel => exact ⟨j, by omega, by go_num, by trivial, by show _ = _; rw [← hv.out, val_take_succ D xs j (by rw [Hn.out]; omega), EX.out]; omega⟩
        case measure => simp [intOf]
      · have t : ((x : Int) == 0) = false := beq_eq_false_iff_ne.2 (by omega)
        have hF2 := Lib.hid (hF.out (top_take xs j (by rw [Hn.out]; omega) (by rw [EX.out]; exact hz)))
        clear hF
        go_wp2_with fail
        exact bodyPost_ret (v := .agg #[.slice (some ⟨b1, o1, none⟩) (j + 1) cap]) (by simp [results, Tryz.results135, go_sem, cb]) rfl hF2.out
set_option maxHeartbeats 4000000 in
theorem rSmall_any (w : World) (va : Value) (a n : Nat) (ha : RefV w va a) (ba : a < D ^ 1000000) (hn : n ≤ 10000) :
    Calls Tryz.prog 136 #[va, .int .i64 (n : Int)] w (RetRef w (a * n)) := by
  obtain ⟨sa, la, ca, xs, rfl, h2⟩ := ha
  have na : RefV w (.agg #[.slice sa la ca]) a := ⟨sa, la, ca, xs, rfl, h2⟩
  have hgw0 : w.grownBy ((w.alloc (.cells #[.slice sa la ca] 39)).alloc (.cells #[.slice none 0 0] 39)) none := grown_alloc (World.grownBy_alloc _ _ _) _
  have hboxr := heap_new (w.alloc (.cells #[.slice sa la ca] 39)) (.cells #[.slice none 0 0] 39) (w.heap.size + 1) (by simp)
  have hboxa := (Below.heap_alloc _ (.cells #[.slice none 0 0] 39) w.heap.size (by simp)).trans (heap_new w (.cells #[.slice sa la ca] 39) w.heap.size rfl)
  replace na := na.kept hgw0
  have Hba := Lib.hid ba
  have hnB : n < B := Nat.lt_of_le_of_lt hn (by decide)
  have hw : IntKind.u64.wrap (n : Int) = (n : Int) := by rw [IntKind.wrap_u64]; omega
  have hnD : n < D ^ 1000000 := by
    obtain ⟨E, hE⟩ : ∃ E, E = 1000000 := ⟨_, rfl⟩
    rw [← hE]
    have h1 : D ^ 2 ≤ D ^ E := Nat.pow_le_pow_right D_pos (by omega)
    have h2 : D ^ 2 = 100000000 := by decide
    omega
  have HnD := Lib.hid hnD
  clear h2 ba hnD
  go_enter Tryz.func136, Tryz.ntmps136
  go_wp2_with fail
  generalize ((w.alloc (.cells #[.slice sa la ca] 39)).alloc (.cells #[.slice none 0 0] 39)) = w0 at *
  obtain ⟨c1, f1⟩ := box_cell hboxa
  go_region_held3 (fun w' => w'.cell? ⟨w.heap.size, 0, none⟩ = some (.slice sa la ca))
    (first | assumption | exact c1 | go_keep)
    (first
      | (go_at_call 90; (with_reducible refine (rOf_any w0.drew n hnB).mono ?_); rintro e w1 ⟨v1, rfl, n1, g1⟩; have hG1 := grown_pre w0 g1 rfl rfl rfl rfl; have hS1 := hG1.cell c1 (by simp))
      | (go_at_call 138; (with_reducible refine (rMul_any w1 _ _ a n (na.kept hG1) n1 Hba.out HnD.out).mono ?_); rintro e w2 ⟨v2, rfl, ⟨s2, k2, c2, zs2, rfl, n2⟩, g2⟩; have hG2 := grown_trans hG1 g2; have hS2 := hG2.cell c1 (by simp); have hr2 := heap_kept hG2 hboxr; obtain ⟨c3, f3⟩ := box_cell hr2))
  have hF := Lib.hid (rret (n := a * n) (grown_trans hgw0 hG2) hr2 (by decide) (by omega) ⟨s2, k2, c2, zs2, rfl, n2⟩ (.slice s2 k2 c2))
  clear g2 hG2 hG1 n2
  go_wp2_with fail
  exact bodyPost_ret (v := .agg #[.slice s2 k2 c2]) (by simp [results, Tryz.results136, go_sem, c3]) rfl hF.out
theorem run_append_none {P : Program} (w : World) (t ty e : TypeId) (i : TypeInfo) (ht : P.underlying t = some (.slice e)) (hi : P.info? e = some i) (a : Addr) (n cap c : Nat) (h : n ≤ cap) :
    (Builtin.append_ #[t, t] ty #[.slice (some a) n cap, .slice none 0 c]).run P w = .ok (.slice (some a) n cap) w := by
  simp [Builtin.append_, run_underlying ht, sizeOf, typeInfo, hi, Builtin.lenOf, h, Builtin.firstCells, storeCells]
theorem own_one {W : World} {H base x : Nat} (hH : W.heap.size = H) (hb : base ≤ H) : (W.alloc (.cells #[iv x] 3)).ownsRow base 3 1 (.slice (some ⟨H, 0, none⟩) 1 1) 1 [iv x] :=
  ⟨rfl, Or.inr ⟨H, 1, #[iv x], rfl, hb, heap_new W _ H hH.symm, Nat.le_refl _, by unfold maxLen; omega, rfl, rfl⟩⟩
theorem run_append_ints {w : World} {ty : TypeId} {base G n0 c0 : Nat} {olds : List Nat} (hown : w.ownsRow base 3 1 (.slice (some ⟨G, 0, none⟩) n0 c0) n0 (olds.map iv)) (h0 : 0 < n0) {s : Option Addr} {k c : Nat} {ys : List Nat} (hk : ys.length = k) (hr : RRdo w s ys) (hb : n0 + k ≤ 10000000) (hbase : base ≤ w.heap.size) :
    ∃ g cap w', (Builtin.append_ #[37, 37] ty #[.slice (some ⟨G, 0, none⟩) n0 c0, .slice s k c]).run Tryz.prog w = .ok (.slice (some ⟨g, 0, none⟩) (n0 + k) cap) w' ∧
      w'.ownsRow base 3 1 (.slice (some ⟨g, 0, none⟩) (n0 + k) cap) (n0 + k) ((olds ++ ys).map iv) ∧ w.grownBy w' (some G) := by
  obtain ⟨i1, hi, hz0, hz1, hz2⟩ := info_partsI
  have key : ∀ (ad : Addr) (news : List Value), news = ys.map iv → (∀ j u, news[j]? = some u → w.cell? (ad.add j) = some u) → ∃ g cap w', (Builtin.append_ #[37, 37] ty #[.slice (some ⟨G, 0, none⟩) n0 c0, .slice (some ad) k c]).run Tryz.prog w = .ok (.slice (some ⟨g, 0, none⟩) (n0 + k) cap) w' ∧
      w'.ownsRow base 3 1 (.slice (some ⟨g, 0, none⟩) (n0 + k) cap) (n0 + k) ((olds ++ ys).map iv) ∧ w.grownBy w' (some G) := by
    intro ad news hne hn
    obtain ⟨v', w', hrun, h2, h3, _, h5⟩ := run_append_own_at (P := Tryz.prog) w base 37 ty 3 i1 (.int .i64 0) 1 8 Tryz.underlying37 hi hz0 hz1 hz2 rfl (by omega) (.slice (some ⟨G, 0, none⟩) n0 c0) n0 (olds.map iv) hown ad k c news (by rw [hne, List.length_map, hk]; omega) hn (by rw [hne]; intro u hu; obtain ⟨x, -, rfl⟩ := List.mem_map.1 hu; rfl) (by unfold maxLen; omega) (by omega) hbase
    obtain ⟨g, cap, rfl, _, hlt⟩ := h2.form (by omega)
    exact ⟨g, cap, w', hrun, by rw [List.map_append, ← hne]; exact h2, h3⟩
  rcases hr with h | ⟨b, off, cs, e, h1, h2⟩
  · subst h
    simp only [List.length_nil] at hk
    subst hk
    cases s with
    | none =>
      refine ⟨G, c0, w, run_append_none w _ ty _ i1 Tryz.underlying37 hi _ _ _ _ (own_rdoI hown).2.1, ?_, grown_refl _ _⟩
      rw [List.append_nil]; exact hown
    | some ad => exact key ad [] rfl (fun j u h => by simp at h)
  · subst e
    refine key ⟨b, off, none⟩ (ys.map iv) rfl (fun j u hj => ?_)
    have hadd : (⟨b, off, none⟩ : Addr).add j = ⟨b, off + j, none⟩ := by unfold Addr.add; split <;> simp_all
    rw [hadd, h1.cell]
    rw [List.getElem?_map] at hj
    obtain ⟨x, hx, rfl⟩ := Option.map_eq_some_iff.1 hj
    obtain ⟨hj2, rfl⟩ := List.getElem?_eq_some_iff.1 hx
    exact h2 j hj2
theorem step_append_ints {w : World} {ops : Array Oper} {o : Oper} {a : Act} {K : Act → World → Prop} {Q : Exit → Act → World → Prop} {E : Prop} (hgd : o.guard = none) (s x : Operand)
    (ho : o.op = .call { callee := .builtin .append, args := #[s, x], argTypes := #[37, 37] })
    (base G n0 c0 : Nat) (olds : List Nat) (hs : a.eval s = .slice (some ⟨G, 0, none⟩) n0 c0) (hown : w.ownsRow base 3 1 (.slice (some ⟨G, 0, none⟩) n0 c0) n0 (olds.map iv)) (h0 : 0 < n0)
    (sx : Option Addr) (k c : Nat) (ys : List Nat) (hx : a.eval x = .slice sx k c) (hk : ys.length = k) (hr : RRdo w sx ys) (hb : n0 + k ≤ 10000000) (hbase : base ≤ w.heap.size)
    (h : ∀ g cap w', w'.ownsRow base 3 1 (.slice (some ⟨g, 0, none⟩) (n0 + k) cap) (n0 + k) ((olds ++ ys).map iv) → w.grownBy w' (some G) → K (a.put o.dst (.slice (some ⟨g, 0, none⟩) (n0 + k) cap)) w') :
    if Region.wanted o (yielded ops a.tmps) = true then Oper.wp Tryz.prog o a w K Q else E := by
  have hw : Region.wanted o (yielded ops a.tmps) = true := by simp [Region.wanted, hgd]
  rw [if_pos hw]
  obtain ⟨g, cap, w', hrun, h2, h3⟩ := run_append_ints (ty := o.type) hown h0 (c := c) hk hr hb hbase
  unfold Oper.wp execOp
  simp only [ho, resolve, invoke, builtin, Sem.run_bind, Sem.run_pure, Result.andThen_ok, List.map_toArray, List.map_cons, List.map_nil, hs, hx, hrun]
  exact h g cap w' h2 h3
end Go.Proofs.YtoaepibannfbdaaGreatDoor
namespace Go.Proofs.YtoaepibannfbdaaGreatDoor
open Go.RowKit Mat
set_option maxRecDepth 100000
set_option linter.unusedVariables false
set_option linter.unusedSimpArgs false
theorem Ints.unset {w : World} {g b : Nat} {zs : List Nat} (h : Ints w g zs) (hb : b ≠ g) (v : Value) : Ints (w.setCell ⟨b, 0, none⟩ v) g zs := by
  refine (Below.heap_setCell _ _ _ _ ?_).trans h
  simpa using Ne.symm hb
theorem div_step {b R x vh V lo : Nat} (h : vh * b + R = V) (hlo : lo * b ≤ x + D * R) : (lo + D * vh) * b + (x + D * R - b * lo) = x + D * V := by
  have h1 : (lo + D * vh) * b = lo * b + D * (vh * b) := by rw [Nat.add_mul, Nat.mul_assoc]
  have h2 : b * lo = lo * b := Nat.mul_comm _ _
  rw [h1, ← h, Nat.mul_add]
  omega
theorem far_of {w : World} {g g2 : Nat} {xs : List Nat} (h : RRdo w (some ⟨g2, 0, none⟩) xs) (hne : g2 ≠ g) : Far g w (some ⟨g2, 0, none⟩) xs := by
  rcases h with h | ⟨b, off, cs, e, h1, h2⟩
  · exact Or.inl h
  · refine Or.inr ⟨b, off, cs, e, ?_, h1, h2⟩
    cases e; exact hne
def Cut6 (wA : World) (g b7 V : Nat) (zs : List Nat) (wx : World) : Prop :=
  ∃ (s : Option Addr) (k c : Nat) (rs : List Nat), wx.heap[b7]? = some (.cells #[.slice s k c] 39 (0, 0)) ∧ rs.length = k ∧ k ≤ c ∧ Far g wx s rs ∧ Top rs ∧ Dig D rs ∧ val D rs = V ∧ Ints wx g zs ∧ wA.grownBy wx none
theorem cut6_mk {wA wr w5 w6 : World} {g b7 x R kR k6 g2 cap2 : Nat} {rs zs : List Nat} {u0 : Value} (hI : Ints wr g zs) (hA : wA.grownBy wr none) (h7 : wr.heap[b7]? = some (.cells #[u0] 39 (0, 0))) (hb7 : b7 ≠ g) (hlo : wA.heap.size ≤ b7) (hrl : rs.length = kR) (drs : Dig D rs) (hx : x < D) (hrv : val D rs = R)
    (hown : w5.ownsRow (g + 1) 3 1 (.slice (some ⟨g2, 0, none⟩) (1 + kR) cap2) (1 + kR) (([x] ++ rs).map iv)) (h5 : wr.grownBy w5 none) (h6 : w5.grownBy w6 none) (hk6 : k6 ≤ 1 + kR) (ht : Top (([x] ++ rs).take k6)) (hv : val D (([x] ++ rs).take k6) = val D ([x] ++ rs)) :
    Cut6 wA g b7 (x + D * R) zs (w6.setCell ⟨b7, 0, none⟩ (.slice (some ⟨g2, 0, none⟩) k6 cap2)) := by
  have h56 := grown_trans h5 h6
  have h76 := heap_kept h56 h7
  obtain ⟨hrd, hcap, hlen⟩ := own_rdoI hown
  have hg2 : g2 ≠ g := by have := (own_lo hown).1; omega
  refine ⟨_, k6, cap2, ([x] ++ rs).take k6, heap_set h76 _, by rw [List.length_take]; omega, by omega, (((far_of hrd hg2).take k6).kept h6).set_other h76 (by decide) 0 _, ht, (Dig.append (Dig.cons hx (Dig.nil D)) drs).take k6, ?_, (hI.kept h56).unset hb7 _, grown_new (grown_trans hA h56) (grown_set (grown_refl _ _) _ _) hlo⟩
  rw [hv, ← hrv]; rfl
def Cut14 (wA : World) (g b7 V : Nat) (zs : List Nat) (wx : World) : Prop := Boxed wx b7 V ∧ Ints wx g zs ∧ wA.grownBy wx none
theorem cut14_mk {wA wr w6 : World} {g b7 V : Nat} {zs : List Nat} {u0 : Value} {s : Option Addr} {k c : Nat} (hI : Ints wr g zs) (hA : wA.grownBy wr none) (h7 : wr.heap[b7]? = some (.cells #[u0] 39 (0, 0))) (hb7 : b7 ≠ g) (hlo : wA.heap.size ≤ b7) (h6 : wr.grownBy w6 none) (hn : RefV w6 (.agg #[.slice s k c]) V) :
    Cut14 wA g b7 V zs (w6.setCell ⟨b7, 0, none⟩ (.slice s k c)) := by
  have h76 := heap_kept h6 h7
  exact ⟨⟨s, k, c, heap_set h76 _, hn.set_other h76 (by decide) 0 _⟩, (hI.kept h6).unset hb7 _, grown_new (grown_trans hA h6) (grown_set (grown_refl _ _) _ _) hlo⟩
theorem bin_step {lo hi mid : Nat} (h : 1 < hi - lo) (hm : (lo + hi) / 2 = mid) : lo < mid ∧ mid < hi := by omega
set_option maxHeartbeats 16000000 in
theorem rDiv_any (w : World) (va vb : Value) (a b : Nat) (ha : RefV w va a) (hb : RefV w vb b) (ba : a < D ^ 400000) (bb : b < D ^ 400000) (h0 : 0 < b) :
    Calls Tryz.prog 99 #[va, vb] w (fun e w' => ∃ v u, e = .returned (.tuple #[v, u]) ∧ RefV w' v (a / b) ∧ RefV w' u (a % b) ∧ w.grownBy w' none) := by
  obtain ⟨E, hE⟩ : ∃ E, E = 400000 := ⟨_, rfl⟩
  rw [← hE] at ba bb
  obtain ⟨sa, n, cx, xs, rfl, hn, hnc, hx, tx, dx, rfl⟩ := ha
  obtain ⟨sb, m, cy, ys, rfl, hm, hmc, hy, ty, dy, hvy⟩ := hb
  have Hn := Lib.hid hn
  have hn6 : n ≤ 400000 := by rw [← hE]; exact rlen tx hn ba
  obtain ⟨i0, hi, hz0, hz1, hz2⟩ := info_partsI
  have hgw0 : w.grownBy ((((w.alloc (.cells #[.slice sa n cx] 39)).alloc (.cells #[.slice sb m cy] 39)).alloc (.cells #[.slice none 0 0] 39)).alloc (.cells #[.slice none 0 0] 39)) none := grown_alloc (grown_alloc (grown_alloc (World.grownBy_alloc _ _ _) _) _) _
  have hb4 := heap_new (((w.alloc (.cells #[.slice sa n cx] 39)).alloc (.cells #[.slice sb m cy] 39)).alloc (.cells #[.slice none 0 0] 39)) (.cells #[.slice none 0 0] 39) (w.heap.size + 1 + 1 + 1) (by simp)
  have hb3 := heap_kept (World.grownBy_alloc _ (.cells #[.slice none 0 0] 39) none) (heap_new ((w.alloc (.cells #[.slice sa n cx] 39)).alloc (.cells #[.slice sb m cy] 39)) (.cells #[.slice none 0 0] 39) (w.heap.size + 1 + 1) (by simp))
  have hb2 := heap_kept (grown_alloc (World.grownBy_alloc _ (.cells #[.slice none 0 0] 39) none) (.cells #[.slice none 0 0] 39)) (heap_new (w.alloc (.cells #[.slice sa n cx] 39)) (.cells #[.slice sb m cy] 39) (w.heap.size + 1) (by simp))
  have hb1 := heap_kept (grown_alloc (grown_alloc (World.grownBy_alloc _ (.cells #[.slice sb m cy] 39) none) (.cells #[.slice none 0 0] 39)) (.cells #[.slice none 0 0] 39)) (heap_new w (.cells #[.slice sa n cx] 39) w.heap.size rfl)
  have hs0 : ((((w.alloc (.cells #[.slice sa n cx] 39)).alloc (.cells #[.slice sb m cy] 39)).alloc (.cells #[.slice none 0 0] 39)).alloc (.cells #[.slice none 0 0] 39)).heap.size = w.heap.size + 1 + 1 + 1 + 1 := by simp
  have hxA := hx.kept hgw0
  have nbA : RefV ((((w.alloc (.cells #[.slice sa n cx] 39)).alloc (.cells #[.slice sb m cy] 39)).alloc (.cells #[.slice none 0 0] 39)).alloc (.cells #[.slice none 0 0] 39)) (.agg #[.slice sb m cy]) b := ⟨sb, m, cy, ys, rfl, hm, hmc, hy.kept hgw0, ty, dy, hvy⟩
  obtain ⟨A, hA⟩ : ∃ A, val D xs = A := ⟨_, rfl⟩
  rw [hA] at ba ⊢
  have HA := Lib.hid hA
  have HBB := Lib.hid bb
  have HE := Lib.hid hE
  have H0 := Lib.hid h0
  clear hn hm hx hy ty dy hvy hmc ba bb hA hE h0
  go_enter Tryz.func99, Tryz.ntmps99
  go_wp2_with (at_make; refine wpList_make_full _ rfl _ _ 37 rfl _ 3 i0 (.int .i64 0) 1 Tryz.underlying37 hi hz0 hz1 .i64 .i64 _ _ n rfl rfl (by omega) (by omega) (by rw [hz2]; omega) (by unfold maxLen; omega) (Nat.le_refl _) ?_; intro w1 hown hg1; have hI1 := made_ints hown; have hgx1 := grown_alloc hg1 (.cells #[.slice none 0 0] 39); have h71 := heap_new w1 (.cells #[.slice none 0 0] 39) w1.heap.size rfl; (obtain ⟨cb1, fb1⟩ := box_cell (heap_kept hgx1 hb1)); have hI2 := hI1.kept (World.grownBy_alloc w1 (.cells #[.slice none 0 0] 39) none); have hI3 := hI1; have hI3 := hI1; have hI3 := hI1; have hI3 := hI1; have hI3 := hI1; clear hown hI1)
  have h7g : w.heap.size + 1 + 1 + 1 + 1 < w1.heap.size := by rw [← hs0]; exact RBlk.lt hI3
  generalize ((((w.alloc (.cells #[.slice sa n cx] 39)).alloc (.cells #[.slice sb m cy] 39)).alloc (.cells #[.slice none 0 0] 39)).alloc (.cells #[.slice none 0 0] 39)) = wA at *
  obtain ⟨g, hgE⟩ : ∃ g, w.heap.size + 1 + 1 + 1 + 1 = g := ⟨_, rfl⟩
  rw [hgE] at hs0 h7g
  rw [hgE]
  rw [hs0] at hI2
  clear hI3 cb1 fb1 hg1
  generalize hw2 : (w1.alloc (.cells #[.slice none 0 0] 39)) = w2 at *
  clear hw2
  generalize w1.heap.size = b7 at *
  have hAsz : wA.heap.size ≤ b7 := by omega
  go_loopw [8] (fun i wr => ∃ (j : Nat) (hs : List Nat) (R : Nat), j ≤ n ∧ i = .int .i64 ((j : Int) - 1) ∧ Hid (hs.length = n - j) ∧ Dig D hs ∧ Ints wr g (List.replicate j 0 ++ hs) ∧ Boxed wr b7 R ∧ Hid (R < b) ∧ Hid (val D hs * b + R = val D (xs.drop j)) ∧ wA.grownBy wr none) (fun i _ => (intOf i + 1).toNat)
  case atStart => exact ⟨n, [], 0, Nat.le_refl _, rfl, by show _ = _; simp, Dig.nil _, by rw [List.append_nil]; exact hI2, ⟨none, 0, 0, h71, RefV.zero _⟩, H0.out, by show _ = _; rw [List.drop_of_length_le (by rw [Hn.out]; exact Nat.le_refl _)]; simp [val], hgx1⟩
  case round =>
    clear hI2 h71 hgx1
    obtain ⟨j, hs, R, hj, rfl, hhl, hhd, hI, hB, hRb, hv, hG⟩ := hrel
    obtain ⟨sR, kR, cR, h7, nR⟩ := hB
    obtain ⟨c7, f7⟩ := box_cell h7
    obtain ⟨ca, fa⟩ := box_cell (heap_kept hG hb1)
    obtain ⟨cb, fb⟩ := box_cell (heap_kept hG hb2)
    by_cases hz : j = 0
    · subst hz
      rw [List.replicate_zero, List.nil_append] at hI
      have hq : Hid (val D hs = A / b ∧ R = A % b) := by
        have h1 := hv.out
        rw [List.drop_zero, HA.out] at h1
        have h2 := hRb.out
        have e : A = R + b * val D hs := by rw [Nat.mul_comm]; omega
        refine ⟨?_, ?_⟩
        · rw [e, Nat.add_mul_div_left _ _ H0.out, Nat.div_eq_of_lt h2]; omega
        · rw [e, Nat.add_mul_mod_self_left, Nat.mod_eq_of_lt h2]
      have hl0 : Hid (hs.length = n) := by show _ = _; rw [hhl.out]; omega
      have hgwr := grown_trans hgw0 hG
      have hr3 := heap_kept hG hb3
      have hr4 := heap_kept hG hb4
      have hrd := hI.rd
      clear hv hhl hRb hI
      go_wp2_with fail
      go_region_held3 (fun w' => w'.cell? ⟨b7, 0, none⟩ = some (.slice sR kR cR))
        (first | assumption | exact c7 | exact HS6 | exact HS7 | go_keep)
        (first
          | (go_at_call 135; (with_reducible refine (rcut_any wr.drew (some ⟨g, 0, none⟩) n n hs hl0.out (hrd.kept (grown_drew (grown_refl _ _))) (Nat.le_refl _) (by omega) hhd).mono ?_); rintro e w6 ⟨v6, rfl, ⟨s6, k6, c6, zs6, rfl, n6⟩, g6⟩; have hG6 := grown_pre wr g6 rfl rfl rfl rfl; have hS6 := hG6.cell c7 (by simp); have hr36 := heap_kept hG6 hr3; have hr46 := heap_kept hG6 hr4; (obtain ⟨c3, f3⟩ := box_cell hr36); (obtain ⟨c4, f4⟩ := box_cell hr46); have HS6 : (w6.setCell ⟨w.heap.size + 1 + 1, 0, none⟩ (.slice s6 k6 c6)).cell? ⟨b7, 0, none⟩ = some (.slice sR kR cR) := (box_cell (heap_unset (heap_kept hG6 h7) (by omega) _)).1; have HS7 : ((w6.setCell ⟨w.heap.size + 1 + 1, 0, none⟩ (.slice s6 k6 c6)).setCell ⟨w.heap.size + 1 + 1 + 1, 0, none⟩ (.slice sR kR cR)).cell? ⟨b7, 0, none⟩ = some (.slice sR kR cR) := (box_cell (heap_unset (heap_unset (heap_kept hG6 h7) (by omega) _) (by omega) _)).1))
      have q1 := heap_set hr36 (.slice s6 k6 c6)
      have q2 := heap_unset (g := w.heap.size + 1 + 1) hr46 (by omega) (.slice s6 k6 c6)
      have nA : RefV w6 (.agg #[.slice s6 k6 c6]) (A / b) := by rw [← hq.out.1]; exact ⟨s6, k6, c6, zs6, rfl, n6⟩
      have nB : RefV w6 (.agg #[.slice sR kR cR]) (A % b) := by rw [← hq.out.2]; exact nR.kept hG6
      obtain ⟨W9, hW9⟩ : ∃ W, W = (w6.setCell ⟨w.heap.size + 1 + 1, 0, none⟩ (.slice s6 k6 c6)).setCell ⟨w.heap.size + 1 + 1 + 1, 0, none⟩ (.slice sR kR cR) := ⟨_, rfl⟩
      have q1' := heap_unset (g := w.heap.size + 1 + 1 + 1) q1 (by omega) (.slice sR kR cR)
      have q2' := heap_set q2 (.slice sR kR cR)
      have nA' := (nA.set_other hr36 (by decide) 0 (.slice s6 k6 c6)).set_other q2 (by decide) 0 (.slice sR kR cR)
      have nB' := (nB.set_other hr36 (by decide) 0 (.slice s6 k6 c6)).set_other q2 (by decide) 0 (.slice sR kR cR)
      have hgW := grown_new (grown_new (grown_trans hgwr hG6) (grown_set (grown_refl w6 (some (w.heap.size + 1 + 1))) 0 (.slice s6 k6 c6)) (by omega)) (grown_set (grown_refl _ (some (w.heap.size + 1 + 1 + 1))) 0 (.slice sR kR cR)) (by omega)
      rw [← hW9] at q1' q2' nA' nB' hgW
      have HF : Hid (∃ v u, Ending.returned (.tuple #[.agg #[.slice s6 k6 c6], .agg #[.slice sR kR cR]]) = Ending.returned (.tuple #[v, u]) ∧ RefV W9 v (A / b) ∧ RefV W9 u (A % b) ∧ w.grownBy W9 none) := ⟨_, _, rfl, nA', nB', hgW⟩
      obtain ⟨cq1, gq1⟩ := box_cell q1'
      obtain ⟨cq2, gq2⟩ := box_cell q2'
      rw [← hW9]
      clear hW9 q1 q2 nA nB nA' nB' hgW n6 hr36 hr46 c3 f3 c4 f4
      go_wp2_with fail
      exact bodyPost_ret (v := .tuple #[.agg #[.slice s6 k6 c6], .agg #[.slice sR kR cR]]) (by simp [results, Tryz.results99, go_sem, cq1, cq2]) rfl HF.out
    · obtain ⟨k, rfl⟩ : ∃ k, j = k + 1 := ⟨j - 1, by omega⟩
      clear hz
      obtain ⟨x, ex⟩ : ∃ x, xs.getD k 0 = x := ⟨_, rfl⟩
      have hx4 : x < 10000 := ex ▸ getD_lt dx k
      obtain ⟨b1, o1, rfl, c1⟩ := rcell (hxA.kept hG) Hn.out k (by omega)
      rw [ex] at c1
      have EX := Lib.hid ex
      have ek : ((k + 1 : Nat) : Int) - 1 = (k : Int) := by omega
      rw [ek]
      obtain ⟨V, hV⟩ : ∃ V, x + D * R = V := ⟨_, rfl⟩
      have hkn : k < n := by omega
      have hkI : (k : Int) < (n : Int) := by omega
      clear ex ek
      go_wp2_with fail
      go_cut [] from 21 to 59 (fun wx => Cut6 wA g b7 V (List.replicate (k + 1) 0 ++ hs) wx)
      case first =>
        obtain ⟨sR', kR', cR', rs, eR, hrl, hrc, hrr, trs, drs, hrv⟩ := nR
        cases eR
        have hrl6 : kR ≤ 500000 := by
          obtain ⟨F, hF⟩ : ∃ F, F = 500000 := ⟨_, rfl⟩
          rw [← hF]
          refine rlen trs hrl ?_
          rw [hrv]
          have h1 := HBB.out
          have h2 := hRb.out
          have h3 : D ^ E ≤ D ^ F := Nat.pow_le_pow_right D_pos (by have := HE.out; omega)
          exact Nat.lt_of_lt_of_le (Nat.lt_trans h2 h1) h3
        have hgr : g < wr.heap.size := RBlk.lt hI
        have HO : Hid ((wr.drew.alloc (.cells #[.int .i64 (x : Int)] 3)).ownsRow (g + 1) 3 1 (.slice (some ⟨wr.heap.size, 0, none⟩) 1 1) 1 ([x].map iv)) := own_one rfl (by omega)
        have HR : Hid (RRdo (wr.drew.alloc (.cells #[.int .i64 (x : Int)] 3)) sR rs) := hrr.kept (grown_alloc (grown_drew (grown_refl _ _)) _)
        have HB : Hid (g + 1 ≤ (wr.drew.alloc (.cells #[.int .i64 (x : Int)] 3)).heap.size) := by show _ ≤ _; simp; omega
        have HL := Lib.hid hrl
        have HM : Hid (∀ (w5 w6 : World) (g2 cap2 k6 : Nat), w5.ownsRow (g + 1) 3 1 (.slice (some ⟨g2, 0, none⟩) (1 + kR) cap2) (1 + kR) (([x] ++ rs).map iv) → wr.grownBy w5 none → w5.grownBy w6 none → k6 ≤ 1 + kR → Top (([x] ++ rs).take k6) → val D (([x] ++ rs).take k6) = val D ([x] ++ rs) → Cut6 wA g b7 V (List.replicate (k + 1) 0 ++ hs) (w6.setCell ⟨b7, 0, none⟩ (.slice (some ⟨g2, 0, none⟩) k6 cap2))) :=
          fun w5 w6 g2 cap2 k6 q1 q2 q3 q4 q5 q6 => by rw [← hV]; exact cut6_mk hI hG h7 (by omega) hAsz hrl drs (show x < D from hx4) hrv q1 q2 q3 q4 q5 q6
        have H7 := Lib.hid h7
        obtain ⟨c7x, f7x⟩ := box_cell (heap_kept (World.grownBy_alloc wr (.cells #[.int .i64 (x : Int)] 3) none) h7)
        clear hrl hrr hI hG hV hhl hRb hv trs drs hrv hhd h7
        go_region_law (first
          | (refine step_append_ints rfl (.tmp 30) (.tmp 32) rfl (g + 1) wr.heap.size 1 1 [x] rfl HO.out (by omega) sR kR cR rs rfl HL.out HR.out (by omega) HB.out ?_; intro g2 cap2 w5 hown5 hgrow5; have hG5 : wr.grownBy w5 none := grown_new (grown_alloc (grown_drew (grown_refl wr none)) _) hgrow5 (Nat.le_refl _))
          | (go_simp; go_at_call 135; (with_reducible refine (rcut_at w5 (some ⟨g2, 0, none⟩) (1 + kR) cap2 ([x] ++ rs) (own_rdoI hown5).2.2 (own_rdoI hown5).1 (own_rdoI hown5).2.1 (by omega)).mono ?_); rintro e w6 ⟨k6, rfl, hk6, t6, v6, g6⟩; (obtain ⟨c76, f76⟩ := box_cell (heap_kept (grown_trans hG5 g6) H7.out))))
        all_goals (
          go_wp2_with fail
          go_meet
          exact HM.out w5 w6 g2 cap2 k6 hown5 hG5 g6 hk6 t6 v6)
      case rest =>
        obtain ⟨s6, k6, c6, rs, h76, hrl, hrc, hfar, trs, drs, hrv, hI6, hG6⟩ := hcut
        have nb6 := nbA.kept hG6
        have n6 : RefV wc (.agg #[.slice s6 k6 c6]) V := ⟨s6, k6, c6, rs, rfl, hrl, hrc, hfar.rd, trs, drs, hrv⟩
        have hVb : Hid (V < D * b) := by
          show _ < _
          have h1 := hRb.out
          have h2 : D * (R + 1) ≤ D * b := Nat.mul_le_mul_left _ h1
          rw [← hV]; rw [Nat.mul_add] at h2; unfold D at *; omega
        have hbD : Hid (b < D ^ 1000000) := by
          show _ < _
          obtain ⟨F, hF⟩ : ∃ F, F = 1000000 := ⟨_, rfl⟩
          rw [← hF]
          exact Nat.lt_of_lt_of_le HBB.out (Nat.pow_le_pow_right D_pos (by have := HE.out; omega))
        have hbD2 : Hid (∀ q, q ≤ D → b * q < D ^ 1000000) := by
          intro q hq
          obtain ⟨F, hF⟩ : ∃ F, F = 1000000 := ⟨_, rfl⟩
          rw [← hF]
          have h1 : b * q ≤ b * D := Nat.mul_le_mul_left _ hq
          have h2 : D ^ (E + 1) ≤ D ^ F := Nat.pow_le_pow_right D_pos (by have := HE.out; omega)
          rw [Nat.pow_succ] at h2
          have h3 : b * D < D ^ E * D := Nat.mul_lt_mul_of_pos_right HBB.out D_pos
          omega
        have hVD : Hid (V < D ^ 1000000) := by
          show _ < _
          have := hbD2.out D (Nat.le_refl _)
          rw [Nat.mul_comm] at this
          exact Nat.lt_trans hVb.out this
        clear c7 f7 ca fa cb fb c1 nR h7 hI
        go_wp2_with fail
        go_loopw [9, 10] (fun l h wi => ∃ (lo hi : Nat), l = .int .i64 lo ∧ h = .int .i64 hi ∧ lo < hi ∧ hi ≤ 10000 ∧ Hid (b * lo ≤ V) ∧ Hid (V < b * hi) ∧ wc.grownBy wi none) (fun l h _ => ((intOf h) - (intOf l)).toNat)
        case atStart => exact ⟨0, 10000, rfl, rfl, by omega, by omega, by show _ ≤ _; omega, by show _ < _; rw [Nat.mul_comm]; exact hVb.out, grown_refl _ _⟩
        case round =>
          obtain ⟨lo, hi, rfl, rfl, hlt, hh, hlo, hhi, hgi⟩ := hrel
          have h77 := heap_kept hgi h76
          have hG7 := grown_trans hG6 hgi
          obtain ⟨c7, f7⟩ := box_cell h77
          obtain ⟨cb, fb⟩ := box_cell (heap_kept hG7 hb2)
          have nb7 := nb6.kept hgi
          have n7 := n6.kept hgi
          by_cases h1 : 1 < hi - lo
          · obtain ⟨mid, hm⟩ : ∃ mid, (lo + hi) / 2 = mid := ⟨_, rfl⟩
            have em : ((lo : Int) + (hi : Int)) / 2 = (mid : Int) := by omega
            have f1 : decide ((1 : Int) < (hi : Int) - (lo : Int)) = true := decide_eq_true (by omega)
            obtain ⟨hml, hmh⟩ := bin_step h1 hm
            obtain ⟨c, hc⟩ : ∃ c, cmpInt (b * mid) V = c := ⟨_, rfl⟩
            have HC := Lib.hid hc
            have key : (decide (c ≤ 0) = true ∧ b * mid ≤ V) ∨ (decide (c ≤ 0) = false ∧ V < b * mid) := by
              rcases Nat.lt_trichotomy (b * mid) V with q | q | q
              · left; rw [← hc, cmpInt_lt q]; exact ⟨by decide, by omega⟩
              · left; rw [← hc, cmpInt_eq q]; exact ⟨by decide, by omega⟩
              · right; rw [← hc, cmpInt_gt q]; exact ⟨by decide, q⟩
            have hmD : Hid (b * mid < D ^ 1000000) := hbD2.out mid (by unfold D; omega)
            clear hc hm
            rcases key with ⟨fc, hkey⟩ | ⟨fc, hkey⟩
            · have HK := Lib.hid hkey
              clear hkey
              go_wp2_with fail
              go_region_held3 (fun w' => w'.cell? ⟨w.heap.size + 1, 0, none⟩ = some (.slice sb m cy) ∧ w'.cell? ⟨b7, 0, none⟩ = some (.slice s6 k6 c6))
                (first | assumption | exact ⟨cb, c7⟩ | go_keep)
                (first
                  | (go_at_call 136; (with_reducible refine (rSmall_any wr.drew _ b mid (nb7.kept (grown_drew (grown_refl _ _))) hbD.out (by omega)).mono ?_); rintro e w8 ⟨v8, rfl, n8, g8⟩; have hG8 := grown_pre wr g8 rfl rfl rfl rfl; have hS8 := And.intro (hG8.cell cb (by simp)) (hG8.cell c7 (by simp)))
                  | (go_at_call 101; (with_reducible refine (rCmp_any w8 _ _ (b * mid) V n8 (n7.kept hG8) hmD.out hVD.out).mono ?_); rintro e w9 ⟨rfl, g9⟩; rw [HC.out]; have hG9 := grown_trans hG8 g9; have hS9 := And.intro (hG9.cell cb (by simp)) (hG9.cell c7 (by simp))))
              go_wp2_with fail
              go_roundw
              case rel => exact ⟨mid, hi, rfl, rfl, hmh, hh, HK, hhi, grown_trans hgi hG9⟩
              case measure => simp [intOf]; omega
            · have HK := Lib.hid hkey
              clear hkey
              go_wp2_with fail
              go_region_held3 (fun w' => w'.cell? ⟨w.heap.size + 1, 0, none⟩ = some (.slice sb m cy) ∧ w'.cell? ⟨b7, 0, none⟩ = some (.slice s6 k6 c6))
                (first | assumption | exact ⟨cb, c7⟩ | go_keep)
                (first
                  | (go_at_call 136; (with_reducible refine (rSmall_any wr.drew _ b mid (nb7.kept (grown_drew (grown_refl _ _))) hbD.out (by omega)).mono ?_); rintro e w8 ⟨v8, rfl, n8, g8⟩; have hG8 := grown_pre wr g8 rfl rfl rfl rfl; have hS8 := And.intro (hG8.cell cb (by simp)) (hG8.cell c7 (by simp)))
                  | (go_at_call 101; (with_reducible refine (rCmp_any w8 _ _ (b * mid) V n8 (n7.kept hG8) hmD.out hVD.out).mono ?_); rintro e w9 ⟨rfl, g9⟩; rw [HC.out]; have hG9 := grown_trans hG8 g9; have hS9 := And.intro (hG9.cell cb (by simp)) (hG9.cell c7 (by simp))))
              go_wp2_with fail
              go_roundw
              case rel => exact ⟨lo, mid, rfl, rfl, hml, by omega, hlo, HK, grown_trans hgi hG9⟩
              case measure => simp [intOf]; omega
          · have hhe : hi = lo + 1 := by omega
            have f1 : decide ((1 : Int) < (hi : Int) - (lo : Int)) = false := decide_eq_false (by omega)
            have hhi2 : Hid (V < b * (lo + 1)) := by show _ < _; rw [← hhe]; exact hhi.out
            have hlo9 : lo ≤ 10000 := by omega
            have hloD : lo < 10000 := by omega
            clear hhe h1
            have hIr := hI6.kept hgi
            have c8 := hIr.cell (n := n) (by rw [List.length_append, List.length_replicate, hhl.out]; omega) k (by omega)
            have f8 := hIr.frozen k
            have hI8 := hIr.set k lo
            rw [set_rep] at hI8
            have hgA : wA.heap.size ≤ g := by omega
            have hG8 := grown_new hG7 (grown_set (grown_refl wr (some g)) k (.int .i64 (lo : Int))) hgA
            have h78 : (wr.setCell ⟨g, k, none⟩ (.int .i64 (lo : Int))).heap[b7]? = some (.cells #[.slice s6 k6 c6] 39 (0, 0)) := (Below.heap_setCell _ _ _ _ (by simp; omega)).trans h77
            have n8 : RefV (wr.setCell ⟨g, k, none⟩ (.int .i64 (lo : Int))) (.agg #[.slice s6 k6 c6]) V := ⟨s6, k6, c6, rs, rfl, hrl, hrc, ((hfar.kept hgi).setCell k _).rd, trs, drs, hrv⟩
            have hvn : Hid (val D (lo :: hs) * b + (V - b * lo) = val D (xs.drop k)) := by
              show _ = _
              rw [val_drop xs k (by rw [Hn.out]; omega), EX.out, ← hV]
              exact div_step hv.out (by rw [Nat.mul_comm, hV]; exact hlo.out)
            have hRn : Hid (V - b * lo < b) := by
              show _ < _
              have := hhi2.out
              rw [Nat.mul_add] at this
              have := hlo.out
              omega
            have hln : Hid ((lo :: hs).length = n - k) := by show _ = _; rw [List.length_cons, hhl.out]; omega
            have hhd2 : Dig D (lo :: hs) := Dig.cons (show lo < D by unfold D; omega) hhd
            clear hIr nb7 n7 c7 f7 cb fb hV hv hRb hhl hfar hrl hrc trs drs hrv n6 nb6 hI6 h76 h77
            go_wp2_with fail
            generalize (wr.setCell ⟨g, k, none⟩ (.int .i64 (lo : Int))) = W8 at *
            obtain ⟨c78, f78⟩ := box_cell h78
            obtain ⟨cb8, fb8⟩ := box_cell (heap_kept hG8 hb2)
            have nb8 := nbA.kept hG8
            have HM2 : Hid (∀ (w6 : World) (s : Option Addr) (k' c' : Nat), W8.grownBy w6 none → RefV w6 (.agg #[.slice s k' c']) (V - b * lo) → Cut14 wA g b7 (V - b * lo) (List.replicate k 0 ++ lo :: hs) (w6.setCell ⟨b7, 0, none⟩ (.slice s k' c'))) := fun w6 s k' c' q1 q2 => cut14_mk hI8 hG8 h78 (by omega) hAsz q1 q2
            have H78 := Lib.hid h78
            clear hI8 hG8 h78
            go_region_with (first
              | (go_at_call 136; (with_reducible refine (rSmall_any W8.drew _ b lo (nb8.kept (grown_drew (grown_refl _ _))) hbD.out hlo9).mono ?_); rintro e w9 ⟨v9, rfl, n9, g9⟩; have hG9 := grown_pre W8 g9 rfl rfl rfl rfl; (obtain ⟨c79, f79⟩ := box_cell (heap_kept hG9 H78.out)))
              | (go_at_call 137; (with_reducible refine (rLess_any w9 _ _ V (b * lo) (n8.kept hG9) n9 hlo.out hVD.out).mono ?_); rintro e w10 ⟨v10, rfl, ⟨s10, k10, c10, z10, rfl, n10⟩, g10⟩; have hG10 := grown_trans hG9 g10; (obtain ⟨c710, f710⟩ := box_cell (heap_kept hG10 H78.out))))
            all_goals (
              obtain ⟨hB9, hI9, hG9'⟩ := HM2.out w10 s10 k10 c10 hG10 ⟨s10, k10, c10, z10, rfl, n10⟩
              clear c78 f78 cb8 fb8 nb8 n8 c8 f8 n9 n10 g9 g10 hG9 hG10 c79 f79 c710 f710
              go_wp2_with fail
              go_roundw
              case rel => exact ⟨k, lo :: hs, V - b * lo, by omega, by go_num, hln, hhd2, hI9, hB9, hRn, hvn, hG9'⟩
              case measure => simp [intOf])
theorem Boxed.unset {w : World} {b g n : Nat} {c : Array Value} {t : TypeId} (h : Boxed w b n) (hb : b ≠ g) (hbox : w.heap[g]? = some (.cells c t (0, 0))) (ht : t ≠ 3) (v : Value) : Boxed (w.setCell ⟨g, 0, none⟩ v) b n := by
  obtain ⟨s, k, c, h1, h2⟩ := h
  exact ⟨s, k, c, heap_unset h1 hb v, h2.set_other hbox ht 0 v⟩
end Go.Proofs.YtoaepibannfbdaaGreatDoor
