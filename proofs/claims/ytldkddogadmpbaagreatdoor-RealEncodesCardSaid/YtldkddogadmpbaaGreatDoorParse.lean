/- Parse. -/
import Derived.Test.YtldkddogadmpbaaGreatDoorDigits
namespace Go.Proofs.YtldkddogadmpbaaGreatDoor
open Go.RowKit Mat
set_option maxRecDepth 100000
set_option linter.unusedVariables false
set_option linter.unusedSimpArgs false

/-- The number that digits name. -/
def dval (l : List Nat) : Nat := l.foldl (fun a d => a * 10 + (d - 48)) 0
theorem dfold (l : List Nat) : ∀ a, l.foldl (fun a d => a * 10 + (d - 48)) a = a * 10 ^ l.length + dval l := by
  induction l with
  | nil => intro a; simp [dval]
  | cons d t ih =>
    intro a
    show t.foldl _ (a * 10 + (d - 48)) = _
    rw [ih]
    have : dval (d :: t) = (0 * 10 + (d - 48)) * 10 ^ t.length + dval t := ih _
    rw [this, List.length_cons, Nat.pow_succ]
    grind
theorem dval_append (l m : List Nat) : dval (l ++ m) = dval l * 10 ^ m.length + dval m := by
  show (l ++ m).foldl _ 0 = _
  rw [List.foldl_append]; exact dfold m _
theorem dval_snoc (l : List Nat) (k x : Nat) (h : k < l.length) (e : l[k] = x) : dval (l.take (k + 1)) = dval (l.take k) * 10 + (x - 48) := by
  rw [List.take_succ_eq_append_getElem h, dval_append, e]; simp [dval]
theorem bts_extract (t : ByteArray) (m : Nat) : bts (t.extract m t.size) = (bts t).drop m := by
  apply List.ext_getElem?
  intro i
  rw [List.getElem?_drop]
  by_cases h : m + i < t.size
  · have h1 : i < (t.extract m t.size).size := by rw [ByteArray.size_extract]; omega
    rw [List.getElem?_eq_getElem (by rw [bts_len]; exact h1), List.getElem?_eq_getElem (by rw [bts_len]; exact h), bts_get _ _ h1, bts_get _ _ h]
    rw [ByteArray.getElem_extract]
  · rw [List.getElem?_eq_none (by rw [bts_len, ByteArray.size_extract]; omega), List.getElem?_eq_none (by rw [bts_len]; omega)]

set_option maxHeartbeats 2000000 in
theorem Parse_long (w : World) (s : ByteArray) (hs : 4096 < s.size) :
    Calls Tryz.prog 13 #[.string s] w (RetNatE w 0 2) := by
  have f1 : decide ((4096 : Int) < (s.size : Int)) = true := decide_eq_true (by omega)
  go_enter Tryz.func13, Tryz.ntmps13
  go_wp2_with fail
  exact bodyPost_ret (v := .tuple #[.agg #[.slice none 0 0], .int .i64 2]) (by simp [results, Tryz.results13, go_sem]) rfl ⟨_, rfl, NatV.zero _, by repeat (first | exact World.grownBy_alloc _ _ _ | refine grown_alloc ?_ _ | refine grown_new (g := w.heap.size) ?_ (grown_set (grown_refl _ _) _ _) (by omega))⟩

set_option maxHeartbeats 2000000 in
theorem Parse_form (w : World) (s : ByteArray) (hs : s.size ≤ 4096) (hd : ¬ DecL (bts s)) :
    Calls Tryz.prog 13 #[.string s] w (RetNatE w 0 3) := by
  have f1 : decide ((4096 : Int) < (s.size : Int)) = false := decide_eq_false (by omega)
  go_enter Tryz.func13, Tryz.ntmps13
  go_wp2_with fail
  refine (decimal_any _ s hs).mono ?_
  rintro e w' ⟨b, rfl, hb, rfl⟩
  obtain rfl : b = false := by
    cases b
    · rfl
    · exact absurd (hb.1 rfl) hd
  go_wp2_with fail
  exact bodyPost_ret (v := .tuple #[.agg #[.slice none 0 0], .int .i64 3]) (by simp [results, Tryz.results13, go_sem]) rfl ⟨_, rfl, NatV.zero _, by repeat (first | exact World.grownBy_alloc _ _ _ | refine grown_alloc ?_ _ | refine grown_new (g := w.heap.size) ?_ (grown_set (grown_refl _ _) _ _) (by omega))⟩
theorem own_rdo {w : World} {base : Nat} {s : Option Addr} {n cap : Nat} {xs : List Nat} (h : w.ownsRow base 71 1 (.slice s n cap) n (xs.map uv)) : Rdo w s xs ∧ n ≤ cap := by
  rcases Nat.eq_zero_or_pos n with h0 | h0
  · have h1 := h.1
    rw [List.length_map, h0] at h1
    exact ⟨Or.inl (List.length_eq_zero_iff.1 (by omega)), by omega⟩
  · obtain ⟨g, cs, rfl, hg, hb, hc, hm, hs, hat⟩ := own_row h h0
    exact ⟨Rdo.of hb hat, hc⟩
theorem digit_at {s t : ByteArray} {j k d : Nat} (hd : DecL (bts s)) (h : bts t = (bts s).drop j) (hk : k < t.size) (e : (t[k]'hk).toNat = d) : 48 ≤ d ∧ d ≤ 57 := by
  have h1 := bts_get t k hk
  rw [e] at h1
  have hl : k < (bts t).length := by rw [bts_len]; exact hk
  have hl2 : j + k < (bts s).length := by rw [h, List.length_drop] at hl; omega
  have h2 : (bts t)[k]'hl = (bts s)[j + k]'hl2 := by
    have : (bts t)[k]? = (bts s)[j + k]? := by rw [h, List.getElem?_drop]
    rw [List.getElem?_eq_getElem hl, List.getElem?_eq_getElem hl2] at this
    exact Option.some.inj this
  rw [← h1, h2]; exact hd.1 _ hl2
theorem dval_two {l : List Nat} {n j k : Nat} (hl : l.length = n) (h : j + k ≤ n) : dval (l.take (j + k)) = dval (l.take j) * 10 ^ k + dval ((l.drop j).take k) := by
  rw [List.take_add, dval_append, List.length_take, List.length_drop, Nat.min_eq_left (by omega)]

set_option maxHeartbeats 8000000 in
theorem Parse_some (w : World) (s : ByteArray) (hs : s.size ≤ 4096) (hd : DecL (bts s)) :
    Calls Tryz.prog 13 #[.string s] w (RetNatE w (dval (bts s)) 0) := by
  have f1 : decide ((4096 : Int) < (s.size : Int)) = false := decide_eq_false (by omega)
  have hbox0 := heap_new w (.cells #[.slice none 0 0] 24) w.heap.size rfl
  have hgw0 := World.grownBy_alloc w (.cells #[.slice none 0 0] 24) none
  have hsz0 : (w.alloc (.cells #[.slice none 0 0] 24)).heap.size = w.heap.size + 1 := by simp
  have HD := Lib.hid hd
  have HB := Lib.hid (bts_len s)
  go_enter Tryz.func13, Tryz.ntmps13
  go_wp2_with fail
  refine (decimal_any _ s hs).mono ?_
  rintro e w' ⟨b, rfl, hb, rfl⟩
  obtain rfl : b = true := hb.2 HD.out
  clear hb hd
  go_wp2_with fail
  generalize (w.alloc (.cells #[.slice none 0 0] 24)) = w0 at *
  go_loopg [0, 4] s.size (fun gh a b wr => ∃ (t : ByteArray) (j : Nat) (so : Option Addr) (n cap : Nat) (xs : List Nat), a = .string t ∧ b = .slice so n cap ∧ Hid (bts t = (bts s).drop j) ∧ j + t.size = s.size ∧ t.size ≤ gh ∧ n ≤ j ∧ Hid (xs.length = n) ∧ Dig B xs ∧ Hid (val B xs = dval ((bts s).take j)) ∧ wr.ownsRow (w.heap.size + 1) 71 1 (.slice so n cap) n (xs.map uv) ∧ (n = 0 → so = none ∧ cap = 0) ∧ Below (w.heap.size + 1) w0 wr)
  case atStart => exact ⟨s, 0, none, 0, 0, [], rfl, rfl, by show _ = _; rw [List.drop_zero], by omega, Nat.le_refl _, Nat.le_refl _, rfl, Dig.nil _, rfl, ⟨rfl, Or.inl ⟨rfl, rfl⟩⟩, fun _ => ⟨rfl, rfl⟩, Below.refl _ _⟩
  case round =>
    obtain ⟨t, j, so, n, cap, xs, rfl, rfl, hbt, hjt, hgh, hnj, hxn, hxd, hxv, hown, hz, hbl⟩ := hrel
    by_cases h0 : t.size = 0
    · have f2 : decide ((0 : Int) < (t.size : Int)) = false := decide_eq_false (by omega)
      obtain ⟨hrd, hcap⟩ := own_rdo hown
      have hgw := grown_then_below hgw0 hbl (by omega)
      have hbox := heap_below hbl hbox0 (by omega)
      have HV : Hid (val B xs = dval (bts s)) := by
        show _ = _
        rw [hxv.out, List.take_of_length_le (by rw [HB.out]; omega)]
      clear hown hbl hxv hbt
      go_wp2_with fail
      refine (own_at wr so n cap xs hxn.out hrd (by omega) hcap hxd).mono ?_
      rintro e w4 ⟨v, rfl, ⟨sc, zs, rfl, hl4, hv4⟩, hg4⟩
      have hbox4 := heap_kept hg4 hbox
      obtain ⟨hc4, hf4⟩ := box_cell hbox4
      have hF := Lib.hid (ret_setE (code := 0) (grown_trans hgw hg4) hbox4 (by decide) (Nat.le_refl _) hl4 (hv4.trans HV.out) (.slice sc zs.length zs.length))
      clear hv4 hbox4 hbox hg4 hgw hbox0 hgw0
      go_wp2_with fail
      exact bodyPost_ret (v := .tuple #[.agg #[.slice sc zs.length zs.length], .int .i64 0]) (by simp [results, Tryz.results13, go_sem, hc4]) rfl hF.out
    · have f2 : decide ((0 : Int) < (t.size : Int)) = true := decide_eq_true (by omega)
      obtain ⟨m, hm⟩ : ∃ m, min 9 t.size = m := ⟨_, rfl⟩
      have hm9 : m ≤ 9 := by omega
      have hmt : m ≤ t.size := by omega
      have hm1 : 0 < m := by omega
      have hmi : min (9 : Int) (t.size : Int) = (m : Int) := by omega
      have HBT := Lib.hid (bts_len t)
      clear hm
      go_wp2_with fail
      go_loopw [6, 7, 24] (fun sc v i wi => ∃ (k c x : Nat), k ≤ m ∧ i = .int .i64 k ∧ sc = .int .u64 c ∧ v = .int .u64 x ∧ Hid (c = 10 ^ k) ∧ c ≤ 1000000000 ∧ x < c ∧ Hid (x = dval ((bts t).take k)) ∧ wr = wi) (fun _ _ i _ => m - (intOf i).toNat)
      case atStart => exact ⟨0, 1, 0, Nat.zero_le _, rfl, rfl, rfl, rfl, by omega, by omega, rfl, rfl⟩
      case round =>
        obtain ⟨k, c, x, hk, rfl, rfl, rfl, hc, hcb, hxc, hx, rfl⟩ := hrel
        by_cases hlt : k < m
        · obtain ⟨d, ed⟩ : ∃ d, (t[k]'(by omega)).toNat = d := ⟨_, rfl⟩
          have hds : 48 ≤ d ∧ d ≤ 57 := digit_at HD.out hbt.out (by omega) ed
          have hc10 : c * 10 ≤ 1000000000 := by
            have h1 : 10 ^ (k + 1) ≤ 10 ^ 9 := Nat.pow_le_pow_right (by omega) (by omega)
            rw [hc.out, ← Nat.pow_succ]; exact h1
          have hx2 : Hid (x * 10 + (d - 48) = dval ((bts t).take (k + 1))) := by
            show _ = _
            rw [dval_snoc (bts t) k d (by rw [HBT.out]; omega) (by rw [bts_get t k (by omega)]; exact ed), hx.out]
          have hc2 : Hid (c * 10 = 10 ^ (k + 1)) := by show _ = _; rw [hc.out, Nat.pow_succ]
          have g1 : IntKind.u8.wrap ((d : Int) - 48) = ((d - 48 : Nat) : Int) := by rw [IntKind.wrap_u8]; omega
          obtain ⟨q, hq⟩ : ∃ q, d - 48 = q := ⟨_, rfl⟩
          rw [hq] at g1 hx2
          have hq9 : q ≤ 9 := by omega
          clear hq
          go_wp2_with fail
          go_roundw
          case rel => exact ⟨k + 1, c * 10, x * 10 + q, by omega, by go_num, by go_num, by go_num, hc2, hc10, by omega, hx2, by trivial⟩
          case measure => simp [intOf]; omega
        · obtain rfl : k = m := by omega
          go_wp2_with fail
          refine (scaled_any wr (w.heap.size + 1) so n cap xs c x hxn.out hown hxd (by omega) (Nat.lt_of_le_of_lt hcb (by decide)) (Nat.lt_trans hxc (Nat.lt_of_le_of_lt hcb (by decide))) (by have := hbl.size; omega) hz).mono ?_
          rintro e w2 ⟨s2, n2, cap2, zs, rfl, hown2, hl2, hn2, hd2, hv2, hbl2, hz2⟩
          have hx3 : Hid (val B zs = dval ((bts s).take (j + k))) := by
            show _ = _
            rw [hv2, hxv.out, hc.out, hx.out, hbt.out, ← dval_two HB.out (by omega)]
          have HL2 := Lib.hid hl2
          have hn2' : n2 ≤ n + 1 := by rw [hxn.out] at hn2; exact hn2
          have hbl3 := hbl.trans hbl2
          clear hv2 hl2 hn2 hown hbl hbl2 hxv hc hx
          have hbe : Hid (bts (t.extract k t.size) = (bts s).drop (j + k)) := by
            show _ = _; rw [bts_extract, hbt.out, List.drop_drop]
          have hse : (t.extract k t.size).size = t.size - k := by rw [ByteArray.size_extract]; omega
          go_wp2_with fail
          go_roundg (t.size - k)
          case measure => omega
          case rel => exact ⟨t.extract k t.size, j + k, s2, n2, cap2, zs, rfl, rfl, hbe, by omega, by omega, by omega, HL2, hd2, hx3, hown2, hz2, hbl3⟩

/-- What Parse answers: the number, or which error. -/
theorem Parse_any (w : World) (s : ByteArray) :
    (4096 < s.size → Calls Tryz.prog 13 #[.string s] w (RetNatE w 0 2)) ∧
    (s.size ≤ 4096 → ¬ DecL (bts s) → Calls Tryz.prog 13 #[.string s] w (RetNatE w 0 3)) ∧
    (s.size ≤ 4096 → DecL (bts s) → Calls Tryz.prog 13 #[.string s] w (RetNatE w (dval (bts s)) 0)) :=
  ⟨Parse_long w s, Parse_form w s, Parse_some w s⟩
end Go.Proofs.YtldkddogadmpbaaGreatDoor
