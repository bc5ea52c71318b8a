/- The document's own texts. -/
import Derived.Test.YtljfhiikoimdiaaRefParse
namespace Go.Proofs.Ytljfhiikoimdiaa
open Go.RowKit Mat
set_option maxRecDepth 100000
set_option linter.unusedVariables false
set_option linter.unusedSimpArgs false

def DigL (l : List Nat) : Prop := ∀ k (h : k < l.length), 48 ≤ l[k] ∧ l[k] ≤ 57
theorem DigL.append {l m : List Nat} (h : DigL l) (g : DigL m) : DigL (l ++ m) := by
  intro k hk
  rcases Nat.lt_or_ge k l.length with h1 | h1
  · rw [List.getElem_append_left h1]; exact h k h1
  · rw [List.getElem_append_right h1]; exact g _ _
theorem DigL.drop {l : List Nat} (h : DigL l) (n : Nat) : DigL (l.drop n) := by
  intro k hk
  rw [List.getElem_drop]; exact h _ _
def u8l (x : Nat) : List UInt8 := [UInt8.ofNat (48 + x / 1000), UInt8.ofNat (48 + x / 100 % 10), UInt8.ofNat (48 + x / 10 % 10), UInt8.ofNat (48 + x % 10)]
def four4 (x : Nat) : ByteArray := ⟨(u8l x).toArray⟩
theorem bts_four (x : Nat) (h : x < 10000) : bts (four4 x) = [48 + x / 1000, 48 + x / 100 % 10, 48 + x / 10 % 10, 48 + x % 10] := by
  have h1 : 48 + x / 1000 < 256 := by omega
  have h2 : 48 + x / 100 % 10 < 256 := by omega
  have h3 : 48 + x / 10 % 10 < 256 := by omega
  have h4 : 48 + x % 10 < 256 := by omega
  simp [bts, four4, u8l, UInt8.toNat_ofNat', Nat.mod_eq_of_lt h1, Nat.mod_eq_of_lt h2, Nat.mod_eq_of_lt h3, Nat.mod_eq_of_lt h4]
theorem bts_app (s t : ByteArray) : bts (s ++ t) = bts s ++ bts t := by
  unfold bts
  rw [ByteArray.data_append, Array.toList_append, List.map_append]
theorem dig_four (x : Nat) (h : x < 10000) : DigL (bts (four4 x)) := by
  rw [bts_four x h]
  intro k hk
  simp only [List.length_cons, List.length_nil] at hk
  rcases (show k = 0 ∨ k = 1 ∨ k = 2 ∨ k = 3 by omega) with rfl | rfl | rfl | rfl <;> simp <;> omega
theorem dval_four (x : Nat) (h : x < 10000) : dval (bts (four4 x)) = x := by
  rw [bts_four x h]
  simp [dval]; omega
theorem dval_cons48 (l : List Nat) : dval (48 :: l) = dval l := rfl

set_option maxHeartbeats 2000000 in
theorem rText_zero (w : World) (va : Value) (ha : RefV w va 0) :
    Calls Try.prog 23 #[va] w (RetText w 0) := by
  obtain ⟨sa, n, cx, xs, rfl, hn, hnc, hx, tx, dx, h0⟩ := ha
  obtain rfl := (val_zero_iff D D_pos xs tx).1 h0
  obtain rfl : n = 0 := by rw [← hn]; rfl
  clear h0
  have hF : Hid (RetText w 0 (.returned (.string { data := #[48] })) (w.alloc (.cells #[.slice sa 0 cx] 32))) := by
    refine ⟨_, rfl, ⟨fun k hk => ?_, Or.inl rfl⟩, rfl, World.grownBy_alloc _ _ _⟩
    have : k = 0 := by have : k < 1 := hk; omega
    subst this
    exact ⟨Nat.le_refl 48, (by decide : (48 : Nat) ≤ 57)⟩
  go_enter Try.func23, Try.ntmps23
  go_wp2_with fail
  go_ret
  exact hF.out

set_option maxHeartbeats 4000000 in
theorem rText_some (w : World) (va : Value) (a : Nat) (ha : RefV w va a) (h0 : 0 < a) (ba : a < D ^ 1000000) :
    Calls Try.prog 23 #[va] w (RetText w a) := by
  obtain ⟨sa, n, cx, xs, rfl, hn, hnc, hx, tx, dx, rfl⟩ := ha
  have Hn := Lib.hid hn
  have hn6 : n ≤ 1000000 := rlen tx hn ba
  have hn0 : 0 < n := by
    rcases Nat.eq_zero_or_pos n with e | e
    · rw [e] at hn
      rw [List.length_eq_zero_iff.1 hn] at h0
      simp [val] at h0
    · exact e
  have H0 := Lib.hid h0
  have f0 : ((n : Int) == 0) = false := beq_eq_false_iff_ne.2 (by omega)
  have hgw0 := World.grownBy_alloc w (.cells #[.slice sa n cx] 32) none
  have hbox0 := heap_new w (.cells #[.slice sa n cx] 32) w.heap.size rfl
  clear hn h0 ba
  go_enter Try.func23, Try.ntmps23
  go_wp2_with fail
  generalize (w.alloc (.cells #[.slice sa n cx] 32)) = w0 at *
  go_loopw [3, 4] (fun s i wr => ∃ (j : Nat) (t : ByteArray), j ≤ n ∧ i = .int .i64 ((j : Int) - 1) ∧ s = .string t ∧ t.size = 4 * (n - j) ∧ Hid (DigL (bts t)) ∧ Hid (dval (bts t) = val D (xs.drop j)) ∧ w0.grownBy wr none) (fun _ i _ => (intOf i + 1).toNat)
  case atStart => exact ⟨n, { data := #[] }, Nat.le_refl _, rfl, rfl, by simp; rfl, fun k hk => by simp [bts] at hk, by show _ = _; rw [List.drop_of_length_le (by rw [Hn.out]; exact Nat.le_refl _)]; rfl, grown_refl _ _⟩
  case round =>
    obtain ⟨j, t, hj, rfl, rfl, hts, hdg, hv, hg⟩ := hrel
    obtain ⟨ca, fa⟩ := box_cell (heap_kept hg hbox0)
    by_cases hz : j = 0
    · subst hz
      have hv0 : Hid (dval (bts t) = val D xs) := by show _ = _; rw [hv.out]; rfl
      have hgw := grown_trans hgw0 hg
      clear hv hg hts
      go_wp2_with fail
      go_loopw [3] (fun s wz => ∃ (t2 : ByteArray), s = .string t2 ∧ Hid (DigL (bts t2)) ∧ Hid (dval (bts t2) = val D xs) ∧ wr = wz) (fun s _ => match s with | .string b => b.size | _ => 0)
      case atStart => exact ⟨t, rfl, hdg, hv0, rfl⟩
      case round =>
        clear hdg hv0
        obtain ⟨t2, rfl, hdg, hv0, rfl⟩ := hrel
        have hsz : 0 < t2.size := by
          rcases Nat.eq_zero_or_pos t2.size with e | e
          · have h1 := bts_len t2
            rw [e] at h1
            have h2 := hv0.out
            rw [List.length_eq_zero_iff.1 h1] at h2
            have := H0.out
            simp [dval] at h2; omega
          · exact e
        obtain ⟨x, ex⟩ : ∃ x, (t2[0]'hsz).toNat = x := ⟨_, rfl⟩
        have hhd : Hid ((bts t2).head? = some x) := by show _ = _; rw [bts_head t2 hsz, ex]
        by_cases h48 : x = 48
        · subst h48
          have hcons : bts t2 = 48 :: (bts t2).drop 1 := by
            have h1 := hhd.out
            cases hb : bts t2 with
            | nil => rw [hb] at h1; simp at h1
            | cons y l => rw [hb] at h1; simp at h1; simp [h1]
          have hex : bts (t2.extract 1 t2.size) = (bts t2).drop 1 := bts_extract t2 1
          have hd2 : Hid (DigL (bts (t2.extract 1 t2.size))) := by show DigL _; rw [hex]; exact hdg.out.drop 1
          have hv2 : Hid (dval (bts (t2.extract 1 t2.size)) = val D xs) := by
            show _ = _
            rw [hex, ← dval_cons48, ← hcons]; exact hv0.out
          have hsz2 : (t2.extract 1 t2.size).size = t2.size - 1 := by rw [ByteArray.size_extract]; omega
          clear hcons hex
          go_wp2_with fail
          go_roundw
          case rel => exact ⟨t2.extract 1 t2.size, rfl, hd2, hv2, by trivial⟩
          case measure => simp [hsz2]; omega
        · have f1 : ((x : Int) == 48) = false := beq_eq_false_iff_ne.2 (by omega)
          have hF : Hid (RetText w (val D xs) (.returned (.string t2)) wr) := by
            refine ⟨_, rfl, ⟨hdg.out, Or.inr ⟨fun e => ?_, ?_⟩⟩, hv0.out, hgw⟩
            · have := hhd.out; rw [e] at this; simp at this
            · rw [hhd.out]; intro e; exact h48 (Option.some.inj e)
          go_wp2_with fail
          go_ret
          exact hF.out
    · obtain ⟨k, rfl⟩ : ∃ k, j = k + 1 := ⟨j - 1, by omega⟩
      clear hz
      obtain ⟨x, ex⟩ : ∃ x, xs.getD k 0 = x := ⟨_, rfl⟩
      have hx4 : x < 10000 := ex ▸ getD_lt dx k
      obtain ⟨b1, o1, rfl, c1⟩ := rcell ((hx.kept hgw0).kept hg) Hn.out k (by omega)
      rw [ex] at c1
      have EX := Lib.hid ex
      have ek : ((k + 1 : Nat) : Int) - 1 = (k : Int) := by omega
      rw [ek]
      have hnews : ∀ j u, ([.int .u8 (48 + (x : Int) / 1000), .int .u8 (48 + (x : Int) / 100 % 10), .int .u8 (48 + (x : Int) / 10 % 10), .int .u8 (48 + (x : Int) % 10)] : List Value)[j]? = some u → (wr.alloc (.cells #[.int .u8 (48 + (x : Int) / 1000), .int .u8 (48 + (x : Int) / 100 % 10), .int .u8 (48 + (x : Int) / 10 % 10), .int .u8 (48 + (x : Int) % 10)] 5)).cell? ((⟨wr.heap.size, 0, none⟩ : Addr).add j) = some u := World.news_of_block (heap_alloc_new wr _)
      have hconv : (convert 87 9 (.slice (some ⟨wr.heap.size, 0, none⟩) 4 4)).run Try.prog (wr.alloc (.cells #[.int .u8 (48 + (x : Int) / 1000), .int .u8 (48 + (x : Int) / 100 % 10), .int .u8 (48 + (x : Int) / 10 % 10), .int .u8 (48 + (x : Int) % 10)] 5)) = .ok (.string (four4 x)) (wr.alloc (.cells #[.int .u8 (48 + (x : Int) / 1000), .int .u8 (48 + (x : Int) / 100 % 10), .int .u8 (48 + (x : Int) / 10 % 10), .int .u8 (48 + (x : Int) % 10)] 5)) := by
        refine run_convert_bytes_back (P := Try.prog) _ 87 9 5 ⟨wr.heap.size, 0, none⟩ 4 (u8l x) Try.underlying87 Try.underlying5 Try.underlying9 ?_
        intro j hj
        refine hnews j _ ?_
        have hj4 : j < 4 := hj
        have w1 : (48 + x / 1000) % 256 = 48 + x / 1000 := by omega
        have w2 : (48 + x / 100 % 10) % 256 = 48 + x / 100 % 10 := by omega
        have w3 : (48 + x / 10 % 10) % 256 = 48 + x / 10 % 10 := by omega
        have w4 : (48 + x % 10) % 256 = 48 + x % 10 := by omega
        rcases (show j = 0 ∨ j = 1 ∨ j = 2 ∨ j = 3 by omega) with rfl | rfl | rfl | rfl <;> simp [u8l, UInt8.toNat_ofNat', w1, w2, w3, w4]
      clear hnews
      have hs4 : (four4 x).size = 4 := rfl
      have hg2 : w0.grownBy (wr.alloc (.cells #[.int .u8 (48 + (x : Int) / 1000), .int .u8 (48 + (x : Int) / 100 % 10), .int .u8 (48 + (x : Int) / 10 % 10), .int .u8 (48 + (x : Int) % 10)] 5)) none := grown_alloc hg _
      have hdn : Hid (DigL (bts (t ++ four4 x))) := by show DigL _; rw [bts_app]; exact hdg.out.append (dig_four x hx4)
      have hvn : Hid (dval (bts (t ++ four4 x)) = val D (xs.drop k)) := by
        show _ = _
        rw [bts_app, dval_append, dval_four x hx4, hv.out, bts_len, hs4, List.drop_eq_getElem_cons (i := k) (by rw [Hn.out]; omega)]
        have e : xs[k]'(by rw [Hn.out]; omega) = x := by rw [← EX.out, List.getD_eq_getElem?_getD, List.getElem?_eq_getElem (by rw [Hn.out]; omega)]; rfl
        rw [e]
        show val D (xs.drop (k + 1)) * 10 ^ 4 + x = x + D * val D (xs.drop (k + 1))
        unfold D; omega
      have hsn : (t ++ four4 x).size = 4 * (n - k) := by rw [ByteArray.size_append, hts, hs4]; omega
      clear hg hv hdg ek
      go_wp2_with fail
      go_roundw
      case rel => exact ⟨k, t ++ four4 x, by omega, by go_num, rfl, hsn, hdn, hvn, hg2⟩
      case measure => simp [intOf]
end Go.Proofs.Ytljfhiikoimdiaa
