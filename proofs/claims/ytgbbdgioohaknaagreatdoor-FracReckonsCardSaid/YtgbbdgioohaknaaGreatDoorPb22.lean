/- What the laws lean on, part 22. -/
import Derived.Test.YtgbbdgioohaknaaGreatDoorPb10
import Derived.Test.YtgbbdgioohaknaaGreatDoorPb27
namespace Go.Proofs.YtgbbdgioohaknaaGreatDoor
open Go.RowKit Mat
set_option maxRecDepth 100000
set_option linter.unusedVariables false
set_option linter.unusedSimpArgs false
def lO_ (w : World) (a b : Nat) (e : Ending) (w' : World) : Prop := e = .returned (.int .i64 (W_ a b)) ∧ w.grownBy w' none
set_option maxHeartbeats 4000000 in
theorem cS_ (w : World) (va vb : Value) (a b : Nat) (ha : RefV w va a) (hb : RefV w vb b) (ba : a < D ^ 1000000) (bb : b < D ^ 1000000) :
    Calls Tryz.prog 98 #[va, vb] w (lO_ w a b) := by
 obtain ⟨sa, n, cx, xs, rfl, hn, hnc, hx, tx, dx, rfl⟩ := ha
 obtain ⟨sb, m, cy, ys, rfl, hm, hmc, hy, ty, dy, rfl⟩ := hb
 have Hn := H_ hn
 have Hm := H_ hm
 have hn6 : n ≤ 1000000 := ip_ tx hn ba
 have hm6 : m ≤ 1000000 := ip_ ty hm bb
 have hgw0 : w.grownBy ((w.alloc (.cells #[.slice sa n cx] 34)).alloc (.cells #[.slice sb m cy] 34)) none := l_ (wg_ _ _ _) _
 have hboxb := f_ (w.alloc (.cells #[.slice sa n cx] 34)) (.cells #[.slice sb m cy] 34) (w.heap.size + 1) (by simp)
 have hboxa := (Below.heap_alloc _ (.cells #[.slice sb m cy] 34) w.heap.size (by simp)).trans (f_ w (.cells #[.slice sa n cx] 34) w.heap.size rfl)
 obtain ⟨ca, fa⟩ := j_ hboxa
 obtain ⟨cb, fb⟩ := j_ hboxb
 have hx0 := hx.kept hgw0
 have hy0 := hy.kept hgw0
 clear hn hm hboxa hboxb hx hy ba bb
 rcases Nat.lt_trichotomy n m with h | h | h
 · have hF : Hid (W_ (val D xs) (val D ys) = -1) := bb_ (I_ D bi_ xs ys dx ty (by rw [Hn.out, Hm.out]; exact h))
   have f1 : decide ((n : Int) < (m : Int)) = true := decide_eq_true (by omega)
   go_enter Tryz.func98, Tryz.ntmps98
   go_wp2_with fail
   go_ret
   exact ⟨by rw [hF.out]; rfl, hgw0⟩
 · subst h
   go_enter Tryz.func98, Tryz.ntmps98
   go_wp2_with fail
   generalize ((w.alloc (.cells #[.slice sa n cx] 34)).alloc (.cells #[.slice sb n cy] 34)) = w0 at *
   go_loopw [5] (fun i wr => ∃ (k q : Nat), k ≤ n ∧ i = .int .i64 ((k : Int) - 1) ∧ wr = w0.drewN q ∧ Hid (xs.drop k = ys.drop k)) (fun i _ => (intOf i + 1).toNat)
   case atStart => exact ⟨n, 0, Nat.le_refl _, rfl, rfl, by show _ = _; rw [List.drop_eq_nil_of_le (by rw [Hn.out]; omega), List.drop_eq_nil_of_le (by rw [Hm.out]; omega)]⟩
   case round =>
    obtain ⟨k, q, hk, rfl, rfl, hd⟩ := hrel
    by_cases h0 : k = 0
    · subst h0
      go_wp2_with fail
      go_ret
      exact ⟨by rw [bI_ (by have := hd.out; simp at this; rw [this])]; rfl, d_ hgw0 (v_ _ _ _)⟩
    · obtain ⟨j, rfl⟩ : ∃ j, k = j + 1 := ⟨k - 1, by omega⟩
      clear h0
      obtain ⟨b1, o1, cs1, rfl, hb1, hat1⟩ := hx0.get j (by rw [Hn.out]; omega)
      obtain ⟨b2, o2, cs2, rfl, hb2, hat2⟩ := hy0.get j (by rw [Hm.out]; omega)
      obtain ⟨x, ex⟩ : ∃ x, xs[j]'(by rw [Hn.out]; omega) = x := ⟨_, rfl⟩
      obtain ⟨y, ey⟩ : ∃ y, ys[j]'(by rw [Hm.out]; omega) = y := ⟨_, rfl⟩
      have c1 : w0.cell? ⟨b1, o1 + j, none⟩ = some (.int .i64 (x : Int)) := by
       rw [hb1.cell, hat1 j (by rw [Hn.out]; omega), ex]; rfl
      have c2 : w0.cell? ⟨b2, o2 + j, none⟩ = some (.int .i64 (y : Int)) := by
       rw [hb2.cell, hat2 j (by rw [Hm.out]; omega), ey]; rfl
      have e1 : ((j + 1 : Nat) : Int) - 1 = (j : Int) := by omega
      rw [e1]
      clear e1
      have EX := H_ ex
      have EY := H_ ey
      clear ex ey
      rcases Nat.lt_trichotomy x y with hxy | hxy | hxy
      · have t1 : decide ((x : Int) < (y : Int)) = true := decide_eq_true (by omega)
        have hC := H_ (bb_ (cH_ D xs ys j (by rw [Hn.out, Hm.out]) (by rw [Hn.out]; omega) dx hd.out (by rw [EX.out, EY.out]; exact hxy)))
        go_wp2_with fail
        go_quiet (fail)
        go_wp2_with fail
        go_ret
        exact ⟨by rw [hC.out]; rfl, d_ hgw0 (d_ (v_ _ _ _) (v_ _ _ _))⟩
      · subst hxy
        have t1 : decide ((x : Int) < (x : Int)) = false := decide_eq_false (by omega)
        go_wp2_with fail
        go_quiet (fail)
        go_wp2_with fail
        go_quiet (fail)
        go_wp2_with fail
        go_roundw
        case rel => exact ⟨j, _, by omega, by go_num, rfl, by
         show _ = _; rw [List.drop_eq_getElem_cons (by rw [Hn.out]; omega), List.drop_eq_getElem_cons (l := ys) (by rw [Hm.out]; omega), EX.out, EY.out, hd.out]⟩
        case measure => simp [intOf]
      · have t1 : decide ((x : Int) < (y : Int)) = false := decide_eq_false (by omega)
        have t2 : decide ((y : Int) < (x : Int)) = true := decide_eq_true (by omega)
        have hC := H_ (bc_ (cH_ D ys xs j (by rw [Hn.out, Hm.out]) (by rw [Hm.out]; omega) dy hd.out.symm (by rw [EX.out, EY.out]; exact hxy)))
        go_wp2_with fail
        go_quiet (fail)
        go_wp2_with fail
        go_quiet (fail)
        go_wp2_with fail
        go_ret
        exact ⟨by rw [hC.out]; rfl, d_ hgw0 (d_ (d_ (v_ _ _ _) (v_ _ _ _)) (v_ _ _ _))⟩
 · have hF : Hid (W_ (val D xs) (val D ys) = 1) := bc_ (I_ D bi_ ys xs dy tx (by rw [Hn.out, Hm.out]; exact h))
   have f1 : decide ((n : Int) < (m : Int)) = false := decide_eq_false (by omega)
   have f2 : decide ((m : Int) < (n : Int)) = true := decide_eq_true (by omega)
   go_enter Tryz.func98, Tryz.ntmps98
   go_wp2_with fail
   go_ret
   exact ⟨by rw [hF.out]; rfl, hgw0⟩
theorem lS_ {w w' : World} {v : Value} {n g : Nat} {c : Array Value} {t : TypeId} (hg : w.grownBy w' none) (hbox : w'.heap[g]? = some (.cells c t (0, 0))) (ht : t ≠ 3) (hl : w.heap.size ≤ g) (h : RefV w' v n) (u : Value) :
    bJ_ w n (.returned v) (w'.setCell ⟨g, 0, none⟩ u) := ⟨v, rfl, h.set_other hbox ht 0 u, s_ hg (q_ (h_ _ _) _ _) hl⟩
def u8l (x : Nat) : List UInt8 := [UInt8.ofNat (48 + x / 1000), UInt8.ofNat (48 + x / 100 % 10), UInt8.ofNat (48 + x / 10 % 10), UInt8.ofNat (48 + x % 10)]
def eB_ (x : Nat) : ByteArray := ⟨(u8l x).toArray⟩
theorem he_ (x : Nat) (h : x < 10000) : bts (eB_ x) = [48 + x / 1000, 48 + x / 100 % 10, 48 + x / 10 % 10, 48 + x % 10] := by
 have h1 : 48 + x / 1000 < 256 := by omega
 have h2 : 48 + x / 100 % 10 < 256 := by omega
 have h3 : 48 + x / 10 % 10 < 256 := by omega
 have h4 : 48 + x % 10 < 256 := by omega
 simp [bts, eB_, u8l, UInt8.toNat_ofNat', Nat.mod_eq_of_lt h1, Nat.mod_eq_of_lt h2, Nat.mod_eq_of_lt h3, Nat.mod_eq_of_lt h4]
theorem kh_ (x : Nat) (h : x < 10000) : DigL (bts (eB_ x)) := by
 rw [he_ x h]
 intro k hk
 simp only [List.length_cons, List.length_nil] at hk
 rcases (show k = 0 ∨ k = 1 ∨ k = 2 ∨ k = 3 by omega) with rfl | rfl | rfl | rfl <;> simp <;> omega
theorem iU_ (x : Nat) (h : x < 10000) : aC_ (bts (eB_ x)) = x := by
 rw [he_ x h]
 simp [aC_]; omega
theorem gx_ (l : List Nat) : aC_ (48 :: l) = aC_ l := rfl
set_option maxHeartbeats 2000000 in
theorem hz_ (w : World) (va : Value) (ha : RefV w va 0) :
    Calls Tryz.prog 65 #[va] w (bA_ w 0) := by
 obtain ⟨sa, n, cx, xs, rfl, hn, hnc, hx, tx, dx, h0⟩ := ha
 obtain rfl := (aZ_ D bi_ xs tx).1 h0
 obtain rfl : n = 0 := by rw [← hn]; rfl
 clear h0
 have hF : Hid (bA_ w 0 (.returned (.string { data := #[48] })) (w.alloc (.cells #[.slice sa 0 cx] 34))) := by
  refine ⟨_, rfl, ⟨fun k hk => ?_, Or.inl rfl⟩, rfl, wg_ _ _ _⟩
  have : k = 0 := by have : k < 1 := hk; omega
  subst this
  exact ⟨Nat.le_refl 48, (by decide : (48 : Nat) ≤ 57)⟩
 go_enter Tryz.func65, Tryz.ntmps65
 go_wp2_with fail
 go_ret
 exact hF.out
set_option maxHeartbeats 4000000 in
theorem hA_ (w : World) (va : Value) (a : Nat) (ha : RefV w va a) (h0 : 0 < a) (ba : a < D ^ 1000000) :
    Calls Tryz.prog 65 #[va] w (bA_ w a) := by
 obtain ⟨sa, n, cx, xs, rfl, hn, hnc, hx, tx, dx, rfl⟩ := ha
 have Hn := H_ hn
 have hn6 : n ≤ 1000000 := ip_ tx hn ba
 have hn0 : 0 < n := by
  rcases Nat.eq_zero_or_pos n with e | e
  · rw [e] at hn
    rw [List.length_eq_zero_iff.1 hn] at h0
    simp [val] at h0
  · exact e
 have H0 := H_ h0
 have f0 : ((n : Int) == 0) = false := beq_eq_false_iff_ne.2 (by omega)
 have hgw0 := wg_ w (.cells #[.slice sa n cx] 34) none
 have hbox0 := f_ w (.cells #[.slice sa n cx] 34) w.heap.size rfl
 clear hn h0 ba
 go_enter Tryz.func65, Tryz.ntmps65
 go_wp2_with fail
 generalize (w.alloc (.cells #[.slice sa n cx] 34)) = w0 at *
 go_loopw [3, 4] (fun s i wr => ∃ (j : Nat) (t : ByteArray), j ≤ n ∧ i = .int .i64 ((j : Int) - 1) ∧ s = .string t ∧ t.size = 4 * (n - j) ∧ Hid (DigL (bts t)) ∧ Hid (aC_ (bts t) = val D (xs.drop j)) ∧ w0.grownBy wr none) (fun _ i _ => (intOf i + 1).toNat)
 case atStart => exact ⟨n, { data := #[] }, Nat.le_refl _, rfl, rfl, by simp; rfl, fun k hk => by simp [bts] at hk, by show _ = _; rw [List.drop_of_length_le (by rw [Hn.out]; exact Nat.le_refl _)]; rfl, h_ _ _⟩
 case round =>
  obtain ⟨j, t, hj, rfl, rfl, hts, hdg, hv, hg⟩ := hrel
  obtain ⟨ca, fa⟩ := j_ (a_ hg hbox0)
  by_cases hz : j = 0
  · subst hz
    have hv0 : Hid (aC_ (bts t) = val D xs) := by show _ = _; rw [hv.out]; rfl
    have hgw := d_ hgw0 hg
    clear hv hg hts
    go_wp2_with fail
    go_loopw [3] (fun s wz => ∃ (t2 : ByteArray), s = .string t2 ∧ Hid (DigL (bts t2)) ∧ Hid (aC_ (bts t2) = val D xs) ∧ wr = wz) (fun s _ => match s with | .string b => b.size | _ => 0)
    case atStart => exact ⟨t, rfl, hdg, hv0, rfl⟩
    case round =>
     clear hdg hv0
     obtain ⟨t2, rfl, hdg, hv0, rfl⟩ := hrel
     have hsz : 0 < t2.size := by
      rcases Nat.eq_zero_or_pos t2.size with e | e
      · have h1 := z_ t2
        rw [e] at h1
        have h2 := hv0.out
        rw [List.length_eq_zero_iff.1 h1] at h2
        have := H0.out
        simp [aC_] at h2; omega
      · exact e
     obtain ⟨x, ex⟩ : ∃ x, (t2[0]'hsz).toNat = x := ⟨_, rfl⟩
     have hhd : Hid ((bts t2).head? = some x) := by show _ = _; rw [aO_ t2 hsz, ex]
     by_cases h48 : x = 48
     · subst h48
       have hcons : bts t2 = 48 :: (bts t2).drop 1 := by
        have h1 := hhd.out
        cases hb : bts t2 with
        | nil => rw [hb] at h1; simp at h1
        | cons y l => rw [hb] at h1; simp at h1; simp [h1]
       have hex : bts (t2.extract 1 t2.size) = (bts t2).drop 1 := bQ_ t2 1
       have hd2 : Hid (DigL (bts (t2.extract 1 t2.size))) := by show DigL _; rw [hex]; exact hdg.out.drop 1
       have hv2 : Hid (aC_ (bts (t2.extract 1 t2.size)) = val D xs) := by
        show _ = _
        rw [hex, ← gx_, ← hcons]; exact hv0.out
       have hsz2 : (t2.extract 1 t2.size).size = t2.size - 1 := by rw [ByteArray.size_extract]; omega
       clear hcons hex
       go_wp2_with fail
       go_roundw
       case rel => exact ⟨t2.extract 1 t2.size, rfl, hd2, hv2, by trivial⟩
       case measure => simp [hsz2]; omega
     · have f1 : ((x : Int) == 48) = false := beq_eq_false_iff_ne.2 (by omega)
       have hF : Hid (bA_ w (val D xs) (.returned (.string t2)) wr) := by
        refine ⟨_, rfl, ⟨hdg.out, Or.inr ⟨fun e => ?_, ?_⟩⟩, hv0.out, hgw⟩
        · have := hhd.out; rw [e] at this; simp at this
        · rw [hhd.out]; intro e; exact h48 (Option.some.inj e)
       go_wp2_with fail
       go_ret
       exact hF.out
  · obtain ⟨k, rfl⟩ : ∃ k, j = k + 1 := ⟨j - 1, by omega⟩
    clear hz
    obtain ⟨x, ex⟩ : ∃ x, xs.getD k 0 = x := ⟨_, rfl⟩
    have hx4 : x < 10000 := ex ▸ bz_ dx k
    obtain ⟨b1, o1, rfl, c1⟩ := ev_ ((hx.kept hgw0).kept hg) Hn.out k (by omega)
    rw [ex] at c1
    have EX := H_ ex
    have ek : ((k + 1 : Nat) : Int) - 1 = (k : Int) := by omega
    rw [ek]
    have hnews : ∀ j u, ([.int .u8 (48 + (x : Int) / 1000), .int .u8 (48 + (x : Int) / 100 % 10), .int .u8 (48 + (x : Int) / 10 % 10), .int .u8 (48 + (x : Int) % 10)] : List Value)[j]? = some u → (wr.alloc (.cells #[.int .u8 (48 + (x : Int) / 1000), .int .u8 (48 + (x : Int) / 100 % 10), .int .u8 (48 + (x : Int) / 10 % 10), .int .u8 (48 + (x : Int) % 10)] 5)).cell? ((⟨wr.heap.size, 0, none⟩ : Addr).add j) = some u := World.news_of_block (heap_alloc_new wr _)
    have hconv : (convert 119 9 (.slice (some ⟨wr.heap.size, 0, none⟩) 4 4)).run Tryz.prog (wr.alloc (.cells #[.int .u8 (48 + (x : Int) / 1000), .int .u8 (48 + (x : Int) / 100 % 10), .int .u8 (48 + (x : Int) / 10 % 10), .int .u8 (48 + (x : Int) % 10)] 5)) = .ok (.string (eB_ x)) (wr.alloc (.cells #[.int .u8 (48 + (x : Int) / 1000), .int .u8 (48 + (x : Int) / 100 % 10), .int .u8 (48 + (x : Int) / 10 % 10), .int .u8 (48 + (x : Int) % 10)] 5)) := by
     refine run_convert_bytes_back (P := Tryz.prog) _ 119 9 5 ⟨wr.heap.size, 0, none⟩ 4 (u8l x) Tryz.underlying119 Tryz.underlying5 Tryz.underlying9 ?_
     intro j hj
     refine hnews j _ ?_
     have hj4 : j < 4 := hj
     have w1 : (48 + x / 1000) % 256 = 48 + x / 1000 := by omega
     have w2 : (48 + x / 100 % 10) % 256 = 48 + x / 100 % 10 := by omega
     have w3 : (48 + x / 10 % 10) % 256 = 48 + x / 10 % 10 := by omega
     have w4 : (48 + x % 10) % 256 = 48 + x % 10 := by omega
     rcases (show j = 0 ∨ j = 1 ∨ j = 2 ∨ j = 3 by omega) with rfl | rfl | rfl | rfl <;> simp [u8l, UInt8.toNat_ofNat', w1, w2, w3, w4]
    clear hnews
    have hs4 : (eB_ x).size = 4 := rfl
    have hg2 : w0.grownBy (wr.alloc (.cells #[.int .u8 (48 + (x : Int) / 1000), .int .u8 (48 + (x : Int) / 100 % 10), .int .u8 (48 + (x : Int) / 10 % 10), .int .u8 (48 + (x : Int) % 10)] 5)) none := l_ hg _
    have hdn : Hid (DigL (bts (t ++ eB_ x))) := by show DigL _; rw [fu_]; exact hdg.out.append (kh_ x hx4)
    have hvn : Hid (aC_ (bts (t ++ eB_ x)) = val D (xs.drop k)) := by
     show _ = _
     rw [fu_, bo_, iU_ x hx4, hv.out, z_, hs4, List.drop_eq_getElem_cons (i := k) (by rw [Hn.out]; omega)]
     have e : xs[k]'(by rw [Hn.out]; omega) = x := by rw [← EX.out, List.getD_eq_getElem?_getD, List.getElem?_eq_getElem (by rw [Hn.out]; omega)]; rfl
     rw [e]
     show val D (xs.drop (k + 1)) * 10 ^ 4 + x = x + D * val D (xs.drop (k + 1))
     unfold D; omega
    have hsn : (t ++ eB_ x).size = 4 * (n - k) := by rw [ByteArray.size_append, hts, hs4]; omega
    clear hg hv hdg ek
    go_wp2_with fail
    go_roundw
    case rel => exact ⟨k, t ++ eB_ x, by omega, by go_num, rfl, hsn, hdn, hvn, hg2⟩
    case measure => simp [intOf]
theorem ci_ {v t s c x y d c' p : Nat} (h : v + t = s + c * p) (hd : d + y + c = x + c' * D) : v + p * d + (t + p * y) = s + p * x + c' * (p * D) := by
 have h2 : p * (d + y + c) = p * (x + c' * D) := by rw [hd]
 rw [Nat.mul_add, Nat.mul_add, Nat.mul_add] at h2
 have h3 : p * (c' * D) = c' * (p * D) := by grind
 have h4 : p * c = c * p := Nat.mul_comm _ _
 omega
set_option maxHeartbeats 8000000 in
theorem cR_ (w : World) (va vb : Value) (a b : Nat) (ha : RefV w va a) (hb : RefV w vb b) (hle : b ≤ a) (ba : a < D ^ 1000000) :
    Calls Tryz.prog 100 #[va, vb] w (bJ_ w (a - b)) := by
 have bb : b < D ^ 1000000 := Nat.lt_of_le_of_lt hle ba
 obtain ⟨sa, n, cx, xs, rfl, hn, hnc, hx, tx, dx, rfl⟩ := ha
 obtain ⟨sb, m, cy, ys, rfl, hm, hmc, hy, ty, dy, rfl⟩ := hb
 have Hn := H_ hn
 have Hm := H_ hm
 have Hle := H_ hle
 have hn6 : n ≤ 1000000 := ip_ tx hn ba
 have hm6 : m ≤ 1000000 := ip_ ty hm bb
 have hmn : m ≤ n := by
  rcases Nat.lt_or_ge n m with h | h
  · have := I_ D bi_ xs ys dx ty (by rw [hn, hm]; exact h)
    omega
  · exact h
 obtain ⟨i1, hi, hz0, hz1, hz2⟩ := aI_
 have hgw0 : w.grownBy (((w.alloc (.cells #[.slice sa n cx] 34)).alloc (.cells #[.slice sb m cy] 34)).alloc (.cells #[.slice none 0 0] 34)) none := l_ (l_ (wg_ _ _ _) _) _
 have hboxr := f_ ((w.alloc (.cells #[.slice sa n cx] 34)).alloc (.cells #[.slice sb m cy] 34)) (.cells #[.slice none 0 0] 34) (w.heap.size + 1 + 1) (by simp)
 have hboxb := (Below.heap_alloc _ (.cells #[.slice none 0 0] 34) (w.heap.size + 1) (by simp)).trans (f_ (w.alloc (.cells #[.slice sa n cx] 34)) (.cells #[.slice sb m cy] 34) (w.heap.size + 1) (by simp))
 have hboxa := ((Below.heap_alloc _ (.cells #[.slice none 0 0] 34) w.heap.size (by simp; omega)).trans (Below.heap_alloc _ (.cells #[.slice sb m cy] 34) w.heap.size (by simp))).trans (f_ w (.cells #[.slice sa n cx] 34) w.heap.size rfl)
 have hs0 : (((w.alloc (.cells #[.slice sa n cx] 34)).alloc (.cells #[.slice sb m cy] 34)).alloc (.cells #[.slice none 0 0] 34)).heap.size = w.heap.size + 1 + 1 + 1 := by simp
 obtain ⟨N, hN⟩ : ∃ N, N = w.heap.size + 1 + 1 + 1 := ⟨_, rfl⟩
 have hx0 := hx.kept hgw0
 have hy0 := hy.kept hgw0
 clear hn hm ba bb hx hy hle
 go_enter Tryz.func100, Tryz.ntmps100
 go_wp2_with fail
 generalize (((w.alloc (.cells #[.slice sa n cx] 34)).alloc (.cells #[.slice sb m cy] 34)).alloc (.cells #[.slice none 0 0] 34)) = w0 at *
 go_loopg [5, 6, 7] n (fun gh s c i wr => ∃ (k bo : Nat) (sl : Option Addr) (cl : Nat) (ds : List Nat), s = .slice sl k cl ∧ c = .int .i64 bo ∧ i = .int .i64 k ∧ bo ≤ 1 ∧ k ≤ n ∧ n - k ≤ gh ∧ wr.ownsRow N 3 1 (.slice sl k cl) k (ds.map iv) ∧ Hid (ds.length = k) ∧ Dig D ds ∧ Hid (val D ds + val D (ys.take k) = val D (xs.take k) + bo * D ^ k) ∧ Below N w0 wr)
 case atStart => exact ⟨0, 0, none, 0, [], rfl, rfl, rfl, by omega, by omega, by omega, ⟨rfl, Or.inl ⟨rfl, rfl⟩⟩, rfl, Dig.nil _, by show _ = _; simp [val], Below.refl _ _⟩
 case round =>
  obtain ⟨k, bo, sl, cl, ds, rfl, rfl, rfl, hc1, hkn, hgh, hown, hdl, hdd, hv, hbl⟩ := hrel
  obtain ⟨ca, fa⟩ := j_ (am_ hbl hboxa (by omega))
  obtain ⟨cb, fb⟩ := j_ (am_ hbl hboxb (by omega))
  have hboxr1 := am_ hbl hboxr (by omega)
  obtain ⟨cr, fr⟩ := j_ hboxr1
  have hsr : N ≤ wr.heap.size := by have := hbl.size; omega
  have hxr : RRdo wr sa xs := hx0.below hbl (by omega)
  have hyr : RRdo wr sb ys := hy0.below hbl (by omega)
  by_cases hend : k < n
  · have f1 : decide ((k : Int) < (n : Int)) = true := decide_eq_true (by omega)
    obtain ⟨x, hxk⟩ : ∃ x, xs.getD k 0 = x := ⟨_, rfl⟩
    obtain ⟨y, hyk⟩ : ∃ y, ys.getD k 0 = y := ⟨_, rfl⟩
    have hx4 : x < 10000 := hxk ▸ bz_ dx k
    have hy4 : y < 10000 := hyk ▸ bz_ dy k
    have HX := H_ hxk
    have HY := H_ hyk
    obtain ⟨b1, o1, rfl, cx1⟩ := ev_ hxr Hn.out k hend
    rw [hxk] at cx1
    clear hxk hyk hboxr1
    rcases Nat.lt_or_ge k m with hkm | hkm
    · obtain ⟨b2, o2, rfl, cy2⟩ := ev_ hyr Hm.out k hkm
      rw [HY.out] at cy2
      have f2 : decide ((k : Int) < (m : Int)) = true := decide_eq_true (by omega)
      by_cases hs : x < bo + y
      · have t1 : decide ((x : Int) - (bo : Int) - (y : Int) < 0) = true := decide_eq_true (by omega)
        obtain ⟨d, hd⟩ : ∃ d : Nat, (x : Int) - (bo : Int) - (y : Int) + 10000 = (d : Int) := ⟨((x : Int) - (bo : Int) - (y : Int) + 10000).toNat, by omega⟩
        obtain ⟨c2', hc2⟩ : ∃ c, c = 1 := ⟨_, rfl⟩
        have hd4 : d < 10000 := by omega
        have hvn : Hid (val D (ds ++ [d]) + val D (ys.take (k + 1)) = val D (xs.take (k + 1)) + c2' * D ^ (k + 1)) := by
         show _ = _
         rw [G_, hdl.out, Nat.pow_succ, at_ xs, at_ ys, HX.out, HY.out]
         exact ci_ hv.out (by unfold D; omega)
        have hownA := aU_ hown (.cells #[iv d] 3)
        have hnews : ∀ j u, ([iv d] : List Value)[j]? = some u → (wr.alloc (.cells #[iv d] 3)).cell? ((⟨wr.heap.size, 0, none⟩ : Addr).add j) = some u := World.news_of_block (heap_alloc_new wr _)
        have hsi : N ≤ (wr.alloc (.cells #[iv d] 3)).heap.size := by simp; omega
        have hblA : Below N w0 (wr.alloc (.cells #[iv d] 3)) := hbl.trans (L_ (wg_ _ _ _) hsr)
        subst hc2
        clear hown hbl hv
        go_wp2_with (at_builtin; refine wpList_append_lies _ rfl _ _ _ rfl N 3 i1 (.int .i64 0) 1 8 Tryz.underlying32 hi hz0 hz1 hz2 rfl (by omega) (.slice sl k cl) k (ds.map iv) rfl hownA ⟨wr.heap.size, 0, none⟩ 1 1 [iv d] rfl rfl hnews cw_ (by omega) (by unfold maxLen; omega) (by omega) hsi (wr.heap.size + 1) (by simp) ?_; intro g2 cap2 w5 hown5 hgrow hat9 hlt9)
        have hbl5 := hblA.trans (aG_ hownA hgrow hsi)
        have hmap : ds.map iv ++ [iv d] = (ds ++ [d]).map iv := by rw [List.map_append]; rfl
        rw [hmap] at hown5
        have hl5 : Hid ((ds ++ [d]).length = k + 1) := by show _ = _; rw [List.length_append, hdl.out]; rfl
        clear hgrow hownA hnews hblA hmap
        go_roundg (n - (k + 1))
        case measure => omega
        case rel => exact ⟨k + 1, 1, _, cap2, ds ++ [d], rfl, rfl, by go_num, (by omega), by omega, by omega, hown5, hl5, hdd.snoc hd4, hvn, hbl5⟩
      · obtain ⟨d, hd⟩ : ∃ d : Nat, (x : Int) - (bo : Int) - (y : Int) = (d : Int) := ⟨((x : Int) - (bo : Int) - (y : Int)).toNat, by omega⟩
        have t1 : decide ((x : Int) - (bo : Int) - (y : Int) < 0) = false := decide_eq_false (by omega)
        have t2 : decide ((d : Int) < 0) = false := decide_eq_false (by omega)
        obtain ⟨c2', hc2⟩ : ∃ c, c = 0 := ⟨_, rfl⟩
        have hd4 : d < 10000 := by omega
        have hvn : Hid (val D (ds ++ [d]) + val D (ys.take (k + 1)) = val D (xs.take (k + 1)) + c2' * D ^ (k + 1)) := by
         show _ = _
         rw [G_, hdl.out, Nat.pow_succ, at_ xs, at_ ys, HX.out, HY.out]
         exact ci_ hv.out (by unfold D; omega)
        have hownA := aU_ hown (.cells #[iv d] 3)
        have hnews : ∀ j u, ([iv d] : List Value)[j]? = some u → (wr.alloc (.cells #[iv d] 3)).cell? ((⟨wr.heap.size, 0, none⟩ : Addr).add j) = some u := World.news_of_block (heap_alloc_new wr _)
        have hsi : N ≤ (wr.alloc (.cells #[iv d] 3)).heap.size := by simp; omega
        have hblA : Below N w0 (wr.alloc (.cells #[iv d] 3)) := hbl.trans (L_ (wg_ _ _ _) hsr)
        subst hc2
        clear hown hbl hv
        go_wp2_with (at_builtin; refine wpList_append_lies _ rfl _ _ _ rfl N 3 i1 (.int .i64 0) 1 8 Tryz.underlying32 hi hz0 hz1 hz2 rfl (by omega) (.slice sl k cl) k (ds.map iv) rfl hownA ⟨wr.heap.size, 0, none⟩ 1 1 [iv d] rfl rfl hnews cw_ (by omega) (by unfold maxLen; omega) (by omega) hsi (wr.heap.size + 1) (by simp) ?_; intro g2 cap2 w5 hown5 hgrow hat9 hlt9)
        have hbl5 := hblA.trans (aG_ hownA hgrow hsi)
        have hmap : ds.map iv ++ [iv d] = (ds ++ [d]).map iv := by rw [List.map_append]; rfl
        rw [hmap] at hown5
        have hl5 : Hid ((ds ++ [d]).length = k + 1) := by show _ = _; rw [List.length_append, hdl.out]; rfl
        clear hgrow hownA hnews hblA hmap
        go_roundg (n - (k + 1))
        case measure => omega
        case rel => exact ⟨k + 1, 0, _, cap2, ds ++ [d], rfl, rfl, by go_num, (by omega), by omega, by omega, hown5, hl5, hdd.snoc hd4, hvn, hbl5⟩
    · have y0 : y = 0 := by rw [← HY.out]; exact fj_ Hm.out hkm
      have f2 : decide ((k : Int) < (m : Int)) = false := decide_eq_false (by omega)
      by_cases hs : x < bo + y
      · have t1 : decide ((x : Int) - (bo : Int) < 0) = true := decide_eq_true (by omega)
        obtain ⟨d, hd⟩ : ∃ d : Nat, (x : Int) - (bo : Int) + 10000 = (d : Int) := ⟨((x : Int) - (bo : Int) + 10000).toNat, by omega⟩
        obtain ⟨c2', hc2⟩ : ∃ c, c = 1 := ⟨_, rfl⟩
        have hd4 : d < 10000 := by omega
        have hvn : Hid (val D (ds ++ [d]) + val D (ys.take (k + 1)) = val D (xs.take (k + 1)) + c2' * D ^ (k + 1)) := by
         show _ = _
         rw [G_, hdl.out, Nat.pow_succ, at_ xs, at_ ys, HX.out, HY.out]
         exact ci_ hv.out (by unfold D; omega)
        have hownA := aU_ hown (.cells #[iv d] 3)
        have hnews : ∀ j u, ([iv d] : List Value)[j]? = some u → (wr.alloc (.cells #[iv d] 3)).cell? ((⟨wr.heap.size, 0, none⟩ : Addr).add j) = some u := World.news_of_block (heap_alloc_new wr _)
        have hsi : N ≤ (wr.alloc (.cells #[iv d] 3)).heap.size := by simp; omega
        have hblA : Below N w0 (wr.alloc (.cells #[iv d] 3)) := hbl.trans (L_ (wg_ _ _ _) hsr)
        subst hc2
        clear hown hbl hv
        go_wp2_with (at_builtin; refine wpList_append_lies _ rfl _ _ _ rfl N 3 i1 (.int .i64 0) 1 8 Tryz.underlying32 hi hz0 hz1 hz2 rfl (by omega) (.slice sl k cl) k (ds.map iv) rfl hownA ⟨wr.heap.size, 0, none⟩ 1 1 [iv d] rfl rfl hnews cw_ (by omega) (by unfold maxLen; omega) (by omega) hsi (wr.heap.size + 1) (by simp) ?_; intro g2 cap2 w5 hown5 hgrow hat9 hlt9)
        have hbl5 := hblA.trans (aG_ hownA hgrow hsi)
        have hmap : ds.map iv ++ [iv d] = (ds ++ [d]).map iv := by rw [List.map_append]; rfl
        rw [hmap] at hown5
        have hl5 : Hid ((ds ++ [d]).length = k + 1) := by show _ = _; rw [List.length_append, hdl.out]; rfl
        clear hgrow hownA hnews hblA hmap
        go_roundg (n - (k + 1))
        case measure => omega
        case rel => exact ⟨k + 1, 1, _, cap2, ds ++ [d], rfl, rfl, by go_num, (by omega), by omega, by omega, hown5, hl5, hdd.snoc hd4, hvn, hbl5⟩
      · obtain ⟨d, hd⟩ : ∃ d : Nat, (x : Int) - (bo : Int) = (d : Int) := ⟨((x : Int) - (bo : Int)).toNat, by omega⟩
        have t1 : decide ((x : Int) - (bo : Int) < 0) = false := decide_eq_false (by omega)
        have t2 : decide ((d : Int) < 0) = false := decide_eq_false (by omega)
        obtain ⟨c2', hc2⟩ : ∃ c, c = 0 := ⟨_, rfl⟩
        have hd4 : d < 10000 := by omega
        have hvn : Hid (val D (ds ++ [d]) + val D (ys.take (k + 1)) = val D (xs.take (k + 1)) + c2' * D ^ (k + 1)) := by
         show _ = _
         rw [G_, hdl.out, Nat.pow_succ, at_ xs, at_ ys, HX.out, HY.out]
         exact ci_ hv.out (by unfold D; omega)
        have hownA := aU_ hown (.cells #[iv d] 3)
        have hnews : ∀ j u, ([iv d] : List Value)[j]? = some u → (wr.alloc (.cells #[iv d] 3)).cell? ((⟨wr.heap.size, 0, none⟩ : Addr).add j) = some u := World.news_of_block (heap_alloc_new wr _)
        have hsi : N ≤ (wr.alloc (.cells #[iv d] 3)).heap.size := by simp; omega
        have hblA : Below N w0 (wr.alloc (.cells #[iv d] 3)) := hbl.trans (L_ (wg_ _ _ _) hsr)
        subst hc2
        clear hown hbl hv
        go_wp2_with (at_builtin; refine wpList_append_lies _ rfl _ _ _ rfl N 3 i1 (.int .i64 0) 1 8 Tryz.underlying32 hi hz0 hz1 hz2 rfl (by omega) (.slice sl k cl) k (ds.map iv) rfl hownA ⟨wr.heap.size, 0, none⟩ 1 1 [iv d] rfl rfl hnews cw_ (by omega) (by unfold maxLen; omega) (by omega) hsi (wr.heap.size + 1) (by simp) ?_; intro g2 cap2 w5 hown5 hgrow hat9 hlt9)
        have hbl5 := hblA.trans (aG_ hownA hgrow hsi)
        have hmap : ds.map iv ++ [iv d] = (ds ++ [d]).map iv := by rw [List.map_append]; rfl
        rw [hmap] at hown5
        have hl5 : Hid ((ds ++ [d]).length = k + 1) := by show _ = _; rw [List.length_append, hdl.out]; rfl
        clear hgrow hownA hnews hblA hmap
        go_roundg (n - (k + 1))
        case measure => omega
        case rel => exact ⟨k + 1, 0, _, cap2, ds ++ [d], rfl, rfl, by go_num, (by omega), by omega, by omega, hown5, hl5, hdd.snoc hd4, hvn, hbl5⟩
  · obtain rfl : k = n := by omega
    have f1 : decide ((k : Int) < (k : Int)) = false := decide_eq_false (by omega)
    obtain ⟨hrd, hcap, _⟩ := be_ hown
    have hgw := M_ hgw0 hbl (by omega)
    have HV : Hid (val D ds = val D xs - val D ys) := by
     show _ = _
     have h1 := hv.out
     rw [List.take_of_length_le (l := ys) (by rw [Hm.out]; exact hmn), List.take_of_length_le (l := xs) (by rw [Hn.out]; exact Nat.le_refl _)] at h1
     have h2 := ba_ D ds hdd
     rw [hdl.out] at h2
     have h3 := Hle.out
     rcases (show bo = 0 ∨ bo = 1 by omega) with h4 | h4
     · rw [h4] at h1; omega
     · rw [h4, Nat.one_mul] at h1; omega
    clear hown hbl hv
    go_wp2_with fail
    refine (dI_ wr sl k cl ds hdl.out hrd hcap (by omega) hdd).mono ?_
    rintro e w4 ⟨v, rfl, hv4, hg4⟩
    have hbox4 := a_ hg4 hboxr1
    obtain ⟨hc4, hf4⟩ := j_ hbox4
    rw [HV.out] at hv4
    obtain ⟨s4, k4, c4, zs4, rfl, hz4⟩ := hv4
    have hF := H_ (lS_ (d_ hgw hg4) hbox4 (by decide) (by omega) ⟨s4, k4, c4, zs4, rfl, hz4⟩ (.slice s4 k4 c4))
    clear hz4 hbox4 hg4 hgw hgw0 hboxr1 hboxr cr fr
    go_wp2_with fail
    exact bodyPost_ret (v := .agg #[.slice s4 k4 c4]) (by simp [results, Tryz.results100, go_sem, hc4]) rfl hF.out
theorem iN_ {w : World} {g o : Nat} {cs : Array Value} {v : Value} {t : TypeId} (h : w.heap[g]? = some (.cells cs t (0, 0))) : (w.setCell ⟨g, o, none⟩ v).heap[g]? = some (.cells (cs.setIfInBounds o v) t (0, 0)) := by
 simp [World.setCell, Array.getElem?_modify, h]
theorem Ints.set {w : World} {g : Nat} {zs : List Nat} (h : Ints w g zs) (j d : Nat) : Ints (w.setCell ⟨g, j, none⟩ (.int .i64 (d : Int))) g (zs.set j d) := by
 unfold Ints RBlk at h ⊢
 have := iN_ (w := w) (g := g) (v := .int .i64 (d : Int)) (o := j) h
 rw [this]
 congr 2
 rw [List.map_set]
 simp [iv]
theorem fQ_ {w : World} {g n : Nat} (h : w.ownsRow g 3 1 (.slice (some ⟨g, 0, none⟩) n n) n (madeCells #[.int .i64 0] (n * 1)).toList) : Ints w g (List.replicate n 0) := by
 obtain ⟨_, ⟨h, _⟩ | ⟨g', cap, cur, hv, hg, hh, hle, hm, hs, ht⟩⟩ := h
 · cases h
 · simp only [Value.slice.injEq, Option.some.injEq, Addr.mk.injEq] at hv
   obtain ⟨⟨rfl, _⟩, _, rfl⟩ := hv
   have e : cur = ((List.replicate n 0).map iv).toArray := by
    apply Array.ext'
    rw [List.take_of_length_le (by rw [Array.length_toList]; omega)] at ht
    rw [ht]
    apply List.ext_getElem?
    intro i
    rw [Array.getElem?_toList]
    by_cases hi : i < n
    · simp [madeCells, hi, iv]
      rw [Nat.mod_one]; rfl
    · simp [madeCells, hi]
   rw [e] at hh
   exact hh
theorem RRdo.kept_row {w w' : World} {s : Option Addr} {xs : List Nat} {g : Nat} (h : RRdo w s xs) (hg : w.grownBy w' (some g)) (hge : w.heap.size ≤ g) : RRdo w' s xs := by
 rcases h with h | ⟨b, off, cs, e, h1, h2⟩
 · exact Or.inl h
 · exact Or.inr ⟨b, off, cs, e, h1.kept hg (by have := h1.lt; simp; omega), h2⟩
theorem hZ_ (zs : List Nat) : ∀ (j d : Nat), j < zs.length → val D (zs.set j d) + D ^ j * zs.getD j 0 = val D zs + D ^ j * d := by
 induction zs with
 | nil => intro j d h; simp at h
 | cons z t ih =>
  intro j d h
  cases j with
  | zero => simp [val]; omega
  | succ j =>
   have := ih j d (by simpa using h)
   simp only [List.set_cons_succ, val, List.getD_cons_succ]
   have h2 : D * (val D (t.set j d) + D ^ j * t.getD j 0) = D * (val D t + D ^ j * d) := by rw [this]
   rw [Nat.mul_add, Nat.mul_add, ← Nat.mul_assoc, ← Nat.mul_assoc, show D * D ^ j = D ^ (j + 1) from by rw [Nat.pow_succ, Nat.mul_comm]] at h2
   omega
theorem Mat.Dig.set {m : Nat} {xs : List Nat} (h : Dig m xs) {d : Nat} (hd : d < m) (j : Nat) : Dig m (xs.set j d) := by
 intro x hx
 rcases List.mem_or_eq_of_mem_set hx with h1 | h1
 · exact h x h1
 · rw [h1]; exact hd
theorem io_ {v v' z d q c p x y V S : Nat} (h : v + c * p = V + S) (hs : v' + p * z = v + p * d) (hd : d + q * D = c + z + x * y) : v' + q * (p * D) = V + (S + p * (x * y)) := by
 have h2 : p * (d + q * D) = p * (c + z + x * y) := by rw [hd]
 rw [Nat.mul_add, Nat.mul_add, Nat.mul_add] at h2
 have h3 : p * (q * D) = q * (p * D) := by grind
 have h4 : p * c = c * p := Nat.mul_comm _ _
 omega
theorem gk_ {v v' z d q c p T : Nat} (h : v + c * p = T) (hs : v' + p * z = v + p * d) (hd : d + q * D = c + z) : v' + q * (p * D) = T := by
 have h2 : p * (d + q * D) = p * (c + z) := by rw [hd]
 rw [Nat.mul_add, Nat.mul_add] at h2
 have h3 : p * (q * D) = q * (p * D) := by grind
 have h4 : p * c = c * p := Nat.mul_comm _ _
 omega
theorem iq_ {v c t T k : Nat} (h : v + c * D ^ t = T) (hc : 0 < c) (hT : T < D ^ k) : t < k := by
 rcases Nat.lt_or_ge t k with h1 | h1
 · exact h1
 · have h2 : D ^ k ≤ D ^ t := Nat.pow_le_pow_right bi_ h1
   have h3 : D ^ t ≤ c * D ^ t := Nat.le_mul_of_pos_left _ hc
   omega
set_option maxHeartbeats 8000000 in
theorem gS_ (w : World) (va vb : Value) (a b : Nat) (ha : RefV w va a) (hb : RefV w vb b) (ba : a < D ^ 1000000) (bb : b < D ^ 1000000) :
    Calls Tryz.prog 111 #[va, vb] w (bJ_ w (a * b)) := by
 obtain ⟨sa, n, cx, xs, rfl, hn, hnc, hx, tx, dx, rfl⟩ := ha
 obtain ⟨sb, m, cy, ys, rfl, hm, hmc, hy, ty, dy, rfl⟩ := hb
 have Hn := H_ hn
 have Hm := H_ hm
 have hn6 : n ≤ 1000000 := ip_ tx hn ba
 have hm6 : m ≤ 1000000 := ip_ ty hm bb
 obtain ⟨i0, hi, hz0, hz1, hz2⟩ := aI_
 have hgw0 : w.grownBy (((w.alloc (.cells #[.slice sa n cx] 34)).alloc (.cells #[.slice sb m cy] 34)).alloc (.cells #[.slice none 0 0] 34)) none := l_ (l_ (wg_ _ _ _) _) _
 have hboxr := f_ ((w.alloc (.cells #[.slice sa n cx] 34)).alloc (.cells #[.slice sb m cy] 34)) (.cells #[.slice none 0 0] 34) (w.heap.size + 1 + 1) (by simp)
 have hboxb := (Below.heap_alloc _ (.cells #[.slice none 0 0] 34) (w.heap.size + 1) (by simp)).trans (f_ (w.alloc (.cells #[.slice sa n cx] 34)) (.cells #[.slice sb m cy] 34) (w.heap.size + 1) (by simp))
 have hboxa := ((Below.heap_alloc _ (.cells #[.slice none 0 0] 34) w.heap.size (by simp; omega)).trans (Below.heap_alloc _ (.cells #[.slice sb m cy] 34) w.heap.size (by simp))).trans (f_ w (.cells #[.slice sa n cx] 34) w.heap.size rfl)
 have hs0 : (((w.alloc (.cells #[.slice sa n cx] 34)).alloc (.cells #[.slice sb m cy] 34)).alloc (.cells #[.slice none 0 0] 34)).heap.size = w.heap.size + 1 + 1 + 1 := by simp
 clear hn hm ba bb
 obtain ⟨L, hL⟩ : ∃ L, n + m + 1 = L := ⟨_, rfl⟩
 have eL : (n : Int) + (m : Int) + 1 = (L : Int) := by omega
 have hL6 : L ≤ 2000001 := by omega
 go_enter Tryz.func111, Tryz.ntmps111
 go_wp2_with (at_make; refine wpList_make_full _ rfl _ _ 32 rfl _ 3 i0 (.int .i64 0) 1 Tryz.underlying32 hi hz0 hz1 .i64 .i64 _ _ L rfl rfl (by omega) (by omega) (by rw [hz2]; omega) (by unfold maxLen; omega) (Nat.le_refl _) ?_; intro w1 hown hg1; have hI1 := fQ_ hown; have HS0 := H_ hs0; rw [hs0] at hI1; clear hs0 hown; have hgw := d_ hgw0 hg1; have hboxr1 := a_ hg1 hboxr; have hboxb1 := a_ hg1 hboxb; have hboxa1 := a_ hg1 hboxa; clear hg1 hgw0 hboxr hboxb hboxa)
 obtain ⟨g, hgE⟩ : ∃ g, w.heap.size + 1 + 1 + 1 = g := ⟨_, rfl⟩
 rw [hgE] at hI1
 have hgs : w.heap.size ≤ g := by omega
 go_wp2_with fail
 rw [hgE]
 go_loopw [6] (fun i wr => ∃ (k : Nat) (zs : List Nat), k ≤ n ∧ i = .int .i64 k ∧ Hid (zs.length = L) ∧ Dig D zs ∧ Ints wr g zs ∧ w1.grownBy wr (some g) ∧ Hid (val D zs = val D (xs.take k) * val D ys)) (fun i _ => n - (intOf i).toNat)
 case atStart => exact ⟨0, List.replicate L 0, Nat.zero_le _, rfl, by show _ = _; simp, Dig.replicate bi_ _, hI1, h_ _ _, by show _ = _; rw [bL_]; simp [val]⟩
 case round =>
  clear hI1
  obtain ⟨k, zs, hk, rfl, hzl, hzd, hI, hg, hv⟩ := hrel
  by_cases hlt : k < n
  · obtain ⟨x, ex⟩ : ∃ x, xs.getD k 0 = x := ⟨_, rfl⟩
    have hx4 : x < 10000 := ex ▸ bz_ dx k
    have EX := H_ ex
    clear ex
    have f1 : decide ((k : Int) < (n : Int)) = true := decide_eq_true (by omega)
    obtain ⟨hca, hfa⟩ := j_ (aN_ hg hboxa1 (by omega))
    go_wp2_with fail
    go_loopw [7, 8] (fun c j wi => ∃ (q r : Nat) (us : List Nat), q ≤ m ∧ j = .int .i64 q ∧ c = .int .i64 r ∧ r < 10000 ∧ Hid (us.length = L) ∧ Dig D us ∧ Ints wi g us ∧ wr.grownBy wi (some g) ∧ Hid (val D us + r * D ^ (k + q) = val D zs + x * val D (ys.take q) * D ^ k)) (fun _ j _ => m - (intOf j).toNat)
    case atStart => exact ⟨0, 0, zs, Nat.zero_le _, rfl, rfl, by omega, hzl, hzd, hI, h_ _ _, by show _ = _; simp [val]⟩
    case round =>
     obtain ⟨q, r, us, hq, rfl, rfl, hr, hul, hud, hIu, hgu, hvu⟩ := hrel
     have hgx := d_ hg hgu
     obtain ⟨hcb, hfb⟩ := j_ (aN_ hgx hboxb1 (by omega))
     by_cases hlt2 : q < m
     · obtain ⟨y, ey⟩ : ∃ y, ys.getD q 0 = y := ⟨_, rfl⟩
       have hy4 : y < 10000 := ey ▸ bz_ dy q
       obtain ⟨z, ez⟩ : ∃ z, us.getD (k + q) 0 = z := ⟨_, rfl⟩
       have hz4 : z < 10000 := ez ▸ bz_ hud (k + q)
       have EY := H_ ey
       have EZ := H_ ez
       obtain ⟨p, hp⟩ : ∃ p, x * y = p := ⟨_, rfl⟩
       have hp9 : p ≤ 99980001 := by
        rw [← hp]; exact Nat.mul_le_mul (show x ≤ 9999 by omega) (show y ≤ 9999 by omega)
       have hpI : (x : Int) * (y : Int) = (p : Int) := by rw [← hp]; rfl
       obtain ⟨j, hj⟩ : ∃ j, k + q = j := ⟨_, rfl⟩
       have hjI : (k : Int) + (q : Int) = (j : Int) := by omega
       have hjL : j < L := by omega
       obtain ⟨d, hd⟩ : ∃ d, (r + z + p) % 10000 = d := ⟨_, rfl⟩
       obtain ⟨r2, hr2⟩ : ∃ r2, (r + z + p) / 10000 = r2 := ⟨_, rfl⟩
       have e1 : ((r : Int) + (z : Int) + (p : Int)) % 10000 = (d : Int) := by omega
       have e2 : ((r : Int) + (z : Int) + (p : Int)) / 10000 = (r2 : Int) := by omega
       have hd4 : d < 10000 := by omega
       have hr4 : r2 < 10000 := by omega
       have hvn : Hid (val D (us.set j d) + r2 * D ^ (k + (q + 1)) = val D zs + x * val D (ys.take (q + 1)) * D ^ k) := by
        show _ = _
        have h1 := hZ_ us j d (by rw [hul.out]; exact hjL)
        rw [← hj] at h1 ⊢
        rw [EZ.out] at h1
        rw [at_ ys, EY.out, ← Nat.add_assoc, Nat.pow_succ, io_ (x := x) (y := y) (q := r2) (d := d) hvu.out h1 (by rw [hp]; unfold D; omega)]
        rw [Nat.pow_add]
        grind
       obtain ⟨b1, o1, rfl, c1⟩ := ev_ (hx.kept_row (d_ (eg_ hgw) hgx) hgs) Hn.out k hlt
       obtain ⟨b2, o2, rfl, c2⟩ := ev_ (hy.kept_row (d_ (eg_ hgw) hgx) hgs) Hm.out q hlt2
       rw [EX.out] at c1
       rw [EY.out] at c2
       have c3 := hIu.cell hul.out j hjL
       rw [← hj, EZ.out, hj] at c3
       have fr3 := hIu.frozen j
       obtain ⟨hca3, hfa3⟩ := j_ (aN_ hgx hboxa1 (by omega))
       have hu2 : Hid ((us.set j d).length = L) := by show _ = _; rw [List.length_set]; exact hul.out
       clear ey ez hp hj hd hr2
       go_wp2_with fail
       go_quiet (fail)
       go_wp2_with fail
       go_roundw
       case rel => exact ⟨q + 1, r2, us.set j d, by omega, by go_num, by go_num, hr4, hu2, hud.set hd4 j, (hIu.drewN _).set j d, q_ (d_ hgu (v_ _ _ _)) _ _, hvn⟩
       case measure => simp [intOf]; omega
     · obtain rfl : q = m := by omega
       obtain ⟨T, hT⟩ : ∃ T, val D (xs.take (k + 1)) * val D ys = T := ⟨_, rfl⟩
       have hvt : Hid (val D us + r * D ^ (k + q) = T) := by
        show _ = _
        rw [hvu.out, hv.out, List.take_of_length_le (l := ys) (by rw [Hm.out]; exact Nat.le_refl _), ← hT, at_ xs, EX.out, Nat.add_mul]; grind
       have hTb : Hid (T < D ^ (n + q)) := by
        show _ < _
        rw [← hT]
        have h1 := ba_ D _ (dx.take (k + 1))
        have h2 := ba_ D ys dy
        rw [Hm.out] at h2
        rw [List.length_take, Hn.out, Nat.min_eq_left (by omega)] at h1
        have h3 : D ^ (k + 1) * D ^ q ≤ D ^ n * D ^ q := Nat.mul_le_mul_right _ (Nat.pow_le_pow_right bi_ (by omega))
        rw [Nat.pow_add]
        exact Nat.lt_of_lt_of_le (Nat.mul_lt_mul'' h1 h2) h3
       obtain ⟨j0, hj0⟩ : ∃ j0, k + q = j0 := ⟨_, rfl⟩
       have hjI : (k : Int) + (q : Int) = (j0 : Int) := by omega
       have hj0L : j0 ≤ L := by omega
       rw [hj0] at hvt
       clear hj0
       have f7 : decide ((q : Int) < (q : Int)) = false := decide_eq_false (by omega)
       clear hvu hv
       go_wp2_with fail
       go_loopw [7, 9] (fun c t wi2 => ∃ (t' r' : Nat) (us' : List Nat), t = .int .i64 t' ∧ c = .int .i64 r' ∧ r' < 10000 ∧ t' ≤ L ∧ Hid (us'.length = L) ∧ Dig D us' ∧ Ints wi2 g us' ∧ wr.grownBy wi2 (some g) ∧ Hid (val D us' + r' * D ^ t' = T)) (fun _ t _ => L - (intOf t).toNat)
       case atStart => exact ⟨j0, r, us, rfl, rfl, hr, hj0L, hul, hud, hIu, h_ _ _, hvt⟩
       case round =>
        clear hul hud hIu hvt hr
        obtain ⟨j, r, us, rfl, rfl, hr, hjL', hul, hud, hIu, hgu2, hvu⟩ := hrel
        by_cases h0 : r = 0
        · subst h0
          go_wp2_with fail
          go_roundw
          case rel => exact ⟨k + 1, us, by omega, by go_num, hul, hud, hIu, d_ hgx hgu2, by show _ = _; rw [hT]; have := hvu.out; omega⟩
          case measure => simp [intOf]; omega
        · have f3 : decide ((0 : Int) < (r : Int)) = true := decide_eq_true (by omega)
          have hjn := iq_ hvu.out (by omega) hTb.out
          have hjL : j < L := by omega
          obtain ⟨z, ez⟩ : ∃ z, us.getD j 0 = z := ⟨_, rfl⟩
          have hz4 : z < 10000 := ez ▸ bz_ hud j
          obtain ⟨d, hd⟩ : ∃ d, (r + z) % 10000 = d := ⟨_, rfl⟩
          obtain ⟨r2, hr2⟩ : ∃ r2, (r + z) / 10000 = r2 := ⟨_, rfl⟩
          have e1 : ((r : Int) + (z : Int)) % 10000 = (d : Int) := by omega
          have e2 : ((r : Int) + (z : Int)) / 10000 = (r2 : Int) := by omega
          have hd4 : d < 10000 := by omega
          have hr4 : r2 < 10000 := by omega
          have hvn : Hid (val D (us.set j d) + r2 * D ^ (j + 1) = T) := by
           show _ = _
           have h1 := hZ_ us j d (by rw [hul.out]; exact hjL)
           rw [ez] at h1
           rw [Nat.pow_succ]
           exact gk_ hvu.out h1 (by unfold D; omega)
          have c3 := hIu.cell hul.out j hjL
          rw [ez] at c3
          have fr3 := hIu.frozen j
          have hu2 : Hid ((us.set j d).length = L) := by show _ = _; rw [List.length_set]; exact hul.out
          clear ez hd hr2 hvu
          go_wp2_with fail
          go_roundw
          case rel => exact ⟨j + 1, r2, us.set j d, by go_num, by go_num, hr4, by omega, hu2, hud.set hd4 j, hIu.set j d, q_ hgu2 _ _, hvn⟩
          case measure => simp [intOf]; omega
  · obtain rfl : k = n := by omega
    have f1 : decide ((k : Int) < (k : Int)) = false := decide_eq_false (by omega)
    have hbox2 := aN_ hg hboxr1 (by omega)
    have hgw2 := s_ hgw hg (by omega)
    have HV : Hid (val D zs = val D xs * val D ys) := by show _ = _; rw [hv.out, List.take_of_length_le (by rw [Hn.out]; exact Nat.le_refl _)]
    obtain ⟨hca, hfa⟩ := j_ (aN_ hg hboxa1 (by omega))
    have hrd := hI.rd
    clear hboxr1 hboxb1 hboxa1 hv hg hgw hI
    go_wp2_with fail
    refine (dI_ wr (some ⟨g, 0, none⟩) L L zs hzl.out hrd (Nat.le_refl _) (by omega) hzd).mono ?_
    rintro e w4 ⟨v, rfl, hv4, hg4⟩
    have hbox4 := a_ hg4 hbox2
    obtain ⟨hc4, hf4⟩ := j_ hbox4
    rw [HV.out] at hv4
    obtain ⟨s4, k4, c4, zs4, rfl, hz4⟩ := hv4
    have hF := H_ (lS_ (d_ hgw2 hg4) hbox4 (by decide) (by omega) ⟨s4, k4, c4, zs4, rfl, hz4⟩ (.slice s4 k4 c4))
    clear hz4 hbox4 hbox2 hg4 hgw2
    go_wp2_with fail
    exact bodyPost_ret (v := .agg #[.slice s4 k4 c4]) (by simp [results, Tryz.results111, go_sem, hc4]) rfl hF.out
end Go.Proofs.YtgbbdgioohaknaaGreatDoor
