/- What the laws lean on, part 18. -/
import Derived.Shelf.Bits.Mul64
import Derived.Deep.RegionHeld3
import Derived.Test.YtgbbdgioohaknaaGreatDoorPb13
import Derived.Test.YtgbbdgioohaknaaGreatDoorPb34
namespace Go.Proofs.YtgbbdgioohaknaaGreatDoor
open Go.RowKit Mat
set_option maxRecDepth 100000
set_option linter.unusedVariables false
set_option linter.unusedSimpArgs false
theorem gs_ (k v x y by' add s : Nat) (h : v + add * B ^ k = s) :
    v + B ^ k * Q_ x (Q_ (C_ y by') add 0) 0 + (bH_ y by' + an_ (C_ y by') add 0 + an_ x (Q_ (C_ y by') add 0) 0) * B ^ (k + 1) = s + B ^ k * x + B ^ k * (y * by') := by
 have e1 := eM_ y by'
 have e2 : Q_ (C_ y by') add 0 + B * an_ (C_ y by') add 0 = C_ y by' + add + 0 := Nat.mod_add_div ..
 have e3 : Q_ x (Q_ (C_ y by') add 0) 0 + B * an_ x (Q_ (C_ y by') add 0) 0 = x + Q_ (C_ y by') add 0 + 0 := Nat.mod_add_div ..
 generalize Q_ x (Q_ (C_ y by') add 0) 0 = r3 at *
 generalize an_ x (Q_ (C_ y by') add 0) 0 = c3 at *
 generalize Q_ (C_ y by') add 0 = r2 at *
 generalize an_ (C_ y by') add 0 = c2 at *
 generalize C_ y by' = r1 at *
 generalize bH_ y by' = q1 at *
 rw [← e1, Nat.pow_succ]
 grind
def es_ (w : World) (b off : Nat) (xs ys : List Nat) (by' : Nat) (cs : Array Value) (e : Ending) (w' : World) : Prop :=
 ∃ (zs : List Nat) (cs' : Array Value), e = .returned (.tuple #[]) ∧ Blk w' b cs' ∧ Wrote cs cs' off zs ∧ w.grownBy w' (some b) ∧ zs.length = ys.length + 1 ∧ Dig B zs ∧ val B zs = val B (xs.take ys.length) + val B ys * by'
set_option maxHeartbeats 2000000 in
theorem fv_ (w : World) (b off n cap : Nat) (xs : List Nat) (cs : Array Value) (sa : Option Addr) (m cap2 : Nat) (ys : List Nat) (by' : Nat) (hn : xs.length = n) (hmm : ys.length = m)
    (hb : Blk w b cs) (hx : At cs off xs) (hs : Rd w sa ys b) (hl : n = m + 1) (hm : n ≤ 1099511627776) (dx : Dig B xs) (dy : Dig B ys) (hby : by' < B) :
    Calls Tryz.prog 128 #[.slice (some ⟨b, off, none⟩) n cap, .slice sa m cap2, .int .u64 (by' : Int)] w (es_ w b off xs ys by' cs) := by
 subst hl
 have Hn := H_ hn
 have Hm := H_ hmm
 have hbyN : by' < 18446744073709551616 := hby
 clear hn hmm
 go_enter Tryz.func128, Tryz.ntmps128
 go_wp2_with fail
 go_loopw [6, 14] (fun c i wr => ∃ (k ad : Nat) (zs : List Nat), k ≤ m ∧ i = .int .i64 k ∧ c = .int .u64 ad ∧ ad < B ∧ Hid (zs.length = k) ∧ Dig B zs ∧ Blk wr b (Put cs off zs) ∧ w.grownBy wr (some b) ∧ Hid (val B zs + ad * B ^ k = val B (xs.take k) + val B (ys.take k) * by'))
  (fun _ i _ => m - (intOf i).toNat)
 case atStart => exact ⟨0, 0, [], Nat.zero_le _, rfl, rfl, T_, rfl, Dig.nil _, hb, h_ _ _, by show _ = _; simp [val]⟩
 case round =>
  obtain ⟨k, ad, zs, hk, rfl, rfl, hc, hzl, hzd, hbk, hg, hv⟩ := hrel
  by_cases hlt : k < m
  · obtain ⟨x, ex⟩ : ∃ x, xs[k]'(by rw [Hn.out]; omega) = x := ⟨_, rfl⟩
    obtain ⟨y, ey⟩ : ∃ y, ys[k]'(by rw [Hm.out]; omega) = y := ⟨_, rfl⟩
    have hxB : x < B := ex ▸ dx.get k _
    have hyB : y < B := ey ▸ dy.get k _
    obtain ⟨b2, off2, cs2, rfl, hne, h2, hy⟩ := hs.get k (by rw [Hm.out]; omega)
    have cx : wr.cell? ⟨b, off + k, none⟩ = some (.int .u64 (x : Int)) := by
     rw [hbk.cell, ay_ _ _ _ _ (by rw [hzl.out]; omega), hx k (by rw [Hn.out]; omega), ex]
    have cy : wr.cell? ⟨b2, off2 + k, none⟩ = some (.int .u64 (y : Int)) := by
     rw [(h2.kept hg (by simpa using hne)).cell, hy k (by rw [Hm.out]; omega), ey]
    have fx : wr.frozen? ⟨b, off + k, none⟩ = false := hbk.frozen _
    have EX := H_ ex
    have EY := H_ ey
    clear ex ey
    have ha1 : ∀ w, (callFunc 119 #[.int .u64 (C_ y by' : Int), .int .u64 (ad : Int), .int .u64 0]).run Tryz.prog w = .ok (.value (.tuple #[.int .u64 (Q_ (C_ y by') ad 0 : Int), .int .u64 (an_ (C_ y by') ad 0 : Int)])) w := fun w => hO_ _ _ 0 (Nat.zero_le _) w
    have ha2 : ∀ w, (callFunc 119 #[.int .u64 (x : Int), .int .u64 (Q_ (C_ y by') ad 0 : Int), .int .u64 0]).run Tryz.prog w = .ok (.value (.tuple #[.int .u64 (Q_ x (Q_ (C_ y by') ad 0) 0 : Int), .int .u64 (an_ x (Q_ (C_ y by') ad 0) 0 : Int)])) w := fun w => hO_ _ _ 0 (Nat.zero_le _) w
    obtain ⟨b1, b2'⟩ := ef_ hxB hyB hby hc
    have b1 : bH_ y by' + an_ (C_ y by') ad 0 < 18446744073709551616 := b1
    have b3 : bH_ y by' + an_ (C_ y by') ad 0 + an_ x (Q_ (C_ y by') ad 0) 0 < 18446744073709551616 := b2'
    go_wp2_with (go_at_call 118; refine (bZ_ y by' hyB hby _).mono ?_; rintro e w' ⟨rfl, rfl⟩)
    clear ha1 ha2 cx cy fx
    go_roundw
    case rel =>
     refine ⟨k + 1, bH_ y by' + an_ (C_ y by') ad 0 + an_ x (Q_ (C_ y by') ad 0) 0, zs ++ [Q_ x (Q_ (C_ y by') ad 0) 0], by omega, by go_num, by go_num, b2', ?_, hzd.snoc (cY_ _ _ _), ?_, q_ hg _ _, ?_⟩
     · show _ = _; rw [List.length_append, hzl.out]; rfl
     · rw [aR_, hzl.out]; exact hbk.setCell _ _
     · show _ = _
       rw [G_, hzl.out, gs_ k _ x y by' ad _ hv.out, w_ B xs k (by rw [Hn.out]; omega), w_ B ys k (by rw [Hm.out]; omega), EX.out, EY.out, Nat.add_mul, Nat.mul_assoc]; omega
    case measure => simp [intOf]; omega
  · obtain rfl : k = m := by omega
    have cx : wr.cell? ⟨b, off + k, none⟩ = some (.int .u64 (xs[k]'(by rw [Hn.out]; omega) : Int)) := by
     rw [hbk.cell, ay_ _ _ _ _ (by rw [hzl.out]; omega), hx k (by rw [Hn.out]; omega)]
    have fx : wr.frozen? ⟨b, off + k, none⟩ = false := hbk.frozen _
    obtain ⟨xv, exv⟩ : ∃ xv, xs[k]'(by rw [Hn.out]; omega) = xv := ⟨_, rfl⟩
    rw [exv] at cx
    clear exv
    have hsz : off + (k + 1) ≤ cs.size := by
     rcases hx.le with h | h
     · exfalso; have := Hn.out; rw [h] at this; simp at this
     · rw [Hn.out] at h; omega
    have HF : Hid (es_ w b off xs ys by' cs (.returned (.tuple #[])) (wr.setCell ⟨b, off + k, none⟩ (.int .u64 (ad : Int)))) := by
     have hb2 := hbk.setCell (off + k) (.int .u64 (ad : Int))
     have hp : (Put cs off zs).setIfInBounds (off + k) (.int .u64 (ad : Int)) = Put cs off (zs ++ [ad]) := by rw [aR_, hzl.out]
     rw [hp] at hb2
     have hlen : (zs ++ [ad]).length = k + 1 := by rw [List.length_append, hzl.out]; rfl
     refine ⟨zs ++ [ad], _, rfl, hb2, ⟨cK_ _ _ _, fun j hj => ay_ _ _ _ _ hj, ep_ _ _ _ (by rw [hlen]; exact hsz)⟩, q_ hg _ _, by rw [hlen, Hm.out], hzd.snoc hc, ?_⟩
     rw [G_, hzl.out, Hm.out, Nat.mul_comm, hv.out, ← Hm.out, List.take_length, Hm.out]
    clear hbk hg hv hzl hzd
    go_wp2_with fail
    go_end0
    exact HF
theorem jY_ {us ys zs : List Nat} {i x V : Nat} (hi : i ≤ us.length) (hv : val B us = V * val B ys) (hz : val B zs = val B ((us.drop i ++ [0]).take ys.length) + val B ys * x) (hl : us.length = i + ys.length) :
    val B (us.take i ++ zs) = (V + B ^ i * x) * val B ys := by
 have e : (us.drop i ++ [0]).take ys.length = us.drop i := by
  rw [List.take_append_of_le_length (by rw [List.length_drop]; omega), List.take_of_length_le (by rw [List.length_drop]; omega)]
 rw [e] at hz
 have h1 := aB_ B us i hi
 rw [aJ_, List.length_take, Nat.min_eq_left hi, hz, Nat.mul_add, ← Nat.add_assoc, ← h1, hv, Nat.add_mul]
 congr 1
 rw [Nat.mul_assoc, Nat.mul_comm x]
theorem lu_ {cs : Array Value} {us : List Nat} {k j : Nat} (h : At cs 0 (us ++ List.replicate (j + 1) 0)) (hk : k ≤ us.length) : At cs k (us.drop k ++ [0]) := by
 have h1 := h.drop k
 rw [Nat.zero_add, List.drop_append_of_le_length hk] at h1
 have h2 := h1.take ((us.drop k).length + 1)
 rw [List.take_length_add_append, List.take_replicate, Nat.min_eq_left (by omega)] at h2
 exact h2
theorem kK_ {cs cs' : Array Value} {us zs : List Nat} {k j m : Nat} (h : At cs 0 (us ++ List.replicate (j + 1) 0)) (hu : us.length = k + m) (hz : zs.length = m + 1) (hw : Wrote cs cs' k zs) : At cs' 0 ((us.take k ++ zs) ++ List.replicate j 0) := by
 have hlk : (us.take k).length = k := by rw [List.length_take]; omega
 refine At.append (At.append ?_ ?_) ?_
 · intro i hi
   rw [hlk] at hi
   rw [hw.out _ (by omega), h i (by simp; omega), List.getElem_append_left (by omega), List.getElem_take]
 · rw [hlk, Nat.zero_add]; exact hw.lies
 · intro i hi
   rw [List.length_replicate] at hi
   rw [List.length_append, hlk, hz]
   rw [hw.out _ (by omega), List.getElem_replicate]
   have := h (k + (m + 1) + i) (by simp; omega)
   rw [Nat.zero_add] at this ⊢
   rw [this, List.getElem_append_right (by omega), List.getElem_replicate]
set_option maxHeartbeats 2000000 in
theorem kr_ (w : World) (sa sb : Option Addr) (xs ys : List Nat) (hx : Lm w sa xs) (hy : Lm w sb ys) (n m : Nat) (hn : xs.length = n) (hm : ys.length = m) (bn : n ≤ 1073741824) (bm : m ≤ 1073741824) :
    Calls Tryz.prog 110 #[.agg #[.slice sa n n], .agg #[.slice sb m m]] w (RetFresh w (val B xs * val B ys)) := by
 have Hn := H_ hn
 have Hm := H_ hm
 clear hn hm
 obtain ⟨i0, hi, hz0, hz1, hz2⟩ := info_parts Tryz.infoU64
 have hgw0 : w.grownBy (((w.alloc (.cells #[.slice sa n n] 24)).alloc (.cells #[.slice sb m m] 24)).alloc (.cells #[.slice none 0 0] 24)) none := l_ (l_ (wg_ _ _ _) _) _
 have hbox0 := f_ ((w.alloc (.cells #[.slice sa n n] 24)).alloc (.cells #[.slice sb m m] 24)) (.cells #[.slice none 0 0] 24) (w.heap.size + 1 + 1) (by simp)
 have hboxb0 := (Below.heap_alloc _ (.cells #[.slice none 0 0] 24) (w.heap.size + 1) (by simp)).trans (f_ (w.alloc (.cells #[.slice sa n n] 24)) (.cells #[.slice sb m m] 24) (w.heap.size + 1) (by simp))
 have hboxa0 := (Below.heap_alloc _ (.cells #[.slice none 0 0] 24) (w.heap.size) (by simp; omega)).trans ((Below.heap_alloc _ (.cells #[.slice sb m m] 24) (w.heap.size) (by simp)).trans (f_ w (.cells #[.slice sa n n] 24) (w.heap.size) rfl))
 have hs0 : (((w.alloc (.cells #[.slice sa n n] 24)).alloc (.cells #[.slice sb m m] 24)).alloc (.cells #[.slice none 0 0] 24)).heap.size = w.heap.size + 1 + 1 + 1 := by simp
 go_enter Tryz.func110, Tryz.ntmps110
 go_wp2_with (at_make; refine wpList_make_full _ rfl _ _ 22 rfl _ 96 i0 (.int .u64 0) 1 Tryz.underlying22 hi hz0 hz1 .i64 .i64 _ _ (n + m) rfl rfl (by omega) (by omega) (by rw [hz2]; omega) (by unfold maxLen; omega) (Nat.le_refl _) ?_; intro w1 hown hg1; obtain ⟨cs, hb1, hsz, hat⟩ := cn_ hown; have HS := H_ hsz; have HS0 := H_ hs0; rw [hs0] at hb1; clear hsz hs0 hown; have hgw := d_ hgw0 hg1; have hbox1 := a_ hg1 hbox0; have hboxb1 := a_ hg1 hboxb0; have hboxa1 := a_ hg1 hboxa0; obtain ⟨hca, hfa⟩ := j_ hboxa1; clear hg1 hgw0 hbox0 hboxb0 hboxa0)
 go_loopw [19] (fun i wr => ∃ (k : Nat) (us : List Nat) (cs2 : Array Value), k ≤ n ∧ i = .int .i64 k ∧ Hid (us.length = k + m) ∧ Dig B us ∧ Blk wr (w.heap.size + 1 + 1 + 1) cs2 ∧ At cs2 0 (us ++ List.replicate (n - k) 0) ∧ w1.grownBy wr (some (w.heap.size + 1 + 1 + 1)) ∧ Hid (val B us = val B (xs.take k) * val B ys))
  (fun i _ => n - (intOf i).toNat)
 case atStart => exact ⟨0, List.replicate m 0, cs, Nat.zero_le _, rfl, by show _ = _; simp, Dig.replicate T_ _, hb1, by rw [Nat.sub_zero, List.replicate_append_replicate, Nat.add_comm m n]; exact hat, h_ _ _, by show _ = _; rw [bL_]; simp [val]⟩
 case round =>
  obtain ⟨k, us, cs2, hk, rfl, hul, hud, hbk, hat2, hg, hv⟩ := hrel
  have hcb := j_ (aN_ hg hboxb1 (by omega))
  by_cases hlt : k < n
  · obtain ⟨x, ex⟩ : ∃ x, xs[k]'(by rw [Hn.out]; omega) = x := ⟨_, rfl⟩
    have hxB : x < B := ex ▸ hx.dig.get k _
    obtain ⟨b2, off2, cs3, rfl, h2, hax⟩ := hx.rd.get k (by rw [Hn.out]; omega)
    have cx : wr.cell? ⟨b2, off2 + k, none⟩ = some (.int .u64 (x : Int)) := by
     rw [((h2.kept hgw (by simp)).kept hg (by have := h2.lt; simp; omega)).cell, hax k (by rw [Hn.out]; omega), ex]
    have EX := H_ ex
    clear ex
    obtain ⟨hcb, hfb⟩ := hcb
    go_wp2_with fail
    have e1 : IntKind.i64.wrap ((k : Int) + (m : Int)) = (k : Int) + (m : Int) := IntWalk.i64_in _ (by omega)
    have e2 : IntKind.i64.wrap ((k : Int) + (m : Int) + 1) = (k : Int) + (m : Int) + 1 := IntWalk.i64_in _ (by omega)
    have f1 : (k : Int) ≤ (k : Int) + (m : Int) + 1 := by omega
    have f2 : (k : Int) + (m : Int) + 1 ≤ (n : Int) + (m : Int) := by omega
    have f3 : ((k : Int) + (m : Int) + 1).toNat = k + m + 1 := by omega
    have f4 : (0 : Int) ≤ (k : Int) := by omega
    have f5 : k ≠ n + m := by omega
    go_still_tail 12, (by kernel_rfl)
    change wpList _ _ _ _ _ wr.drew
    clear e1 e2 f1 f2 f3 f4 f5
    go_wp2_with fail
    have hr : n - k = (n - k - 1) + 1 := by omega
    rw [hr] at hat2
    refine (fv_ _ _ k _ _ (us.drop k ++ [0]) cs2 sb m _ ys x (by rw [List.length_append, List.length_drop, hul.out]; simp; omega) Hm.out hbk.drew (lu_ hat2 (by rw [hul.out]; omega)) (((hy.rd.beside (g := w.heap.size + 1 + 1 + 1) (by omega)).kept_none hgw).kept (k_ hg)) (by omega) (by omega) ((hud.drop k).snoc T_) hy.dig hxB).mono ?_
    rintro e w2 ⟨zs, cs4, rfl, hb4, hw4, hg4, hl4, hd4, hv4⟩
    rw [Hm.out] at hl4
    have HZ := H_ hv4
    have HL := H_ hl4
    have hat4 := kK_ hat2 hul.out hl4 hw4
    clear hv4 hl4 hr cx hcb hfb
    go_wp2_with fail
    go_roundw
    case rel =>
     refine ⟨k + 1, us.take k ++ zs, cs4, by omega, by go_num, ?_, (hud.take k).append hd4, hb4, by rw [show n - (k + 1) = n - k - 1 from by omega]; exact hat4, d_ (k_ hg) hg4, ?_⟩
     · show _ = _; rw [List.length_append, HL.out, List.length_take, hul.out]; omega
     · show _ = _
       rw [jY_ (by rw [hul.out]; omega) hv.out HZ.out (by rw [hul.out, Hm.out]), w_ B xs k (by rw [Hn.out]; omega), EX.out]
    case measure => simp [intOf]; omega
  · obtain rfl : k = n := by omega
    have hbox2 := aN_ hg hbox1 (by omega)
    have hgw2 := s_ hgw hg (by omega)
    rw [Nat.sub_self, List.replicate_zero, List.append_nil] at hat2
    have HV : Hid (val B us = val B xs * val B ys) := by show _ = _; rw [hv.out, ← Hn.out, List.take_length]
    clear hbox1 hboxb1 hboxa1 hb1 hat hca hfa hcb hv hg hgw
    go_wp2_with fail
    refine (eL_ _ _ (k + m) _ us hul.out (Rdo.of hbk hat2) (by omega) (Nat.le_refl _) hud).mono ?_
    rintro e w4 ⟨sc, zs, rfl, hl4, hv4, hfr, hg4⟩
    have hbox4 := a_ hg4 hbox2
    obtain ⟨hc4, hf4⟩ := j_ hbox4
    have hF := H_ (gQ_ (d_ hgw2 hg4) hbox4 (by decide) (by omega) hl4 (hv4.trans HV.out) (gY_ hfr (by omega)) (.slice sc zs.length zs.length))
    clear hfr hv4 hbox4 hbox2 hg4 hgw2
    go_wp2_with fail
    exact bodyPost_ret (v := .agg #[.slice sc zs.length zs.length]) (by simp [results, Tryz.results110, go_sem, hc4]) rfl hF.out
theorem jo_ (w : World) (va vb : Value) (a b K : Nat) (ha : NatV w va a) (hb : NatV w vb b) (hK : K ≤ 1073741824) (la : a < B ^ K) (lb : b < B ^ K) :
    Calls Tryz.prog 110 #[va, vb] w (RetFresh w (a * b)) := by
 obtain ⟨sa, xs, rfl, hx, rfl⟩ := ha
 obtain ⟨sb, ys, rfl, hy, rfl⟩ := hb
 have h1 := hx.len la
 have h2 := hy.len lb
 exact kr_ w sa sb xs ys hx hy _ _ rfl rfl (by omega) (by omega)
theorem fz_ (w : World) (va vb : Value) (a b K : Nat) (ha : NatV w va a) (hb : NatV w vb b) (hK : K ≤ 1073741824) (la : a < B ^ K) (lb : b < B ^ K) :
    Calls Tryz.prog 110 #[va, vb] w (bK_ w (a * b)) :=
 (jo_ w va vb a b K ha hb hK la lb).mono fun _ _ h => h.nat
theorem jI_ {x y : Int} {a b : Bool} (h : a = true ↔ x < 0) (k : b = true ↔ y < 0) : (if (a != b) = true then -((x.natAbs * y.natAbs : Nat) : Int) else ((x.natAbs * y.natAbs : Nat) : Int)) = x * y := by
 have e1 := cM_ h
 have e2 := cM_ k
 have e3 : ((x.natAbs * y.natAbs : Nat) : Int) = (x.natAbs : Int) * (y.natAbs : Int) := Int.natCast_mul _ _
 rw [e3]
 cases a <;> cases b <;> simp at e1 e2 ⊢
 · rw [e1, e2]
 · rw [← Int.mul_neg, e1, e2]
 · rw [← Int.neg_mul, e1, e2]
 · rw [← Int.neg_mul_neg, e1, e2]
theorem lK_ {a b k m : Nat} (h1 : a < B ^ k) (h2 : b < B ^ m) : a * b < B ^ (k + m) := by
 rw [Nat.pow_add]; exact Nat.mul_lt_mul'' h1 h2
set_option maxHeartbeats 8000000 in
theorem Y_ (w : World) (va vb : Value) (x y : Int) (K : Nat) (ha : IntV w va x) (hb : IntV w vb y) (hK : K ≤ 400000) (la : x.natAbs < B ^ K) (lb : y.natAbs < B ^ K) :
    Calls Tryz.prog 75 #[va, vb] w (x_ w (x * y)) := by
 obtain ⟨sa, xs, za, rfl, hx, hv, hza⟩ := ha
 obtain ⟨sb, ys, zb, rfl, hy, hvy, hzb⟩ := hb
 have hgw0 : w.grownBy (((w.alloc (.cells #[.slice sa xs.length xs.length, .bool za] 26)).alloc (.cells #[.slice sb ys.length ys.length, .bool zb] 26)).alloc (.cells #[.slice none 0 0, .bool false] 26)) none := l_ (l_ (wg_ _ _ _) _) _
 have hr := f_ ((w.alloc (.cells #[.slice sa xs.length xs.length, .bool za] 26)).alloc (.cells #[.slice sb ys.length ys.length, .bool zb] 26)) (.cells #[.slice none 0 0, .bool false] 26) (w.heap.size + 1 + 1) (by simp)
 have hbb := a_ (wg_ _ (.cells #[.slice none 0 0, .bool false] 26) none) (f_ (w.alloc (.cells #[.slice sa xs.length xs.length, .bool za] 26)) (.cells #[.slice sb ys.length ys.length, .bool zb] 26) (w.heap.size + 1) (by simp))
 have hba := a_ (l_ (wg_ _ (.cells #[.slice sb ys.length ys.length, .bool zb] 26) none) (.cells #[.slice none 0 0, .bool false] 26)) (f_ w (.cells #[.slice sa xs.length xs.length, .bool za] 26) w.heap.size rfl)
 have na : NatV (((w.alloc (.cells #[.slice sa xs.length xs.length, .bool za] 26)).alloc (.cells #[.slice sb ys.length ys.length, .bool zb] 26)).alloc (.cells #[.slice none 0 0, .bool false] 26)) (.agg #[.slice sa xs.length xs.length]) x.natAbs := ⟨sa, xs, rfl, hx.kept hgw0, hv⟩
 have nn : NatV (((w.alloc (.cells #[.slice sa xs.length xs.length, .bool za] 26)).alloc (.cells #[.slice sb ys.length ys.length, .bool zb] 26)).alloc (.cells #[.slice none 0 0, .bool false] 26)) (.agg #[.slice sb ys.length ys.length]) y.natAbs := ⟨sb, ys, rfl, hy.kept hgw0, hvy⟩
 have Hla := H_ la
 have Hlb := H_ lb
 have HE := H_ (jI_ hza hzb)
 clear hx hv hy hvy la lb hza hzb
 cases za <;> cases zb
 · skip
   have HSG : Hid (∀ W v, NatV W v (x.natAbs * y.natAbs) → Calls Tryz.prog 105 #[v, .bool false] W (x_ W (x * y))) := fun W v hn => by
    have q := J_ W v _ (K + K) false hn (by omega) (lK_ Hla.out Hlb.out)
    rw [show (if false = true then -((x.natAbs * y.natAbs : Nat) : Int) else ((x.natAbs * y.natAbs : Nat) : Int)) = x * y from HE.out] at q
    exact q
   go_enter Tryz.func75, Tryz.ntmps75
   go_wp2_with fail
   generalize (((w.alloc (.cells #[.slice sa xs.length xs.length, .bool false] 26)).alloc (.cells #[.slice sb ys.length ys.length, .bool false] 26)).alloc (.cells #[.slice none 0 0, .bool false] 26)) = w0 at *
   obtain ⟨ca0, ca1, fa0, fa1⟩ := c_ hba
   obtain ⟨cb0, cb1, fb0, fb1⟩ := c_ hbb
   go_region_held3 (fun w' => w'.cell? ⟨w.heap.size, 0, none⟩ = some (.slice sa xs.length xs.length) ∧ w'.cell? ⟨w.heap.size, 1, none⟩ = some (.bool false) ∧ w'.cell? ⟨w.heap.size + 1, 0, none⟩ = some (.slice sb ys.length ys.length) ∧ w'.cell? ⟨w.heap.size + 1, 1, none⟩ = some (.bool false))
    (first | assumption | exact ⟨ca0, ca1, cb0, cb1⟩ | exact HS3 | go_keep)
    (first
      | (go_at_call 110; (with_reducible refine (fz_ w0.drew _ _ x.natAbs y.natAbs K (na.kept (k_ (h_ _ _))) (nn.kept (k_ (h_ _ _))) (by omega) Hla.out Hlb.out).mono ?_); rintro e w1 ⟨v1, rfl, n1, g1⟩; have hG1 := o_ w0 g1 rfl rfl rfl rfl; have hS1 := n_ (hG1.cell ca0 (by simp)) (n_ (hG1.cell ca1 (by simp)) (n_ (hG1.cell cb0 (by simp)) (hG1.cell cb1 (by simp)))))
      | (go_at_call 105; (with_reducible refine (HSG.out w1 _ n1).mono ?_); rintro e w2 ⟨v2, rfl, ⟨s2, x2, fl2, rfl, h2, vv2, hb2⟩, g2⟩; have hG2 := d_ hG1 g2; have hS2 := n_ (hG2.cell ca0 (by simp)) (n_ (hG2.cell ca1 (by simp)) (n_ (hG2.cell cb0 (by simp)) (hG2.cell cb1 (by simp)))); have hr2 := a_ hG2 hr; (obtain ⟨d0, d1, k0, k1⟩ := c_ hr2); have qa := c_ (e_ (a_ hG2 hba) (show w.heap.size ≠ w.heap.size + 1 + 1 by omega) (.slice s2 x2.length x2.length) (.bool fl2)); have qb := c_ (e_ (a_ hG2 hbb) (show w.heap.size + 1 ≠ w.heap.size + 1 + 1 by omega) (.slice s2 x2.length x2.length) (.bool fl2)); have HS3 := n_ qa.1 (n_ qa.2.1 (n_ qb.1 qb.2.1))))
   have hgw := d_ hgw0 hG2
   clear n1 g1 g2 na nn
   have hb9 := hr2
   obtain ⟨c90, c91, f90, f91⟩ := c_ hb9
   obtain ⟨q90, q91, r90, r91⟩ := c_ (m_ hb9 (.slice s2 x2.length x2.length) (.bool fl2))
   have hF : Hid (x_ w (x * y) (.returned (.agg #[.slice s2 x2.length x2.length, .bool fl2])) ((w2.setCell ⟨w.heap.size + 1 + 1, 0, none⟩ (.slice s2 x2.length x2.length)).setCell ⟨w.heap.size + 1 + 1, 1, none⟩ (.bool fl2))) := ap_ hgw hb9 (by omega) h2 vv2 hb2
   clear h2 vv2 hb2
   go_wp2_with fail
   exact bodyPost_ret (v := .agg #[.slice s2 x2.length x2.length, .bool fl2]) (by simp [results, Tryz.results75, go_sem, q90, q91]) rfl hF.out
 · skip
   have HSG : Hid (∀ W v, NatV W v (x.natAbs * y.natAbs) → Calls Tryz.prog 105 #[v, .bool true] W (x_ W (x * y))) := fun W v hn => by
    have q := J_ W v _ (K + K) true hn (by omega) (lK_ Hla.out Hlb.out)
    rw [show (if true = true then -((x.natAbs * y.natAbs : Nat) : Int) else ((x.natAbs * y.natAbs : Nat) : Int)) = x * y from HE.out] at q
    exact q
   go_enter Tryz.func75, Tryz.ntmps75
   go_wp2_with fail
   generalize (((w.alloc (.cells #[.slice sa xs.length xs.length, .bool false] 26)).alloc (.cells #[.slice sb ys.length ys.length, .bool true] 26)).alloc (.cells #[.slice none 0 0, .bool false] 26)) = w0 at *
   obtain ⟨ca0, ca1, fa0, fa1⟩ := c_ hba
   obtain ⟨cb0, cb1, fb0, fb1⟩ := c_ hbb
   go_region_held3 (fun w' => w'.cell? ⟨w.heap.size, 0, none⟩ = some (.slice sa xs.length xs.length) ∧ w'.cell? ⟨w.heap.size, 1, none⟩ = some (.bool false) ∧ w'.cell? ⟨w.heap.size + 1, 0, none⟩ = some (.slice sb ys.length ys.length) ∧ w'.cell? ⟨w.heap.size + 1, 1, none⟩ = some (.bool true))
    (first | assumption | exact ⟨ca0, ca1, cb0, cb1⟩ | exact HS3 | go_keep)
    (first
      | (go_at_call 110; (with_reducible refine (fz_ w0.drew _ _ x.natAbs y.natAbs K (na.kept (k_ (h_ _ _))) (nn.kept (k_ (h_ _ _))) (by omega) Hla.out Hlb.out).mono ?_); rintro e w1 ⟨v1, rfl, n1, g1⟩; have hG1 := o_ w0 g1 rfl rfl rfl rfl; have hS1 := n_ (hG1.cell ca0 (by simp)) (n_ (hG1.cell ca1 (by simp)) (n_ (hG1.cell cb0 (by simp)) (hG1.cell cb1 (by simp)))))
      | (go_at_call 105; (with_reducible refine (HSG.out w1 _ n1).mono ?_); rintro e w2 ⟨v2, rfl, ⟨s2, x2, fl2, rfl, h2, vv2, hb2⟩, g2⟩; have hG2 := d_ hG1 g2; have hS2 := n_ (hG2.cell ca0 (by simp)) (n_ (hG2.cell ca1 (by simp)) (n_ (hG2.cell cb0 (by simp)) (hG2.cell cb1 (by simp)))); have hr2 := a_ hG2 hr; (obtain ⟨d0, d1, k0, k1⟩ := c_ hr2); have qa := c_ (e_ (a_ hG2 hba) (show w.heap.size ≠ w.heap.size + 1 + 1 by omega) (.slice s2 x2.length x2.length) (.bool fl2)); have qb := c_ (e_ (a_ hG2 hbb) (show w.heap.size + 1 ≠ w.heap.size + 1 + 1 by omega) (.slice s2 x2.length x2.length) (.bool fl2)); have HS3 := n_ qa.1 (n_ qa.2.1 (n_ qb.1 qb.2.1))))
   have hgw := d_ hgw0 hG2
   clear n1 g1 g2 na nn
   have hb9 := hr2
   obtain ⟨c90, c91, f90, f91⟩ := c_ hb9
   obtain ⟨q90, q91, r90, r91⟩ := c_ (m_ hb9 (.slice s2 x2.length x2.length) (.bool fl2))
   have hF : Hid (x_ w (x * y) (.returned (.agg #[.slice s2 x2.length x2.length, .bool fl2])) ((w2.setCell ⟨w.heap.size + 1 + 1, 0, none⟩ (.slice s2 x2.length x2.length)).setCell ⟨w.heap.size + 1 + 1, 1, none⟩ (.bool fl2))) := ap_ hgw hb9 (by omega) h2 vv2 hb2
   clear h2 vv2 hb2
   go_wp2_with fail
   exact bodyPost_ret (v := .agg #[.slice s2 x2.length x2.length, .bool fl2]) (by simp [results, Tryz.results75, go_sem, q90, q91]) rfl hF.out
 · skip
   have HSG : Hid (∀ W v, NatV W v (x.natAbs * y.natAbs) → Calls Tryz.prog 105 #[v, .bool true] W (x_ W (x * y))) := fun W v hn => by
    have q := J_ W v _ (K + K) true hn (by omega) (lK_ Hla.out Hlb.out)
    rw [show (if true = true then -((x.natAbs * y.natAbs : Nat) : Int) else ((x.natAbs * y.natAbs : Nat) : Int)) = x * y from HE.out] at q
    exact q
   go_enter Tryz.func75, Tryz.ntmps75
   go_wp2_with fail
   generalize (((w.alloc (.cells #[.slice sa xs.length xs.length, .bool true] 26)).alloc (.cells #[.slice sb ys.length ys.length, .bool false] 26)).alloc (.cells #[.slice none 0 0, .bool false] 26)) = w0 at *
   obtain ⟨ca0, ca1, fa0, fa1⟩ := c_ hba
   obtain ⟨cb0, cb1, fb0, fb1⟩ := c_ hbb
   go_region_held3 (fun w' => w'.cell? ⟨w.heap.size, 0, none⟩ = some (.slice sa xs.length xs.length) ∧ w'.cell? ⟨w.heap.size, 1, none⟩ = some (.bool true) ∧ w'.cell? ⟨w.heap.size + 1, 0, none⟩ = some (.slice sb ys.length ys.length) ∧ w'.cell? ⟨w.heap.size + 1, 1, none⟩ = some (.bool false))
    (first | assumption | exact ⟨ca0, ca1, cb0, cb1⟩ | exact HS3 | go_keep)
    (first
      | (go_at_call 110; (with_reducible refine (fz_ w0.drew _ _ x.natAbs y.natAbs K (na.kept (k_ (h_ _ _))) (nn.kept (k_ (h_ _ _))) (by omega) Hla.out Hlb.out).mono ?_); rintro e w1 ⟨v1, rfl, n1, g1⟩; have hG1 := o_ w0 g1 rfl rfl rfl rfl; have hS1 := n_ (hG1.cell ca0 (by simp)) (n_ (hG1.cell ca1 (by simp)) (n_ (hG1.cell cb0 (by simp)) (hG1.cell cb1 (by simp)))))
      | (go_at_call 105; (with_reducible refine (HSG.out w1 _ n1).mono ?_); rintro e w2 ⟨v2, rfl, ⟨s2, x2, fl2, rfl, h2, vv2, hb2⟩, g2⟩; have hG2 := d_ hG1 g2; have hS2 := n_ (hG2.cell ca0 (by simp)) (n_ (hG2.cell ca1 (by simp)) (n_ (hG2.cell cb0 (by simp)) (hG2.cell cb1 (by simp)))); have hr2 := a_ hG2 hr; (obtain ⟨d0, d1, k0, k1⟩ := c_ hr2); have qa := c_ (e_ (a_ hG2 hba) (show w.heap.size ≠ w.heap.size + 1 + 1 by omega) (.slice s2 x2.length x2.length) (.bool fl2)); have qb := c_ (e_ (a_ hG2 hbb) (show w.heap.size + 1 ≠ w.heap.size + 1 + 1 by omega) (.slice s2 x2.length x2.length) (.bool fl2)); have HS3 := n_ qa.1 (n_ qa.2.1 (n_ qb.1 qb.2.1))))
   have hgw := d_ hgw0 hG2
   clear n1 g1 g2 na nn
   have hb9 := hr2
   obtain ⟨c90, c91, f90, f91⟩ := c_ hb9
   obtain ⟨q90, q91, r90, r91⟩ := c_ (m_ hb9 (.slice s2 x2.length x2.length) (.bool fl2))
   have hF : Hid (x_ w (x * y) (.returned (.agg #[.slice s2 x2.length x2.length, .bool fl2])) ((w2.setCell ⟨w.heap.size + 1 + 1, 0, none⟩ (.slice s2 x2.length x2.length)).setCell ⟨w.heap.size + 1 + 1, 1, none⟩ (.bool fl2))) := ap_ hgw hb9 (by omega) h2 vv2 hb2
   clear h2 vv2 hb2
   go_wp2_with fail
   exact bodyPost_ret (v := .agg #[.slice s2 x2.length x2.length, .bool fl2]) (by simp [results, Tryz.results75, go_sem, q90, q91]) rfl hF.out
 · skip
   have HSG : Hid (∀ W v, NatV W v (x.natAbs * y.natAbs) → Calls Tryz.prog 105 #[v, .bool false] W (x_ W (x * y))) := fun W v hn => by
    have q := J_ W v _ (K + K) false hn (by omega) (lK_ Hla.out Hlb.out)
    rw [show (if false = true then -((x.natAbs * y.natAbs : Nat) : Int) else ((x.natAbs * y.natAbs : Nat) : Int)) = x * y from HE.out] at q
    exact q
   go_enter Tryz.func75, Tryz.ntmps75
   go_wp2_with fail
   generalize (((w.alloc (.cells #[.slice sa xs.length xs.length, .bool true] 26)).alloc (.cells #[.slice sb ys.length ys.length, .bool true] 26)).alloc (.cells #[.slice none 0 0, .bool false] 26)) = w0 at *
   obtain ⟨ca0, ca1, fa0, fa1⟩ := c_ hba
   obtain ⟨cb0, cb1, fb0, fb1⟩ := c_ hbb
   go_region_held3 (fun w' => w'.cell? ⟨w.heap.size, 0, none⟩ = some (.slice sa xs.length xs.length) ∧ w'.cell? ⟨w.heap.size, 1, none⟩ = some (.bool true) ∧ w'.cell? ⟨w.heap.size + 1, 0, none⟩ = some (.slice sb ys.length ys.length) ∧ w'.cell? ⟨w.heap.size + 1, 1, none⟩ = some (.bool true))
    (first | assumption | exact ⟨ca0, ca1, cb0, cb1⟩ | exact HS3 | go_keep)
    (first
      | (go_at_call 110; (with_reducible refine (fz_ w0.drew _ _ x.natAbs y.natAbs K (na.kept (k_ (h_ _ _))) (nn.kept (k_ (h_ _ _))) (by omega) Hla.out Hlb.out).mono ?_); rintro e w1 ⟨v1, rfl, n1, g1⟩; have hG1 := o_ w0 g1 rfl rfl rfl rfl; have hS1 := n_ (hG1.cell ca0 (by simp)) (n_ (hG1.cell ca1 (by simp)) (n_ (hG1.cell cb0 (by simp)) (hG1.cell cb1 (by simp)))))
      | (go_at_call 105; (with_reducible refine (HSG.out w1 _ n1).mono ?_); rintro e w2 ⟨v2, rfl, ⟨s2, x2, fl2, rfl, h2, vv2, hb2⟩, g2⟩; have hG2 := d_ hG1 g2; have hS2 := n_ (hG2.cell ca0 (by simp)) (n_ (hG2.cell ca1 (by simp)) (n_ (hG2.cell cb0 (by simp)) (hG2.cell cb1 (by simp)))); have hr2 := a_ hG2 hr; (obtain ⟨d0, d1, k0, k1⟩ := c_ hr2); have qa := c_ (e_ (a_ hG2 hba) (show w.heap.size ≠ w.heap.size + 1 + 1 by omega) (.slice s2 x2.length x2.length) (.bool fl2)); have qb := c_ (e_ (a_ hG2 hbb) (show w.heap.size + 1 ≠ w.heap.size + 1 + 1 by omega) (.slice s2 x2.length x2.length) (.bool fl2)); have HS3 := n_ qa.1 (n_ qa.2.1 (n_ qb.1 qb.2.1))))
   have hgw := d_ hgw0 hG2
   clear n1 g1 g2 na nn
   have hb9 := hr2
   obtain ⟨c90, c91, f90, f91⟩ := c_ hb9
   obtain ⟨q90, q91, r90, r91⟩ := c_ (m_ hb9 (.slice s2 x2.length x2.length) (.bool fl2))
   have hF : Hid (x_ w (x * y) (.returned (.agg #[.slice s2 x2.length x2.length, .bool fl2])) ((w2.setCell ⟨w.heap.size + 1 + 1, 0, none⟩ (.slice s2 x2.length x2.length)).setCell ⟨w.heap.size + 1 + 1, 1, none⟩ (.bool fl2))) := ap_ hgw hb9 (by omega) h2 vv2 hb2
   clear h2 vv2 hb2
   go_wp2_with fail
   exact bodyPost_ret (v := .agg #[.slice s2 x2.length x2.length, .bool fl2]) (by simp [results, Tryz.results75, go_sem, q90, q91]) rfl hF.out
theorem cb_ {x y : Int} {K L : Nat} (hx : x.natAbs < B ^ K) (hy : y.natAbs < B ^ L) : (x * y).natAbs < B ^ (K + L) := by
 rw [Int.natAbs_mul, Nat.pow_add]
 exact Nat.mul_lt_mul'' hx hy
theorem hx_ {a b : Rat} (ha : a.den = 1) (hb : b.den = 1) : bt_ a.num b.num = bT_ a b := by
 unfold bT_; rw [ha, hb]; simp
set_option maxHeartbeats 8000000 in
theorem D_ (w : World) (va vb : Value) (r t : Rat) (K : Nat) (Ha : RatV w va r) (Hb : RatV w vb t) (hK : K ≤ 400000) (ln : r.num.natAbs < B ^ K) (ld : r.den < B ^ K) (mn : t.num.natAbs < B ^ K) (md : t.den < B ^ K) :
    Calls Tryz.prog 28 #[va, vb] w (fun e w' => e = .returned (.int .i64 (bT_ r t)) ∧ w.grownBy w' none) := by
 have Hln := H_ ln
 have Hld := H_ ld
 have Hmn := H_ mn
 have Hmd := H_ md
 clear ln ld mn md
 have hg : (decide (r.den = 1) = true ∧ decide (t.den = 1) = true) ∨ (decide (r.den = 1) = true ∧ decide (t.den = 1) = false) ∨ decide (r.den = 1) = false := by
  by_cases h1 : r.den = 1
  · by_cases h2 : t.den = 1
    · left; exact ⟨decide_eq_true h1, decide_eq_true h2⟩
    · right; left; exact ⟨decide_eq_true h1, decide_eq_false h2⟩
  · right; right; exact decide_eq_false h1
 obtain ⟨o1, ho1⟩ : ∃ o, decide (r.den = 1) = o := ⟨_, rfl⟩
 obtain ⟨o2, ho2⟩ : ∃ o, decide (t.den = 1) = o := ⟨_, rfl⟩
 rw [ho1, ho2] at hg
 have HO1 := H_ ho1
 have HO2 := H_ ho2
 clear ho1 ho2
 rcases hg with ⟨rfl, rfl⟩ | ⟨rfl, rfl⟩ | rfl
 · skip
   rw [← hx_ (of_decide_eq_true HO1.out) (of_decide_eq_true HO2.out)]
   obtain ⟨sa, xa, ba, sa', xa', ba', rfl, ha, ha'⟩ := Ha
   obtain ⟨sb, xb, bb, sb', xb', bb', rfl, hb, hb'⟩ := Hb
   obtain ⟨hG, Ba, Bb⟩ := en2_ w (.cells #[.slice sa xa.length xa.length, .bool ba, .slice sa' xa'.length xa'.length, .bool ba'] 28) (.cells #[.slice sb xb.length xb.length, .bool bb, .slice sb' xb'.length xb'.length, .bool bb'] 28)
   have oa : RatV w (.agg #[.slice sa xa.length xa.length, .bool ba, .slice sa' xa'.length xa'.length, .bool ba']) (r) := ⟨sa, xa, ba, sa', xa', ba', rfl, ha, ha'⟩
   have qa := oa.kept hG
   have ia := (show IntV w (.agg #[.slice sa xa.length xa.length, .bool ba]) (r).num from ha).kept hG
   have ia' := (show IntV w (.agg #[.slice sa' xa'.length xa'.length, .bool ba']) (dn (r)) from ha').kept hG
   have ob : RatV w (.agg #[.slice sb xb.length xb.length, .bool bb, .slice sb' xb'.length xb'.length, .bool bb']) (t) := ⟨sb, xb, bb, sb', xb', bb', rfl, hb, hb'⟩
   have qb := ob.kept hG
   have ib := (show IntV w (.agg #[.slice sb xb.length xb.length, .bool bb]) (t).num from hb).kept hG
   have ib' := (show IntV w (.agg #[.slice sb' xb'.length xb'.length, .bool bb']) (dn (t)) from hb').kept hG
   clear ha ha'
   clear hb hb'
   go_enter Tryz.func28, Tryz.ntmps28
   obtain ⟨Ca0, Ca1, Ca2, Ca3, Fa0, Fa1, Fa2, Fa3⟩ := b_ Ba
   obtain ⟨Cb0, Cb1, Cb2, Cb3, Fb0, Fb1, Fb2, Fb3⟩ := b_ Bb
   go_wp2_with fail
   generalize ((w.alloc (.cells #[.slice sa xa.length xa.length, .bool ba, .slice sa' xa'.length xa'.length, .bool ba'] 28)).alloc (.cells #[.slice sb xb.length xb.length, .bool bb, .slice sb' xb'.length xb'.length, .bool bb'] 28)) = w0 at *
   clear Ca0 Fa0 Ca1 Fa1 Ca2 Fa2 Ca3 Fa3 Cb0 Fb0 Cb1 Fb1 Cb2 Fb2 Cb3 Fb3
   refine (B_ w0 _ r K qa (by omega) Hld.out).mono ?_
   rintro e c0w1 ⟨rfl, gc0w1⟩
   rw [HO1.out]
   replace Ba := a_ gc0w1 Ba
   replace Bb := a_ gc0w1 Bb
   replace ia := ia.kept gc0w1
   replace qb := qb.kept gc0w1
   replace ib := ib.kept gc0w1
   replace hG := d_ hG gc0w1
   clear gc0w1
   obtain ⟨Ca0, Ca1, Ca2, Ca3, Fa0, Fa1, Fa2, Fa3⟩ := b_ Ba
   obtain ⟨Cb0, Cb1, Cb2, Cb3, Fb0, Fb1, Fb2, Fb3⟩ := b_ Bb
   go_wp2_with fail
   clear Ca0 Fa0 Ca1 Fa1 Ca2 Fa2 Ca3 Fa3 Cb0 Fb0 Cb1 Fb1 Cb2 Fb2 Cb3 Fb3
   refine (B_ c0w1 _ t K qb (by omega) Hmd.out).mono ?_
   rintro e c0w2 ⟨rfl, gc0w2⟩
   rw [HO2.out]
   replace Ba := a_ gc0w2 Ba
   replace Bb := a_ gc0w2 Bb
   replace ia := ia.kept gc0w2
   replace ib := ib.kept gc0w2
   replace hG := d_ hG gc0w2
   clear gc0w2
   obtain ⟨Ca0, Ca1, Ca2, Ca3, Fa0, Fa1, Fa2, Fa3⟩ := b_ Ba
   obtain ⟨Cb0, Cb1, Cb2, Cb3, Fb0, Fb1, Fb2, Fb3⟩ := b_ Bb
   go_wp2_with fail
   clear Ca0 Fa0 Ca1 Fa1 Ca2 Fa2 Ca3 Fa3 Cb0 Fb0 Cb1 Fb1 Cb2 Fb2 Cb3 Fb3
   refine (bw_ c0w2 _ _ r.num t.num K ia ib (by omega) Hln.out Hmn.out).mono ?_
   rintro e c0w3 ⟨rfl, gc0w3⟩
   replace Ba := a_ gc0w3 Ba
   replace Bb := a_ gc0w3 Bb
   replace hG := d_ hG gc0w3
   clear gc0w3
   obtain ⟨Ca0, Ca1, Ca2, Ca3, Fa0, Fa1, Fa2, Fa3⟩ := b_ Ba
   obtain ⟨Cb0, Cb1, Cb2, Cb3, Fb0, Fb1, Fb2, Fb3⟩ := b_ Bb
   go_wp2_with fail
   go_ret
   exact ⟨rfl, hG⟩
 · skip
   obtain ⟨sa, xa, ba, sa', xa', ba', rfl, ha, ha'⟩ := Ha
   obtain ⟨sb, xb, bb, sb', xb', bb', rfl, hb, hb'⟩ := Hb
   obtain ⟨hG, Ba, Bb⟩ := en2_ w (.cells #[.slice sa xa.length xa.length, .bool ba, .slice sa' xa'.length xa'.length, .bool ba'] 28) (.cells #[.slice sb xb.length xb.length, .bool bb, .slice sb' xb'.length xb'.length, .bool bb'] 28)
   have oa : RatV w (.agg #[.slice sa xa.length xa.length, .bool ba, .slice sa' xa'.length xa'.length, .bool ba']) (r) := ⟨sa, xa, ba, sa', xa', ba', rfl, ha, ha'⟩
   have qa := oa.kept hG
   have ia := (show IntV w (.agg #[.slice sa xa.length xa.length, .bool ba]) (r).num from ha).kept hG
   have ia' := (show IntV w (.agg #[.slice sa' xa'.length xa'.length, .bool ba']) (dn (r)) from ha').kept hG
   have ob : RatV w (.agg #[.slice sb xb.length xb.length, .bool bb, .slice sb' xb'.length xb'.length, .bool bb']) (t) := ⟨sb, xb, bb, sb', xb', bb', rfl, hb, hb'⟩
   have qb := ob.kept hG
   have ib := (show IntV w (.agg #[.slice sb xb.length xb.length, .bool bb]) (t).num from hb).kept hG
   have ib' := (show IntV w (.agg #[.slice sb' xb'.length xb'.length, .bool bb']) (dn (t)) from hb').kept hG
   clear ha ha'
   clear hb hb'
   go_enter Tryz.func28, Tryz.ntmps28
   obtain ⟨Ca0, Ca1, Ca2, Ca3, Fa0, Fa1, Fa2, Fa3⟩ := b_ Ba
   obtain ⟨Cb0, Cb1, Cb2, Cb3, Fb0, Fb1, Fb2, Fb3⟩ := b_ Bb
   go_wp2_with fail
   generalize ((w.alloc (.cells #[.slice sa xa.length xa.length, .bool ba, .slice sa' xa'.length xa'.length, .bool ba'] 28)).alloc (.cells #[.slice sb xb.length xb.length, .bool bb, .slice sb' xb'.length xb'.length, .bool bb'] 28)) = w0 at *
   clear Ca0 Fa0 Ca1 Fa1 Ca2 Fa2 Ca3 Fa3 Cb0 Fb0 Cb1 Fb1 Cb2 Fb2 Cb3 Fb3
   refine (B_ w0 _ r K qa (by omega) Hld.out).mono ?_
   rintro e c1w1 ⟨rfl, gc1w1⟩
   rw [HO1.out]
   replace Ba := a_ gc1w1 Ba
   replace Bb := a_ gc1w1 Bb
   replace qa := qa.kept gc1w1
   replace ia := ia.kept gc1w1
   replace qb := qb.kept gc1w1
   replace ib := ib.kept gc1w1
   replace hG := d_ hG gc1w1
   clear gc1w1
   obtain ⟨Ca0, Ca1, Ca2, Ca3, Fa0, Fa1, Fa2, Fa3⟩ := b_ Ba
   obtain ⟨Cb0, Cb1, Cb2, Cb3, Fb0, Fb1, Fb2, Fb3⟩ := b_ Bb
   go_wp2_with fail
   clear Ca0 Fa0 Ca1 Fa1 Ca2 Fa2 Ca3 Fa3 Cb0 Fb0 Cb1 Fb1 Cb2 Fb2 Cb3 Fb3
   refine (B_ c1w1 _ t K qb (by omega) Hmd.out).mono ?_
   rintro e c1w2 ⟨rfl, gc1w2⟩
   rw [HO2.out]
   replace Ba := a_ gc1w2 Ba
   replace Bb := a_ gc1w2 Bb
   replace qa := qa.kept gc1w2
   replace ia := ia.kept gc1w2
   replace qb := qb.kept gc1w2
   replace ib := ib.kept gc1w2
   replace hG := d_ hG gc1w2
   clear gc1w2
   obtain ⟨Ca0, Ca1, Ca2, Ca3, Fa0, Fa1, Fa2, Fa3⟩ := b_ Ba
   obtain ⟨Cb0, Cb1, Cb2, Cb3, Fb0, Fb1, Fb2, Fb3⟩ := b_ Bb
   go_wp2_with fail
   have HRD : Hid ((r.den : Int).natAbs < B ^ K) := by show _ < _; rw [Int.natAbs_natCast]; exact Hld.out
   have HTD : Hid ((t.den : Int).natAbs < B ^ K) := by show _ < _; rw [Int.natAbs_natCast]; exact Hmd.out
   go_region_held3 (fun w' => w'.cell? ⟨w.heap.size, 0, none⟩ = some (.slice sa xa.length xa.length) ∧ w'.cell? ⟨w.heap.size, 1, none⟩ = some (.bool ba) ∧ w'.cell? ⟨w.heap.size, 2, none⟩ = some (.slice sa' xa'.length xa'.length) ∧ w'.cell? ⟨w.heap.size, 3, none⟩ = some (.bool ba') ∧ w'.cell? ⟨w.heap.size + 1, 0, none⟩ = some (.slice sb xb.length xb.length) ∧ w'.cell? ⟨w.heap.size + 1, 1, none⟩ = some (.bool bb) ∧ w'.cell? ⟨w.heap.size + 1, 2, none⟩ = some (.slice sb' xb'.length xb'.length) ∧ w'.cell? ⟨w.heap.size + 1, 3, none⟩ = some (.bool bb'))
    (first | assumption | exact ⟨Ca0, Ca1, Ca2, Ca3, Cb0, Cb1, Cb2, Cb3⟩ | go_keep)
    (first
      | (go_at_call 66; (with_reducible refine (u_ c1w2.drew _ t K (qb.kept (k_ (h_ _ _))) (by omega) Hmd.out).mono ?_); rintro e c1w3_1 ⟨v1, rfl, n1, gc1w3_1⟩; have hGc1w3_1 := o_ c1w2 gc1w3_1 rfl rfl rfl rfl; have hSc1w3_1 := (n_ (hGc1w3_1.cell Ca0 (by simp)) (n_ (hGc1w3_1.cell Ca1 (by simp)) (n_ (hGc1w3_1.cell Ca2 (by simp)) (n_ (hGc1w3_1.cell Ca3 (by simp)) (n_ (hGc1w3_1.cell Cb0 (by simp)) (n_ (hGc1w3_1.cell Cb1 (by simp)) (n_ (hGc1w3_1.cell Cb2 (by simp)) (hGc1w3_1.cell Cb3 (by simp))))))))); clear gc1w3_1)
      | (go_at_call 75; (with_reducible refine (Y_ c1w3_1 _ _ r.num (t.den : Int) K (ia.kept hGc1w3_1) n1 (by omega) Hln.out HTD.out).mono ?_); rintro e c1w3_2 ⟨v2, rfl, n2, gc1w3_2⟩; have hGc1w3_2 := d_ hGc1w3_1 gc1w3_2; replace n1 := n1.kept gc1w3_2; have hSc1w3_2 := (n_ (hGc1w3_2.cell Ca0 (by simp)) (n_ (hGc1w3_2.cell Ca1 (by simp)) (n_ (hGc1w3_2.cell Ca2 (by simp)) (n_ (hGc1w3_2.cell Ca3 (by simp)) (n_ (hGc1w3_2.cell Cb0 (by simp)) (n_ (hGc1w3_2.cell Cb1 (by simp)) (n_ (hGc1w3_2.cell Cb2 (by simp)) (hGc1w3_2.cell Cb3 (by simp))))))))); clear gc1w3_2)
      | (go_at_call 66; (with_reducible refine (u_ c1w3_2 _ r K (qa.kept hGc1w3_2) (by omega) Hld.out).mono ?_); rintro e c1w3_3 ⟨v3, rfl, n3, gc1w3_3⟩; have hGc1w3_3 := d_ hGc1w3_2 gc1w3_3; replace n1 := n1.kept gc1w3_3; replace n2 := n2.kept gc1w3_3; have hSc1w3_3 := (n_ (hGc1w3_3.cell Ca0 (by simp)) (n_ (hGc1w3_3.cell Ca1 (by simp)) (n_ (hGc1w3_3.cell Ca2 (by simp)) (n_ (hGc1w3_3.cell Ca3 (by simp)) (n_ (hGc1w3_3.cell Cb0 (by simp)) (n_ (hGc1w3_3.cell Cb1 (by simp)) (n_ (hGc1w3_3.cell Cb2 (by simp)) (hGc1w3_3.cell Cb3 (by simp))))))))); clear gc1w3_3)
      | (go_at_call 75; (with_reducible refine (Y_ c1w3_3 _ _ t.num (r.den : Int) K (ib.kept hGc1w3_3) n3 (by omega) Hmn.out HRD.out).mono ?_); rintro e c1w3_4 ⟨v4, rfl, n4, gc1w3_4⟩; have hGc1w3_4 := d_ hGc1w3_3 gc1w3_4; replace n1 := n1.kept gc1w3_4; replace n2 := n2.kept gc1w3_4; replace n3 := n3.kept gc1w3_4; have hSc1w3_4 := (n_ (hGc1w3_4.cell Ca0 (by simp)) (n_ (hGc1w3_4.cell Ca1 (by simp)) (n_ (hGc1w3_4.cell Ca2 (by simp)) (n_ (hGc1w3_4.cell Ca3 (by simp)) (n_ (hGc1w3_4.cell Cb0 (by simp)) (n_ (hGc1w3_4.cell Cb1 (by simp)) (n_ (hGc1w3_4.cell Cb2 (by simp)) (hGc1w3_4.cell Cb3 (by simp))))))))); clear gc1w3_4)
      | (go_at_call 48; (with_reducible refine (bw_ c1w3_4 _ _ (r.num * (t.den : Int)) (t.num * (r.den : Int)) (K + K) n2 n4 (by omega) (cb_ Hln.out HTD.out) (cb_ Hmn.out HRD.out)).mono ?_); rintro e c1w3_5 ⟨rfl, gc1w3_5⟩; have hGc1w3_5 := d_ hGc1w3_4 gc1w3_5; replace n1 := n1.kept gc1w3_5; replace n2 := n2.kept gc1w3_5; replace n3 := n3.kept gc1w3_5; replace n4 := n4.kept gc1w3_5; have hSc1w3_5 := (n_ (hGc1w3_5.cell Ca0 (by simp)) (n_ (hGc1w3_5.cell Ca1 (by simp)) (n_ (hGc1w3_5.cell Ca2 (by simp)) (n_ (hGc1w3_5.cell Ca3 (by simp)) (n_ (hGc1w3_5.cell Cb0 (by simp)) (n_ (hGc1w3_5.cell Cb1 (by simp)) (n_ (hGc1w3_5.cell Cb2 (by simp)) (hGc1w3_5.cell Cb3 (by simp))))))))); clear gc1w3_5))
   replace Ba := a_ hGc1w3_5 Ba
   replace Bb := a_ hGc1w3_5 Bb
   replace hG := d_ hG hGc1w3_5
   clear Ca0 Fa0 Ca1 Fa1 Ca2 Fa2 Ca3 Fa3 Cb0 Fb0 Cb1 Fb1 Cb2 Fb2 Cb3 Fb3
   obtain ⟨Ca0, Ca1, Ca2, Ca3, Fa0, Fa1, Fa2, Fa3⟩ := b_ Ba
   obtain ⟨Cb0, Cb1, Cb2, Cb3, Fb0, Fb1, Fb2, Fb3⟩ := b_ Bb
   go_wp2_with fail
   go_ret
   exact ⟨rfl, hG⟩
 · skip
   obtain ⟨sa, xa, ba, sa', xa', ba', rfl, ha, ha'⟩ := Ha
   obtain ⟨sb, xb, bb, sb', xb', bb', rfl, hb, hb'⟩ := Hb
   obtain ⟨hG, Ba, Bb⟩ := en2_ w (.cells #[.slice sa xa.length xa.length, .bool ba, .slice sa' xa'.length xa'.length, .bool ba'] 28) (.cells #[.slice sb xb.length xb.length, .bool bb, .slice sb' xb'.length xb'.length, .bool bb'] 28)
   have oa : RatV w (.agg #[.slice sa xa.length xa.length, .bool ba, .slice sa' xa'.length xa'.length, .bool ba']) (r) := ⟨sa, xa, ba, sa', xa', ba', rfl, ha, ha'⟩
   have qa := oa.kept hG
   have ia := (show IntV w (.agg #[.slice sa xa.length xa.length, .bool ba]) (r).num from ha).kept hG
   have ia' := (show IntV w (.agg #[.slice sa' xa'.length xa'.length, .bool ba']) (dn (r)) from ha').kept hG
   have ob : RatV w (.agg #[.slice sb xb.length xb.length, .bool bb, .slice sb' xb'.length xb'.length, .bool bb']) (t) := ⟨sb, xb, bb, sb', xb', bb', rfl, hb, hb'⟩
   have qb := ob.kept hG
   have ib := (show IntV w (.agg #[.slice sb xb.length xb.length, .bool bb]) (t).num from hb).kept hG
   have ib' := (show IntV w (.agg #[.slice sb' xb'.length xb'.length, .bool bb']) (dn (t)) from hb').kept hG
   clear ha ha'
   clear hb hb'
   go_enter Tryz.func28, Tryz.ntmps28
   obtain ⟨Ca0, Ca1, Ca2, Ca3, Fa0, Fa1, Fa2, Fa3⟩ := b_ Ba
   obtain ⟨Cb0, Cb1, Cb2, Cb3, Fb0, Fb1, Fb2, Fb3⟩ := b_ Bb
   go_wp2_with fail
   generalize ((w.alloc (.cells #[.slice sa xa.length xa.length, .bool ba, .slice sa' xa'.length xa'.length, .bool ba'] 28)).alloc (.cells #[.slice sb xb.length xb.length, .bool bb, .slice sb' xb'.length xb'.length, .bool bb'] 28)) = w0 at *
   clear Ca0 Fa0 Ca1 Fa1 Ca2 Fa2 Ca3 Fa3 Cb0 Fb0 Cb1 Fb1 Cb2 Fb2 Cb3 Fb3
   refine (B_ w0 _ r K qa (by omega) Hld.out).mono ?_
   rintro e c2w1 ⟨rfl, gc2w1⟩
   rw [HO1.out]
   replace Ba := a_ gc2w1 Ba
   replace Bb := a_ gc2w1 Bb
   replace qa := qa.kept gc2w1
   replace ia := ia.kept gc2w1
   replace qb := qb.kept gc2w1
   replace ib := ib.kept gc2w1
   replace hG := d_ hG gc2w1
   clear gc2w1
   obtain ⟨Ca0, Ca1, Ca2, Ca3, Fa0, Fa1, Fa2, Fa3⟩ := b_ Ba
   obtain ⟨Cb0, Cb1, Cb2, Cb3, Fb0, Fb1, Fb2, Fb3⟩ := b_ Bb
   go_wp2_with fail
   have HRD : Hid ((r.den : Int).natAbs < B ^ K) := by show _ < _; rw [Int.natAbs_natCast]; exact Hld.out
   have HTD : Hid ((t.den : Int).natAbs < B ^ K) := by show _ < _; rw [Int.natAbs_natCast]; exact Hmd.out
   go_region_held3 (fun w' => w'.cell? ⟨w.heap.size, 0, none⟩ = some (.slice sa xa.length xa.length) ∧ w'.cell? ⟨w.heap.size, 1, none⟩ = some (.bool ba) ∧ w'.cell? ⟨w.heap.size, 2, none⟩ = some (.slice sa' xa'.length xa'.length) ∧ w'.cell? ⟨w.heap.size, 3, none⟩ = some (.bool ba') ∧ w'.cell? ⟨w.heap.size + 1, 0, none⟩ = some (.slice sb xb.length xb.length) ∧ w'.cell? ⟨w.heap.size + 1, 1, none⟩ = some (.bool bb) ∧ w'.cell? ⟨w.heap.size + 1, 2, none⟩ = some (.slice sb' xb'.length xb'.length) ∧ w'.cell? ⟨w.heap.size + 1, 3, none⟩ = some (.bool bb'))
    (first | assumption | exact ⟨Ca0, Ca1, Ca2, Ca3, Cb0, Cb1, Cb2, Cb3⟩ | go_keep)
    (first
      | (go_at_call 66; (with_reducible refine (u_ c2w1.drew _ t K (qb.kept (k_ (h_ _ _))) (by omega) Hmd.out).mono ?_); rintro e c2w2_1 ⟨v1, rfl, n1, gc2w2_1⟩; have hGc2w2_1 := o_ c2w1 gc2w2_1 rfl rfl rfl rfl; have hSc2w2_1 := (n_ (hGc2w2_1.cell Ca0 (by simp)) (n_ (hGc2w2_1.cell Ca1 (by simp)) (n_ (hGc2w2_1.cell Ca2 (by simp)) (n_ (hGc2w2_1.cell Ca3 (by simp)) (n_ (hGc2w2_1.cell Cb0 (by simp)) (n_ (hGc2w2_1.cell Cb1 (by simp)) (n_ (hGc2w2_1.cell Cb2 (by simp)) (hGc2w2_1.cell Cb3 (by simp))))))))); clear gc2w2_1)
      | (go_at_call 75; (with_reducible refine (Y_ c2w2_1 _ _ r.num (t.den : Int) K (ia.kept hGc2w2_1) n1 (by omega) Hln.out HTD.out).mono ?_); rintro e c2w2_2 ⟨v2, rfl, n2, gc2w2_2⟩; have hGc2w2_2 := d_ hGc2w2_1 gc2w2_2; replace n1 := n1.kept gc2w2_2; have hSc2w2_2 := (n_ (hGc2w2_2.cell Ca0 (by simp)) (n_ (hGc2w2_2.cell Ca1 (by simp)) (n_ (hGc2w2_2.cell Ca2 (by simp)) (n_ (hGc2w2_2.cell Ca3 (by simp)) (n_ (hGc2w2_2.cell Cb0 (by simp)) (n_ (hGc2w2_2.cell Cb1 (by simp)) (n_ (hGc2w2_2.cell Cb2 (by simp)) (hGc2w2_2.cell Cb3 (by simp))))))))); clear gc2w2_2)
      | (go_at_call 66; (with_reducible refine (u_ c2w2_2 _ r K (qa.kept hGc2w2_2) (by omega) Hld.out).mono ?_); rintro e c2w2_3 ⟨v3, rfl, n3, gc2w2_3⟩; have hGc2w2_3 := d_ hGc2w2_2 gc2w2_3; replace n1 := n1.kept gc2w2_3; replace n2 := n2.kept gc2w2_3; have hSc2w2_3 := (n_ (hGc2w2_3.cell Ca0 (by simp)) (n_ (hGc2w2_3.cell Ca1 (by simp)) (n_ (hGc2w2_3.cell Ca2 (by simp)) (n_ (hGc2w2_3.cell Ca3 (by simp)) (n_ (hGc2w2_3.cell Cb0 (by simp)) (n_ (hGc2w2_3.cell Cb1 (by simp)) (n_ (hGc2w2_3.cell Cb2 (by simp)) (hGc2w2_3.cell Cb3 (by simp))))))))); clear gc2w2_3)
      | (go_at_call 75; (with_reducible refine (Y_ c2w2_3 _ _ t.num (r.den : Int) K (ib.kept hGc2w2_3) n3 (by omega) Hmn.out HRD.out).mono ?_); rintro e c2w2_4 ⟨v4, rfl, n4, gc2w2_4⟩; have hGc2w2_4 := d_ hGc2w2_3 gc2w2_4; replace n1 := n1.kept gc2w2_4; replace n2 := n2.kept gc2w2_4; replace n3 := n3.kept gc2w2_4; have hSc2w2_4 := (n_ (hGc2w2_4.cell Ca0 (by simp)) (n_ (hGc2w2_4.cell Ca1 (by simp)) (n_ (hGc2w2_4.cell Ca2 (by simp)) (n_ (hGc2w2_4.cell Ca3 (by simp)) (n_ (hGc2w2_4.cell Cb0 (by simp)) (n_ (hGc2w2_4.cell Cb1 (by simp)) (n_ (hGc2w2_4.cell Cb2 (by simp)) (hGc2w2_4.cell Cb3 (by simp))))))))); clear gc2w2_4)
      | (go_at_call 48; (with_reducible refine (bw_ c2w2_4 _ _ (r.num * (t.den : Int)) (t.num * (r.den : Int)) (K + K) n2 n4 (by omega) (cb_ Hln.out HTD.out) (cb_ Hmn.out HRD.out)).mono ?_); rintro e c2w2_5 ⟨rfl, gc2w2_5⟩; have hGc2w2_5 := d_ hGc2w2_4 gc2w2_5; replace n1 := n1.kept gc2w2_5; replace n2 := n2.kept gc2w2_5; replace n3 := n3.kept gc2w2_5; replace n4 := n4.kept gc2w2_5; have hSc2w2_5 := (n_ (hGc2w2_5.cell Ca0 (by simp)) (n_ (hGc2w2_5.cell Ca1 (by simp)) (n_ (hGc2w2_5.cell Ca2 (by simp)) (n_ (hGc2w2_5.cell Ca3 (by simp)) (n_ (hGc2w2_5.cell Cb0 (by simp)) (n_ (hGc2w2_5.cell Cb1 (by simp)) (n_ (hGc2w2_5.cell Cb2 (by simp)) (hGc2w2_5.cell Cb3 (by simp))))))))); clear gc2w2_5))
   replace Ba := a_ hGc2w2_5 Ba
   replace Bb := a_ hGc2w2_5 Bb
   replace hG := d_ hG hGc2w2_5
   clear Ca0 Fa0 Ca1 Fa1 Ca2 Fa2 Ca3 Fa3 Cb0 Fb0 Cb1 Fb1 Cb2 Fb2 Cb3 Fb3
   obtain ⟨Ca0, Ca1, Ca2, Ca3, Fa0, Fa1, Fa2, Fa3⟩ := b_ Ba
   obtain ⟨Cb0, Cb1, Cb2, Cb3, Fb0, Fb1, Fb2, Fb3⟩ := b_ Bb
   go_wp2_with fail
   go_ret
   exact ⟨rfl, hG⟩
end Go.Proofs.YtgbbdgioohaknaaGreatDoor
