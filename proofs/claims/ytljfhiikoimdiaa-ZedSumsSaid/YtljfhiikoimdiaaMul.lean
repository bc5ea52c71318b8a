/- Products: Mul64, addScaled, Mul, scaled. -/
import Derived.Test.YtljfhiikoimdiaaAdd
import Derived.Shelf.Bits.Mul64
namespace Go.Proofs.Ytljfhiikoimdiaa
open Go.RowKit Mat
set_option maxRecDepth 100000
set_option linter.unusedVariables false
set_option linter.unusedSimpArgs false

/-- The upper and the lower limb of a product. -/
def mulHi (x y : Nat) : Nat := x * y / B
def mulLo (x y : Nat) : Nat := x * y % B
theorem mulLo_lt (x y : Nat) : mulLo x y < B := Nat.mod_lt _ B_pos
theorem mul_eq (x y : Nat) : mulLo x y + B * mulHi x y = x * y := Nat.mod_add_div ..
theorem mulHi_lt {x y : Nat} (hx : x < B) (hy : y < B) : mulHi x y < B := by
  unfold mulHi
  rw [Nat.div_lt_iff_lt_mul B_pos]
  exact Nat.mul_lt_mul'' hx hy

set_option maxHeartbeats 1000000 in
theorem mul64_any (x y : Nat) (hx : x < B) (hy : y < B) (w : World) :
    Calls Try.prog 85 #[.int .u64 (x : Int), .int .u64 (y : Int)] w fun e w' => e = .returned (.tuple #[.int .u64 (mulHi x y : Int), .int .u64 (mulLo x y : Int)]) ∧ w = w' := by
  show Calls _ _ _ _ fun e w' => e = .returned (.tuple #[.int .u64 ((x * y / 18446744073709551616 : Nat) : Int), .int .u64 ((x * y % 18446744073709551616 : Nat) : Int)]) ∧ w = w'
  have hx : x < 18446744073709551616 := hx
  have hy : y < 18446744073709551616 := hy
  obtain ⟨bd, bt, bw, hhi⟩ := Lib.mul64_hi x y hx hy
  have ba := Lib.half_mul_le (a := x / 4294967296) (b := y / 4294967296) (by omega) (by omega)
  have bb := Lib.half_mul_le (a := x / 4294967296) (b := y % 4294967296) (by omega) (by omega)
  have bc := Lib.half_mul_le (a := x % 4294967296) (b := y / 4294967296) (by omega) (by omega)
  have ba' : x / 4294967296 * (y / 4294967296) < 18446744073709551616 := by omega
  have bb' : x / 4294967296 * (y % 4294967296) < 18446744073709551616 := by omega
  have bc' : x % 4294967296 * (y / 4294967296) < 18446744073709551616 := by omega
  have bh1 : x / 4294967296 * (y / 4294967296) + (x / 4294967296 * (y % 4294967296) + x % 4294967296 * (y % 4294967296) / 4294967296) / 4294967296 < 18446744073709551616 := by omega
  have bh : x / 4294967296 * (y / 4294967296) + (x / 4294967296 * (y % 4294967296) + x % 4294967296 * (y % 4294967296) / 4294967296) / 4294967296 + ((x / 4294967296 * (y % 4294967296) + x % 4294967296 * (y % 4294967296) / 4294967296) % 4294967296 + x % 4294967296 * (y / 4294967296)) / 4294967296 < 18446744073709551616 := by omega
  have Hhi := Lib.hid hhi
  clear hhi
  go_enter Try.func85, Try.ntmps85
  go_wp2
  simp only [Mul64.maskN x hx, Mul64.maskN y hy, Mul64.divN, Mul64.mulN, Mul64.addN, Mul64.wrapN _ bd, Mul64.wrapN _ bb', Mul64.wrapN _ bt, Mul64.maskN _ bt, Mul64.wrapN _ bc', Mul64.wrapN _ bw, Mul64.wrapN _ ba', Mul64.wrapN _ bh1, Mul64.wrapN _ bh, Mul64.wrapM (x * y)]
  rw [Hhi.out]
  go_ret2
  exact ⟨rfl, rfl⟩

/-- One step of a product by one limb, added. -/
theorem muladd_step (k v x y by' add s : Nat) (h : v + add * B ^ k = s) :
    v + B ^ k * addLo x (addLo (mulLo y by') add 0) 0 + (mulHi y by' + addHi (mulLo y by') add 0 + addHi x (addLo (mulLo y by') add 0) 0) * B ^ (k + 1) = s + B ^ k * x + B ^ k * (y * by') := by
  have e1 := mul_eq y by'
  have e2 : addLo (mulLo y by') add 0 + B * addHi (mulLo y by') add 0 = mulLo y by' + add + 0 := Nat.mod_add_div ..
  have e3 : addLo x (addLo (mulLo y by') add 0) 0 + B * addHi x (addLo (mulLo y by') add 0) 0 = x + addLo (mulLo y by') add 0 + 0 := Nat.mod_add_div ..
  generalize addLo x (addLo (mulLo y by') add 0) 0 = r3 at *
  generalize addHi x (addLo (mulLo y by') add 0) 0 = c3 at *
  generalize addLo (mulLo y by') add 0 = r2 at *
  generalize addHi (mulLo y by') add 0 = c2 at *
  generalize mulLo y by' = r1 at *
  generalize mulHi y by' = q1 at *
  rw [← e1, Nat.pow_succ]
  grind
theorem muladd_bd {x y by' add : Nat} (hx : x < B) (hy : y < B) (hb : by' < B) (ha : add < B) :
    mulHi y by' + addHi (mulLo y by') add 0 < B ∧ mulHi y by' + addHi (mulLo y by') add 0 + addHi x (addLo (mulLo y by') add 0) 0 < B := by
  have e1 := mul_eq y by'
  have e2 : addLo (mulLo y by') add 0 + B * addHi (mulLo y by') add 0 = mulLo y by' + add + 0 := Nat.mod_add_div ..
  have e3 : addLo x (addLo (mulLo y by') add 0) 0 + B * addHi x (addLo (mulLo y by') add 0) 0 = x + addLo (mulLo y by') add 0 + 0 := Nat.mod_add_div ..
  have h1 : y * by' ≤ (B - 1) * (B - 1) := Nat.mul_le_mul (by omega) (by omega)
  have h2 : (B - 1) * (B - 1) + (B - 1) + (B - 1) < B * B := by decide +kernel
  generalize addLo x (addLo (mulLo y by') add 0) 0 = r3 at *
  generalize addHi x (addLo (mulLo y by') add 0) 0 = c3 at *
  generalize addLo (mulLo y by') add 0 = r2 at *
  generalize addHi (mulLo y by') add 0 = c2 at *
  generalize mulLo y by' = r1 at *
  generalize mulHi y by' = q1 at *
  have h3 : B * (q1 + c2 + c3) < B * B := by
    have : B * (q1 + c2 + c3) = B * q1 + B * c2 + B * c3 := by rw [Nat.mul_add, Nat.mul_add]
    omega
  have h4 := Nat.lt_of_mul_lt_mul_left h3
  omega

/-- What addScaled leaves. -/
def AddedScaled (w : World) (b off : Nat) (xs ys : List Nat) (by' : Nat) (cs : Array Value) (e : Ending) (w' : World) : Prop :=
  ∃ (zs : List Nat) (cs' : Array Value), e = .returned (.tuple #[]) ∧ Blk w' b cs' ∧ Wrote cs cs' off zs ∧ w.grownBy w' (some b) ∧ zs.length = ys.length + 1 ∧ Dig B zs ∧ val B zs = val B (xs.take ys.length) + val B ys * by'

set_option maxHeartbeats 2000000 in
theorem addScaled_any (w : World) (b off n cap : Nat) (xs : List Nat) (cs : Array Value) (sa : Option Addr) (m cap2 : Nat) (ys : List Nat) (by' : Nat) (hn : xs.length = n) (hmm : ys.length = m)
    (hb : Blk w b cs) (hx : At cs off xs) (hs : Rd w sa ys b) (hl : n = m + 1) (hm : n ≤ 1099511627776) (dx : Dig B xs) (dy : Dig B ys) (hby : by' < B) :
    Calls Try.prog 79 #[.slice (some ⟨b, off, none⟩) n cap, .slice sa m cap2, .int .u64 (by' : Int)] w (AddedScaled w b off xs ys by' cs) := by
  subst hl
  have Hn := Lib.hid hn
  have Hm := Lib.hid hmm
  have hbyN : by' < 18446744073709551616 := hby
  clear hn hmm
  go_enter Try.func79, Try.ntmps79
  go_wp2_with fail
  go_loopw [6, 14] (fun c i wr => ∃ (k ad : Nat) (zs : List Nat), k ≤ m ∧ i = .int .i64 k ∧ c = .int .u64 ad ∧ ad < B ∧ Hid (zs.length = k) ∧ Dig B zs ∧ Blk wr b (Put cs off zs) ∧ w.grownBy wr (some b) ∧ Hid (val B zs + ad * B ^ k = val B (xs.take k) + val B (ys.take k) * by'))
    (fun _ i _ => m - (intOf i).toNat)
  case atStart => exact ⟨0, 0, [], Nat.zero_le _, rfl, rfl, B_pos, rfl, Dig.nil _, hb, grown_refl _ _, by show _ = _; simp [val]⟩
  case round =>
    obtain ⟨k, ad, zs, hk, rfl, rfl, hc, hzl, hzd, hbk, hg, hv⟩ := hrel
    by_cases hlt : k < m
    · obtain ⟨x, ex⟩ : ∃ x, xs[k]'(by rw [Hn.out]; omega) = x := ⟨_, rfl⟩
      obtain ⟨y, ey⟩ : ∃ y, ys[k]'(by rw [Hm.out]; omega) = y := ⟨_, rfl⟩
      have hxB : x < B := ex ▸ dx.get k _
      have hyB : y < B := ey ▸ dy.get k _
      obtain ⟨b2, off2, cs2, rfl, hne, h2, hy⟩ := hs.get k (by rw [Hm.out]; omega)
      have cx : wr.cell? ⟨b, off + k, none⟩ = some (.int .u64 (x : Int)) := by
        rw [hbk.cell, Put_out _ _ _ _ (by rw [hzl.out]; omega), hx k (by rw [Hn.out]; omega), ex]
      have cy : wr.cell? ⟨b2, off2 + k, none⟩ = some (.int .u64 (y : Int)) := by
        rw [(h2.kept hg (by simpa using hne)).cell, hy k (by rw [Hm.out]; omega), ey]
      have fx : wr.frozen? ⟨b, off + k, none⟩ = false := hbk.frozen _
      have EX := Lib.hid ex
      have EY := Lib.hid ey
      clear ex ey
      have ha1 : ∀ w, (callFunc 86 #[.int .u64 (mulLo y by' : Int), .int .u64 (ad : Int), .int .u64 0]).run Try.prog w = .ok (.value (.tuple #[.int .u64 (addLo (mulLo y by') ad 0 : Int), .int .u64 (addHi (mulLo y by') ad 0 : Int)])) w := fun w => add64 _ _ 0 (Nat.zero_le _) w
      have ha2 : ∀ w, (callFunc 86 #[.int .u64 (x : Int), .int .u64 (addLo (mulLo y by') ad 0 : Int), .int .u64 0]).run Try.prog w = .ok (.value (.tuple #[.int .u64 (addLo x (addLo (mulLo y by') ad 0) 0 : Int), .int .u64 (addHi x (addLo (mulLo y by') ad 0) 0 : Int)])) w := fun w => add64 _ _ 0 (Nat.zero_le _) w
      obtain ⟨b1, b2'⟩ := muladd_bd hxB hyB hby hc
      have b1 : mulHi y by' + addHi (mulLo y by') ad 0 < 18446744073709551616 := b1
      have b3 : mulHi y by' + addHi (mulLo y by') ad 0 + addHi x (addLo (mulLo y by') ad 0) 0 < 18446744073709551616 := b2'
      go_wp2_with (go_at_call 85; refine (mul64_any y by' hyB hby _).mono ?_; rintro e w' ⟨rfl, rfl⟩)
      clear ha1 ha2 cx cy fx
      go_roundw
      case rel =>
        refine ⟨k + 1, mulHi y by' + addHi (mulLo y by') ad 0 + addHi x (addLo (mulLo y by') ad 0) 0, zs ++ [addLo x (addLo (mulLo y by') ad 0) 0], by omega, by go_num, by go_num, b2', ?_, hzd.snoc (addLo_lt _ _ _), ?_, grown_set hg _ _, ?_⟩
        · show _ = _; rw [List.length_append, hzl.out]; rfl
        · rw [Put_snoc, hzl.out]; exact hbk.setCell _ _
        · show _ = _
          rw [val_snoc, hzl.out, muladd_step k _ x y by' ad _ hv.out, val_take_succ B xs k (by rw [Hn.out]; omega), val_take_succ B ys k (by rw [Hm.out]; omega), EX.out, EY.out, Nat.add_mul, Nat.mul_assoc]; omega
      case measure => simp [intOf]; omega
    · obtain rfl : k = m := by omega
      have cx : wr.cell? ⟨b, off + k, none⟩ = some (.int .u64 (xs[k]'(by rw [Hn.out]; omega) : Int)) := by
        rw [hbk.cell, Put_out _ _ _ _ (by rw [hzl.out]; omega), hx k (by rw [Hn.out]; omega)]
      have fx : wr.frozen? ⟨b, off + k, none⟩ = false := hbk.frozen _
      obtain ⟨xv, exv⟩ : ∃ xv, xs[k]'(by rw [Hn.out]; omega) = xv := ⟨_, rfl⟩
      rw [exv] at cx
      clear exv
      have hsz : off + (k + 1) ≤ cs.size := by
        rcases hx.le with h | h
        · exfalso; have := Hn.out; rw [h] at this; simp at this
        · rw [Hn.out] at h; omega
      have HF : Hid (AddedScaled w b off xs ys by' cs (.returned (.tuple #[])) (wr.setCell ⟨b, off + k, none⟩ (.int .u64 (ad : Int)))) := by
        have hb2 := hbk.setCell (off + k) (.int .u64 (ad : Int))
        have hp : (Put cs off zs).setIfInBounds (off + k) (.int .u64 (ad : Int)) = Put cs off (zs ++ [ad]) := by rw [Put_snoc, hzl.out]
        rw [hp] at hb2
        have hlen : (zs ++ [ad]).length = k + 1 := by rw [List.length_append, hzl.out]; rfl
        refine ⟨zs ++ [ad], _, rfl, hb2, ⟨size_Put _ _ _, fun j hj => Put_out _ _ _ _ hj, Put_in _ _ _ (by rw [hlen]; exact hsz)⟩, grown_set hg _ _, by rw [hlen, Hm.out], hzd.snoc hc, ?_⟩
        rw [val_snoc, hzl.out, Hm.out, Nat.mul_comm, hv.out, ← Hm.out, List.take_length, Hm.out]
      clear hbk hg hv hzl hzd
      go_wp2_with fail
      go_end0
      exact HF

theorem mul_step {us ys zs : List Nat} {i x V : Nat} (hi : i ≤ us.length) (hv : val B us = V * val B ys) (hz : val B zs = val B ((us.drop i ++ [0]).take ys.length) + val B ys * x) (hl : us.length = i + ys.length) :
    val B (us.take i ++ zs) = (V + B ^ i * x) * val B ys := by
  have e : (us.drop i ++ [0]).take ys.length = us.drop i := by
    rw [List.take_append_of_le_length (by rw [List.length_drop]; omega), List.take_of_length_le (by rw [List.length_drop]; omega)]
  rw [e] at hz
  have h1 := val_split B us i hi
  rw [val_append, List.length_take, Nat.min_eq_left hi, hz, Nat.mul_add, ← Nat.add_assoc, ← h1, hv, Nat.add_mul]
  congr 1
  rw [Nat.mul_assoc, Nat.mul_comm x]

theorem win_at {cs : Array Value} {us : List Nat} {k j : Nat} (h : At cs 0 (us ++ List.replicate (j + 1) 0)) (hk : k ≤ us.length) : At cs k (us.drop k ++ [0]) := by
  have h1 := h.drop k
  rw [Nat.zero_add, List.drop_append_of_le_length hk] at h1
  have h2 := h1.take ((us.drop k).length + 1)
  rw [List.take_length_add_append, List.take_replicate, Nat.min_eq_left (by omega)] at h2
  exact h2
theorem win_put {cs cs' : Array Value} {us zs : List Nat} {k j m : Nat} (h : At cs 0 (us ++ List.replicate (j + 1) 0)) (hu : us.length = k + m) (hz : zs.length = m + 1) (hw : Wrote cs cs' k zs) : At cs' 0 ((us.take k ++ zs) ++ List.replicate j 0) := by
  have hlk : (us.take k).length = k := by rw [List.length_take]; omega
  refine At.append (At.append ?_ ?_) ?_
  · intro i hi
    rw [hlk] at hi
    rw [hw.out _ (by omega), h i (by simp; omega), List.getElem_append_left (by omega), List.getElem_take]
  · rw [hlk, Nat.zero_add]; exact hw.lies
  · intro i hi
    rw [List.length_replicate] at hi
    rw [List.length_append, hlk, hz]
    rw [hw.out _ (by omega), List.getElem_replicate]
    have := h (k + (m + 1) + i) (by simp; omega)
    rw [Nat.zero_add] at this ⊢
    rw [this, List.getElem_append_right (by omega), List.getElem_replicate]

set_option maxHeartbeats 2000000 in
theorem Mul_core (w : World) (sa sb : Option Addr) (xs ys : List Nat) (hx : Lm w sa xs) (hy : Lm w sb ys) (n m : Nat) (hn : xs.length = n) (hm : ys.length = m) (bn : n ≤ 1073741824) (bm : m ≤ 1073741824) :
    Calls Try.prog 65 #[.agg #[.slice sa n n], .agg #[.slice sb m m]] w (RetFresh w (val B xs * val B ys)) := by
  have Hn := Lib.hid hn
  have Hm := Lib.hid hm
  clear hn hm
  obtain ⟨i0, hi, hz0, hz1, hz2⟩ := info_parts Try.infoU64
  have hgw0 : w.grownBy (((w.alloc (.cells #[.slice sa n n] 24)).alloc (.cells #[.slice sb m m] 24)).alloc (.cells #[.slice none 0 0] 24)) none := grown_alloc (grown_alloc (World.grownBy_alloc _ _ _) _) _
  have hbox0 := heap_new ((w.alloc (.cells #[.slice sa n n] 24)).alloc (.cells #[.slice sb m m] 24)) (.cells #[.slice none 0 0] 24) (w.heap.size + 1 + 1) (by simp)
  have hboxb0 := (Below.heap_alloc _ (.cells #[.slice none 0 0] 24) (w.heap.size + 1) (by simp)).trans (heap_new (w.alloc (.cells #[.slice sa n n] 24)) (.cells #[.slice sb m m] 24) (w.heap.size + 1) (by simp))
  have hboxa0 := (Below.heap_alloc _ (.cells #[.slice none 0 0] 24) (w.heap.size) (by simp; omega)).trans ((Below.heap_alloc _ (.cells #[.slice sb m m] 24) (w.heap.size) (by simp)).trans (heap_new w (.cells #[.slice sa n n] 24) (w.heap.size) rfl))
  have hs0 : (((w.alloc (.cells #[.slice sa n n] 24)).alloc (.cells #[.slice sb m m] 24)).alloc (.cells #[.slice none 0 0] 24)).heap.size = w.heap.size + 1 + 1 + 1 := by simp
  go_enter Try.func65, Try.ntmps65
  go_wp2_with (at_make; refine wpList_make_full _ rfl _ _ 22 rfl _ 71 i0 (.int .u64 0) 1 Try.underlying22 hi hz0 hz1 .i64 .i64 _ _ (n + m) rfl rfl (by omega) (by omega) (by rw [hz2]; omega) (by unfold maxLen; omega) (Nat.le_refl _) ?_; intro w1 hown hg1; obtain ⟨cs, hb1, hsz, hat⟩ := made_limbs hown; have HS := Lib.hid hsz; have HS0 := Lib.hid hs0; rw [hs0] at hb1; clear hsz hs0 hown; have hgw := grown_trans hgw0 hg1; have hbox1 := heap_kept hg1 hbox0; have hboxb1 := heap_kept hg1 hboxb0; have hboxa1 := heap_kept hg1 hboxa0; obtain ⟨hca, hfa⟩ := box_cell hboxa1; clear hg1 hgw0 hbox0 hboxb0 hboxa0)
  go_loopw [19] (fun i wr => ∃ (k : Nat) (us : List Nat) (cs2 : Array Value), k ≤ n ∧ i = .int .i64 k ∧ Hid (us.length = k + m) ∧ Dig B us ∧ Blk wr (w.heap.size + 1 + 1 + 1) cs2 ∧ At cs2 0 (us ++ List.replicate (n - k) 0) ∧ w1.grownBy wr (some (w.heap.size + 1 + 1 + 1)) ∧ Hid (val B us = val B (xs.take k) * val B ys))
    (fun i _ => n - (intOf i).toNat)
  case atStart => exact ⟨0, List.replicate m 0, cs, Nat.zero_le _, rfl, by show _ = _; simp, Dig.replicate B_pos _, hb1, by rw [Nat.sub_zero, List.replicate_append_replicate, Nat.add_comm m n]; exact hat, grown_refl _ _, by show _ = _; rw [val_replicate]; simp [val]⟩
  case round =>
    obtain ⟨k, us, cs2, hk, rfl, hul, hud, hbk, hat2, hg, hv⟩ := hrel
    have hcb := box_cell (heap_row hg hboxb1 (by omega))
    by_cases hlt : k < n
    · obtain ⟨x, ex⟩ : ∃ x, xs[k]'(by rw [Hn.out]; omega) = x := ⟨_, rfl⟩
      have hxB : x < B := ex ▸ hx.dig.get k _
      obtain ⟨b2, off2, cs3, rfl, h2, hax⟩ := hx.rd.get k (by rw [Hn.out]; omega)
      have cx : wr.cell? ⟨b2, off2 + k, none⟩ = some (.int .u64 (x : Int)) := by
        rw [((h2.kept hgw (by simp)).kept hg (by have := h2.lt; simp; omega)).cell, hax k (by rw [Hn.out]; omega), ex]
      have EX := Lib.hid ex
      clear ex
      obtain ⟨hcb, hfb⟩ := hcb
      go_wp2_with fail
      have e1 : IntKind.i64.wrap ((k : Int) + (m : Int)) = (k : Int) + (m : Int) := IntWalk.i64_in _ (by omega)
      have e2 : IntKind.i64.wrap ((k : Int) + (m : Int) + 1) = (k : Int) + (m : Int) + 1 := IntWalk.i64_in _ (by omega)
      have f1 : (k : Int) ≤ (k : Int) + (m : Int) + 1 := by omega
      have f2 : (k : Int) + (m : Int) + 1 ≤ (n : Int) + (m : Int) := by omega
      have f3 : ((k : Int) + (m : Int) + 1).toNat = k + m + 1 := by omega
      have f4 : (0 : Int) ≤ (k : Int) := by omega
      have f5 : k ≠ n + m := by omega
      go_still_tail 12, (by kernel_rfl)
      change wpList _ _ _ _ _ wr.drew
      clear e1 e2 f1 f2 f3 f4 f5
      go_wp2_with fail
      have hr : n - k = (n - k - 1) + 1 := by omega
      rw [hr] at hat2
      refine (addScaled_any _ _ k _ _ (us.drop k ++ [0]) cs2 sb m _ ys x (by rw [List.length_append, List.length_drop, hul.out]; simp; omega) Hm.out hbk.drew (win_at hat2 (by rw [hul.out]; omega)) (((hy.rd.beside (g := w.heap.size + 1 + 1 + 1) (by omega)).kept_none hgw).kept (grown_drew hg)) (by omega) (by omega) ((hud.drop k).snoc B_pos) hy.dig hxB).mono ?_
      rintro e w2 ⟨zs, cs4, rfl, hb4, hw4, hg4, hl4, hd4, hv4⟩
      rw [Hm.out] at hl4
      have HZ := Lib.hid hv4
      have HL := Lib.hid hl4
      have hat4 := win_put hat2 hul.out hl4 hw4
      clear hv4 hl4 hr cx hcb hfb
      go_wp2_with fail
      go_roundw
      case rel =>
        refine ⟨k + 1, us.take k ++ zs, cs4, by omega, by go_num, ?_, (hud.take k).append hd4, hb4, by rw [show n - (k + 1) = n - k - 1 from by omega]; exact hat4, grown_trans (grown_drew hg) hg4, ?_⟩
        · show _ = _; rw [List.length_append, HL.out, List.length_take, hul.out]; omega
        · show _ = _
          rw [mul_step (by rw [hul.out]; omega) hv.out HZ.out (by rw [hul.out, Hm.out]), val_take_succ B xs k (by rw [Hn.out]; omega), EX.out]
      case measure => simp [intOf]; omega
    · obtain rfl : k = n := by omega
      have hbox2 := heap_row hg hbox1 (by omega)
      have hgw2 := grown_new hgw hg (by omega)
      rw [Nat.sub_self, List.replicate_zero, List.append_nil] at hat2
      have HV : Hid (val B us = val B xs * val B ys) := by show _ = _; rw [hv.out, ← Hn.out, List.take_length]
      clear hbox1 hboxb1 hboxa1 hb1 hat hca hfa hcb hv hg hgw
      go_wp2_with fail
      refine (own_own_at _ _ (k + m) _ us hul.out (Rdo.of hbk hat2) (by omega) (Nat.le_refl _) hud).mono ?_
      rintro e w4 ⟨sc, zs, rfl, hl4, hv4, hfr, hg4⟩
      have hbox4 := heap_kept hg4 hbox2
      obtain ⟨hc4, hf4⟩ := box_cell hbox4
      have hF := Lib.hid (ret_setF (grown_trans hgw2 hg4) hbox4 (by decide) (by omega) hl4 (hv4.trans HV.out) (fresh_of hfr (by omega)) (.slice sc zs.length zs.length))
      clear hfr hv4 hbox4 hbox2 hg4 hgw2
      go_wp2_with fail
      exact bodyPost_ret (v := .agg #[.slice sc zs.length zs.length]) (by simp [results, Try.results65, go_sem, hc4]) rfl hF.out

theorem Mul_fresh (w : World) (va vb : Value) (a b K : Nat) (ha : NatV w va a) (hb : NatV w vb b) (hK : K ≤ 1073741824) (la : a < B ^ K) (lb : b < B ^ K) :
    Calls Try.prog 65 #[va, vb] w (RetFresh w (a * b)) := by
  obtain ⟨sa, xs, rfl, hx, rfl⟩ := ha
  obtain ⟨sb, ys, rfl, hy, rfl⟩ := hb
  have h1 := hx.len la
  have h2 := hy.len lb
  exact Mul_core w sa sb xs ys hx hy _ _ rfl rfl (by omega) (by omega)

theorem Mul_any (w : World) (va vb : Value) (a b K : Nat) (ha : NatV w va a) (hb : NatV w vb b) (hK : K ≤ 1073741824) (la : a < B ^ K) (lb : b < B ^ K) :
    Calls Try.prog 65 #[va, vb] w (RetNat w (a * b)) :=
  (Mul_fresh w va vb a b K ha hb hK la lb).mono fun _ _ h => h.nat
end Go.Proofs.Ytljfhiikoimdiaa
