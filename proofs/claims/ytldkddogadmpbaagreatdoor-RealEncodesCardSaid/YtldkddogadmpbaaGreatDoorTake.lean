/- A product by one limb, taken away: takeScaled. -/
import Derived.Test.YtldkddogadmpbaaGreatDoorDiv64
namespace Go.Proofs.YtldkddogadmpbaaGreatDoor
open Go.RowKit Mat
set_option maxRecDepth 100000
set_option linter.unusedVariables false
set_option linter.unusedSimpArgs false

theorem sub_eq {x y c : Nat} (hx : x < B) (hy : y < B) (hc : c ≤ 1) : subLo x y c + y + c = x + subHi x y c * B := by
  unfold subLo subHi
  split
  · rw [Nat.mod_eq_of_lt (by omega)]; omega
  · have : x + B - y - c = (x - y - c) + B := by omega
    rw [this, Nat.add_mod_right, Nat.mod_eq_of_lt (by omega)]; omega
theorem taken_step (k v x y by' ad br s t : Nat) (hx : x < B) (hbr : br ≤ 1) (h : v + t = s + (br + ad) * B ^ k) :
    v + B ^ k * subLo x (addLo (mulLo y by') ad 0) br + (t + B ^ k * (y * by')) = s + B ^ k * x + (subHi x (addLo (mulLo y by') ad 0) br + (mulHi y by' + addHi (mulLo y by') ad 0)) * B ^ (k + 1) := by
  have e1 := mul_eq y by'
  have e2 : addLo (mulLo y by') ad 0 + B * addHi (mulLo y by') ad 0 = mulLo y by' + ad + 0 := Nat.mod_add_div ..
  have e3 := sub_eq (y := addLo (mulLo y by') ad 0) hx (addLo_lt _ _ _) hbr
  generalize subLo x (addLo (mulLo y by') ad 0) br = z at *
  generalize subHi x (addLo (mulLo y by') ad 0) br = b2 at *
  generalize addLo (mulLo y by') ad 0 = r2 at *
  generalize addHi (mulLo y by') ad 0 = c2 at *
  generalize mulLo y by' = r1 at *
  generalize mulHi y by' = q1 at *
  rw [← e1, Nat.pow_succ]
  generalize B ^ k = T at *
  have e4 : T * z + T * r2 + T * br = T * x + T * (b2 * B) := by rw [← Nat.mul_add, ← Nat.mul_add, e3, Nat.mul_add]
  grind

/-- What takeScaled leaves. -/
def TookScaled (w : World) (b off : Nat) (xs ys : List Nat) (by' : Nat) (cs : Array Value) (e : Ending) (w' : World) : Prop :=
  ∃ (br : Nat) (zs : List Nat) (cs' : Array Value), e = .returned (.int .u64 (br : Int)) ∧ Blk w' b cs' ∧ Wrote cs cs' off zs ∧ w.grownBy w' (some b) ∧ zs.length = ys.length + 1 ∧ Dig B zs ∧ br ≤ 1 ∧ val B zs + val B ys * by' = val B xs + br * B ^ (ys.length + 1)

set_option maxHeartbeats 2000000 in
theorem takeScaled_any (w : World) (b off n cap : Nat) (xs : List Nat) (cs : Array Value) (sa : Option Addr) (m cap2 : Nat) (ys : List Nat) (by' : Nat) (hn : xs.length = n) (hmm : ys.length = m)
    (hb : Blk w b cs) (hx : At cs off xs) (hs : Rd w sa ys b) (hl : n = m + 1) (hm : n ≤ 1099511627776) (dx : Dig B xs) (dy : Dig B ys) (hby : by' < B) :
    Calls Tryz.prog 109 #[.slice (some ⟨b, off, none⟩) n cap, .slice sa m cap2, .int .u64 (by' : Int)] w (TookScaled w b off xs ys by' cs) := by
  subst hl
  have Hn := Lib.hid hn
  have Hm := Lib.hid hmm
  clear hn hmm
  go_enter Tryz.func109, Tryz.ntmps109
  go_wp2_with fail
  go_loopw [7, 8, 16] (fun c d i wr => ∃ (k ad br : Nat) (zs : List Nat), k ≤ m ∧ i = .int .i64 k ∧ c = .int .u64 ad ∧ d = .int .u64 br ∧ ad < B ∧ br ≤ 1 ∧ Hid (zs.length = k) ∧ Dig B zs ∧ Blk wr b (Put cs off zs) ∧ w.grownBy wr (some b) ∧ Hid (val B zs + val B (ys.take k) * by' = val B (xs.take k) + (br + ad) * B ^ k))
    (fun _ _ i _ => m - (intOf i).toNat)
  case atStart => exact ⟨0, 0, 0, [], Nat.zero_le _, rfl, rfl, rfl, B_pos, Nat.zero_le _, rfl, Dig.nil _, hb, grown_refl _ _, by show _ = _; simp [val]⟩
  case round =>
    obtain ⟨k, ad, br, zs, hk, rfl, rfl, rfl, hc, hbr, hzl, hzd, hbk, hg, hv⟩ := hrel
    by_cases hlt : k < m
    · obtain ⟨x, ex⟩ : ∃ x, xs[k]'(by rw [Hn.out]; omega) = x := ⟨_, rfl⟩
      obtain ⟨y, ey⟩ : ∃ y, ys[k]'(by rw [Hm.out]; omega) = y := ⟨_, rfl⟩
      have hxB : x < B := ex ▸ dx.get k _
      have hyB : y < B := ey ▸ dy.get k _
      obtain ⟨b2, off2, cs2, rfl, hne, h2, hy⟩ := hs.get k (by rw [Hm.out]; omega)
      have cx : wr.cell? ⟨b, off + k, none⟩ = some (.int .u64 (x : Int)) := by
        rw [hbk.cell, Put_out _ _ _ _ (by rw [hzl.out]; omega), hx k (by rw [Hn.out]; omega), ex]
      have cy : wr.cell? ⟨b2, off2 + k, none⟩ = some (.int .u64 (y : Int)) := by
        rw [(h2.kept hg (by simpa using hne)).cell, hy k (by rw [Hm.out]; omega), ey]
      have fx : wr.frozen? ⟨b, off + k, none⟩ = false := hbk.frozen _
      have EX := Lib.hid ex
      have EY := Lib.hid ey
      clear ex ey
      have ha1 : ∀ w, (callFunc 72 #[.int .u64 (mulLo y by' : Int), .int .u64 (ad : Int), .int .u64 0]).run Tryz.prog w = .ok (.value (.tuple #[.int .u64 (addLo (mulLo y by') ad 0 : Int), .int .u64 (addHi (mulLo y by') ad 0 : Int)])) w := fun w => add64 _ _ 0 (Nat.zero_le _) w
      have ha2 := fun w => sub64 x (addLo (mulLo y by') ad 0) br hbr w
      obtain ⟨b1, _⟩ := muladd_bd (x := 0) B_pos hyB hby hc
      have b2' := b1
      have b1 : mulHi y by' + addHi (mulLo y by') ad 0 < 18446744073709551616 := b1
      go_wp2_with (go_at_call 71; refine (mul64_any y by' hyB hby _).mono ?_; rintro e w' ⟨rfl, rfl⟩)
      clear ha1 ha2 cx cy fx
      go_roundw
      case rel =>
        refine ⟨k + 1, mulHi y by' + addHi (mulLo y by') ad 0, subHi x (addLo (mulLo y by') ad 0) br, zs ++ [subLo x (addLo (mulLo y by') ad 0) br], by omega, by go_num, by go_num, rfl, b2', subHi_le _ _ _, ?_, hzd.snoc (subLo_lt _ _ _), ?_, grown_set hg _ _, ?_⟩
        · show _ = _; rw [List.length_append, hzl.out]; rfl
        · rw [Put_snoc, hzl.out]; exact hbk.setCell _ _
        · show _ = _
          rw [val_snoc, hzl.out, val_take_succ B xs k (by rw [Hn.out]; omega), val_take_succ B ys k (by rw [Hm.out]; omega), EX.out, EY.out, Nat.add_mul (val B (ys.take k)), Nat.mul_assoc (B ^ k)]
          exact taken_step k _ x y by' ad br _ _ hxB hbr hv.out
      case measure => simp [intOf]; omega
    · obtain rfl : k = m := by omega
      obtain ⟨x, ex⟩ : ∃ x, xs[k]'(by rw [Hn.out]; omega) = x := ⟨_, rfl⟩
      have hxB : x < B := ex ▸ dx.get k _
      have cx : wr.cell? ⟨b, off + k, none⟩ = some (.int .u64 (x : Int)) := by
        rw [hbk.cell, Put_out _ _ _ _ (by rw [hzl.out]; omega), hx k (by rw [Hn.out]; omega), ex]
      have fx : wr.frozen? ⟨b, off + k, none⟩ = false := hbk.frozen _
      have hsz : off + (k + 1) ≤ cs.size := by
        rcases hx.le with h | h
        · exfalso; have := Hn.out; rw [h] at this; simp at this
        · rw [Hn.out] at h; omega
      have HF : Hid (TookScaled w b off xs ys by' cs (.returned (.int .u64 (subHi x ad br : Int))) (wr.setCell ⟨b, off + k, none⟩ (.int .u64 (subLo x ad br : Int)))) := by
        have hb2 := hbk.setCell (off + k) (.int .u64 (subLo x ad br : Int))
        have hp : (Put cs off zs).setIfInBounds (off + k) (.int .u64 (subLo x ad br : Int)) = Put cs off (zs ++ [subLo x ad br]) := by rw [Put_snoc, hzl.out]
        rw [hp] at hb2
        have hlen : (zs ++ [subLo x ad br]).length = k + 1 := by rw [List.length_append, hzl.out]; rfl
        refine ⟨_, zs ++ [subLo x ad br], _, rfl, hb2, ⟨size_Put _ _ _, fun j hj => Put_out _ _ _ _ hj, Put_in _ _ _ (by rw [hlen]; exact hsz)⟩, grown_set hg _ _, by rw [hlen, Hm.out], hzd.snoc (subLo_lt _ _ _), subHi_le _ _ _, ?_⟩
        have h1 := hv.out
        rw [← Hm.out, List.take_length, Hm.out] at h1
        have h2 : val B xs = val B (xs.take k) + B ^ k * x := by
          have := val_take_succ B xs k (by rw [Hn.out]; omega)
          rw [ex, List.take_of_length_le (by rw [Hn.out]; omega)] at this; exact this
        have h3 := sub_eq hxB hc hbr
        rw [val_snoc, hzl.out, Hm.out, h2, Nat.pow_succ]
        generalize subLo x ad br = z at *
        generalize subHi x ad br = b3 at *
        generalize B ^ k = T at *
        have e4 : T * z + T * ad + T * br = T * x + T * (b3 * B) := by rw [← Nat.mul_add, ← Nat.mul_add, h3, Nat.mul_add]
        clear ex
        grind
      have ha := fun w => sub64 x ad br hbr w
      clear hbk hg hv hzl hzd ex
      go_wp2_with fail
      go_ret
      exact HF
end Go.Proofs.YtldkddogadmpbaaGreatDoor
