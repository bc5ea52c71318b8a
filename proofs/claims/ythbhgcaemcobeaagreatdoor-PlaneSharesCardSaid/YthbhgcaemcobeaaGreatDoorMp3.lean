/- What the laws lean on, part 3. -/
import Derived.Lib.BitFns
import Derived.Deep.CutRange
import Derived.Lib.Strings
import Derived.Lib.Slices
import Derived.Lib.Small
import Derived.Lib.Walk
import Derived.Test.YthbhgcaemcobeaaGreatDoorMp2
namespace Go.Proofs.YthbhgcaemcobeaaGreatDoor
open Go.RowKit Mat
set_option maxRecDepth 100000
set_option linter.unusedVariables false
set_option linter.unusedSimpArgs false
def shl (x p : Nat) : Nat := x * 2 ^ p % B
def shr (x p : Nat) : Nat := x / 2 ^ p
theorem B_pow : B = 2 ^ 64 := by decide
theorem B_split {p : Nat} (hp : p ≤ 64) : B = 2 ^ (64 - p) * 2 ^ p := by rw [← Nat.pow_add, Nat.sub_add_cancel hp]; exact B_pow
theorem shr_carry {x p : Nat} (hp : p ≤ 64) : shr x (64 - p) = x * 2 ^ p / B := by
  unfold shr
  rw [B_split hp, Nat.mul_div_mul_right _ _ (Nat.two_pow_pos p)]
theorem shl_bd {x p : Nat} (hp : p ≤ 64) : shl x p + 2 ^ p ≤ B := by
  have h : shl x p = x % 2 ^ (64 - p) * 2 ^ p := by unfold shl; rw [B_split hp, Nat.mul_mod_mul_right]
  rw [h, B_split hp, ← Nat.succ_mul]
  exact Nat.mul_le_mul_right _ (Nat.mod_lt _ (Nat.two_pow_pos _))
theorem or_shl {c x p : Nat} (hp : p ≤ 64) (hc : c < 2 ^ p) : c ||| shl x p = c + shl x p := by
  have h : shl x p = x % 2 ^ (64 - p) * 2 ^ p := by unfold shl; rw [B_split hp, Nat.mul_mod_mul_right]
  rw [h, Nat.or_comm, Nat.add_comm, ← Nat.shiftLeft_eq, Nat.shiftLeft_add_eq_or_of_lt hc]
theorem raise_step (k v x c s p : Nat) (hp : p ≤ 64) (h : v + c * B ^ k = s * 2 ^ p) : v + B ^ k * (c + shl x p) + shr x (64 - p) * B ^ (k + 1) = (s + B ^ k * x) * 2 ^ p := by
  have e : shl x p + B * shr x (64 - p) = x * 2 ^ p := by rw [shr_carry hp]; exact Nat.mod_add_div ..
  generalize shl x p = a at *
  generalize shr x (64 - p) = d at *
  rw [Nat.pow_succ]
  grind
theorem shr_lt {x p : Nat} (hx : x < B) (hp : p ≤ 64) : shr x (64 - p) < 2 ^ p := by
  unfold shr
  rw [Nat.div_lt_iff_lt_mul (Nat.two_pow_pos _), Nat.mul_comm, ← B_split hp]
  exact hx
theorem shl_int {c x p : Nat} (hp : p ≤ 64) (hc : c < 2 ^ p) : bits .or .u64 (c : Int) (IntKind.u64.wrap ((x : Int) * 2 ^ p)) = ((c + shl x p : Nat) : Int) := by
  have h1 : IntKind.u64.wrap ((x : Int) * 2 ^ p) = ((shl x p : Nat) : Int) := by
    rw [IntKind.wrap_u64]
    show _ = ((x * 2 ^ p % 18446744073709551616 : Nat) : Int)
    rw [Int.natCast_emod, Int.natCast_mul, Int.natCast_pow]; rfl
  have hb : c < 18446744073709551616 := Nat.lt_of_lt_of_le hc (by have := Nat.pow_le_pow_right (n := 2) (by omega) hp; simpa using this)
  rw [h1, bits_or_u64_nat c (shl x p) hb (Nat.mod_lt _ B_pos), or_shl hp hc]
theorem shr_int {x q : Nat} : (x : Int) / 2 ^ q = ((shr x q : Nat) : Int) := by
  unfold shr; rw [Int.natCast_ediv, Int.natCast_pow]; rfl
theorem At.put_mid {cs : Array Value} {off : Nat} {A M R Z : List Nat} (h : At cs off (A ++ (M ++ R))) (hz : Z.length = M.length) : At (Put cs (off + A.length) Z) off (A ++ (Z ++ R)) := by
  refine At.append ?_ (At.append ?_ ?_)
  · refine At.put_out ?_ (Or.inl (Nat.le_refl _))
    have := h.take A.length
    rwa [List.take_left] at this
  · rcases h.le with e | e
    · simp only [List.append_eq_nil_iff] at e
      obtain ⟨_, e2, _⟩ := e
      rw [e2] at hz
      rw [List.length_eq_zero_iff.1 hz]; exact At.nil _ _
    · simp only [List.length_append] at e
      exact Put_in _ _ _ (by omega)
  · refine At.put_out ?_ (Or.inr (Nat.le_refl _))
    have := h.drop (A ++ M).length
    rw [← List.append_assoc, List.drop_left, List.length_append, ← Nat.add_assoc] at this
    rwa [hz]
def Raised (w : World) (xs : List Nat) (k : Nat) (e : Ending) (w' : World) : Prop :=
  ∃ (g n : Nat) (cs : Array Value) (zs : List Nat), e = .returned (.slice (some ⟨g, 0, none⟩) n n) ∧ w.heap.size ≤ g ∧ Blk w' g cs ∧ At cs 0 zs ∧ zs.length = n ∧ n = xs.length + k / 64 + 1 ∧ Dig B zs ∧ val B zs = val B xs * 2 ^ k ∧ w.grownBy w' none
set_option maxHeartbeats 2000000 in
theorem raised_any (w : World) (sa : Option Addr) (n cap : Nat) (xs : List Nat) (k : Nat) (hn : xs.length = n) (hx : Rdo w sa xs) (dx : Dig B xs) (bn : n ≤ 1073741824) (bk : k ≤ 68719476736) :
    Calls Tryz.prog 138 #[.slice sa n cap, .int .i64 (k : Int)] w (Raised w xs k) := by
  have Hn := Lib.hid hn
  obtain ⟨wh, hwh⟩ : ∃ wh, wh = k / 64 := ⟨_, rfl⟩
  obtain ⟨p, hp⟩ : ∃ p, p = k % 64 := ⟨_, rfl⟩
  have hp64 : p < 64 := by omega
  have hk : k = 64 * wh + p := by omega
  have HK := Lib.hid hk
  have hd1 : (k : Int) / 64 = (wh : Int) := by omega
  have hd2 : (k : Int) % 64 = (p : Int) := by omega
  have bw : wh ≤ 1073741824 := by omega
  clear hn hk hwh hp
  obtain ⟨i0, hi, hz0, hz1, hz2⟩ := info_parts Tryz.infoU64
  go_enter Tryz.func138, Tryz.ntmps138
  go_wp2_with (at_make; refine wpList_make_full _ rfl _ _ 26 rfl _ 80 i0 (.int .u64 0) 1 Tryz.underlying26 hi hz0 hz1 .i64 .i64 _ _ (n + wh + 1) rfl rfl (by omega) (by omega) (by rw [hz2]; omega) (by unfold maxLen; omega) (Nat.le_refl _) ?_; intro w1 hown hg1; obtain ⟨cs, hb1, hsz, hat⟩ := made_limbs hown; have HS := Lib.hid hsz; clear hsz hown)
  clear hd1 hd2
  go_loopw [22] (fun i wr => ∃ (j c : Nat) (us : List Nat) (cs2 : Array Value), j ≤ n ∧ i = .int .i64 j ∧ Hid (us.length = j) ∧ Dig B us ∧ c < 2 ^ p ∧ Blk wr w.heap.size cs2 ∧ At cs2 0 (List.replicate wh 0 ++ (us ++ (c :: List.replicate (n - j) 0))) ∧ w1.grownBy wr (some w.heap.size) ∧ Hid (val B us + c * B ^ j = val B (xs.take j) * 2 ^ p))
    (fun i _ => n - (intOf i).toNat)
  case atStart => exact ⟨0, 0, [], cs, Nat.zero_le _, rfl, rfl, Dig.nil _, Nat.two_pow_pos _, hb1, by
    rw [Nat.sub_zero, List.nil_append, ← List.replicate_succ, List.replicate_append_replicate, show wh + (n + 1) = n + wh + 1 from by omega]; exact hat, grown_refl _ _, by show _ = _; simp [val]⟩
  case round =>
    obtain ⟨j, c, us, cs2, hj, rfl, hul, hud, hcp, hbk, hat2, hg, hv⟩ := hrel
    by_cases hlt : j < n
    · obtain ⟨x, ex⟩ : ∃ x, xs[j]'(by rw [Hn.out]; omega) = x := ⟨_, rfl⟩
      have hxB : x < B := ex ▸ dx.get j _
      obtain ⟨b2, off2, cs3, rfl, h2, hax⟩ := hx.get j (by rw [Hn.out]; omega)
      have cx : wr.cell? ⟨b2, off2 + j, none⟩ = some (.int .u64 (x : Int)) := by
        rw [((h2.kept hg1 (by simp)).kept hg (by have := h2.lt; simp; omega)).cell, hax j (by rw [Hn.out]; omega), ex]
      have cc : wr.cell? ⟨w.heap.size, j + wh, none⟩ = some (.int .u64 (c : Int)) := by
        have := hat2 (wh + j) (by simp [hul.out])
        rw [hbk.cell, show j + wh = 0 + (wh + j) from by omega, this, List.getElem_append_right (by simp), List.getElem_append_right (by simp [hul.out])]
        simp [hul.out]
      have fc : wr.frozen? ⟨w.heap.size, j + wh, none⟩ = false := hbk.frozen _
      obtain ⟨y, cy⟩ : ∃ y, wr.cell? ⟨w.heap.size, j + wh + 1, none⟩ = some (.int .u64 (y : Int)) := by
        have := hat2 (wh + j + 1) (by simp [hul.out]; omega)
        rw [hbk.cell, show j + wh + 1 = 0 + (wh + j + 1) from by omega]
        exact ⟨_, this⟩
      have fy : wr.frozen? ⟨w.heap.size, j + wh + 1, none⟩ = false := hbk.frozen _
      have EX := Lib.hid ex
      clear ex
      have e1 : IntKind.i64.wrap ((j : Int) + (wh : Int)) = (j : Int) + (wh : Int) := IntWalk.i64_in _ (by omega)
      have f1 : (j : Int) + (wh : Int) < (n : Int) + (wh : Int) + 1 := by omega
      have f3 : ((j : Int) + (wh : Int)).toNat = j + wh := by omega
      have f4 : (0 : Int) ≤ (j : Int) + (wh : Int) := by omega
      go_wp2_with fail
      go_still_tail 11, (by kernel_rfl)
      change wpList _ _ _ _ _ wr.drew
      clear e1 f1 f3 f4
      go_wp2_with fail
      clear cx cc fc fy cy
      go_roundw
      case rel =>
        have hB := B_split (p := p) (by omega)
        refine ⟨j + 1, shr x (64 - p), us ++ [c + shl x p], Put cs2 (0 + (List.replicate wh 0 ++ us).length) [c + shl x p, shr x (64 - p)], by omega, by go_num, ?_, hud.snoc ?_, shr_lt hxB (by omega), ?_, ?_, ?_, ?_⟩
        · show _ = _; rw [List.length_append, hul.out]; rfl
        · have := shl_bd (x := x) (p := p) (by omega); omega
        · rw [shl_int (by omega) hcp, shr_int]
          have := (hbk.setCell (j + wh) (.int .u64 ((c + shl x p : Nat) : Int))).setCell (j + wh + 1) (.int .u64 ((shr x (64 - p) : Nat) : Int))
          simp only [Put, List.length_append, List.length_replicate, hul.out]
          rw [show 0 + (wh + j) = j + wh from by omega]
          exact this
        · have h2 : At cs2 0 ((List.replicate wh 0 ++ us) ++ ([c, 0] ++ List.replicate (n - (j + 1)) 0)) := by
            rw [show n - j = n - (j + 1) + 1 from by omega, List.replicate_succ] at hat2
            simpa using hat2
          have := h2.put_mid (Z := [c + shl x p, shr x (64 - p)]) rfl
          simpa using this
        · exact grown_drew (grown_set (grown_set hg _ _) _ _)
        · show _ = _
          rw [val_snoc, hul.out, raise_step j _ x c _ p (by omega) hv.out, val_take_succ B xs j (by rw [Hn.out]; omega), EX.out]
      case measure => simp [intOf]; omega
    · obtain rfl : j = n := by omega
      rw [Nat.sub_self, List.replicate_zero] at hat2
      have HF : Hid (Raised w xs k (.returned (.slice (some ⟨w.heap.size, 0, none⟩) (j + wh + 1) (j + wh + 1))) wr) := by
        have hk := HK.out
        have hc2 : c < B := Nat.lt_of_lt_of_le hcp (by rw [B_split (p := p) (by omega)]; exact Nat.le_mul_of_pos_left _ (Nat.two_pow_pos _))
        refine ⟨_, _, cs2, _, rfl, Nat.le_refl _, hbk, hat2, ?_, ?_, ?_, ?_, grown_new hg1 hg (Nat.le_refl _)⟩
        · simp only [List.length_append, List.length_replicate, hul.out, List.length_cons, List.length_nil]; omega
        · rw [Hn.out]; omega
        · exact (Dig.replicate B_pos _).append (hud.snoc hc2)
        · rw [val_append, val_replicate, List.length_replicate, Nat.zero_add, val_snoc, hul.out, Nat.mul_comm (B ^ j) c, hv.out, ← Hn.out, List.take_length, hk, Nat.pow_add, Nat.pow_mul, ← B_pow]
          rw [Nat.mul_left_comm, Nat.mul_comm (B ^ wh), Nat.mul_comm (2 ^ p)]
      clear hbk hat2 hv hg hg1 hat hb1
      go_wp2_with fail
      go_ret
      exact HF
theorem low_bd {x y p : Nat} (hx : x < B) (hp : p < 64) : shr x p + shl y (64 - p) < B := by
  have h1 := shl_bd (x := y) (p := 64 - p) (by omega)
  have h2 : shr x p < 2 ^ (64 - p) := by
    have := shr_lt (x := x) (p := 64 - p) hx (by omega)
    rwa [show 64 - (64 - p) = p from by omega] at this
  omega
theorem low_int {x y p : Nat} (hx : x < B) (hp : p < 64) : bits .or .u64 ((x : Int) / 2 ^ p) (IntKind.u64.wrap ((y : Int) * 2 ^ (64 - p))) = ((shr x p + shl y (64 - p) : Nat) : Int) := by
  rw [shr_int]
  refine shl_int (by omega) ?_
  have := shr_lt (x := x) (p := 64 - p) hx (by omega)
  rwa [show 64 - (64 - p) = p from by omega] at this
theorem shl_mod {y p : Nat} (hp : p ≤ 64) : shl y (64 - p) = y % 2 ^ p * 2 ^ (64 - p) := by
  unfold shl
  rw [B_split (p := 64 - p) (by omega), show 64 - (64 - p) = p from by omega, Nat.mul_mod_mul_right]
theorem lower_step (k v x y s p : Nat) (hp : p < 64) (r0 : Nat) (h : v * 2 ^ p + r0 = s + x % 2 ^ p * B ^ k) :
    (v + B ^ k * (shr x p + shl y (64 - p))) * 2 ^ p + r0 = (s + B ^ k * x) + y % 2 ^ p * B ^ (k + 1) := by
  have e1 : x % 2 ^ p + 2 ^ p * shr x p = x := Nat.mod_add_div ..
  have e2 := B_split (p := p) (by omega)
  rw [shl_mod (by omega), Nat.pow_succ]
  generalize B ^ k = T at *
  rw [e2]
  clear e2
  generalize y % 2 ^ p = r at *
  generalize x % 2 ^ p = r1 at *
  generalize shr x p = a at *
  generalize 2 ^ p = P at *
  generalize 2 ^ (64 - p) = Q at *
  have e3 : T * x = T * r1 + T * (P * a) := by rw [← Nat.mul_add, e1]
  grind
def Lowered (w : World) (b off : Nat) (xs : List Nat) (k : Nat) (cs : Array Value) (e : Ending) (w' : World) : Prop :=
  ∃ (sa : Option Addr) (m cap : Nat) (cs' : Array Value) (zs : List Nat), e = .returned (.slice sa m cap) ∧ m ≤ cap ∧ zs.length = m ∧ m ≤ xs.length ∧ Dig B zs ∧ val B zs = val B xs / 2 ^ k ∧ (0 < m → sa = some ⟨b, off, none⟩) ∧ (m = 0 → sa = none) ∧ Blk w' b cs' ∧ At cs' off zs ∧ w.grownBy w' (some b)
theorem low_div {xs : List Nat} (dx : Dig B xs) (wh p : Nat) (h : wh ≤ xs.length) : val B xs / 2 ^ (64 * wh + p) = val B (xs.drop wh) / 2 ^ p := by
  have h1 := val_split B xs wh h
  have h2 := val_lt B (xs.take wh) (dx.take wh)
  rw [List.length_take, Nat.min_eq_left h] at h2
  rw [Nat.pow_add, Nat.pow_mul, ← B_pow, ← Nat.div_div_eq_div_mul, h1, Nat.add_mul_div_left _ _ (Nat.pow_pos B_pos), Nat.div_eq_of_lt h2, Nat.zero_add]
set_option maxHeartbeats 4000000 in
theorem lower_any (w : World) (b off n cap : Nat) (xs : List Nat) (cs : Array Value) (k : Nat) (hn : xs.length = n) (hb : Blk w b cs) (hx : At cs off xs) (dx : Dig B xs) (hcap : n ≤ cap) (bn : n ≤ 1073741824) (bk : k ≤ 68719476736) :
    Calls Tryz.prog 137 #[.slice (some ⟨b, off, none⟩) n cap, .int .i64 (k : Int)] w (Lowered w b off xs k cs) := by
  have Hn := Lib.hid hn
  obtain ⟨wh, hwh⟩ : ∃ wh, wh = k / 64 := ⟨_, rfl⟩
  obtain ⟨p, hp⟩ : ∃ p, p = k % 64 := ⟨_, rfl⟩
  have hp64 : p < 64 := by omega
  have hk : k = 64 * wh + p := by omega
  have HK := Lib.hid hk
  have hd1 : (k : Int) / 64 = (wh : Int) := by omega
  have hd2 : (k : Int) % 64 = (p : Int) := by omega
  have bw : wh ≤ 1073741824 := by omega
  clear hn hk hwh hp
  by_cases hw : n ≤ wh
  · have HF : Hid (Lowered w b off xs k cs (.returned (.slice none 0 0)) w) := by
      refine ⟨none, 0, 0, cs, [], rfl, Nat.le_refl _, rfl, Nat.zero_le _, Dig.nil _, ?_, by simp, fun _ => rfl, hb, At.nil _ _, grown_refl _ _⟩
      have h2 := val_lt B xs dx
      rw [Hn.out] at h2
      have h3 : B ^ n ≤ 2 ^ k := by
        rw [HK.out, Nat.pow_add, Nat.pow_mul, ← B_pow]
        exact Nat.le_trans (Nat.pow_le_pow_right B_pos hw) (Nat.le_mul_of_pos_right _ (Nat.two_pow_pos _))
      rw [Nat.div_eq_of_lt (by omega)]; rfl
    go_enter Tryz.func137, Tryz.ntmps137
    go_wp2_with fail
    go_ret
    exact HF
  · have hwn : wh < n := by omega
    have hdec : decide (n ≤ wh) = false := decide_eq_false hw
    clear hw
    go_enter Tryz.func137, Tryz.ntmps137
    go_wp2_with fail
    rw [hd2]
    clear hd1 hd2
    go_loopw [23] (fun i wr => ∃ (j : Nat) (zs : List Nat), j ≤ n - wh ∧ i = .int .i64 j ∧ Hid (zs.length = j) ∧ Dig B zs ∧ Blk wr b (Put cs off zs) ∧ w.grownBy wr (some b) ∧ Hid (val B zs * 2 ^ p + (xs.drop wh).getD 0 0 % 2 ^ p = val B ((xs.drop wh).take j) + (xs.drop wh).getD j 0 % 2 ^ p * B ^ j))
      (fun i _ => n - wh - (intOf i).toNat)
    case atStart => exact ⟨0, [], Nat.zero_le _, rfl, rfl, Dig.nil _, hb, grown_refl _ _, by show _ = _; simp [val]⟩
    case round =>
      obtain ⟨j, zs, hj, rfl, hzl, hzd, hbk, hg, hv⟩ := hrel
      by_cases hlt : j + wh < n
      · obtain ⟨x, ex⟩ : ∃ x, xs[j + wh]'(by rw [Hn.out]; omega) = x := ⟨_, rfl⟩
        have hxB : x < B := ex ▸ dx.get _ _
        have cx : wr.cell? ⟨b, off + (j + wh), none⟩ = some (.int .u64 (x : Int)) := by
          rw [hbk.cell, Put_out _ _ _ _ (by rw [hzl.out]; omega), hx (j + wh) (by rw [Hn.out]; omega), ex]
        have fx : wr.frozen? ⟨b, off + j, none⟩ = false := hbk.frozen _
        obtain ⟨x0, cx0⟩ : ∃ y, wr.cell? ⟨b, off + j, none⟩ = some (.int .u64 (y : Int)) := ⟨_, by
          rw [hbk.cell, Put_out _ _ _ _ (by rw [hzl.out]; omega)]; exact hx j (by rw [Hn.out]; omega)⟩
        have EX := Lib.hid ex
        clear ex
        have e1 : IntKind.i64.wrap ((j : Int) + (wh : Int)) = (j : Int) + (wh : Int) := IntWalk.i64_in _ (by omega)
        have e2 : IntKind.i64.wrap (64 - (p : Int)) = 64 - (p : Int) := IntWalk.i64_in _ (by omega)
        have f1 : (j : Int) + (wh : Int) < (n : Int) := by omega
        have f3 : ((j : Int) + (wh : Int)).toNat = j + wh := by omega
        have f4 : (0 : Int) ≤ (j : Int) + (wh : Int) := by omega
        have f5 : (j : Int) < (n : Int) := by omega
        have f6 : (0 : Int) ≤ 64 - (p : Int) := by omega
        by_cases hl2 : j + 1 + wh < n
        · obtain ⟨y, ey⟩ : ∃ y, xs[j + 1 + wh]'(by rw [Hn.out]; omega) = y := ⟨_, rfl⟩
          have cy : wr.cell? ⟨b, off + (j + 1 + wh), none⟩ = some (.int .u64 (y : Int)) := by
            rw [hbk.cell, Put_out _ _ _ _ (by rw [hzl.out]; omega), hx (j + 1 + wh) (by rw [Hn.out]; omega), ey]
          have EY := Lib.hid ey
          clear ey
          go_wp2_with fail
          go_still_tail 16, (by kernel_rfl)
          change wpList _ _ _ _ _ wr.drew
          clear e1 e2 f1 f3 f4 f5 f6
          go_wp2_with fail
          clear cx fx cx0 cy
          go_roundw
          case rel =>
            refine ⟨j + 1, zs ++ [shr x p + shl y (64 - p)], by omega, by go_num, ?_, hzd.snoc (low_bd hxB hp64), ?_, grown_drew (grown_set hg _ _), ?_⟩
            · show _ = _; rw [List.length_append, hzl.out]; rfl
            · rw [low_int hxB hp64, Put_snoc, hzl.out]; exact (hbk.setCell _ _).drew
            · show _ = _
              have hY : j < (xs.drop wh).length := by rw [List.length_drop, Hn.out]; omega
              have h1 : (xs.drop wh).getD j 0 = x := by rw [← EX.out]; simp [List.getD_eq_getElem?_getD, Hn.out, hlt, Nat.add_comm wh]
              have h2 : (xs.drop wh).getD (j + 1) 0 = y := by rw [← EY.out]; simp [List.getD_eq_getElem?_getD, Hn.out, hl2, Nat.add_comm wh]
              have hv := hv.out
              rw [h1] at hv
              rw [val_snoc, hzl.out, h2, val_take_succD B _ j hY, h1]
              exact lower_step j _ x y _ p hp64 _ hv
          case measure => simp [intOf]; omega
        · have e0 : bits .or .u64 ((x : Int) / 2 ^ p) 0 = ((shr x p + shl 0 (64 - p) : Nat) : Int) := by
            have := low_int (y := 0) hxB hp64
            rwa [show IntKind.u64.wrap (((0 : Nat) : Int) * 2 ^ (64 - p)) = 0 from by rw [IntKind.wrap_u64]; simp] at this
          have E0 := Lib.hid e0
          clear e0
          go_wp2_with fail
          go_still_tail 16, (by kernel_rfl)
          change wpList _ _ _ _ _ wr.drew
          clear e1 e2 f1 f3 f4 f5 f6
          go_wp2_with fail
          clear cx fx cx0
          go_roundw
          case rel =>
            refine ⟨j + 1, zs ++ [shr x p + shl 0 (64 - p)], by omega, by go_num, ?_, hzd.snoc (low_bd hxB hp64), ?_, grown_drew (grown_set hg _ _), ?_⟩
            · show _ = _; rw [List.length_append, hzl.out]; rfl
            · rw [E0.out, Put_snoc, hzl.out]; exact (hbk.setCell _ _).drew
            · show _ = _
              have hY : j < (xs.drop wh).length := by rw [List.length_drop, Hn.out]; omega
              have h1 : (xs.drop wh).getD j 0 = x := by rw [← EX.out]; simp [List.getD_eq_getElem?_getD, Hn.out, hlt, Nat.add_comm wh]
              have h2 : (xs.drop wh).getD (j + 1) 0 = 0 := by
                rw [List.getD_eq_getElem?_getD, List.getElem?_eq_none (by rw [List.length_drop, Hn.out]; omega)]; rfl
              have hv := hv.out
              rw [h1] at hv
              rw [val_snoc, hzl.out, h2, val_take_succD B _ j hY, h1]
              exact lower_step j _ x 0 _ p hp64 _ hv
          case measure => simp [intOf]; omega
      · obtain rfl : j = n - wh := by omega
        have hsz : off + n ≤ cs.size := by
          rcases hx.le with h | h
          · exfalso; have := Hn.out; rw [h] at this; simp at this; omega
          · rw [Hn.out] at h; exact h
        have HF : Hid (Lowered w b off xs k cs (.returned (.slice (some ⟨b, off, none⟩) (n - wh) cap)) wr) := by
          refine ⟨_, _, _, Put cs off zs, zs, rfl, by omega, hzl.out, by rw [Hn.out]; omega, hzd, ?_, fun _ => rfl, fun h => by omega, hbk, Put_in _ _ _ (by rw [hzl.out]; omega), hg⟩
          have hv := hv.out
          rw [show (xs.drop wh).take (n - wh) = xs.drop wh from List.take_of_length_le (by rw [List.length_drop, Hn.out]; omega)] at hv
          have h2 : (xs.drop wh).getD (n - wh) 0 = 0 := by
            rw [List.getD_eq_getElem?_getD, List.getElem?_eq_none (by rw [List.length_drop, Hn.out]; omega)]; rfl
          rw [h2, Nat.zero_mod, Nat.zero_mul, Nat.add_zero] at hv
          rw [HK.out, low_div dx wh p (by rw [Hn.out]; omega), ← hv, Nat.mul_comm, Nat.mul_add_div (Nat.two_pow_pos _), Nat.div_eq_of_lt (Nat.mod_lt _ (Nat.two_pow_pos _)), Nat.add_zero]
        clear hbk hg hv hzl hzd
        go_wp2_with fail
        go_ret
        exact HF
set_option maxHeartbeats 1000000 in
theorem lower_none (w : World) (sa : Option Addr) (n cap k : Nat) (hk : n ≤ k / 64) (bk : k ≤ 68719476736) :
    Calls Tryz.prog 137 #[.slice sa n cap, .int .i64 (k : Int)] w fun e w' => e = .returned (.slice none 0 0) ∧ w = w' := by
  obtain ⟨wh, hwh⟩ : ∃ wh, wh = k / 64 := ⟨_, rfl⟩
  have hd1 : (k : Int) / 64 = (wh : Int) := by omega
  have hw : n ≤ wh := by omega
  clear hk hwh
  go_enter Tryz.func137, Tryz.ntmps137
  go_wp2_with fail
  go_ret
  exact ⟨rfl, rfl⟩
theorem Lowered.rdo {b off : Nat} {w' : World} {sa : Option Addr} {m : Nat} {cs' : Array Value} {zs : List Nat} (hl : zs.length = m) (h : 0 < m → sa = some ⟨b, off, none⟩) (hb : Blk w' b cs') (ha : At cs' off zs) : Rdo w' sa zs := by
  rcases Nat.eq_zero_or_pos m with h0 | h0
  · exact Or.inl (List.length_eq_zero_iff.1 (hl.trans h0))
  · exact Or.inr ⟨b, off, cs', h h0, hb, ha⟩
end Go.Proofs.YthbhgcaemcobeaaGreatDoor
namespace Go.Proofs.YthbhgcaemcobeaaGreatDoor
open Go.RowKit Mat
set_option maxRecDepth 100000
set_option linter.unusedVariables false
set_option linter.unusedSimpArgs false
theorem fold_tab : (⟨(([0, 1, 2, 2, 3, 3, 3, 3, 4, 4, 4, 4, 4, 4, 4, 4, 5, 5, 5, 5, 5, 5, 5, 5, 5, 5, 5, 5, 5, 5, 5, 5, 6, 6, 6, 6, 6, 6, 6, 6, 6, 6, 6, 6, 6, 6, 6, 6, 6, 6, 6, 6, 6, 6, 6, 6, 6, 6, 6, 6, 6, 6, 6, 6].append [7, 7, 7, 7, 7, 7, 7, 7, 7, 7, 7, 7, 7, 7, 7, 7, 7, 7, 7, 7, 7, 7, 7, 7, 7, 7, 7, 7, 7, 7, 7, 7, 7, 7, 7, 7, 7, 7, 7, 7, 7, 7, 7, 7, 7, 7, 7, 7, 7, 7, 7, 7, 7, 7, 7, 7, 7, 7, 7, 7, 7, 7, 7, 7]).append ([8, 8, 8, 8, 8, 8, 8, 8, 8, 8, 8, 8, 8, 8, 8, 8, 8, 8, 8, 8, 8, 8, 8, 8, 8, 8, 8, 8, 8, 8, 8, 8, 8, 8, 8, 8, 8, 8, 8, 8, 8, 8, 8, 8, 8, 8, 8, 8, 8, 8, 8, 8, 8, 8, 8, 8, 8, 8, 8, 8, 8, 8, 8, 8].append [8, 8, 8, 8, 8, 8, 8, 8, 8, 8, 8, 8, 8, 8, 8, 8, 8, 8, 8, 8, 8, 8, 8, 8, 8, 8, 8, 8, 8, 8, 8, 8, 8, 8, 8, 8, 8, 8, 8, 8, 8, 8, 8, 8, 8, 8, 8, 8, 8, 8, 8, 8, 8, 8, 8, 8, 8, 8, 8, 8, 8, 8, 8, 8])).toArray⟩ : ByteArray) = Lib.len8tab := by decide +kernel
theorem tab_at (b : Int) (h0 : 0 ≤ b) (h1 : b ≤ 255) (hs : b.toNat < Lib.len8tab.size) : ((Lib.len8tab[b.toNat]'hs).toNat : Int) = (Lib.bitLen b.toNat : Int) := by
  have := Lib.len8_of b h0 h1
  rw [← this]
  simp [Lib.len8, hs]
theorem tab_sum (k b : Int) (n : Nat) (h0 : 0 ≤ b) (h1 : b ≤ 255) (hs : b.toNat < Lib.len8tab.size) (hk : 0 ≤ k) (hk2 : k ≤ 56) (e : (n : Int) = k + (Lib.bitLen b.toNat : Int)) : wrap64 (k + wrap64 ((Lib.len8tab[b.toNat]'hs).toNat : Int)) = (n : Int) := by
  have l := Lib.bitLen_le8' b h0 h1
  rw [tab_at b h0 h1 hs, IntWalk.wrap64_in (Lib.bitLen b.toNat : Int) ⟨by omega, by omega⟩, IntWalk.wrap64_in _ ⟨by omega, by omega⟩, e]
theorem tab_one (b : Int) (h0 : 0 ≤ b) (h1 : b ≤ 255) (hs : b.toNat < Lib.len8tab.size) : wrap64 ((Lib.len8tab[b.toNat]'hs).toNat : Int) = (Lib.bitLen b.toNat : Int) := by
  have l := Lib.bitLen_le8' b h0 h1
  rw [tab_at b h0 h1 hs, IntWalk.wrap64_in (Lib.bitLen b.toNat : Int) ⟨by omega, by omega⟩]
theorem tab_two (b : Int) (h0 : 0 ≤ b) (h1 : b ≤ 255) (hs : b.toNat < Lib.len8tab.size) : wrap64 (wrap64 ((Lib.len8tab[b.toNat]'hs).toNat : Int)) = (Lib.bitLen b.toNat : Int) := by
  have l := Lib.bitLen_le8' b h0 h1
  rw [tab_one b h0 h1 hs, IntWalk.wrap64_in (Lib.bitLen b.toNat : Int) ⟨by omega, by omega⟩]
set_option maxHeartbeats 4000000 in
theorem len64_int (x : Int) (h0 : 0 ≤ x) (h1 : x ≤ 18446744073709551615) (w : World) :
    Calls Tryz.prog 131 #[.int .u64 x] w fun e w' => e = .returned (.int .i64 (Lib.bitLen x.toNat : Int)) ∧ w = w' := by
  have hsz := Lib.len8tab_size
  go_enter Tryz.func131, Tryz.ntmps131
  rw [fold_tab]
  go_wp2
  all_goals (go_ret; refine ⟨congrArg Ending.returned (congrArg (Value.int IntKind.i64) ?_), rfl⟩)
  all_goals first
    | (have e : (x / 4294967296 / 65536 / 256).toNat = x.toNat / 72057594037927936 := by omega
       have s := Lib.bitLen_shift56 x.toNat (by omega) (by omega)
       exact tab_sum 56 (x / 4294967296 / 65536 / 256) _ (by omega) (by omega) _ (by omega) (by omega) (by rw [e, s]; omega))
    | (have e : (x / 4294967296 / 65536).toNat = x.toNat / 281474976710656 := by omega
       have s := Lib.bitLen_shift48 x.toNat (by omega) (by omega)
       exact tab_sum 48 (x / 4294967296 / 65536) _ (by omega) (by omega) _ (by omega) (by omega) (by rw [e, s]; omega))
    | (have e : (x / 4294967296 / 256).toNat = x.toNat / 1099511627776 := by omega
       have s := Lib.bitLen_shift40 x.toNat (by omega) (by omega)
       exact tab_sum 40 (x / 4294967296 / 256) _ (by omega) (by omega) _ (by omega) (by omega) (by rw [e, s]; omega))
    | (have e : (x / 4294967296).toNat = x.toNat / 4294967296 := by omega
       have s := Lib.bitLen_shift32 x.toNat (by omega) (by omega)
       exact tab_sum 32 (x / 4294967296) _ (by omega) (by omega) _ (by omega) (by omega) (by rw [e, s]; omega))
    | (have e : (x / 65536 / 256).toNat = x.toNat / 16777216 := by omega
       have s := Lib.bitLen_shift24 x.toNat (by omega) (by omega)
       exact tab_sum 24 (x / 65536 / 256) _ (by omega) (by omega) _ (by omega) (by omega) (by rw [e, s]; omega))
    | (have e : (x / 65536).toNat = x.toNat / 65536 := by omega
       have s := Lib.bitLen_shift16 x.toNat (by omega) (by omega)
       exact tab_sum 16 (x / 65536) _ (by omega) (by omega) _ (by omega) (by omega) (by rw [e, s]; omega))
    | (have e : (x / 256).toNat = x.toNat / 256 := by omega
       have s := Lib.bitLen_shift8 x.toNat (by omega) (by omega)
       exact tab_sum 8 (x / 256) _ (by omega) (by omega) _ (by omega) (by omega) (by rw [e, s]; omega))
    | exact tab_one x (by omega) (by omega) _
    | exact tab_two x (by omega) (by omega) _
theorem len64_any (x : Nat) (hx : x < B) (w : World) :
    Calls Tryz.prog 131 #[.int .u64 (x : Int)] w fun e w' => e = .returned (.int .i64 (Lib.bitLen x : Int)) ∧ w = w' := by
  have hx : x < 18446744073709551616 := hx
  have := len64_int (x : Int) (by omega) (by omega) w
  rwa [Int.toNat_natCast] at this
theorem bitLen_spec : ∀ (n x : Nat), x < n → x ≠ 0 → x < 2 ^ 64 → 2 ^ (Lib.bitLen x - 1) ≤ x ∧ x < 2 ^ Lib.bitLen x ∧ 1 ≤ Lib.bitLen x := by
  intro n
  induction n with
  | zero => intro x h; omega
  | succ n ih =>
    intro x h h0 hx
    rw [Lib.bitLen_half x h0 hx]
    by_cases h2 : x / 2 = 0
    · have : x = 1 := by omega
      subst this
      decide
    · obtain ⟨h3, h4, h5⟩ := ih (x / 2) (by omega) h2 (by omega)
      refine ⟨?_, ?_, by omega⟩
      · rw [show 1 + Lib.bitLen (x / 2) - 1 = (Lib.bitLen (x / 2) - 1) + 1 from by omega, Nat.pow_succ]; omega
      · rw [Nat.add_comm, Nat.pow_succ]; omega
theorem bitLen_zero : Lib.bitLen 0 = 0 := by decide
theorem bitLen_le (x : Nat) (hx : x < B) : Lib.bitLen x ≤ 64 := by
  by_cases h : x = 0
  · subst h; decide
  · obtain ⟨h1, _, h3⟩ := bitLen_spec (x + 1) x (by omega) h (by rw [← B_pow]; exact hx)
    rcases Nat.lt_or_ge 64 (Lib.bitLen x) with h4 | h4
    · have : 2 ^ 64 ≤ 2 ^ (Lib.bitLen x - 1) := Nat.pow_le_pow_right (by omega) (by omega)
      rw [← B_pow] at this; omega
    · exact h4
set_option maxHeartbeats 1000000 in
theorem lead64_any (x : Nat) (hx : x < B) (w : World) :
    Calls Tryz.prog 144 #[.int .u64 (x : Int)] w fun e w' => e = .returned (.int .i64 ((64 - Lib.bitLen x : Nat) : Int)) ∧ w = w' := by
  have hl := bitLen_le x hx
  go_enter Tryz.func144, Tryz.ntmps144
  go_wp2_with fail
  refine (len64_any x hx _).mono ?_
  rintro e w' ⟨rfl, rfl⟩
  go_wp2_with fail
  go_ret
  exact ⟨congrArg Ending.returned (congrArg (Value.int IntKind.i64) (by omega)), rfl⟩
end Go.Proofs.YthbhgcaemcobeaaGreatDoor
