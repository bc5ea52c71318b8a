/- Sums and differences of limbs: addTo, takeFrom, compare. -/
import Derived.Test.YtldkddogadmpbaaGreatDoorBase
namespace Go.Proofs.YtldkddogadmpbaaGreatDoor
open Go.RowKit Mat
set_option maxRecDepth 100000
set_option linter.unusedVariables false
set_option linter.unusedSimpArgs false

/-- A slice that is read beside a store to block g: its limbs lie in another block of limbs. -/
def Rd (w : World) (sa : Option Addr) (xs : List Nat) (g : Nat) : Prop := xs = [] ∨ ∃ (b off : Nat) (cs : Array Value), sa = some ⟨b, off, none⟩ ∧ b ≠ g ∧ Blk w b cs ∧ At cs off xs
theorem Rd.get {w : World} {sa : Option Addr} {xs : List Nat} {g : Nat} (h : Rd w sa xs g) (k : Nat) (hk : k < xs.length) : ∃ (b off : Nat) (cs : Array Value), sa = some ⟨b, off, none⟩ ∧ b ≠ g ∧ Blk w b cs ∧ At cs off xs := by
  rcases h with h | h
  · rw [h] at hk; simp at hk
  · exact h

/-- What a store of limbs leaves of a block. -/
structure Wrote (cs cs' : Array Value) (off : Nat) (zs : List Nat) : Prop where
  size : cs'.size = cs.size
  out : ∀ j, j < off ∨ off + zs.length ≤ j → cs'[j]? = cs[j]?
  lies : At cs' off zs

theorem take_step (m : Nat) (xs : List Nat) (k : Nat) (hk : k < xs.length) : val m (xs.take (k + 1)) = val m (xs.take k) + m ^ k * xs[k] := val_take_succ m xs k hk

/-- One step of a sum by limbs. -/
theorem sum_step (k v x y c s : Nat) (h : v + c * B ^ k = s) : v + B ^ k * addLo x y c + addHi x y c * B ^ (k + 1) = s + B ^ k * x + B ^ k * y := carry_step B k v x y c s h

/-- What addTo leaves: the sum in the limbs' place, the carry told. -/
def AddedTo (w : World) (b off : Nat) (xs ys : List Nat) (cs : Array Value) (e : Ending) (w' : World) : Prop :=
  ∃ (c : Nat) (zs : List Nat) (cs' : Array Value), e = .returned (.int .u64 (c : Int)) ∧ Blk w' b cs' ∧ Wrote cs cs' off zs ∧ w.grownBy w' (some b) ∧ zs.length = xs.length ∧ Dig B zs ∧ c ≤ 1 ∧ val B zs + c * B ^ xs.length = val B xs + val B ys

set_option maxHeartbeats 1000000 in
theorem addTo_any (w : World) (b off cap : Nat) (xs : List Nat) (cs : Array Value) (sa : Option Addr) (cap2 : Nat) (ys : List Nat)
    (hb : Blk w b cs) (hx : At cs off xs) (hs : Rd w sa ys b) (hl : ys.length ≤ xs.length) (hm : xs.length ≤ 1099511627776) (dx : Dig B xs) (dy : Dig B ys) :
    Calls Tryz.prog 97 #[.slice (some ⟨b, off, none⟩) xs.length cap, .slice sa ys.length cap2] w (AddedTo w b off xs ys cs) := by
  generalize hn : xs.length = n at *
  generalize hmm : ys.length = m at *
  have Hn := Lib.hid hn
  have Hm := Lib.hid hmm
  clear hn hmm
  go_enter Tryz.func97, Tryz.ntmps97
  go_wp2_with fail
  go_loopw [5, 11] (fun c i wr => ∃ (k cc : Nat) (zs : List Nat), k ≤ m ∧ i = .int .i64 k ∧ c = .int .u64 cc ∧ cc ≤ 1 ∧ Hid (zs.length = k) ∧ Dig B zs ∧ Blk wr b (Put cs off zs) ∧ w.grownBy wr (some b) ∧ Hid (val B zs + cc * B ^ k = val B (xs.take k) + val B (ys.take k)))
    (fun _ i _ => m - (intOf i).toNat)
  case atStart => exact ⟨0, 0, [], Nat.zero_le _, rfl, rfl, Nat.zero_le _, rfl, Dig.nil _, hb, grown_refl _ _, by show _ = _; simp [val]⟩
  case round =>
    obtain ⟨k, cc, zs, hk, rfl, rfl, hc, hzl, hzd, hbk, hg, hv⟩ := hrel
    by_cases hlt : k < m
    · obtain ⟨x, ex⟩ : ∃ x, xs[k]'(by rw [Hn.out]; omega) = x := ⟨_, rfl⟩
      obtain ⟨y, ey⟩ : ∃ y, ys[k]'(by rw [Hm.out]; omega) = y := ⟨_, rfl⟩
      obtain ⟨b2, off2, cs2, rfl, hne, h2, hy⟩ := hs.get k (by rw [Hm.out]; omega)
      have cx : wr.cell? ⟨b, off + k, none⟩ = some (.int .u64 (x : Int)) := by
        rw [hbk.cell, Put_out _ _ _ _ (by rw [hzl.out]; omega), hx k (by rw [Hn.out]; omega), ex]
      have cy : wr.cell? ⟨b2, off2 + k, none⟩ = some (.int .u64 (y : Int)) := by
        rw [(h2.kept hg (by simpa using hne)).cell, hy k (by rw [Hm.out]; omega), ey]
      have fx : wr.frozen? ⟨b, off + k, none⟩ = false := hbk.frozen _
      have ha := fun w => add64 x y cc hc w
      go_wp2_with fail
      clear ha cx cy fx
      go_roundw
      case rel =>
        refine ⟨k + 1, addHi x y cc, zs ++ [addLo x y cc], by omega, by go_num, rfl, addHi_le (ex ▸ dx.get k _) (ey ▸ dy.get k _) hc, ?_, hzd.snoc (addLo_lt _ _ _), ?_, grown_set hg _ _, ?_⟩
        · show _ = _; rw [List.length_append, hzl.out]; rfl
        · rw [Put_snoc, hzl.out]; exact hbk.setCell _ _
        · show _ = _
          rw [val_snoc, hzl.out, sum_step k _ x y cc _ hv.out, val_take_succ B xs k (by rw [Hn.out]; omega), val_take_succ B ys k (by rw [Hm.out]; omega), ex, ey]; omega
      case measure => simp [intOf]; omega
    · obtain rfl : k = m := by omega
      go_wp2_with fail
      have hrest : Hid (val B (ys.take k) = val B ys) := by show _ = _; rw [← Hm.out, List.take_length]
      go_loopw [5, 8] (fun c i w2 => ∃ (j cc : Nat) (zs : List Nat), k ≤ j ∧ j ≤ n ∧ i = .int .i64 j ∧ c = .int .u64 cc ∧ cc ≤ 1 ∧ Hid (zs.length = j) ∧ Dig B zs ∧ Blk w2 b (Put cs off zs) ∧ w.grownBy w2 (some b) ∧ Hid (val B zs + cc * B ^ j = val B (xs.take j) + val B ys))
        (fun _ i _ => n - (intOf i).toNat)
      case atStart => exact ⟨k, cc, zs, Nat.le_refl _, hl, rfl, rfl, hc, hzl, hzd, hbk, hg, by show _ = _; rw [hv.out, hrest.out]⟩
      case round =>
        clear hzl hzd hbk hg hv
        obtain ⟨j, c2, zs, hkj, hj, rfl, rfl, hc2, hzl, hzd, hbk, hg, hv⟩ := hrel
        by_cases hgo : j < n ∧ 0 < c2
        · obtain ⟨hlt, hpos⟩ := hgo
          obtain rfl : c2 = 1 := by omega
          obtain ⟨x, ex⟩ : ∃ x, xs[j]'(by rw [Hn.out]; omega) = x := ⟨_, rfl⟩
          have cx : wr.cell? ⟨b, off + j, none⟩ = some (.int .u64 (x : Int)) := by
            rw [hbk.cell, Put_out _ _ _ _ (by rw [hzl.out]; omega), hx j (by rw [Hn.out]; omega), ex]
          have fx : wr.frozen? ⟨b, off + j, none⟩ = false := hbk.frozen _
          have ha : ∀ w, (callFunc 72 #[.int .u64 (x : Int), .int .u64 0, .int .u64 1]).run Tryz.prog w = .ok (.value (.tuple #[.int .u64 (addLo x 0 1 : Int), .int .u64 (addHi x 0 1 : Int)])) w := fun w => add64 x 0 1 (Nat.le_refl _) w
          go_wp2_with fail
          clear ha cx fx
          go_roundw
          case rel =>
            refine ⟨j + 1, addHi x 0 1, zs ++ [addLo x 0 1], by omega, by omega, by go_num, rfl, addHi_le (ex ▸ dx.get j _) B_pos (Nat.le_refl _), ?_, hzd.snoc (addLo_lt _ _ _), ?_, grown_set hg _ _, ?_⟩
            · show _ = _; rw [List.length_append, hzl.out]; rfl
            · rw [Put_snoc, hzl.out]; exact hbk.setCell _ _
            · show _ = _
              rw [val_snoc, hzl.out, sum_step j _ x 0 1 _ hv.out, val_take_succ B xs j (by rw [Hn.out]; omega), ex]; omega
          case measure => simp [intOf]; omega
        · have hfin : AddedTo w b off xs ys cs (.returned (.int .u64 (c2 : Int))) wr := by
            have hz := val_split B xs j (by rw [Hn.out]; omega)
            have hlen : (zs ++ xs.drop j).length = n := by rw [List.length_append, hzl.out, List.length_drop, Hn.out]; omega
            have hcs : zs = [] ∨ off + j ≤ cs.size := by
              rcases hx.le with h | h
              · left; rw [← List.length_eq_zero_iff, hzl.out]; rw [← Hn.out, h] at hj; simpa using hj
              · right; rw [Hn.out] at h; omega
            refine ⟨c2, zs ++ xs.drop j, Put cs off zs, rfl, hbk, ⟨size_Put _ _ _, fun i hi => Put_out _ _ _ _ (by rw [hlen] at hi; rw [hzl.out]; omega), ?_⟩, hg, hlen.trans Hn.out.symm, hzd.append (dx.drop j), hc2, ?_⟩
            · refine At.append ?_ ?_
              · rcases hcs with h | h
                · rw [h]; exact At.nil _ _
                · exact Put_in _ _ _ (by rw [hzl.out]; exact h)
              · rw [hzl.out]; exact (hx.drop j).put_out (by rw [hzl.out]; omega)
            · rw [val_append, hzl.out, Hn.out]
              have hv := hv.out
              rw [hz]
              by_cases h0 : c2 = 0
              · subst h0; simp only [Nat.zero_mul, Nat.add_zero] at hv ⊢; omega
              · obtain rfl : j = n := by omega
                have : xs.drop j = [] := List.drop_eq_nil_of_le (by rw [Hn.out]; omega)
                rw [this]; simp only [val, Nat.mul_zero, Nat.add_zero]; omega
          have HF := Lib.hid hfin
          clear hfin hzl hzd hbk hg hv hrest
          by_cases hjn : j < n
          · obtain rfl : c2 = 0 := by omega
            go_wp2_with fail
            go_ret
            exact HF.out
          · obtain rfl : j = n := by omega
            go_wp2_with fail
            go_ret
            exact HF.out

/-- One step of a difference by limbs. -/
theorem dif_step (k v x y c s t : Nat) (hx : x < B) (hy : y < B) (hc : c ≤ 1) (h : v + t = s + c * B ^ k) : v + B ^ k * subLo x y c + (t + B ^ k * y) = s + B ^ k * x + subHi x y c * B ^ (k + 1) := borrow_step B k v x y c s t hx hy hc h

/-- What takeFrom leaves: the difference in the limbs' place. -/
def TookFrom (w : World) (b off : Nat) (xs ys : List Nat) (cs : Array Value) (e : Ending) (w' : World) : Prop :=
  ∃ (zs : List Nat) (cs' : Array Value), e = .returned (.tuple #[]) ∧ Blk w' b cs' ∧ Wrote cs cs' off zs ∧ w.grownBy w' (some b) ∧ zs.length = xs.length ∧ Dig B zs ∧ val B zs + val B ys = val B xs

set_option maxHeartbeats 1000000 in
theorem takeFrom_any (w : World) (b off cap : Nat) (xs : List Nat) (cs : Array Value) (sa : Option Addr) (cap2 : Nat) (ys : List Nat)
    (hb : Blk w b cs) (hx : At cs off xs) (hs : Rd w sa ys b) (hl : ys.length ≤ xs.length) (hm : xs.length ≤ 1099511627776) (dx : Dig B xs) (dy : Dig B ys) (hle : val B ys ≤ val B xs) :
    Calls Tryz.prog 104 #[.slice (some ⟨b, off, none⟩) xs.length cap, .slice sa ys.length cap2] w (TookFrom w b off xs ys cs) := by
  generalize hn : xs.length = n at *
  generalize hmm : ys.length = m at *
  have Hn := Lib.hid hn
  have Hm := Lib.hid hmm
  have Hle := Lib.hid hle
  clear hn hmm hle
  go_enter Tryz.func104, Tryz.ntmps104
  go_wp2_with fail
  go_loopw [4, 10] (fun c i wr => ∃ (k cc : Nat) (zs : List Nat), k ≤ m ∧ i = .int .i64 k ∧ c = .int .u64 cc ∧ cc ≤ 1 ∧ Hid (zs.length = k) ∧ Dig B zs ∧ Blk wr b (Put cs off zs) ∧ w.grownBy wr (some b) ∧ Hid (val B zs + val B (ys.take k) = val B (xs.take k) + cc * B ^ k))
    (fun _ i _ => m - (intOf i).toNat)
  case atStart => exact ⟨0, 0, [], Nat.zero_le _, rfl, rfl, Nat.zero_le _, rfl, Dig.nil _, hb, grown_refl _ _, by show _ = _; simp [val]⟩
  case round =>
    obtain ⟨k, cc, zs, hk, rfl, rfl, hc, hzl, hzd, hbk, hg, hv⟩ := hrel
    by_cases hlt : k < m
    · obtain ⟨x, ex⟩ : ∃ x, xs[k]'(by rw [Hn.out]; omega) = x := ⟨_, rfl⟩
      obtain ⟨y, ey⟩ : ∃ y, ys[k]'(by rw [Hm.out]; omega) = y := ⟨_, rfl⟩
      obtain ⟨b2, off2, cs2, rfl, hne, h2, hy⟩ := hs.get k (by rw [Hm.out]; omega)
      have cx : wr.cell? ⟨b, off + k, none⟩ = some (.int .u64 (x : Int)) := by
        rw [hbk.cell, Put_out _ _ _ _ (by rw [hzl.out]; omega), hx k (by rw [Hn.out]; omega), ex]
      have cy : wr.cell? ⟨b2, off2 + k, none⟩ = some (.int .u64 (y : Int)) := by
        rw [(h2.kept hg (by simpa using hne)).cell, hy k (by rw [Hm.out]; omega), ey]
      have fx : wr.frozen? ⟨b, off + k, none⟩ = false := hbk.frozen _
      have ha := fun w => sub64 x y cc hc w
      go_wp2_with fail
      clear ha cx cy fx
      go_roundw
      case rel =>
        refine ⟨k + 1, subHi x y cc, zs ++ [subLo x y cc], by omega, by go_num, rfl, subHi_le _ _ _, ?_, hzd.snoc (subLo_lt _ _ _), ?_, grown_set hg _ _, ?_⟩
        · show _ = _; rw [List.length_append, hzl.out]; rfl
        · rw [Put_snoc, hzl.out]; exact hbk.setCell _ _
        · show _ = _
          have hxB : x < B := ex ▸ dx.get k _
          have hyB : y < B := ey ▸ dy.get k _
          rw [val_snoc, hzl.out, val_take_succ B xs k (by rw [Hn.out]; omega), val_take_succ B ys k (by rw [Hm.out]; omega), ex, ey]
          exact dif_step k _ x y cc _ _ hxB hyB hc hv.out
      case measure => simp [intOf]; omega
    · obtain rfl : k = m := by omega
      go_wp2_with fail
      have hrest : Hid (val B (ys.take k) = val B ys) := by show _ = _; rw [← Hm.out, List.take_length]
      go_loopw [4, 7] (fun c i w2 => ∃ (j cc : Nat) (zs : List Nat), k ≤ j ∧ j ≤ n ∧ i = .int .i64 j ∧ c = .int .u64 cc ∧ cc ≤ 1 ∧ Hid (zs.length = j) ∧ Dig B zs ∧ Blk w2 b (Put cs off zs) ∧ w.grownBy w2 (some b) ∧ Hid (val B zs + val B ys = val B (xs.take j) + cc * B ^ j))
        (fun _ i _ => n - (intOf i).toNat)
      case atStart => exact ⟨k, cc, zs, Nat.le_refl _, hl, rfl, rfl, hc, hzl, hzd, hbk, hg, by show _ = _; rw [← hv.out, hrest.out]⟩
      case round =>
        clear hzl hzd hbk hg hv
        obtain ⟨j, c2, zs, hkj, hj, rfl, rfl, hc2, hzl, hzd, hbk, hg, hv⟩ := hrel
        by_cases hpos : 0 < c2
        · obtain rfl : c2 = 1 := by omega
          have hlt : j < n := by
            refine Nat.lt_of_le_of_ne hj fun e => ?_
            subst e
            have h1 := hv.out
            have h2 := val_lt B zs hzd
            have h3 := Hle.out
            rw [hzl.out] at h2
            rw [← Hn.out, List.take_length, Hn.out] at h1
            omega
          obtain ⟨x, ex⟩ : ∃ x, xs[j]'(by rw [Hn.out]; omega) = x := ⟨_, rfl⟩
          have cx : wr.cell? ⟨b, off + j, none⟩ = some (.int .u64 (x : Int)) := by
            rw [hbk.cell, Put_out _ _ _ _ (by rw [hzl.out]; omega), hx j (by rw [Hn.out]; omega), ex]
          have fx : wr.frozen? ⟨b, off + j, none⟩ = false := hbk.frozen _
          have ha : ∀ w, (callFunc 110 #[.int .u64 (x : Int), .int .u64 0, .int .u64 1]).run Tryz.prog w = .ok (.value (.tuple #[.int .u64 (subLo x 0 1 : Int), .int .u64 (subHi x 0 1 : Int)])) w := fun w => sub64 x 0 1 (Nat.le_refl _) w
          go_wp2_with fail
          clear ha cx fx
          go_roundw
          case rel =>
            refine ⟨j + 1, subHi x 0 1, zs ++ [subLo x 0 1], by omega, by omega, by go_num, rfl, subHi_le _ _ _, ?_, hzd.snoc (subLo_lt _ _ _), ?_, grown_set hg _ _, ?_⟩
            · show _ = _; rw [List.length_append, hzl.out]; rfl
            · rw [Put_snoc, hzl.out]; exact hbk.setCell _ _
            · show _ = _
              have hxB : x < B := ex ▸ dx.get j _
              have := dif_step j _ x 0 1 _ _ hxB B_pos (Nat.le_refl _) hv.out
              rw [val_snoc, hzl.out, val_take_succ B xs j (by rw [Hn.out]; omega), ex]
              simpa using this
          case measure => simp [intOf]; omega
        · obtain rfl : c2 = 0 := by omega
          have hfin : TookFrom w b off xs ys cs (.returned (.tuple #[])) wr := by
            have hz := val_split B xs j (by rw [Hn.out]; omega)
            have hlen : (zs ++ xs.drop j).length = n := by rw [List.length_append, hzl.out, List.length_drop, Hn.out]; omega
            have hcs : zs = [] ∨ off + j ≤ cs.size := by
              rcases hx.le with h | h
              · left; rw [← List.length_eq_zero_iff, hzl.out]; rw [← Hn.out, h] at hj; simpa using hj
              · right; rw [Hn.out] at h; omega
            refine ⟨zs ++ xs.drop j, Put cs off zs, rfl, hbk, ⟨size_Put _ _ _, fun i hi => Put_out _ _ _ _ (by rw [hlen] at hi; rw [hzl.out]; omega), ?_⟩, hg, hlen.trans Hn.out.symm, hzd.append (dx.drop j), ?_⟩
            · refine At.append ?_ ?_
              · rcases hcs with h | h
                · rw [h]; exact At.nil _ _
                · exact Put_in _ _ _ (by rw [hzl.out]; exact h)
              · rw [hzl.out]; exact (hx.drop j).put_out (by rw [hzl.out]; omega)
            · rw [val_append, hzl.out]
              have hv := hv.out
              rw [hz]
              simp only [Nat.zero_mul, Nat.add_zero] at hv
              omega
          have HF := Lib.hid hfin
          clear hfin hzl hzd hbk hg hv hrest
          go_wp2_with fail
          go_end0
          exact HF.out

/-- Less, the same, greater. -/
def cmpInt (a b : Nat) : Int := if a < b then -1 else if a = b then 0 else 1
theorem cmpInt_lt {a b : Nat} (h : a < b) : cmpInt a b = -1 := by unfold cmpInt; rw [if_pos h]
theorem cmpInt_eq {a b : Nat} (h : a = b) : cmpInt a b = 0 := by unfold cmpInt; rw [if_neg (by omega), if_pos h]
theorem cmpInt_gt {a b : Nat} (h : b < a) : cmpInt a b = 1 := by unfold cmpInt; rw [if_neg (by omega), if_neg (by omega)]
theorem cmpInt_bd (a b : Nat) : -1 ≤ cmpInt a b ∧ cmpInt a b ≤ 1 := by unfold cmpInt; split <;> (try split) <;> omega

/-- A slice that is only read. -/
def Rdo (w : World) (sa : Option Addr) (xs : List Nat) : Prop := xs = [] ∨ ∃ (b off : Nat) (cs : Array Value), sa = some ⟨b, off, none⟩ ∧ Blk w b cs ∧ At cs off xs
theorem Rdo.get {w : World} {sa : Option Addr} {xs : List Nat} (h : Rdo w sa xs) (k : Nat) (hk : k < xs.length) : ∃ (b off : Nat) (cs : Array Value), sa = some ⟨b, off, none⟩ ∧ Blk w b cs ∧ At cs off xs := by
  rcases h with h | h
  · rw [h] at hk; simp at hk
  · exact h
theorem Rdo.cell {w : World} {sa : Option Addr} {xs : List Nat} (h : Rdo w sa xs) (hx : 0 < xs.length) : ∃ (b off : Nat), sa = some ⟨b, off, none⟩ ∧ ∀ k (hk : k < xs.length), w.cell? ⟨b, off + k, none⟩ = some (.int .u64 (xs[k] : Int)) := by
  obtain ⟨b, off, cs, e, h1, h2⟩ := h.get 0 hx
  exact ⟨b, off, e, fun k hk => h1.at h2 k hk⟩

/-- What compare tells. -/
def Compared (w : World) (a b : Nat) (e : Ending) (w' : World) : Prop := e = .returned (.int .i64 (cmpInt a b)) ∧ ∃ q, w' = w.drewN q

theorem blk_drewN {w : World} {b : Nat} {cs : Array Value} (h : Blk w b cs) : ∀ q, Blk (w.drewN q) b cs := fun _ => h

set_option maxHeartbeats 1000000 in
theorem compare_less (w : World) (sa sb : Option Addr) (ca cb n m : Nat) (hlt : n < m) (hn : n ≤ 1099511627776) (hm : m ≤ 1099511627776) :
    Calls Tryz.prog 82 #[.slice sa n ca, .slice sb m cb] w fun e w' => e = .returned (.int .i64 (-1)) ∧ w = w' := by
  have h0 : ((n : Int) != (m : Int)) = true := by rw [bne_iff_ne]; omega
  go_enter Tryz.func82, Tryz.ntmps82
  go_wp2_with fail
  go_ret
  exact ⟨rfl, rfl⟩
set_option maxHeartbeats 1000000 in
theorem compare_more (w : World) (sa sb : Option Addr) (ca cb n m : Nat) (hlt : m < n) (hn : n ≤ 1099511627776) (hm : m ≤ 1099511627776) :
    Calls Tryz.prog 82 #[.slice sa n ca, .slice sb m cb] w fun e w' => e = .returned (.int .i64 1) ∧ w = w' := by
  have h0 : ((n : Int) != (m : Int)) = true := by rw [bne_iff_ne]; omega
  go_enter Tryz.func82, Tryz.ntmps82
  go_wp2_with fail
  go_ret
  exact ⟨rfl, rfl⟩

set_option maxHeartbeats 1000000 in
theorem compare_same (w : World) (sa sb : Option Addr) (ca cb : Nat) (xs ys : List Nat) (n : Nat) (hx : Rdo w sa xs) (hy : Rdo w sb ys) (hl : xs.length = n) (hl2 : ys.length = n) (hn : n ≤ 1099511627776) (dx : Dig B xs) (dy : Dig B ys) :
    Calls Tryz.prog 82 #[.slice sa n ca, .slice sb n cb] w (Compared w (val B xs) (val B ys)) := by
  have Hx := Lib.hid hl
  have Hy := Lib.hid hl2
  clear hl hl2
  go_enter Tryz.func82, Tryz.ntmps82
  go_wp2_with fail
  go_loopw [5] (fun i wr => ∃ (k q : Nat), k ≤ n ∧ i = .int .i64 ((k : Int) - 1) ∧ wr = w.drewN q ∧ Hid (xs.drop k = ys.drop k)) (fun i _ => (intOf i + 1).toNat)
  case atStart => exact ⟨n, 0, Nat.le_refl _, rfl, rfl, by show _ = _; rw [List.drop_eq_nil_of_le (by rw [Hx.out]; omega), List.drop_eq_nil_of_le (by rw [Hy.out]; omega)]⟩
  case round =>
    obtain ⟨k, q, hk, rfl, rfl, hd⟩ := hrel
    by_cases h0 : k = 0
    · subst h0
      go_wp2_with fail
      go_ret
      exact ⟨by rw [cmpInt_eq (by have := hd.out; simp at this; rw [this])]; rfl, q, rfl⟩
    · obtain ⟨j, rfl⟩ : ∃ j, k = j + 1 := ⟨k - 1, by omega⟩
      clear h0
      obtain ⟨b1, o1, rfl, c1⟩ := hx.cell (by rw [Hx.out]; omega)
      obtain ⟨b2, o2, rfl, c2⟩ := hy.cell (by rw [Hy.out]; omega)
      have c1 := c1 j (by rw [Hx.out]; omega)
      have c2 := c2 j (by rw [Hy.out]; omega)
      obtain ⟨x, ex⟩ : ∃ x, xs[j]'(by rw [Hx.out]; omega) = x := ⟨_, rfl⟩
      obtain ⟨y, ey⟩ : ∃ y, ys[j]'(by rw [Hy.out]; omega) = y := ⟨_, rfl⟩
      rw [ex] at c1
      rw [ey] at c2
      have e1 : ((j + 1 : Nat) : Int) - 1 = (j : Int) := by omega
      rw [e1]
      clear e1
      have EX := Lib.hid ex
      have EY := Lib.hid ey
      clear ex ey
      by_cases hxy : x = y
      · have t : ((x : Int) != (y : Int)) = false := by rw [bne_eq_false_iff_eq]; omega
        go_wp2_with fail
        go_quiet (fail)
        go_wp2_with fail
        go_roundw
        case rel => exact ⟨j, _, by omega, by go_num, rfl, by
          show _ = _; rw [List.drop_eq_getElem_cons (by rw [Hx.out]; omega), List.drop_eq_getElem_cons (l := ys) (by rw [Hy.out]; omega), EX.out, EY.out, hxy, hd.out]⟩
        case measure => simp [intOf]
      · have t : ((x : Int) != (y : Int)) = true := by rw [bne_iff_ne]; omega
        by_cases hlt : x < y
        · have hv := val_lt_at B xs ys j (by rw [Hx.out, Hy.out]) (by rw [Hx.out]; omega) dx hd.out (by rw [EX.out, EY.out]; exact hlt)
          have hC := Lib.hid (cmpInt_lt hv)
          clear hv
          go_wp2_with fail
          go_quiet (fail)
          go_wp2_with fail
          go_quiet (fail)
          go_wp2_with fail
          go_ret
          exact ⟨by rw [hC.out]; rfl, _, by rw [World.drewN_drewN, World.drewN_drewN]⟩
        · have hlt' : y < x := by omega
          have hv := val_lt_at B ys xs j (by rw [Hx.out, Hy.out]) (by rw [Hy.out]; omega) dy hd.out.symm (by rw [EX.out, EY.out]; exact hlt')
          have hC := Lib.hid (cmpInt_gt hv)
          clear hv
          go_wp2_with fail
          go_quiet (fail)
          go_wp2_with fail
          go_quiet (fail)
          go_wp2_with fail
          go_ret
          exact ⟨by rw [hC.out]; rfl, _, by rw [World.drewN_drewN, World.drewN_drewN]⟩
end Go.Proofs.YtldkddogadmpbaaGreatDoor
