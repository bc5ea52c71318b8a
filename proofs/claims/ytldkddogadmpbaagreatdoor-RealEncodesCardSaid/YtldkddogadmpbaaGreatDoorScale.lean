/- Limbs times a word, and a word. -/
import Derived.Test.YtldkddogadmpbaaGreatDoorWord
import Derived.Deep.AppendLies
namespace Go.Proofs.YtldkddogadmpbaaGreatDoor
open Go.RowKit Mat
set_option maxRecDepth 100000
set_option linter.unusedVariables false
set_option linter.unusedSimpArgs false

/-- A limb as a value. -/
def uv (x : Nat) : Value := .int .u64 (x : Int)
theorem own_put {w : World} {base g n cap : Nat} {cs : Array Value} {zs : List Nat} (hb : Blk w g (Put cs 0 zs)) (hz : zs.length = n) (hn : n ≤ cap) (hc : cap ≤ maxLen) (hs : cs.size = cap) (hl : base ≤ g) :
    w.ownsRow base 71 1 (.slice (some ⟨g, 0, none⟩) n cap) n (zs.map uv) := by
  refine ⟨by rw [List.length_map, hz, Nat.mul_one], Or.inr ⟨g, cap, Put cs 0 zs, rfl, hl, hb, hn, hc, by rw [size_Put, hs, Nat.mul_one], ?_⟩⟩
  have hat := Put_in zs cs 0 (by omega)
  apply List.ext_getElem?
  intro i
  rw [Nat.mul_one, List.getElem?_take]
  by_cases hi : i < n
  · rw [if_pos hi, List.getElem?_map, List.getElem?_eq_getElem (l := zs) (by omega)]
    have := hat i (by omega)
    rw [Nat.zero_add] at this
    rw [Array.getElem?_toList, this]
    rfl
  · rw [if_neg hi, List.getElem?_eq_none (by rw [List.length_map]; omega)]
theorem own_row {w : World} {base : Nat} {s : Option Addr} {n cap : Nat} {xs : List Nat} (h : w.ownsRow base 71 1 (.slice s n cap) n (xs.map uv)) (hn : 0 < n) :
    ∃ g cs, s = some ⟨g, 0, none⟩ ∧ base ≤ g ∧ Blk w g cs ∧ n ≤ cap ∧ cap ≤ maxLen ∧ cs.size = cap ∧ At cs 0 xs := by
  obtain ⟨h1, h2 | ⟨g, cap', cur, e, hg, hb, hc, hm, hs, ht⟩⟩ := h
  · omega
  · cases e
    refine ⟨g, cur, rfl, hg, hb, hc, hm, by omega, ?_⟩
    intro i hi
    rw [List.length_map, Nat.mul_one] at h1
    have h3 : (cur.toList.take (n * 1))[i]? = (xs.map uv)[i]? := by rw [ht]
    rw [Nat.mul_one, List.getElem?_take, if_pos (by omega), Array.getElem?_toList, List.getElem?_map, List.getElem?_eq_getElem hi] at h3
    rw [Nat.zero_add]; exact h3
theorem own_alloc {w : World} {base : Nat} {v : Value} {n : Nat} {xs : List Value} (h : w.ownsRow base 71 1 v n xs) (o : Obj) : (w.alloc o).ownsRow base 71 1 v n xs := by
  obtain ⟨h1, h2 | ⟨g, cap', cur, e, hg, hb, hr⟩⟩ := h
  · exact ⟨h1, Or.inl h2⟩
  · exact ⟨h1, Or.inr ⟨g, cap', cur, e, hg, (Below.heap_alloc w o g (Array.getElem?_eq_some_iff.1 hb).1).trans hb, hr⟩⟩

theorem one_uv {ad : Nat} : ∀ u ∈ ([uv ad] : List Value), u.oneCell' = true := by intro u hu; simp at hu; subst hu; rfl

/-- What scaled answers. -/
def ScaledTo (w : World) (base : Nat) (xs : List Nat) (by' add : Nat) (e : Ending) (w' : World) : Prop :=
  ∃ (s : Option Addr) (n cap : Nat) (zs : List Nat), e = .returned (.slice s n cap) ∧ w'.ownsRow base 71 1 (.slice s n cap) n (zs.map uv) ∧ zs.length = n ∧ n ≤ xs.length + 1 ∧ Dig B zs ∧ val B zs = val B xs * by' + add ∧ Below base w w' ∧ (n = 0 → s = none ∧ cap = 0)

theorem scale_step (k v x by' add s : Nat) (h : v + add * B ^ k = s) :
    v + B ^ k * addLo (mulLo x by') add 0 + (mulHi x by' + addHi (mulLo x by') add 0) * B ^ (k + 1) = s + B ^ k * (x * by') := by
  have e1 := mul_eq x by'
  have e2 : addLo (mulLo x by') add 0 + B * addHi (mulLo x by') add 0 = mulLo x by' + add + 0 := Nat.mod_add_div ..
  generalize addLo (mulLo x by') add 0 = r2 at *
  generalize addHi (mulLo x by') add 0 = c2 at *
  generalize mulLo x by' = r1 at *
  generalize mulHi x by' = q1 at *
  rw [← e1, Nat.pow_succ]
  grind

set_option maxHeartbeats 2000000 in
theorem scaled_some (w : World) (base g n cap : Nat) (cs : Array Value) (xs : List Nat) (by' add : Nat) (hn : xs.length = n) (h0 : 0 < n) (hg0 : base ≤ g) (hb : Blk w g cs) (hx : At cs 0 xs) (hnc : n ≤ cap) (hcm : cap ≤ maxLen) (hcs : cs.size = cap) (dx : Dig B xs) (bn : n ≤ 1000000) (hby : by' < B) (had : add < B) :
    Calls Tryz.prog 41 #[.slice (some ⟨g, 0, none⟩) n cap, .int .u64 (by' : Int), .int .u64 (add : Int)] w (ScaledTo w base xs by' add) := by
  have Hn := Lib.hid hn
  have hbyN : by' < 18446744073709551616 := hby
  have HCM := Lib.hid hcm
  have hsz := hb.lt
  obtain ⟨i0, hi, hz0, hz1, hz2⟩ := info_parts Tryz.infoU64
  clear hn hcm
  go_enter Tryz.func41, Tryz.ntmps41
  go_wp2_with fail
  go_loopw [2, 14] (fun c i wr => ∃ (k ad : Nat) (zs : List Nat), k ≤ n ∧ i = .int .i64 k ∧ c = .int .u64 ad ∧ ad < B ∧ Hid (zs.length = k) ∧ Dig B zs ∧ Blk wr g (Put cs 0 zs) ∧ w.grownBy wr (some g) ∧ Hid (val B zs + ad * B ^ k = val B (xs.take k) * by' + add))
    (fun _ i _ => n - (intOf i).toNat)
  case atStart => exact ⟨0, add, [], Nat.zero_le _, rfl, rfl, had, rfl, Dig.nil _, hb, grown_refl _ _, by show _ = _; simp [val]⟩
  case round =>
    obtain ⟨k, ad, zs, hk, rfl, rfl, hc, hzl, hzd, hbk, hg, hv⟩ := hrel
    by_cases hlt : k < n
    · obtain ⟨x, ex⟩ : ∃ x, xs[k]'(by rw [Hn.out]; omega) = x := ⟨_, rfl⟩
      have hxB : x < B := ex ▸ dx.get k _
      have cx : wr.cell? ⟨g, k, none⟩ = some (.int .u64 (x : Int)) := by
        have := hx k (by rw [Hn.out]; omega)
        rw [Nat.zero_add, ex] at this
        rw [hbk.cell, Put_out _ _ _ _ (by rw [hzl.out]; omega), this]
      have fx : wr.frozen? ⟨g, k, none⟩ = false := hbk.frozen _
      have EX := Lib.hid ex
      clear ex
      have ha1 : ∀ w, (callFunc 72 #[.int .u64 (mulLo x by' : Int), .int .u64 (ad : Int), .int .u64 0]).run Tryz.prog w = .ok (.value (.tuple #[.int .u64 (addLo (mulLo x by') ad 0 : Int), .int .u64 (addHi (mulLo x by') ad 0 : Int)])) w := fun w => add64 _ _ 0 (Nat.zero_le _) w
      obtain ⟨b1, _⟩ := muladd_bd hxB hxB hby hc
      have b2 := b1
      have b1 : mulHi x by' + addHi (mulLo x by') ad 0 < 18446744073709551616 := b1
      go_wp2_with (go_at_call 71; refine (mul64_any x by' hxB hby _).mono ?_; rintro e w' ⟨rfl, rfl⟩)
      clear ha1 cx fx
      go_roundw
      case rel =>
        refine ⟨k + 1, mulHi x by' + addHi (mulLo x by') ad 0, zs ++ [addLo (mulLo x by') ad 0], by omega, by go_num, by go_num, b2, ?_, hzd.snoc (addLo_lt _ _ _), ?_, grown_set hg _ _, ?_⟩
        · show _ = _; rw [List.length_append, hzl.out]; rfl
        · rw [Put_snoc, hzl.out, Nat.zero_add]; exact hbk.setCell _ _
        · show _ = _
          rw [val_snoc, hzl.out, scale_step k _ x by' ad _ hv.out, val_take_succ B xs k (by rw [Hn.out]; omega), EX.out, Nat.add_mul, Nat.mul_assoc]; omega
      case measure => simp [intOf]; omega
    · obtain rfl : k = n := by omega
      have hvv : Hid (val B zs + ad * B ^ k = val B xs * by' + add) := by
        show _ = _; rw [hv.out, List.take_of_length_le (by rw [Hn.out]; omega)]
      clear hv
      by_cases ha0 : ad = 0
      · subst ha0
        have hF : Hid (ScaledTo w base xs by' add (.returned (.slice (some ⟨g, 0, none⟩) k cap)) wr) := by
          refine ⟨_, k, cap, zs, rfl, own_put hbk hzl.out hnc HCM.out hcs hg0, hzl.out, by rw [Hn.out]; omega, hzd, ?_, below_row hg hg0 (by omega), fun e => absurd e (by omega)⟩
          have := hvv.out; omega
        clear hvv
        go_wp2_with fail
        go_ret
        exact hF.out
      · have f1 : decide ((0 : Int) < (ad : Int)) = true := decide_eq_true (by omega)
        have hown := own_alloc (own_put hbk hzl.out hnc HCM.out hcs hg0) (.cells #[.int .u64 (ad : Int)] 71)
        have hnews : ∀ j u, ([uv ad] : List Value)[j]? = some u → (wr.alloc (.cells #[.int .u64 (ad : Int)] 71)).cell? ((⟨wr.heap.size, 0, none⟩ : Addr).add j) = some u := World.news_of_block (heap_alloc_new wr _)
        have HVV := hvv
        have hbl : Below base w (wr.alloc (.cells #[.int .u64 (ad : Int)] 71)) := (below_row hg hg0 (by omega)).trans (below_none (World.grownBy_alloc _ _ _) (by have := hg.size; omega))
        have hbs : base ≤ (wr.alloc (.cells #[.int .u64 (ad : Int)] 71)).heap.size := by have := hg.size; simp; omega
        go_wp2_with (at_builtin; refine wpList_append_lies _ rfl _ _ _ rfl base 71 i0 (.int .u64 0) 1 8 Tryz.underlying22 hi hz0 hz1 hz2 rfl (by omega) (.slice (some ⟨g, 0, none⟩) k cap) k (zs.map uv) rfl hown ⟨wr.heap.size, 0, none⟩ 1 1 [uv ad] rfl rfl hnews one_uv (by omega) (by unfold maxLen; omega) (by omega) hbs (wr.heap.size + 1) (by simp) ?_; intro g2 cap2 w2 hown2 hgrow hat hlt2)
        go_ret
        refine ⟨_, k + 1, cap2, zs ++ [ad], rfl, ?_, ?_, by rw [Hn.out]; omega, hzd.snoc hc, ?_, hbl.trans (below_row (g := g) hgrow hg0 hbs), fun e => absurd e (by omega)⟩
        · rw [List.map_append]; exact hown2
        · rw [List.length_append, hzl.out]; rfl
        · rw [val_snoc, hzl.out, Nat.mul_comm (B ^ k)]; exact hvv.out
set_option maxHeartbeats 2000000 in
theorem scaled_nil (w : World) (base : Nat) (by' add : Nat) (hbs0 : base ≤ w.heap.size) (had : add < B) :
    Calls Tryz.prog 41 #[.slice none 0 0, .int .u64 (by' : Int), .int .u64 (add : Int)] w (ScaledTo w base [] by' add) := by
  obtain ⟨i0, hi, hz0, hz1, hz2⟩ := info_parts Tryz.infoU64
  have hnil : w.ownsRow base 71 1 (.slice none 0 0) 0 (([] : List Nat).map uv) := ⟨rfl, Or.inl ⟨rfl, rfl⟩⟩
  by_cases ha0 : add = 0
  · subst ha0
    have hF : Hid (ScaledTo w base [] by' 0 (.returned (.slice none 0 0)) w) := ⟨none, 0, 0, [], rfl, hnil, rfl, by simp, Dig.nil _, by simp [val], Below.refl _ _, fun _ => ⟨rfl, rfl⟩⟩
    go_enter Tryz.func41, Tryz.ntmps41
    go_wp2_with fail
    go_loopw [2, 14] (fun c i wr => c = .int .u64 0 ∧ i = .int .i64 0 ∧ wr = w) (fun _ _ _ => 0)
    case atStart => exact ⟨rfl, rfl, rfl⟩
    case round =>
      obtain ⟨rfl, rfl, rfl⟩ := hrel
      go_wp2_with fail
      go_ret
      exact hF.out
  · have f1 : decide ((0 : Int) < (add : Int)) = true := decide_eq_true (by omega)
    have hown := own_alloc hnil (.cells #[.int .u64 (add : Int)] 71)
    have hnews : ∀ j u, ([uv add] : List Value)[j]? = some u → (w.alloc (.cells #[.int .u64 (add : Int)] 71)).cell? ((⟨w.heap.size, 0, none⟩ : Addr).add j) = some u := World.news_of_block (heap_alloc_new w _)
    have hbl : Below base w (w.alloc (.cells #[.int .u64 (add : Int)] 71)) := below_none (World.grownBy_alloc _ _ _) hbs0
    have hbs : base ≤ (w.alloc (.cells #[.int .u64 (add : Int)] 71)).heap.size := by simp; omega
    go_enter Tryz.func41, Tryz.ntmps41
    go_wp2_with fail
    go_loopw [2, 14] (fun c i wr => c = .int .u64 (add : Int) ∧ i = .int .i64 0 ∧ wr = w) (fun _ _ _ => 0)
    case atStart => exact ⟨rfl, rfl, rfl⟩
    case round =>
      obtain ⟨rfl, rfl, rfl⟩ := hrel
      go_wp2_with (at_builtin; refine wpList_append_lies _ rfl _ _ _ rfl base 71 i0 (.int .u64 0) 1 8 Tryz.underlying22 hi hz0 hz1 hz2 rfl (by omega) (.slice none 0 0) 0 (([] : List Nat).map uv) rfl hown ⟨wr.heap.size, 0, none⟩ 1 1 [uv add] rfl rfl hnews one_uv (by omega) (by unfold maxLen; omega) (by omega) hbs (wr.heap.size + 1) (by simp) ?_; intro g2 cap2 w2 hown2 hgrow hat hlt2)
      go_ret
      refine ⟨_, 1, cap2, [add], rfl, hown2, rfl, by simp, Dig.cons had (Dig.nil _), by simp [val], hbl.trans (below_none hgrow hbs), fun e => absurd e (by omega)⟩

theorem scaled_any (w : World) (base : Nat) (s : Option Addr) (n cap : Nat) (xs : List Nat) (by' add : Nat) (hn : xs.length = n) (ho : w.ownsRow base 71 1 (.slice s n cap) n (xs.map uv)) (dx : Dig B xs) (bn : n ≤ 1000000) (hby : by' < B) (had : add < B) (hbs : base ≤ w.heap.size) (hz : n = 0 → s = none ∧ cap = 0) :
    Calls Tryz.prog 41 #[.slice s n cap, .int .u64 (by' : Int), .int .u64 (add : Int)] w (ScaledTo w base xs by' add) := by
  rcases Nat.eq_zero_or_pos n with h0 | h0
  · subst h0
    obtain rfl := List.length_eq_zero_iff.1 hn
    obtain ⟨rfl, rfl⟩ := hz rfl
    exact scaled_nil w base by' add hbs had
  · obtain ⟨g, cs, rfl, hg, hb, hc, hm, hs, hat⟩ := own_row ho h0
    exact scaled_some w base g n cap cs xs by' add hn h0 hg hb hat hc hm hs dx bn hby had
end Go.Proofs.YtldkddogadmpbaaGreatDoor
