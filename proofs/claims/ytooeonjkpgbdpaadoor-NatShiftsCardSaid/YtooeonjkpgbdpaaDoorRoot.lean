/- How many bits a number has; roots, by Newton's steps. -/
import Derived.Test.YtooeonjkpgbdpaaDoorDiv
namespace Go.Proofs.YtooeonjkpgbdpaaDoor
open Go.RowKit Mat
set_option maxRecDepth 100000
set_option linter.unusedVariables false
set_option linter.unusedSimpArgs false

/-- How many bits a number has. -/
def nb (a : Nat) : Nat := if a = 0 then 0 else Nat.log2 a + 1
theorem nb_zero : nb 0 = 0 := rfl
theorem nb_pos {a : Nat} (h : 0 < a) : 2 ^ (nb a - 1) ≤ a ∧ a < 2 ^ nb a ∧ 1 ≤ nb a := by
  unfold nb
  rw [if_neg (by omega), Nat.add_sub_cancel]
  exact ⟨Nat.log2_self_le (by omega), Nat.lt_log2_self, by omega⟩
theorem nb_of {a k : Nat} (h1 : 2 ^ k ≤ a) (h2 : a < 2 ^ (k + 1)) : nb a = k + 1 := by
  obtain ⟨a1, a2, a3⟩ := nb_pos (a := a) (Nat.lt_of_lt_of_le (Nat.two_pow_pos k) h1)
  rcases Nat.lt_trichotomy (nb a) (k + 1) with h | h | h
  · have : 2 ^ nb a ≤ 2 ^ k := Nat.pow_le_pow_right (by omega) (by omega)
    omega
  · exact h
  · have : 2 ^ (k + 1) ≤ 2 ^ (nb a - 1) := Nat.pow_le_pow_right (by omega) (by omega)
    omega
theorem nb_limbs {xs : List Nat} (dx : Dig B xs) (n t : Nat) (hn : xs.length = n + 1) (ht : xs.getD n 0 = t) (h0 : t ≠ 0) : nb (val B xs) = n * 64 + Lib.bitLen t := by
  have h1 := val_take_succD B xs n (by omega)
  rw [List.take_of_length_le (by omega), ht] at h1
  have h2 := val_lt B (xs.take n) (dx.take n)
  rw [List.length_take, Nat.min_eq_left (by omega)] at h2
  have htB : t < B := by rw [← ht]; exact dx.getD B_pos n
  obtain ⟨s1, s2, s3⟩ := bitLen_spec (t + 1) t (by omega) h0 (by rw [← B_pow]; exact htB)
  obtain ⟨L, hL⟩ : ∃ L, Lib.bitLen t = L + 1 := ⟨Lib.bitLen t - 1, by omega⟩
  rw [hL, Nat.add_sub_cancel] at s1
  rw [hL] at s2 ⊢
  have hB : B ^ n = 2 ^ (n * 64) := by rw [B_pow, ← Nat.pow_mul, Nat.mul_comm]
  rw [show n * 64 + (L + 1) = (n * 64 + L) + 1 from by omega]
  refine nb_of ?_ ?_
  · rw [h1, Nat.pow_add, ← hB]
    have : B ^ n * 2 ^ L ≤ B ^ n * t := Nat.mul_le_mul_left _ s1
    omega
  · rw [h1, show n * 64 + L + 1 = n * 64 + (L + 1) from by omega, Nat.pow_add, ← hB]
    have : B ^ n * (t + 1) ≤ B ^ n * 2 ^ (L + 1) := Nat.mul_le_mul_left _ s2
    rw [Nat.mul_add, Nat.mul_one] at this
    omega

set_option maxHeartbeats 1000000 in
theorem Bits_any (w : World) (va : Value) (a K : Nat) (ha : NatV w va a) (hK : K ≤ 1073741824) (la : a < B ^ K) :
    Calls Tryd.prog 23 #[va] w fun e w' => e = .returned (.int .i64 (nb a : Int)) ∧ w.grownBy w' none := by
  obtain ⟨sa, xs, rfl, hx, rfl⟩ := ha
  have h1 := hx.len la
  clear la
  by_cases h0 : xs.length = 0
  · obtain rfl : xs = [] := List.length_eq_zero_iff.1 h0
    simp only [List.length_nil]
    go_enter Tryd.func23, Tryd.ntmps23
    go_wp2_with fail
    go_ret
    exact ⟨rfl, World.grownBy_alloc _ _ _⟩
  · obtain ⟨n, hn⟩ : ∃ n, xs.length = n + 1 := ⟨xs.length - 1, by omega⟩
    obtain ⟨b, o, rfl, cx⟩ := hx.rd.cell (by omega)
    obtain ⟨t, ht⟩ : ∃ t, xs.getD n 0 = t := ⟨_, rfl⟩
    have ct := cx n (by omega)
    rw [get_getD, ht] at ct
    have ht0 : t ≠ 0 := by
      refine hx.top _ ?_
      rw [List.getLast?_eq_getElem?, hn, Nat.add_sub_cancel, List.getElem?_eq_getElem (by omega), get_getD, ht]
    have htB : t < B := by rw [← ht]; exact hx.dig.getD B_pos _
    have HB := Lib.hid (nb_limbs hx.dig n t hn ht ht0)
    have hl := bitLen_le t htB
    rw [hn]
    rw [hn] at h1
    have ct2 := (World.grownBy_alloc w (.cells #[.slice (some ⟨b, o, none⟩) (n + 1) (n + 1)] 24) none).cell ct (by simp)
    have f1 : ((n : Int) + 1 == 0) = false := beq_eq_false_iff_ne.2 (by omega)
    clear cx ht hn h0 ct
    go_enter Tryd.func23, Tryd.ntmps23
    go_wp2_with fail
    refine (len64_any t htB _).mono ?_
    rintro e w' ⟨rfl, rfl⟩
    go_wp2_with fail
    go_ret
    refine ⟨?_, World.grownBy_alloc _ _ _⟩
    rw [HB.out]
    exact congrArg Ending.returned (congrArg (Value.int IntKind.i64) (by omega))

/-- r is the root of a, rounded down. -/
def IsRoot (a r : Nat) : Prop := r * r ≤ a ∧ a < (r + 1) * (r + 1)
theorem newton_ge {a R : Nat} (h0 : 0 < R) : a < ((R + a / R) / 2 + 1) * ((R + a / R) / 2 + 1) := by
  have h1 := Nat.div_add_mod a R
  have h2 : a % R < R := Nat.mod_lt _ h0
  generalize a / R = q at *
  generalize a % R = m at *
  have h3 : a < R * (q + 1) := by rw [Nat.mul_add, Nat.mul_one]; omega
  obtain ⟨t, ht⟩ : ∃ t, (R + q) / 2 = t := ⟨_, rfl⟩
  rw [ht]
  have h4 : R + q + 1 ≤ 2 * (t + 1) := by omega
  have h5 : (R + q + 1) * (R + q + 1) ≤ (2 * (t + 1)) * (2 * (t + 1)) := Nat.mul_le_mul h4 h4
  have h6 : 4 * (R * (q + 1)) ≤ (R + q + 1) * (R + q + 1) := by
    rcases Nat.le_total R (q + 1) with h | h
    · obtain ⟨e, he⟩ : ∃ e, q + 1 = R + e := ⟨q + 1 - R, by omega⟩
      rw [Nat.add_assoc, he]
      have : (R + (R + e)) * (R + (R + e)) = 4 * (R * (R + e)) + e * e := by grind
      omega
    · obtain ⟨e, he⟩ : ∃ e, R = (q + 1) + e := ⟨R - (q + 1), by omega⟩
      rw [Nat.add_assoc, he]
      have : ((q + 1) + e + (q + 1)) * ((q + 1) + e + (q + 1)) = 4 * (((q + 1) + e) * (q + 1)) + e * e := by grind
      omega
  have h7 : (2 * (t + 1)) * (2 * (t + 1)) = 4 * ((t + 1) * (t + 1)) := by grind
  omega
theorem newton_stop {a R : Nat} (h0 : 0 < R) (h : R ≤ (R + a / R) / 2) : R * R ≤ a := by
  have h1 : R ≤ a / R := by omega
  exact (Nat.le_div_iff_mul_le h0).1 h1

theorem run_field (v : Value) (W : World) : (Instr.field 24 (.agg #[v]) 0).run Tryd.prog W = .ok v W := by kernel_rfl
theorem Of_one (w : World) : Calls Tryd.prog 22 #[.int .u64 1] w (RetNat w 1) := Of_any w 1 (by decide)

/-- What rootOf and notBelowRoot tell. -/
def RetRoot (w : World) (a K : Nat) (e : Ending) (w' : World) : Prop := ∃ v r, e = .returned v ∧ NatV w' v r ∧ IsRoot a r ∧ w.grownBy w' none
def RetAbove (w : World) (a K : Nat) (e : Ending) (w' : World) : Prop := ∃ v r, e = .returned v ∧ NatV w' v r ∧ 0 < r ∧ r < B ^ (K + 1) ∧ a < (r + 1) * (r + 1) ∧ w.grownBy w' none

theorem grown_heap {w W : World} (h : W.heap = w.heap) (h1 : W.os = w.os) (h2 : W.tape = w.tape) (h3 : W.output = w.output) : w.grownBy W none := ⟨h1, h2, h3, by rw [h]; exact Nat.le_refl _, fun k _ _ => by rw [h]⟩

theorem grown_pre (w : World) {W W' : World} (hg : W.grownBy W' none) (h : W.heap = w.heap) (h1 : W.os = w.os) (h2 : W.tape = w.tape) (h3 : W.output = w.output) : w.grownBy W' none := grown_trans (grown_heap h h1 h2 h3) hg

/-- What is proved of rootOf at a number: over every world. -/
def RootAt (a : Nat) : Prop := ∀ (w : World) (va : Value) (K : Nat), NatV w va a → 0 < a → a < B ^ K → 1 ≤ K → K ≤ 536870912 → Calls Tryd.prog 62 #[va] w (RetRoot w a K)

set_option maxHeartbeats 4000000 in
theorem above_small (w : World) (va : Value) (a K : Nat) (ha : NatV w va a) (h0 : 0 < a) (la : a < B ^ K) (hK1 : 1 ≤ K) (hK : K ≤ 536870912) (hn : nb a ≤ 64) :
    Calls Tryd.prog 70 #[va] w (RetAbove w a K) := by
  obtain ⟨sa, xs, rfl, hx, rfl⟩ := ha
  obtain ⟨a1, a2, a3⟩ := nb_pos h0
  have hB := Bits_any ((w.alloc (.cells #[.slice sa xs.length xs.length] 24)).alloc (.cells #[.slice none 0 0] 24)) _ (val B xs) K ⟨sa, xs, rfl, hx.kept (grown_alloc (World.grownBy_alloc _ _ _) _), rfl⟩ (by omega) la
  obtain ⟨n, hnn⟩ : ∃ n, nb (val B xs) = n := ⟨_, rfl⟩
  rw [hnn] at hB hn a1 a2 a3
  have HB := Lib.hid hB
  obtain ⟨p, hp⟩ : ∃ p, (n + 1) / 2 = p := ⟨_, rfl⟩
  have e1 : ((n : Int) + 1) / 2 = (p : Int) := by omega
  have hp2 : p ≤ 32 := by omega
  have hpB : 2 ^ p < B := by
    have : 2 ^ p ≤ 2 ^ 32 := Nat.pow_le_pow_right (by omega) hp2
    have h2 : (2 : Nat) ^ 32 < B := by decide
    omega
  have e2 : IntKind.u64.wrap (1 * 2 ^ p) = ((2 ^ p : Nat) : Int) := by
    rw [Int.one_mul, ← Mul64.wrapN _ hpB, Int.natCast_pow]; rfl
  have e3 : IntKind.u64.wrap (2 ^ p) = ((2 ^ p : Nat) : Int) := by
    rw [← Mul64.wrapN _ hpB, Int.natCast_pow]; rfl
  have hlt : Hid (val B xs < (2 ^ p + 1) * (2 ^ p + 1)) := by
    show _ < _
    have h1 : 2 ^ n ≤ 2 ^ (p + p) := Nat.pow_le_pow_right (by omega) (by omega)
    rw [Nat.pow_add] at h1
    have h2 : 2 ^ p * 2 ^ p ≤ (2 ^ p + 1) * (2 ^ p + 1) := Nat.mul_le_mul (by omega) (by omega)
    omega
  have HP := Lib.hid hpB
  have E2 := Lib.hid e2
  have E3 := Lib.hid e3
  clear hB hnn a1 a2 hp hpB e2 e3 la h0
  have hbox0 := heap_new (w.alloc (.cells #[.slice sa xs.length xs.length] 24)) (.cells #[.slice none 0 0] 24) (w.heap.size + 1) (by simp)
  have hgw0 : w.grownBy ((w.alloc (.cells #[.slice sa xs.length xs.length] 24)).alloc (.cells #[.slice none 0 0] 24)) none := grown_alloc (World.grownBy_alloc _ _ _) _
  go_enter Tryd.func70, Tryd.ntmps70
  go_wp2_with fail
  refine HB.out.mono ?_
  rintro e w1 ⟨rfl, hg1⟩
  have hbox1 := heap_kept hg1 hbox0
  have hgw1 := grown_trans hgw0 hg1
  clear hg1 hgw0 hbox0 HB
  go_wp2_with fail
  rw [E3.out]
  refine (Of_any _ (2 ^ p) HP.out).mono ?_
  rintro e w2 ⟨v, rfl, ⟨sc, zs, rfl, hl2, hv2⟩, hg2⟩
  have hbox2 := heap_kept hg2 hbox1
  obtain ⟨hc2, hf2⟩ := box_cell hbox2
  have hF : Hid (∀ u, RetAbove w (val B xs) K (.returned (.agg #[.slice sc zs.length zs.length])) (w2.setCell ⟨w.heap.size + 1, 0, none⟩ u)) := by
    intro u
    have hBK : B ≤ B ^ (K + 1) := by
      have := Nat.pow_le_pow_right B_pos (show 1 ≤ K + 1 by omega)
      rwa [Nat.pow_one] at this
    exact ⟨_, 2 ^ p, rfl, ⟨sc, zs, rfl, hl2.set_other hbox2 (by decide) 0 u, hv2⟩, Nat.two_pow_pos p, Nat.lt_of_lt_of_le HP.out hBK, hlt.out, grown_new (grown_trans hgw1 hg2) (grown_set (grown_refl _ _) _ _) (by omega)⟩
  clear hv2 hg2 hgw1 hbox1 hbox2 HP
  go_wp2_with fail
  exact bodyPost_ret (v := .agg #[.slice sc zs.length zs.length]) (by simp [results, Tryd.results70, go_sem, hc2]) rfl (hF.out _)

theorem above_bd {a u k n K : Nat} (hu : u * u ≤ a / 2 ^ (2 * k)) (ha : 2 ^ (n - 1) ≤ a) (hk : k ≤ n - 1) (hk1 : 1 ≤ k) (la : a < B ^ K) : (u + 1) * 2 ^ k < B ^ (K + 1) := by
  have hp : 0 < 2 ^ k := Nat.two_pow_pos k
  have h1 : u ≤ u * u := by
    rcases Nat.eq_zero_or_pos u with h | h
    · omega
    · exact Nat.le_mul_of_pos_left u h
  have h2 : u * 2 ^ k ≤ a := by
    have h3 : a / 2 ^ (2 * k) * 2 ^ k ≤ a := by
      have h4 : a / 2 ^ (2 * k) * 2 ^ (2 * k) ≤ a := Nat.div_mul_le_self ..
      have h5 : 2 ^ k ≤ 2 ^ (2 * k) := Nat.pow_le_pow_right (by omega) (by omega)
      exact Nat.le_trans (Nat.mul_le_mul_left _ h5) h4
    exact Nat.le_trans (Nat.mul_le_mul_right _ (Nat.le_trans h1 hu)) h3
  have h6 : 2 ^ k ≤ a := Nat.le_trans (Nat.pow_le_pow_right (by omega) hk) ha
  rw [Nat.add_mul, Nat.one_mul, Nat.pow_succ]
  have h7 : B ^ K * 2 ≤ B ^ K * B := Nat.mul_le_mul_left _ (by unfold B; omega)
  omega
theorem above_lt {a u k : Nat} (hu : a / 2 ^ (2 * k) < (u + 1) * (u + 1)) : a < ((u + 1) * 2 ^ k + 1) * ((u + 1) * 2 ^ k + 1) := by
  have hp : 0 < 2 ^ (2 * k) := Nat.two_pow_pos _
  have h1 : a < (u + 1) * (u + 1) * 2 ^ (2 * k) := (Nat.div_lt_iff_lt_mul hp).1 hu
  have h2 : (u + 1) * (u + 1) * 2 ^ (2 * k) = ((u + 1) * 2 ^ k) * ((u + 1) * 2 ^ k) := by
    rw [show 2 * k = k + k from by omega, Nat.pow_add]; grind
  have h3 : ((u + 1) * 2 ^ k) * ((u + 1) * 2 ^ k) ≤ ((u + 1) * 2 ^ k + 1) * ((u + 1) * 2 ^ k + 1) := Nat.mul_le_mul (by omega) (by omega)
  omega

set_option maxHeartbeats 8000000 in
theorem above_big (w : World) (va : Value) (a K : Nat) (ha : NatV w va a) (h0 : 0 < a) (la : a < B ^ K) (hK1 : 1 ≤ K) (hK : K ≤ 536870912) (hn : 64 < nb a) (ih : ∀ a', a' < a → RootAt a') :
    Calls Tryd.prog 70 #[va] w (RetAbove w a K) := by
  obtain ⟨sa, xs, rfl, hx, rfl⟩ := ha
  obtain ⟨a1, a2, a3⟩ := nb_pos h0
  have hlen := hx.len la
  have hB := Bits_any ((w.alloc (.cells #[.slice sa xs.length xs.length] 24)).alloc (.cells #[.slice none 0 0] 24)) _ (val B xs) K ⟨sa, xs, rfl, hx.kept (grown_alloc (World.grownBy_alloc _ _ _) _), rfl⟩ (by omega) la
  have hnK : nb (val B xs) ≤ 64 * K := by
    rcases Nat.lt_or_ge (64 * K) (nb (val B xs)) with h | h
    · have h1 : 2 ^ (64 * K) ≤ 2 ^ (nb (val B xs) - 1) := Nat.pow_le_pow_right (by omega) (by omega)
      rw [Nat.pow_mul, ← B_pow] at h1
      omega
    · exact h
  have hxp := val_pos_of hx h0
  obtain ⟨n, hnn⟩ : ∃ n, nb (val B xs) = n := ⟨_, rfl⟩
  rw [hnn] at hB hn a1 a2 a3 hnK
  obtain ⟨k, hk⟩ : ∃ k, n / 4 = k := ⟨_, rfl⟩
  have e1 : (n : Int) / 4 = (k : Int) := by omega
  have hk1 : 1 ≤ k := by omega
  have hkn : k ≤ n - 1 := by omega
  have hkK : k ≤ 16 * K := by omega
  have HB := Lib.hid hB
  have hsm : val B xs / 2 ^ (2 * k) < val B xs := by
    refine Nat.div_lt_self h0 ?_
    have : 2 ^ 1 ≤ 2 ^ (2 * k) := Nat.pow_le_pow_right (by omega) (by omega)
    omega
  have hpos : 0 < val B xs / 2 ^ (2 * k) := by
    refine Nat.div_pos (Nat.le_trans (Nat.pow_le_pow_right (by omega) (by omega)) a1) (Nat.two_pow_pos _)
  have HI := Lib.hid (ih _ hsm)
  have Hpos := Lib.hid hpos
  have Hla := Lib.hid la
  have Hsm := Lib.hid hsm
  have Ha1 := Lib.hid a1
  clear hB hnn a1 a2 ih hk hpos la hsm h0
  obtain ⟨b1, o1, cs1, rfl, hb1, hat1⟩ := hx.rd.get 0 (by omega)
  have hbox0 := heap_new (w.alloc (.cells #[.slice (some ⟨b1, o1, none⟩) xs.length xs.length] 24)) (.cells #[.slice none 0 0] 24) (w.heap.size + 1) (by simp)
  have hboxa0 := (Below.heap_alloc _ (.cells #[.slice none 0 0] 24) w.heap.size (by simp)).trans (heap_new w (.cells #[.slice (some ⟨b1, o1, none⟩) xs.length xs.length] 24) w.heap.size rfl)
  have hgw0 : w.grownBy ((w.alloc (.cells #[.slice (some ⟨b1, o1, none⟩) xs.length xs.length] 24)).alloc (.cells #[.slice none 0 0] 24)) none := grown_alloc (World.grownBy_alloc _ _ _) _
  have f1 : decide (n ≤ 64) = false := decide_eq_false (by omega)
  go_enter Tryd.func70, Tryd.ntmps70
  go_wp2_with fail
  refine HB.out.mono ?_
  rintro e w1 ⟨rfl, hg1⟩
  have hbox1 := heap_kept hg1 hbox0
  have hboxa1 := heap_kept hg1 hboxa0
  have hgw1 := grown_trans hgw0 hg1
  obtain ⟨hca, hfa⟩ := box_cell hboxa1
  clear hg1 hgw0 hbox0 hboxa0 HB
  go_wp2_with fail
  refine (Clone_at _ b1 o1 _ _ cs1 xs rfl (hb1.kept hgw1 (by simp)) hat1 hxp (by omega)).mono ?_
  rintro e w2 ⟨g, cap, cs2, rfl, hge, hb2, hat2, hcap, hg2⟩
  have hbox2 := heap_kept hg2 hbox1
  have hgw2 := grown_trans hgw1 hg2
  have hsz1 : w.heap.size + 1 < w1.heap.size := (Array.getElem?_eq_some_iff.1 hbox1).1
  have hge2 : w.heap.size + 1 < g := by omega
  have nk : (2 : Int) * (k : Int) = ((2 * k : Nat) : Int) := by omega
  have NK := Lib.hid nk
  clear hg2 hgw1 hbox1 hboxa1 hca hfa hge hsz1 nk
  go_wp2_with fail
  rw [NK.out]
  refine (lower_any _ g 0 _ _ xs cs2 (2 * k) rfl hb2 hat2 hx.dig hcap (by omega) (by omega)).mono ?_
  rintro e w3 ⟨sc, m, cap3, cs3, zs, rfl, hm3, hl3, hlx, hd3, hv3, hs3, _, hb3, hat3, hg3⟩
  have hbox3 := heap_row hg3 hbox2 (by omega)
  have hgw3 := grown_new hgw2 hg3 (by omega)
  have HV := Lib.hid hv3
  have HL := Lib.hid hl3
  have hr := Lowered.rdo hl3 hs3 hb3 hat3
  clear hv3 hl3 hs3 hg3 hbox2 hgw2 hb2 hat2
  go_wp2_with fail
  refine (own_at _ _ m _ zs HL.out hr (by omega) hm3 hd3).mono ?_
  rintro e w4 ⟨v4, rfl, hN4, hg4⟩
  rw [HV.out] at hN4
  have hbox4 := heap_kept hg4 hbox3
  have hgw4 := grown_trans hgw3 hg4
  clear hg4 hgw3 hbox3 hr hb3 hat3
  go_wp2_with fail
  refine (HI.out _ v4 K hN4 Hpos.out (Nat.lt_trans Hsm.out Hla.out) hK1 hK).mono ?_
  rintro e w5 ⟨v5, u, rfl, ⟨s5, zs5, rfl, hl5, hv5⟩, ⟨hu1, hu2⟩, hg5⟩
  have hbox5 := heap_kept hg5 hbox4
  have hgw5 := grown_trans hgw4 hg5
  have Hu1 := Lib.hid hu1
  have Hu2 := Lib.hid hu2
  have HV5 := Lib.hid hv5
  clear hu1 hu2 hv5 hN4 hg5 hgw4 hbox4
  have hu1K : u + 1 < B ^ (K + 1) := Nat.lt_of_le_of_lt (Nat.le_mul_of_pos_right _ (Nat.two_pow_pos k)) (above_bd Hu1.out Ha1.out hkn hk1 Hla.out)
  have Hu1K := Lib.hid hu1K
  clear hu1K
  go_wp2_with fail
  have c6 : (w5.alloc (.cells #[.slice s5 zs5.length zs5.length] 24)).cell? ⟨w5.heap.size, 0, none⟩ = some (.slice s5 zs5.length zs5.length) := by go_simp
  have hl6 := hl5.kept (World.grownBy_alloc w5 (.cells #[.slice s5 zs5.length zs5.length] 24) none)
  have hgw6 := grown_alloc hgw5 (.cells #[.slice s5 zs5.length zs5.length] 24)
  have hbox6 := heap_kept (World.grownBy_alloc w5 (.cells #[.slice s5 zs5.length zs5.length] 24) none) hbox5
  generalize (w5.alloc (.cells #[.slice s5 zs5.length zs5.length] 24)) = w6 at *
  have hne6 : w5.heap.size ≠ w.heap.size + 1 := by have := (Array.getElem?_eq_some_iff.1 hbox5).1; omega
  generalize w5.heap.size = g6 at *
  clear hgw5 hbox5 hl5
  have H5 : ∀ W, w6.grownBy W none → NatV W (.agg #[.slice s5 zs5.length zs5.length]) u := fun W hW => ⟨s5, zs5, rfl, hl6.kept hW, HV5.out⟩
  have H5 := Lib.hid H5
  have hfld := run_field
  go_region_held3 (fun w' => w'.cell? ⟨g6, 0, none⟩ = some (.slice s5 zs5.length zs5.length))
    (first | go_keep | (rw [World.cell?_setCell_other _ _ _ _ (by simp only [ne_eq, Addr.mk.injEq]; omega)]; assumption) | exact hg10.cell (by assumption) (by simp) | exact hg9.cell (by assumption) (by simp) | exact hg8.cell (by assumption) (by simp) | exact hg7.cell (by assumption) (by simp))
    (first
      | (go_at_call 22; refine (Of_one _).mono ?_; rintro e w7 ⟨v7, rfl, hN7, hg7⟩)
      | (go_at_call 30; go_must (refine (Add_any _ _ _ u 1 (K + 1) (H5.out _ (grown_pre w6 hg7 rfl rfl rfl rfl)) hN7 (by omega) (Nat.lt_of_succ_lt Hu1K.out) (Nat.lt_of_le_of_lt (Nat.succ_le_succ (Nat.zero_le u)) Hu1K.out)).mono ?_); rintro e w8 ⟨_, rfl, ⟨s8, zs8, rfl, hl8, hv8⟩, hg8⟩)
      | (go_at_call 60; refine (raised_any _ s8 _ _ zs8 k rfl hl8.rd hl8.dig (by have := hl8.len (K := K + 1) (by rw [hv8]; exact Hu1K.out); omega) (by omega)).mono ?_; rintro e w9 ⟨g9, n9, cs9, zs9, rfl, hge9, hb9, hat9, hl9, rfl, hd9, hv9, hg9⟩)
      | (go_at_call 46; refine (own_at _ _ _ _ zs9 hl9 (Rdo.of hb9 hat9) (by have := hl8.len (K := K + 1) (by rw [hv8]; exact Hu1K.out); omega) (Nat.le_refl _) hd9).mono ?_; rintro e w10 ⟨_, rfl, ⟨s10, zs10, rfl, hl10, hv10⟩, hg10⟩; have hbox10 := heap_kept (grown_trans (grown_trans (grown_trans (grown_pre w6 hg7 rfl rfl rfl rfl) hg8) hg9) hg10) hbox6; obtain ⟨hc10, hf10⟩ := box_cell hbox10))
  have hgw10 := grown_trans (grown_trans (grown_trans (grown_trans hgw6 (grown_pre w6 hg7 rfl rfl rfl rfl)) hg8) hg9) hg10
  have hF : Hid (∀ u', RetAbove w (val B xs) K (.returned (.agg #[.slice s10 zs10.length zs10.length])) (w10.setCell ⟨w.heap.size + 1, 0, none⟩ u')) := by
    intro u'
    refine ⟨_, (u + 1) * 2 ^ k, rfl, ⟨s10, zs10, rfl, hl10.set_other hbox10 (by decide) 0 u', ?_⟩, Nat.mul_pos (by omega) (Nat.two_pow_pos k), above_bd Hu1.out Ha1.out hkn hk1 Hla.out, above_lt Hu2.out, grown_new hgw10 (grown_set (grown_refl _ _) _ _) (by omega)⟩
    rw [hv10, hv9, hv8]
  clear hgw10 hbox10 hbox6 hg7 hg8 hg9 hg10 hv10 hv9 hv8 hgw6
  go_wp2_with fail
  exact bodyPost_ret (v := .agg #[.slice s10 zs10.length zs10.length]) (by simp [results, Tryd.results70, go_sem, hc10]) rfl (hF.out _)

end Go.Proofs.YtooeonjkpgbdpaaDoor
