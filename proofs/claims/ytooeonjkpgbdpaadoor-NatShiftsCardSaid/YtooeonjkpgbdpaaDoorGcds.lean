/- Gcd of numbers. -/
import Derived.Test.YtooeonjkpgbdpaaDoorGcd
namespace Go.Proofs.YtooeonjkpgbdpaaDoor
open Go.RowKit Mat
set_option maxRecDepth 100000
set_option linter.unusedVariables false
set_option linter.unusedSimpArgs false

theorem FreshAt.mono {n m : Nat} {s : Option Addr} (h : FreshAt n s) (hm : m ≤ n) : FreshAt m s := fun ad e => ⟨Nat.le_trans hm (h ad e).1, (h ad e).2⟩
theorem FreshAt.sa {n k : Nat} {s : Option Addr} (h : FreshAt n s) : FreshAt n (Sa s k) := by
  unfold Sa; split
  · exact FreshAt.none n
  · exact h
theorem Lm.lt {w : World} {s : Option Addr} {xs : List Nat} (h : Lm w s xs) {ad : Addr} (e : s = some ad) : ad.block < w.heap.size := by
  rcases h.rd with hn | ⟨b, off, cs, e1, h1, _⟩
  · rw [h.nil hn] at e; cases e
  · rw [e1] at e; cases e; exact h1.lt

/-- Limbs of the call's own. -/
structure OwnLm (N : Nat) (w : World) (s : Option Addr) (n cap : Nat) (xs : List Nat) (K : Nat) : Prop where
  lm : Lm w s xs
  len : Hid (xs.length = n)
  capn : n ≤ cap
  cap0 : n = 0 → cap = 0
  fr : FreshAt N s
  bnd : n ≤ K
def Apart (s t : Option Addr) : Prop := ∀ a b, s = some a → t = some b → a.block ≠ b.block
theorem Apart.symm {s t : Option Addr} (h : Apart s t) : Apart t s := fun a b e1 e2 => Ne.symm (h b a e2 e1)
theorem apart_new {w : World} {s t : Option Addr} {xs : List Nat} (h : Lm w s xs) (k : FreshAt w.heap.size t) : Apart s t := by
  intro a b e1 e2
  have h1 := h.lt e1
  have h2 := (k b e2).1
  omega
theorem OwnLm.kept {N K : Nat} {w w' : World} {s : Option Addr} {n cap : Nat} {xs : List Nat} (h : OwnLm N w s n cap xs K) (hg : w.grownBy w' none) : OwnLm N w' s n cap xs K :=
  ⟨h.lm.kept hg, h.len, h.capn, h.cap0, h.fr, h.bnd⟩

theorem Lm.pos {w : World} {s : Option Addr} {xs : List Nat} (h : Lm w s xs) (h0 : 0 < xs.length) : 0 < val B xs := by
  rcases Nat.eq_zero_or_pos (val B xs) with e | e
  · rw [(val_zero_iff B B_pos xs h.top).1 e] at h0; simp at h0
  · exact e

def ClonedLm (w : World) (n : Nat) (xs : List Nat) (e : Ending) (w' : World) : Prop :=
  ∃ (s : Option Addr) (cap : Nat), e = .returned (.slice s n cap) ∧ Lm w' s xs ∧ n ≤ cap ∧ (n = 0 → cap = 0) ∧ FreshAt w.heap.size s ∧ w.grownBy w' none
theorem Clone_lm (w : World) (sa : Option Addr) (n : Nat) (xs : List Nat) (hn : xs.length = n) (hx : Lm w sa xs) (bn : n ≤ 1099511627776) :
    Calls Tryd.prog 48 #[.slice sa n n] w (ClonedLm w n xs) := by
  rcases Nat.eq_zero_or_pos n with h0 | h0
  · subst h0
    obtain rfl := List.length_eq_zero_iff.1 hn
    obtain rfl := hx.nil rfl
    refine (Clone_nil w).mono ?_
    rintro e w' ⟨rfl, rfl⟩
    exact ⟨none, 0, rfl, hx, Nat.le_refl _, fun _ => rfl, FreshAt.none _, grown_refl _ _⟩
  · obtain ⟨b1, o1, cs1, rfl, hb1, hat1⟩ := hx.rd.get 0 (by omega)
    refine (Clone_at w b1 o1 n n cs1 xs hn hb1 hat1 h0 bn).mono ?_
    rintro e w' ⟨g, cap, cs2, rfl, hge, hb2, hat2, hcap, hg2⟩
    rw [hn] at hcap ⊢
    exact ⟨_, cap, rfl, ⟨Rdo.of hb2 hat2, by rintro rfl; simp at hn; omega, hx.top, hx.dig⟩, hcap, fun e => absurd e (by omega), FreshAt.some hge, hg2⟩

theorem gcd_twos (k m a b : Nat) : Nat.gcd (2 ^ k * (2 * a + 1)) (2 ^ m * (2 * b + 1)) = Nat.gcd (2 * a + 1) (2 * b + 1) * 2 ^ (min k m) := by
  have co : ∀ (t c : Nat), Nat.Coprime (2 ^ t) (2 * c + 1) := by
    intro t c
    apply Nat.Coprime.pow_left
    unfold Nat.Coprime
    rw [Nat.gcd_rec, show (2 * c + 1) % 2 = 1 from by omega]
    rfl
  rcases Nat.le_total k m with h | h
  · obtain ⟨d, rfl⟩ : ∃ d, m = k + d := ⟨m - k, by omega⟩
    rw [Nat.min_eq_left h, Nat.pow_add, Nat.mul_assoc, Nat.gcd_mul_left, Nat.mul_comm (2 ^ k)]
    congr 1
    rw [Nat.gcd_comm, Nat.Coprime.gcd_mul_left_cancel _ (co d a), Nat.gcd_comm]
  · obtain ⟨d, rfl⟩ : ∃ d, k = m + d := ⟨k - m, by omega⟩
    rw [Nat.min_eq_right h, Nat.pow_add, Nat.mul_assoc, Nat.gcd_mul_left, Nat.mul_comm (2 ^ m)]
    congr 1
    rw [Nat.Coprime.gcd_mul_left_cancel _ (co d b)]

/-- What the two copies leave. -/
def Copies (W : World) (N K : Nat) (xs ys : List Nat) (nx ny : Nat) (u v : Value) (wx : World) : Prop :=
  ∃ sx cx sy cy, u = .slice sx nx cx ∧ v = .slice sy ny cy ∧ OwnLm N wx sx nx cx xs K ∧ OwnLm N wx sy ny cy ys K ∧ Apart sx sy ∧ W.grownBy wx none

set_option maxHeartbeats 8000000 in
theorem Gcd_any (w : World) (va vb : Value) (a b K : Nat) (ha : NatV w va a) (hb : NatV w vb b) (hK : K ≤ 1073741000) (la : a < B ^ K) (lb : b < B ^ K) (hT : Tab w) :
    Calls Tryd.prog 42 #[va, vb] w (RetNat w (Nat.gcd a b)) := by
  obtain ⟨sa, xs, rfl, hx, rfl⟩ := ha
  obtain ⟨sb, ys, rfl, hy, rfl⟩ := hb
  have h1 := hx.len la
  have h2 := hy.len lb
  have h2s := hT.size
  have HT := Lib.hid hT
  obtain ⟨g, hg⟩ : ∃ g, Nat.gcd (val B xs) (val B ys) = g := ⟨_, rfl⟩
  rw [hg]
  have HG := Lib.hid hg
  obtain ⟨nx, hnx⟩ : ∃ n, xs.length = n := ⟨_, rfl⟩
  obtain ⟨ny, hny⟩ : ∃ n, ys.length = n := ⟨_, rfl⟩
  rw [hnx] at h1 ⊢
  rw [hny] at h2 ⊢
  have HNX := Lib.hid hnx
  have HNY := Lib.hid hny
  clear hg la lb hT hnx hny
  have hgw0 : w.grownBy (((w.alloc (.cells #[.slice sa nx nx] 24)).alloc (.cells #[.slice sb ny ny] 24)).alloc (.cells #[.slice none 0 0] 24)) none := grown_alloc (grown_alloc (World.grownBy_alloc _ _ _) _) _
  have hbox0 := heap_new ((w.alloc (.cells #[.slice sa nx nx] 24)).alloc (.cells #[.slice sb ny ny] 24)) (.cells #[.slice none 0 0] 24) (w.heap.size + 1 + 1) (by simp)
  have hboxb0 := (Below.heap_alloc _ (.cells #[.slice none 0 0] 24) (w.heap.size + 1) (by simp)).trans (heap_new (w.alloc (.cells #[.slice sa nx nx] 24)) (.cells #[.slice sb ny ny] 24) (w.heap.size + 1) (by simp))
  have hboxa0 := ((Below.heap_alloc _ (.cells #[.slice none 0 0] 24) w.heap.size (by simp; omega)).trans (Below.heap_alloc _ (.cells #[.slice sb ny ny] 24) w.heap.size (by simp))).trans (heap_new w (.cells #[.slice sa nx nx] 24) w.heap.size rfl)
  have hs0 : (((w.alloc (.cells #[.slice sa nx nx] 24)).alloc (.cells #[.slice sb ny ny] 24)).alloc (.cells #[.slice none 0 0] 24)).heap.size = w.heap.size + 1 + 1 + 1 := by simp
  go_enter Tryd.func42, Tryd.ntmps42
  go_wp2_with fail
  generalize (((w.alloc (.cells #[.slice sa nx nx] 24)).alloc (.cells #[.slice sb ny ny] 24)).alloc (.cells #[.slice none 0 0] 24)) = w0 at *
  have hx0 := hx.kept hgw0
  have hy0 := hy.kept hgw0
  obtain ⟨ca, fa⟩ := box_cell hboxa0
  obtain ⟨cb, fb⟩ := box_cell hboxb0
  have HX0 : ∀ W, w0.grownBy W none → Lm W sa xs := fun W hW => hx0.kept hW
  have HY0 : ∀ W, w0.grownBy W none → Lm W sb ys := fun W hW => hy0.kept hW
  have HX0 := Lib.hid HX0
  have HY0 := Lib.hid HY0
  clear hx0 hy0
  have hfld := run_field
  go_cut [5, 6] (fun u v wx => Copies w0 w0.heap.size K xs ys nx ny u v wx)
  case first =>
    go_region_held3 (fun w' => w'.cell? ⟨w.heap.size, 0, none⟩ = some (.slice sa nx nx) ∧ w'.cell? ⟨w.heap.size + 1, 0, none⟩ = some (.slice sb ny ny))
      (first | go_keep | exact ⟨hG1.cell ca (by simp), hG1.cell cb (by simp)⟩ | exact ⟨hG2.cell ca (by simp), hG2.cell cb (by simp)⟩)
      (first
        | (go_at_call 48; (with_reducible refine (Clone_lm w0.drew sa nx xs HNX.out (HX0.out _ (grown_drew (grown_refl _ _))) (by omega)).mono ?_); rintro e w1 ⟨s1, c1, rfl, hl1, hc1, hz1, hf1, hg1⟩; have hG1 := grown_pre w0 hg1 rfl rfl rfl rfl)
        | (go_at_call 48; (with_reducible refine (Clone_lm w0.drew sb ny ys HNY.out (HY0.out _ (grown_drew (grown_refl _ _))) (by omega)).mono ?_); rintro e w1 ⟨s1, c1, rfl, hl1, hc1, hz1, hf1, hg1⟩; have hG1 := grown_pre w0 hg1 rfl rfl rfl rfl)
        | (go_at_call 48; (with_reducible refine (Clone_lm w1 sa nx xs HNX.out (HX0.out _ hG1) (by omega)).mono ?_); rintro e w2 ⟨s2, c2, rfl, hl2, hc2, hz2, hf2, hg2⟩; have hG2 := grown_trans hG1 hg2)
        | (go_at_call 48; (with_reducible refine (Clone_lm w1 sb ny ys HNY.out (HY0.out _ hG1) (by omega)).mono ?_); rintro e w2 ⟨s2, c2, rfl, hl2, hc2, hz2, hf2, hg2⟩; have hG2 := grown_trans hG1 hg2))
    go_wp2_with fail
    go_meet
    exact ⟨s1, c1, s2, c2, rfl, rfl, ⟨hl1.kept hg2, HNX, hc1, hz1, hf1, h1⟩, ⟨hl2, HNY, hc2, hz2, hf2.mono hG1.size, h2⟩, apart_new hl1 hf2, hG2⟩
  case rest =>
    obtain ⟨sx, cx, sy, cy, rfl, rfl, hox, hoy, hap, hgc⟩ := hcut
    have hbox := heap_kept hgc hbox0
    have hgw := grown_trans hgw0 hgc
    clear HX0 HY0 hgc hbox0 hboxa0 hboxb0 ca fa cb fb hx hy hfld
    generalize w0.heap.size = N at *
    go_wp2_with fail
    go_loopg [5, 6] (val B ys) (fun gh a b wr => ∃ (sx : Option Addr) (nx cx : Nat) (xs : List Nat) (sy : Option Addr) (ny cy : Nat) (ys : List Nat), a = .slice sx nx cx ∧ b = .slice sy ny cy ∧ OwnLm N wr sx nx cx xs K ∧ OwnLm N wr sy ny cy ys K ∧ Apart sx sy ∧ Hid (Nat.gcd (val B xs) (val B ys) = g) ∧ w.grownBy wr none ∧ wr.heap[w.heap.size + 1 + 1]? = some (.cells #[.slice none 0 0] 24 (0, 0)) ∧ Hid (val B ys ≤ gh))
    case atStart => exact ⟨sx, nx, cx, xs, sy, ny, cy, ys, rfl, rfl, hox, hoy, hap, HG, hgw, hbox, Nat.le_refl _⟩
    case round =>
      clear hox hoy hap HG hgw hbox HNX HNY h1 h2
      obtain ⟨sx, nx, cx, xs, sy, ny, cy, ys, rfl, rfl, hx, hy, hap, hg, hgw, hbox, hgh⟩ := hrel
      have bx := hx.bnd
      have byy := hy.bnd
      have hNr : N ≤ wr.heap.size := by have := (Array.getElem?_eq_some_iff.1 hbox).1; omega
      rcases Nat.eq_zero_or_pos ny with h0 | h0
      · subst h0
        obtain rfl : ys = [] := List.length_eq_zero_iff.1 hy.len.out
        have hgx : Hid (val B xs = g) := by show _ = _; rw [← hg.out]; simp [val]
        clear hy hap hg hgh
        go_wp2_with fail
        refine (own_at _ sx nx cx xs hx.len.out hx.lm.rd (by omega) hx.capn hx.lm.dig).mono ?_
        rintro e w4 ⟨v, rfl, ⟨sc, zs, rfl, hl4, hv4⟩, hg4⟩
        have hbox4 := heap_kept hg4 hbox
        obtain ⟨hc4, hf4⟩ := box_cell hbox4
        have hF := Lib.hid (ret_set (grown_trans hgw hg4) hbox4 (by decide) (by omega) hl4 (hv4.trans hgx.out) (.slice sc zs.length zs.length))
        clear hv4 hbox4 hbox hg4 hgw
        go_wp2_with fail
        exact bodyPost_ret (v := .agg #[.slice sc zs.length zs.length]) (by simp [results, Tryd.results42, go_sem, hc4]) rfl hF.out
      · by_cases hne : nx = ny
        · subst hne
          have f1 : ((nx : Int) != (nx : Int)) = false := by simp
          have f2 : ((nx : Int) == 0) = false := beq_eq_false_iff_ne.2 (by omega)
          have hxp : 0 < val B xs := hx.lm.pos (by rw [hx.len.out]; exact h0)
          have hyp : 0 < val B ys := hy.lm.pos (by rw [hy.len.out]; exact h0)
          have hTr := HT.out.kept hgw (by simp)
          have HTr := Lib.hid hTr
          obtain ⟨px, ox, csx, rfl, hbx, hatx⟩ := hx.lm.rd.get 0 (by rw [hx.len.out]; exact h0)
          obtain ⟨py, oy, csy, rfl, hby, haty⟩ := hy.lm.rd.get 0 (by rw [hy.len.out]; exact h0)
          clear hTr
          go_wp2_with fail
          refine (twos_any wr _ nx cx xs hx.len.out hx.lm.rd hx.lm.dig hxp (by omega) HTr.out).mono ?_
          rintro e w' ⟨k, ma, rfl, hka, hkl, rfl⟩
          have HKA := Lib.hid hka
          clear hka
          go_wp2_with fail
          refine (twos_any wr _ nx cy ys hy.len.out hy.lm.rd hy.lm.dig hyp (by omega) HTr.out).mono ?_
          rintro e w' ⟨m, mb, rfl, hkb, hml, rfl⟩
          have HKB := Lib.hid hkb
          clear hkb
          obtain rfl : ox = 0 := by have := (hx.fr _ rfl).2; simpa using this
          obtain rfl : oy = 0 := by have := (hy.fr _ rfl).2; simpa using this
          have hpx : N ≤ px := (hx.fr _ rfl).1
          have hpy : N ≤ py := (hy.fr _ rfl).1
          have hpne : px ≠ py := hap _ _ rfl rfl
          have hNs := hNr
          go_wp2_with fail
          refine (lower_any wr px 0 nx cx xs csx k hx.len.out hbx hatx hx.lm.dig hx.capn (by omega) (by omega)).mono ?_
          rintro e w4 ⟨s4, m4, cap4, cs4, zs4, rfl, hm4, hl4, hlx4, hd4, hv4, hs4, _, hk4, hat4, hg4⟩
          have hv4' : val B zs4 = 2 * ma + 1 := by rw [hv4, HKA.out]; exact Nat.mul_div_cancel_left _ (Nat.two_pow_pos k)
          have hp4 : 0 < m4 := by
            rcases Nat.eq_zero_or_pos m4 with e | e
            · rw [List.length_eq_zero_iff.1 (hl4.trans e)] at hv4'; simp [val] at hv4'
            · exact e
          obtain rfl := hs4 hp4
          have hby4 := hby.kept hg4 (by simp; omega)
          have hbox4 := heap_row hg4 hbox (by omega)
          have hgw4 := grown_new hgw hg4 (by omega)
          have hm4k : m4 ≤ nx := by rw [hx.len.out] at hlx4; exact hlx4
          have HL4 := Lib.hid hl4
          have HV4 := Lib.hid hv4'
          clear hv4 hv4' hl4 hs4 hg4 hlx4 hbx hatx hbox hgw hby HTr hNr
          go_wp2_with fail
          refine (cut_at w4 (some ⟨px, 0, none⟩) m4 cap4 zs4 HL4.out (Rdo.of hk4 hat4) (by omega) hm4).mono ?_
          rintro e w5 ⟨k5, hk5, rfl, ht5, hv5, rfl⟩
          have hkp5 : 0 < k5 := pos_take hv5 (by rw [HV4.out]; omega)
          rw [Sa_pos hkp5]
          have hk5m : k5 ≤ m4 := by rw [HL4.out] at hk5; exact hk5
          have hlk5 : (zs4.take k5).length = k5 := by rw [List.length_take]; omega
          have hX : OddIn N w4 px k5 (zs4.take k5) cs4 := ⟨hpx, hk4, hat4.take k5, hlk5, ht5, hd4.take k5, by show _ = _; rw [hv5, HV4.out]; omega, by omega⟩
          have HVX : Hid (val B (zs4.take k5) = 2 * ma + 1) := hv5.trans HV4.out
          clear hv5 hlk5 hk5 ht5 hk4 hat4 hd4 HV4 HL4
          go_wp2_with fail
          refine (lower_any w4 py 0 nx cy ys csy m hy.len.out hby4 haty hy.lm.dig hy.capn (by omega) (by omega)).mono ?_
          rintro e w6 ⟨s6, m6, cap6, cs6, zs6, rfl, hm6, hl6, hlx6, hd6, hv6, hs6, _, hk6, hat6, hg6⟩
          have hv6' : val B zs6 = 2 * mb + 1 := by rw [hv6, HKB.out]; exact Nat.mul_div_cancel_left _ (Nat.two_pow_pos m)
          have hp6 : 0 < m6 := by
            rcases Nat.eq_zero_or_pos m6 with e | e
            · rw [List.length_eq_zero_iff.1 (hl6.trans e)] at hv6'; simp [val] at hv6'
            · exact e
          obtain rfl := hs6 hp6
          have hX6 := hX.kept hg6 (by simp; omega)
          have hbox6 := heap_row hg6 hbox4 (by omega)
          have hgw6 := grown_new hgw4 hg6 (by omega)
          have hm6k : m6 ≤ nx := by rw [hy.len.out] at hlx6; exact hlx6
          have HL6 := Lib.hid hl6
          have HV6 := Lib.hid hv6'
          clear hv6 hv6' hl6 hs6 hg6 hlx6 hby4 haty hbox4 hgw4 hX
          go_wp2_with fail
          refine (cut_at w6 (some ⟨py, 0, none⟩) m6 cap6 zs6 HL6.out (Rdo.of hk6 hat6) (by omega) hm6).mono ?_
          rintro e w7 ⟨k7, hk7, rfl, ht7, hv7, rfl⟩
          have hkp7 : 0 < k7 := pos_take hv7 (by rw [HV6.out]; omega)
          rw [Sa_pos hkp7]
          have hk7m : k7 ≤ m6 := by rw [HL6.out] at hk7; exact hk7
          have hlk7 : (zs6.take k7).length = k7 := by rw [List.length_take]; omega
          have hY : OddIn N w6 py k7 (zs6.take k7) cs6 := ⟨hpy, hk6, hat6.take k7, hlk7, ht7, hd6.take k7, by show _ = _; rw [hv7, HV6.out]; omega, by omega⟩
          have HVY : Hid (val B (zs6.take k7) = 2 * mb + 1) := hv7.trans HV6.out
          have HT6 := Lib.hid (HT.out.kept hgw6 (by simp))
          clear hv7 hlk7 hk7 ht7 hk6 hat6 hd6 HV6 HL6
          go_wp2_with fail
          refine (oddGcd_any w6 N px k5 (zs4.take k5) cs4 py k7 (zs6.take k7) cs6 hX6 hY hpne (by omega) HT6.out K (by omega) (by omega)).mono ?_
          rintro e w8 ⟨s8, k8, zs8, rfl, hl8, hk8, hr8, hd8, hv8, hb8⟩
          rw [HVX.out, HVY.out] at hv8
          have hbox8 := heap_below hb8 hbox6 (by omega)
          have hgw8 := grown_then_below hgw6 hb8 (by omega)
          have HV8 := Lib.hid hv8
          have HL8 := Lib.hid hl8
          clear hv8 hl8 hb8 hX6 hY hbox6 hgw6 HT6 hm4 hm6
          go_wp2_with fail
          obtain ⟨q, hq⟩ : ∃ q, min k m = q := ⟨_, rfl⟩
          rw [show min (k : Int) (m : Int) = (q : Int) from by omega]
          refine (raised_any w8 s8 k8 k8 zs8 q HL8.out hr8 hd8 (by omega) (by omega)).mono ?_
          rintro e w9 ⟨g9, n9, cs9, zs9, rfl, hge9, hb9, hat9, hl9, hn9, hd9, hv9, hg9⟩
          have hn9' : n9 ≤ 4000000000 := by rw [hn9, HL8.out]; omega
          have hbox9 := heap_kept hg9 hbox8
          have hgw9 := grown_trans hgw8 hg9
          have HV9 : Hid (val B zs9 = g) := by
            show _ = _
            rw [hv9, HV8.out, ← hq, ← gcd_twos k m ma mb, ← HKA.out, ← HKB.out]; exact hg.out
          have HL9 := Lib.hid hl9
          clear hn9 hl9 hv9 hge9 hg9 hbox8 hgw8 hr8 hd8 hk8
          go_wp2_with fail
          refine (own_at w9 _ n9 n9 zs9 HL9.out (Rdo.of hb9 hat9) (by omega) (Nat.le_refl _) hd9).mono ?_
          rintro e w10 ⟨v, rfl, ⟨sc, zs, rfl, hl10, hv10⟩, hg10⟩
          have hbox10 := heap_kept hg10 hbox9
          obtain ⟨hc10, hf10⟩ := box_cell hbox10
          have hF := Lib.hid (ret_set (grown_trans hgw9 hg10) hbox10 (by decide) (by omega) hl10 (hv10.trans HV9.out) (.slice sc zs.length zs.length))
          clear hv10 hbox10 hbox9 hg10 hgw9 hb9 hat9
          go_wp2_with fail
          exact bodyPost_ret (v := .agg #[.slice sc zs.length zs.length]) (by simp [results, Tryd.results42, go_sem, hc10]) rfl hF.out
        · have f1 : ((nx : Int) != (ny : Int)) = true := by simp; omega
          have hyp : 0 < val B ys := hy.lm.pos (by rw [hy.len.out]; exact h0)
          go_wp2_with fail
          refine (divide_any wr sx sy nx cx ny cy xs ys hx.lm hy.lm hx.len.out hy.len.out h0 hx.cap0 hx.capn (by omega) (by omega)).mono ?_
          rintro e w3 ⟨sq, sr, nq, cq, nr, cr, qs, rs, rfl, hlq, hcq, hnq, hlr, hcr, hnr, hrq, hrr, hdq, hdr, hvq, hvr, hg3, hfr⟩
          have hbox3 := heap_kept hg3 hbox
          have hgw3 := grown_trans hgw hg3
          have hy3 := hy.kept hg3
          have hfrN : FreshAt N sr := hfr.mono hNr
          have hap3 : Apart sy sr := apart_new hy.lm hfr
          have HVR := Lib.hid hvr
          have HLR := Lib.hid hlr
          clear hlq hcq hnq hrq hdq hvq hvr hlr hg3 hfr hbox hgw hap hx
          go_wp2_with fail
          refine (cut_at w3 sr nr cr rs HLR.out hrr (by omega) hcr).mono ?_
          rintro e w4 ⟨k, hk, rfl, ht, hv, rfl⟩
          have hkl : (rs.take k).length = k := by rw [List.length_take]; omega
          have hvm : Hid (val B (rs.take k) = val B xs % val B ys) := hv.trans HVR.out
          have hlm : Lm w3 (Sa sr k) (rs.take k) := ⟨hrr.take k, by intro e; rw [e] at hkl; simp at hkl; rw [← hkl]; rfl, ht, hdr.take k⟩
          have hlt : Hid (val B (rs.take k) < val B ys) := by show _ < _; rw [hvm.out]; exact Nat.mod_lt _ hyp
          have hkK : k ≤ K := by
            have := len_le_of hlm hy3.lm (Nat.le_of_lt hlt.out)
            rw [hkl, hy3.len.out] at this
            omega
          have hnew : OwnLm N w3 (Sa sr k) k k (rs.take k) K := ⟨hlm, hkl, Nat.le_refl _, fun e => e, hfrN.sa, hkK⟩
          have hap4 : Apart sy (Sa sr k) := by
            unfold Sa; split
            · intro a b e1 e2; cases e2
            · exact hap3
          have hgn : Hid (Nat.gcd (val B ys) (val B (rs.take k)) = g) := by
            show _ = _; rw [hvm.out, Nat.gcd_comm (val B ys), ← Nat.gcd_rec, Nat.gcd_comm]; exact hg.out
          have hlt2 : Hid (val B (rs.take k) < gk) := Nat.lt_of_lt_of_le hlt.out hgh.out
          clear hv hk hkl hlm ht hrr hdr hfrN
          go_wp2_with fail
          go_roundg (val B (rs.take k))
          case measure => exact hlt2.out
          case rel => exact ⟨sy, ny, cy, ys, Sa sr k, k, k, rs.take k, rfl, rfl, hy3, hnew, hap4, hgn, hgw3, hbox3, Nat.le_refl _⟩
end Go.Proofs.YtooeonjkpgbdpaaDoor
