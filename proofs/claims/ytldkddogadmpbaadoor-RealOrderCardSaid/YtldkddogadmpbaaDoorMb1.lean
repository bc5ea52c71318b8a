/- What the laws lean on, part 1. -/
import Derived.Deep.RegionHeld3
import Derived.Laws.BitsAllLaws
import Derived.Test.YtldkddogadmpbaaDoorMa22
import Derived.Test.YtldkddogadmpbaaDoorMa14
import Derived.Test.YtldkddogadmpbaaDoorMa17
import Derived.Test.YtldkddogadmpbaaDoorMa13
import Derived.Test.YtldkddogadmpbaaDoorMa16
namespace Go.Proofs.YtldkddogadmpbaaDoor
open Go.RowKit Mat
set_option maxRecDepth 100000
set_option linter.unusedVariables false
set_option linter.unusedSimpArgs false
theorem enc_exists (q : Rat) : ∃ o, EncIs q o := by
  by_cases h : ∃ s, s ≤ 312 ∧ q.den = 2 ^ s
  · obtain ⟨s, h1, h2⟩ := h
    obtain ⟨U, hU⟩ : ∃ U, q.num.natAbs * 2 ^ (312 - s) = U := ⟨_, rfl⟩
    exact ⟨_, enc_least h2 h1 hU (e0 := ex0 U) (fun e he => ex0_lo he) (ex0_hi U)⟩
  · exact ⟨none, enc_none fun s hs e => h ⟨s, hs, e⟩⟩
theorem BIn.cell0 {w : World} {a : Addr} {m cap : Nat} {l : List Nat} (h : BIn w (some a) m cap l) (h0 : 0 < m) : w.cell? a = some (.int .u8 ((l.headD 0 : Nat) : Int)) := by
  obtain ⟨h1, ⟨h2, _⟩, _⟩ := h
  obtain ⟨a', e, hc⟩ := h2.resolve_left (fun e => by rw [e] at h1; simp at h1; omega)
  cases e
  cases l with
  | nil => simp at h1; omega
  | cons x t => exact hc 0 (by simp)
theorem head_lt {l : List Nat} (h : l.length = 8) (hd : ∀ x ∈ l, x < 256) : l.headD 0 < 256 := by
  cases l with
  | nil => simp at h
  | cons x t => exact hd x (by simp)
theorem and127' (x : Nat) (hx : x < 256) : bits .and .u8 (x : Int) 127 = ((x % 128 : Nat) : Int) := by
  have h := u8_and_nat x 127 hx (by omega)
  rw [show ((127 : Nat) : Int) = 127 from rfl] at h
  rw [h, show 127 = 2 ^ 7 - 1 from rfl, Nat.and_two_pow_sub_one_eq_mod]
theorem xor128 (x y : Nat) (hx : x < 256) (hy : y < 256) (h : (128 ≤ x) ↔ (128 ≤ y)) : bits .and .u8 (bits .xor .u8 (x : Int) (y : Int)) 128 = 0 := by
  have e1 := u8_xor_nat x y hx hy
  have hl : x ^^^ y < 256 := Nat.xor_lt_two_pow (n := 8) hx hy
  have e2 := u8_and_nat (x ^^^ y) 128 hl (by omega)
  rw [show ((128 : Nat) : Int) = 128 from rfl] at e2
  rw [e1, e2]
  have hb : ∀ z, z < 256 → z.testBit 7 = decide (128 ≤ z) := fun z hz => by
    rw [Nat.testBit_eq_decide_div_mod_eq]
    by_cases g : 128 ≤ z
    · rw [decide_eq_true g, decide_eq_true]; omega
    · rw [decide_eq_false g, decide_eq_false]; omega
  have h7 : (x ^^^ y).testBit 7 = false := by
    rw [Nat.testBit_xor, hb x hx, hb y hy]
    by_cases g : 128 ≤ x
    · rw [decide_eq_true g, decide_eq_true (h.1 g)]; rfl
    · rw [decide_eq_false g, decide_eq_false (fun g2 => g (h.2 g2))]; rfl
  have hlt : x ^^^ y < 128 := by
    rw [hb _ hl] at h7
    have := of_decide_eq_false h7
    omega
  rw [show (128 : Nat) = 2 ^ 7 from rfl, Nat.and_comm]
  have : 2 ^ 7 &&& (x ^^^ y) = 0 := by
    apply Nat.eq_of_testBit_eq
    intro i
    rw [Nat.testBit_and, Nat.testBit_two_pow, Nat.zero_testBit]
    by_cases hi : 7 = i
    · subst hi; rw [h7]; simp
    · simp [hi]
  rw [this]; rfl
theorem back_of {l : List Nat} (hl : l.length = 8) (hd : ∀ x ∈ l, x < 256) : ∃ k : List Nat, k.length = 8 ∧ (∀ x ∈ k, x < 256) ∧ bval k = bval l ∧ (∀ o, EncIs (bval l) o → encL (bval l) o = k ∧ encC o = 0) ∧ k.headD 0 % 128 ≤ l.headD 0 % 128 ∧ ((bval l).num ≠ 0 → ((128 ≤ l.headD 0) ↔ (128 ≤ k.headD 0))) := by
  have hv : bval l = rv (decide (128 ≤ l.headD 0)) (l.headD 0 % 128) (mv l.tail) := by unfold bval; rw [if_pos hl]
  have h0 : l.headD 0 < 256 := by
    match l, hl with
    | x :: t, _ => exact hd x (by simp)
  have hm := mv7 l hd hl
  obtain ⟨o, ho⟩ := enc_exists (bval l)
  have ho2 := ho
  rw [hv] at ho2
  obtain ⟨e', m', rfl, he, hm', hr⟩ := enc_rv (by omega) hm ho2
  rw [← hv] at hr
  refine ⟨lay8 (decide ((bval l).num < 0)) e' m', rfl, lay_dig _ _ _ (by omega), ?_, ?_, ?_, ?_⟩
  · rw [bval_lay _ _ _ (by omega) hm', hr]
  · intro o2 h2
    rw [h2.uniq ho]
    exact ⟨rfl, rfl⟩
  · show (e' + (if decide ((bval l).num < 0) = true then 128 else 0)) % 128 ≤ _
    split <;> omega
  · intro hnz
    show 128 ≤ l.headD 0 ↔ 128 ≤ e' + (if decide ((bval l).num < 0) = true then 128 else 0)
    have hm0 : 0 < mv l.tail := by
      rcases Nat.eq_zero_or_pos (mv l.tail) with h | h
      · rw [hv, h, rv_zero_sign] at hnz; exact absurd rfl hnz
      · exact h
    have hs := rv_sign (decide (128 ≤ l.headD 0)) (l.headD 0 % 128) (mv l.tail) hm0
    rw [← hv, decide_eq_true_iff] at hs
    by_cases g : (bval l).num < 0
    · rw [decide_eq_true g, if_pos rfl]; exact ⟨fun _ => by omega, fun _ => hs.1 g⟩
    · rw [decide_eq_false g, if_neg (by decide)]; exact ⟨fun h => absurd (hs.2 h) g, fun h => by omega⟩
def RetEn (w : World) (k : List Nat) (e : Ending) (w' : World) : Prop := ∃ a cap, e = .returned (.tuple #[.slice (some a) 8 cap, .int .i64 0]) ∧ BIn w' (some a) 8 cap k ∧ w.grownBy w' none
set_option maxHeartbeats 16000000 in
theorem realBack_walk (w : World) (s : Option Addr) (n cap : Nat) (l : List Nat) (hn : l.length = n) (hb : BySl w s l) (hz : s = none → n = 0 ∧ cap = 0) (hr : n ≤ cap) (hc : cap ≤ 9223372036854775807) (hTab : Tab w) :
    Calls Tryd.prog 4 #[.slice s n cap] w (fun e w' => e = .returned (.bool true) ∧ w.grownBy w' none) := by
  have HTB : Hid (∀ W, w.grownBy W none → Tab W) := fun W hW => hTab.kept hW (by simp)
  clear hTab
  have hG : w.grownBy w none := grown_refl _ _
  by_cases h8 : n < 8
  · skip
    go_enter Tryd.func4, Tryd.ntmps4
    go_wp2_with fail
    refine (known_any w (HTB.out _ hG)).mono ?_
    rintro e aw1 ⟨rfl, gaw1⟩
    replace hG := grown_trans hG gaw1
    clear gaw1
    go_wp2_with fail
    go_ret
    exact ⟨rfl, hG⟩
  · skip
    have HI := BIn.take hn hb hz hr hc 8 (by omega) (by omega)
    obtain ⟨a0, rfl⟩ : ∃ a0, s = some a0 := by
      cases s with
      | none => have := hz rfl; omega
      | some a => exact ⟨a, rfl⟩
    clear hn hb hz
    obtain ⟨l8, hL9⟩ : ∃ L, l.take 8 = L := ⟨_, rfl⟩
    rw [hL9] at HI
    clear hL9
    obtain ⟨k8, hk8, kd, kv, kE, ke, ks⟩ := back_of HI.len HI.by'.2
    have hbd := bval_bd HI.by'.2
    have cl : bcod l8 = 0 := by unfold bcod; rw [if_pos HI.len]
    have ck : bcod k8 = 0 := by unfold bcod; rw [if_pos hk8]
    have sb : sameB l8 k8 = true := by unfold sameB; rw [decide_eq_true HI.len, decide_eq_true hk8, kv, rcmp_self]; rfl
    have hl0 := head_lt HI.len HI.by'.2
    have hk0 := head_lt hk8 kd
    obtain ⟨R0, hR0⟩ : ∃ R, bval l8 = R := ⟨_, rfl⟩
    rw [hR0] at hbd kv kE ks
    have CC : Hid (∀ W, w.grownBy W none → Calls Tryd.prog 7 #[.slice (some a0) 8 cap] W (RetCopy W 8 l8)) := fun W hW => copied_in W _ _ cap _ (HI.kept hW)
    have CD : Hid (∀ W a cap', BIn W (some a) 8 cap' l8 → Tab W → Calls Tryd.prog 8 #[.slice (some a) 8 cap'] W (RetRatE W R0 0)) := fun W a cap' h hT => by have h2 := dec_in W _ _ _ _ h hT; rw [hR0, cl] at h2; exact h2
    have CK : Hid (∀ W a cap', BIn W (some a) 8 cap' k8 → Tab W → Calls Tryd.prog 8 #[.slice (some a) 8 cap'] W (RetRatE W R0 0)) := fun W a cap' h hT => by have h2 := dec_in W _ _ _ _ h hT; rw [kv, ck] at h2; exact h2
    have EN : Hid (∀ W v, RatV W v R0 → Calls Tryd.prog 14 #[v] W (RetEn W k8)) := fun W v hv => by
      refine (Enc_any W v R0 5 hv (by omega) hbd.1 hbd.2).mono ?_
      rintro e w' ⟨o, s, n, cap, rfl, ho, hn, hb, hc, hc8, hg⟩
      obtain ⟨e1, e2⟩ := kE o ho
      rw [e1] at hn hb
      rw [hk8] at hn
      subst hn
      rw [e2]
      obtain ⟨a, rfl, hx⟩ := hb.1.resolve_left (fun e => by rw [e] at hk8; simp at hk8)
      exact ⟨a, cap, rfl, ⟨hk8, hb, fun e => (by cases e), by omega, hc, by omega⟩, hg⟩
    have SM : Hid (∀ W a b c1 c2, BIn W (some a) 8 c1 k8 → BIn W (some b) 8 c2 k8 → Calls Tryd.prog 11 #[.slice (some a) 8 c1, .slice (some b) 8 c2] W (fun e w' => e = .returned (.bool true) ∧ W.grownBy w' none)) := fun W a b c1 c2 h1 h2 => same_in W _ _ _ c1 c2 _ h1 h2
    have RS : Hid (∀ W a b c1 c2, BIn W (some a) 8 c1 l8 → BIn W (some b) 8 c2 k8 → Tab W → Calls Tryd.prog 17 #[.slice (some a) 8 c1, .slice (some b) 8 c2] W (RetB W true)) := fun W a b c1 c2 h1 h2 hT => by have h := Same_any W _ _ _ _ c1 c2 _ _ h1.len h2.len h1.by' h2.by' h1.room h1.cap h2.room h2.cap hT; rw [sb] at h; exact h
    have CM : Hid (∀ W v u, RatV W v R0 → RatV W u R0 → Calls Tryd.prog 16 #[v, u] W (fun e w' => e = .returned (.int .i64 0) ∧ W.grownBy w' none)) := fun W v u h1 h2 => by have h := FCmp_any W v u R0 R0 5 h1 h2 (by omega) hbd.1 hbd.2 hbd.1 hbd.2; rw [rcmp_self] at h; exact h
    have HBD := Lib.hid hbd
    have c8l : ∀ W a c, BIn W (some a) 8 c l8 → W.cell? a = some (.int .u8 ((l8.headD 0 : Nat) : Int)) := fun W a c h => h.cell0 (by omega)
    have c8k : ∀ W a c, BIn W (some a) 8 c k8 → W.cell? a = some (.int .u8 ((k8.headD 0 : Nat) : Int)) := fun W a c h => h.cell0 (by omega)
    obtain ⟨x0, hx0⟩ : ∃ x, l8.headD 0 = x := ⟨_, rfl⟩
    obtain ⟨y0, hy0⟩ : ∃ y, k8.headD 0 = y := ⟨_, rfl⟩
    rw [hx0] at hl0 ke ks
    rw [hy0] at hk0 ke ks
    simp only [hx0] at c8l
    simp only [hy0] at c8k
    have C8L := Lib.hid c8l
    have C8K := Lib.hid c8k
    have a1 := and127' x0 hl0
    have a2 := and127' y0 hk0
    obtain ⟨ex, hex⟩ : ∃ e, x0 % 128 = e := ⟨_, rfl⟩
    obtain ⟨ey, hey⟩ : ∃ e, y0 % 128 = e := ⟨_, rfl⟩
    rw [hex] at a1 ke
    rw [hey] at a2 ke
    have A1 := Lib.hid a1
    have A2 := Lib.hid a2
    have HS : (R0.num.sign = 0) ∨ (Hid ((R0.num.sign == 0) = false ∧ (R0.num.sign != 0) = true ∧ R0.num.sign ≠ 0) ∧ Hid (bits .and .u8 (bits .xor .u8 (x0 : Int) (y0 : Int)) 128 = 0)) := by
      by_cases h : R0.num = 0
      · left; rw [h]; rfl
      · right
        have hs : R0.num.sign ≠ 0 := by rw [Ne, Int.sign_eq_zero_iff_zero]; exact h
        exact ⟨⟨beq_eq_false_iff_ne.2 hs, bne_iff_ne.2 hs, hs⟩, xor128 x0 y0 hl0 hk0 (ks h)⟩
    replace HI := Lib.hid HI
    clear a1 a2 c8l c8k hx0 hy0 hex hey hk8 kd kv kE ks hbd cl ck sb hR0 hl0 hk0
    go_enter Tryd.func4, Tryd.ntmps4
    go_wp2_with fail
    refine (CC.out w hG).mono ?_
    rintro e bw1 ⟨gb, cb, rfl, bb, hgb, gbw1⟩
    replace hG := grown_trans hG gbw1
    clear gbw1
    go_wp2_with fail
    refine (CD.out bw1 _ _ bb (HTB.out _ hG)).mono ?_
    rintro e bw2 ⟨_, rfl, ⟨sa, xa, ba, sa', xa', ba', rfl, ha, ha'⟩, gbw2⟩
    have qa : RatV bw2 (.agg #[.slice sa xa.length xa.length, .bool ba, .slice sa' xa'.length xa'.length, .bool ba']) (R0) := ⟨sa, xa, ba, sa', xa', ba', rfl, ha, ha'⟩
    replace bb := bb.kept gbw2
    replace hG := grown_trans hG gbw2
    clear gbw2
    clear ha ha'
    have gbbw2 := (World.grownBy_alloc bw2 (.cells #[.slice sa xa.length xa.length, .bool ba, .slice sa' xa'.length xa'.length, .bool ba'] 30) none)
    have Ba := (heap_new bw2 (.cells #[.slice sa xa.length xa.length, .bool ba, .slice sa' xa'.length xa'.length, .bool ba'] 30) (bw2.heap.size) rfl)
    have hzbw2 : Hid (w.heap.size ≤ bw2.heap.size) := Lib.hid hG.size
    replace bb := bb.kept gbbw2
    replace qa := qa.kept gbbw2
    replace hG := grown_trans hG gbbw2
    clear gbbw2
    obtain ⟨Ca0, Ca1, Ca2, Ca3, Fa0, Fa1, Fa2, Fa3⟩ := box_cells4 Ba
    go_wp2_with fail
    generalize (bw2.alloc (.cells #[.slice sa xa.length xa.length, .bool ba, .slice sa' xa'.length xa'.length, .bool ba'] 30)) = bw3 at *
    generalize bw2.heap.size = abw2 at *
    replace hzbw2 := hzbw2.out
    clear Ca0 Ca1 Ca2 Ca3 Fa0 Fa1 Fa2 Fa3
    refine (EN.out bw3 _ qa).mono ?_
    rintro e bw4 ⟨ac, cc, rfl, bc, gbw4⟩
    replace Ba := heap_kept gbw4 Ba
    replace bb := bb.kept gbw4
    replace qa := qa.kept gbw4
    replace hG := grown_trans hG gbw4
    clear gbw4
    obtain ⟨Ca0, Ca1, Ca2, Ca3, Fa0, Fa1, Fa2, Fa3⟩ := box_cells4 Ba
    go_wp2_with fail
    clear Ca0 Ca1 Ca2 Ca3 Fa0 Fa1 Fa2 Fa3
    refine (known_any bw4 (HTB.out _ hG)).mono ?_
    rintro e bw5 ⟨rfl, gbw5⟩
    replace Ba := heap_kept gbw5 Ba
    replace bb := bb.kept gbw5
    replace qa := qa.kept gbw5
    replace bc := bc.kept gbw5
    replace hG := grown_trans hG gbw5
    clear gbw5
    obtain ⟨Ca0, Ca1, Ca2, Ca3, Fa0, Fa1, Fa2, Fa3⟩ := box_cells4 Ba
    go_wp2_with fail
    clear Ca0 Ca1 Ca2 Ca3 Fa0 Fa1 Fa2 Fa3
    refine (CK.out bw5 _ _ bc (HTB.out _ hG)).mono ?_
    rintro e bw6 ⟨_, rfl, ⟨sd, xd, bd, sd', xd', bd', rfl, hd, hd'⟩, gbw6⟩
    have qd : RatV bw6 (.agg #[.slice sd xd.length xd.length, .bool bd, .slice sd' xd'.length xd'.length, .bool bd']) (R0) := ⟨sd, xd, bd, sd', xd', bd', rfl, hd, hd'⟩
    replace Ba := heap_kept gbw6 Ba
    replace bb := bb.kept gbw6
    replace qa := qa.kept gbw6
    replace bc := bc.kept gbw6
    replace hG := grown_trans hG gbw6
    clear gbw6
    clear hd hd'
    obtain ⟨Ca0, Ca1, Ca2, Ca3, Fa0, Fa1, Fa2, Fa3⟩ := box_cells4 Ba
    have gbbw6 := (World.grownBy_alloc bw6 (.cells #[.slice sd xd.length xd.length, .bool bd, .slice sd' xd'.length xd'.length, .bool bd'] 30) none)
    have Bd := (heap_new bw6 (.cells #[.slice sd xd.length xd.length, .bool bd, .slice sd' xd'.length xd'.length, .bool bd'] 30) (bw6.heap.size) rfl)
    have hzbw6 : Hid (w.heap.size ≤ bw6.heap.size) := Lib.hid hG.size
    have hlabw6 : Hid (abw2 < bw6.heap.size) := Lib.hid (Array.getElem?_eq_some_iff.1 Ba).1
    clear Ca0 Ca1 Ca2 Ca3 Fa0 Fa1 Fa2 Fa3
    replace Ba := heap_kept gbbw6 Ba
    replace bb := bb.kept gbbw6
    replace qa := qa.kept gbbw6
    replace bc := bc.kept gbbw6
    replace qd := qd.kept gbbw6
    replace hG := grown_trans hG gbbw6
    clear gbbw6
    obtain ⟨Ca0, Ca1, Ca2, Ca3, Fa0, Fa1, Fa2, Fa3⟩ := box_cells4 Ba
    obtain ⟨Cd0, Cd1, Cd2, Cd3, Fd0, Fd1, Fd2, Fd3⟩ := box_cells4 Bd
    go_wp2_with fail
    generalize (bw6.alloc (.cells #[.slice sd xd.length xd.length, .bool bd, .slice sd' xd'.length xd'.length, .bool bd'] 30)) = bw7 at *
    generalize bw6.heap.size = abw6 at *
    replace hzbw6 := hzbw6.out
    replace hlabw6 := hlabw6.out
    clear Ca0 Ca1 Ca2 Ca3 Fa0 Fa1 Fa2 Fa3 Cd0 Cd1 Cd2 Cd3 Fd0 Fd1 Fd2 Fd3
    refine (EN.out bw7 _ qd).mono ?_
    rintro e bw8 ⟨ag, cg, rfl, bg, gbw8⟩
    replace Ba := heap_kept gbw8 Ba
    replace Bd := heap_kept gbw8 Bd
    replace bb := bb.kept gbw8
    replace qa := qa.kept gbw8
    replace bc := bc.kept gbw8
    replace qd := qd.kept gbw8
    replace hG := grown_trans hG gbw8
    clear gbw8
    obtain ⟨Ca0, Ca1, Ca2, Ca3, Fa0, Fa1, Fa2, Fa3⟩ := box_cells4 Ba
    obtain ⟨Cd0, Cd1, Cd2, Cd3, Fd0, Fd1, Fd2, Fd3⟩ := box_cells4 Bd
    obtain ⟨sg, hsg⟩ : ∃ z, R0.num.sign = z := ⟨_, rfl⟩
    have FS : Hid (∀ W v, RatV W v R0 → Calls Tryd.prog 15 #[v] W (fun e w' => e = .returned (.int .i64 sg) ∧ W.grownBy w' none)) := fun W v h => by have h2 := FSign_any W v R0 5 h (by omega) HBD.out.1; rw [hsg] at h2; exact h2
    rw [hsg] at HS
    clear hsg
    rcases HS with rfl | ⟨HZ, HX⟩
    · skip
      go_wp2_with fail
      refine wp_region_held_drew (S := fun w' => w'.cell? ⟨abw2, 0, none⟩ = some (.slice sa xa.length xa.length) ∧ w'.cell? ⟨abw2, 1, none⟩ = some (.bool ba) ∧ w'.cell? ⟨abw2, 2, none⟩ = some (.slice sa' xa'.length xa'.length) ∧ w'.cell? ⟨abw2, 3, none⟩ = some (.bool ba')) (by kernel_rfl) (by exact ⟨Ca0, Ca1, Ca2, Ca3⟩) (fun hHeld => ?_)
      refine wpAnyH_take (i := 0) (v := ?_) rfl (by kernel_rfl) (by kernel_rfl) (by kernel_rfl) (fun _ _ _ h => h) (Or.inl ⟨by rfl, ?_⟩) (by assumption) ?_
      rotate_left
      · (intro w hSw; (try dsimp only at hSw); go_simp; (try with_reducible rfl))
      try simp only [Act.put, List.getElem_toArray, List.getElem_cons_zero, List.getElem_cons_succ, List.setIfInBounds_toArray, List.set_cons_zero, List.set_cons_succ]
      refine wpAnyH_ready (rs := [1]) (by kernel_rfl) (by simp) ?_
      refine AllReadyH.cons rfl (fun KQ hKQ => ?_) AllReadyH.nil
      go_simp
      (go_at_call 15; (with_reducible refine (FS.out bw8.drew _ (qa.kept (grown_drew (grown_refl _ _)))).mono ?_); rintro e bzw9_1 ⟨rfl, gbzw9_1⟩; have hGbzw9_1 := grown_pre bw8 gbzw9_1 rfl rfl rfl rfl; have hSbzw9_1 := (And.intro (hGbzw9_1.cell Ca0 (by simp)) (And.intro (hGbzw9_1.cell Ca1 (by simp)) (And.intro (hGbzw9_1.cell Ca2 (by simp)) (hGbzw9_1.cell Ca3 (by simp))))); clear gbzw9_1)
      (try go_wp2_with fail)
      refine hKQ.out _ _ (by exact hSbzw9_1) (fun hHeld => ?_)
      clear hKQ KQ
      try simp only [Act.put, List.getElem_toArray, List.getElem_cons_zero, List.getElem_cons_succ, List.setIfInBounds_toArray, List.set_cons_zero, List.set_cons_succ]
      refine wpAnyH_take (i := 2) (v := ?_) rfl (by kernel_rfl) (by kernel_rfl) (by kernel_rfl) (fun _ _ _ h => h) (Or.inl ⟨by rfl, ?_⟩) (by assumption) ?_
      rotate_left
      · (intro w hSw; (try dsimp only at hSw); go_simp; (try with_reducible rfl))
      try simp only [Act.put, List.getElem_toArray, List.getElem_cons_zero, List.getElem_cons_succ, List.setIfInBounds_toArray, List.set_cons_zero, List.set_cons_succ]
      refine wpAnyH_take (i := 3) (v := ?_) rfl (by kernel_rfl) (by kernel_rfl) (by kernel_rfl) (fun _ _ _ h => h) (Or.inl ⟨by rfl, ?_⟩) (by assumption) ?_
      rotate_left
      · (intro w hSw; (try dsimp only at hSw); go_simp; (try with_reducible rfl))
      try simp only [Act.put, List.getElem_toArray, List.getElem_cons_zero, List.getElem_cons_succ, List.setIfInBounds_toArray, List.set_cons_zero, List.set_cons_succ]
      refine wpAnyH_take (i := 4) (v := undef) rfl (by kernel_rfl) (by kernel_rfl) (by kernel_rfl) (fun _ _ _ h => h) (Or.inr ⟨by rfl, rfl⟩) (by assumption) ?_
      try simp only [Act.put, List.getElem_toArray, List.getElem_cons_zero, List.getElem_cons_succ, List.setIfInBounds_toArray, List.set_cons_zero, List.set_cons_succ]
      refine wpAnyH_take (i := 5) (v := undef) rfl (by kernel_rfl) (by kernel_rfl) (by kernel_rfl) (fun _ _ _ h => h) (Or.inr ⟨by rfl, rfl⟩) (by assumption) ?_
      try simp only [Act.put, List.getElem_toArray, List.getElem_cons_zero, List.getElem_cons_succ, List.setIfInBounds_toArray, List.set_cons_zero, List.set_cons_succ]
      refine wpAnyH_take (i := 6) (v := undef) rfl (by kernel_rfl) (by kernel_rfl) (by kernel_rfl) (fun _ _ _ h => h) (Or.inr ⟨by rfl, rfl⟩) (by assumption) ?_
      try simp only [Act.put, List.getElem_toArray, List.getElem_cons_zero, List.getElem_cons_succ, List.setIfInBounds_toArray, List.set_cons_zero, List.set_cons_succ]
      refine wpAnyH_take (i := 7) (v := undef) rfl (by kernel_rfl) (by kernel_rfl) (by kernel_rfl) (fun _ _ _ h => h) (Or.inr ⟨by rfl, rfl⟩) (by assumption) ?_
      try simp only [Act.put, List.getElem_toArray, List.getElem_cons_zero, List.getElem_cons_succ, List.setIfInBounds_toArray, List.set_cons_zero, List.set_cons_succ]
      refine wpAnyH_take (i := 8) (v := undef) rfl (by kernel_rfl) (by kernel_rfl) (by kernel_rfl) (fun _ _ _ h => h) (Or.inr ⟨by rfl, rfl⟩) (by assumption) ?_
      try simp only [Act.put, List.getElem_toArray, List.getElem_cons_zero, List.getElem_cons_succ, List.setIfInBounds_toArray, List.set_cons_zero, List.set_cons_succ]
      refine wpAnyH_take (i := 9) (v := undef) rfl (by kernel_rfl) (by kernel_rfl) (by kernel_rfl) (fun _ _ _ h => h) (Or.inr ⟨by rfl, rfl⟩) (by assumption) ?_
      try simp only [Act.put, List.getElem_toArray, List.getElem_cons_zero, List.getElem_cons_succ, List.setIfInBounds_toArray, List.set_cons_zero, List.set_cons_succ]
      refine wpAnyH_take (i := 10) (v := undef) rfl (by kernel_rfl) (by kernel_rfl) (by kernel_rfl) (fun _ _ _ h => h) (Or.inr ⟨by rfl, rfl⟩) (by assumption) ?_
      try simp only [Act.put, List.getElem_toArray, List.getElem_cons_zero, List.getElem_cons_succ, List.setIfInBounds_toArray, List.set_cons_zero, List.set_cons_succ]
      refine wpAnyH_take (i := 11) (v := undef) rfl (by kernel_rfl) (by kernel_rfl) (by kernel_rfl) (fun _ _ _ h => h) (Or.inr ⟨by rfl, rfl⟩) (by assumption) ?_
      try simp only [Act.put, List.getElem_toArray, List.getElem_cons_zero, List.getElem_cons_succ, List.setIfInBounds_toArray, List.set_cons_zero, List.set_cons_succ]
      refine wpAnyH_take (i := 12) (v := undef) rfl (by kernel_rfl) (by kernel_rfl) (by kernel_rfl) (fun _ _ _ h => h) (Or.inr ⟨by rfl, rfl⟩) (by assumption) ?_
      try simp only [Act.put, List.getElem_toArray, List.getElem_cons_zero, List.getElem_cons_succ, List.setIfInBounds_toArray, List.set_cons_zero, List.set_cons_succ]
      refine wpAnyH_take (i := 13) (v := ?_) rfl (by kernel_rfl) (by kernel_rfl) (by kernel_rfl) (fun _ _ _ h => h) (Or.inl ⟨by rfl, ?_⟩) (by assumption) ?_
      rotate_left
      · (intro w hSw; (try dsimp only at hSw); go_simp; (try with_reducible rfl))
      try simp only [Act.put, List.getElem_toArray, List.getElem_cons_zero, List.getElem_cons_succ, List.setIfInBounds_toArray, List.set_cons_zero, List.set_cons_succ]
      refine wpAnyH_done (by kernel_rfl) ?_ _
      replace Ba := heap_kept hGbzw9_1 Ba
      replace Bd := heap_kept hGbzw9_1 Bd
      replace bb := bb.kept hGbzw9_1
      replace qa := qa.kept hGbzw9_1
      replace bc := bc.kept hGbzw9_1
      replace qd := qd.kept hGbzw9_1
      replace bg := bg.kept hGbzw9_1
      replace hG := grown_trans hG hGbzw9_1
      clear Ca0 Ca1 Ca2 Ca3 Fa0 Fa1 Fa2 Fa3 Cd0 Cd1 Cd2 Cd3 Fd0 Fd1 Fd2 Fd3
      obtain ⟨Ca0, Ca1, Ca2, Ca3, Fa0, Fa1, Fa2, Fa3⟩ := box_cells4 Ba
      obtain ⟨Cd0, Cd1, Cd2, Cd3, Fd0, Fd1, Fd2, Fd3⟩ := box_cells4 Bd
      go_wp2_with fail
      have cb0 := C8L.out _ _ _ bb; have ck0 := C8K.out _ _ _ bc
      have a1 := A1.out; have a2 := A2.out
      have a3 : decide ((ey : Int) ≤ (ex : Int)) = true := decide_eq_true (by omega)
      have HTr : Hid (∀ W, bzw9_1.grownBy W none → Tab W) := fun W hW => HTB.out _ (grown_trans hG hW)
      go_region_held3 (fun w' => w'.cell? ⟨abw6, 0, none⟩ = some (.slice sd xd.length xd.length) ∧ w'.cell? ⟨abw6, 1, none⟩ = some (.bool bd) ∧ w'.cell? ⟨abw6, 2, none⟩ = some (.slice sd' xd'.length xd'.length) ∧ w'.cell? ⟨abw6, 3, none⟩ = some (.bool bd') ∧ w'.cell? ⟨abw2, 0, none⟩ = some (.slice sa xa.length xa.length) ∧ w'.cell? ⟨abw2, 1, none⟩ = some (.bool ba) ∧ w'.cell? ⟨abw2, 2, none⟩ = some (.slice sa' xa'.length xa'.length) ∧ w'.cell? ⟨abw2, 3, none⟩ = some (.bool ba') ∧ w'.cell? ⟨gb, 0, none⟩ = some (.int .u8 (x0 : Int)) ∧ w'.cell? ac = some (.int .u8 (y0 : Int)))
        (first | assumption | exact ⟨Cd0, Cd1, Cd2, Cd3, Ca0, Ca1, Ca2, Ca3, cb0, ck0⟩ | go_keep)
        (first
          | (go_at_call 16; (with_reducible refine (CM.out bzw9_1.drew _ _ (qd.kept (grown_drew (grown_refl _ _))) (qa.kept (grown_drew (grown_refl _ _)))).mono ?_); rintro e bzw10_1 ⟨rfl, gbzw10_1⟩; have hGbzw10_1 := grown_pre bzw9_1 gbzw10_1 rfl rfl rfl rfl; have hSbzw10_1 := (And.intro (hGbzw10_1.cell Cd0 (by simp)) (And.intro (hGbzw10_1.cell Cd1 (by simp)) (And.intro (hGbzw10_1.cell Cd2 (by simp)) (And.intro (hGbzw10_1.cell Cd3 (by simp)) (And.intro (hGbzw10_1.cell Ca0 (by simp)) (And.intro (hGbzw10_1.cell Ca1 (by simp)) (And.intro (hGbzw10_1.cell Ca2 (by simp)) (And.intro (hGbzw10_1.cell Ca3 (by simp)) (And.intro (hGbzw10_1.cell cb0 (by simp)) (hGbzw10_1.cell ck0 (by simp))))))))))); clear gbzw10_1)
          | (go_at_call 11; (with_reducible refine (SM.out bzw10_1 _ _ _ _ (bg.kept hGbzw10_1) (bc.kept hGbzw10_1)).mono ?_); rintro e bzw10_2 ⟨rfl, gbzw10_2⟩; have hGbzw10_2 := grown_trans hGbzw10_1 gbzw10_2; have hSbzw10_2 := (And.intro (hGbzw10_2.cell Cd0 (by simp)) (And.intro (hGbzw10_2.cell Cd1 (by simp)) (And.intro (hGbzw10_2.cell Cd2 (by simp)) (And.intro (hGbzw10_2.cell Cd3 (by simp)) (And.intro (hGbzw10_2.cell Ca0 (by simp)) (And.intro (hGbzw10_2.cell Ca1 (by simp)) (And.intro (hGbzw10_2.cell Ca2 (by simp)) (And.intro (hGbzw10_2.cell Ca3 (by simp)) (And.intro (hGbzw10_2.cell cb0 (by simp)) (hGbzw10_2.cell ck0 (by simp))))))))))); clear gbzw10_2)
          | (go_at_call 17; (with_reducible refine (RS.out bzw10_2 _ _ _ _ (bb.kept hGbzw10_2) (bc.kept hGbzw10_2) (HTr.out _ hGbzw10_2)).mono ?_); rintro e bzw10_3 ⟨rfl, gbzw10_3⟩; have hGbzw10_3 := grown_trans hGbzw10_2 gbzw10_3; have hSbzw10_3 := (And.intro (hGbzw10_3.cell Cd0 (by simp)) (And.intro (hGbzw10_3.cell Cd1 (by simp)) (And.intro (hGbzw10_3.cell Cd2 (by simp)) (And.intro (hGbzw10_3.cell Cd3 (by simp)) (And.intro (hGbzw10_3.cell Ca0 (by simp)) (And.intro (hGbzw10_3.cell Ca1 (by simp)) (And.intro (hGbzw10_3.cell Ca2 (by simp)) (And.intro (hGbzw10_3.cell Ca3 (by simp)) (And.intro (hGbzw10_3.cell cb0 (by simp)) (hGbzw10_3.cell ck0 (by simp))))))))))); clear gbzw10_3))
      replace Ba := heap_kept hGbzw10_3 Ba
      replace Bd := heap_kept hGbzw10_3 Bd
      replace bb := bb.kept hGbzw10_3
      replace qa := qa.kept hGbzw10_3
      replace bc := bc.kept hGbzw10_3
      replace qd := qd.kept hGbzw10_3
      replace bg := bg.kept hGbzw10_3
      replace hG := grown_trans hG hGbzw10_3
      clear Ca0 Ca1 Ca2 Ca3 Fa0 Fa1 Fa2 Fa3 Cd0 Cd1 Cd2 Cd3 Fd0 Fd1 Fd2 Fd3
      go_wp2_with fail
      go_ret
      exact ⟨by first | rfl | simp, hG⟩
    · skip
      go_wp2_with fail
      have cb0 := C8L.out _ _ _ bb; have ck0 := C8K.out _ _ _ bc
      obtain ⟨z1, z2, z3⟩ := HZ.out
      have zx := HX.out
      go_region_held3 (fun w' => w'.cell? ⟨abw2, 0, none⟩ = some (.slice sa xa.length xa.length) ∧ w'.cell? ⟨abw2, 1, none⟩ = some (.bool ba) ∧ w'.cell? ⟨abw2, 2, none⟩ = some (.slice sa' xa'.length xa'.length) ∧ w'.cell? ⟨abw2, 3, none⟩ = some (.bool ba') ∧ w'.cell? ⟨gb, 0, none⟩ = some (.int .u8 (x0 : Int)) ∧ w'.cell? ac = some (.int .u8 (y0 : Int)))
        (first | assumption | exact ⟨Ca0, Ca1, Ca2, Ca3, cb0, ck0⟩ | go_keep)
        (first
          | (go_at_call 15; (with_reducible refine (FS.out bw8.drew _ (qa.kept (grown_drew (grown_refl _ _)))).mono ?_); rintro e bnw9_1 ⟨rfl, gbnw9_1⟩; have hGbnw9_1 := grown_pre bw8 gbnw9_1 rfl rfl rfl rfl; have hSbnw9_1 := (And.intro (hGbnw9_1.cell Ca0 (by simp)) (And.intro (hGbnw9_1.cell Ca1 (by simp)) (And.intro (hGbnw9_1.cell Ca2 (by simp)) (And.intro (hGbnw9_1.cell Ca3 (by simp)) (And.intro (hGbnw9_1.cell cb0 (by simp)) (hGbnw9_1.cell ck0 (by simp))))))); clear gbnw9_1))
      replace Ba := heap_kept hGbnw9_1 Ba
      replace Bd := heap_kept hGbnw9_1 Bd
      replace bb := bb.kept hGbnw9_1
      replace qa := qa.kept hGbnw9_1
      replace bc := bc.kept hGbnw9_1
      replace qd := qd.kept hGbnw9_1
      replace bg := bg.kept hGbnw9_1
      replace hG := grown_trans hG hGbnw9_1
      clear Ca0 Ca1 Ca2 Ca3 Fa0 Fa1 Fa2 Fa3 Cd0 Cd1 Cd2 Cd3 Fd0 Fd1 Fd2 Fd3
      clear cb0 ck0 z1 z2 z3 zx HZ HX
      obtain ⟨Ca0, Ca1, Ca2, Ca3, Fa0, Fa1, Fa2, Fa3⟩ := box_cells4 Ba
      obtain ⟨Cd0, Cd1, Cd2, Cd3, Fd0, Fd1, Fd2, Fd3⟩ := box_cells4 Bd
      go_wp2_with fail
      have cb0 := C8L.out _ _ _ bb; have ck0 := C8K.out _ _ _ bc
      have a1 := A1.out; have a2 := A2.out
      have a3 : decide ((ey : Int) ≤ (ex : Int)) = true := decide_eq_true (by omega)
      have HTr : Hid (∀ W, bnw9_1.grownBy W none → Tab W) := fun W hW => HTB.out _ (grown_trans hG hW)
      go_region_held3 (fun w' => w'.cell? ⟨abw6, 0, none⟩ = some (.slice sd xd.length xd.length) ∧ w'.cell? ⟨abw6, 1, none⟩ = some (.bool bd) ∧ w'.cell? ⟨abw6, 2, none⟩ = some (.slice sd' xd'.length xd'.length) ∧ w'.cell? ⟨abw6, 3, none⟩ = some (.bool bd') ∧ w'.cell? ⟨abw2, 0, none⟩ = some (.slice sa xa.length xa.length) ∧ w'.cell? ⟨abw2, 1, none⟩ = some (.bool ba) ∧ w'.cell? ⟨abw2, 2, none⟩ = some (.slice sa' xa'.length xa'.length) ∧ w'.cell? ⟨abw2, 3, none⟩ = some (.bool ba') ∧ w'.cell? ⟨gb, 0, none⟩ = some (.int .u8 (x0 : Int)) ∧ w'.cell? ac = some (.int .u8 (y0 : Int)))
        (first | assumption | exact ⟨Cd0, Cd1, Cd2, Cd3, Ca0, Ca1, Ca2, Ca3, cb0, ck0⟩ | go_keep)
        (first
          | (go_at_call 16; (with_reducible refine (CM.out bnw9_1.drew _ _ (qd.kept (grown_drew (grown_refl _ _))) (qa.kept (grown_drew (grown_refl _ _)))).mono ?_); rintro e bnw10_1 ⟨rfl, gbnw10_1⟩; have hGbnw10_1 := grown_pre bnw9_1 gbnw10_1 rfl rfl rfl rfl; have hSbnw10_1 := (And.intro (hGbnw10_1.cell Cd0 (by simp)) (And.intro (hGbnw10_1.cell Cd1 (by simp)) (And.intro (hGbnw10_1.cell Cd2 (by simp)) (And.intro (hGbnw10_1.cell Cd3 (by simp)) (And.intro (hGbnw10_1.cell Ca0 (by simp)) (And.intro (hGbnw10_1.cell Ca1 (by simp)) (And.intro (hGbnw10_1.cell Ca2 (by simp)) (And.intro (hGbnw10_1.cell Ca3 (by simp)) (And.intro (hGbnw10_1.cell cb0 (by simp)) (hGbnw10_1.cell ck0 (by simp))))))))))); clear gbnw10_1)
          | (go_at_call 11; (with_reducible refine (SM.out bnw10_1 _ _ _ _ (bg.kept hGbnw10_1) (bc.kept hGbnw10_1)).mono ?_); rintro e bnw10_2 ⟨rfl, gbnw10_2⟩; have hGbnw10_2 := grown_trans hGbnw10_1 gbnw10_2; have hSbnw10_2 := (And.intro (hGbnw10_2.cell Cd0 (by simp)) (And.intro (hGbnw10_2.cell Cd1 (by simp)) (And.intro (hGbnw10_2.cell Cd2 (by simp)) (And.intro (hGbnw10_2.cell Cd3 (by simp)) (And.intro (hGbnw10_2.cell Ca0 (by simp)) (And.intro (hGbnw10_2.cell Ca1 (by simp)) (And.intro (hGbnw10_2.cell Ca2 (by simp)) (And.intro (hGbnw10_2.cell Ca3 (by simp)) (And.intro (hGbnw10_2.cell cb0 (by simp)) (hGbnw10_2.cell ck0 (by simp))))))))))); clear gbnw10_2)
          | (go_at_call 17; (with_reducible refine (RS.out bnw10_2 _ _ _ _ (bb.kept hGbnw10_2) (bc.kept hGbnw10_2) (HTr.out _ hGbnw10_2)).mono ?_); rintro e bnw10_3 ⟨rfl, gbnw10_3⟩; have hGbnw10_3 := grown_trans hGbnw10_2 gbnw10_3; have hSbnw10_3 := (And.intro (hGbnw10_3.cell Cd0 (by simp)) (And.intro (hGbnw10_3.cell Cd1 (by simp)) (And.intro (hGbnw10_3.cell Cd2 (by simp)) (And.intro (hGbnw10_3.cell Cd3 (by simp)) (And.intro (hGbnw10_3.cell Ca0 (by simp)) (And.intro (hGbnw10_3.cell Ca1 (by simp)) (And.intro (hGbnw10_3.cell Ca2 (by simp)) (And.intro (hGbnw10_3.cell Ca3 (by simp)) (And.intro (hGbnw10_3.cell cb0 (by simp)) (hGbnw10_3.cell ck0 (by simp))))))))))); clear gbnw10_3))
      replace Ba := heap_kept hGbnw10_3 Ba
      replace Bd := heap_kept hGbnw10_3 Bd
      replace bb := bb.kept hGbnw10_3
      replace qa := qa.kept hGbnw10_3
      replace bc := bc.kept hGbnw10_3
      replace qd := qd.kept hGbnw10_3
      replace bg := bg.kept hGbnw10_3
      replace hG := grown_trans hG hGbnw10_3
      clear Ca0 Ca1 Ca2 Ca3 Fa0 Fa1 Fa2 Fa3 Cd0 Cd1 Cd2 Cd3 Fd0 Fd1 Fd2 Fd3
      go_wp2_with fail
      go_ret
      exact ⟨by first | rfl | simp, hG⟩
end Go.Proofs.YtldkddogadmpbaaDoor
namespace Go.Proofs.YtldkddogadmpbaaDoor
set_option linter.unusedVariables false
set_option linter.unusedSimpArgs false
theorem rcmp_rv (e m m' : Nat) : rcmp (rv false e m) (rv false e m') = zcmp (m : Int) (m' : Int) := by
  have hp : 0 < 2 ^ (4 * (e - 78)) := Nat.pow_pos (by decide)
  have hq : 0 < 2 ^ (4 * (78 - e)) := Nat.pow_pos (by decide)
  unfold rv
  rw [rcmp_divInt (by omega) (by omega)]
  simp only [Bool.false_eq_true, if_false, Int.one_mul]
  generalize 2 ^ (4 * (e - 78)) = P at *
  generalize 2 ^ (4 * (78 - e)) = Q at *
  have hs : ((P : Int) * (Q : Int)).sign = 1 := Int.sign_eq_one_of_pos (Int.mul_pos (by omega) (by omega))
  have h := zcmp_mul (m : Int) (m' : Int) ((P : Int) * (Q : Int))
  rw [hs, Int.mul_one] at h
  rw [← h, Int.natCast_mul, Int.natCast_mul, Int.mul_assoc, Int.mul_assoc]
def bord : List Nat → List Nat → Int
  | x :: xs, y :: ys => if x < y then -1 else if y < x then 1 else bord xs ys
  | _, _ => 0
theorem bord_val : ∀ (xs ys : List Nat) (a b : Nat), xs.length = ys.length → (∀ x ∈ xs, x < 256) → (∀ y ∈ ys, y < 256) →
    zcmp ((xs.foldl (fun a x => a * 256 + x) a : Nat) : Int) ((ys.foldl (fun a x => a * 256 + x) b : Nat) : Int) = if a < b then -1 else if b < a then 1 else bord xs ys := by
  intro xs
  induction xs with
  | nil =>
    intro ys a b h _ _
    cases ys with
    | nil =>
      show (if (a : Int) < (b : Int) then (-1 : Int) else if (a : Int) = (b : Int) then 0 else 1) = if a < b then -1 else if b < a then 1 else 0
      by_cases h1 : a < b
      · rw [if_pos (by omega), if_pos h1]
      · rw [if_neg (by omega), if_neg h1]
        by_cases h2 : b < a
        · rw [if_neg (by omega), if_pos h2]
        · rw [if_pos (by omega), if_neg h2]
    | cons y t => simp at h
  | cons x xs ih =>
    intro ys a b h hx hy
    cases ys with
    | nil => simp at h
    | cons y ys =>
      have hx0 := hx x (by simp); have hy0 := hy y (by simp)
      simp only [List.foldl_cons]
      rw [ih ys _ _ (by simpa using h) (fun z hz => hx z (by simp [hz])) (fun z hz => hy z (by simp [hz]))]
      simp only [bord]
      by_cases h1 : a < b
      · rw [if_pos (by omega), if_pos h1]
      · by_cases h2 : b < a
        · rw [if_neg (by omega), if_pos (by omega), if_neg h1, if_pos h2]
        · rw [if_neg h1, if_neg h2]
          have : a = b := by omega
          subst this
          by_cases h3 : x < y
          · rw [if_pos (by omega), if_pos h3]
          · by_cases h4 : y < x
            · rw [if_neg (by omega), if_pos (by omega), if_neg h3, if_pos h4]
            · rw [if_neg (by omega), if_neg (by omega), if_neg h3, if_neg h4]
theorem bord_mv {l k : List Nat} (hl : l.length = 8) (hk : k.length = 8) (dl : ∀ x ∈ l, x < 256) (dk : ∀ x ∈ k, x < 256) : bord l.tail k.tail = zcmp (mv l.tail : Int) (mv k.tail : Int) := by
  have := bord_val l.tail k.tail 0 0 (by simp [hl, hk]) (fun x hx => dl x (List.mem_of_mem_tail hx)) (fun x hx => dk x (List.mem_of_mem_tail hx))
  rw [if_neg (by omega), if_neg (by omega)] at this
  exact this.symm
end Go.Proofs.YtldkddogadmpbaaDoor
namespace Go.Proofs.YtldkddogadmpbaaDoor
open Go.RowKit Mat
set_option linter.unusedVariables false
theorem rmul_num (a b : Rat) : (a * b).num = (a.num / ((Nat.gcd a.num.natAbs b.den : Nat) : Int)) * (b.num / ((Nat.gcd b.num.natAbs a.den : Nat) : Int)) := by
  show (Rat.mul a b).num = _
  unfold Rat.mul
  rfl
theorem rmul_den (a b : Rat) : (a * b).den = (a.den / Nat.gcd b.num.natAbs a.den) * (b.den / Nat.gcd a.num.natAbs b.den) := by
  show (Rat.mul a b).den = _
  unfold Rat.mul
  rfl
theorem radd_parts (a b : Rat) (g g1 : Nat) (n : Int) (hg : g = Nat.gcd a.den b.den) (hn : n = a.num * ((b.den / g : Nat) : Int) + b.num * ((a.den / g : Nat) : Int)) (hg1 : g1 = Nat.gcd n.natAbs g) :
    (a + b).num = n / (g1 : Int) ∧ (a + b).den = (a.den / g) * (b.den / g1) := by
  have hd : g1 ∣ b.den := by rw [hg1, hg]; exact Nat.dvd_trans (Nat.gcd_dvd_right _ _) (Nat.gcd_dvd_right _ _)
  have hgn : g1 ∣ n.natAbs := by rw [hg1]; exact Nat.gcd_dvd_left _ _
  have hmul : (a.den / g) * (b.den / g1) = (a.den / g) * b.den / g1 := (Nat.mul_div_assoc _ hd).symm
  show (Rat.add a b).num = _ ∧ (Rat.add a b).den = _
  unfold Rat.add
  by_cases h : g = 1
  · have h1 : g1 = 1 := by rw [hg1, h, Nat.gcd_one_right]
    rw [dif_pos (by rw [← hg]; exact h)]
    dsimp only
    rw [hn, h1]
    have e1 : b.den / g = b.den := by rw [h, Nat.div_one]
    have e2 : a.den / g = a.den := by rw [h, Nat.div_one]
    rw [e1, e2, Nat.div_one]
    exact ⟨(Int.ediv_one _).symm, rfl⟩
  · rw [dif_neg (by rw [← hg]; exact h)]
    dsimp only
    rw [Rat.maybeNormalize_eq]
    dsimp only
    rw [Int.divExact_eq_ediv, hmul]
    subst hg
    subst hn
    subst hg1
    exact ⟨rfl, rfl⟩
theorem rinv_pos (t : Rat) (h : 0 < t.num) : (t⁻¹).num = (t.den : Int) ∧ ((t⁻¹).den : Int) = t.num := by
  show (Rat.inv t).num = _ ∧ ((Rat.inv t).den : Int) = _
  unfold Rat.inv
  rw [dif_neg (by omega), dif_pos h]
  exact ⟨rfl, by dsimp only; omega⟩
theorem rinv_neg (t : Rat) (h : t.num < 0) : (t⁻¹).num = -(t.den : Int) ∧ ((t⁻¹).den : Int) = -t.num := by
  show (Rat.inv t).num = _ ∧ ((Rat.inv t).den : Int) = _
  unfold Rat.inv
  rw [dif_pos h]
  exact ⟨rfl, by dsimp only; omega⟩
end Go.Proofs.YtldkddogadmpbaaDoor
