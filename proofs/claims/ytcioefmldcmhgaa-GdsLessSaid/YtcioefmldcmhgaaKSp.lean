/- Records: fits, letters, the signs of texts. -/
import Derived.Test.YtcioefmldcmhgaaKFr
import Derived.Test.YtcioefmldcmhgaaKSame
import Derived.IntWalk
import Derived.Laws.EntriesVeiled
import Derived.Lib.SlicesS
namespace Go.Proofs.Ytcioefmldcmhgaa
open Go.RowKit
set_option maxRecDepth 100000
set_option linter.unusedVariables false
set_option linter.unusedSimpArgs false

def RetB (w : World) (c : Bool) (e : Ending) (w' : World) : Prop := e = .returned (.bool c) ∧ w.grownBy w' none
theorem wrap_i64 (x : Int) (h0 : -9223372036854775808 ≤ x) (h1 : x ≤ 9223372036854775807) : IntKind.i64.wrap x = x := by
  unfold IntKind.wrap
  simp [IntKind.bits, IntKind.signed]
  split <;> omega
theorem tmod_nat (n p : Nat) : (n : Int).tmod (p : Int) = ((n % p : Nat) : Int) := (Int.ofNat_tmod n p).symm
theorem div_wrap (n p : Nat) (hb : n ≤ 9223372036854775807) : wrap64 ((n : Int) / (p : Int)) = ((n / p : Nat) : Int) := by
  have := Nat.div_le_self n p
  rw [← Int.natCast_ediv]
  obtain ⟨q, hq⟩ : ∃ q, n / p = q := ⟨_, rfl⟩
  rw [hq] at this ⊢
  unfold wrap64
  omega
set_option maxHeartbeats 16000000 in
theorem Fits_any (w : World) (d p m n : Nat) (sv : Value) (hp : m = 0 ∨ 0 < p) (hb : p ≤ 9223372036854775807) (hn : n ≤ 9223372036854775807) :
    Calls Try.prog 85 #[.agg #[.int .u8 (d : Int), .int .i64 (p : Int), .int .i64 (m : Int), sv], .int .i64 (n : Int)] w (RetB w (fitsB p m n)) := by
  have g2 := World.grownBy_alloc w (.cells #[.int .u8 (d : Int), .int .i64 (p : Int), .int .i64 (m : Int), sv] 112) none
  have b2 := heap_new w (.cells #[.int .u8 (d : Int), .int .i64 (p : Int), .int .i64 (m : Int), sv] 112) w.heap.size rfl
  obtain ⟨D0, D1, D2, D3, _, _, _, _⟩ := box_cells4 b2
  clear b2
  by_cases hm : m = 0
  · have f1 : ((m : Int) == 0) = true := beq_iff_eq.2 (by omega)
    obtain ⟨B, hB⟩ : ∃ B, ((n : Int) == 0) = B := ⟨_, rfl⟩
    have hF : Hid (fitsB p m n = B) := Lib.hid (by
      unfold fitsB; rw [if_pos hm, ← hB]
      by_cases h : n = 0
      · rw [decide_eq_true h]; exact (beq_iff_eq.2 (by omega)).symm
      · rw [decide_eq_false h]; exact (beq_eq_false_iff_ne.2 (by omega)).symm)
    rw [hF.out]
    clear hm
    go_enter Try.func85, Try.ntmps85
    go_wp2_with fail
    go_ret
    exact ⟨rfl, g2⟩
  · have hp0 : 0 < p := hp.resolve_left hm
    have f1 : ((m : Int) == 0) = false := beq_eq_false_iff_ne.2 (by omega)
    have f0 : ¬ ((p : Int) = 0) := by omega
    have q1 := tmod_nat n p
    have q2 : wrap64 ((n : Int) / (p : Int)) = ((n / p : Nat) : Int) := div_wrap n p hn
    obtain ⟨B, hB⟩ : ∃ B, fitsB p m n = B := ⟨_, rfl⟩
    rw [hB]
    have hF : Hid (decide (0 < n ∧ n % p = 0 ∧ n / p ≤ m) = B) := Lib.hid (by rw [← hB]; unfold fitsB; rw [if_neg hm])
    clear hm hB hp
    by_cases h0 : 0 < n
    · have f2 : decide ((0 : Int) < (n : Int)) = true := decide_eq_true (by omega)
      by_cases h1 : n % p = 0
      · have f3 : (((n % p : Nat) : Int) == 0) = true := beq_iff_eq.2 (by omega)
        obtain ⟨C, hC⟩ : ∃ C, decide (n / p ≤ m) = C := ⟨_, rfl⟩
        have hBC : B = C := by
          rw [← hF.out, ← hC, decide_eq_decide]; exact ⟨fun h => h.2.2, fun h => ⟨h0, h1, h⟩⟩
        subst hBC
        clear hF h1
        obtain ⟨R, hR⟩ : ∃ R, n % p = R := ⟨_, rfl⟩
        obtain ⟨Q, hQ⟩ : ∃ Q, n / p = Q := ⟨_, rfl⟩
        rw [hR] at q1 f3
        rw [hQ] at q2 hC
        clear hR hQ
        go_enter Try.func85, Try.ntmps85
        go_wp2_with fail
        go_quiet (fail)
        go_wp2_with fail
        go_ret
        exact ⟨rfl, grown_trans g2 (grown_drewN _ _ _)⟩
      · have f3 : (((n % p : Nat) : Int) == 0) = false := beq_eq_false_iff_ne.2 (by omega)
        have hBC : B = false := by rw [← hF.out]; exact decide_eq_false (fun h => h1 h.2.1)
        subst hBC
        clear hF h1
        obtain ⟨R, hR⟩ : ∃ R, n % p = R := ⟨_, rfl⟩
        rw [hR] at q1 f3
        clear hR
        go_enter Try.func85, Try.ntmps85
        go_wp2_with fail
        go_quiet (fail)
        go_wp2_with fail
        go_ret
        exact ⟨rfl, grown_trans g2 (grown_drewN _ _ _)⟩
    · have f2 : decide ((0 : Int) < (n : Int)) = false := decide_eq_false (by omega)
      have hBC : B = false := by rw [← hF.out]; exact decide_eq_false (fun h => h0 h.1)
      subst hBC
      clear hF
      go_enter Try.func85, Try.ntmps85
      go_wp2_with fail
      go_quiet (fail)
      go_wp2_with fail
      go_ret
      exact ⟨rfl, grown_trans g2 (grown_drewN _ _ _)⟩
/-- Equal: whatever the bytes. -/
theorem str_eq (l m : List Nat) (hl : ∀ x ∈ l, x < 256) (hm : ∀ x ∈ m, x < 256) : decide (strOf l = strOf m) = decide (l = m) := by
  rw [decide_eq_decide]
  exact ⟨strOf_inj hl hm, fun h => by rw [h]⟩
set_option maxHeartbeats 16000000 in
theorem Equal_any (w : World) (s1 s2 : Option Addr) (n1 n2 c1 c2 : Nat) (l m : List Nat) (hn1 : l.length = n1) (hn2 : m.length = n2) (h1 : BySl w s1 l) (h2 : BySl w s2 m) :
    Calls Try.prog 88 #[.slice s1 n1 c1, .slice s2 n2 c2] w (RetB w (decide (l = m))) := by
  have k1 := conv_by w s1 n1 c1 l hn1 h1
  have k2 := conv_by w s2 n2 c2 m hn2 h2
  have hs := str_eq l m h1.2 h2.2
  obtain ⟨B, hB⟩ : ∃ B, decide (l = m) = B := ⟨_, rfl⟩
  rw [hB] at hs ⊢
  obtain ⟨S1, hS1⟩ : ∃ S, strOf l = S := ⟨_, rfl⟩
  obtain ⟨S2, hS2⟩ : ∃ S, strOf m = S := ⟨_, rfl⟩
  have hs2 : ((strOf l).toList == (strOf m).toList) = B := by
    rw [← hs, Bool.eq_iff_iff, decide_eq_true_eq]; exact Go.Lib.bytes_beq_iff _ _
  rw [hS1] at k1 hs hs2
  rw [hS2] at k2 hs hs2
  clear hS1 hS2 hn1 hn2 h1 h2 hB
  go_enter Try.func88, Try.ntmps88
  go_wp2_with (simp only [k1, k2])
  go_ret
  exact ⟨rfl, grown_refl _ _⟩
/-- A slice of the last byte. -/
theorem drop_last {l : List Nat} (h : 0 < l.length) : decide (l.drop (l.length - 1) = [0]) = decide (l.getLast? = some 0) := by
  rw [decide_eq_decide, List.getLast?_eq_getElem?, List.getElem?_eq_getElem (by omega)]
  rw [List.drop_eq_getElem_cons (by omega), show l.length - 1 + 1 = l.length from by omega, List.drop_length]
  simp
set_option maxHeartbeats 16000000 in
theorem HasSuffix_any (w : World) (s : Option Addr) (q : Addr) (n cap c2 : Nat) (l : List Nat) (hn : l.length = n) (hl : BySl w s l) (hq : BySl w (some q) [0]) (hz : s = none → n = 0 ∧ cap = 0) (hc : n ≤ cap) (hm : cap ≤ 9223372036854775807) :
    Calls Try.prog 83 #[.slice s n cap, .slice (some q) 1 c2] w (RetB w (decide (l.getLast? = some 0))) := by
  rcases Nat.eq_zero_or_pos n with h0 | h0
  · have f1 : decide ((1 : Int) ≤ (n : Int)) = false := decide_eq_false (by omega)
    have e : decide (l.getLast? = some 0) = false := by
      obtain rfl : l = [] := List.length_eq_zero_iff.1 (by omega)
      rfl
    rw [e]
    subst h0
    clear hl hq hn e
    go_enter Try.func83, Try.ntmps83
    go_wp2_with fail
    go_ret
    exact ⟨rfl, grown_refl _ _⟩
  · obtain ⟨a, rfl⟩ : ∃ a, s = some a := by
      cases s with
      | none => have := (hz rfl).1; omega
      | some a => exact ⟨a, rfl⟩
    have f1 : decide ((1 : Int) ≤ (n : Int)) = true := decide_eq_true (by omega)
    have hd := drop_last (l := l) (by omega)
    rw [hn] at hd
    obtain ⟨k, hk⟩ : ∃ k, n = k + 1 := ⟨n - 1, by omega⟩
    subst hk
    rw [show k + 1 - 1 = k from rfl] at hd
    rw [← hd]
    have i1 : (k : Int) ≤ (cap : Int) := by omega
    have i2 : (k : Int) ≤ ((k + 1 : Nat) : Int) := by omega
    obtain ⟨p, hp, hpl⟩ := cut_some (c := cap = k) (a := a) (hl.drop k) (fun e => by omega)
    have hln : (l.drop k).length = 1 := by rw [List.length_drop]; omega
    obtain ⟨m, hm'⟩ : ∃ m, l.drop k = m := ⟨_, rfl⟩
    rw [hm'] at hln hpl ⊢
    clear hm' hd hl hn
    go_enter Try.func83, Try.ntmps83
    go_wp2_with fail
    refine (Equal_any w _ _ _ _ _ _ m [0] hln rfl hpl hq).mono ?_
    rintro e w1 ⟨rfl, hg⟩
    go_wp2_with fail
    go_ret
    exact ⟨rfl, hg⟩
def RetLet (w : World) (s : Option Addr) (cap : Nat) (l : List Nat) (e : Ending) (w' : World) : Prop := e = .returned (.slice s (lettersL l).length cap) ∧ w.grownBy w' none
theorem letters_len (l : List Nat) : (lettersL l).length ≤ l.length := by unfold lettersL; split <;> simp
theorem letters_take (l : List Nat) : lettersL l = l.take (lettersL l).length := by
  unfold lettersL
  split
  · rw [List.length_dropLast]; exact List.dropLast_eq_take
  · rw [List.take_length]
set_option maxHeartbeats 16000000 in
theorem TrimSuffix_any (w : World) (s : Option Addr) (q : Addr) (n cap c2 : Nat) (l : List Nat) (hn : l.length = n) (hl : BySl w s l) (hq : BySl w (some q) [0]) (hz : s = none → n = 0 ∧ cap = 0) (hc : n ≤ cap) (hm : cap ≤ 9223372036854775807) :
    Calls Try.prog 78 #[.slice s n cap, .slice (some q) 1 c2] w (RetLet w s cap l) := by
  have hH := HasSuffix_any w s q n cap c2 l hn hl hq hz hc hm
  by_cases he : l.getLast? = some 0
  · have h0 : 0 < n := by
      rcases Nat.eq_zero_or_pos n with h | h
      · obtain rfl : l = [] := List.length_eq_zero_iff.1 (by omega)
        cases he
      · exact h
    obtain ⟨a, rfl⟩ : ∃ a, s = some a := by
      cases s with
      | none => have := (hz rfl).1; omega
      | some a => exact ⟨a, rfl⟩
    rw [decide_eq_true he] at hH
    have hlen : (lettersL l).length = n - 1 := by rw [letters_end he, List.length_dropLast, hn]
    unfold RetLet
    rw [hlen]
    obtain ⟨k, hk⟩ : ∃ k, n = k + 1 := ⟨n - 1, by omega⟩
    subst hk
    rw [show k + 1 - 1 = k from rfl]
    have i1 : (k : Int) ≤ (cap : Int) := by omega
    have HH := Lib.hid hH
    clear hH hlen he hl hn hq
    go_enter Try.func78, Try.ntmps78
    go_wp2_with fail
    refine HH.out.mono ?_
    rintro e w1 ⟨rfl, hg⟩
    go_wp2_with fail
    go_ret
    exact ⟨rfl, hg⟩
  · rw [decide_eq_false he] at hH
    have hlen : (lettersL l).length = n := by rw [letters_none he, hn]
    unfold RetLet
    rw [hlen]
    have HH := Lib.hid hH
    clear hH hlen he hl hn hq
    go_enter Try.func78, Try.ntmps78
    go_wp2_with fail
    refine HH.out.mono ?_
    rintro e w1 ⟨rfl, hg⟩
    go_wp2_with fail
    go_ret
    exact ⟨rfl, hg⟩
theorem by_one (w : World) (x : Nat) (hx : x < 256) : BySl (w.alloc (.cells #[.int .u8 (x : Int)] 5)) (some ⟨w.heap.size, 0, none⟩) [x] := by
  refine ByBlk.sl ⟨⟨_, heap_new w _ _ rfl, fun i hi => ?_⟩, by simpa using hx⟩
  obtain rfl : i = 0 := by simp at hi; exact hi
  rfl
set_option maxHeartbeats 16000000 in
theorem Letters_any (w : World) (s : Option Addr) (n cap : Nat) (l : List Nat) (hn : l.length = n) (hl : BySl w s l) (hz : s = none → n = 0 ∧ cap = 0) (hc : n ≤ cap) (hm : cap ≤ 9223372036854775807) :
    Calls Try.prog 65 #[.slice s n cap] w (RetLet w s cap l) := by
  have hg0 := World.grownBy_alloc w (.cells #[.int .u8 0] 5) none
  have hq := by_one w 0 (by omega)
  go_enter Try.func65, Try.ntmps65
  go_wp2_with fail
  refine (TrimSuffix_any _ s _ n cap _ l hn (hl.kept hg0) hq hz hc hm).mono ?_
  rintro e w1 ⟨rfl, hg⟩
  go_wp2_with fail
  go_ret
  exact ⟨rfl, grown_trans hg0 hg⟩
end Go.Proofs.Ytcioefmldcmhgaa
