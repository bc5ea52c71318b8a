/- A text's first bytes; the chapter's examples. -/
import Derived.Test.YtooeonjkpgbdpaaDoorRefParse
namespace Go.Proofs.YtooeonjkpgbdpaaDoor
open Go.RowKit Mat
set_option maxRecDepth 100000
set_option linter.unusedVariables false
set_option linter.unusedSimpArgs false

def fewB (s : ByteArray) (n : Nat) : ByteArray := if n < s.size then s.extract 0 n else s
theorem fewB_size (s : ByteArray) (n : Nat) : (fewB s n).size ≤ n := by
  unfold fewB
  split
  · rw [ByteArray.size_extract]; omega
  · omega
theorem few_any (w : World) (s : ByteArray) (n : Nat) (hs : n ≤ 4096) :
    Calls Tryd.prog 41 #[.string s, .int .i64 (n : Int)] w (fun e w' => e = .returned (.string (fewB s n)) ∧ w = w') := by
  by_cases h : n < s.size
  · have f1 : decide ((n : Int) < (s.size : Int)) = true := decide_eq_true (by omega)
    have hF : Hid (fewB s n = s.extract 0 n) := by unfold fewB; rw [if_pos h]; rfl
    go_enter Tryd.func41, Tryd.ntmps41
    go_wp2_with fail
    go_ret
    exact ⟨by rw [hF.out]; try rfl, rfl⟩
  · have f1 : decide ((n : Int) < (s.size : Int)) = false := decide_eq_false (by omega)
    have hF : Hid (fewB s n = s) := by unfold fewB; rw [if_neg h]; rfl
    go_enter Tryd.func41, Tryd.ntmps41
    go_wp2_with fail
    go_ret
    exact ⟨by rw [hF.out]; try rfl, rfl⟩

/-- Whether bytes are digits without a 0 ahead: by reckoning. -/
def decB (l : List Nat) : Bool := l.all (fun d => Nat.ble 48 d && Nat.ble d 57) && (l == [48] || (!l.isEmpty && l.head? != some 48))
theorem dec_of {l : List Nat} (h : decB l = true) : DecL l := by
  unfold decB at h
  simp only [Bool.and_eq_true, Bool.or_eq_true, List.all_eq_true] at h
  obtain ⟨h1, h2⟩ := h
  refine ⟨fun k hk => ?_, ?_⟩
  · have := h1 _ (List.getElem_mem hk)
    simpa using this
  · rcases h2 with h2 | h2
    · left; simpa using h2
    · right; simpa using h2
theorem dec_not {l : List Nat} (h : decB l = false) : ¬ DecL l := by
  intro hd
  have : decB l = true := by
    unfold decB
    simp only [Bool.and_eq_true, Bool.or_eq_true, List.all_eq_true]
    refine ⟨fun x hx => ?_, ?_⟩
    · obtain ⟨k, hk, rfl⟩ := List.getElem_of_mem hx
      simpa using hd.1 k hk
    · rcases hd.2 with h2 | h2
      · left; simpa using h2
      · right; simpa using h2
  rw [h] at this; cases this

def t64 : ByteArray := { data := #[49, 56, 52, 52, 54, 55, 52, 52, 48, 55, 51, 55, 48, 57, 53, 53, 49, 54, 49, 54] }
def t12 : ByteArray := { data := #[48, 48, 49, 50] }
def t105 : ByteArray := { data := #[49, 48, 48, 48, 48, 48, 48, 48, 48, 48, 48, 48, 48, 48, 48, 48, 48, 48, 48, 48, 53] }

set_option maxHeartbeats 8000000 in
theorem known_any (w : World) (hT : Tab w) :
    Calls Tryd.prog 16 #[] w (fun e w' => e = .returned (.bool true) ∧ w.grownBy w' none) := by
  have c1 : ∀ W, Calls Tryd.prog 14 #[.string { data := #[49, 56, 52, 52, 54, 55, 52, 52, 48, 55, 51, 55, 48, 57, 53, 53, 49, 54, 49, 54] }] W (RetNatE W 18446744073709551616 0) := fun W => by
    have := Parse_some W t64 (by decide +kernel) (dec_of (by decide +kernel))
    rw [show dval (bts t64) = 18446744073709551616 from by decide +kernel] at this
    exact this
  have c2 : ∀ W, Calls Tryd.prog 14 #[.string { data := #[48, 48, 49, 50] }] W (RetNatE W 0 3) := fun W => Parse_form W t12 (by decide +kernel) (dec_not (by decide +kernel))
  have c3 : ∀ W, Calls Tryd.prog 14 #[.string t105] W (RetNatE W 100000000000000000005 0) := fun W => by
    have := Parse_some W t105 (by decide +kernel) (dec_of (by decide +kernel))
    rw [show dval (bts t105) = 100000000000000000005 from by decide +kernel] at this
    exact this
  have C1 := Lib.hid c1
  have C2 := Lib.hid c2
  have C3 := Lib.hid c3
  clear c1 c2 c3
  go_enter Tryd.func16, Tryd.ntmps16
  go_wp2_with fail
  refine (C1.out _).mono ?_
  rintro e w1 ⟨v, rfl, ⟨s1, x1, rfl, h1, v1⟩, g1⟩
  obtain ⟨W1, hW1⟩ : ∃ W, W = w1.alloc (.cells #[.slice s1 x1.length x1.length] 24) := ⟨_, rfl⟩
  obtain ⟨a1, ha1⟩ : ∃ a, a = w1.heap.size := ⟨_, rfl⟩
  have k1 : w.grownBy W1 none := hW1 ▸ grown_alloc g1 _
  have b1 := heap_new w1 (.cells #[.slice s1 x1.length x1.length] 24) a1 ha1
  have n1 : NatV W1 (.agg #[.slice s1 x1.length x1.length]) 18446744073709551616 := ⟨s1, x1, rfl, h1.kept (hW1 ▸ World.grownBy_alloc _ _ _), v1⟩
  rw [← hW1] at b1
  clear h1 v1 g1
  go_wp2_with fail
  rw [← hW1, ← ha1]
  clear hW1 ha1
  refine (C2.out _).mono ?_
  rintro e w2 ⟨v, rfl, ⟨s2, x2, rfl, h2, v2⟩, g2⟩
  obtain ⟨W2, hW2⟩ : ∃ W, W = w2.alloc (.cells #[.slice s2 x2.length x2.length] 24) := ⟨_, rfl⟩
  have k2 : W1.grownBy W2 none := hW2 ▸ grown_alloc g2 _
  have b1 := heap_kept k2 b1
  have n1 := n1.kept k2
  have k1 := grown_trans k1 k2
  clear h2 v2 g2 k2
  go_wp2_with fail
  rw [← hW2]
  clear hW2
  refine (C3.out _).mono ?_
  rintro e w3 ⟨v, rfl, ⟨s3, x3, rfl, h3, v3⟩, g3⟩
  obtain ⟨W3, hW3⟩ : ∃ W, W = w3.alloc (.cells #[.slice s3 x3.length x3.length] 24) := ⟨_, rfl⟩
  have k3 : W2.grownBy W3 none := hW3 ▸ grown_alloc g3 _
  have b1 := heap_kept k3 b1
  have n1 := n1.kept k3
  have k1 := grown_trans k1 k3
  have n3 : NatV W3 (.agg #[.slice s3 x3.length x3.length]) 100000000000000000005 := ⟨s3, x3, rfl, h3.kept (hW3 ▸ World.grownBy_alloc _ _ _), v3⟩
  clear h3 v3 g3 k3
  go_wp2_with fail
  rw [← hW3]
  clear hW3
  refine (Root_some W3 _ _ 2 n3 (by decide) (by decide) (by decide) (by decide)).mono ?_
  rintro e w4 ⟨r, hr, v, u, rfl, ⟨s4, x4, rfl, h4, v4⟩, ⟨s5, x5, rfl, h5, v5⟩, g4⟩
  have hr10 : r = 10000000000 := by
    obtain ⟨q1, q2⟩ := hr
    rcases Nat.lt_trichotomy r 10000000000 with h | h | h
    · have := Nat.mul_le_mul (show r + 1 ≤ 10000000000 from h) (show r + 1 ≤ 10000000000 from h)
      omega
    · exact h
    · have := Nat.mul_le_mul (show 10000000001 ≤ r from h) (show 10000000001 ≤ r from h)
      omega
  subst hr10
  have k4 : W3.grownBy ((w4.alloc (.cells #[.slice s4 x4.length x4.length] 24)).alloc (.cells #[.slice s5 x5.length x5.length] 24)) none := grown_alloc (grown_alloc g4 _) _
  have b1 := heap_kept k4 b1
  have n1 := n1.kept k4
  have k1 := grown_trans k1 k4
  have n4 : NatV ((w4.alloc (.cells #[.slice s4 x4.length x4.length] 24)).alloc (.cells #[.slice s5 x5.length x5.length] 24)) (.agg #[.slice s4 x4.length x4.length]) 10000000000 := ⟨s4, x4, rfl, h4.kept (grown_alloc (World.grownBy_alloc _ _ _) _), v4⟩
  have n5 : NatV ((w4.alloc (.cells #[.slice s4 x4.length x4.length] 24)).alloc (.cells #[.slice s5 x5.length x5.length] 24)) (.agg #[.slice s5 x5.length x5.length]) 5 := ⟨s5, x5, rfl, h5.kept (grown_alloc (World.grownBy_alloc _ _ _) _), v5⟩
  have b4 := heap_kept (World.grownBy_alloc _ (.cells #[.slice s5 x5.length x5.length] 24) none) (heap_new w4 (.cells #[.slice s4 x4.length x4.length] 24) w4.heap.size rfl)
  have b5 := heap_new (w4.alloc (.cells #[.slice s4 x4.length x4.length] 24)) (.cells #[.slice s5 x5.length x5.length] 24) (w4.heap.size + 1) (by simp)
  obtain ⟨c1, f1⟩ := box_cell b1
  clear g4 h4 h5 v4 v5 k4 hr n3
  go_wp2_with fail
  generalize (w4.alloc (.cells #[.slice s4 x4.length x4.length] 24)).alloc (.cells #[.slice s5 x5.length x5.length] 24) = W4 at *
  generalize w4.heap.size = a4 at *
  refine (Word_any W4 _ _ 2 n1 (by decide) (by decide)).mono ?_
  rintro e w5 ⟨⟨y, rfl, -, hy⟩, g5⟩
  have b1 := heap_kept g5 b1
  have b4 := heap_kept g5 b4
  have b5 := heap_kept g5 b5
  have n1 := n1.kept g5
  have n4 := n4.kept g5
  have n5 := n5.kept g5
  have k1 := grown_trans k1 g5
  obtain ⟨c1, f1⟩ := box_cell b1
  rw [show (decide ((18446744073709551616 : Nat) < B)) = false from by decide]
  clear g5 hy
  go_wp2_with fail
  refine (Text_some w5 _ _ 2 n1 (by decide) (by decide) (by decide)).mono ?_
  rintro e w6 ⟨z, rfl, dz, vz, gz⟩
  obtain rfl : z = { data := #[49, 56, 52, 52, 54, 55, 52, 52, 48, 55, 51, 55, 48, 57, 53, 53, 49, 54, 49, 54] } := dec_uniq dz (dec_of (by decide +kernel)) (vz.trans (by decide +kernel))
  have k1 := grown_trans k1 gz
  have b4 := heap_kept gz b4
  have b5 := heap_kept gz b5
  have n4 := n4.kept gz
  have n5 := n5.kept gz
  obtain ⟨c1, f1⟩ := box_cell b4
  clear gz dz vz
  go_wp2_with fail
  refine (Text_some w6 _ _ 2 n4 (by decide) (by decide) (by decide)).mono ?_
  rintro e w7 ⟨z, rfl, dz, vz, gz⟩
  obtain rfl : z = { data := #[49, 48, 48, 48, 48, 48, 48, 48, 48, 48, 48] } := dec_uniq dz (dec_of (by decide +kernel)) (vz.trans (by decide +kernel))
  have k1 := grown_trans k1 gz
  have b5 := heap_kept gz b5
  have n5 := n5.kept gz
  obtain ⟨c1, f1⟩ := box_cell b5
  clear gz dz vz
  go_wp2_with fail
  refine (Text_some w7 _ _ 2 n5 (by decide) (by decide) (by decide)).mono ?_
  rintro e w8 ⟨z, rfl, dz, vz, gz⟩
  obtain rfl : z = { data := #[53] } := dec_uniq dz (dec_of (by decide +kernel)) (vz.trans (by decide +kernel))
  have k1 := grown_trans k1 gz
  clear gz dz vz
  go_wp2_with fail
  refine (Of_any w8 48 (by decide)).mono ?_
  rintro e w9 ⟨v, rfl, n6, g9⟩
  go_wp2_with fail
  refine (Of_any w9 180 (by decide)).mono ?_
  rintro e w10 ⟨v2, rfl, n7, g10⟩
  have n6 := n6.kept g10
  have k1 := grown_trans (grown_trans k1 g9) g10
  have hT2 : Tab w10 := hT.kept k1 (by simp)
  clear g9 g10
  go_wp2_with fail
  refine (Gcd_any w10 _ _ _ _ 2 n6 n7 (by decide) (by decide) (by decide) hT2).mono ?_
  rintro e w11 ⟨v3, rfl, n8, g11⟩
  rw [show Nat.gcd 48 180 = 12 from by decide] at n8
  go_wp2_with fail
  refine (Text_some w11 _ _ 2 n8 (by decide) (by decide) (by decide)).mono ?_
  rintro e w12 ⟨z, rfl, dz, vz, gz⟩
  obtain rfl : z = { data := #[49, 50] } := dec_uniq dz (dec_of (by decide +kernel)) (vz.trans (by decide +kernel))
  have k1 := grown_trans (grown_trans k1 g11) gz
  clear g11 gz dz vz
  go_wp2_with fail
  go_ret
  exact ⟨rfl, k1⟩
end Go.Proofs.YtooeonjkpgbdpaaDoor
