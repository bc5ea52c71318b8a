/- Two texts read twice. -/
import Derived.Test.YtooeonjkpgbdpaaDoorFew
import Derived.BigRegion
namespace Go.Proofs.YtooeonjkpgbdpaaDoor
open Go.RowKit Mat
set_option maxRecDepth 100000
set_option linter.unusedVariables false
set_option linter.unusedSimpArgs false

/-- The number that a text names (0, if none), and the error's number. -/
def num (s : ByteArray) : Nat := if decB (bts s) = true then dval (bts s) else 0
def cod (s : ByteArray) : Int := if decB (bts s) = true then 0 else 3
theorem dec_iff (l : List Nat) : decB l = true ↔ DecL l := by
  constructor
  · exact dec_of
  · intro h
    cases e : decB l
    · exact absurd h (dec_not e)
    · rfl
theorem Parse_num (w : World) (s : ByteArray) (hs : s.size ≤ 4096) : Calls Tryd.prog 14 #[.string s] w (RetNatE w (num s) (cod s)) := by
  unfold num cod
  by_cases h : decB (bts s) = true
  · rw [if_pos h, if_pos h]; exact Parse_some w s hs (dec_of h)
  · rw [if_neg h, if_neg h]; exact Parse_form w s hs (dec_not (by simpa using h))
theorem rParse_num (w : World) (s : ByteArray) (hs : s.size ≤ 4096) : Calls Tryd.prog 15 #[.string s] w (RetRefE w (num s) (cod s)) := by
  unfold num cod
  by_cases h : decB (bts s) = true
  · rw [if_pos h, if_pos h]; exact rParse_some w s hs (dec_of h)
  · rw [if_neg h, if_neg h]; exact rParse_form w s hs (dec_not (by simpa using h))
theorem dval_lt {l : List Nat} (h : decB l = true) : dval l < 10 ^ l.length := by
  have hd := (dec_of h).1
  rw [dig_val hd]
  have := val_lt 10 _ (dig_dig hd)
  rw [List.length_reverse, List.length_map] at this; exact this
theorem num_lt (s : ByteArray) (n : Nat) (hs : s.size ≤ n) : num s < 10 ^ n := by
  unfold num
  split
  · next h =>
    refine Nat.lt_of_lt_of_le (dval_lt h) (Nat.pow_le_pow_right (by omega) (by rw [bts_len]; exact hs))
  · exact Nat.pow_pos (by omega)
def fine (s : ByteArray) : Bool := decB (bts s)
def RetTwo (w : World) (p q : ByteArray) (e : Ending) (w' : World) : Prop :=
  ∃ va vb vx vy, e = .returned (.tuple #[va, vb, vx, vy, .bool (fine p && fine q)]) ∧ NatV w' va (num p) ∧ NatV w' vb (num q) ∧ RefV w' vx (num p) ∧ RefV w' vy (num q) ∧ w.grownBy w' none

/-- Four results in a row are written, each in its own box. -/
theorem four {W : World} {g : Nat} {u1 u2 u3 u4 v1 v2 v3 v4 : Value} (h1 : W.heap[g]? = some (.cells #[u1] 24 (0, 0))) (h2 : W.heap[g + 1]? = some (.cells #[u2] 24 (0, 0))) (h3 : W.heap[g + 1 + 1]? = some (.cells #[u3] 30 (0, 0))) (h4 : W.heap[g + 1 + 1 + 1]? = some (.cells #[u4] 30 (0, 0))) {S : World}
    (hS : S = ((((W.setCell ⟨g, 0, none⟩ v1).setCell ⟨g + 1, 0, none⟩ v2).setCell ⟨g + 1 + 1, 0, none⟩ v3).setCell ⟨g + 1 + 1 + 1, 0, none⟩ v4).drew) :
    S.heap[g]? = some (.cells #[v1] 24 (0, 0)) ∧ S.heap[g + 1]? = some (.cells #[v2] 24 (0, 0)) ∧ S.heap[g + 1 + 1]? = some (.cells #[v3] 30 (0, 0)) ∧ S.heap[g + 1 + 1 + 1]? = some (.cells #[v4] 30 (0, 0)) ∧
    (∀ v n, NatV W v n → NatV S v n) ∧ (∀ v n, RefV W v n → RefV S v n) ∧ (∀ w : World, w.grownBy W none → w.heap.size ≤ g → w.grownBy S none) := by
  subst hS
  have a2 := heap_unset (g := g) h2 (by omega) v1
  have a3 := heap_unset (g := g) h3 (by omega) v1
  have a4 := heap_unset (g := g) h4 (by omega) v1
  have a1 := heap_set h1 v1
  have b1 := heap_unset (g := g + 1) a1 (by omega) v2
  have b3 := heap_unset (g := g + 1) a3 (by omega) v2
  have b4 := heap_unset (g := g + 1) a4 (by omega) v2
  have b2 := heap_set a2 v2
  have c1 := heap_unset (g := g + 1 + 1) b1 (by omega) v3
  have c2 := heap_unset (g := g + 1 + 1) b2 (by omega) v3
  have c4 := heap_unset (g := g + 1 + 1) b4 (by omega) v3
  have c3 := heap_set b3 v3
  have d1 := heap_unset (g := g + 1 + 1 + 1) c1 (by omega) v4
  have d2 := heap_unset (g := g + 1 + 1 + 1) c2 (by omega) v4
  have d3 := heap_unset (g := g + 1 + 1 + 1) c3 (by omega) v4
  have d4 := heap_set c4 v4
  refine ⟨d1, d2, d3, d4, fun v n h => ?_, fun v n h => ?_, fun w hg hw => ?_⟩
  · exact ((((h.set_other h1 (by decide) 0 v1).set_other a2 (by decide) 0 v2).set_other b3 (by decide) 0 v3).set_other c4 (by decide) 0 v4).drewN 1
  · exact ((((h.set_other h1 (by decide) 0 v1).set_other a2 (by decide) 0 v2).set_other b3 (by decide) 0 v3).set_other c4 (by decide) 0 v4).kept (grown_drewN _ 1 _)
  · refine grown_drew ?_
    exact grown_new (grown_new (grown_new (grown_new hg (grown_set (grown_refl _ _) _ _) hw) (grown_set (grown_refl _ _) _ _) (by omega)) (grown_set (grown_refl _ _) _ _) (by omega)) (grown_set (grown_refl _ _) _ _) (by omega)

set_option maxHeartbeats 8000000 in
theorem two_any (w : World) (s t : ByteArray) :
    Calls Tryd.prog 27 #[.string s, .string t] w (RetTwo w (fewB s 200) (fewB t 200)) := by
  obtain ⟨p, hp⟩ : ∃ p, fewB s 200 = p := ⟨_, rfl⟩
  obtain ⟨q, hq⟩ : ∃ q, fewB t 200 = q := ⟨_, rfl⟩
  have F1 : Hid (∀ W, Calls Tryd.prog 41 #[.string s, .int .i64 200] W (fun e w' => e = .returned (.string p) ∧ W = w')) := fun W => by rw [← hp]; exact few_any W s 200 (by omega)
  have F2 : Hid (∀ W, Calls Tryd.prog 41 #[.string t, .int .i64 200] W (fun e w' => e = .returned (.string q) ∧ W = w')) := fun W => by rw [← hq]; exact few_any W t 200 (by omega)
  have sp : p.size ≤ 4096 := by rw [← hp]; have := fewB_size s 200; omega
  have sq : q.size ≤ 4096 := by rw [← hq]; have := fewB_size t 200; omega
  rw [hp, hq]
  obtain ⟨e1, h1⟩ : ∃ c, cod p = c := ⟨_, rfl⟩
  obtain ⟨e2, h2⟩ : ∃ c, cod q = c := ⟨_, rfl⟩
  obtain ⟨n1, m1⟩ : ∃ c, num p = c := ⟨_, rfl⟩
  obtain ⟨n2, m2⟩ : ∃ c, num q = c := ⟨_, rfl⟩
  have P1 : Hid (∀ W, Calls Tryd.prog 14 #[.string p] W (RetNatE W n1 e1)) := fun W => by rw [← h1, ← m1]; exact Parse_num W p sp
  have P2 : Hid (∀ W, Calls Tryd.prog 14 #[.string q] W (RetNatE W n2 e2)) := fun W => by rw [← h2, ← m2]; exact Parse_num W q sq
  have P3 : Hid (∀ W, Calls Tryd.prog 15 #[.string p] W (RetRefE W n1 e1)) := fun W => by rw [← h1, ← m1]; exact rParse_num W p sp
  have P4 : Hid (∀ W, Calls Tryd.prog 15 #[.string q] W (RetRefE W n2 e2)) := fun W => by rw [← h2, ← m2]; exact rParse_num W q sq
  unfold RetTwo
  rw [m1, m2]
  obtain ⟨b1, hb1⟩ : ∃ b, fine p = b := ⟨_, rfl⟩
  obtain ⟨b2, hb2⟩ : ∃ b, fine q = b := ⟨_, rfl⟩
  rw [hb1, hb2]
  have K1 : Hid (e1 = if b1 = true then 0 else 3) := by show _ = _; rw [← h1, ← hb1]; rfl
  have K2 : Hid (e2 = if b2 = true then 0 else 3) := by show _ = _; rw [← h2, ← hb2]; rfl
  clear hp hq sp sq h1 h2 m1 m2 hb1 hb2
  have hgw0 : w.grownBy ((((w.alloc (.cells #[.slice none 0 0] 24)).alloc (.cells #[.slice none 0 0] 24)).alloc (.cells #[.slice none 0 0] 30)).alloc (.cells #[.slice none 0 0] 30)) none := grown_alloc (grown_alloc (grown_alloc (World.grownBy_alloc _ _ _) _) _) _
  have hr4 := heap_kept (grown_alloc (grown_alloc (World.grownBy_alloc _ (.cells #[.slice none 0 0] 24) none) (.cells #[.slice none 0 0] 30)) (.cells #[.slice none 0 0] 30)) (heap_new w (.cells #[.slice none 0 0] 24) w.heap.size rfl)
  have hr5 := heap_kept (grown_alloc (World.grownBy_alloc _ (.cells #[.slice none 0 0] 30) none) (.cells #[.slice none 0 0] 30)) (heap_new (w.alloc (.cells #[.slice none 0 0] 24)) (.cells #[.slice none 0 0] 24) (w.heap.size + 1) (by simp))
  have hr6 := heap_kept (World.grownBy_alloc _ (.cells #[.slice none 0 0] 30) none) (heap_new ((w.alloc (.cells #[.slice none 0 0] 24)).alloc (.cells #[.slice none 0 0] 24)) (.cells #[.slice none 0 0] 30) (w.heap.size + 1 + 1) (by simp))
  have hr7 := heap_new (((w.alloc (.cells #[.slice none 0 0] 24)).alloc (.cells #[.slice none 0 0] 24)).alloc (.cells #[.slice none 0 0] 30)) (.cells #[.slice none 0 0] 30) (w.heap.size + 1 + 1 + 1) (by simp)
  have hs0 : ((((w.alloc (.cells #[.slice none 0 0] 24)).alloc (.cells #[.slice none 0 0] 24)).alloc (.cells #[.slice none 0 0] 30)).alloc (.cells #[.slice none 0 0] 30)).heap.size = w.heap.size + 1 + 1 + 1 + 1 := by simp
  go_enter Tryd.func27, Tryd.ntmps27
  go_wp2_with fail
  generalize ((((w.alloc (.cells #[.slice none 0 0] 24)).alloc (.cells #[.slice none 0 0] 24)).alloc (.cells #[.slice none 0 0] 30)).alloc (.cells #[.slice none 0 0] 30)) = w0 at *
  refine (F1.out _).mono ?_
  rintro e w1' ⟨rfl, rfl⟩
  go_wp2_with fail
  refine (P1.out _).mono ?_
  rintro e w1 ⟨v, rfl, ⟨s1, x1, rfl, h1, v1⟩, g1⟩
  obtain ⟨W1, hW1⟩ : ∃ W, W = w1.alloc (.cells #[.slice s1 x1.length x1.length] 24) := ⟨_, rfl⟩
  obtain ⟨a1, ha1⟩ : ∃ a, a = w1.heap.size := ⟨_, rfl⟩
  have k1 : w0.grownBy W1 none := hW1 ▸ grown_alloc g1 _
  have y1 := heap_new w1 (.cells #[.slice s1 x1.length x1.length] 24) a1 ha1
  rw [← hW1] at y1
  have z1 : NatV W1 (.agg #[.slice s1 x1.length x1.length]) n1 := ⟨s1, x1, rfl, h1.kept (hW1 ▸ World.grownBy_alloc _ _ _), v1⟩
  have lo1 : w.heap.size + 1 + 1 + 1 + 1 ≤ a1 := by have := g1.size; rw [ha1]; omega
  have hr4 := heap_kept k1 hr4
  have hr5 := heap_kept k1 hr5
  have hr6 := heap_kept k1 hr6
  have hr7 := heap_kept k1 hr7
  have hgw0 := grown_trans hgw0 k1
  have hs0 : w.heap.size + 1 + 1 + 1 + 1 ≤ W1.heap.size := by have := k1.size; omega
  clear h1 v1 g1 k1
  go_wp2_with fail
  rw [← hW1, ← ha1]
  clear hW1 ha1
  refine (F2.out _).mono ?_
  rintro e w2' ⟨rfl, rfl⟩
  go_wp2_with fail
  refine (P2.out _).mono ?_
  rintro e w2 ⟨v, rfl, ⟨s2, x2, rfl, h2, v2⟩, g2⟩
  obtain ⟨W2, hW2⟩ : ∃ W, W = w2.alloc (.cells #[.slice s2 x2.length x2.length] 24) := ⟨_, rfl⟩
  obtain ⟨a2, ha2⟩ : ∃ a, a = w2.heap.size := ⟨_, rfl⟩
  have k2 : W1.grownBy W2 none := hW2 ▸ grown_alloc g2 _
  have y2 := heap_new w2 (.cells #[.slice s2 x2.length x2.length] 24) a2 ha2
  rw [← hW2] at y2
  have z2 : NatV W2 (.agg #[.slice s2 x2.length x2.length]) n2 := ⟨s2, x2, rfl, h2.kept (hW2 ▸ World.grownBy_alloc _ _ _), v2⟩
  have lo2 : w.heap.size + 1 + 1 + 1 + 1 ≤ a2 := by have := g2.size; rw [ha2]; omega
  have y1 := heap_kept k2 y1
  have z1 := z1.kept k2
  have hr4 := heap_kept k2 hr4
  have hr5 := heap_kept k2 hr5
  have hr6 := heap_kept k2 hr6
  have hr7 := heap_kept k2 hr7
  have hgw0 := grown_trans hgw0 k2
  have hs0 : w.heap.size + 1 + 1 + 1 + 1 ≤ W2.heap.size := by have := k2.size; omega
  clear h2 v2 g2 k2
  go_wp2_with fail
  rw [← hW2, ← ha2]
  clear hW2 ha2
  refine (F1.out _).mono ?_
  rintro e w3' ⟨rfl, rfl⟩
  go_wp2_with fail
  refine (P3.out _).mono ?_
  rintro e w3 ⟨v, rfl, ⟨s3, l3, c3, x3, rfl, h3, i3, j3, v3⟩, g3⟩
  obtain ⟨W3, hW3⟩ : ∃ W, W = w3.alloc (.cells #[.slice s3 l3 c3] 30) := ⟨_, rfl⟩
  obtain ⟨a3, ha3⟩ : ∃ a, a = w3.heap.size := ⟨_, rfl⟩
  have k3 : W2.grownBy W3 none := hW3 ▸ grown_alloc g3 _
  have y3 := heap_new w3 (.cells #[.slice s3 l3 c3] 30) a3 ha3
  rw [← hW3] at y3
  have z3 : RefV W3 (.agg #[.slice s3 l3 c3]) n1 := ⟨s3, l3, c3, x3, rfl, h3, i3, j3.kept (hW3 ▸ World.grownBy_alloc _ _ _), v3⟩
  have lo3 : w.heap.size + 1 + 1 + 1 + 1 ≤ a3 := by have := g3.size; rw [ha3]; omega
  have y1 := heap_kept k3 y1
  have y2 := heap_kept k3 y2
  have z1 := z1.kept k3
  have z2 := z2.kept k3
  have hr4 := heap_kept k3 hr4
  have hr5 := heap_kept k3 hr5
  have hr6 := heap_kept k3 hr6
  have hr7 := heap_kept k3 hr7
  have hgw0 := grown_trans hgw0 k3
  have hs0 : w.heap.size + 1 + 1 + 1 + 1 ≤ W3.heap.size := by have := k3.size; omega
  clear h3 v3 g3 k3
  clear i3 j3
  go_wp2_with fail
  rw [← hW3, ← ha3]
  clear hW3 ha3
  refine (F2.out _).mono ?_
  rintro e w4' ⟨rfl, rfl⟩
  go_wp2_with fail
  refine (P4.out _).mono ?_
  rintro e w4 ⟨v, rfl, ⟨s4, l4, c4, x4, rfl, h4, i4, j4, v4⟩, g4⟩
  obtain ⟨W4, hW4⟩ : ∃ W, W = w4.alloc (.cells #[.slice s4 l4 c4] 30) := ⟨_, rfl⟩
  obtain ⟨a4, ha4⟩ : ∃ a, a = w4.heap.size := ⟨_, rfl⟩
  have k4 : W3.grownBy W4 none := hW4 ▸ grown_alloc g4 _
  have y4 := heap_new w4 (.cells #[.slice s4 l4 c4] 30) a4 ha4
  rw [← hW4] at y4
  have z4 : RefV W4 (.agg #[.slice s4 l4 c4]) n2 := ⟨s4, l4, c4, x4, rfl, h4, i4, j4.kept (hW4 ▸ World.grownBy_alloc _ _ _), v4⟩
  have lo4 : w.heap.size + 1 + 1 + 1 + 1 ≤ a4 := by have := g4.size; rw [ha4]; omega
  have y1 := heap_kept k4 y1
  have y2 := heap_kept k4 y2
  have y3 := heap_kept k4 y3
  have z1 := z1.kept k4
  have z2 := z2.kept k4
  have z3 := z3.kept k4
  have hr4 := heap_kept k4 hr4
  have hr5 := heap_kept k4 hr5
  have hr6 := heap_kept k4 hr6
  have hr7 := heap_kept k4 hr7
  have hgw0 := grown_trans hgw0 k4
  have hs0 : w.heap.size + 1 + 1 + 1 + 1 ≤ W4.heap.size := by have := k4.size; omega
  clear h4 v4 g4 k4
  clear i4 j4
  go_wp2_with fail
  rw [← hW4, ← ha4]
  clear hW4 ha4
  obtain ⟨cy1, fy1⟩ := box_cell y1
  obtain ⟨cy2, fy2⟩ := box_cell y2
  obtain ⟨cy3, fy3⟩ := box_cell y3
  obtain ⟨cy4, fy4⟩ := box_cell y4
  obtain ⟨cr4, fr4⟩ := box_cell hr4
  obtain ⟨cr5, fr5⟩ := box_cell hr5
  obtain ⟨cr6, fr6⟩ := box_cell hr6
  obtain ⟨cr7, fr7⟩ := box_cell hr7
  have HZ := Lib.hid z1
  have hk1 := K1.out
  have hk2 := K2.out
  clear K1 K2 P1 P2 P3 P4 F1 F2
  cases b1 <;> cases b2
  · simp at hk1 hk2
    subst hk1
    subst hk2
    obtain ⟨W5, hW5⟩ : ∃ W5, W5 = ((((W4.setCell ⟨w.heap.size, 0, none⟩ (.slice s1 x1.length x1.length)).setCell ⟨w.heap.size + 1, 0, none⟩ (.slice s2 x2.length x2.length)).setCell ⟨w.heap.size + 1 + 1, 0, none⟩ (.slice s3 l3 c3)).setCell ⟨w.heap.size + 1 + 1 + 1, 0, none⟩ (.slice s4 l4 c4)).drew := ⟨_, rfl⟩
    obtain ⟨q1, q2, q3, q4, qn, qr, qg⟩ := four hr4 hr5 hr6 hr7 hW5
    have HF : Hid (∃ va vb vx vy, Ending.returned (.tuple #[.agg #[.slice s1 x1.length x1.length], .agg #[.slice s2 x2.length x2.length], .agg #[.slice s3 l3 c3], .agg #[.slice s4 l4 c4], .bool false]) = Ending.returned (.tuple #[va, vb, vx, vy, .bool false]) ∧ NatV W5 va n1 ∧ NatV W5 vb n2 ∧ RefV W5 vx n1 ∧ RefV W5 vy n2 ∧ w.grownBy W5 none) :=
      ⟨_, _, _, _, rfl, qn _ _ z1, qn _ _ z2, qr _ _ z3, qr _ _ z4, qg w hgw0 (Nat.le_refl _)⟩
    clear qn qr qg z1 z2 z3 z4 HZ
    go_region
    rw [← hW5]
    clear hW5
    obtain ⟨cq1, gq1⟩ := box_cell q1
    obtain ⟨cq2, gq2⟩ := box_cell q2
    obtain ⟨cq3, gq3⟩ := box_cell q3
    obtain ⟨cq4, gq4⟩ := box_cell q4
    go_wp2_with fail
    exact bodyPost_ret (v := .tuple #[.agg #[.slice s1 x1.length x1.length], .agg #[.slice s2 x2.length x2.length], .agg #[.slice s3 l3 c3], .agg #[.slice s4 l4 c4], .bool false]) (by simp [results, Tryd.results27, go_sem, cq1, cq2, cq3, cq4]) rfl HF.out
  · simp at hk1 hk2
    subst hk1
    subst hk2
    obtain ⟨W5, hW5⟩ : ∃ W5, W5 = ((((W4.setCell ⟨w.heap.size, 0, none⟩ (.slice s1 x1.length x1.length)).setCell ⟨w.heap.size + 1, 0, none⟩ (.slice s2 x2.length x2.length)).setCell ⟨w.heap.size + 1 + 1, 0, none⟩ (.slice s3 l3 c3)).setCell ⟨w.heap.size + 1 + 1 + 1, 0, none⟩ (.slice s4 l4 c4)).drew := ⟨_, rfl⟩
    obtain ⟨q1, q2, q3, q4, qn, qr, qg⟩ := four hr4 hr5 hr6 hr7 hW5
    have HF : Hid (∃ va vb vx vy, Ending.returned (.tuple #[.agg #[.slice s1 x1.length x1.length], .agg #[.slice s2 x2.length x2.length], .agg #[.slice s3 l3 c3], .agg #[.slice s4 l4 c4], .bool false]) = Ending.returned (.tuple #[va, vb, vx, vy, .bool false]) ∧ NatV W5 va n1 ∧ NatV W5 vb n2 ∧ RefV W5 vx n1 ∧ RefV W5 vy n2 ∧ w.grownBy W5 none) :=
      ⟨_, _, _, _, rfl, qn _ _ z1, qn _ _ z2, qr _ _ z3, qr _ _ z4, qg w hgw0 (Nat.le_refl _)⟩
    clear qn qr qg z1 z2 z3 z4 HZ
    go_region
    rw [← hW5]
    clear hW5
    obtain ⟨cq1, gq1⟩ := box_cell q1
    obtain ⟨cq2, gq2⟩ := box_cell q2
    obtain ⟨cq3, gq3⟩ := box_cell q3
    obtain ⟨cq4, gq4⟩ := box_cell q4
    go_wp2_with fail
    exact bodyPost_ret (v := .tuple #[.agg #[.slice s1 x1.length x1.length], .agg #[.slice s2 x2.length x2.length], .agg #[.slice s3 l3 c3], .agg #[.slice s4 l4 c4], .bool false]) (by simp [results, Tryd.results27, go_sem, cq1, cq2, cq3, cq4]) rfl HF.out
  · simp at hk1 hk2
    subst hk1
    subst hk2
    obtain ⟨W5, hW5⟩ : ∃ W5, W5 = ((((W4.setCell ⟨w.heap.size, 0, none⟩ (.slice s1 x1.length x1.length)).setCell ⟨w.heap.size + 1, 0, none⟩ (.slice s2 x2.length x2.length)).setCell ⟨w.heap.size + 1 + 1, 0, none⟩ (.slice s3 l3 c3)).setCell ⟨w.heap.size + 1 + 1 + 1, 0, none⟩ (.slice s4 l4 c4)).drew := ⟨_, rfl⟩
    obtain ⟨q1, q2, q3, q4, qn, qr, qg⟩ := four hr4 hr5 hr6 hr7 hW5
    have HF : Hid (∃ va vb vx vy, Ending.returned (.tuple #[.agg #[.slice s1 x1.length x1.length], .agg #[.slice s2 x2.length x2.length], .agg #[.slice s3 l3 c3], .agg #[.slice s4 l4 c4], .bool false]) = Ending.returned (.tuple #[va, vb, vx, vy, .bool false]) ∧ NatV W5 va n1 ∧ NatV W5 vb n2 ∧ RefV W5 vx n1 ∧ RefV W5 vy n2 ∧ w.grownBy W5 none) :=
      ⟨_, _, _, _, rfl, qn _ _ z1, qn _ _ z2, qr _ _ z3, qr _ _ z4, qg w hgw0 (Nat.le_refl _)⟩
    clear qn qr qg z1 z2 z3 z4 HZ
    go_region
    rw [← hW5]
    clear hW5
    obtain ⟨cq1, gq1⟩ := box_cell q1
    obtain ⟨cq2, gq2⟩ := box_cell q2
    obtain ⟨cq3, gq3⟩ := box_cell q3
    obtain ⟨cq4, gq4⟩ := box_cell q4
    go_wp2_with fail
    exact bodyPost_ret (v := .tuple #[.agg #[.slice s1 x1.length x1.length], .agg #[.slice s2 x2.length x2.length], .agg #[.slice s3 l3 c3], .agg #[.slice s4 l4 c4], .bool false]) (by simp [results, Tryd.results27, go_sem, cq1, cq2, cq3, cq4]) rfl HF.out
  · simp at hk1 hk2
    subst hk1
    subst hk2
    obtain ⟨W5, hW5⟩ : ∃ W5, W5 = ((((W4.setCell ⟨w.heap.size, 0, none⟩ (.slice s1 x1.length x1.length)).setCell ⟨w.heap.size + 1, 0, none⟩ (.slice s2 x2.length x2.length)).setCell ⟨w.heap.size + 1 + 1, 0, none⟩ (.slice s3 l3 c3)).setCell ⟨w.heap.size + 1 + 1 + 1, 0, none⟩ (.slice s4 l4 c4)).drew := ⟨_, rfl⟩
    obtain ⟨q1, q2, q3, q4, qn, qr, qg⟩ := four hr4 hr5 hr6 hr7 hW5
    have HF : Hid (∃ va vb vx vy, Ending.returned (.tuple #[.agg #[.slice s1 x1.length x1.length], .agg #[.slice s2 x2.length x2.length], .agg #[.slice s3 l3 c3], .agg #[.slice s4 l4 c4], .bool true]) = Ending.returned (.tuple #[va, vb, vx, vy, .bool true]) ∧ NatV W5 va n1 ∧ NatV W5 vb n2 ∧ RefV W5 vx n1 ∧ RefV W5 vy n2 ∧ w.grownBy W5 none) :=
      ⟨_, _, _, _, rfl, qn _ _ z1, qn _ _ z2, qr _ _ z3, qr _ _ z4, qg w hgw0 (Nat.le_refl _)⟩
    clear qn qr qg z1 z2 z3 z4 HZ
    go_region
    rw [← hW5]
    clear hW5
    obtain ⟨cq1, gq1⟩ := box_cell q1
    obtain ⟨cq2, gq2⟩ := box_cell q2
    obtain ⟨cq3, gq3⟩ := box_cell q3
    obtain ⟨cq4, gq4⟩ := box_cell q4
    go_wp2_with fail
    exact bodyPost_ret (v := .tuple #[.agg #[.slice s1 x1.length x1.length], .agg #[.slice s2 x2.length x2.length], .agg #[.slice s3 l3 c3], .agg #[.slice s4 l4 c4], .bool true]) (by simp [results, Tryd.results27, go_sem, cq1, cq2, cq3, cq4]) rfl HF.out
end Go.Proofs.YtooeonjkpgbdpaaDoor
