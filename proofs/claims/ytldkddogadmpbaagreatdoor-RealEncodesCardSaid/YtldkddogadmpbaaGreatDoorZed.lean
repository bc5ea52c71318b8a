/- Whole numbers below 0 too: the notion, and the smallest functions. -/
import Derived.Test.YtldkddogadmpbaaGreatDoorText
import Derived.Deep.RegionHeld3
namespace Go.Proofs.YtldkddogadmpbaaGreatDoor
open Go.RowKit Mat
set_option maxRecDepth 100000
set_option linter.unusedVariables false
set_option linter.unusedSimpArgs false

/-- A whole number as the program has it: how far it is from 0, and whether it is below. -/
def IntV (w : World) (v : Value) (z : Int) : Prop := ∃ (sa : Option Addr) (xs : List Nat) (b : Bool), v = .agg #[.slice sa xs.length xs.length, .bool b] ∧ Lm w sa xs ∧ val B xs = z.natAbs ∧ (b = true ↔ z < 0)
theorem IntV.kept {w w' : World} {v : Value} {z : Int} (h : IntV w v z) (hg : w.grownBy w' none) : IntV w' v z := by
  obtain ⟨sa, xs, b, e, h1, h2⟩ := h
  exact ⟨sa, xs, b, e, h1.kept hg, h2⟩
def RetInt (w : World) (z : Int) (e : Ending) (w' : World) : Prop := ∃ v, e = .returned v ∧ IntV w' v z ∧ w.grownBy w' none
theorem box_cells {w : World} {g : Nat} {v0 v1 : Value} {t : TypeId} (h : w.heap[g]? = some (.cells #[v0, v1] t (0, 0))) :
    w.cell? ⟨g, 0, none⟩ = some v0 ∧ w.cell? ⟨g, 1, none⟩ = some v1 ∧ w.frozen? ⟨g, 0, none⟩ = false ∧ w.frozen? ⟨g, 1, none⟩ = false := by
  simp [World.cell?, World.frozen?, h]
theorem heap_set2 {w : World} {g : Nat} {a0 a1 : Value} {t : TypeId} (h : w.heap[g]? = some (.cells #[a0, a1] t (0, 0))) (v0 v1 : Value) : ((w.setCell ⟨g, 0, none⟩ v0).setCell ⟨g, 1, none⟩ v1).heap[g]? = some (.cells #[v0, v1] t (0, 0)) := by
  simp [World.setCell, Array.getElem?_modify, h]
theorem heap_unset2 {w : World} {g k : Nat} {o : Obj} (h : w.heap[k]? = some o) (hk : k ≠ g) (v0 v1 : Value) : ((w.setCell ⟨g, 0, none⟩ v0).setCell ⟨g, 1, none⟩ v1).heap[k]? = some o :=
  (Below.heap_setCell _ _ _ _ (by simpa using hk)).trans ((Below.heap_setCell _ _ _ _ (by simpa using hk)).trans h)
theorem ret_int {w w' : World} {sa : Option Addr} {xs : List Nat} {z : Int} {b : Bool} {g : Nat} {a0 a1 : Value} (hg : w.grownBy w' none) (hbox : w'.heap[g]? = some (.cells #[a0, a1] 26 (0, 0))) (hl : w.heap.size ≤ g) (h : Lm w' sa xs) (hv : val B xs = z.natAbs) (hb : b = true ↔ z < 0) :
    RetInt w z (.returned (.agg #[.slice sa xs.length xs.length, .bool b])) ((w'.setCell ⟨g, 0, none⟩ (.slice sa xs.length xs.length)).setCell ⟨g, 1, none⟩ (.bool b)) := by
  have h1 : (w'.setCell ⟨g, 0, none⟩ (.slice sa xs.length xs.length)).heap[g]? = some (.cells #[.slice sa xs.length xs.length, a1] 26 (0, 0)) := by
    simp [World.setCell, Array.getElem?_modify, hbox]
  exact ⟨_, rfl, ⟨sa, xs, b, rfl, (h.set_other hbox (by decide) 0 _).set_other h1 (by decide) 1 _, hv, hb⟩, grown_new (grown_new hg (grown_set (grown_refl _ _) _ _) hl) (grown_set (grown_refl _ _) _ _) hl⟩
theorem fresh_any (w : World) (va : Value) (a K : Nat) (ha : NatV w va a) (hK : K ≤ 1000000) (la : a < B ^ K) :
    Calls Tryz.prog 48 #[va] w (RetNat w a) := by
  obtain ⟨sa, xs, rfl, hx, hv⟩ := ha
  have hgw0 : w.grownBy ((w.alloc (.cells #[.slice sa xs.length xs.length] 24)).alloc (.cells #[.slice none 0 0] 24)) none := grown_alloc (World.grownBy_alloc _ _ _) _
  have hboxr := heap_new (w.alloc (.cells #[.slice sa xs.length xs.length] 24)) (.cells #[.slice none 0 0] 24) (w.heap.size + 1) (by simp)
  have na : NatV ((w.alloc (.cells #[.slice sa xs.length xs.length] 24)).alloc (.cells #[.slice none 0 0] 24)) (.agg #[.slice sa xs.length xs.length]) a := ⟨sa, xs, rfl, hx.kept hgw0, hv⟩
  have Hla := Lib.hid la
  clear hx hv la
  go_enter Tryz.func48, Tryz.ntmps48
  go_wp2_with fail
  refine (Add_any _ _ _ a 0 K na (NatV.zero _) (by omega) Hla.out (Nat.pow_pos B_pos)).mono ?_
  rintro e w1 ⟨v, rfl, ⟨s1, x1, rfl, h1, v1⟩, g1⟩
  have hb1 := heap_kept g1 hboxr
  obtain ⟨c1, f1⟩ := box_cell hb1
  have hF : Hid (RetNat w a (.returned (.agg #[.slice s1 x1.length x1.length])) (w1.setCell ⟨w.heap.size + 1, 0, none⟩ (.slice s1 x1.length x1.length))) :=
    ret_set (grown_trans hgw0 g1) hb1 (by decide) (by omega) h1 v1 _
  clear h1 v1 g1 na
  go_wp2_with fail
  exact bodyPost_ret (v := .agg #[.slice s1 x1.length x1.length]) (by simp [results, Tryz.results48, go_sem, c1]) rfl hF.out
set_option maxHeartbeats 2000000 in
theorem Sign_any (w : World) (va : Value) (z : Int) (K : Nat) (ha : IntV w va z) (hK : K ≤ 1000000) (la : z.natAbs < B ^ K) :
    Calls Tryz.prog 43 #[va] w (fun e w' => e = .returned (.int .i64 z.sign) ∧ w.grownBy w' none) := by
  obtain ⟨sa, xs, b, rfl, hx, hv, hb⟩ := ha
  have hgw0 := World.grownBy_alloc w (.cells #[.slice sa xs.length xs.length, .bool b] 26) none
  have na : NatV (w.alloc (.cells #[.slice sa xs.length xs.length, .bool b] 26)) (.agg #[.slice sa xs.length xs.length]) z.natAbs := ⟨sa, xs, rfl, hx.kept hgw0, hv⟩
  have hbox := heap_new w (.cells #[.slice sa xs.length xs.length, .bool b] 26) w.heap.size rfl
  have Hla := Lib.hid la
  clear hx hv la
  have key : ∃ c : Int, (nb z.natAbs : Int) = c ∧ ((z = 0 ∧ (c == 0) = true) ∨ (z < 0 ∧ b = true ∧ (c == 0) = false) ∨ (0 < z ∧ b = false ∧ (c == 0) = false)) := by
    refine ⟨_, rfl, ?_⟩
    rcases Int.lt_trichotomy z 0 with h | h | h
    · right; left
      have := nb_pos (show 0 < z.natAbs by omega)
      exact ⟨h, hb.2 h, beq_eq_false_iff_ne.2 (by omega)⟩
    · left; subst h; exact ⟨rfl, rfl⟩
    · right; right
      have := nb_pos (show 0 < z.natAbs by omega)
      refine ⟨h, ?_, beq_eq_false_iff_ne.2 (by omega)⟩
      cases b
      · rfl
      · exact absurd (hb.1 rfl) (by omega)
  obtain ⟨c, hc, key⟩ := key
  have HC := Lib.hid hc
  clear hc hb
  rcases key with ⟨hz, f1⟩ | ⟨hz, rfl, f1⟩ | ⟨hz, rfl, f1⟩
  all_goals (
    have hsg : Hid (z.sign = z.sign) := rfl
    go_enter Tryz.func43, Tryz.ntmps43
    go_wp2_with fail
    refine (Bits_any _ _ z.natAbs K na (by omega) Hla.out).mono ?_
    rintro e w1 ⟨rfl, g1⟩
    rw [HC.out]
    obtain ⟨c0, c1, q0, q1⟩ := box_cells (heap_kept g1 hbox)
    have hG := grown_trans hgw0 g1
    clear g1 na
    go_wp2_with fail
    go_ret)
  · exact ⟨by rw [hz]; rfl, hG⟩
  · exact ⟨by rw [Int.sign_eq_neg_one_of_neg hz]; rfl, hG⟩
  · exact ⟨by rw [Int.sign_eq_one_of_pos hz]; rfl, hG⟩
set_option maxHeartbeats 2000000 in
theorem Abs_any (w : World) (va : Value) (z : Int) (K : Nat) (ha : IntV w va z) (hK : K ≤ 1000000) (la : z.natAbs < B ^ K) :
    Calls Tryz.prog 58 #[va] w (RetNat w z.natAbs) := by
  obtain ⟨sa, xs, b, rfl, hx, hv, hb⟩ := ha
  have hgw0 : w.grownBy ((w.alloc (.cells #[.slice sa xs.length xs.length, .bool b] 26)).alloc (.cells #[.slice none 0 0] 24)) none := grown_alloc (World.grownBy_alloc _ _ _) _
  have hboxr := heap_new (w.alloc (.cells #[.slice sa xs.length xs.length, .bool b] 26)) (.cells #[.slice none 0 0] 24) (w.heap.size + 1) (by simp)
  have na : NatV ((w.alloc (.cells #[.slice sa xs.length xs.length, .bool b] 26)).alloc (.cells #[.slice none 0 0] 24)) (.agg #[.slice sa xs.length xs.length]) z.natAbs := ⟨sa, xs, rfl, hx.kept hgw0, hv⟩
  have hbox := heap_kept (World.grownBy_alloc _ (.cells #[.slice none 0 0] 24) none) (heap_new w (.cells #[.slice sa xs.length xs.length, .bool b] 26) w.heap.size rfl)
  obtain ⟨c0, c1, q0, q1⟩ := box_cells hbox
  have Hla := Lib.hid la
  clear hx hv la
  go_enter Tryz.func58, Tryz.ntmps58
  go_wp2_with fail
  refine (fresh_any _ _ z.natAbs K na hK Hla.out).mono ?_
  rintro e w1 ⟨v, rfl, ⟨s1, x1, rfl, h1, v1⟩, g1⟩
  have hb1 := heap_kept g1 hboxr
  obtain ⟨c1, f1⟩ := box_cell hb1
  have hF : Hid (RetNat w z.natAbs (.returned (.agg #[.slice s1 x1.length x1.length])) (w1.setCell ⟨w.heap.size + 1, 0, none⟩ (.slice s1 x1.length x1.length))) :=
    ret_set (grown_trans hgw0 g1) hb1 (by decide) (by omega) h1 v1 _
  clear h1 v1 g1 na
  go_wp2_with fail
  exact bodyPost_ret (v := .agg #[.slice s1 x1.length x1.length]) (by simp [results, Tryz.results58, go_sem, c1]) rfl hF.out
set_option maxHeartbeats 2000000 in
theorem Big_any (w : World) (va : Value) (a K : Nat) (ha : NatV w va a) (hK : K ≤ 1000000) (la : a < B ^ K) :
    Calls Tryz.prog 15 #[va] w (RetInt w (a : Int)) := by
  obtain ⟨sa, xs, rfl, hx, hv⟩ := ha
  have hgw0 : w.grownBy ((w.alloc (.cells #[.slice sa xs.length xs.length] 24)).alloc (.cells #[.slice none 0 0, .bool false] 26)) none := grown_alloc (World.grownBy_alloc _ _ _) _
  have hboxr := heap_new (w.alloc (.cells #[.slice sa xs.length xs.length] 24)) (.cells #[.slice none 0 0, .bool false] 26) (w.heap.size + 1) (by simp)
  have na : NatV ((w.alloc (.cells #[.slice sa xs.length xs.length] 24)).alloc (.cells #[.slice none 0 0, .bool false] 26)) (.agg #[.slice sa xs.length xs.length]) a := ⟨sa, xs, rfl, hx.kept hgw0, hv⟩
  have Hla := Lib.hid la
  clear hx hv la
  go_enter Tryz.func15, Tryz.ntmps15
  go_wp2_with fail
  refine (fresh_any _ _ a K na hK Hla.out).mono ?_
  rintro e w1 ⟨v, rfl, ⟨s1, x1, rfl, h1, v1⟩, g1⟩
  have hb1 := heap_kept g1 hboxr
  obtain ⟨c0, c1, f0, f1⟩ := box_cells hb1
  clear na
  obtain ⟨q0, q1, r0, r1⟩ := box_cells (heap_set2 hb1 (.slice s1 x1.length x1.length) (.bool false))
  have hF : Hid (RetInt w (a : Int) (.returned (.agg #[.slice s1 x1.length x1.length, .bool false])) ((w1.setCell ⟨w.heap.size + 1, 0, none⟩ (.slice s1 x1.length x1.length)).setCell ⟨w.heap.size + 1, 1, none⟩ (.bool false))) :=
    ret_int (grown_trans hgw0 g1) hb1 (by omega) h1 (by simpa using v1) (by constructor <;> intro h <;> first | cases h | omega)
  clear h1 v1 g1
  go_wp2_with fail
  exact bodyPost_ret (v := .agg #[.slice s1 x1.length x1.length, .bool false]) (by simp [results, Tryz.results15, go_sem, q0, q1]) rfl hF.out
set_option maxHeartbeats 4000000 in
theorem signed_any (w : World) (va : Value) (a K : Nat) (b : Bool) (ha : NatV w va a) (hK : K ≤ 1000000) (la : a < B ^ K) :
    Calls Tryz.prog 74 #[va, .bool b] w (RetInt w (if b = true then -(a : Int) else a)) := by
  obtain ⟨sa, xs, rfl, hx, hv⟩ := ha
  have hgw0 : w.grownBy ((w.alloc (.cells #[.slice sa xs.length xs.length] 24)).alloc (.cells #[.slice none 0 0, .bool false] 26)) none := grown_alloc (World.grownBy_alloc _ _ _) _
  have hboxr := heap_new (w.alloc (.cells #[.slice sa xs.length xs.length] 24)) (.cells #[.slice none 0 0, .bool false] 26) (w.heap.size + 1) (by simp)
  have hbox := heap_kept (World.grownBy_alloc _ (.cells #[.slice none 0 0, .bool false] 26) none) (heap_new w (.cells #[.slice sa xs.length xs.length] 24) w.heap.size rfl)
  have hx0 := hx.kept hgw0
  have hcase : (b = false ∧ (if b = true then -(a : Int) else a) = a) ∨ (b = true ∧ a = 0 ∧ (if b = true then -(a : Int) else a) = 0) ∨ (b = true ∧ 0 < a ∧ (if b = true then -(a : Int) else a) = -(a : Int)) := by
    cases b
    · left; exact ⟨rfl, rfl⟩
    · rcases Nat.eq_zero_or_pos a with h | h
      · right; left; subst h; exact ⟨rfl, rfl, rfl⟩
      · right; right; exact ⟨rfl, h, rfl⟩
  obtain ⟨z, hz⟩ : ∃ z, (if b = true then -(a : Int) else a) = z := ⟨_, rfl⟩
  rw [hz] at hcase ⊢
  have Hla := Lib.hid la
  have Hv := Lib.hid hv
  clear hx hv la hz
  rcases hcase with ⟨rfl, hz⟩ | ⟨rfl, h0, hz⟩ | ⟨rfl, h0, hz⟩
  · skip
    go_enter Tryz.func74, Tryz.ntmps74
    go_wp2_with fail
    generalize ((w.alloc (.cells #[.slice sa xs.length xs.length] 24)).alloc (.cells #[.slice none 0 0, .bool false] 26)) = w0 at *
    refine wp_region_held_drew (S := fun w' => w'.cell? ⟨w.heap.size, 0, none⟩ = some (.slice sa xs.length xs.length)) (by kernel_rfl) (by exact (box_cell hbox).1) (fun hHeld => ?_)
    have gd : w0.grownBy w0.drew none := grown_drew (grown_refl _ _)
    have hgw := grown_trans hgw0 gd
    replace hbox := heap_kept gd hbox
    replace hboxr := heap_kept gd hboxr
    replace hx0 := hx0.kept gd
    generalize w0.drew = w1 at *
    clear gd hgw0
    refine wpAnyH_take (i := 0) (v := ?_) rfl (by kernel_rfl) (by kernel_rfl) (by kernel_rfl) (fun _ _ _ h => h) (Or.inl ⟨by rfl, ?_⟩) (by assumption) ?_
    rotate_left
    · (intro w hSw; (try dsimp only at hSw); go_simp; (try with_reducible rfl))
    try simp only [Act.put, List.getElem_toArray, List.getElem_cons_zero, List.getElem_cons_succ, List.setIfInBounds_toArray, List.set_cons_zero, List.set_cons_succ]
    refine wpAnyH_take (i := 1) (v := ?_) rfl (by kernel_rfl) (by kernel_rfl) (by kernel_rfl) (fun _ _ _ h => h) (Or.inl ⟨by rfl, ?_⟩) (by assumption) ?_
    rotate_left
    · (intro w hSw; (try dsimp only at hSw); go_simp; (try with_reducible rfl))
    try simp only [Act.put, List.getElem_toArray, List.getElem_cons_zero, List.getElem_cons_succ, List.setIfInBounds_toArray, List.set_cons_zero, List.set_cons_succ]
    refine wpAnyH_take (i := 2) (v := ?_) rfl (by kernel_rfl) (by kernel_rfl) (by kernel_rfl) (fun _ _ _ h => h) (Or.inl ⟨by rfl, ?_⟩) (by assumption) ?_
    rotate_left
    · (intro w hSw; (try dsimp only at hSw); go_simp; (try with_reducible rfl))
    try simp only [Act.put, List.getElem_toArray, List.getElem_cons_zero, List.getElem_cons_succ, List.setIfInBounds_toArray, List.set_cons_zero, List.set_cons_succ]
    refine wpAnyH_take (i := 3) (v := undef) rfl (by kernel_rfl) (by kernel_rfl) (by kernel_rfl) (fun _ _ _ h => h) (Or.inr ⟨by rfl, rfl⟩) (by assumption) ?_
    try simp only [Act.put, List.getElem_toArray, List.getElem_cons_zero, List.getElem_cons_succ, List.setIfInBounds_toArray, List.set_cons_zero, List.set_cons_succ]
    refine wpAnyH_ready (rs := [4]) (by kernel_rfl) (by simp) ?_
    refine AllReadyH.cons rfl (fun KQ hKQ => ?_) AllReadyH.nil
    go_simp
    refine hKQ.out _ _ (by exact hHeld) (fun hHeld => ?_)
    clear hKQ KQ
    try simp only [Act.put, List.getElem_toArray, List.getElem_cons_zero, List.getElem_cons_succ, List.setIfInBounds_toArray, List.set_cons_zero, List.set_cons_succ]
    refine wpAnyH_take (i := 5) (v := undef) rfl (by kernel_rfl) (by kernel_rfl) (by kernel_rfl) (fun _ _ _ h => h) (Or.inr ⟨by rfl, rfl⟩) (by assumption) ?_
    try simp only [Act.put, List.getElem_toArray, List.getElem_cons_zero, List.getElem_cons_succ, List.setIfInBounds_toArray, List.set_cons_zero, List.set_cons_succ]
    refine wpAnyH_take (i := 6) (v := ?_) rfl (by kernel_rfl) (by kernel_rfl) (by kernel_rfl) (fun _ _ _ h => h) (Or.inl ⟨by rfl, ?_⟩) (by assumption) ?_
    rotate_left
    · (intro w hSw; (try dsimp only at hSw); go_simp; (try with_reducible rfl))
    try simp only [Act.put, List.getElem_toArray, List.getElem_cons_zero, List.getElem_cons_succ, List.setIfInBounds_toArray, List.set_cons_zero, List.set_cons_succ]
    refine wpAnyH_take (i := 7) (v := ?_) rfl (by kernel_rfl) (by kernel_rfl) (by kernel_rfl) (fun _ _ _ h => h) (Or.inl ⟨by rfl, ?_⟩) (by assumption) ?_
    rotate_left
    · (intro w hSw; (try dsimp only at hSw); go_simp; (try with_reducible rfl))
    try simp only [Act.put, List.getElem_toArray, List.getElem_cons_zero, List.getElem_cons_succ, List.setIfInBounds_toArray, List.set_cons_zero, List.set_cons_succ]
    obtain ⟨c0, c1, f0, f1⟩ := box_cells hboxr
    refine wpAnyH_ready (rs := [8]) (by kernel_rfl) (by simp) ?_
    refine AllReadyH.cons rfl (fun KQ hKQ => ?_) AllReadyH.nil
    go_simp
    refine hKQ.out _ _ (by exact (box_cell (heap_unset2 hbox (by omega) _ _)).1) (fun hHeld => ?_)
    clear hKQ KQ
    try simp only [Act.put, List.getElem_toArray, List.getElem_cons_zero, List.getElem_cons_succ, List.setIfInBounds_toArray, List.set_cons_zero, List.set_cons_succ]
    refine wpAnyH_done (by kernel_rfl) ?_ _
    obtain ⟨q0, q1, r0, r1⟩ := box_cells (heap_set2 hboxr (.slice sa xs.length xs.length) (.bool false))
    have hF : Hid (RetInt w z (.returned (.agg #[.slice sa xs.length xs.length, .bool false])) ((w1.setCell ⟨w.heap.size + 1, 0, none⟩ (.slice sa xs.length xs.length)).setCell ⟨w.heap.size + 1, 1, none⟩ (.bool false))) := ret_int hgw hboxr (by omega) hx0 (by rw [Hv.out, hz]; omega) (by rw [hz]; constructor <;> intro h <;> first | rfl | omega | cases h)
    clear hx0 hgw
    go_wp2_with fail
    exact bodyPost_ret (v := .agg #[.slice sa xs.length xs.length, .bool false]) (by simp [results, Tryz.results74, go_sem, q0, q1]) rfl hF.out
  · subst h0
    go_enter Tryz.func74, Tryz.ntmps74
    go_wp2_with fail
    generalize ((w.alloc (.cells #[.slice sa xs.length xs.length] 24)).alloc (.cells #[.slice none 0 0, .bool false] 26)) = w0 at *
    refine wp_region_held_drew (S := fun w' => w'.cell? ⟨w.heap.size, 0, none⟩ = some (.slice sa xs.length xs.length)) (by kernel_rfl) (by exact (box_cell hbox).1) (fun hHeld => ?_)
    have gd : w0.grownBy w0.drew none := grown_drew (grown_refl _ _)
    have hgw := grown_trans hgw0 gd
    replace hbox := heap_kept gd hbox
    replace hboxr := heap_kept gd hboxr
    replace hx0 := hx0.kept gd
    generalize w0.drew = w1 at *
    clear gd hgw0
    refine wpAnyH_take (i := 0) (v := ?_) rfl (by kernel_rfl) (by kernel_rfl) (by kernel_rfl) (fun _ _ _ h => h) (Or.inl ⟨by rfl, ?_⟩) (by assumption) ?_
    rotate_left
    · (intro w hSw; (try dsimp only at hSw); go_simp; (try with_reducible rfl))
    try simp only [Act.put, List.getElem_toArray, List.getElem_cons_zero, List.getElem_cons_succ, List.setIfInBounds_toArray, List.set_cons_zero, List.set_cons_succ]
    refine wpAnyH_take (i := 1) (v := ?_) rfl (by kernel_rfl) (by kernel_rfl) (by kernel_rfl) (fun _ _ _ h => h) (Or.inl ⟨by rfl, ?_⟩) (by assumption) ?_
    rotate_left
    · (intro w hSw; (try dsimp only at hSw); go_simp; (try with_reducible rfl))
    try simp only [Act.put, List.getElem_toArray, List.getElem_cons_zero, List.getElem_cons_succ, List.setIfInBounds_toArray, List.set_cons_zero, List.set_cons_succ]
    refine wpAnyH_take (i := 2) (v := ?_) rfl (by kernel_rfl) (by kernel_rfl) (by kernel_rfl) (fun _ _ _ h => h) (Or.inl ⟨by rfl, ?_⟩) (by assumption) ?_
    rotate_left
    · (intro w hSw; (try dsimp only at hSw); go_simp; (try with_reducible rfl))
    try simp only [Act.put, List.getElem_toArray, List.getElem_cons_zero, List.getElem_cons_succ, List.setIfInBounds_toArray, List.set_cons_zero, List.set_cons_succ]
    refine wpAnyH_take (i := 3) (v := ?_) rfl (by kernel_rfl) (by kernel_rfl) (by kernel_rfl) (fun _ _ _ h => h) (Or.inl ⟨by rfl, ?_⟩) (by assumption) ?_
    rotate_left
    · (intro w hSw; (try dsimp only at hSw); go_simp; (try with_reducible rfl))
    try simp only [Act.put, List.getElem_toArray, List.getElem_cons_zero, List.getElem_cons_succ, List.setIfInBounds_toArray, List.set_cons_zero, List.set_cons_succ]
    have na : NatV w1 (.agg #[.slice sa xs.length xs.length]) 0 := ⟨sa, xs, rfl, hx0, Hv.out⟩
    refine wpAnyH_ready (rs := [4]) (by kernel_rfl) (by simp) ?_
    refine AllReadyH.cons rfl (fun KQ hKQ => ?_) AllReadyH.nil
    go_simp
    go_at_call 38
    refine (Bits_any w1 _ 0 K na (by omega) Hla.out).mono ?_
    rintro e w2 ⟨rfl, g2⟩
    rw [show nb 0 = 0 from rfl]
    (try go_wp2_with fail)
    have hgw := grown_trans hgw g2
    have hbox := heap_kept g2 hbox
    have hboxr := heap_kept g2 hboxr
    have hx0 := hx0.kept g2
    refine hKQ.out _ _ (by exact (box_cell hbox).1) (fun hHeld => ?_)
    clear hKQ KQ
    try simp only [Act.put, List.getElem_toArray, List.getElem_cons_zero, List.getElem_cons_succ, List.setIfInBounds_toArray, List.set_cons_zero, List.set_cons_succ]
    refine wpAnyH_take (i := 5) (v := ?_) rfl (by kernel_rfl) (by kernel_rfl) (by kernel_rfl) (fun _ _ _ h => h) (Or.inl ⟨by rfl, ?_⟩) (by assumption) ?_
    rotate_left
    · (intro w hSw; (try dsimp only at hSw); go_simp; (try with_reducible rfl))
    try simp only [Act.put, List.getElem_toArray, List.getElem_cons_zero, List.getElem_cons_succ, List.setIfInBounds_toArray, List.set_cons_zero, List.set_cons_succ]
    refine wpAnyH_take (i := 6) (v := ?_) rfl (by kernel_rfl) (by kernel_rfl) (by kernel_rfl) (fun _ _ _ h => h) (Or.inl ⟨by rfl, ?_⟩) (by assumption) ?_
    rotate_left
    · (intro w hSw; (try dsimp only at hSw); go_simp; (try with_reducible rfl))
    try simp only [Act.put, List.getElem_toArray, List.getElem_cons_zero, List.getElem_cons_succ, List.setIfInBounds_toArray, List.set_cons_zero, List.set_cons_succ]
    refine wpAnyH_take (i := 7) (v := ?_) rfl (by kernel_rfl) (by kernel_rfl) (by kernel_rfl) (fun _ _ _ h => h) (Or.inl ⟨by rfl, ?_⟩) (by assumption) ?_
    rotate_left
    · (intro w hSw; (try dsimp only at hSw); go_simp; (try with_reducible rfl))
    try simp only [Act.put, List.getElem_toArray, List.getElem_cons_zero, List.getElem_cons_succ, List.setIfInBounds_toArray, List.set_cons_zero, List.set_cons_succ]
    obtain ⟨c0, c1, f0, f1⟩ := box_cells hboxr
    refine wpAnyH_ready (rs := [8]) (by kernel_rfl) (by simp) ?_
    refine AllReadyH.cons rfl (fun KQ hKQ => ?_) AllReadyH.nil
    go_simp
    refine hKQ.out _ _ (by exact (box_cell (heap_unset2 hbox (by omega) _ _)).1) (fun hHeld => ?_)
    clear hKQ KQ
    try simp only [Act.put, List.getElem_toArray, List.getElem_cons_zero, List.getElem_cons_succ, List.setIfInBounds_toArray, List.set_cons_zero, List.set_cons_succ]
    refine wpAnyH_done (by kernel_rfl) ?_ _
    obtain ⟨q0, q1, r0, r1⟩ := box_cells (heap_set2 hboxr (.slice sa xs.length xs.length) (.bool false))
    have hF : Hid (RetInt w z (.returned (.agg #[.slice sa xs.length xs.length, .bool false])) ((w2.setCell ⟨w.heap.size + 1, 0, none⟩ (.slice sa xs.length xs.length)).setCell ⟨w.heap.size + 1, 1, none⟩ (.bool false))) := ret_int hgw hboxr (by omega) hx0 (by rw [Hv.out, hz]; omega) (by rw [hz]; constructor <;> intro h <;> first | rfl | omega | cases h)
    clear hx0 hgw
    go_wp2_with fail
    exact bodyPost_ret (v := .agg #[.slice sa xs.length xs.length, .bool false]) (by simp [results, Tryz.results74, go_sem, q0, q1]) rfl hF.out
  · skip
    go_enter Tryz.func74, Tryz.ntmps74
    go_wp2_with fail
    generalize ((w.alloc (.cells #[.slice sa xs.length xs.length] 24)).alloc (.cells #[.slice none 0 0, .bool false] 26)) = w0 at *
    refine wp_region_held_drew (S := fun w' => w'.cell? ⟨w.heap.size, 0, none⟩ = some (.slice sa xs.length xs.length)) (by kernel_rfl) (by exact (box_cell hbox).1) (fun hHeld => ?_)
    have gd : w0.grownBy w0.drew none := grown_drew (grown_refl _ _)
    have hgw := grown_trans hgw0 gd
    replace hbox := heap_kept gd hbox
    replace hboxr := heap_kept gd hboxr
    replace hx0 := hx0.kept gd
    generalize w0.drew = w1 at *
    clear gd hgw0
    refine wpAnyH_take (i := 0) (v := ?_) rfl (by kernel_rfl) (by kernel_rfl) (by kernel_rfl) (fun _ _ _ h => h) (Or.inl ⟨by rfl, ?_⟩) (by assumption) ?_
    rotate_left
    · (intro w hSw; (try dsimp only at hSw); go_simp; (try with_reducible rfl))
    try simp only [Act.put, List.getElem_toArray, List.getElem_cons_zero, List.getElem_cons_succ, List.setIfInBounds_toArray, List.set_cons_zero, List.set_cons_succ]
    refine wpAnyH_take (i := 1) (v := ?_) rfl (by kernel_rfl) (by kernel_rfl) (by kernel_rfl) (fun _ _ _ h => h) (Or.inl ⟨by rfl, ?_⟩) (by assumption) ?_
    rotate_left
    · (intro w hSw; (try dsimp only at hSw); go_simp; (try with_reducible rfl))
    try simp only [Act.put, List.getElem_toArray, List.getElem_cons_zero, List.getElem_cons_succ, List.setIfInBounds_toArray, List.set_cons_zero, List.set_cons_succ]
    refine wpAnyH_take (i := 2) (v := ?_) rfl (by kernel_rfl) (by kernel_rfl) (by kernel_rfl) (fun _ _ _ h => h) (Or.inl ⟨by rfl, ?_⟩) (by assumption) ?_
    rotate_left
    · (intro w hSw; (try dsimp only at hSw); go_simp; (try with_reducible rfl))
    try simp only [Act.put, List.getElem_toArray, List.getElem_cons_zero, List.getElem_cons_succ, List.setIfInBounds_toArray, List.set_cons_zero, List.set_cons_succ]
    refine wpAnyH_take (i := 3) (v := ?_) rfl (by kernel_rfl) (by kernel_rfl) (by kernel_rfl) (fun _ _ _ h => h) (Or.inl ⟨by rfl, ?_⟩) (by assumption) ?_
    rotate_left
    · (intro w hSw; (try dsimp only at hSw); go_simp; (try with_reducible rfl))
    try simp only [Act.put, List.getElem_toArray, List.getElem_cons_zero, List.getElem_cons_succ, List.setIfInBounds_toArray, List.set_cons_zero, List.set_cons_succ]
    obtain ⟨c, hc⟩ : ∃ c, nb a = c := ⟨_, rfl⟩
    have hn : decide ((0 : Int) < (c : Int)) = true := decide_eq_true (by have := nb_pos h0; omega)
    have hp : 0 < c := by have := nb_pos h0; omega
    have HN := Lib.hid hc
    clear hc
    have na : NatV w1 (.agg #[.slice sa xs.length xs.length]) a := ⟨sa, xs, rfl, hx0, Hv.out⟩
    refine wpAnyH_ready (rs := [4]) (by kernel_rfl) (by simp) ?_
    refine AllReadyH.cons rfl (fun KQ hKQ => ?_) AllReadyH.nil
    go_simp
    go_at_call 38
    refine (Bits_any w1 _ a K na (by omega) Hla.out).mono ?_
    rintro e w2 ⟨rfl, g2⟩
    rw [HN.out]
    (try go_wp2_with fail)
    have hgw := grown_trans hgw g2
    have hbox := heap_kept g2 hbox
    have hboxr := heap_kept g2 hboxr
    have hx0 := hx0.kept g2
    refine hKQ.out _ _ (by exact (box_cell hbox).1) (fun hHeld => ?_)
    clear hKQ KQ
    try simp only [Act.put, List.getElem_toArray, List.getElem_cons_zero, List.getElem_cons_succ, List.setIfInBounds_toArray, List.set_cons_zero, List.set_cons_succ]
    refine wpAnyH_take (i := 5) (v := ?_) rfl (by kernel_rfl) (by kernel_rfl) (by kernel_rfl) (fun _ _ _ h => h) (Or.inl ⟨by rfl, ?_⟩) (by assumption) ?_
    rotate_left
    · (intro w hSw; (try dsimp only at hSw); go_simp; (try with_reducible rfl))
    try simp only [Act.put, List.getElem_toArray, List.getElem_cons_zero, List.getElem_cons_succ, List.setIfInBounds_toArray, List.set_cons_zero, List.set_cons_succ]
    refine wpAnyH_take (i := 6) (v := ?_) rfl (by kernel_rfl) (by kernel_rfl) (by kernel_rfl) (fun _ _ _ h => h) (Or.inl ⟨by rfl, ?_⟩) (by assumption) ?_
    rotate_left
    · (intro w hSw; (try dsimp only at hSw); go_simp; (try with_reducible rfl))
    try simp only [Act.put, List.getElem_toArray, List.getElem_cons_zero, List.getElem_cons_succ, List.setIfInBounds_toArray, List.set_cons_zero, List.set_cons_succ]
    refine wpAnyH_take (i := 7) (v := ?_) rfl (by kernel_rfl) (by kernel_rfl) (by kernel_rfl) (fun _ _ _ h => h) (Or.inl ⟨by rfl, ?_⟩) (by assumption) ?_
    rotate_left
    · (intro w hSw; (try dsimp only at hSw); go_simp; (try with_reducible rfl))
    try simp only [Act.put, List.getElem_toArray, List.getElem_cons_zero, List.getElem_cons_succ, List.setIfInBounds_toArray, List.set_cons_zero, List.set_cons_succ]
    obtain ⟨c0, c1, f0, f1⟩ := box_cells hboxr
    refine wpAnyH_ready (rs := [8]) (by kernel_rfl) (by simp) ?_
    refine AllReadyH.cons rfl (fun KQ hKQ => ?_) AllReadyH.nil
    go_simp
    refine hKQ.out _ _ (by exact (box_cell (heap_unset2 hbox (by omega) _ _)).1) (fun hHeld => ?_)
    clear hKQ KQ
    try simp only [Act.put, List.getElem_toArray, List.getElem_cons_zero, List.getElem_cons_succ, List.setIfInBounds_toArray, List.set_cons_zero, List.set_cons_succ]
    refine wpAnyH_done (by kernel_rfl) ?_ _
    obtain ⟨q0, q1, r0, r1⟩ := box_cells (heap_set2 hboxr (.slice sa xs.length xs.length) (.bool true))
    have hF : Hid (RetInt w z (.returned (.agg #[.slice sa xs.length xs.length, .bool true])) ((w2.setCell ⟨w.heap.size + 1, 0, none⟩ (.slice sa xs.length xs.length)).setCell ⟨w.heap.size + 1, 1, none⟩ (.bool true))) := ret_int hgw hboxr (by omega) hx0 (by rw [Hv.out, hz]; omega) (by rw [hz]; constructor <;> intro h <;> first | rfl | omega | cases h)
    clear hx0 hgw
    go_wp2_with fail
    exact bodyPost_ret (v := .agg #[.slice sa xs.length xs.length, .bool true]) (by simp [results, Tryz.results74, go_sem, q0, q1]) rfl hF.out
end Go.Proofs.YtldkddogadmpbaaGreatDoor
