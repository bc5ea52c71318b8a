/- Lengths of the document's own numbers. -/
import Derived.Test.YtooeonjkpgbdpaaDoorRefMul
namespace Go.Proofs.YtooeonjkpgbdpaaDoor
open Go.RowKit Mat
set_option maxRecDepth 100000
set_option linter.unusedVariables false
set_option linter.unusedSimpArgs false

theorem nb_half {x : Nat} (h : 0 < x) : nb x = nb (x / 2) + 1 := by
  unfold nb
  rw [if_neg (by omega), Nat.log2_def]
  by_cases h2 : 2 ≤ x
  · rw [if_pos h2, if_neg (by omega)]
  · have : x = 1 := by omega
    subst this
    simp
theorem nb_le {a m : Nat} (h : a < 2 ^ m) : nb a ≤ m := by
  rcases Nat.eq_zero_or_pos a with h0 | h0
  · subst h0; exact Nat.zero_le _
  · obtain ⟨h1, h2, h3⟩ := nb_pos h0
    rcases Nat.lt_or_ge m (nb a) with h4 | h4
    · have := Nat.pow_le_pow_right (show 0 < 2 by omega) (show m ≤ nb a - 1 by omega)
      omega
    · exact h4
theorem set_rep {k d : Nat} {hs : List Nat} : (List.replicate (k + 1) 0 ++ hs).set k d = List.replicate k 0 ++ d :: hs := by
  rw [List.replicate_succ', List.append_assoc, List.set_append]
  simp
theorem val_drop (xs : List Nat) (k : Nat) (hk : k < xs.length) : val D (xs.drop k) = xs.getD k 0 + D * val D (xs.drop (k + 1)) := by
  rw [List.drop_eq_getElem_cons hk, List.getD_eq_getElem?_getD, List.getElem?_eq_getElem hk]; rfl
theorem half_step {x r v d r' V V' : Nat} (h : 2 * v + r = V) (hd : (r * 10000 + x) / 2 = d) (hr : (r * 10000 + x) % 2 = r') (hV : V' = x + D * V) : 2 * (d + D * v) + r' = V' := by
  have := Nat.div_add_mod (r * 10000 + x) 2
  rw [hd, hr] at this
  rw [hV, ← h]
  unfold D
  omega

set_option maxHeartbeats 8000000 in
theorem rBits_any (w : World) (va : Value) (a : Nat) (ha : RefV w va a) (ba : a < D ^ 1000000) (hM : nb a ≤ 1000000000) :
    Calls Tryd.prog 24 #[va] w fun e w' => e = .returned (.int .i64 (nb a : Int)) ∧ w.grownBy w' none := by
  obtain ⟨sa, n0, c0, xs0, rfl, hn0, hnc0, hx0, tx0, dx0, rfl⟩ := ha
  obtain ⟨i0, hi, hz0, hz1, hz2⟩ := info_partsI
  obtain ⟨A, hA⟩ : ∃ A, val D xs0 = A := ⟨_, rfl⟩
  rw [hA] at ba hM ⊢
  have HA := Lib.hid hA
  have HBA := Lib.hid ba
  obtain ⟨M, hMe⟩ : ∃ M, nb A = M := ⟨_, rfl⟩
  rw [hMe] at hM ⊢
  have HM := Lib.hid hMe
  have hgw0 := World.grownBy_alloc w (.cells #[.slice sa n0 c0] 30) none
  have hbox0 := heap_new w (.cells #[.slice sa n0 c0] 30) w.heap.size rfl
  have hx1 := hx0.kept hgw0
  clear hA ba hMe hx0
  go_enter Tryd.func24, Tryd.ntmps24
  go_wp2_with fail
  generalize (w.alloc (.cells #[.slice sa n0 c0] 30)) = w0 at *
  go_loopg [3] A (fun gh k wr => ∃ (q : Nat) (s : Option Addr) (n c : Nat) (xs : List Nat), k = .int .i64 q ∧ Hid (val D xs ≤ gh) ∧ Hid (val D xs ≤ A) ∧ Hid (q + nb (val D xs) = M) ∧ wr.heap[w.heap.size]? = some (.cells #[.slice s n c] 30 (0, 0)) ∧ Hid (xs.length = n) ∧ n ≤ c ∧ RRdo wr s xs ∧ Top xs ∧ Dig D xs ∧ w.grownBy wr none)
  case atStart => exact ⟨0, sa, n0, c0, xs0, rfl, by show _ ≤ _; rw [HA.out]; exact Nat.le_refl _, by show _ ≤ _; rw [HA.out]; exact Nat.le_refl _, by show _ = _; rw [HA.out, HM.out]; omega, hbox0, hn0, hnc0, hx1, tx0, dx0, hgw0⟩
  case round =>
    obtain ⟨q, s, n, c, xs, rfl, hgh, hle, hq, hbox, hn, hnc, hx, tx, dx, hgw⟩ := hrel
    obtain ⟨cb, fb⟩ := box_cell hbox
    have hn6 : n ≤ 1000000 := rlen tx hn.out (Nat.lt_of_le_of_lt hle.out HBA.out)
    rcases Nat.eq_zero_or_pos n with h0 | h0
    · subst h0
      have hqM : (q : Int) = (M : Int) := by
        have := hq.out
        rw [List.length_eq_zero_iff.1 hn.out] at this
        simp [val, nb] at this; omega
      have HQ := Lib.hid hqM
      clear hqM
      go_wp2_with fail
      go_ret
      exact ⟨by rw [← HQ.out]; rfl, hgw⟩
    · have hvp : 0 < val D xs := by
        refine val_pos D D_pos xs ?_ tx
        intro e
        have := hn.out
        rw [e] at this; simp at this; omega
      have hq1 : Hid (q + 1 + nb (val D xs / 2) = M) := by
        show _ = _
        have := hq.out
        rw [nb_half hvp] at this; omega
      have hqM : q < M := by have := hq1.out; omega
      have hlt : Hid (val D xs / 2 < gk) := by
        show _ < _
        have := hgh.out
        omega
      have hle2 : Hid (val D xs / 2 ≤ A) := by show _ ≤ _; have := hle.out; omega
      have f0 : decide ((0 : Int) < (n : Int)) = true := decide_eq_true (by omega)
      clear hvp hq hgh hle
      go_wp2_with (at_make; refine wpList_make_full _ rfl _ _ 28 rfl _ 3 i0 (.int .i64 0) 1 Tryd.underlying28 hi hz0 hz1 .i64 .i64 _ _ n rfl rfl (by omega) (by omega) (by rw [hz2]; omega) (by unfold maxLen; omega) (Nat.le_refl _) ?_; intro w1 hown hg1; have hI1 := made_ints hown; have hbox1 := heap_kept hg1 hbox; (obtain ⟨cb1, fb1⟩ := box_cell hbox1); clear hown cb fb)
      have hgs : w.heap.size < wr.heap.size := (Array.getElem?_eq_some_iff.1 hbox).1
      have hsz1 := hg1.size
      have hgw1 := grown_trans hgw hg1
      obtain ⟨g, hgE⟩ : ∃ g, wr.heap.size = g := ⟨_, rfl⟩
      rw [hgE] at hI1 hgs hsz1
      have HX : Hid (∀ W, w1.grownBy W (some g) → RRdo W s xs) := fun W h => hx.kept_row (grown_trans (grown_any hg1) h) (by omega)
      clear hx hbox hgw
      go_wp2_with fail
      rw [hgE]
      go_loopw [4, 6] (fun r i wi => ∃ (j r' : Nat) (hs : List Nat), j ≤ n ∧ i = .int .i64 ((j : Int) - 1) ∧ r = .int .i64 r' ∧ r' ≤ 1 ∧ Hid (hs.length = n - j) ∧ Dig D hs ∧ Ints wi g (List.replicate j 0 ++ hs) ∧ w1.grownBy wi (some g) ∧ Hid (2 * val D hs + r' = val D (xs.drop j))) (fun _ i _ => (intOf i + 1).toNat)
      case atStart => exact ⟨n, 0, [], Nat.le_refl _, rfl, rfl, by omega, by show _ = _; simp, Dig.nil _, by rw [List.append_nil]; exact hI1, grown_refl _ _, by show _ = _; rw [List.drop_of_length_le (by rw [hn.out]; exact Nat.le_refl _)]; rfl⟩
      case round =>
        clear hI1
        obtain ⟨j, r, hs, hj, rfl, rfl, hr, hl, hd, hI, hgi, hv⟩ := hrel
        have hbi := heap_row hgi hbox1 (by omega)
        obtain ⟨cb2, fb2⟩ := box_cell hbi
        by_cases hz : j = 0
        · subst hz
          have hv0 : Hid (val D hs = val D xs / 2) := by show _ = _; have := hv.out; rw [List.drop_zero] at this; omega
          have hl0 : Hid (hs.length = n) := by show _ = _; rw [hl.out]; omega
          rw [List.replicate_zero, List.nil_append] at hI
          have hgwi := grown_new hgw1 hgi (by omega)
          have hrd := hI.rd
          clear hv hl hI hgi
          go_wp2_with fail
          refine (rcut_any wr (some ⟨g, 0, none⟩) n n hs hl0.out hrd (Nat.le_refl _) (by omega) hd).mono ?_
          rintro e w4 ⟨v, rfl, ⟨s4, k4, c4, zs4, rfl, hn4, hnc4, hx4, tx4, dx4, hv4⟩, hg4⟩
          have hb4 := heap_kept hg4 hbi
          obtain ⟨cb4, fb4⟩ := box_cell hb4
          have hb5 := heap_set hb4 (.slice s4 k4 c4)
          have hx5 := hx4.set_other hb4 (by decide) 0 (.slice s4 k4 c4)
          have hg5 := grown_new (grown_trans hgwi hg4) (grown_set (grown_refl w4 (some w.heap.size)) 0 (.slice s4 k4 c4)) (Nat.le_refl _)
          have hv5 : val D zs4 = val D xs / 2 := hv4.trans hv0.out
          have HV5 := Lib.hid hv5
          have HN4 := Lib.hid hn4
          clear hx4 hv4 hg4 hb4 hgwi hbi hv5 hn4
          go_wp2_with fail
          go_roundg (val D xs / 2)
          case measure => exact hlt.out
          case rel => exact ⟨q + 1, s4, k4, c4, zs4, by go_num, by show _ ≤ _; rw [HV5.out]; exact Nat.le_refl _, by show _ ≤ _; rw [HV5.out]; exact hle2.out, by show _ = _; rw [HV5.out]; exact hq1.out, hb5, HN4, hnc4, hx5, tx4, dx4, hg5⟩
        · obtain ⟨k, rfl⟩ : ∃ k, j = k + 1 := ⟨j - 1, by omega⟩
          clear hz
          obtain ⟨x, ex⟩ : ∃ x, xs.getD k 0 = x := ⟨_, rfl⟩
          have hx4 : x < 10000 := ex ▸ getD_lt dx k
          obtain ⟨b1, o1, rfl, c1⟩ := rcell (HX.out _ hgi) hn.out k (by omega)
          rw [ex] at c1
          have ek : ((k + 1 : Nat) : Int) - 1 = (k : Int) := by omega
          rw [ek]
          obtain ⟨d, hd1⟩ : ∃ d, (r * 10000 + x) / 2 = d := ⟨_, rfl⟩
          obtain ⟨r2, hr2⟩ : ∃ r2, (r * 10000 + x) % 2 = r2 := ⟨_, rfl⟩
          have hd4 : d < 10000 := by omega
          have hr21 : r2 ≤ 1 := by omega
          have e1 : ((r : Int) * 10000 + (x : Int)) / 2 = (d : Int) := by omega
          have e2 : ((r : Int) * 10000 + (x : Int)) % 2 = (r2 : Int) := by omega
          have hvn : Hid (2 * val D (d :: hs) + r2 = val D (xs.drop k)) := by
            show _ = _
            exact half_step hv.out hd1 hr2 (by rw [val_drop xs k (by rw [hn.out]; omega), ex])
          have hln : Hid ((d :: hs).length = n - k) := by show _ = _; rw [List.length_cons, hl.out]; omega
          have hIn := hI.set k d
          rw [set_rep] at hIn
          have c3 := hI.cell (n := n) (by rw [List.length_append, List.length_replicate, hl.out]; omega) k (by omega)
          have fr3 := hI.frozen k
          clear hv hd1 hr2 hl ek
          go_wp2_with fail
          go_roundw
          case rel => exact ⟨k, r2, d :: hs, by omega, by go_num, by go_num, hr21, hln, Dig.cons hd4 hd, hIn, grown_set hgi _ _, hvn⟩
          case measure => simp [intOf]
end Go.Proofs.YtooeonjkpgbdpaaDoor
