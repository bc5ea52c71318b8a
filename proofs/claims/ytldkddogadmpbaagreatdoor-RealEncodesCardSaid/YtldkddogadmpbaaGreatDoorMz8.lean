/- What the laws lean on, part 8. -/
import Derived.Deep.CutRange
import Derived.Deep.RegionLaw
import Derived.Deep.RegionHeld3
import Derived.IntWalk
import Derived.Test.YtldkddogadmpbaaGreatDoorMz7
import Derived.Test.YtldkddogadmpbaaGreatDoorZBd
import Derived.Test.YtldkddogadmpbaaGreatDoorMz3
import Derived.Test.YtldkddogadmpbaaGreatDoorMz1
namespace Go.Proofs.YtldkddogadmpbaaGreatDoor
open Go.RowKit Mat
set_option maxRecDepth 100000
set_option linter.unusedVariables false
set_option linter.unusedSimpArgs false
def Far (g : Nat) (w : World) (s : Option Addr) (xs : List Nat) : Prop := xs = [] ∨ ∃ (b off : Nat) (cs : Array Value), s = some ⟨b, off, none⟩ ∧ b ≠ g ∧ RBlk w b cs ∧ RAt cs off xs
theorem Far.rd {g : Nat} {w : World} {s : Option Addr} {xs : List Nat} (h : Far g w s xs) : RRdo w s xs := by
  rcases h with h | ⟨b, off, cs, e, _, h1, h2⟩
  · exact Or.inl h
  · exact Or.inr ⟨b, off, cs, e, h1, h2⟩
theorem Far.kept {g : Nat} {w w' : World} {s : Option Addr} {xs : List Nat} (h : Far g w s xs) (hg : w.grownBy w' none) : Far g w' s xs := by
  rcases h with h | ⟨b, off, cs, e, hn, h1, h2⟩
  · exact Or.inl h
  · exact Or.inr ⟨b, off, cs, e, hn, h1.kept hg (by simp), h2⟩
theorem Far.setCell {g : Nat} {w : World} {s : Option Addr} {xs : List Nat} (h : Far g w s xs) (o : Nat) (v : Value) : Far g (w.setCell ⟨g, o, none⟩ v) s xs := by
  rcases h with h | ⟨b, off, cs, e, hn, h1, h2⟩
  · exact Or.inl h
  · refine Or.inr ⟨b, off, cs, e, hn, (Below.heap_setCell _ _ _ _ ?_).trans h1, h2⟩
    simpa using hn
theorem Ints.kept {w w' : World} {g : Nat} {zs : List Nat} (h : Ints w g zs) (hg : w.grownBy w' none) : Ints w' g zs := RBlk.kept h hg (by simp)
theorem Ints.unset {w : World} {g b : Nat} {zs : List Nat} (h : Ints w g zs) (hb : b ≠ g) (v : Value) : Ints (w.setCell ⟨b, 0, none⟩ v) g zs := by
  refine (Below.heap_setCell _ _ _ _ ?_).trans h
  simpa using Ne.symm hb
def Boxed (w : World) (b n : Nat) : Prop := ∃ s k c, w.heap[b]? = some (.cells #[.slice s k c] 34 (0, 0)) ∧ RefV w (.agg #[.slice s k c]) n
theorem div_step {b R x vh V lo : Nat} (h : vh * b + R = V) (hlo : lo * b ≤ x + D * R) : (lo + D * vh) * b + (x + D * R - b * lo) = x + D * V := by
  have h1 : (lo + D * vh) * b = lo * b + D * (vh * b) := by rw [Nat.add_mul, Nat.mul_assoc]
  have h2 : b * lo = lo * b := Nat.mul_comm _ _
  rw [h1, ← h, Nat.mul_add]
  omega
theorem Far.take {g : Nat} {w : World} {s : Option Addr} {xs : List Nat} (h : Far g w s xs) (k : Nat) : Far g w s (xs.take k) := by
  rcases h with h | ⟨b, off, cs, e, hn, h1, h2⟩
  · exact Or.inl (by rw [h]; simp)
  · exact Or.inr ⟨b, off, cs, e, hn, h1, h2.take k⟩
theorem Far.set_other {w : World} {s : Option Addr} {xs : List Nat} {g b7 : Nat} {c : Array Value} {t : TypeId} (h : Far g w s xs) (hbox : w.heap[b7]? = some (.cells c t (0, 0))) (ht : t ≠ 3) (o : Nat) (u : Value) : Far g (w.setCell ⟨b7, o, none⟩ u) s xs := by
  rcases h with h | ⟨b, off, cs, e, hn, h1, h2⟩
  · exact Or.inl h
  · refine Or.inr ⟨b, off, cs, e, hn, (Below.heap_setCell _ _ _ _ ?_).trans h1, h2⟩
    intro e2
    simp only at e2
    unfold RBlk at h1
    subst e2
    rw [hbox] at h1
    simp at h1
    exact ht h1.2
theorem far_of {w : World} {g g2 : Nat} {xs : List Nat} (h : RRdo w (some ⟨g2, 0, none⟩) xs) (hne : g2 ≠ g) : Far g w (some ⟨g2, 0, none⟩) xs := by
  rcases h with h | ⟨b, off, cs, e, h1, h2⟩
  · exact Or.inl h
  · refine Or.inr ⟨b, off, cs, e, ?_, h1, h2⟩
    cases e; exact hne
def Cut6 (wA : World) (g b7 V : Nat) (zs : List Nat) (wx : World) : Prop :=
  ∃ (s : Option Addr) (k c : Nat) (rs : List Nat), wx.heap[b7]? = some (.cells #[.slice s k c] 34 (0, 0)) ∧ rs.length = k ∧ k ≤ c ∧ Far g wx s rs ∧ Top rs ∧ Dig D rs ∧ val D rs = V ∧ Ints wx g zs ∧ wA.grownBy wx none
theorem cut6_mk {wA wr w5 w6 : World} {g b7 x R kR k6 g2 cap2 : Nat} {rs zs : List Nat} {u0 : Value} (hI : Ints wr g zs) (hA : wA.grownBy wr none) (h7 : wr.heap[b7]? = some (.cells #[u0] 34 (0, 0))) (hb7 : b7 ≠ g) (hlo : wA.heap.size ≤ b7) (hrl : rs.length = kR) (drs : Dig D rs) (hx : x < D) (hrv : val D rs = R)
    (hown : w5.ownsRow (g + 1) 3 1 (.slice (some ⟨g2, 0, none⟩) (1 + kR) cap2) (1 + kR) (([x] ++ rs).map iv)) (h5 : wr.grownBy w5 none) (h6 : w5.grownBy w6 none) (hk6 : k6 ≤ 1 + kR) (ht : Top (([x] ++ rs).take k6)) (hv : val D (([x] ++ rs).take k6) = val D ([x] ++ rs)) :
    Cut6 wA g b7 (x + D * R) zs (w6.setCell ⟨b7, 0, none⟩ (.slice (some ⟨g2, 0, none⟩) k6 cap2)) := by
  have h56 := grown_trans h5 h6
  have h76 := heap_kept h56 h7
  obtain ⟨hrd, hcap, hlen⟩ := own_rdoI hown
  have hg2 : g2 ≠ g := by have := (own_lo hown).1; omega
  refine ⟨_, k6, cap2, ([x] ++ rs).take k6, heap_set h76 _, by rw [List.length_take]; omega, by omega, (((far_of hrd hg2).take k6).kept h6).set_other h76 (by decide) 0 _, ht, (Dig.append (Dig.cons hx (Dig.nil D)) drs).take k6, ?_, (hI.kept h56).unset hb7 _, grown_new (grown_trans hA h56) (grown_set (grown_refl _ _) _ _) hlo⟩
  rw [hv, ← hrv]; rfl
def Cut14 (wA : World) (g b7 V : Nat) (zs : List Nat) (wx : World) : Prop := Boxed wx b7 V ∧ Ints wx g zs ∧ wA.grownBy wx none
theorem cut14_mk {wA wr w6 : World} {g b7 V : Nat} {zs : List Nat} {u0 : Value} {s : Option Addr} {k c : Nat} (hI : Ints wr g zs) (hA : wA.grownBy wr none) (h7 : wr.heap[b7]? = some (.cells #[u0] 34 (0, 0))) (hb7 : b7 ≠ g) (hlo : wA.heap.size ≤ b7) (h6 : wr.grownBy w6 none) (hn : RefV w6 (.agg #[.slice s k c]) V) :
    Cut14 wA g b7 V zs (w6.setCell ⟨b7, 0, none⟩ (.slice s k c)) := by
  have h76 := heap_kept h6 h7
  exact ⟨⟨s, k, c, heap_set h76 _, hn.set_other h76 (by decide) 0 _⟩, (hI.kept h6).unset hb7 _, grown_new (grown_trans hA h6) (grown_set (grown_refl _ _) _ _) hlo⟩
theorem bin_step {lo hi mid : Nat} (h : 1 < hi - lo) (hm : (lo + hi) / 2 = mid) : lo < mid ∧ mid < hi := by omega
set_option maxHeartbeats 16000000 in
theorem rDiv_any (w : World) (va vb : Value) (a b : Nat) (ha : RefV w va a) (hb : RefV w vb b) (ba : a < D ^ 400000) (bb : b < D ^ 400000) (h0 : 0 < b) :
    Calls Tryz.prog 31 #[va, vb] w (fun e w' => ∃ v u, e = .returned (.tuple #[v, u]) ∧ RefV w' v (a / b) ∧ RefV w' u (a % b) ∧ w.grownBy w' none) := by
  obtain ⟨E, hE⟩ : ∃ E, E = 400000 := ⟨_, rfl⟩
  rw [← hE] at ba bb
  obtain ⟨sa, n, cx, xs, rfl, hn, hnc, hx, tx, dx, rfl⟩ := ha
  obtain ⟨sb, m, cy, ys, rfl, hm, hmc, hy, ty, dy, hvy⟩ := hb
  have Hn := Lib.hid hn
  have hn6 : n ≤ 400000 := by rw [← hE]; exact rlen tx hn ba
  obtain ⟨i0, hi, hz0, hz1, hz2⟩ := info_partsI
  have hgw0 : w.grownBy ((((w.alloc (.cells #[.slice sa n cx] 34)).alloc (.cells #[.slice sb m cy] 34)).alloc (.cells #[.slice none 0 0] 34)).alloc (.cells #[.slice none 0 0] 34)) none := grown_alloc (grown_alloc (grown_alloc (World.grownBy_alloc _ _ _) _) _) _
  have hb4 := heap_new (((w.alloc (.cells #[.slice sa n cx] 34)).alloc (.cells #[.slice sb m cy] 34)).alloc (.cells #[.slice none 0 0] 34)) (.cells #[.slice none 0 0] 34) (w.heap.size + 1 + 1 + 1) (by simp)
  have hb3 := heap_kept (World.grownBy_alloc _ (.cells #[.slice none 0 0] 34) none) (heap_new ((w.alloc (.cells #[.slice sa n cx] 34)).alloc (.cells #[.slice sb m cy] 34)) (.cells #[.slice none 0 0] 34) (w.heap.size + 1 + 1) (by simp))
  have hb2 := heap_kept (grown_alloc (World.grownBy_alloc _ (.cells #[.slice none 0 0] 34) none) (.cells #[.slice none 0 0] 34)) (heap_new (w.alloc (.cells #[.slice sa n cx] 34)) (.cells #[.slice sb m cy] 34) (w.heap.size + 1) (by simp))
  have hb1 := heap_kept (grown_alloc (grown_alloc (World.grownBy_alloc _ (.cells #[.slice sb m cy] 34) none) (.cells #[.slice none 0 0] 34)) (.cells #[.slice none 0 0] 34)) (heap_new w (.cells #[.slice sa n cx] 34) w.heap.size rfl)
  have hs0 : ((((w.alloc (.cells #[.slice sa n cx] 34)).alloc (.cells #[.slice sb m cy] 34)).alloc (.cells #[.slice none 0 0] 34)).alloc (.cells #[.slice none 0 0] 34)).heap.size = w.heap.size + 1 + 1 + 1 + 1 := by simp
  have hxA := hx.kept hgw0
  have nbA : RefV ((((w.alloc (.cells #[.slice sa n cx] 34)).alloc (.cells #[.slice sb m cy] 34)).alloc (.cells #[.slice none 0 0] 34)).alloc (.cells #[.slice none 0 0] 34)) (.agg #[.slice sb m cy]) b := ⟨sb, m, cy, ys, rfl, hm, hmc, hy.kept hgw0, ty, dy, hvy⟩
  obtain ⟨A, hA⟩ : ∃ A, val D xs = A := ⟨_, rfl⟩
  rw [hA] at ba ⊢
  have HA := Lib.hid hA
  have HBB := Lib.hid bb
  have HE := Lib.hid hE
  have H0 := Lib.hid h0
  clear hn hm hx hy ty dy hvy hmc ba bb hA hE h0
  go_enter Tryz.func31, Tryz.ntmps31
  go_wp2_with (at_make; refine wpList_make_full _ rfl _ _ 32 rfl _ 3 i0 (.int .i64 0) 1 Tryz.underlying32 hi hz0 hz1 .i64 .i64 _ _ n rfl rfl (by omega) (by omega) (by rw [hz2]; omega) (by unfold maxLen; omega) (Nat.le_refl _) ?_; intro w1 hown hg1; have hI1 := made_ints hown; have hgx1 := grown_alloc hg1 (.cells #[.slice none 0 0] 34); have h71 := heap_new w1 (.cells #[.slice none 0 0] 34) w1.heap.size rfl; (obtain ⟨cb1, fb1⟩ := box_cell (heap_kept hgx1 hb1)); have hI2 := hI1.kept (World.grownBy_alloc w1 (.cells #[.slice none 0 0] 34) none); have hI3 := hI1; have hI3 := hI1; have hI3 := hI1; have hI3 := hI1; have hI3 := hI1; clear hown hI1)
  have h7g : w.heap.size + 1 + 1 + 1 + 1 < w1.heap.size := by rw [← hs0]; exact RBlk.lt hI3
  generalize ((((w.alloc (.cells #[.slice sa n cx] 34)).alloc (.cells #[.slice sb m cy] 34)).alloc (.cells #[.slice none 0 0] 34)).alloc (.cells #[.slice none 0 0] 34)) = wA at *
  obtain ⟨g, hgE⟩ : ∃ g, w.heap.size + 1 + 1 + 1 + 1 = g := ⟨_, rfl⟩
  rw [hgE] at hs0 h7g
  rw [hgE]
  rw [hs0] at hI2
  clear hI3 cb1 fb1 hg1
  generalize hw2 : (w1.alloc (.cells #[.slice none 0 0] 34)) = w2 at *
  clear hw2
  generalize w1.heap.size = b7 at *
  have hAsz : wA.heap.size ≤ b7 := by omega
  go_loopw [8] (fun i wr => ∃ (j : Nat) (hs : List Nat) (R : Nat), j ≤ n ∧ i = .int .i64 ((j : Int) - 1) ∧ Hid (hs.length = n - j) ∧ Dig D hs ∧ Ints wr g (List.replicate j 0 ++ hs) ∧ Boxed wr b7 R ∧ Hid (R < b) ∧ Hid (val D hs * b + R = val D (xs.drop j)) ∧ wA.grownBy wr none) (fun i _ => (intOf i + 1).toNat)
  case atStart => exact ⟨n, [], 0, Nat.le_refl _, rfl, by show _ = _; simp, Dig.nil _, by rw [List.append_nil]; exact hI2, ⟨none, 0, 0, h71, RefV.zero _⟩, H0.out, by show _ = _; rw [List.drop_of_length_le (by rw [Hn.out]; exact Nat.le_refl _)]; simp [val], hgx1⟩
  case round =>
    clear hI2 h71 hgx1
    obtain ⟨j, hs, R, hj, rfl, hhl, hhd, hI, hB, hRb, hv, hG⟩ := hrel
    obtain ⟨sR, kR, cR, h7, nR⟩ := hB
    obtain ⟨c7, f7⟩ := box_cell h7
    obtain ⟨ca, fa⟩ := box_cell (heap_kept hG hb1)
    obtain ⟨cb, fb⟩ := box_cell (heap_kept hG hb2)
    by_cases hz : j = 0
    · subst hz
      rw [List.replicate_zero, List.nil_append] at hI
      have hq : Hid (val D hs = A / b ∧ R = A % b) := by
        have h1 := hv.out
        rw [List.drop_zero, HA.out] at h1
        have h2 := hRb.out
        have e : A = R + b * val D hs := by rw [Nat.mul_comm]; omega
        refine ⟨?_, ?_⟩
        · rw [e, Nat.add_mul_div_left _ _ H0.out, Nat.div_eq_of_lt h2]; omega
        · rw [e, Nat.add_mul_mod_self_left, Nat.mod_eq_of_lt h2]
      have hl0 : Hid (hs.length = n) := by show _ = _; rw [hhl.out]; omega
      have hgwr := grown_trans hgw0 hG
      have hr3 := heap_kept hG hb3
      have hr4 := heap_kept hG hb4
      have hrd := hI.rd
      clear hv hhl hRb hI
      go_wp2_with fail
      go_region_held3 (fun w' => w'.cell? ⟨b7, 0, none⟩ = some (.slice sR kR cR))
        (first | assumption | exact c7 | exact HS6 | exact HS7 | go_keep)
        (first
          | (go_at_call 51; (with_reducible refine (rcut_any wr.drew (some ⟨g, 0, none⟩) n n hs hl0.out (hrd.kept (grown_drew (grown_refl _ _))) (Nat.le_refl _) (by omega) hhd).mono ?_); rintro e w6 ⟨v6, rfl, ⟨s6, k6, c6, zs6, rfl, n6⟩, g6⟩; have hG6 := grown_pre wr g6 rfl rfl rfl rfl; have hS6 := hG6.cell c7 (by simp); have hr36 := heap_kept hG6 hr3; have hr46 := heap_kept hG6 hr4; (obtain ⟨c3, f3⟩ := box_cell hr36); (obtain ⟨c4, f4⟩ := box_cell hr46); have HS6 : (w6.setCell ⟨w.heap.size + 1 + 1, 0, none⟩ (.slice s6 k6 c6)).cell? ⟨b7, 0, none⟩ = some (.slice sR kR cR) := (box_cell (heap_unset (heap_kept hG6 h7) (by omega) _)).1; have HS7 : ((w6.setCell ⟨w.heap.size + 1 + 1, 0, none⟩ (.slice s6 k6 c6)).setCell ⟨w.heap.size + 1 + 1 + 1, 0, none⟩ (.slice sR kR cR)).cell? ⟨b7, 0, none⟩ = some (.slice sR kR cR) := (box_cell (heap_unset (heap_unset (heap_kept hG6 h7) (by omega) _) (by omega) _)).1))
      have q1 := heap_set hr36 (.slice s6 k6 c6)
      have q2 := heap_unset (g := w.heap.size + 1 + 1) hr46 (by omega) (.slice s6 k6 c6)
      have nA : RefV w6 (.agg #[.slice s6 k6 c6]) (A / b) := by rw [← hq.out.1]; exact ⟨s6, k6, c6, zs6, rfl, n6⟩
      have nB : RefV w6 (.agg #[.slice sR kR cR]) (A % b) := by rw [← hq.out.2]; exact nR.kept hG6
      obtain ⟨W9, hW9⟩ : ∃ W, W = (w6.setCell ⟨w.heap.size + 1 + 1, 0, none⟩ (.slice s6 k6 c6)).setCell ⟨w.heap.size + 1 + 1 + 1, 0, none⟩ (.slice sR kR cR) := ⟨_, rfl⟩
      have q1' := heap_unset (g := w.heap.size + 1 + 1 + 1) q1 (by omega) (.slice sR kR cR)
      have q2' := heap_set q2 (.slice sR kR cR)
      have nA' := (nA.set_other hr36 (by decide) 0 (.slice s6 k6 c6)).set_other q2 (by decide) 0 (.slice sR kR cR)
      have nB' := (nB.set_other hr36 (by decide) 0 (.slice s6 k6 c6)).set_other q2 (by decide) 0 (.slice sR kR cR)
      have hgW := grown_new (grown_new (grown_trans hgwr hG6) (grown_set (grown_refl w6 (some (w.heap.size + 1 + 1))) 0 (.slice s6 k6 c6)) (by omega)) (grown_set (grown_refl _ (some (w.heap.size + 1 + 1 + 1))) 0 (.slice sR kR cR)) (by omega)
      rw [← hW9] at q1' q2' nA' nB' hgW
      have HF : Hid (∃ v u, Ending.returned (.tuple #[.agg #[.slice s6 k6 c6], .agg #[.slice sR kR cR]]) = Ending.returned (.tuple #[v, u]) ∧ RefV W9 v (A / b) ∧ RefV W9 u (A % b) ∧ w.grownBy W9 none) := ⟨_, _, rfl, nA', nB', hgW⟩
      obtain ⟨cq1, gq1⟩ := box_cell q1'
      obtain ⟨cq2, gq2⟩ := box_cell q2'
      rw [← hW9]
      clear hW9 q1 q2 nA nB nA' nB' hgW n6 hr36 hr46 c3 f3 c4 f4
      go_wp2_with fail
      exact bodyPost_ret (v := .tuple #[.agg #[.slice s6 k6 c6], .agg #[.slice sR kR cR]]) (by simp [results, Tryz.results31, go_sem, cq1, cq2]) rfl HF.out
    · obtain ⟨k, rfl⟩ : ∃ k, j = k + 1 := ⟨j - 1, by omega⟩
      clear hz
      obtain ⟨x, ex⟩ : ∃ x, xs.getD k 0 = x := ⟨_, rfl⟩
      have hx4 : x < 10000 := ex ▸ getD_lt dx k
      obtain ⟨b1, o1, rfl, c1⟩ := rcell (hxA.kept hG) Hn.out k (by omega)
      rw [ex] at c1
      have EX := Lib.hid ex
      have ek : ((k + 1 : Nat) : Int) - 1 = (k : Int) := by omega
      rw [ek]
      obtain ⟨V, hV⟩ : ∃ V, x + D * R = V := ⟨_, rfl⟩
      have hkn : k < n := by omega
      have hkI : (k : Int) < (n : Int) := by omega
      clear ex ek
      go_wp2_with fail
      go_cut [] from 21 to 59 (fun wx => Cut6 wA g b7 V (List.replicate (k + 1) 0 ++ hs) wx)
      case first =>
        obtain ⟨sR', kR', cR', rs, eR, hrl, hrc, hrr, trs, drs, hrv⟩ := nR
        cases eR
        have hrl6 : kR ≤ 500000 := by
          obtain ⟨F, hF⟩ : ∃ F, F = 500000 := ⟨_, rfl⟩
          rw [← hF]
          refine rlen trs hrl ?_
          rw [hrv]
          have h1 := HBB.out
          have h2 := hRb.out
          have h3 : D ^ E ≤ D ^ F := Nat.pow_le_pow_right D_pos (by have := HE.out; omega)
          exact Nat.lt_of_lt_of_le (Nat.lt_trans h2 h1) h3
        have hgr : g < wr.heap.size := RBlk.lt hI
        have HO : Hid ((wr.drew.alloc (.cells #[.int .i64 (x : Int)] 3)).ownsRow (g + 1) 3 1 (.slice (some ⟨wr.heap.size, 0, none⟩) 1 1) 1 ([x].map iv)) := own_one rfl (by omega)
        have HR : Hid (RRdo (wr.drew.alloc (.cells #[.int .i64 (x : Int)] 3)) sR rs) := hrr.kept (grown_alloc (grown_drew (grown_refl _ _)) _)
        have HB : Hid (g + 1 ≤ (wr.drew.alloc (.cells #[.int .i64 (x : Int)] 3)).heap.size) := by show _ ≤ _; simp; omega
        have HL := Lib.hid hrl
        have HM : Hid (∀ (w5 w6 : World) (g2 cap2 k6 : Nat), w5.ownsRow (g + 1) 3 1 (.slice (some ⟨g2, 0, none⟩) (1 + kR) cap2) (1 + kR) (([x] ++ rs).map iv) → wr.grownBy w5 none → w5.grownBy w6 none → k6 ≤ 1 + kR → Top (([x] ++ rs).take k6) → val D (([x] ++ rs).take k6) = val D ([x] ++ rs) → Cut6 wA g b7 V (List.replicate (k + 1) 0 ++ hs) (w6.setCell ⟨b7, 0, none⟩ (.slice (some ⟨g2, 0, none⟩) k6 cap2))) :=
          fun w5 w6 g2 cap2 k6 q1 q2 q3 q4 q5 q6 => by rw [← hV]; exact cut6_mk hI hG h7 (by omega) hAsz hrl drs (show x < D from hx4) hrv q1 q2 q3 q4 q5 q6
        have H7 := Lib.hid h7
        obtain ⟨c7x, f7x⟩ := box_cell (heap_kept (World.grownBy_alloc wr (.cells #[.int .i64 (x : Int)] 3) none) h7)
        clear hrl hrr hI hG hV hhl hRb hv trs drs hrv hhd h7
        go_region_law (first
          | (refine step_append_ints rfl (.tmp 30) (.tmp 32) rfl (g + 1) wr.heap.size 1 1 [x] rfl HO.out (by omega) sR kR cR rs rfl HL.out HR.out (by omega) HB.out ?_; intro g2 cap2 w5 hown5 hgrow5; have hG5 : wr.grownBy w5 none := grown_new (grown_alloc (grown_drew (grown_refl wr none)) _) hgrow5 (Nat.le_refl _))
          | (go_simp; go_at_call 51; (with_reducible refine (rcut_at w5 (some ⟨g2, 0, none⟩) (1 + kR) cap2 ([x] ++ rs) (own_rdoI hown5).2.2 (own_rdoI hown5).1 (own_rdoI hown5).2.1 (by omega)).mono ?_); rintro e w6 ⟨k6, rfl, hk6, t6, v6, g6⟩; (obtain ⟨c76, f76⟩ := box_cell (heap_kept (grown_trans hG5 g6) H7.out))))
        all_goals (
          go_wp2_with fail
          go_meet
          exact HM.out w5 w6 g2 cap2 k6 hown5 hG5 g6 hk6 t6 v6)
      case rest =>
        obtain ⟨s6, k6, c6, rs, h76, hrl, hrc, hfar, trs, drs, hrv, hI6, hG6⟩ := hcut
        have nb6 := nbA.kept hG6
        have n6 : RefV wc (.agg #[.slice s6 k6 c6]) V := ⟨s6, k6, c6, rs, rfl, hrl, hrc, hfar.rd, trs, drs, hrv⟩
        have hVb : Hid (V < D * b) := by
          show _ < _
          have h1 := hRb.out
          have h2 : D * (R + 1) ≤ D * b := Nat.mul_le_mul_left _ h1
          rw [← hV]; rw [Nat.mul_add] at h2; unfold D at *; omega
        have hbD : Hid (b < D ^ 1000000) := by
          show _ < _
          obtain ⟨F, hF⟩ : ∃ F, F = 1000000 := ⟨_, rfl⟩
          rw [← hF]
          exact Nat.lt_of_lt_of_le HBB.out (Nat.pow_le_pow_right D_pos (by have := HE.out; omega))
        have hbD2 : Hid (∀ q, q ≤ D → b * q < D ^ 1000000) := by
          intro q hq
          obtain ⟨F, hF⟩ : ∃ F, F = 1000000 := ⟨_, rfl⟩
          rw [← hF]
          have h1 : b * q ≤ b * D := Nat.mul_le_mul_left _ hq
          have h2 : D ^ (E + 1) ≤ D ^ F := Nat.pow_le_pow_right D_pos (by have := HE.out; omega)
          rw [Nat.pow_succ] at h2
          have h3 : b * D < D ^ E * D := Nat.mul_lt_mul_of_pos_right HBB.out D_pos
          omega
        have hVD : Hid (V < D ^ 1000000) := by
          show _ < _
          have := hbD2.out D (Nat.le_refl _)
          rw [Nat.mul_comm] at this
          exact Nat.lt_trans hVb.out this
        clear c7 f7 ca fa cb fb c1 nR h7 hI
        go_wp2_with fail
        go_loopw [9, 10] (fun l h wi => ∃ (lo hi : Nat), l = .int .i64 lo ∧ h = .int .i64 hi ∧ lo < hi ∧ hi ≤ 10000 ∧ Hid (b * lo ≤ V) ∧ Hid (V < b * hi) ∧ wc.grownBy wi none) (fun l h _ => ((intOf h) - (intOf l)).toNat)
        case atStart => exact ⟨0, 10000, rfl, rfl, by omega, by omega, by show _ ≤ _; omega, by show _ < _; rw [Nat.mul_comm]; exact hVb.out, grown_refl _ _⟩
        case round =>
          obtain ⟨lo, hi, rfl, rfl, hlt, hh, hlo, hhi, hgi⟩ := hrel
          have h77 := heap_kept hgi h76
          have hG7 := grown_trans hG6 hgi
          obtain ⟨c7, f7⟩ := box_cell h77
          obtain ⟨cb, fb⟩ := box_cell (heap_kept hG7 hb2)
          have nb7 := nb6.kept hgi
          have n7 := n6.kept hgi
          by_cases h1 : 1 < hi - lo
          · obtain ⟨mid, hm⟩ : ∃ mid, (lo + hi) / 2 = mid := ⟨_, rfl⟩
            have em : ((lo : Int) + (hi : Int)) / 2 = (mid : Int) := by omega
            have f1 : decide ((1 : Int) < (hi : Int) - (lo : Int)) = true := decide_eq_true (by omega)
            obtain ⟨hml, hmh⟩ := bin_step h1 hm
            obtain ⟨c, hc⟩ : ∃ c, cmpInt (b * mid) V = c := ⟨_, rfl⟩
            have HC := Lib.hid hc
            have key : (decide (c ≤ 0) = true ∧ b * mid ≤ V) ∨ (decide (c ≤ 0) = false ∧ V < b * mid) := by
              rcases Nat.lt_trichotomy (b * mid) V with q | q | q
              · left; rw [← hc, cmpInt_lt q]; exact ⟨by decide, by omega⟩
              · left; rw [← hc, cmpInt_eq q]; exact ⟨by decide, by omega⟩
              · right; rw [← hc, cmpInt_gt q]; exact ⟨by decide, q⟩
            have hmD : Hid (b * mid < D ^ 1000000) := hbD2.out mid (by unfold D; omega)
            clear hc hm
            rcases key with ⟨fc, hkey⟩ | ⟨fc, hkey⟩
            · have HK := Lib.hid hkey
              clear hkey
              go_wp2_with fail
              go_region_held3 (fun w' => w'.cell? ⟨w.heap.size + 1, 0, none⟩ = some (.slice sb m cy) ∧ w'.cell? ⟨b7, 0, none⟩ = some (.slice s6 k6 c6))
                (first | assumption | exact ⟨cb, c7⟩ | go_keep)
                (first
                  | (go_at_call 64; (with_reducible refine (rSmall_any wr.drew _ b mid (nb7.kept (grown_drew (grown_refl _ _))) hbD.out (by omega)).mono ?_); rintro e w8 ⟨v8, rfl, n8, g8⟩; have hG8 := grown_pre wr g8 rfl rfl rfl rfl; have hS8 := And.intro (hG8.cell cb (by simp)) (hG8.cell c7 (by simp)))
                  | (go_at_call 32; (with_reducible refine (rCmp_any w8 _ _ (b * mid) V n8 (n7.kept hG8) hmD.out hVD.out).mono ?_); rintro e w9 ⟨rfl, g9⟩; rw [HC.out]; have hG9 := grown_trans hG8 g9; have hS9 := And.intro (hG9.cell cb (by simp)) (hG9.cell c7 (by simp))))
              go_wp2_with fail
              go_roundw
              case rel => exact ⟨mid, hi, rfl, rfl, hmh, hh, HK, hhi, grown_trans hgi hG9⟩
              case measure => simp [intOf]; omega
            · have HK := Lib.hid hkey
              clear hkey
              go_wp2_with fail
              go_region_held3 (fun w' => w'.cell? ⟨w.heap.size + 1, 0, none⟩ = some (.slice sb m cy) ∧ w'.cell? ⟨b7, 0, none⟩ = some (.slice s6 k6 c6))
                (first | assumption | exact ⟨cb, c7⟩ | go_keep)
                (first
                  | (go_at_call 64; (with_reducible refine (rSmall_any wr.drew _ b mid (nb7.kept (grown_drew (grown_refl _ _))) hbD.out (by omega)).mono ?_); rintro e w8 ⟨v8, rfl, n8, g8⟩; have hG8 := grown_pre wr g8 rfl rfl rfl rfl; have hS8 := And.intro (hG8.cell cb (by simp)) (hG8.cell c7 (by simp)))
                  | (go_at_call 32; (with_reducible refine (rCmp_any w8 _ _ (b * mid) V n8 (n7.kept hG8) hmD.out hVD.out).mono ?_); rintro e w9 ⟨rfl, g9⟩; rw [HC.out]; have hG9 := grown_trans hG8 g9; have hS9 := And.intro (hG9.cell cb (by simp)) (hG9.cell c7 (by simp))))
              go_wp2_with fail
              go_roundw
              case rel => exact ⟨lo, mid, rfl, rfl, hml, by omega, hlo, HK, grown_trans hgi hG9⟩
              case measure => simp [intOf]; omega
          · have hhe : hi = lo + 1 := by omega
            have f1 : decide ((1 : Int) < (hi : Int) - (lo : Int)) = false := decide_eq_false (by omega)
            have hhi2 : Hid (V < b * (lo + 1)) := by show _ < _; rw [← hhe]; exact hhi.out
            have hlo9 : lo ≤ 10000 := by omega
            have hloD : lo < 10000 := by omega
            clear hhe h1
            have hIr := hI6.kept hgi
            have c8 := hIr.cell (n := n) (by rw [List.length_append, List.length_replicate, hhl.out]; omega) k (by omega)
            have f8 := hIr.frozen k
            have hI8 := hIr.set k lo
            rw [set_rep] at hI8
            have hgA : wA.heap.size ≤ g := by omega
            have hG8 := grown_new hG7 (grown_set (grown_refl wr (some g)) k (.int .i64 (lo : Int))) hgA
            have h78 : (wr.setCell ⟨g, k, none⟩ (.int .i64 (lo : Int))).heap[b7]? = some (.cells #[.slice s6 k6 c6] 34 (0, 0)) := (Below.heap_setCell _ _ _ _ (by simp; omega)).trans h77
            have n8 : RefV (wr.setCell ⟨g, k, none⟩ (.int .i64 (lo : Int))) (.agg #[.slice s6 k6 c6]) V := ⟨s6, k6, c6, rs, rfl, hrl, hrc, ((hfar.kept hgi).setCell k _).rd, trs, drs, hrv⟩
            have hvn : Hid (val D (lo :: hs) * b + (V - b * lo) = val D (xs.drop k)) := by
              show _ = _
              rw [val_drop xs k (by rw [Hn.out]; omega), EX.out, ← hV]
              exact div_step hv.out (by rw [Nat.mul_comm, hV]; exact hlo.out)
            have hRn : Hid (V - b * lo < b) := by
              show _ < _
              have := hhi2.out
              rw [Nat.mul_add] at this
              have := hlo.out
              omega
            have hln : Hid ((lo :: hs).length = n - k) := by show _ = _; rw [List.length_cons, hhl.out]; omega
            have hhd2 : Dig D (lo :: hs) := Dig.cons (show lo < D by unfold D; omega) hhd
            clear hIr nb7 n7 c7 f7 cb fb hV hv hRb hhl hfar hrl hrc trs drs hrv n6 nb6 hI6 h76 h77
            go_wp2_with fail
            generalize (wr.setCell ⟨g, k, none⟩ (.int .i64 (lo : Int))) = W8 at *
            obtain ⟨c78, f78⟩ := box_cell h78
            obtain ⟨cb8, fb8⟩ := box_cell (heap_kept hG8 hb2)
            have nb8 := nbA.kept hG8
            have HM2 : Hid (∀ (w6 : World) (s : Option Addr) (k' c' : Nat), W8.grownBy w6 none → RefV w6 (.agg #[.slice s k' c']) (V - b * lo) → Cut14 wA g b7 (V - b * lo) (List.replicate k 0 ++ lo :: hs) (w6.setCell ⟨b7, 0, none⟩ (.slice s k' c'))) := fun w6 s k' c' q1 q2 => cut14_mk hI8 hG8 h78 (by omega) hAsz q1 q2
            have H78 := Lib.hid h78
            clear hI8 hG8 h78
            go_region_with (first
              | (go_at_call 64; (with_reducible refine (rSmall_any W8.drew _ b lo (nb8.kept (grown_drew (grown_refl _ _))) hbD.out hlo9).mono ?_); rintro e w9 ⟨v9, rfl, n9, g9⟩; have hG9 := grown_pre W8 g9 rfl rfl rfl rfl; (obtain ⟨c79, f79⟩ := box_cell (heap_kept hG9 H78.out)))
              | (go_at_call 65; (with_reducible refine (rLess_any w9 _ _ V (b * lo) (n8.kept hG9) n9 hlo.out hVD.out).mono ?_); rintro e w10 ⟨v10, rfl, ⟨s10, k10, c10, z10, rfl, n10⟩, g10⟩; have hG10 := grown_trans hG9 g10; (obtain ⟨c710, f710⟩ := box_cell (heap_kept hG10 H78.out))))
            all_goals (
              obtain ⟨hB9, hI9, hG9'⟩ := HM2.out w10 s10 k10 c10 hG10 ⟨s10, k10, c10, z10, rfl, n10⟩
              clear c78 f78 cb8 fb8 nb8 n8 c8 f8 n9 n10 g9 g10 hG9 hG10 c79 f79 c710 f710
              go_wp2_with fail
              go_roundw
              case rel => exact ⟨k, lo :: hs, V - b * lo, by omega, by go_num, hln, hhd2, hI9, hB9, hRn, hvn, hG9'⟩
              case measure => simp [intOf])
theorem Boxed.cell {w : World} {b n : Nat} (h : Boxed w b n) : ∃ s k c, w.heap[b]? = some (.cells #[.slice s k c] 34 (0, 0)) ∧ RefV w (.agg #[.slice s k c]) n := h
theorem Boxed.kept {w w' : World} {b n : Nat} (h : Boxed w b n) (hg : w.grownBy w' none) : Boxed w' b n := by
  obtain ⟨s, k, c, h1, h2⟩ := h
  exact ⟨s, k, c, heap_kept hg h1, h2.kept hg⟩
theorem Boxed.unset {w : World} {b g n : Nat} {c : Array Value} {t : TypeId} (h : Boxed w b n) (hb : b ≠ g) (hbox : w.heap[g]? = some (.cells c t (0, 0))) (ht : t ≠ 3) (v : Value) : Boxed (w.setCell ⟨g, 0, none⟩ v) b n := by
  obtain ⟨s, k, c, h1, h2⟩ := h
  exact ⟨s, k, c, heap_unset h1 hb v, h2.set_other hbox ht 0 v⟩
theorem Boxed.set {w : World} {b n : Nat} {u : Value} {s : Option Addr} {k c : Nat} (h : w.heap[b]? = some (.cells #[u] 34 (0, 0))) (hv : RefV w (.agg #[.slice s k c]) n) : Boxed (w.setCell ⟨b, 0, none⟩ (.slice s k c)) b n :=
  ⟨s, k, c, heap_set h _, hv.set_other h (by decide) 0 _⟩
end Go.Proofs.YtldkddogadmpbaaGreatDoor
namespace Go.Proofs.YtldkddogadmpbaaGreatDoor
open Go.RowKit Mat
set_option maxRecDepth 100000
set_option linter.unusedVariables false
set_option linter.unusedSimpArgs false
def RetRInt2 (w : World) (n k : Int) (e : Ending) (w' : World) : Prop := ∃ v u, e = .returned (.tuple #[v, u]) ∧ RIntV w' v n ∧ RIntV w' u k ∧ w.grownBy w' none
theorem RIntV.set2 {w : World} {v : Value} {n : Int} {g : Nat} {a0 a1 : Value} (h : RIntV w v n) (hbox : w.heap[g]? = some (.cells #[a0, a1] 36 (0, 0))) (v0 v1 : Value) : RIntV ((w.setCell ⟨g, 0, none⟩ v0).setCell ⟨g, 1, none⟩ v1) v n :=
  (h.set_other hbox (by decide) 0 v0).set_other (heap_setfst hbox v0) (by decide) 1 v1
theorem ret_rint2 {w w' : World} {x y : Int} {g : Nat} {c0 c1 d0 d1 u0 u1 t0 t1 : Value} (hg : w.grownBy w' none) (hb1 : w'.heap[g]? = some (.cells #[c0, c1] 36 (0, 0))) (hb2 : w'.heap[g + 1]? = some (.cells #[d0, d1] 36 (0, 0))) (hl : w.heap.size ≤ g) (h1 : RIntV w' (.agg #[u0, u1]) x) (h2 : RIntV w' (.agg #[t0, t1]) y) :
    RetRInt2 w x y (.returned (.tuple #[.agg #[u0, u1], .agg #[t0, t1]])) ((((w'.setCell ⟨g, 0, none⟩ u0).setCell ⟨g, 1, none⟩ u1).setCell ⟨g + 1, 0, none⟩ t0).setCell ⟨g + 1, 1, none⟩ t1) := by
  have hb2' := heap_unset2 hb2 (show g + 1 ≠ g by omega) u0 u1
  exact ⟨_, _, rfl, (h1.set2 hb1 u0 u1).set2 hb2' t0 t1, (h2.set2 hb1 u0 u1).set2 hb2' t0 t1, grown_two (grown_two hg hl u0 u1) (by omega) t0 t1⟩
theorem d4_d6 {a : Nat} (h : a < D ^ 400000) : a < D ^ 1000000 := by
  obtain ⟨E, hE⟩ : ∃ E, E = 1000000 := ⟨_, rfl⟩
  obtain ⟨M, hM⟩ : ∃ M, M = 400000 := ⟨_, rfl⟩
  rw [← hE]; rw [← hM] at h
  exact Nat.lt_of_lt_of_le h (Nat.pow_le_pow_right D_pos (by omega))
theorem floor_made {x y : Int} (k r : Nat) (hr : r < y.natAbs) (h : (¬ x < 0 ∧ y.natAbs * k + r = x.natAbs) ∨ (x < 0 ∧ y.natAbs * k = x.natAbs + r)) :
    (x / y).natAbs = k ∧ (k = 0 ∨ (x / y).sign = (x * y).sign) ∧ (x % y) = (r : Int) := by
  have hf := floor_far (x := x) (y := y) (za := decide (x < 0)) (zb := decide (y < 0)) (by simp) (by simp) k r hr h
  obtain ⟨e1, e2⟩ := hf
  refine ⟨?_, ?_, e2.symm⟩
  · rw [← e1]; split <;> omega
  · rcases Nat.eq_zero_or_pos k with h0 | h0
    · exact Or.inl h0
    · right
      have hk : 0 < y.natAbs * k := Nat.mul_pos (by omega) h0
      rw [← e1, Int.sign_mul]
      rcases zsign x with ⟨h1, g1⟩ | ⟨h1, g1⟩ | ⟨h1, g1⟩
      · rcases zsign y with ⟨h2, g2⟩ | ⟨h2, g2⟩ | ⟨h2, g2⟩
        · rw [g1, g2, decide_eq_true h1, decide_eq_true h2, if_neg (by decide)]; exact Int.sign_eq_one_of_pos (by omega)
        · omega
        · rw [g1, g2, decide_eq_true h1, decide_eq_false (by omega), if_pos (by decide)]; exact Int.sign_eq_neg_one_of_neg (by omega)
      · omega
      · rcases zsign y with ⟨h2, g2⟩ | ⟨h2, g2⟩ | ⟨h2, g2⟩
        · rw [g1, g2, decide_eq_false (show ¬ x < 0 by omega), decide_eq_true h2, if_pos (by decide)]; exact Int.sign_eq_neg_one_of_neg (by omega)
        · omega
        · rw [g1, g2, decide_eq_false (show ¬ x < 0 by omega), decide_eq_false (show ¬ y < 0 by omega), if_neg (by decide)]; exact Int.sign_eq_one_of_pos (by omega)
end Go.Proofs.YtldkddogadmpbaaGreatDoor
namespace Go.Proofs.YtldkddogadmpbaaGreatDoor
open Go.RowKit Mat
set_option maxRecDepth 100000
set_option linter.unusedVariables false
set_option linter.unusedSimpArgs false
def RQ (w : World) (v : Value) (r : Rat) (E : Nat) : Prop := ∃ (g : Int) (s : Option Addr) (l c : Nat) (g' : Int) (s' : Option Addr) (l' c' : Nat) (n d : Int), v = .agg #[.int .i64 g, .slice s l c, .int .i64 g', .slice s' l' c'] ∧ RIntV w (.agg #[.int .i64 g, .slice s l c]) n ∧ RIntV w (.agg #[.int .i64 g', .slice s' l' c']) d ∧ Hid (0 < d ∧ Rat.divInt n d = r ∧ n.natAbs < D ^ E ∧ d.natAbs < D ^ E)
theorem RQ.kept {w w' : World} {v : Value} {r : Rat} {E : Nat} (h : RQ w v r E) (hg : w.grownBy w' none) : RQ w' v r E := by
  obtain ⟨g, s, l, c, g', s', l', c', n, d, e, h1, h2, h3⟩ := h
  exact ⟨g, s, l, c, g', s', l', c', n, d, e, h1.kept hg, h2.kept hg, h3⟩
theorem dpw {a E M : Nat} (h : a < D ^ E) (hE : E ≤ M) : a < D ^ M := Nat.lt_of_lt_of_le h (Nat.pow_le_pow_right D_pos hE)
theorem dp6 {a E : Nat} (h : a < D ^ E) (hE : E ≤ 1000000) : a < D ^ 1000000 := by
  obtain ⟨M, hM⟩ : ∃ M, M = 1000000 := ⟨_, rfl⟩
  rw [← hM] at hE ⊢
  exact dpw h hE
theorem dp4 {a E : Nat} (h : a < D ^ E) (hE : E ≤ 400000) : a < D ^ 400000 := by
  obtain ⟨M, hM⟩ : ∃ M, M = 400000 := ⟨_, rfl⟩
  rw [← hM] at hE ⊢
  exact dpw h hE
theorem RQ.mono {w : World} {v : Value} {r : Rat} {E M : Nat} (h : RQ w v r E) (hE : E ≤ M) : RQ w v r M := by
  obtain ⟨g, s, l, c, g', s', l', c', n, d, e, h1, h2, h3, h4, h5, h6⟩ := h
  exact ⟨g, s, l, c, g', s', l', c', n, d, e, h1, h2, h3, h4, dpw h5 hE, dpw h6 hE⟩
theorem RIntV.set4 {w : World} {v : Value} {n : Int} {g : Nat} {a0 a1 a2 a3 : Value} (h : RIntV w v n) (hbox : w.heap[g]? = some (.cells #[a0, a1, a2, a3] 38 (0, 0))) (v0 v1 v2 v3 : Value) : RIntV ((((w.setCell ⟨g, 0, none⟩ v0).setCell ⟨g, 1, none⟩ v1).setCell ⟨g, 2, none⟩ v2).setCell ⟨g, 3, none⟩ v3) v n := by
  have k1 : (w.setCell ⟨g, 0, none⟩ v0).heap[g]? = some (.cells #[v0, a1, a2, a3] 38 (0, 0)) := by simp [World.setCell, Array.getElem?_modify, hbox]
  have k2 : ((w.setCell ⟨g, 0, none⟩ v0).setCell ⟨g, 1, none⟩ v1).heap[g]? = some (.cells #[v0, v1, a2, a3] 38 (0, 0)) := by simp [World.setCell, Array.getElem?_modify, hbox]
  have k3 : (((w.setCell ⟨g, 0, none⟩ v0).setCell ⟨g, 1, none⟩ v1).setCell ⟨g, 2, none⟩ v2).heap[g]? = some (.cells #[v0, v1, v2, a3] 38 (0, 0)) := by simp [World.setCell, Array.getElem?_modify, hbox]
  exact (((h.set_other hbox (by decide) 0 v0).set_other k1 (by decide) 1 v1).set_other k2 (by decide) 2 v2).set_other k3 (by decide) 3 v3
theorem RQ.set4 {w : World} {v : Value} {r : Rat} {E : Nat} {g : Nat} {a0 a1 a2 a3 : Value} (h : RQ w v r E) (hbox : w.heap[g]? = some (.cells #[a0, a1, a2, a3] 38 (0, 0))) (v0 v1 v2 v3 : Value) : RQ ((((w.setCell ⟨g, 0, none⟩ v0).setCell ⟨g, 1, none⟩ v1).setCell ⟨g, 2, none⟩ v2).setCell ⟨g, 3, none⟩ v3) v r E := by
  obtain ⟨g, s, l, c, g', s', l', c', n, d, e, h1, h2, h3⟩ := h
  exact ⟨g, s, l, c, g', s', l', c', n, d, e, h1.set4 hbox _ _ _ _, h2.set4 hbox _ _ _ _, h3⟩
def RetRQ (w : World) (r : Rat) (E : Nat) (e : Ending) (w' : World) : Prop := ∃ v, e = .returned v ∧ RQ w' v r E ∧ w.grownBy w' none
def RetRQE (w : World) (r : Rat) (E : Nat) (code : Int) (e : Ending) (w' : World) : Prop := ∃ v, e = .returned (.tuple #[v, .int .i64 code]) ∧ RQ w' v r E ∧ w.grownBy w' none
theorem ret_rq {w w' : World} {r : Rat} {E g : Nat} {a0 a1 a2 a3 v0 v1 v2 v3 : Value} (hg : w.grownBy w' none) (hbox : w'.heap[g]? = some (.cells #[a0, a1, a2, a3] 38 (0, 0))) (hl : w.heap.size ≤ g) (h : RQ w' (.agg #[v0, v1, v2, v3]) r E) :
    RetRQ w r E (.returned (.agg #[v0, v1, v2, v3])) ((((w'.setCell ⟨g, 0, none⟩ v0).setCell ⟨g, 1, none⟩ v1).setCell ⟨g, 2, none⟩ v2).setCell ⟨g, 3, none⟩ v3) :=
  ⟨_, rfl, h.set4 hbox _ _ _ _, grown_set4 hg hl _ _ _ _⟩
theorem ret_rqE {w w' : World} {r : Rat} {E : Nat} {code : Int} {g : Nat} {a0 a1 a2 a3 v0 v1 v2 v3 : Value} (hg : w.grownBy w' none) (hbox : w'.heap[g]? = some (.cells #[a0, a1, a2, a3] 38 (0, 0))) (hl : w.heap.size ≤ g) (h : RQ w' (.agg #[v0, v1, v2, v3]) r E) :
    RetRQE w r E code (.returned (.tuple #[.agg #[v0, v1, v2, v3], .int .i64 code])) ((((w'.setCell ⟨g, 0, none⟩ v0).setCell ⟨g, 1, none⟩ v1).setCell ⟨g, 2, none⟩ v2).setCell ⟨g, 3, none⟩ v3) :=
  ⟨_, rfl, h.set4 hbox _ _ _ _, grown_set4 hg hl _ _ _ _⟩
theorem RQ.of {w : World} {g g' : Int} {s s' : Option Addr} {l c l' c' : Nat} {n d : Int} {r : Rat} {E : Nat} (h1 : RIntV w (.agg #[.int .i64 g, .slice s l c]) n) (h2 : RIntV w (.agg #[.int .i64 g', .slice s' l' c']) d) (h3 : 0 < d) (h4 : Rat.divInt n d = r) (h5 : n.natAbs < D ^ E) (h6 : d.natAbs < D ^ E) : RQ w (.agg #[.int .i64 g, .slice s l c, .int .i64 g', .slice s' l' c']) r E :=
  ⟨g, s, l, c, g', s', l', c', n, d, rfl, h1, h2, h3, h4, h5, h6⟩
theorem dmul_bd {x y : Int} {E F : Nat} (hx : x.natAbs < D ^ E) (hy : y.natAbs < D ^ F) : (x * y).natAbs < D ^ (E + F) := by
  rw [Int.natAbs_mul, Nat.pow_add]; exact Nat.mul_lt_mul'' hx hy
theorem dadd_bd {x y : Int} {E : Nat} (hx : x.natAbs < D ^ E) (hy : y.natAbs < D ^ E) : (x + y).natAbs < D ^ (E + 1) := by
  have h1 := Int.natAbs_add_le x y
  rw [Nat.pow_succ]
  have h2 : D ^ E * 2 ≤ D ^ E * D := Nat.mul_le_mul_left _ (by unfold D; omega)
  omega
theorem dneg_bd {x : Int} {E : Nat} (hx : x.natAbs < D ^ E) : (-x).natAbs < D ^ E := by rw [Int.natAbs_neg]; exact hx
theorem rq_add {n d m e : Int} {r t : Rat} (hd : 0 < d) (he : 0 < e) (h1 : Rat.divInt n d = r) (h2 : Rat.divInt m e = t) : Rat.divInt (n * e + m * d) (d * e) = r + t := by
  rw [← h1, ← h2, Rat.divInt_add_divInt _ _ (by omega) (by omega)]
theorem rq_add1 {n d m : Int} {r t : Rat} (hd : 0 < d) (h1 : Rat.divInt n d = r) (h2 : Rat.divInt m d = t) : Rat.divInt (n + m) d = r + t := by
  rw [← rq_add hd hd h1 h2, ← Int.add_mul, Rat.divInt_mul_right (by omega)]
theorem rq_neg {n d : Int} {r : Rat} (h1 : Rat.divInt n d = r) : Rat.divInt (-n) d = -r := by rw [← h1, Rat.neg_divInt]
theorem rq_mul {n d m e : Int} {r t : Rat} (h1 : Rat.divInt n d = r) (h2 : Rat.divInt m e = t) : Rat.divInt (n * m) (d * e) = r * t := by
  rw [← h1, ← h2, Rat.divInt_mul_divInt]
theorem rq_div {n d m e : Int} {r t : Rat} (h1 : Rat.divInt n d = r) (h2 : Rat.divInt m e = t) : Rat.divInt (n * e) (d * m) = r / t := by
  rw [← h1, ← h2, Rat.div_def, Rat.inv_divInt, Rat.divInt_mul_divInt]
theorem rq_num_ne {n d : Int} {r : Rat} (h : Rat.divInt n d = r) (h0 : r ≠ 0) : n ≠ 0 := fun e => h0 (by rw [← h, e, Rat.zero_divInt])
theorem rq_sign {n d : Int} {r : Rat} (hd : 0 < d) (h1 : Rat.divInt n d = r) : n.sign = r.num.sign := by
  have h := rsg_divInt (n := n) hd
  rw [h1] at h; exact h.symm
set_option maxHeartbeats 16000000 in
theorem rQOf_any (w : World) (n : Int) (h1 : -9223372036854775808 ≤ n) (h2 : n ≤ 9223372036854775807) :
    Calls Tryz.prog 17 #[.int .i64 n] w (RetRQ w (n : Rat) 5) := by
  have HN : Hid (-9223372036854775808 ≤ n ∧ n ≤ 9223372036854775807) := ⟨h1, h2⟩
  have HF : Hid ((0 : Int) < 1 ∧ Rat.divInt n 1 = (n : Rat) ∧ n.natAbs < D ^ 5 ∧ (1 : Int).natAbs < D ^ 5) := ⟨by decide, by rw [show (1 : Int) = ((1 : Nat) : Int) from rfl, Rat.divInt_ofNat]; exact Rat.mkRat_self (n : Rat), by unfold D; omega, by unfold D; decide⟩
  clear h1 h2
  have hG : w.grownBy (w.alloc (.cells #[.int .i64 0, .slice none 0 0, .int .i64 0, .slice none 0 0] 38)) none := (World.grownBy_alloc _ _ _)
  have Bq := (heap_new w (.cells #[.int .i64 0, .slice none 0 0, .int .i64 0, .slice none 0 0] 38) (w.heap.size) rfl)
  go_enter Tryz.func17, Tryz.ntmps17
  obtain ⟨Cq0, Cq1, Cq2, Cq3, Fq0, Fq1, Fq2, Fq3⟩ := box_cells4 Bq
  go_wp2_with fail
  generalize (w.alloc (.cells #[.int .i64 0, .slice none 0 0, .int .i64 0, .slice none 0 0] 38)) = w0 at *
  clear Cq0 Fq0 Cq1 Fq1 Cq2 Fq2 Cq3 Fq3
  refine (rZOf_any w0 n HN.out.1 HN.out.2).mono ?_
  rintro e w1 ⟨_, rfl, ⟨ga, sa, la, ca, rfl, ha, ma⟩, gw1⟩
  have ra : RIntV w1 (.agg #[.int .i64 ga, .slice sa la ca]) (n) := ⟨ga, sa, la, ca, rfl, ha, ma⟩
  replace Bq := heap_kept gw1 Bq
  replace hG := grown_trans hG gw1
  clear gw1
  clear ma
  obtain ⟨Cq0, Cq1, Cq2, Cq3, Fq0, Fq1, Fq2, Fq3⟩ := box_cells4 Bq
  go_wp2_with fail
  clear Cq0 Fq0 Cq1 Fq1 Cq2 Fq2 Cq3 Fq3
  refine (rZOf_any w1 1 (by omega) (by omega)).mono ?_
  rintro e w2 ⟨_, rfl, ⟨gb, sb, lb, cb, rfl, hb, mb⟩, gw2⟩
  have rb : RIntV w2 (.agg #[.int .i64 gb, .slice sb lb cb]) (1) := ⟨gb, sb, lb, cb, rfl, hb, mb⟩
  replace Bq := heap_kept gw2 Bq
  replace ra := ra.kept gw2
  replace hG := grown_trans hG gw2
  clear gw2
  clear mb
  obtain ⟨Cq0, Cq1, Cq2, Cq3, Fq0, Fq1, Fq2, Fq3⟩ := box_cells4 Bq
  have yd : RQ w2 (.agg #[.int .i64 ga, .slice sa la ca, .int .i64 gb, .slice sb lb cb]) (n : Rat) 5 := RQ.of ra rb HF.out.1 HF.out.2.1 HF.out.2.2.1 HF.out.2.2.2
  clear Cq0 Fq0 Cq1 Fq1 Cq2 Fq2 Cq3 Fq3
  obtain ⟨k90, k91, k92, k93, k94, k95, k96, k97⟩ := box_cells4 Bq
  obtain ⟨q90, q91, q92, q93, q94, q95, q96, q97⟩ := box_cells4 (heap_set4 Bq (.int .i64 ga) (.slice sa la ca) (.int .i64 gb) (.slice sb lb cb))
  have hF : Hid (RetRQ w (n : Rat) 5 (.returned (.agg #[.int .i64 ga, .slice sa la ca, .int .i64 gb, .slice sb lb cb])) ((((w2.setCell ⟨w.heap.size, 0, none⟩ (.int .i64 ga)).setCell ⟨w.heap.size, 1, none⟩ (.slice sa la ca)).setCell ⟨w.heap.size, 2, none⟩ (.int .i64 gb)).setCell ⟨w.heap.size, 3, none⟩ (.slice sb lb cb))) := ret_rq hG Bq (by omega) yd
  clear ra rb yd
  go_wp2_with fail
  exact bodyPost_ret (v := .agg #[.int .i64 ga, .slice sa la ca, .int .i64 gb, .slice sb lb cb]) (by simp [results, Tryz.results17, go_sem, q90, q91, q92, q93]) rfl hF.out
set_option maxHeartbeats 16000000 in
theorem rQMake_any (w : World) (va vb : Value) (x y : Int) (E : Nat) (Ha : RIntV w va x) (Hb : RIntV w vb y) (h0 : y ≠ 0) (la : x.natAbs < D ^ E) (lb : y.natAbs < D ^ E) :
    Calls Tryz.prog 18 #[va, vb] w (RetRQ w (Rat.divInt x y) E) := by
  have Hla := Lib.hid la
  have Hlb := Lib.hid lb
  clear la lb
  by_cases hy : y < 0
  · skip
    obtain ⟨R, hR⟩ : ∃ R, Rat.divInt x y = R := ⟨_, rfl⟩
    have HF : Hid ((0 : Int) < -y ∧ Rat.divInt (-x) (-y) = R ∧ (-x).natAbs < D ^ E ∧ (-y).natAbs < D ^ E) := ⟨by omega, (Rat.neg_divInt_neg x y).trans hR, dneg_bd Hla.out, dneg_bd Hlb.out⟩
    rw [hR]
    have HYS : Hid (y.sign = -1) := Int.sign_eq_neg_one_of_neg hy
    clear hR hy h0
    obtain ⟨ga, sa, la, ca, rfl, ha, ma⟩ := Ha
    obtain ⟨gb, sb, lb, cb, rfl, hb, mb⟩ := Hb
    have hgb := hb.out.trans HYS.out
    skip
    have Ha : RIntV w (.agg #[.int .i64 ga, .slice sa la ca]) x := ⟨_, _, _, _, rfl, ha, ma⟩
    have Hb : RIntV w (.agg #[.int .i64 gb, .slice sb lb cb]) y := ⟨_, _, _, _, rfl, hb, mb⟩
    rw [hgb] at Hb ⊢
    have HGB := Lib.hid hgb
    clear hgb ha ma hb mb
    skip
    have hG : w.grownBy (((w.alloc (.cells #[.int .i64 ga, .slice sa la ca] 36)).alloc (.cells #[.int .i64 (-1), .slice sb lb cb] 36)).alloc (.cells #[.int .i64 0, .slice none 0 0, .int .i64 0, .slice none 0 0] 38)) none := (grown_alloc (grown_alloc (World.grownBy_alloc _ _ _) _) _)
    have Ba := heap_kept (grown_alloc (World.grownBy_alloc _ (.cells #[.int .i64 (-1), .slice sb lb cb] 36) none) (.cells #[.int .i64 0, .slice none 0 0, .int .i64 0, .slice none 0 0] 38)) (heap_new w (.cells #[.int .i64 ga, .slice sa la ca] 36) (w.heap.size) rfl)
    have Bb := heap_kept (World.grownBy_alloc _ (.cells #[.int .i64 0, .slice none 0 0, .int .i64 0, .slice none 0 0] 38) none) (heap_new (w.alloc (.cells #[.int .i64 ga, .slice sa la ca] 36)) (.cells #[.int .i64 (-1), .slice sb lb cb] 36) (w.heap.size + 1) (by simp))
    have Bq := heap_new ((w.alloc (.cells #[.int .i64 ga, .slice sa la ca] 36)).alloc (.cells #[.int .i64 (-1), .slice sb lb cb] 36)) (.cells #[.int .i64 0, .slice none 0 0, .int .i64 0, .slice none 0 0] 38) (w.heap.size + 1 + 1) (by simp)
    have ra := Ha.kept hG
    have rb := Hb.kept hG
    go_enter Tryz.func18, Tryz.ntmps18
    obtain ⟨Ca0, Ca1, Fa0, Fa1⟩ := box_cells Ba
    obtain ⟨Cb0, Cb1, Fb0, Fb1⟩ := box_cells Bb
    obtain ⟨Cq0, Cq1, Cq2, Cq3, Fq0, Fq1, Fq2, Fq3⟩ := box_cells4 Bq
    clear Ha Hb
    go_wp2_with fail
    generalize (((w.alloc (.cells #[.int .i64 ga, .slice sa la ca] 36)).alloc (.cells #[.int .i64 (-1), .slice sb lb cb] 36)).alloc (.cells #[.int .i64 0, .slice none 0 0, .int .i64 0, .slice none 0 0] 38)) = w0 at *
    go_region_held3 (fun w' => w'.cell? ⟨w.heap.size, 0, none⟩ = some (.int .i64 ga) ∧ w'.cell? ⟨w.heap.size, 1, none⟩ = some (.slice sa la ca) ∧ w'.cell? ⟨w.heap.size + 1, 0, none⟩ = some (.int .i64 (-1)) ∧ w'.cell? ⟨w.heap.size + 1, 1, none⟩ = some (.slice sb lb cb))
      (first | assumption | exact ⟨Ca0, Ca1, Cb0, Cb1⟩ | exact HSm1w1_20 | go_keep)
      (first
        | (go_at_call 49; (with_reducible refine (rNeg_any w0.drew _ x (ra.kept (grown_drew (grown_refl _ _)))).mono ?_); rintro e m1w1_1 ⟨_, rfl, ⟨gd, sd, ld, cd, rfl, hd, md⟩, gm1w1_1⟩; have hGm1w1_1 := grown_pre w0 gm1w1_1 rfl rfl rfl rfl; have rd : RIntV m1w1_1 (.agg #[.int .i64 gd, .slice sd ld cd]) (-x) := ⟨gd, sd, ld, cd, rfl, hd, md⟩; have hSm1w1_1 := (And.intro (hGm1w1_1.cell Ca0 (by simp)) (And.intro (hGm1w1_1.cell Ca1 (by simp)) (And.intro (hGm1w1_1.cell Cb0 (by simp)) (hGm1w1_1.cell Cb1 (by simp))))); clear gm1w1_1; clear md)
        | (go_at_call 49; (with_reducible refine (rNeg_any m1w1_1 _ y (rb.kept hGm1w1_1)).mono ?_); rintro e m1w1_2 ⟨_, rfl, ⟨ge, se, le, ce, rfl, he, me⟩, gm1w1_2⟩; have hGm1w1_2 := grown_trans hGm1w1_1 gm1w1_2; replace rd := rd.kept gm1w1_2; have re : RIntV m1w1_2 (.agg #[.int .i64 ge, .slice se le ce]) (-y) := ⟨ge, se, le, ce, rfl, he, me⟩; have hSm1w1_2 := (And.intro (hGm1w1_2.cell Ca0 (by simp)) (And.intro (hGm1w1_2.cell Ca1 (by simp)) (And.intro (hGm1w1_2.cell Cb0 (by simp)) (hGm1w1_2.cell Cb1 (by simp))))); clear gm1w1_2; clear me; (obtain ⟨dq0, dq1, dq2, dq3, dq4, dq5, dq6, dq7⟩ := box_cells4 (heap_kept hGm1w1_2 Bq)); have HSm1w1_20 := (And.intro ((box_cells (heap_unset4 (heap_kept hGm1w1_2 Ba) (show w.heap.size ≠ w.heap.size + 1 + 1 by omega) (.int .i64 gd) (.slice sd ld cd) (.int .i64 ge) (.slice se le ce))).1) (And.intro ((box_cells (heap_unset4 (heap_kept hGm1w1_2 Ba) (show w.heap.size ≠ w.heap.size + 1 + 1 by omega) (.int .i64 gd) (.slice sd ld cd) (.int .i64 ge) (.slice se le ce))).2.1) (And.intro ((box_cells (heap_unset4 (heap_kept hGm1w1_2 Bb) (show w.heap.size + 1 ≠ w.heap.size + 1 + 1 by omega) (.int .i64 gd) (.slice sd ld cd) (.int .i64 ge) (.slice se le ce))).1) ((box_cells (heap_unset4 (heap_kept hGm1w1_2 Bb) (show w.heap.size + 1 ≠ w.heap.size + 1 + 1 by omega) (.int .i64 gd) (.slice sd ld cd) (.int .i64 ge) (.slice se le ce))).2.1))))))
    replace Ba := heap_kept hGm1w1_2 Ba
    replace Bb := heap_kept hGm1w1_2 Bb
    replace Bq := heap_kept hGm1w1_2 Bq
    replace ra := ra.kept hGm1w1_2
    replace rb := rb.kept hGm1w1_2
    replace hG := grown_trans hG hGm1w1_2
    clear Ca0 Fa0 Ca1 Fa1 Cb0 Fb0 Cb1 Fb1 Cq0 Fq0 Cq1 Fq1 Cq2 Fq2 Cq3 Fq3
    have yd : RQ m1w1_2 (.agg #[.int .i64 gd, .slice sd ld cd, .int .i64 ge, .slice se le ce]) R E := RQ.of rd re HF.out.1 HF.out.2.1 HF.out.2.2.1 HF.out.2.2.2
    obtain ⟨k90, k91, k92, k93, k94, k95, k96, k97⟩ := box_cells4 Bq
    obtain ⟨q90, q91, q92, q93, q94, q95, q96, q97⟩ := box_cells4 (heap_set4 Bq (.int .i64 gd) (.slice sd ld cd) (.int .i64 ge) (.slice se le ce))
    have hF : Hid (RetRQ w R E (.returned (.agg #[.int .i64 gd, .slice sd ld cd, .int .i64 ge, .slice se le ce])) ((((m1w1_2.setCell ⟨w.heap.size + 1 + 1, 0, none⟩ (.int .i64 gd)).setCell ⟨w.heap.size + 1 + 1, 1, none⟩ (.slice sd ld cd)).setCell ⟨w.heap.size + 1 + 1, 2, none⟩ (.int .i64 ge)).setCell ⟨w.heap.size + 1 + 1, 3, none⟩ (.slice se le ce))) := ret_rq hG Bq (by omega) yd
    clear ra rb rd re yd
    go_wp2_with fail
    exact bodyPost_ret (v := .agg #[.int .i64 gd, .slice sd ld cd, .int .i64 ge, .slice se le ce]) (by simp [results, Tryz.results18, go_sem, q90, q91, q92, q93]) rfl hF.out
  · skip
    obtain ⟨R, hR⟩ : ∃ R, Rat.divInt x y = R := ⟨_, rfl⟩
    have HF : Hid ((0 : Int) < y ∧ Rat.divInt x y = R ∧ x.natAbs < D ^ E ∧ y.natAbs < D ^ E) := ⟨by omega, hR, Hla.out, Hlb.out⟩
    rw [hR]
    have HYS : Hid (y.sign = 1) := Int.sign_eq_one_of_pos (by omega)
    clear hR hy h0
    obtain ⟨ga, sa, la, ca, rfl, ha, ma⟩ := Ha
    obtain ⟨gb, sb, lb, cb, rfl, hb, mb⟩ := Hb
    have hgb := hb.out.trans HYS.out
    skip
    have Ha : RIntV w (.agg #[.int .i64 ga, .slice sa la ca]) x := ⟨_, _, _, _, rfl, ha, ma⟩
    have Hb : RIntV w (.agg #[.int .i64 gb, .slice sb lb cb]) y := ⟨_, _, _, _, rfl, hb, mb⟩
    rw [hgb] at Hb ⊢
    have HGB := Lib.hid hgb
    clear hgb ha ma hb mb
    skip
    have hG : w.grownBy (((w.alloc (.cells #[.int .i64 ga, .slice sa la ca] 36)).alloc (.cells #[.int .i64 1, .slice sb lb cb] 36)).alloc (.cells #[.int .i64 0, .slice none 0 0, .int .i64 0, .slice none 0 0] 38)) none := (grown_alloc (grown_alloc (World.grownBy_alloc _ _ _) _) _)
    have Ba := heap_kept (grown_alloc (World.grownBy_alloc _ (.cells #[.int .i64 1, .slice sb lb cb] 36) none) (.cells #[.int .i64 0, .slice none 0 0, .int .i64 0, .slice none 0 0] 38)) (heap_new w (.cells #[.int .i64 ga, .slice sa la ca] 36) (w.heap.size) rfl)
    have Bb := heap_kept (World.grownBy_alloc _ (.cells #[.int .i64 0, .slice none 0 0, .int .i64 0, .slice none 0 0] 38) none) (heap_new (w.alloc (.cells #[.int .i64 ga, .slice sa la ca] 36)) (.cells #[.int .i64 1, .slice sb lb cb] 36) (w.heap.size + 1) (by simp))
    have Bq := heap_new ((w.alloc (.cells #[.int .i64 ga, .slice sa la ca] 36)).alloc (.cells #[.int .i64 1, .slice sb lb cb] 36)) (.cells #[.int .i64 0, .slice none 0 0, .int .i64 0, .slice none 0 0] 38) (w.heap.size + 1 + 1) (by simp)
    have ra := Ha.kept hG
    have rb := Hb.kept hG
    go_enter Tryz.func18, Tryz.ntmps18
    obtain ⟨Ca0, Ca1, Fa0, Fa1⟩ := box_cells Ba
    obtain ⟨Cb0, Cb1, Fb0, Fb1⟩ := box_cells Bb
    obtain ⟨Cq0, Cq1, Cq2, Cq3, Fq0, Fq1, Fq2, Fq3⟩ := box_cells4 Bq
    have hG' : w.grownBy (((w.alloc (.cells #[.int .i64 ga, .slice sa la ca] 36)).alloc (.cells #[.int .i64 1, .slice sb lb cb] 36)).alloc (.cells #[.int .i64 ga, .slice sa la ca, .int .i64 1, .slice sb lb cb] 38)) none := (grown_alloc (grown_alloc (World.grownBy_alloc _ _ _) _) _)
    have hF : Hid (RetRQ w R E (.returned (.agg #[.int .i64 ga, .slice sa la ca, .int .i64 1, .slice sb lb cb])) (((w.alloc (.cells #[.int .i64 ga, .slice sa la ca] 36)).alloc (.cells #[.int .i64 1, .slice sb lb cb] 36)).alloc (.cells #[.int .i64 ga, .slice sa la ca, .int .i64 1, .slice sb lb cb] 38))) := ⟨_, rfl, RQ.of (Ha.kept hG') (Hb.kept hG') HF.out.1 HF.out.2.1 HF.out.2.2.1 HF.out.2.2.2, hG'⟩
    clear hG' ra rb
    go_wp2_with fail
    exact bodyPost_ret (v := .agg #[.int .i64 ga, .slice sa la ca, .int .i64 1, .slice sb lb cb]) (by simp [results, Tryz.results18, go_sem]) rfl hF.out
set_option maxHeartbeats 16000000 in
theorem rQMul_any (w : World) (va vb : Value) (r t : Rat) (E M : Nat) (Ha : RQ w va r E) (Hb : RQ w vb t M) (hE : E + M ≤ 300000) :
    Calls Tryz.prog 29 #[va, vb] w (RetRQ w (r * t) (E + M)) := by
  have HE : Hid (E + M ≤ 300000) := hE
  clear hE
  obtain ⟨ga, sa, la, ca, ga', sa', la', ca', na, da, rfl, ha, ha', ua⟩ := Ha
  obtain ⟨gb, sb, lb, cb, gb', sb', lb', cb', nb, db, rfl, hb, hb', ub⟩ := Hb
  have hG : w.grownBy (((w.alloc (.cells #[.int .i64 ga, .slice sa la ca, .int .i64 ga', .slice sa' la' ca'] 38)).alloc (.cells #[.int .i64 gb, .slice sb lb cb, .int .i64 gb', .slice sb' lb' cb'] 38)).alloc (.cells #[.int .i64 0, .slice none 0 0, .int .i64 0, .slice none 0 0] 38)) none := (grown_alloc (grown_alloc (World.grownBy_alloc _ _ _) _) _)
  have Ba := heap_kept (grown_alloc (World.grownBy_alloc _ (.cells #[.int .i64 gb, .slice sb lb cb, .int .i64 gb', .slice sb' lb' cb'] 38) none) (.cells #[.int .i64 0, .slice none 0 0, .int .i64 0, .slice none 0 0] 38)) (heap_new w (.cells #[.int .i64 ga, .slice sa la ca, .int .i64 ga', .slice sa' la' ca'] 38) (w.heap.size) rfl)
  have Bb := heap_kept (World.grownBy_alloc _ (.cells #[.int .i64 0, .slice none 0 0, .int .i64 0, .slice none 0 0] 38) none) (heap_new (w.alloc (.cells #[.int .i64 ga, .slice sa la ca, .int .i64 ga', .slice sa' la' ca'] 38)) (.cells #[.int .i64 gb, .slice sb lb cb, .int .i64 gb', .slice sb' lb' cb'] 38) (w.heap.size + 1) (by simp))
  have Bq := (heap_new ((w.alloc (.cells #[.int .i64 ga, .slice sa la ca, .int .i64 ga', .slice sa' la' ca'] 38)).alloc (.cells #[.int .i64 gb, .slice sb lb cb, .int .i64 gb', .slice sb' lb' cb'] 38)) (.cells #[.int .i64 0, .slice none 0 0, .int .i64 0, .slice none 0 0] 38) (w.heap.size + 1 + 1) (by simp))
  have ya : RQ (((w.alloc (.cells #[.int .i64 ga, .slice sa la ca, .int .i64 ga', .slice sa' la' ca'] 38)).alloc (.cells #[.int .i64 gb, .slice sb lb cb, .int .i64 gb', .slice sb' lb' cb'] 38)).alloc (.cells #[.int .i64 0, .slice none 0 0, .int .i64 0, .slice none 0 0] 38)) (.agg #[.int .i64 ga, .slice sa la ca, .int .i64 ga', .slice sa' la' ca']) r E := ⟨ga, sa, la, ca, ga', sa', la', ca', na, da, rfl, ha.kept hG, ha'.kept hG, ua⟩
  have ra : RIntV (((w.alloc (.cells #[.int .i64 ga, .slice sa la ca, .int .i64 ga', .slice sa' la' ca'] 38)).alloc (.cells #[.int .i64 gb, .slice sb lb cb, .int .i64 gb', .slice sb' lb' cb'] 38)).alloc (.cells #[.int .i64 0, .slice none 0 0, .int .i64 0, .slice none 0 0] 38)) (.agg #[.int .i64 ga, .slice sa la ca]) na := ha.kept hG
  have ra' : RIntV (((w.alloc (.cells #[.int .i64 ga, .slice sa la ca, .int .i64 ga', .slice sa' la' ca'] 38)).alloc (.cells #[.int .i64 gb, .slice sb lb cb, .int .i64 gb', .slice sb' lb' cb'] 38)).alloc (.cells #[.int .i64 0, .slice none 0 0, .int .i64 0, .slice none 0 0] 38)) (.agg #[.int .i64 ga', .slice sa' la' ca']) da := ha'.kept hG
  have yb : RQ (((w.alloc (.cells #[.int .i64 ga, .slice sa la ca, .int .i64 ga', .slice sa' la' ca'] 38)).alloc (.cells #[.int .i64 gb, .slice sb lb cb, .int .i64 gb', .slice sb' lb' cb'] 38)).alloc (.cells #[.int .i64 0, .slice none 0 0, .int .i64 0, .slice none 0 0] 38)) (.agg #[.int .i64 gb, .slice sb lb cb, .int .i64 gb', .slice sb' lb' cb']) t M := ⟨gb, sb, lb, cb, gb', sb', lb', cb', nb, db, rfl, hb.kept hG, hb'.kept hG, ub⟩
  have rb : RIntV (((w.alloc (.cells #[.int .i64 ga, .slice sa la ca, .int .i64 ga', .slice sa' la' ca'] 38)).alloc (.cells #[.int .i64 gb, .slice sb lb cb, .int .i64 gb', .slice sb' lb' cb'] 38)).alloc (.cells #[.int .i64 0, .slice none 0 0, .int .i64 0, .slice none 0 0] 38)) (.agg #[.int .i64 gb, .slice sb lb cb]) nb := hb.kept hG
  have rb' : RIntV (((w.alloc (.cells #[.int .i64 ga, .slice sa la ca, .int .i64 ga', .slice sa' la' ca'] 38)).alloc (.cells #[.int .i64 gb, .slice sb lb cb, .int .i64 gb', .slice sb' lb' cb'] 38)).alloc (.cells #[.int .i64 0, .slice none 0 0, .int .i64 0, .slice none 0 0] 38)) (.agg #[.int .i64 gb', .slice sb' lb' cb']) db := hb'.kept hG
  have oa : RQ w (.agg #[.int .i64 ga, .slice sa la ca, .int .i64 ga', .slice sa' la' ca']) r E := ⟨ga, sa, la, ca, ga', sa', la', ca', na, da, rfl, ha, ha', ua⟩
  clear ha ha'
  have ob : RQ w (.agg #[.int .i64 gb, .slice sb lb cb, .int .i64 gb', .slice sb' lb' cb']) t M := ⟨gb, sb, lb, cb, gb', sb', lb', cb', nb, db, rfl, hb, hb', ub⟩
  clear hb hb'
  go_enter Tryz.func29, Tryz.ntmps29
  obtain ⟨Ca0, Ca1, Ca2, Ca3, Fa0, Fa1, Fa2, Fa3⟩ := box_cells4 Ba
  obtain ⟨Cb0, Cb1, Cb2, Cb3, Fb0, Fb1, Fb2, Fb3⟩ := box_cells4 Bb
  obtain ⟨Cq0, Cq1, Cq2, Cq3, Fq0, Fq1, Fq2, Fq3⟩ := box_cells4 Bq
  go_wp2_with fail
  generalize (((w.alloc (.cells #[.int .i64 ga, .slice sa la ca, .int .i64 ga', .slice sa' la' ca'] 38)).alloc (.cells #[.int .i64 gb, .slice sb lb cb, .int .i64 gb', .slice sb' lb' cb'] 38)).alloc (.cells #[.int .i64 0, .slice none 0 0, .int .i64 0, .slice none 0 0] 38)) = w0 at *
  go_region_held3 (fun w' => w'.cell? ⟨w.heap.size, 0, none⟩ = some (.int .i64 ga) ∧ w'.cell? ⟨w.heap.size, 1, none⟩ = some (.slice sa la ca) ∧ w'.cell? ⟨w.heap.size, 2, none⟩ = some (.int .i64 ga') ∧ w'.cell? ⟨w.heap.size, 3, none⟩ = some (.slice sa' la' ca') ∧ w'.cell? ⟨w.heap.size + 1, 0, none⟩ = some (.int .i64 gb) ∧ w'.cell? ⟨w.heap.size + 1, 1, none⟩ = some (.slice sb lb cb) ∧ w'.cell? ⟨w.heap.size + 1, 2, none⟩ = some (.int .i64 gb') ∧ w'.cell? ⟨w.heap.size + 1, 3, none⟩ = some (.slice sb' lb' cb'))
    (first | assumption | exact ⟨Ca0, Ca1, Ca2, Ca3, Cb0, Cb1, Cb2, Cb3⟩ | exact HSw1_20 | go_keep)
    (first
      | (go_at_call 63; (with_reducible refine (rZMul_any w0.drew _ _ na nb (ra.kept (grown_drew (grown_refl _ _))) (rb.kept (grown_drew (grown_refl _ _))) (dp6 ua.out.2.2.1 (by have := HE.out; omega)) (dp6 ub.out.2.2.1 (by have := HE.out; omega))).mono ?_); rintro e w1_1 ⟨_, rfl, ⟨gd, sd, ld, cd, rfl, hd, md⟩, gw1_1⟩; have hGw1_1 := grown_pre w0 gw1_1 rfl rfl rfl rfl; have rd : RIntV w1_1 (.agg #[.int .i64 gd, .slice sd ld cd]) (na * nb) := ⟨gd, sd, ld, cd, rfl, hd, md⟩; have hSw1_1 := (And.intro (hGw1_1.cell Ca0 (by simp)) (And.intro (hGw1_1.cell Ca1 (by simp)) (And.intro (hGw1_1.cell Ca2 (by simp)) (And.intro (hGw1_1.cell Ca3 (by simp)) (And.intro (hGw1_1.cell Cb0 (by simp)) (And.intro (hGw1_1.cell Cb1 (by simp)) (And.intro (hGw1_1.cell Cb2 (by simp)) (hGw1_1.cell Cb3 (by simp))))))))); clear gw1_1; clear md)
      | (go_at_call 63; (with_reducible refine (rZMul_any w1_1 _ _ da db (ra'.kept hGw1_1) (rb'.kept hGw1_1) (dp6 ua.out.2.2.2 (by have := HE.out; omega)) (dp6 ub.out.2.2.2 (by have := HE.out; omega))).mono ?_); rintro e w1_2 ⟨_, rfl, ⟨ge, se, le, ce, rfl, he, me⟩, gw1_2⟩; have hGw1_2 := grown_trans hGw1_1 gw1_2; replace rd := rd.kept gw1_2; have re : RIntV w1_2 (.agg #[.int .i64 ge, .slice se le ce]) (da * db) := ⟨ge, se, le, ce, rfl, he, me⟩; have hSw1_2 := (And.intro (hGw1_2.cell Ca0 (by simp)) (And.intro (hGw1_2.cell Ca1 (by simp)) (And.intro (hGw1_2.cell Ca2 (by simp)) (And.intro (hGw1_2.cell Ca3 (by simp)) (And.intro (hGw1_2.cell Cb0 (by simp)) (And.intro (hGw1_2.cell Cb1 (by simp)) (And.intro (hGw1_2.cell Cb2 (by simp)) (hGw1_2.cell Cb3 (by simp))))))))); clear gw1_2; clear me; (obtain ⟨dq0, dq1, dq2, dq3, dq4, dq5, dq6, dq7⟩ := box_cells4 (heap_kept hGw1_2 Bq)); have HSw1_20 := (And.intro ((box_cells4 (heap_unset4 (heap_kept hGw1_2 Ba) (show w.heap.size ≠ w.heap.size + 1 + 1 by omega) (.int .i64 gd) (.slice sd ld cd) (.int .i64 ge) (.slice se le ce))).1) (And.intro ((box_cells4 (heap_unset4 (heap_kept hGw1_2 Ba) (show w.heap.size ≠ w.heap.size + 1 + 1 by omega) (.int .i64 gd) (.slice sd ld cd) (.int .i64 ge) (.slice se le ce))).2.1) (And.intro ((box_cells4 (heap_unset4 (heap_kept hGw1_2 Ba) (show w.heap.size ≠ w.heap.size + 1 + 1 by omega) (.int .i64 gd) (.slice sd ld cd) (.int .i64 ge) (.slice se le ce))).2.2.1) (And.intro ((box_cells4 (heap_unset4 (heap_kept hGw1_2 Ba) (show w.heap.size ≠ w.heap.size + 1 + 1 by omega) (.int .i64 gd) (.slice sd ld cd) (.int .i64 ge) (.slice se le ce))).2.2.2.1) (And.intro ((box_cells4 (heap_unset4 (heap_kept hGw1_2 Bb) (show w.heap.size + 1 ≠ w.heap.size + 1 + 1 by omega) (.int .i64 gd) (.slice sd ld cd) (.int .i64 ge) (.slice se le ce))).1) (And.intro ((box_cells4 (heap_unset4 (heap_kept hGw1_2 Bb) (show w.heap.size + 1 ≠ w.heap.size + 1 + 1 by omega) (.int .i64 gd) (.slice sd ld cd) (.int .i64 ge) (.slice se le ce))).2.1) (And.intro ((box_cells4 (heap_unset4 (heap_kept hGw1_2 Bb) (show w.heap.size + 1 ≠ w.heap.size + 1 + 1 by omega) (.int .i64 gd) (.slice sd ld cd) (.int .i64 ge) (.slice se le ce))).2.2.1) ((box_cells4 (heap_unset4 (heap_kept hGw1_2 Bb) (show w.heap.size + 1 ≠ w.heap.size + 1 + 1 by omega) (.int .i64 gd) (.slice sd ld cd) (.int .i64 ge) (.slice se le ce))).2.2.2.1))))))))))
  replace Ba := heap_kept hGw1_2 Ba
  replace Bb := heap_kept hGw1_2 Bb
  replace Bq := heap_kept hGw1_2 Bq
  replace ya := ya.kept hGw1_2
  replace ra := ra.kept hGw1_2
  replace ra' := ra'.kept hGw1_2
  replace yb := yb.kept hGw1_2
  replace rb := rb.kept hGw1_2
  replace rb' := rb'.kept hGw1_2
  replace hG := grown_trans hG hGw1_2
  clear Ca0 Fa0 Ca1 Fa1 Ca2 Fa2 Ca3 Fa3 Cb0 Fb0 Cb1 Fb1 Cb2 Fb2 Cb3 Fb3 Cq0 Fq0 Cq1 Fq1 Cq2 Fq2 Cq3 Fq3
  have yd : RQ w1_2 (.agg #[.int .i64 gd, .slice sd ld cd, .int .i64 ge, .slice se le ce]) (r * t) (E + M) := RQ.of rd re (Int.mul_pos ua.out.1 ub.out.1) (rq_mul ua.out.2.1 ub.out.2.1) (dmul_bd ua.out.2.2.1 ub.out.2.2.1) (dmul_bd ua.out.2.2.2 ub.out.2.2.2)
  obtain ⟨k90, k91, k92, k93, k94, k95, k96, k97⟩ := box_cells4 Bq
  obtain ⟨q90, q91, q92, q93, q94, q95, q96, q97⟩ := box_cells4 (heap_set4 Bq (.int .i64 gd) (.slice sd ld cd) (.int .i64 ge) (.slice se le ce))
  have hF : Hid (RetRQ w (r * t) (E + M) (.returned (.agg #[.int .i64 gd, .slice sd ld cd, .int .i64 ge, .slice se le ce])) ((((w1_2.setCell ⟨w.heap.size + 1 + 1, 0, none⟩ (.int .i64 gd)).setCell ⟨w.heap.size + 1 + 1, 1, none⟩ (.slice sd ld cd)).setCell ⟨w.heap.size + 1 + 1, 2, none⟩ (.int .i64 ge)).setCell ⟨w.heap.size + 1 + 1, 3, none⟩ (.slice se le ce))) := ret_rq hG Bq (by omega) yd
  clear ya ra ra' yb rb rb' rd re yd
  go_wp2_with fail
  exact bodyPost_ret (v := .agg #[.int .i64 gd, .slice sd ld cd, .int .i64 ge, .slice se le ce]) (by simp [results, Tryz.results29, go_sem, q90, q91, q92, q93]) rfl hF.out
end Go.Proofs.YtldkddogadmpbaaGreatDoor
namespace Go.Proofs.YtldkddogadmpbaaGreatDoor
open Go.RowKit Mat
set_option maxRecDepth 100000
set_option linter.unusedVariables false
set_option linter.unusedSimpArgs false
theorem p2D {x K : Nat} (h : x ≤ 2 ^ K) (hK : K ≤ 5000) : x < D ^ 1000000 := by
  obtain ⟨E, hE⟩ : ∃ E, E = 1000000 := ⟨_, rfl⟩
  rw [← hE]
  have h1 : 2 ^ K ≤ D ^ K := Nat.pow_le_pow_left (by decide) K
  have h2 : D ^ K < D ^ E := Nat.pow_lt_pow_right (by decide) (by omega)
  omega
theorem two_odd {A X K i : Nat} (h : A * X ^ (2 * i + 1) = 2 ^ K) : (A * X) * (X * X) ^ i = 2 ^ K := by
  rw [← h, Nat.pow_succ, Nat.pow_mul, Nat.pow_two]; grind
theorem two_even {A X K i : Nat} (h : A * X ^ (2 * i) = 2 ^ K) : A * (X * X) ^ i = 2 ^ K := by
  rw [← h, Nat.pow_mul, Nat.pow_two]
theorem two_bd {A X K j : Nat} (h : A * X ^ j = 2 ^ K) (hA : 0 < A) (hX : 0 < X) : A ≤ 2 ^ K ∧ (1 ≤ j → A * X ≤ 2 ^ K ∧ X ≤ 2 ^ K) ∧ (2 ≤ j → X * X ≤ 2 ^ K) := by
  have hp : 0 < X ^ j := Nat.pow_pos hX
  refine ⟨by rw [← h]; exact Nat.le_mul_of_pos_right _ hp, fun hj => ?_, fun hj => ?_⟩
  · have h1 : X ≤ X ^ j := by
      have := Nat.pow_le_pow_right hX hj
      rwa [Nat.pow_one] at this
    have h2 : A * X ≤ A * X ^ j := Nat.mul_le_mul_left _ h1
    have h3 : X ^ j ≤ A * X ^ j := Nat.le_mul_of_pos_left _ hA
    rw [h] at h2 h3
    omega
  · have h1 := Nat.pow_le_pow_right hX hj
    rw [Nat.pow_two] at h1
    have h3 : X ^ j ≤ A * X ^ j := Nat.le_mul_of_pos_left _ hA
    rw [h] at h3
    omega
theorem rOf_1 (w : World) : Calls Tryz.prog 34 #[.int .u64 1] w (RetRef w 1) := rOf_any w 1 (by decide)
theorem rOf_2 (w : World) : Calls Tryz.prog 34 #[.int .u64 2] w (RetRef w 2) := rOf_any w 2 (by decide)
set_option maxHeartbeats 8000000 in
theorem rTwo_any (w : World) (K : Nat) (hK : K ≤ 5000) :
    Calls Tryz.prog 33 #[.int .i64 (K : Int)] w (RetRef w (2 ^ K)) := by
  have hgw0 := World.grownBy_alloc w (.cells #[.slice none 0 0] 34) none
  have hs0 : (w.alloc (.cells #[.slice none 0 0] 34)).heap.size = w.heap.size + 1 := by simp
  have hr0 := heap_new w (.cells #[.slice none 0 0] 34) w.heap.size rfl
  go_enter Tryz.func33, Tryz.ntmps33
  go_wp2_with fail
  generalize (w.alloc (.cells #[.slice none 0 0] 34)) = w0 at *
  refine (rOf_1 w0).mono ?_
  rintro e w1 ⟨v, rfl, ⟨s1, k1, c1, z1, rfl, n1⟩, g1⟩
  have hb1 := heap_new w1 (.cells #[.slice s1 k1 c1] 34) w1.heap.size rfl
  have hB1 : Boxed (w1.alloc (.cells #[.slice s1 k1 c1] 34)) w1.heap.size 1 := ⟨s1, k1, c1, hb1, RefV.kept ⟨s1, k1, c1, z1, rfl, n1⟩ (World.grownBy_alloc _ _ _)⟩
  have hG1 := grown_alloc g1 (.cells #[.slice s1 k1 c1] 34)
  have hl1 : w.heap.size < w1.heap.size := by have h1 := (Array.getElem?_eq_some_iff.1 hr0).1; have := g1.size; omega
  clear g1 n1 hb1
  go_wp2_with fail
  generalize ha1 : w1.heap.size = a1 at *
  generalize hW1 : (w1.alloc (.cells #[.slice s1 k1 c1] 34)) = W1 at *
  have hl2 : a1 < W1.heap.size := by obtain ⟨_, _, _, h1, _⟩ := hB1; exact (Array.getElem?_eq_some_iff.1 h1).1
  clear ha1 hW1
  refine (rOf_2 W1).mono ?_
  rintro e w2 ⟨v, rfl, ⟨s2, k2, c2, z2, rfl, n2⟩, g2⟩
  have hb2 := heap_new w2 (.cells #[.slice s2 k2 c2] 34) w2.heap.size rfl
  have hB2 : Boxed (w2.alloc (.cells #[.slice s2 k2 c2] 34)) w2.heap.size 2 := ⟨s2, k2, c2, hb2, RefV.kept ⟨s2, k2, c2, z2, rfl, n2⟩ (World.grownBy_alloc _ _ _)⟩
  have hG2 := grown_alloc g2 (.cells #[.slice s2 k2 c2] 34)
  have hB1' := hB1.kept hG2
  have hl3 : a1 < w2.heap.size := by have := g2.size; omega
  have hG := grown_trans hG1 hG2
  clear g2 n2 hb2 hB1 hG1 hG2
  go_wp2_with fail
  generalize ha2 : w2.heap.size = a2 at *
  generalize hW2 : (w2.alloc (.cells #[.slice s2 k2 c2] 34)) = W2 at *
  clear ha2 hW2 hl2
  go_loopw [0] (fun k wr => ∃ (j A X : Nat), k = .int .i64 j ∧ j ≤ K ∧ Boxed wr a1 A ∧ Boxed wr a2 X ∧ 0 < A ∧ 0 < X ∧ Hid (A * X ^ j = 2 ^ K) ∧ w0.grownBy wr none) (fun k _ => (intOf k).toNat)
  case atStart => exact ⟨K, 1, 2, rfl, Nat.le_refl _, hB1', hB2, by omega, by omega, by show _ = _; omega, hG⟩
  case round =>
    clear hB1' hB2 hG
    obtain ⟨j, A, X, rfl, hj, hA, hX, hA0, hX0, hv, hG⟩ := hrel
    obtain ⟨b1, b2, b3⟩ := two_bd hv.out hA0 hX0
    have b1 := Lib.hid b1
    have b2 := Lib.hid b2
    have b3 := Lib.hid b3
    have hr := heap_kept hG hr0
    have hgw := grown_trans hgw0 hG
    obtain ⟨sA, kA, cA, hbA, nA⟩ := hA
    obtain ⟨sX, kX, cX, hbX, nX⟩ := hX
    obtain ⟨cA1, fA1⟩ := box_cell hbA
    obtain ⟨cX1, fX1⟩ := box_cell hbX
    obtain ⟨cr, fr⟩ := box_cell hr
    by_cases h0 : j = 0
    · subst h0
      have hF : Hid (RetRef w (2 ^ K) (.returned (.agg #[.slice sA kA cA])) (wr.setCell ⟨w.heap.size, 0, none⟩ (.slice sA kA cA))) := by
        have := hv.out
        rw [Nat.pow_zero, Nat.mul_one] at this
        rw [← this]
        exact rret hgw hr (by decide) (Nat.le_refl _) nA _
      clear hv nA nX
      go_wp2_with fail
      exact bodyPost_ret (v := .agg #[.slice sA kA cA]) (by simp [results, Tryz.results33, go_sem, cr]) rfl hF.out
    · obtain ⟨i, r, rfl, hr1⟩ : ∃ i r, j = 2 * i + r ∧ r ≤ 1 := ⟨j / 2, j % 2, by omega, by omega⟩
      have f1 : decide ((0 : Int) < ((2 * i + r : Nat) : Int)) = true := decide_eq_true (by omega)
      obtain ⟨J, hJ⟩ : ∃ J, 2 * i + r = J := ⟨_, rfl⟩
      have e2 : (J : Int) / 2 = (i : Int) := by omega
      have e3 : (J : Int) % 2 = (r : Int) := by omega
      rw [hJ] at f1 ⊢
      have hla : w0.heap.size ≤ a1 := by omega
      have hlb : w0.heap.size ≤ a2 := by omega
      rcases (show r = 1 ∨ r = 0 by omega) with rfl | rfl
      · have e3 : (J : Int) % 2 = 1 := by omega
        clear hr1
        go_wp2_with fail
        refine (rMul_any wr _ _ A X nA nX (p2D b1.out hK) (p2D (b2.out (by omega)).2 hK)).mono ?_
        rintro e w5 ⟨v, rfl, ⟨s5, k5, c5, z5, rfl, n5⟩, g5⟩
        have hbA5 := heap_kept g5 hbA
        obtain ⟨cA5, fA5⟩ := box_cell hbA5
        have B1 : Boxed (w5.setCell ⟨a1, 0, none⟩ (.slice s5 k5 c5)) a1 (A * X) := Boxed.set hbA5 ⟨s5, k5, c5, z5, rfl, n5⟩
        have B2 : Boxed (w5.setCell ⟨a1, 0, none⟩ (.slice s5 k5 c5)) a2 X := (Boxed.kept ⟨sX, kX, cX, hbX, nX⟩ g5).unset (by omega) hbA5 (by decide) _
        have hG5 := grown_new (grown_trans hG g5) (grown_set (grown_refl w5 (some a1)) 0 (.slice s5 k5 c5)) hla
        have hvn : Hid ((A * X) * (X * X) ^ i = 2 ^ K) := two_odd hv.out
        have hAX : 0 < A * X := Nat.mul_pos hA0 hX0
        obtain ⟨s6, k6, c6, hb6, n6⟩ := B2
        obtain ⟨c26, f26⟩ := box_cell hb6
        clear g5 n5 hbA hbX nA nX hG hr hgw cA1 fA1 cX1 fX1 hv
        by_cases hi : i = 0
        · have f4 : decide ((1 : Int) < (J : Int)) = false := decide_eq_false (by omega)
          go_wp2_with fail
          go_roundw
          case rel => exact ⟨0, A * X, X, rfl, by omega, B1, ⟨s6, k6, c6, hb6, n6⟩, hAX, hX0, by show _ = _; have := hvn.out; rw [hi, Nat.pow_zero] at this; rw [Nat.pow_zero]; exact this, hG5⟩
          case measure => simp [intOf]; omega
        · have f4 : decide ((1 : Int) < (J : Int)) = true := decide_eq_true (by omega)
          go_wp2_with fail
          refine (rMul_any _ _ _ X X n6 n6 (p2D (b2.out (by omega)).2 hK) (p2D (b2.out (by omega)).2 hK)).mono ?_
          rintro e w7 ⟨v, rfl, ⟨s7, k7, c7, z7, rfl, n7⟩, g7⟩
          have hb27 := heap_kept g7 hb6
          obtain ⟨c27, f27⟩ := box_cell hb27
          have B2n : Boxed (w7.setCell ⟨a2, 0, none⟩ (.slice s7 k7 c7)) a2 (X * X) := Boxed.set hb27 ⟨s7, k7, c7, z7, rfl, n7⟩
          have B1n := (B1.kept g7).unset (by omega) hb27 (by decide) (.slice s7 k7 c7)
          have hGn := grown_new (grown_trans hG5 g7) (grown_set (grown_refl w7 (some a2)) 0 (.slice s7 k7 c7)) (by omega : w0.heap.size ≤ a2)
          clear g7 n7
          go_wp2_with fail
          go_roundw
          case rel => exact ⟨i, A * X, X * X, rfl, by omega, B1n, B2n, hAX, Nat.mul_pos hX0 hX0, hvn, hGn⟩
          case measure => simp [intOf]; omega
      · have e3 : (J : Int) % 2 = 0 := by omega
        have f4 : decide ((1 : Int) < (J : Int)) = true := decide_eq_true (by omega)
        have hvn : Hid (A * (X * X) ^ i = 2 ^ K) := two_even (by have := hv.out; simpa using this)
        have B1 : Boxed wr a1 A := ⟨sA, kA, cA, hbA, nA⟩
        clear hr1 hr hgw
        go_wp2_with fail
        refine (rMul_any wr _ _ X X nX nX (p2D (b2.out (by omega)).2 hK) (p2D (b2.out (by omega)).2 hK)).mono ?_
        rintro e w7 ⟨v, rfl, ⟨s7, k7, c7, z7, rfl, n7⟩, g7⟩
        have hb27 := heap_kept g7 hbX
        obtain ⟨c27, f27⟩ := box_cell hb27
        have B2n : Boxed (w7.setCell ⟨a2, 0, none⟩ (.slice s7 k7 c7)) a2 (X * X) := Boxed.set hb27 ⟨s7, k7, c7, z7, rfl, n7⟩
        have B1n := (B1.kept g7).unset (by omega) hb27 (by decide) (.slice s7 k7 c7)
        have hGn := grown_new (grown_trans hG g7) (grown_set (grown_refl w7 (some a2)) 0 (.slice s7 k7 c7)) (by omega : w0.heap.size ≤ a2)
        clear g7 n7
        clear hbA hbX nA nX cA1 fA1 cX1 fX1 hv hG
        go_wp2_with fail
        go_roundw
        case rel => exact ⟨i, A, X * X, rfl, by omega, B1n, B2n, hA0, Nat.mul_pos hX0 hX0, hvn, hGn⟩
        case measure => simp [intOf]; omega
end Go.Proofs.YtldkddogadmpbaaGreatDoor
namespace Go.Proofs.YtldkddogadmpbaaGreatDoor
open Go.RowKit Mat
set_option maxRecDepth 100000
set_option linter.unusedVariables false
set_option linter.unusedSimpArgs false
theorem rTwo_of (w : World) (k : Int) (K : Nat) (e : k = (K : Int)) (hK : K ≤ 5000) : Calls Tryz.prog 33 #[.int .i64 k] w (RetRef w (2 ^ K)) := by subst e; exact rTwo_any w K hK
theorem two_D (K : Nat) (h : K ≤ 312) : 2 ^ K < D ^ 25 := by
  obtain ⟨N, hN⟩ : ∃ N, 25 = N := ⟨_, rfl⟩
  rw [hN]
  have h1 : 2 ^ (13 * N) ≤ D ^ N := by rw [Nat.pow_mul]; exact Nat.pow_le_pow_left (by unfold D; decide) _
  exact Nat.lt_of_lt_of_le (Nat.pow_lt_pow_right (by omega) (by omega)) h1
def six (p q : Nat) : Rat := Rat.divInt ((2 ^ (4 * p) : Nat) : Int) ((2 ^ (4 * q) : Nat) : Int)
set_option maxHeartbeats 16000000 in
theorem rSix_any (w : World) (k : Int) (p q : Nat) (h : (k < 0 ∧ p = 0 ∧ k = -(q : Int)) ∨ (0 ≤ k ∧ q = 0 ∧ k = (p : Int))) (hp : p ≤ 78) (hq : q ≤ 78) :
    Calls Tryz.prog 30 #[.int .i64 k] w (RetRQ w (six p q) 25) := by
  have HV : Hid (0 < ((2 ^ (4 * q) : Nat) : Int) ∧ Rat.divInt ((2 ^ (4 * p) : Nat) : Int) ((2 ^ (4 * q) : Nat) : Int) = six p q ∧ ((2 ^ (4 * p) : Nat) : Int).natAbs < D ^ 25 ∧ ((2 ^ (4 * q) : Nat) : Int).natAbs < D ^ 25) := by
    have : 0 < 2 ^ (4 * q) := Nat.pow_pos (by omega)
    exact ⟨by omega, rfl, by rw [Int.natAbs_natCast]; exact two_D _ (by omega), by rw [Int.natAbs_natCast]; exact two_D _ (by omega)⟩
  have M1 : ∀ (W : World) (v : Value) (K : Nat), RefV W v (2 ^ K) → Calls Tryz.prog 21 #[.int .i64 1, v] W (RetRInt W ((2 ^ K : Nat) : Int)) := fun W v K h => by
    have : 0 < 2 ^ K := Nat.pow_pos (by omega)
    exact rMade_any W v 1 (2 ^ K) _ h (by omega) (Or.inr (Int.sign_eq_one_of_pos (by omega)))
  have HM1 := Lib.hid M1
  clear M1
  have hG : w.grownBy (w.alloc (.cells #[.int .i64 0, .slice none 0 0, .int .i64 0, .slice none 0 0] 38)) none := (World.grownBy_alloc _ _ _)
  have Bq := (heap_new w (.cells #[.int .i64 0, .slice none 0 0, .int .i64 0, .slice none 0 0] 38) (w.heap.size) rfl)
  go_enter Tryz.func30, Tryz.ntmps30
  obtain ⟨Cq0, Cq1, Cq2, Cq3, Fq0, Fq1, Fq2, Fq3⟩ := box_cells4 Bq
  go_wp2_with fail
  generalize (w.alloc (.cells #[.int .i64 0, .slice none 0 0, .int .i64 0, .slice none 0 0] 38)) = w0 at *
  clear Cq0 Cq1 Cq2 Cq3 Fq0 Fq1 Fq2 Fq3
  refine (rZOf_any w0 1 (by omega) (by omega)).mono ?_
  rintro e w1 ⟨_, rfl, ⟨go, so, lo, co, rfl, ho, mo⟩, gw1⟩
  have ro : RIntV w1 (.agg #[.int .i64 go, .slice so lo co]) (1) := ⟨go, so, lo, co, rfl, ho, mo⟩
  replace Bq := heap_kept gw1 Bq
  replace hG := grown_trans hG gw1
  clear gw1
  clear mo
  obtain ⟨Cq0, Cq1, Cq2, Cq3, Fq0, Fq1, Fq2, Fq3⟩ := box_cells4 Bq
  have gbw1 := (World.grownBy_alloc w1 (.cells #[.int .i64 go, .slice so lo co] 36) none)
  have Bo := (heap_new w1 (.cells #[.int .i64 go, .slice so lo co] 36) (w1.heap.size) rfl)
  have hzw1 : Hid (w.heap.size ≤ w1.heap.size) := Lib.hid hG.size
  have hlqw1 : Hid (w.heap.size < w1.heap.size) := Lib.hid (Array.getElem?_eq_some_iff.1 Bq).1
  clear Cq0 Cq1 Cq2 Cq3 Fq0 Fq1 Fq2 Fq3
  replace Bq := heap_kept gbw1 Bq
  replace ro := ro.kept gbw1
  replace hG := grown_trans hG gbw1
  clear gbw1
  obtain ⟨Cq0, Cq1, Cq2, Cq3, Fq0, Fq1, Fq2, Fq3⟩ := box_cells4 Bq
  obtain ⟨Co0, Co1, Fo0, Fo1⟩ := box_cells Bo
  rcases h with ⟨h1, rfl, rfl⟩ | ⟨h1, rfl, rfl⟩
  · skip
    go_wp2_with fail
    generalize (w1.alloc (.cells #[.int .i64 go, .slice so lo co] 36)) = w2 at *
    generalize w1.heap.size = aw1 at *
    replace hzw1 := hzw1.out
    replace hlqw1 := hlqw1.out
    go_region_held3 (fun w' => w'.cell? ⟨aw1, 0, none⟩ = some (.int .i64 go) ∧ w'.cell? ⟨aw1, 1, none⟩ = some (.slice so lo co))
      (first | assumption | exact ⟨Co0, Co1⟩ | exact HSaw3_20 | go_keep)
      (first
        | (go_at_call 33; (with_reducible refine (rTwo_of w2.drew _ (4 * q) (by first | omega | (rw [IntKind.wrap_i64]; omega)) (by omega)).mono ?_); rintro e aw3_1 ⟨v3, rfl, n3, gaw3_1⟩; have hGaw3_1 := grown_pre w2 gaw3_1 rfl rfl rfl rfl; have hSaw3_1 := (And.intro (hGaw3_1.cell Co0 (by simp)) (hGaw3_1.cell Co1 (by simp))); clear gaw3_1)
        | (go_at_call 21; (with_reducible refine (HM1.out aw3_1 _ _ n3).mono ?_); rintro e aw3_2 ⟨_, rfl, ⟨gd, sd, ld, cd, rfl, hd, md⟩, gaw3_2⟩; have hGaw3_2 := grown_trans hGaw3_1 gaw3_2; replace n3 := n3.kept gaw3_2; have rd : RIntV aw3_2 (.agg #[.int .i64 gd, .slice sd ld cd]) (((2 ^ (4 * q) : Nat) : Int)) := ⟨gd, sd, ld, cd, rfl, hd, md⟩; have hSaw3_2 := (And.intro (hGaw3_2.cell Co0 (by simp)) (hGaw3_2.cell Co1 (by simp))); clear gaw3_2; clear md; (obtain ⟨dq0, dq1, dq2, dq3, dq4, dq5, dq6, dq7⟩ := box_cells4 (heap_kept hGaw3_2 Bq)); have HSaw3_20 := (And.intro ((box_cells (heap_unset4 (heap_kept hGaw3_2 Bo) (show aw1 ≠ w.heap.size by omega) (.int .i64 go) (.slice so lo co) (.int .i64 gd) (.slice sd ld cd))).1) ((box_cells (heap_unset4 (heap_kept hGaw3_2 Bo) (show aw1 ≠ w.heap.size by omega) (.int .i64 go) (.slice so lo co) (.int .i64 gd) (.slice sd ld cd))).2.1))))
    replace Bq := heap_kept hGaw3_2 Bq
    replace Bo := heap_kept hGaw3_2 Bo
    replace ro := ro.kept hGaw3_2
    replace hG := grown_trans hG hGaw3_2
    clear Cq0 Cq1 Cq2 Cq3 Fq0 Fq1 Fq2 Fq3 Co0 Co1 Fo0 Fo1
    have o1 : RIntV aw3_2 (.agg #[.int .i64 go, .slice so lo co]) ((2 ^ (4 * 0) : Nat) : Int) := ro
    have yv : RQ aw3_2 (.agg #[.int .i64 go, .slice so lo co, .int .i64 gd, .slice sd ld cd]) (six 0 q) 25 := RQ.of o1 rd HV.out.1 HV.out.2.1 HV.out.2.2.1 HV.out.2.2.2
    obtain ⟨k90, k91, k92, k93, k94, k95, k96, k97⟩ := box_cells4 Bq
    obtain ⟨q90, q91, q92, q93, q94, q95, q96, q97⟩ := box_cells4 (heap_set4 Bq (.int .i64 go) (.slice so lo co) (.int .i64 gd) (.slice sd ld cd))
    have hF : Hid (RetRQ w (six 0 q) 25 (.returned (.agg #[.int .i64 go, .slice so lo co, .int .i64 gd, .slice sd ld cd])) ((((aw3_2.setCell ⟨w.heap.size, 0, none⟩ (.int .i64 go)).setCell ⟨w.heap.size, 1, none⟩ (.slice so lo co)).setCell ⟨w.heap.size, 2, none⟩ (.int .i64 gd)).setCell ⟨w.heap.size, 3, none⟩ (.slice sd ld cd))) := ret_rq hG Bq (by omega) yv
    clear ro n3 rd yv o1
    go_wp2_with fail
    exact bodyPost_ret (v := .agg #[.int .i64 go, .slice so lo co, .int .i64 gd, .slice sd ld cd]) (by simp [results, Tryz.results30, go_sem, q90, q91, q92, q93]) rfl hF.out
  · skip
    go_wp2_with fail
    generalize (w1.alloc (.cells #[.int .i64 go, .slice so lo co] 36)) = w2 at *
    generalize w1.heap.size = aw1 at *
    replace hzw1 := hzw1.out
    replace hlqw1 := hlqw1.out
    go_region_held3 (fun w' => w'.cell? ⟨aw1, 0, none⟩ = some (.int .i64 go) ∧ w'.cell? ⟨aw1, 1, none⟩ = some (.slice so lo co))
      (first | assumption | exact ⟨Co0, Co1⟩ | exact HSbw3_20 | go_keep)
      (first
        | (go_at_call 33; (with_reducible refine (rTwo_of w2.drew _ (4 * p) (by first | omega | (rw [IntKind.wrap_i64]; omega)) (by omega)).mono ?_); rintro e bw3_1 ⟨v3, rfl, n3, gbw3_1⟩; have hGbw3_1 := grown_pre w2 gbw3_1 rfl rfl rfl rfl; have hSbw3_1 := (And.intro (hGbw3_1.cell Co0 (by simp)) (hGbw3_1.cell Co1 (by simp))); clear gbw3_1)
        | (go_at_call 21; (with_reducible refine (HM1.out bw3_1 _ _ n3).mono ?_); rintro e bw3_2 ⟨_, rfl, ⟨gd, sd, ld, cd, rfl, hd, md⟩, gbw3_2⟩; have hGbw3_2 := grown_trans hGbw3_1 gbw3_2; replace n3 := n3.kept gbw3_2; have rd : RIntV bw3_2 (.agg #[.int .i64 gd, .slice sd ld cd]) (((2 ^ (4 * p) : Nat) : Int)) := ⟨gd, sd, ld, cd, rfl, hd, md⟩; have hSbw3_2 := (And.intro (hGbw3_2.cell Co0 (by simp)) (hGbw3_2.cell Co1 (by simp))); clear gbw3_2; clear md; (obtain ⟨dq0, dq1, dq2, dq3, dq4, dq5, dq6, dq7⟩ := box_cells4 (heap_kept hGbw3_2 Bq)); have HSbw3_20 := (And.intro ((box_cells (heap_unset4 (heap_kept hGbw3_2 Bo) (show aw1 ≠ w.heap.size by omega) (.int .i64 gd) (.slice sd ld cd) (.int .i64 go) (.slice so lo co))).1) ((box_cells (heap_unset4 (heap_kept hGbw3_2 Bo) (show aw1 ≠ w.heap.size by omega) (.int .i64 gd) (.slice sd ld cd) (.int .i64 go) (.slice so lo co))).2.1))))
    replace Bq := heap_kept hGbw3_2 Bq
    replace Bo := heap_kept hGbw3_2 Bo
    replace ro := ro.kept hGbw3_2
    replace hG := grown_trans hG hGbw3_2
    clear Cq0 Cq1 Cq2 Cq3 Fq0 Fq1 Fq2 Fq3 Co0 Co1 Fo0 Fo1
    have o1 : RIntV bw3_2 (.agg #[.int .i64 go, .slice so lo co]) ((2 ^ (4 * 0) : Nat) : Int) := ro
    have yv : RQ bw3_2 (.agg #[.int .i64 gd, .slice sd ld cd, .int .i64 go, .slice so lo co]) (six p 0) 25 := RQ.of rd o1 HV.out.1 HV.out.2.1 HV.out.2.2.1 HV.out.2.2.2
    obtain ⟨k90, k91, k92, k93, k94, k95, k96, k97⟩ := box_cells4 Bq
    obtain ⟨q90, q91, q92, q93, q94, q95, q96, q97⟩ := box_cells4 (heap_set4 Bq (.int .i64 gd) (.slice sd ld cd) (.int .i64 go) (.slice so lo co))
    have hF : Hid (RetRQ w (six p 0) 25 (.returned (.agg #[.int .i64 gd, .slice sd ld cd, .int .i64 go, .slice so lo co])) ((((bw3_2.setCell ⟨w.heap.size, 0, none⟩ (.int .i64 gd)).setCell ⟨w.heap.size, 1, none⟩ (.slice sd ld cd)).setCell ⟨w.heap.size, 2, none⟩ (.int .i64 go)).setCell ⟨w.heap.size, 3, none⟩ (.slice so lo co))) := ret_rq hG Bq (by omega) yv
    clear ro n3 rd yv o1
    go_wp2_with fail
    exact bodyPost_ret (v := .agg #[.int .i64 gd, .slice sd ld cd, .int .i64 go, .slice so lo co]) (by simp [results, Tryz.results30, go_sem, q90, q91, q92, q93]) rfl hF.out
end Go.Proofs.YtldkddogadmpbaaGreatDoor
