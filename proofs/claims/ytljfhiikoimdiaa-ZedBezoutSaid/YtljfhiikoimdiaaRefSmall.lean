/- A number times a small one; cut, and where what it answers lies; append of a whole row. -/
import Derived.Test.YtljfhiikoimdiaaRefMul
import Derived.Deep.RegionHeld3
import Derived.Deep.AppendLies
namespace Go.Proofs.Ytljfhiikoimdiaa
open Go.RowKit Mat
set_option maxRecDepth 100000
set_option linter.unusedVariables false
set_option linter.unusedSimpArgs false

theorem set_rep {k d : Nat} {hs : List Nat} : (List.replicate (k + 1) 0 ++ hs).set k d = List.replicate k 0 ++ d :: hs := by
  rw [List.replicate_succ', List.append_assoc, List.set_append]
  simp
theorem val_drop (xs : List Nat) (k : Nat) (hk : k < xs.length) : val D (xs.drop k) = xs.getD k 0 + D * val D (xs.drop (k + 1)) := by
  rw [List.drop_eq_getElem_cons hk, List.getD_eq_getElem?_getD, List.getElem?_eq_getElem hk]; rfl
set_option maxHeartbeats 2000000 in
theorem rcut_at (w : World) (s : Option Addr) (n cap : Nat) (xs : List Nat) (hn : xs.length = n) (hx : RRdo w s xs) (hnc : n ≤ cap) (bn : n ≤ 1099511627776) :
    Calls Try.prog 77 #[.slice s n cap] w (fun e w' => ∃ k, e = .returned (.agg #[.slice s k cap]) ∧ k ≤ n ∧ Top (xs.take k) ∧ val D (xs.take k) = val D xs ∧ w.grownBy w' none) := by
  have Hn := Lib.hid hn
  have hgw0 := World.grownBy_alloc w (.cells #[.slice none 0 0] 32) none
  have hbox0 := heap_new w (.cells #[.slice none 0 0] 32) w.heap.size rfl
  obtain ⟨cb, fb⟩ := box_cell hbox0
  have hx0 := hx.kept hgw0
  clear hn
  go_enter Try.func77, Try.ntmps77
  go_wp2_with fail
  generalize (w.alloc (.cells #[.slice none 0 0] 32)) = w0 at *
  go_loopw [3] (fun i wr => ∃ (k : Nat), k ≤ n ∧ i = .int .i64 k ∧ w0 = wr ∧ Hid (val D (xs.take k) = val D xs)) (fun i _ => (intOf i).toNat)
  case atStart => exact ⟨n, Nat.le_refl _, rfl, rfl, by show _ = _; rw [← Hn.out, List.take_length]⟩
  case round =>
    obtain ⟨k, hk, rfl, rfl, hv⟩ := hrel
    have hF : Hid (Top (xs.take k) → ∃ k', Ending.returned (.agg #[.slice s k cap]) = Ending.returned (.agg #[.slice s k' cap]) ∧ k' ≤ n ∧ Top (xs.take k') ∧ val D (xs.take k') = val D xs ∧ w.grownBy (w0.setCell ⟨w.heap.size, 0, none⟩ (.slice s k cap)) none) := by
      intro ht
      exact ⟨k, rfl, hk, ht, hv.out, grown_new hgw0 (grown_set (grown_refl _ _) _ _) (Nat.le_refl _)⟩
    by_cases h0 : k = 0
    · subst h0
      have hF2 := Lib.hid (hF.out (by intro x hx; simp at hx))
      clear hF
      go_wp2_with fail
      exact bodyPost_ret (v := .agg #[.slice s 0 cap]) (by simp [results, Try.results77, go_sem, cb]) rfl hF2.out
    · obtain ⟨j, rfl⟩ : ∃ j, k = j + 1 := ⟨k - 1, by omega⟩
      clear h0
      obtain ⟨b1, o1, cs1, rfl, hb1, hat1⟩ := hx0.get j (by rw [Hn.out]; omega)
      obtain ⟨x, ex⟩ : ∃ x, xs[j]'(by rw [Hn.out]; omega) = x := ⟨_, rfl⟩
      have c1 : w0.cell? ⟨b1, o1 + j, none⟩ = some (.int .i64 (x : Int)) := by
        rw [hb1.cell, hat1 j (by rw [Hn.out]; omega), ex]; rfl
      have EX := Lib.hid ex
      clear ex
      by_cases hz : x = 0
      · subst hz
        clear hF
        go_wp2_with fail
        go_roundw
        case rel => exact ⟨j, by omega, by go_num, by trivial, by show _ = _; rw [← hv.out, val_take_succ D xs j (by rw [Hn.out]; omega), EX.out]; omega⟩
        case measure => simp [intOf]
      · have t : ((x : Int) == 0) = false := beq_eq_false_iff_ne.2 (by omega)
        have hF2 := Lib.hid (hF.out (top_take xs j (by rw [Hn.out]; omega) (by rw [EX.out]; exact hz)))
        clear hF
        go_wp2_with fail
        exact bodyPost_ret (v := .agg #[.slice (some ⟨b1, o1, none⟩) (j + 1) cap]) (by simp [results, Try.results77, go_sem, cb]) rfl hF2.out

set_option maxHeartbeats 4000000 in
theorem rSmall_any (w : World) (va : Value) (a n : Nat) (ha : RefV w va a) (ba : a < D ^ 1000000) (hn : n ≤ 10000) :
    Calls Try.prog 83 #[va, .int .i64 (n : Int)] w (RetRef w (a * n)) := by
  obtain ⟨sa, la, ca, xs, rfl, h2⟩ := ha
  have na : RefV w (.agg #[.slice sa la ca]) a := ⟨sa, la, ca, xs, rfl, h2⟩
  have hgw0 : w.grownBy ((w.alloc (.cells #[.slice sa la ca] 32)).alloc (.cells #[.slice none 0 0] 32)) none := grown_alloc (World.grownBy_alloc _ _ _) _
  have hboxr := heap_new (w.alloc (.cells #[.slice sa la ca] 32)) (.cells #[.slice none 0 0] 32) (w.heap.size + 1) (by simp)
  have hboxa := (Below.heap_alloc _ (.cells #[.slice none 0 0] 32) w.heap.size (by simp)).trans (heap_new w (.cells #[.slice sa la ca] 32) w.heap.size rfl)
  replace na := na.kept hgw0
  have Hba := Lib.hid ba
  have hnB : n < B := Nat.lt_of_le_of_lt hn (by decide)
  have hw : IntKind.u64.wrap (n : Int) = (n : Int) := by rw [IntKind.wrap_u64]; omega
  have hnD : n < D ^ 1000000 := by
    obtain ⟨E, hE⟩ : ∃ E, E = 1000000 := ⟨_, rfl⟩
    rw [← hE]
    have h1 : D ^ 2 ≤ D ^ E := Nat.pow_le_pow_right D_pos (by omega)
    have h2 : D ^ 2 = 100000000 := by decide
    omega
  have HnD := Lib.hid hnD
  clear h2 ba hnD
  go_enter Try.func83, Try.ntmps83
  go_wp2_with fail
  generalize ((w.alloc (.cells #[.slice sa la ca] 32)).alloc (.cells #[.slice none 0 0] 32)) = w0 at *
  obtain ⟨c1, f1⟩ := box_cell hboxa
  go_region_held3 (fun w' => w'.cell? ⟨w.heap.size, 0, none⟩ = some (.slice sa la ca))
    (first | assumption | exact c1 | go_keep)
    (first
      | (go_at_call 59; (with_reducible refine (rOf_any w0.drew n hnB).mono ?_); rintro e w1 ⟨v1, rfl, n1, g1⟩; have hG1 := grown_pre w0 g1 rfl rfl rfl rfl; have hS1 := hG1.cell c1 (by simp))
      | (go_at_call 66; (with_reducible refine (rMul_any w1 _ _ a n (na.kept hG1) n1 Hba.out HnD.out).mono ?_); rintro e w2 ⟨v2, rfl, ⟨s2, k2, c2, zs2, rfl, n2⟩, g2⟩; have hG2 := grown_trans hG1 g2; have hS2 := hG2.cell c1 (by simp); have hr2 := heap_kept hG2 hboxr; obtain ⟨c3, f3⟩ := box_cell hr2))
  have hF := Lib.hid (rret (n := a * n) (grown_trans hgw0 hG2) hr2 (by decide) (by omega) ⟨s2, k2, c2, zs2, rfl, n2⟩ (.slice s2 k2 c2))
  clear g2 hG2 hG1 n2
  go_wp2_with fail
  exact bodyPost_ret (v := .agg #[.slice s2 k2 c2]) (by simp [results, Try.results83, go_sem, c3]) rfl hF.out

theorem run_append_none {P : Program} (w : World) (t ty e : TypeId) (i : TypeInfo) (ht : P.underlying t = some (.slice e)) (hi : P.info? e = some i) (a : Addr) (n cap c : Nat) (h : n ≤ cap) :
    (Builtin.append_ #[t, t] ty #[.slice (some a) n cap, .slice none 0 c]).run P w = .ok (.slice (some a) n cap) w := by
  simp [Builtin.append_, run_underlying ht, sizeOf, typeInfo, hi, Builtin.lenOf, h, Builtin.firstCells, storeCells]

/-- A block of one int, made now. -/
theorem own_one {W : World} {H base x : Nat} (hH : W.heap.size = H) (hb : base ≤ H) : (W.alloc (.cells #[iv x] 3)).ownsRow base 3 1 (.slice (some ⟨H, 0, none⟩) 1 1) 1 [iv x] :=
  ⟨rfl, Or.inr ⟨H, 1, #[iv x], rfl, hb, heap_new W _ H hH.symm, Nat.le_refl _, by unfold maxLen; omega, rfl, rfl⟩⟩
/-- A row of the call's own and a whole row behind it. -/
theorem run_append_ints {w : World} {ty : TypeId} {base G n0 c0 : Nat} {olds : List Nat} (hown : w.ownsRow base 3 1 (.slice (some ⟨G, 0, none⟩) n0 c0) n0 (olds.map iv)) (h0 : 0 < n0) {s : Option Addr} {k c : Nat} {ys : List Nat} (hk : ys.length = k) (hr : RRdo w s ys) (hb : n0 + k ≤ 10000000) (hbase : base ≤ w.heap.size) :
    ∃ g cap w', (Builtin.append_ #[30, 30] ty #[.slice (some ⟨G, 0, none⟩) n0 c0, .slice s k c]).run Try.prog w = .ok (.slice (some ⟨g, 0, none⟩) (n0 + k) cap) w' ∧
      w'.ownsRow base 3 1 (.slice (some ⟨g, 0, none⟩) (n0 + k) cap) (n0 + k) ((olds ++ ys).map iv) ∧ w.grownBy w' (some G) := by
  obtain ⟨i1, hi, hz0, hz1, hz2⟩ := info_partsI
  have key : ∀ (ad : Addr) (news : List Value), news = ys.map iv → (∀ j u, news[j]? = some u → w.cell? (ad.add j) = some u) → ∃ g cap w', (Builtin.append_ #[30, 30] ty #[.slice (some ⟨G, 0, none⟩) n0 c0, .slice (some ad) k c]).run Try.prog w = .ok (.slice (some ⟨g, 0, none⟩) (n0 + k) cap) w' ∧
      w'.ownsRow base 3 1 (.slice (some ⟨g, 0, none⟩) (n0 + k) cap) (n0 + k) ((olds ++ ys).map iv) ∧ w.grownBy w' (some G) := by
    intro ad news hne hn
    obtain ⟨v', w', hrun, h2, h3, _, h5⟩ := run_append_own_at (P := Try.prog) w base 30 ty 3 i1 (.int .i64 0) 1 8 Try.underlying30 hi hz0 hz1 hz2 rfl (by omega) (.slice (some ⟨G, 0, none⟩) n0 c0) n0 (olds.map iv) hown ad k c news (by rw [hne, List.length_map, hk]; omega) hn (by rw [hne]; intro u hu; obtain ⟨x, -, rfl⟩ := List.mem_map.1 hu; rfl) (by unfold maxLen; omega) (by omega) hbase
    obtain ⟨g, cap, rfl, _, hlt⟩ := h2.form (by omega)
    exact ⟨g, cap, w', hrun, by rw [List.map_append, ← hne]; exact h2, h3⟩
  rcases hr with h | ⟨b, off, cs, e, h1, h2⟩
  · subst h
    simp only [List.length_nil] at hk
    subst hk
    cases s with
    | none =>
      refine ⟨G, c0, w, run_append_none w _ ty _ i1 Try.underlying30 hi _ _ _ _ (own_rdoI hown).2.1, ?_, grown_refl _ _⟩
      rw [List.append_nil]; exact hown
    | some ad => exact key ad [] rfl (fun j u h => by simp at h)
  · subst e
    refine key ⟨b, off, none⟩ (ys.map iv) rfl (fun j u hj => ?_)
    have hadd : (⟨b, off, none⟩ : Addr).add j = ⟨b, off + j, none⟩ := by unfold Addr.add; split <;> simp_all
    rw [hadd, h1.cell]
    rw [List.getElem?_map] at hj
    obtain ⟨x, hx, rfl⟩ := Option.map_eq_some_iff.1 hj
    obtain ⟨hj2, rfl⟩ := List.getElem?_eq_some_iff.1 hx
    exact h2 j hj2
/-- At a step of a region that draws its order. -/
theorem step_append_ints {w : World} {ops : Array Oper} {o : Oper} {a : Act} {K : Act → World → Prop} {Q : Exit → Act → World → Prop} {E : Prop} (hgd : o.guard = none) (s x : Operand)
    (ho : o.op = .call { callee := .builtin .append, args := #[s, x], argTypes := #[30, 30] })
    (base G n0 c0 : Nat) (olds : List Nat) (hs : a.eval s = .slice (some ⟨G, 0, none⟩) n0 c0) (hown : w.ownsRow base 3 1 (.slice (some ⟨G, 0, none⟩) n0 c0) n0 (olds.map iv)) (h0 : 0 < n0)
    (sx : Option Addr) (k c : Nat) (ys : List Nat) (hx : a.eval x = .slice sx k c) (hk : ys.length = k) (hr : RRdo w sx ys) (hb : n0 + k ≤ 10000000) (hbase : base ≤ w.heap.size)
    (h : ∀ g cap w', w'.ownsRow base 3 1 (.slice (some ⟨g, 0, none⟩) (n0 + k) cap) (n0 + k) ((olds ++ ys).map iv) → w.grownBy w' (some G) → K (a.put o.dst (.slice (some ⟨g, 0, none⟩) (n0 + k) cap)) w') :
    if Region.wanted o (yielded ops a.tmps) = true then Oper.wp Try.prog o a w K Q else E := by
  have hw : Region.wanted o (yielded ops a.tmps) = true := by simp [Region.wanted, hgd]
  rw [if_pos hw]
  obtain ⟨g, cap, w', hrun, h2, h3⟩ := run_append_ints (ty := o.type) hown h0 (c := c) hk hr hb hbase
  unfold Oper.wp execOp
  simp only [ho, resolve, invoke, builtin, Sem.run_bind, Sem.run_pure, Result.andThen_ok, List.map_toArray, List.map_cons, List.map_nil, hs, hx, hrun]
  exact h g cap w' h2 h3
end Go.Proofs.Ytljfhiikoimdiaa
