/- Streams as trees: rows of records that a tree has; since, taken, over, end. -/
import Derived.Test.YtcioefmldcmhgaaGE
import Derived.Test.YtcioefmldcmhgaaKStep
namespace Go.Proofs.Ytcioefmldcmhgaa
open Go.RowKit
set_option maxRecDepth 100000
set_option linter.unusedVariables false
set_option linter.unusedSimpArgs false

/-- A body in a block of its own. -/
def BodyT (w0 W : World) (sb : Option Addr) (l : List Nat) : Prop := ∃ g, sb = some ⟨g, 0, none⟩ ∧ ByBlk W g l
/-- A row of records: none, or a block of records. -/
def RowT (w0 W : World) (v : Value) (rs : List KRec) : Prop :=
  (rs = [] ∧ v = .slice none 0 0) ∨ ∃ g cap cur, v = .slice (some ⟨g, 0, none⟩) rs.length cap ∧ W.heap[g]? = some (.cells cur 45 (0, 0)) ∧ rs.length ≤ cap ∧ cap ≤ 9223372036854775807 ∧
    ∀ i (h : i < rs.length), ∃ sb cb, cur[i * 3]? = some (.int .u8 (rs[i].1 : Int)) ∧ cur[i * 3 + 1]? = some (.int .u8 (rs[i].2.1 : Int)) ∧ cur[i * 3 + 2]? = some (.slice sb rs[i].2.2.length cb) ∧ BodyT w0 W sb rs[i].2.2 ∧ (sb = none → rs[i].2.2.length = 0 ∧ cb = 0) ∧ rs[i].2.2.length ≤ cb ∧ cb ≤ 9223372036854775807
theorem BodyT.kept {w0 W W' : World} {sb : Option Addr} {l : List Nat} (h : BodyT w0 W sb l) (hg : W.grownBy W' none) : BodyT w0 W' sb l :=
  h.imp fun g ⟨e, b⟩ => ⟨e, b.kept hg⟩
theorem BodyT.off {w0 W W' : World} {sb : Option Addr} {l : List Nat} {q : Nat} {cs : Array Value} {t : TypeId} {fz : Nat × Nat} (h : BodyT w0 W sb l) (hg : W.grownBy W' (some q)) (hq : W.heap[q]? = some (.cells cs t fz)) (h1 : t ≠ 5) : BodyT w0 W' sb l :=
  h.imp fun g ⟨e, b⟩ => ⟨e, b.off hg (fun e => by
    cases e
    obtain ⟨⟨cur, hc, _⟩, _⟩ := b
    rw [hc] at hq; cases hq; exact h1 rfl)⟩
theorem RowT.kept {w0 W W' : World} {v : Value} {rs : List KRec} (h : RowT w0 W v rs) (hg : W.grownBy W' none) : RowT w0 W' v rs :=
  h.imp id fun ⟨g, cap, cur, e, hb, h1, h2, h3⟩ => ⟨g, cap, cur, e, heap_kept hg hb, h1, h2, fun i hi => by
    obtain ⟨sb, cb, a1, a2, a3, a4, a5⟩ := h3 i hi
    exact ⟨sb, cb, a1, a2, a3, a4.kept hg, a5⟩⟩
theorem RowT.off {w0 W W' : World} {v : Value} {rs : List KRec} {q : Nat} {cs : Array Value} {t : TypeId} {fz : Nat × Nat} (h : RowT w0 W v rs) (hg : W.grownBy W' (some q)) (hq : W.heap[q]? = some (.cells cs t fz)) (h1 : t ≠ 5) (h2 : t ≠ 45) : RowT w0 W' v rs :=
  h.imp id fun ⟨g, cap, cur, e, hb, k1, k2, h3⟩ => ⟨g, cap, cur, e, heap_off hg hb (fun e => by cases e; rw [hb] at hq; cases hq; exact h2 rfl), k1, k2, fun i hi => by
    obtain ⟨sb, cb, a1, a2, a3, a4, a5⟩ := h3 i hi
    exact ⟨sb, cb, a1, a2, a3, a4.off hg hq h1, a5⟩⟩
theorem RowT.shape {w0 W : World} {v : Value} {rs : List KRec} (h : RowT w0 W v rs) : ∃ s c, v = .slice s rs.length c ∧ (s = none → rs.length = 0 ∧ c = 0) ∧ rs.length ≤ c ∧ c ≤ 9223372036854775807 := by
  rcases h with ⟨rfl, rfl⟩ | ⟨g, cap, cur, rfl, _, h1, h2, _⟩
  · exact ⟨_, _, rfl, fun _ => ⟨rfl, rfl⟩, Nat.le_refl _, by omega⟩
  · exact ⟨_, _, rfl, (fun e => by cases e), h1, h2⟩
theorem cell_of {W : World} {g k : Nat} {cur : Array Value} {t : TypeId} {fz : Nat × Nat} {u : Value} (h : W.heap[g]? = some (.cells cur t fz)) (hc : cur[k]? = some u) : W.cell? ((⟨g, 0, none⟩ : Addr).add k) = some u := by
  have e : (⟨g, 0, none⟩ : Addr).add k = ⟨g, k, none⟩ := by unfold Addr.add; split <;> simp_all
  rw [e]; simp [World.cell?, h, hc]
theorem BodyT.sl {w0 W : World} {sb : Option Addr} {l : List Nat} (h : BodyT w0 W sb l) : BySl W sb l := by
  obtain ⟨g, rfl, b⟩ := h
  exact b.sl
theorem RowT.sl {w0 W : World} {s : Option Addr} {n c : Nat} {rs : List KRec} (h : RowT w0 W (.slice s n c) rs) : RcSl W s rs := fun i hi => by
  rcases h with ⟨rfl, e⟩ | ⟨g, cap, cur, e, hb, k1, k2, h3⟩
  · simp at hi
  · cases e
    obtain ⟨sb, cb, a1, a2, a3, a4, a5⟩ := h3 i hi
    exact ⟨_, sb, cb, rfl, cell_of hb a1, cell_of hb a2, cell_of hb a3, a4.sl, a5⟩
set_option maxHeartbeats 16000000 in
theorem Over_any (c : Lst) (w : World) (h0 : c.w0.grownBy w none) :
    Calls Try.prog 29 #[.slice c.s c.n c.cap] w (fun e w' => e = .returned (.pointer (some ⟨w.heap.size, 0, none⟩)) ∧ w.grownBy w' none ∧ (c.rs.length = c.n → Ps c w.heap.size w' c.rs)) := by
  have hG := World.grownBy_alloc w (.cells #[.slice c.s c.n c.cap, .int .i64 0] 85) none
  have hB := heap_new w (.cells #[.slice c.s c.n c.cap, .int .i64 0] 85) w.heap.size rfl
  have hF : Hid (w.grownBy (w.alloc (.cells #[.slice c.s c.n c.cap, .int .i64 0] 85)) none ∧ (c.rs.length = c.n → Ps c w.heap.size (w.alloc (.cells #[.slice c.s c.n c.cap, .int .i64 0] 85)) c.rs)) :=
    Lib.hid ⟨hG, fun e => ⟨grown_trans h0 hG, h0.size, by omega, by rw [e, Nat.sub_self]; rfl, by rw [e, Nat.sub_self]; exact hB⟩⟩
  clear hG hB
  go_enter Try.func29, Try.ntmps29
  go_wp2_with fail
  go_ret
  exact ⟨rfl, hF.out⟩
set_option maxHeartbeats 16000000 in
theorem End_any (c : Lst) (w : World) (g : Nat) (l : List KRec) (hp : Ps c g w l) :
    Calls Try.prog 74 #[.pointer (some ⟨g, 0, none⟩)] w (fun e w' => w.grownBy w' none ∧ ((l = [] ∧ e = .returned (.tuple #[])) ∨ (l ≠ [] ∧ e = mis))) := by
  obtain ⟨h1, h2, h3, h4, h5⟩ := hp
  obtain ⟨C0, C1, F0, F1⟩ := box_cells2 h5
  obtain ⟨b, hb⟩ : ∃ b, (((c.n - l.length : Nat) : Int) == (c.n : Int)) = b := ⟨_, rfl⟩
  have HE := Lib.hid (Ended_any w g c.n c.cap (c.n - l.length) c.s C0 C1 b hb)
  have hl : b = true ↔ l = [] := by
    rw [← hb, beq_iff_eq, ← List.length_eq_zero_iff]; omega
  have HL := Lib.hid hl
  clear h1 h2 h3 h4 h5 hb hl C0 C1 F0 F1
  go_enter Try.func74, Try.ntmps74
  go_wp2_with fail
  refine HE.out.mono ?_
  rintro e w1 ⟨rfl, hg1⟩
  cases b with
  | true =>
    have hF := Lib.hid (And.intro hg1 (HL.out.1 rfl))
    clear hg1
    go_wp2_with fail
    first | go_end0 | refine bodyPost_ret (results_none rfl _ _ _) rfl ?_
    exact ⟨hF.out.1, Or.inl ⟨hF.out.2, rfl⟩⟩
  | false =>
    have hne : l ≠ [] := fun h => by have := HL.out.2 h; cases this
    have hF := Lib.hid (And.intro hg1 hne)
    clear hg1 hne
    go_wp2_with fail
    exact ⟨rfl, hF.out.1, Or.inr ⟨hF.out.2, rfl⟩⟩
theorem flat_get {rs : List KRec} {k i : Nat} (h : k + i < rs.length) : (rs.drop k)[i]'(by rw [List.length_drop]; omega) = rs[k + i] := by rw [List.getElem_drop]
/-- A slice of records whose bodies lie in blocks of their own. -/
def RcT (W : World) (s : Option Addr) (rs : List KRec) : Prop :=
  ∀ i (h : i < rs.length), ∃ a sb cb, s = some a ∧ W.cell? (a.add (i * 3)) = some (.int .u8 (rs[i].1 : Int)) ∧ W.cell? (a.add (i * 3 + 1)) = some (.int .u8 (rs[i].2.1 : Int)) ∧ W.cell? (a.add (i * 3 + 2)) = some (.slice sb rs[i].2.2.length cb) ∧ BodyT W W sb rs[i].2.2 ∧ (sb = none → rs[i].2.2.length = 0 ∧ cb = 0) ∧ rs[i].2.2.length ≤ cb ∧ cb ≤ 9223372036854775807
theorem OwnR.rct {W : World} {base n cap : Nat} {s : Option Addr} {rs : List KRec} (h : OwnR W base (.slice s n cap) n rs) : RcT W s rs := fun i hi => by
  obtain ⟨xs, h1, h2, h3, h4⟩ := h
  obtain ⟨g, cb, a1, a2, a3, a4, a5, a6, a7⟩ := h4 i hi
  have h1' := h1
  obtain ⟨h0, ⟨e, e2⟩ | ⟨k, cap', cur, e, hg', hb, hr⟩⟩ := h1'
  · omega
  · cases e
    exact ⟨_, _, cb, rfl, h1.cells rfl _ _ a1, h1.cells rfl _ _ a2, h1.cells rfl _ _ a3, ⟨g, rfl, a5⟩, (fun e => by cases e), a6, a7⟩
/-- The list lies so. -/
def Lst.lies (c : Lst) (ad : Addr) : Prop := c.s = some ad ∧ RcT c.w0 c.s c.rs
/-- The cells of some records of a list, as values. -/
theorem RcT.vals {W : World} {a : Addr} {rs : List KRec} (h : RcT W (some a) rs) (k m : Nat) (hm : k + m ≤ rs.length) : ∃ xs : List Value, xs.length = m * 3 ∧ (∀ u ∈ xs, u.oneCell' = true) ∧ (∀ j u, xs[j]? = some u → W.cell? ((a.add (k * 3)).add j) = some u) ∧
    ∀ i (hi : i < m), ∃ sb cb, xs[i * 3]? = some (.int .u8 ((rs[k + i]'(by omega)).1 : Int)) ∧ xs[i * 3 + 1]? = some (.int .u8 ((rs[k + i]'(by omega)).2.1 : Int)) ∧ xs[i * 3 + 2]? = some (.slice sb (rs[k + i]'(by omega)).2.2.length cb) ∧ BodyT W W sb (rs[k + i]'(by omega)).2.2 ∧ (sb = none → (rs[k + i]'(by omega)).2.2.length = 0 ∧ cb = 0) ∧ (rs[k + i]'(by omega)).2.2.length ≤ cb ∧ cb ≤ 9223372036854775807 := by
  induction m with
  | zero => exact ⟨[], rfl, by simp, by simp, fun i hi => by omega⟩
  | succ m ih =>
    obtain ⟨xs, h1, h2, h3, h4⟩ := ih (by omega)
    obtain ⟨a', sb, cb, e, a0, a1, a2, a3, a4⟩ := h (k + m) (by omega)
    cases e
    refine ⟨xs ++ [.int .u8 ((rs[k + m]'(by omega)).1 : Int), .int .u8 ((rs[k + m]'(by omega)).2.1 : Int), .slice sb (rs[k + m]'(by omega)).2.2.length cb], by simp [h1]; omega, ?_, ?_, ?_⟩
    · intro u hu
      rcases List.mem_append.1 hu with hu | hu
      · exact h2 u hu
      · simp at hu
        rcases hu with rfl | rfl | rfl <;> rfl
    · intro j u hj
      rcases Nat.lt_or_ge j xs.length with hlt | hge
      · rw [List.getElem?_append_left hlt] at hj
        exact h3 j u hj
      · rw [List.getElem?_append_right hge, h1] at hj
        have hj3 : j - m * 3 < 3 := by
          rcases Nat.lt_or_ge (j - m * 3) 3 with h | h
          · exact h
          · rw [List.getElem?_eq_none (by simpa using h)] at hj; cases hj
        rw [Addr.add_add]
        rcases (show j = m * 3 ∨ j = m * 3 + 1 ∨ j = m * 3 + 2 by omega) with rfl | rfl | rfl
        · simp at hj; subst hj; rw [show k * 3 + m * 3 = (k + m) * 3 from by omega]; exact a0
        · simp at hj; subst hj; rw [show k * 3 + (m * 3 + 1) = (k + m) * 3 + 1 from by omega]; exact a1
        · simp at hj; subst hj; rw [show k * 3 + (m * 3 + 2) = (k + m) * 3 + 2 from by omega]; exact a2
    · intro i hi
      rcases Nat.lt_or_ge i m with hlt | hge
      · obtain ⟨sb', cb', b0, b1, b2, b3⟩ := h4 i hlt
        exact ⟨sb', cb', by rw [List.getElem?_append_left (by omega)]; exact b0, by rw [List.getElem?_append_left (by omega)]; exact b1, by rw [List.getElem?_append_left (by omega)]; exact b2, b3⟩
      · obtain rfl : i = m := by omega
        exact ⟨sb, cb, by rw [List.getElem?_append_right (by omega), h1]; simp, by rw [List.getElem?_append_right (by omega), h1]; simp, by rw [List.getElem?_append_right (by omega), h1]; simp, a3, a4⟩
/-- A row that an append to none has made. -/
theorem RowT.of {w0 W : World} {base n g cap : Nat} {xs : List Value} {rs : List KRec} (h : W.ownsRow base 45 3 (.slice (some ⟨g, 0, none⟩) n cap) n xs) (hn : rs.length = n)
    (h4 : ∀ i (hi : i < rs.length), ∃ sb cb, xs[i * 3]? = some (.int .u8 (rs[i].1 : Int)) ∧ xs[i * 3 + 1]? = some (.int .u8 (rs[i].2.1 : Int)) ∧ xs[i * 3 + 2]? = some (.slice sb rs[i].2.2.length cb) ∧ BodyT w0 W sb rs[i].2.2 ∧ (sb = none → rs[i].2.2.length = 0 ∧ cb = 0) ∧ rs[i].2.2.length ≤ cb ∧ cb ≤ 9223372036854775807) : RowT w0 W (.slice (some ⟨g, 0, none⟩) n cap) rs := by
  obtain ⟨h0, ⟨e, _⟩ | ⟨g', cap', cur, e, hg', hb, hc1, hc2, hsz, htk⟩⟩ := h
  · cases e
  · cases e
    subst hn
    refine Or.inr ⟨g, cap, cur, rfl, hb, hc1, by unfold maxLen at hc2; omega, fun i hi => ?_⟩
    obtain ⟨sb, cb, a0, a1, a2, a3⟩ := h4 i hi
    have up : ∀ j u, xs[j]? = some u → cur[j]? = some u := fun j u hj => by
      rw [← htk, List.getElem?_take] at hj
      split at hj
      · simpa using hj
      · cases hj
    exact ⟨sb, cb, up _ _ a0, up _ _ a1, up _ _ a2, a3⟩
end Go.Proofs.Ytcioefmldcmhgaa
