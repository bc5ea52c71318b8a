/- Streams as trees: size, records. -/
import Derived.Test.YtcioefmldcmhgaaGY
namespace Go.Proofs.Ytcioefmldcmhgaa
open Go.RowKit
set_option maxRecDepth 100000
set_option linter.unusedVariables false
set_option linter.unusedSimpArgs false

theorem RecsB.at {w0 W : World} {s : Option Addr} {n c : Nat} {rs : List KRec} (h : RecsB w0 W (.slice s n c) rs) (i : Nat) (hi : i < rs.length) : ∃ (a q : Addr) (sb : Option Addr) (cb kd dt : Nat) (bd : List Nat), s = some a ∧ a.add (i * 3) = q ∧ rs[i] = (kd, dt, bd) ∧ W.cell? q = some (.int .u8 (kd : Int)) ∧ W.cell? ⟨q.block, q.off + 1, none⟩ = some (.int .u8 (dt : Int)) ∧ W.cell? ⟨q.block, q.off + 2, none⟩ = some (.slice sb bd.length cb) := by
  obtain ⟨s', c', e, h1, _⟩ := h
  cases e
  obtain ⟨a, sb, cb, e, a0, a1, a2, _⟩ := h1 i hi
  rw [add_cell1] at a1
  rw [add_cell2] at a2
  exact ⟨a, _, sb, cb, _, _, _, e, rfl, rfl, a0, a1, a2⟩
theorem RecsB.shape {w0 W : World} {v : Value} {rs : List KRec} (h : RecsB w0 W v rs) : ∃ s c, v = .slice s rs.length c ∧ SlOk s rs.length c := by
  obtain ⟨s, c, e, _, h2, _⟩ := h
  exact ⟨s, c, e, h2⟩
/-- It stands where a block of another type, newer than the elder world, was written. -/
theorem RecsB.off {w0 W W' : World} {v : Value} {rs : List KRec} {q : Nat} {cs : Array Value} {te : TypeId} {fz : Nat × Nat} (h : RecsB w0 W v rs) (hg : W.grownBy W' (some q)) (hq : W.heap[q]? = some (.cells cs te fz)) (ht : te ≠ 45) (hn : w0.heap.size ≤ q) : RecsB w0 W' v rs := by
  obtain ⟨s, c, rfl, h1, h2, h3, h4⟩ := h
  have hne : ∀ a, s = some a → 0 < rs.length → a.block ≠ q := fun a e hl hb => by
    rcases h4 a e hl with h | ⟨cs', h⟩
    · omega
    · rw [hb] at h; exact ht (heap_types hq h)
  exact ⟨s, c, rfl, fun i hi => by
    obtain ⟨a, sb, cb, e, a0, a1, a2, a3⟩ := h1 i hi
    have hne := hne a e (by omega)
    have hk : ∀ k, (a.add k).block = a.block := fun k => by unfold Addr.add; split <;> rfl
    exact ⟨a, sb, cb, e, hg.cell a0 (by rw [hk]; intro e; exact hne (Option.some.inj e)), hg.cell a1 (by rw [hk]; intro e; exact hne (Option.some.inj e)), hg.cell a2 (by rw [hk]; intro e; exact hne (Option.some.inj e)), a3⟩, h2, h3, fun a e hl => (h4 a e hl).imp id fun ⟨cs', hb⟩ => ⟨cs', heap_off hg hb (fun e' => hne a e hl (Option.some.inj e'))⟩⟩
theorem RecsB.kept {w0 W W' : World} {v : Value} {rs : List KRec} (h : RecsB w0 W v rs) (hg : W.grownBy W' none) : RecsB w0 W' v rs := by
  obtain ⟨s, c, e, h1, h2, h3, h4⟩ := h
  exact ⟨s, c, e, fun i hi => by
    obtain ⟨a, sb, cb, e, a0, a1, a2, a3⟩ := h1 i hi
    exact ⟨a, sb, cb, e, hg.cell a0 (by simp), hg.cell a1 (by simp), hg.cell a2 (by simp), a3⟩, h2, h3, fun a e hl => (h4 a e hl).imp id fun ⟨cs', hb⟩ => ⟨cs', heap_kept hg hb⟩⟩
/-- How many bytes have been told. -/
def SizeSt (w0 : World) (q : Nat) (W : World) (rs : List KRec) : Prop := w0.grownBy W none ∧ w0.heap.size ≤ q ∧ W.heap[q]? = some (.cells #[.int .i64 ((joinB rs).length : Int)] 3 (0, 0))
theorem size_snoc (rs : List KRec) (r : KRec) : (joinB (rs ++ [r])).length = (joinB rs).length + (4 + r.2.2.length) := by
  rw [joinB_append, joinB_one, List.length_append, recB_len]; omega
set_option maxHeartbeats 16000000 in
theorem Size1_any (w0 w : World) (q : Nat) (v : Value) (rs more : List KRec) (hs : SizeSt w0 q w rs) (hm : RecsB w0 w v more) (hb : (joinB (rs ++ more)).length ≤ 1099511627776) :
    Calls Try.prog 57 #[v, .pointer (some ⟨q, 0, none⟩)] w (fun e w' => e = .returned (.tuple #[]) ∧ SizeSt w0 q w' (rs ++ more) ∧ w.grownBy w' (some q)) := by
  obtain ⟨s, c, rfl, hok⟩ := hm.shape
  obtain ⟨N, hN⟩ : ∃ N, more.length = N := ⟨_, rfl⟩
  rw [hN] at hok hm ⊢
  have hNm : N ≤ 9223372036854775807 := Nat.le_trans hok.2.1 hok.2.2
  have HM := Lib.hid hm
  have HN := Lib.hid hN
  have HS := Lib.hid hs
  have HB := Lib.hid hb
  have hG : w.grownBy w (some q) := grown_refl _ _
  clear hm hN hs hb hok
  go_enter Try.func57, Try.ntmps57
  go_wp2_with fail
  go_loopg [7] N (fun gh i wr => ∃ k : Nat, k ≤ N ∧ N - k ≤ gh ∧ i = .int .i64 (k : Int) ∧ Hid (SizeSt w0 q wr (rs ++ more.take k)) ∧ Hid (RecsB w0 wr (.slice s N c) more) ∧ w.grownBy wr (some q))
  case atStart => exact ⟨0, Nat.zero_le _, Nat.le_refl _, rfl, by simpa using HS, HM, hG⟩
  case round =>
    clear HS HM hG
    obtain ⟨k, hk, hgh, rfl, HS, HM, hG⟩ := hrel
    by_cases hlt : k < N
    · have f1 : decide ((k : Int) < (N : Int)) = true := decide_eq_true (by omega)
      have hkl : k < more.length := by have := HN.out; omega
      obtain ⟨a, q1, sb, cb, kd, dt, bd, rfl, hq1, hr, A0, A1, A2⟩ := HM.out.at k hkl
      have hsz : (joinB (rs ++ more.take (k + 1))).length = (joinB (rs ++ more.take k)).length + (4 + bd.length) := by
        rw [List.take_succ_eq_append_getElem hkl, ← List.append_assoc, size_snoc, hr]
      have hle : (joinB (rs ++ more.take (k + 1))).length ≤ 1099511627776 := by
        refine Nat.le_trans ?_ HB.out
        conv => rhs; rw [← List.take_append_drop (k + 1) more, ← List.append_assoc, joinB_append, List.length_append]
        omega
      obtain ⟨X, hX⟩ : ∃ X, (joinB (rs ++ more.take k)).length = X := ⟨_, rfl⟩
      rw [hX] at hsz
      obtain ⟨h0, hwq, Bq⟩ := HS.out
      rw [hX] at Bq
      rw [hsz] at hle
      have gA := World.grownBy_alloc wr (.cells #[.int .u8 (kd : Int), .int .u8 (dt : Int), .slice sb bd.length cb] 45) none
      have Bx := heap_new wr (.cells #[.int .u8 (kd : Int), .int .u8 (dt : Int), .slice sb bd.length cb] 45) wr.heap.size rfl
      have Bq2 := heap_kept gA Bq
      obtain ⟨Cx0, Cx1, Cx2, _, _, _⟩ := box_cells3 Bx
      obtain ⟨Cq, Fq⟩ := box_cell Bq2
      have gS : ((wr.alloc (.cells #[.int .u8 (kd : Int), .int .u8 (dt : Int), .slice sb bd.length cb] 45))).grownBy ((wr.alloc (.cells #[.int .u8 (kd : Int), .int .u8 (dt : Int), .slice sb bd.length cb] 45)).setCell ⟨q, 0, none⟩ (.int .i64 ((X : Int) + (4 + (bd.length : Int))))) (some q) := grown_set (grown_refl _ _) 0 _
      have HF : Hid (SizeSt w0 q ((wr.alloc (.cells #[.int .u8 (kd : Int), .int .u8 (dt : Int), .slice sb bd.length cb] 45)).setCell ⟨q, 0, none⟩ (.int .i64 ((X : Int) + (4 + (bd.length : Int))))) (rs ++ more.take (k + 1)) ∧ RecsB w0 ((wr.alloc (.cells #[.int .u8 (kd : Int), .int .u8 (dt : Int), .slice sb bd.length cb] 45)).setCell ⟨q, 0, none⟩ (.int .i64 ((X : Int) + (4 + (bd.length : Int))))) (.slice (some a) N c) more ∧ w.grownBy ((wr.alloc (.cells #[.int .u8 (kd : Int), .int .u8 (dt : Int), .slice sb bd.length cb] 45)).setCell ⟨q, 0, none⟩ (.int .i64 ((X : Int) + (4 + (bd.length : Int))))) (some q)) :=
        Lib.hid ⟨⟨grown_new (grown_trans h0 gA) gS hwq, hwq, by rw [hsz, show ((X + (4 + bd.length) : Nat) : Int) = (X : Int) + (4 + (bd.length : Int)) from by omega]; exact heap_set Bq2 _⟩, (HM.out.kept gA).off gS Bq2 (by decide) hwq, grown_trans (grown_trans hG (grown_any gA)) gS⟩
      have i1 : (X : Int) + (4 + (bd.length : Int)) ≤ 1099511627776 := by omega
      obtain ⟨L, hL⟩ : ∃ L, bd.length = L := ⟨_, rfl⟩
      rw [hL] at HF i1 A2 Cx2 Cq Fq
      clear gA Bx Bq Bq2 gS h0 hG hr hkl hsz hle hX hL
      go_wp2_with fail
      go_roundg (N - (k + 1))
      case measure => omega
      case rel => exact ⟨k + 1, by omega, Nat.le_refl _, by go_num, Lib.hid HF.out.1, Lib.hid HF.out.2.1, HF.out.2.2⟩
    · have f1 : decide ((k : Int) < (N : Int)) = false := decide_eq_false (by omega)
      have hF : Hid (SizeSt w0 q wr (rs ++ more)) := Lib.hid (by have := HS.out; rwa [List.take_of_length_le (by have := HN.out; omega)] at this)
      have HG := Lib.hid hG
      clear hG
      go_wp2_with fail
      first | go_end0 | refine bodyPost_ret (results_none rfl _ _ _) rfl ?_
      exact ⟨rfl, hF.out, HG.out⟩
theorem joinB_le_cat (rs ss ts : List KRec) : (joinB (rs ++ ss)).length ≤ (joinB (rs ++ ss ++ ts)).length := by
  rw [joinB_append (rs ++ ss) ts, List.length_append]; omega
theorem size_fed (w0 : World) (T : List KRec) (q : Nat) (hT : (joinB T).length ≤ 1099511627776) : Fed w0 T 57 q (SizeSt w0 q) :=
  ⟨fun _ _ h => h.1, fun _ _ _ h hg => ⟨grown_trans h.1 hg, h.2.1, heap_kept hg h.2.2⟩, fun W rs v more hs hm ⟨rest, e⟩ =>
    (Size1_any w0 W q v rs more hs hm (by
      have := joinB_le_cat rs more rest
      rw [← e] at this; omega)).mono fun e w' ⟨h1, h2, h3⟩ => ⟨h1, h2, KeepT.off h3 hs.2.2 (by decide) (by decide) (by decide)⟩⟩
theorem cf_size (args : Array Value) (W : World) : (callFunc 57 args).run Try.prog W = .ok (.enter 57 args) W :=
  run_callFunc_enter Try.func57 (by kernel_rfl) (by kernel_rfl) args W
theorem cf_records (args : Array Value) (W : World) : (callFunc 58 args).run Try.prog W = .ok (.enter 58 args) W :=
  run_callFunc_enter Try.func58 (by kernel_rfl) (by kernel_rfl) args W
set_option maxHeartbeats 16000000 in
theorem Size_any (w : World) (v : Value) (t : KLib) (hv : LibV w v t) (hT : (joinB (recT t)).length ≤ 1099511627776) :
    Calls Try.prog 35 #[v] w (fun e w' => e = .returned (.int .i64 ((joinB (recT t)).length : Int)) ∧ w.grownBy w' none) := by
  have hmf : ∀ (fn : Fn) (first cap : Array Value) (w : World), (Instr.makeFunc fn first cap).run Try.prog w = .ok (.func fn first cap) w := fun _ _ _ _ => rfl
  obtain ⟨sa, ca, sb, cb, rfl⟩ := hv.two
  have hG1 := World.grownBy_alloc w (.cells #[.slice sa t.1.length ca, .slice sb t.2.length cb] 27) none
  have Bt := heap_new w (.cells #[.slice sa t.1.length ca, .slice sb t.2.length cb] 27) w.heap.size rfl
  have gB := World.grownBy_alloc (w.alloc (.cells #[.slice sa t.1.length ca, .slice sb t.2.length cb] 27)) (.cells #[.int .i64 0] 3) none
  have Bq := heap_new (w.alloc (.cells #[.slice sa t.1.length ca, .slice sb t.2.length cb] 27)) (.cells #[.int .i64 0] 3) (w.heap.size + 1) (by simp)
  have Bt2 := heap_kept gB Bt
  have hG := grown_trans hG1 gB
  obtain ⟨C0, C1, _, _⟩ := box_cells2 Bt2
  have HS : Hid (SizeSt w (w.heap.size + 1) ((w.alloc (.cells #[.slice sa t.1.length ca, .slice sb t.2.length cb] 27)).alloc (.cells #[.int .i64 0] 3)) []) := Lib.hid ⟨hG, by omega, Bq⟩
  have HV := Lib.hid hv
  have HT := Lib.hid hT
  clear hv hT Bt Bq Bt2 hG1 gB hG
  go_enter Try.func35, Try.ntmps35
  go_wp2_with fail
  generalize ((w.alloc (.cells #[.slice sa t.1.length ca, .slice sb t.2.length cb] 27)).alloc (.cells #[.int .i64 0] 3)) = wa at *
  refine (Each_any w wa 57 (w.heap.size + 1) (SizeSt w (w.heap.size + 1)) _ t (size_fed w (recT t) _ HT.out) HV.out HS.out cf_size).mono ?_
  rintro e w1 ⟨rfl, hs1⟩
  have HG := Lib.hid hs1.1
  obtain ⟨Cq, _⟩ := box_cell hs1.2.2
  clear hs1 C0 C1
  go_wp2_with fail
  go_ret
  exact ⟨rfl, HG.out⟩
/-- A row of records of the call's own, whose bodies lie in an elder world. -/
def OwnU (w0 W : World) (v : Value) (rs : List KRec) : Prop :=
  ∃ ys : List Value, W.ownsRow w0.heap.size 45 3 v rs.length ys ∧ (∀ u ∈ ys, u.oneCell' = true) ∧ Small rs ∧
    ∀ i (h : i < rs.length), ∃ sb cb, ys[i * 3]? = some (.int .u8 (rs[i].1 : Int)) ∧ ys[i * 3 + 1]? = some (.int .u8 (rs[i].2.1 : Int)) ∧ ys[i * 3 + 2]? = some (.slice sb rs[i].2.2.length cb) ∧ BySl w0 sb rs[i].2.2 ∧ (sb = none → rs[i].2.2.length = 0 ∧ cb = 0) ∧ rs[i].2.2.length ≤ cb ∧ cb ≤ 9223372036854775807
theorem OwnU.nil (w0 W : World) : OwnU w0 W (.slice none 0 0) [] := ⟨[], ⟨rfl, Or.inl ⟨rfl, rfl⟩⟩, by simp, Small.nil, fun i h => by simp at h⟩
theorem OwnU.kept {w0 W W' : World} {v : Value} {rs : List KRec} (h : OwnU w0 W v rs) (hg : W.grownBy W' none) : OwnU w0 W' v rs := by
  obtain ⟨ys, h1, h2⟩ := h
  exact ⟨ys, own_kept h1 hg, h2⟩
theorem OwnU.shape {w0 W : World} {v : Value} {rs : List KRec} (h : OwnU w0 W v rs) : ∃ s c, v = .slice s rs.length c ∧ SlOk s rs.length c := by
  obtain ⟨ys, ⟨_, ⟨e, hn⟩ | ⟨g, cap, cur, rfl, _, _, h1, h2, _⟩⟩, _⟩ := h
  · exact ⟨none, 0, by rw [e, hn], fun _ => ⟨hn, rfl⟩, by omega, by omega⟩
  · exact ⟨_, _, rfl, (fun e => by cases e), h1, by unfold maxLen at h2; omega⟩
theorem OwnU.recs {w0 W : World} {v : Value} {rs : List KRec} (h : OwnU w0 W v rs) (h0 : w0.grownBy W none) : RecsV W v rs := by
  obtain ⟨s, c, rfl, hok⟩ := h.shape
  obtain ⟨ys, h1, h2, h3, h4⟩ := h
  refine ⟨s, c, rfl, fun i hi => ?_, hok, h3⟩
  obtain ⟨sb, cb, b0, b1, b2, b3, b4⟩ := h4 i hi
  have h1' := h1
  obtain ⟨hl, ⟨e, e2⟩ | ⟨k, cap', cur, e, hg', hb, hr⟩⟩ := h1'
  · omega
  · cases e
    exact ⟨_, sb, cb, rfl, h1.cells rfl _ _ b0, h1.cells rfl _ _ b1, h1.cells rfl _ _ b2, b3.kept h0, b4⟩
/-- The cells of a slice of records, as values. -/
theorem RecsB.vals {w0 W : World} {v : Value} {rs : List KRec} (h : RecsB w0 W v rs) : ∃ xs : List Value, xs.length = rs.length * 3 ∧ (∀ u ∈ xs, u.oneCell' = true) ∧ (∀ a c, v = .slice (some a) rs.length c → ∀ j u, xs[j]? = some u → W.cell? (a.add j) = some u) ∧
    ∀ i (hi : i < rs.length), ∃ sb cb, xs[i * 3]? = some (.int .u8 (rs[i].1 : Int)) ∧ xs[i * 3 + 1]? = some (.int .u8 (rs[i].2.1 : Int)) ∧ xs[i * 3 + 2]? = some (.slice sb rs[i].2.2.length cb) ∧ BySl w0 sb rs[i].2.2 ∧ (sb = none → rs[i].2.2.length = 0 ∧ cb = 0) ∧ rs[i].2.2.length ≤ cb ∧ cb ≤ 9223372036854775807 := by
  obtain ⟨s, c, rfl, h1, _⟩ := h
  have key : ∀ m, m ≤ rs.length → ∃ xs : List Value, xs.length = m * 3 ∧ (∀ u ∈ xs, u.oneCell' = true) ∧ (∀ a, s = some a → ∀ j u, xs[j]? = some u → W.cell? (a.add j) = some u) ∧
      ∀ i (hi : i < rs.length), i < m → ∃ sb cb, xs[i * 3]? = some (.int .u8 (rs[i].1 : Int)) ∧ xs[i * 3 + 1]? = some (.int .u8 (rs[i].2.1 : Int)) ∧ xs[i * 3 + 2]? = some (.slice sb rs[i].2.2.length cb) ∧ BySl w0 sb rs[i].2.2 ∧ (sb = none → rs[i].2.2.length = 0 ∧ cb = 0) ∧ rs[i].2.2.length ≤ cb ∧ cb ≤ 9223372036854775807 := by
    intro m
    induction m with
    | zero => intro _; exact ⟨[], rfl, by simp, by simp, fun i hi h => by omega⟩
    | succ m ih =>
      intro hm
      obtain ⟨xs, e1, e2, e3, e4⟩ := ih (by omega)
      obtain ⟨a, sb, cb, rfl, a0, a1, a2, a3, a4⟩ := h1 m (by omega)
      refine ⟨xs ++ [.int .u8 (rs[m].1 : Int), .int .u8 (rs[m].2.1 : Int), .slice sb rs[m].2.2.length cb], by simp [e1]; omega, ?_, ?_, ?_⟩
      · intro u hu
        rcases List.mem_append.1 hu with hu | hu
        · exact e2 u hu
        · simp at hu
          rcases hu with rfl | rfl | rfl <;> rfl
      · intro b hb j u hj
        cases hb
        rcases Nat.lt_or_ge j xs.length with hlt | hge
        · rw [List.getElem?_append_left hlt] at hj
          exact e3 a rfl j u hj
        · rw [List.getElem?_append_right hge, e1] at hj
          have hj3 : j - m * 3 < 3 := by
            rcases Nat.lt_or_ge (j - m * 3) 3 with h | h
            · exact h
            · rw [List.getElem?_eq_none (by simpa using h)] at hj; cases hj
          rcases (show j = m * 3 ∨ j = m * 3 + 1 ∨ j = m * 3 + 2 by omega) with rfl | rfl | rfl
          · simp at hj; subst hj; exact a0
          · simp at hj; subst hj; exact a1
          · simp at hj; subst hj; exact a2
      · intro i hi him
        rcases Nat.lt_or_ge i m with hlt | hge
        · obtain ⟨sb', cb', b0, b1, b2, b3⟩ := e4 i hi hlt
          exact ⟨sb', cb', by rw [List.getElem?_append_left (by omega)]; exact b0, by rw [List.getElem?_append_left (by omega)]; exact b1, by rw [List.getElem?_append_left (by omega)]; exact b2, b3⟩
        · obtain rfl : i = m := by omega
          exact ⟨sb, cb, by rw [List.getElem?_append_right (by omega), e1]; simp, by rw [List.getElem?_append_right (by omega), e1]; simp, by rw [List.getElem?_append_right (by omega), e1]; simp, a3, a4⟩
  obtain ⟨xs, e1, e2, e3, e4⟩ := key rs.length (Nat.le_refl _)
  exact ⟨xs, e1, e2, fun a c e => by cases e; exact e3 a rfl, fun i hi => e4 i hi hi⟩
/-- More records behind. -/
theorem OwnU.app {w0 W : World} {v : Value} {ys xs : List Value} {rs ss : List KRec} {n : Nat} (hl : ys.length = rs.length * 3) (h1 : ∀ u ∈ ys, u.oneCell' = true) (h2 : ∀ u ∈ xs, u.oneCell' = true) (hs1 : Small rs) (hs2 : Small ss)
    (h3 : ∀ i (h : i < rs.length), ∃ sb cb, ys[i * 3]? = some (.int .u8 (rs[i].1 : Int)) ∧ ys[i * 3 + 1]? = some (.int .u8 (rs[i].2.1 : Int)) ∧ ys[i * 3 + 2]? = some (.slice sb rs[i].2.2.length cb) ∧ BySl w0 sb rs[i].2.2 ∧ (sb = none → rs[i].2.2.length = 0 ∧ cb = 0) ∧ rs[i].2.2.length ≤ cb ∧ cb ≤ 9223372036854775807)
    (h4 : ∀ i (h : i < ss.length), ∃ sb cb, xs[i * 3]? = some (.int .u8 (ss[i].1 : Int)) ∧ xs[i * 3 + 1]? = some (.int .u8 (ss[i].2.1 : Int)) ∧ xs[i * 3 + 2]? = some (.slice sb ss[i].2.2.length cb) ∧ BySl w0 sb ss[i].2.2 ∧ (sb = none → ss[i].2.2.length = 0 ∧ cb = 0) ∧ ss[i].2.2.length ≤ cb ∧ cb ≤ 9223372036854775807)
    (hown : W.ownsRow w0.heap.size 45 3 v n (ys ++ xs)) (hn : rs.length + ss.length = n) : OwnU w0 W v (rs ++ ss) := by
  refine ⟨ys ++ xs, by rw [List.length_append, hn]; exact hown, ?_, ?_, fun i hi => ?_⟩
  · intro u hu
    rcases List.mem_append.1 hu with hu | hu
    · exact h1 u hu
    · exact h2 u hu
  · intro r hr
    rcases List.mem_append.1 hr with hr | hr
    · exact hs1 r hr
    · exact hs2 r hr
  · rw [List.length_append] at hi
    rcases Nat.lt_or_ge i rs.length with hlt | hge
    · obtain ⟨sb, cb, b0, b1, b2, b3⟩ := h3 i hlt
      rw [List.getElem_append_left hlt]
      exact ⟨sb, cb, by rw [List.getElem?_append_left (by omega)]; exact b0, by rw [List.getElem?_append_left (by omega)]; exact b1, by rw [List.getElem?_append_left (by omega)]; exact b2, b3⟩
    · obtain ⟨sb, cb, b0, b1, b2, b3⟩ := h4 (i - rs.length) (by omega)
      rw [List.getElem_append_right hge]
      exact ⟨sb, cb, by rw [List.getElem?_append_right (by omega), hl, ← Nat.sub_mul]; exact b0, by rw [List.getElem?_append_right (by omega), hl, show i * 3 + 1 - rs.length * 3 = (i - rs.length) * 3 + 1 from by omega]; exact b1, by rw [List.getElem?_append_right (by omega), hl, show i * 3 + 2 - rs.length * 3 = (i - rs.length) * 3 + 2 from by omega]; exact b2, b3⟩
end Go.Proofs.Ytcioefmldcmhgaa
