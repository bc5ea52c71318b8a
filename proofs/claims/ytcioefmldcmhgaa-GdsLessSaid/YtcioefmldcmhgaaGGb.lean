/-
  Streams as trees: the document's Records.
-/
import Derived.Test.YtcioefmldcmhgaaGBa
import Derived.Test.YtcioefmldcmhgaaGU
import Derived.Test.YtcioefmldcmhgaaGZ
import Derived.Lib.AppendZeros
import Derived.Test.YtcioefmldcmhgaaGFew
import Derived.Test.YtcioefmldcmhgaaGX
namespace Go.Proofs.Ytcioefmldcmhgaa
open Go.RowKit
set_option maxRecDepth 100000
set_option linter.unusedVariables false
set_option linter.unusedSimpArgs false

/-- A body: none, or a block of bytes. -/
def BodyL (W : World) (sb : Option Addr) (l : List Nat) : Prop := (sb = none ∧ l = []) ∨ ∃ g, sb = some ⟨g, 0, none⟩ ∧ ByBlk W g l
theorem BodyL.sl {W : World} {sb : Option Addr} {l : List Nat} (h : BodyL W sb l) : BySl W sb l := by
  rcases h with ⟨rfl, rfl⟩ | ⟨g, rfl, b⟩
  · exact BySl.nil _ _
  · exact b.sl
theorem BodyL.kept {W W' : World} {sb : Option Addr} {l : List Nat} (h : BodyL W sb l) (hg : W.grownBy W' none) : BodyL W' sb l :=
  h.imp id fun ⟨g, e, b⟩ => ⟨g, e, b.kept hg⟩
theorem BodyL.row {W W' : World} {base n : Nat} {v : Value} {xs : List Value} {sb : Option Addr} {l : List Nat} (h : BodyL W sb l) (ho : W.ownsRow base 45 3 v n xs) (hg : W.grownBy W' v.ownBlock) : BodyL W' sb l :=
  h.imp id fun ⟨g, e, b⟩ => ⟨g, e, b.row ho hg⟩
/-- The values of some records. -/
def ValsL (W : World) (xs : List Value) (rs : List KRec) : Prop :=
  xs.length = rs.length * 3 ∧ (∀ u ∈ xs, u.oneCell' = true) ∧ ∀ i (h : i < rs.length), ∃ sb cb, xs[i * 3]? = some (.int .u8 (rs[i].1 : Int)) ∧ xs[i * 3 + 1]? = some (.int .u8 (rs[i].2.1 : Int)) ∧ xs[i * 3 + 2]? = some (.slice sb rs[i].2.2.length cb) ∧ BodyL W sb rs[i].2.2 ∧ (sb = none → rs[i].2.2.length = 0 ∧ cb = 0) ∧ rs[i].2.2.length ≤ cb ∧ cb ≤ 9223372036854775807
theorem ValsL.map {W W' : World} {xs : List Value} {rs : List KRec} (h : ValsL W xs rs) (hb : ∀ sb l, BodyL W sb l → BodyL W' sb l) : ValsL W' xs rs :=
  ⟨h.1, h.2.1, fun i hi => by
    obtain ⟨sb, cb, a0, a1, a2, a3, a4⟩ := h.2.2 i hi
    exact ⟨sb, cb, a0, a1, a2, hb _ _ a3, a4⟩⟩
theorem ValsL.app {W : World} {ys xs : List Value} {rs ss : List KRec} (h : ValsL W ys rs) (h2 : ValsL W xs ss) : ValsL W (ys ++ xs) (rs ++ ss) := by
  obtain ⟨hl, h1, h3⟩ := h
  obtain ⟨hl2, h12, h4⟩ := h2
  refine ⟨by rw [List.length_append, List.length_append, hl, hl2]; omega, ?_, fun i hi => ?_⟩
  · intro u hu
    rcases List.mem_append.1 hu with hu | hu
    · exact h1 u hu
    · exact h12 u hu
  · rw [List.length_append] at hi
    rcases Nat.lt_or_ge i rs.length with hlt | hge
    · obtain ⟨sb, cb, b0, b1, b2, b3⟩ := h3 i hlt
      rw [List.getElem_append_left hlt]
      exact ⟨sb, cb, by rw [List.getElem?_append_left (by omega)]; exact b0, by rw [List.getElem?_append_left (by omega)]; exact b1, by rw [List.getElem?_append_left (by omega)]; exact b2, b3⟩
    · obtain ⟨sb, cb, b0, b1, b2, b3⟩ := h4 (i - rs.length) (by omega)
      rw [List.getElem_append_right hge]
      exact ⟨sb, cb, by rw [List.getElem?_append_right (by omega), hl, ← Nat.sub_mul]; exact b0, by rw [List.getElem?_append_right (by omega), hl, show i * 3 + 1 - rs.length * 3 = (i - rs.length) * 3 + 1 from by omega]; exact b1, by rw [List.getElem?_append_right (by omega), hl, show i * 3 + 2 - rs.length * 3 = (i - rs.length) * 3 + 2 from by omega]; exact b2, b3⟩
/-- A row of records of the call's own, whose bodies are new, or none. -/
def OwnL (W : World) (base : Nat) (v : Value) (rs : List KRec) : Prop := ∃ ys, W.ownsRow base 45 3 v rs.length ys ∧ ValsL W ys rs
theorem OwnL.kept {W W' : World} {base : Nat} {v : Value} {rs : List KRec} (h : OwnL W base v rs) (hg : W.grownBy W' none) : OwnL W' base v rs := by
  obtain ⟨ys, h1, h2⟩ := h
  exact ⟨ys, own_kept h1 hg, h2.map fun _ _ hb => hb.kept hg⟩
theorem OwnL.shape {W : World} {base : Nat} {v : Value} {rs : List KRec} (h : OwnL W base v rs) : ∃ s c, v = .slice s rs.length c ∧ SlOk s rs.length c := by
  obtain ⟨ys, ⟨_, ⟨e, hn⟩ | ⟨g, cap, cur, rfl, _, _, h1, h2, _⟩⟩, _⟩ := h
  · exact ⟨none, 0, by rw [e, hn], fun _ => ⟨hn, rfl⟩, by omega, by omega⟩
  · exact ⟨_, _, rfl, (fun e => by cases e), h1, by unfold maxLen at h2; omega⟩
theorem OwnL.shapeN {W : World} {base : Nat} {v : Value} {rs : List KRec} (h : OwnL W base v rs) : ∃ s n c, v = .slice s n c := by
  obtain ⟨s, c, e, _⟩ := h.shape
  exact ⟨s, _, c, e⟩
theorem OwnR.shapeN {W : World} {base n : Nat} {v : Value} {rs : List KRec} (h : OwnR W base v n rs) : ∃ s n c, v = .slice s n c := by
  obtain ⟨s, c, e⟩ := h.shape
  exact ⟨s, _, c, e⟩
theorem OwnL.sl {W : World} {base n c : Nat} {s : Option Addr} {rs : List KRec} (h : OwnL W base (.slice s n c) rs) : RcSl W s rs := fun i hi => by
  obtain ⟨ys, h1, h2⟩ := h
  obtain ⟨sb, cb, b0, b1, b2, b3, b4⟩ := h2.2.2 i hi
  have h1' := h1
  obtain ⟨hl, ⟨e, e2⟩ | ⟨k, cap', cur, e, hg', hb, hr⟩⟩ := h1'
  · omega
  · cases e
    exact ⟨_, sb, cb, rfl, h1.cells rfl _ _ b0, h1.cells rfl _ _ b1, h1.cells rfl _ _ b2, b3.sl, b4⟩
theorem own_base {W : World} {base base' n size : Nat} {e : TypeId} {v : Value} {xs : List Value} (h : W.ownsRow base e size v n xs) (hb : base' ≤ base) : W.ownsRow base' e size v n xs := by
  obtain ⟨h1, h2 | ⟨g, cap', cur, e', hg', hr⟩⟩ := h
  · exact ⟨h1, Or.inl h2⟩
  · exact ⟨h1, Or.inr ⟨g, cap', cur, e', Nat.le_trans hb hg', hr⟩⟩
theorem OwnR.vals {W : World} {base n : Nat} {v : Value} {rs : List KRec} (h : OwnR W base v n rs) : ∃ xs, W.ownsRow base 45 3 v n xs ∧ ValsL W xs rs ∧ rs.length = n := by
  obtain ⟨xs, h1, h2, h3, h4⟩ := h
  refine ⟨xs, h1, ⟨by rw [h1.1, h2], h3, fun i hi => ?_⟩, h2⟩
  obtain ⟨g, cap, a0, a1, a2, a3, a4, a5, a6⟩ := h4 i hi
  exact ⟨_, cap, a0, a1, a2, Or.inr ⟨g, rfl, a4⟩, (fun e => by cases e), a5, a6⟩
theorem OwnR.ownL {W : World} {base base' n : Nat} {v : Value} {rs : List KRec} (h : OwnR W base v n rs) (hb : base' ≤ base) : OwnL W base' v rs := by
  obtain ⟨xs, h1, h2, h3⟩ := h.vals
  exact ⟨xs, by rw [h3]; exact own_base h1 hb, h2⟩
/-- Records behind a row. -/
theorem run_rows {W : World} {base : Nat} {v : Value} {rs ss : List KRec} {xs : List Value} (hO : OwnL W base v rs) (ad : Addr) (m c : Nat) (hm : ss.length = m) (hx : ValsL W xs ss) (hnews : ∀ j u, xs[j]? = some u → W.cell? (ad.add j) = some u)
    (h63 : rs.length + m ≤ 4398046511104) (hbase : base ≤ W.heap.size) :
    ∃ v' w', (Builtin.append_ #[24, 24] 24 #[v, .slice (some ad) m c]).run Try.prog W = .ok v' w' ∧ OwnL w' base v' (rs ++ ss) ∧ (∀ w0 : World, w0.grownBy W none → w0.heap.size ≤ base → w0.grownBy w' none) ∧ ∀ (q : Nat) (cs : Array Value) (te : TypeId) (fz : Nat × Nat), W.heap[q]? = some (Obj.cells cs te fz) → te ≠ 45 → w'.heap[q]? = some (Obj.cells cs te fz) := by
  obtain ⟨i1, hi, hz0, hz1, hz2⟩ := info_partsR
  obtain ⟨ys, hown, hys⟩ := hO
  obtain ⟨v', w', hr, h2, h3, _⟩ := run_append_own (P := Try.prog) W base 24 24 45 i1 (.agg #[.int .u8 0, .int .u8 0, .slice none 0 0]) 3 32 Try.underlying24 hi hz0 hz1 hz2 rfl (by decide) v rs.length ys hown ad m c xs (by rw [hx.1, hm]) hnews hx.2.1 (by unfold maxLen; omega) (by omega) hbase
  refine ⟨v', w', hr, ⟨ys ++ xs, by rw [List.length_append, hm]; exact h2, ?_⟩, fun w0 h0 hb => grown_own h0 hown h3 hb, fun q cs te fz hq ht => heap_rowT hown h3 hq ht⟩
  exact (hys.app hx).map fun _ _ hb => hb.row hown h3
theorem run_rowsR {W : World} {base base2 n : Nat} {v v2 : Value} {rs ss : List KRec} (hO : OwnL W base v rs) (hR : OwnR W base2 v2 n ss) (h63 : rs.length + ss.length ≤ 4398046511104) (hbase : base ≤ W.heap.size) :
    ∃ v' w', (Builtin.append_ #[24, 24] 24 #[v, v2]).run Try.prog W = .ok v' w' ∧ OwnL w' base v' (rs ++ ss) ∧ (∀ w0 : World, w0.grownBy W none → w0.heap.size ≤ base → w0.grownBy w' none) ∧ ∀ (q : Nat) (cs : Array Value) (te : TypeId) (fz : Nat × Nat), W.heap[q]? = some (Obj.cells cs te fz) → te ≠ 45 → w'.heap[q]? = some (Obj.cells cs te fz) := by
  obtain ⟨xs, h1, h2, h3⟩ := hR.vals
  have h1' := h1
  obtain ⟨hl, ⟨rfl, hn0⟩ | ⟨g, cap, cur, rfl, hg', hb, hr⟩⟩ := h1'
  · obtain ⟨i1, hi, hz0, hz1, hz2⟩ := info_partsR
    have hss : ss = [] := List.length_eq_zero_iff.1 (by omega)
    subst hss
    obtain ⟨ys, hown, hys⟩ := id hO
    refine ⟨v, W, run_append_owned_none (P := Try.prog) (w := W) base 24 24 45 i1 3 Try.underlying24 hi v rs.length ys hown, by rw [List.append_nil]; exact hO, fun w0 h0 _ => h0, fun _ _ _ _ h _ => h⟩
  · subst h3
    exact run_rows hO _ _ _ rfl h2 (fun j u hj => h1.cells rfl j u hj) h63 hbase
theorem vals_end (W : World) (k : Nat) : ValsL W [.int .u8 (k : Int), .int .u8 0, .slice none 0 0] [endE k] :=
  ⟨rfl, by simp [Value.oneCell'], fun i hi => by
    simp at hi
    subst hi
    exact ⟨none, 0, rfl, rfl, rfl, Or.inl ⟨rfl, rfl⟩, (fun _ => ⟨rfl, rfl⟩), Nat.le_refl _, by decide⟩⟩
/-- An end behind a row. -/
theorem run_rowsE {W : World} {base : Nat} {v : Value} {rs : List KRec} (hO : OwnL W base v rs) (k : Nat) (h63 : rs.length + 1 ≤ 4398046511104) (hbase : base ≤ W.heap.size) :
    ∃ v' w', (Builtin.append_ #[24, 24] 24 #[v, .slice (some ⟨W.heap.size, 0, none⟩) 1 1]).run Try.prog (W.alloc (.cells #[.int .u8 (k : Int), .int .u8 0, .slice none 0 0] 45)) = .ok v' w' ∧ OwnL w' base v' (rs ++ [endE k]) ∧ (∀ w0 : World, w0.grownBy W none → w0.heap.size ≤ base → w0.grownBy w' none) ∧ ∀ (q : Nat) (cs : Array Value) (te : TypeId) (fz : Nat × Nat), W.heap[q]? = some (Obj.cells cs te fz) → te ≠ 45 → w'.heap[q]? = some (Obj.cells cs te fz) := by
  have gA := World.grownBy_alloc W (.cells #[.int .u8 (k : Int), .int .u8 0, .slice none 0 0] 45) none
  obtain ⟨v', w', h1, h2, h3, h4⟩ := run_rows (hO.kept gA) ⟨W.heap.size, 0, none⟩ 1 1 (ss := [endE k]) rfl (vals_end _ k) (World.news_of_block (cs := #[.int .u8 (k : Int), .int .u8 0, .slice none 0 0]) (heap_new W _ _ rfl)) h63 (Nat.le_trans hbase gA.size)
  exact ⟨v', w', h1, h2, fun w0 h0 hb => h3 w0 (grown_trans h0 gA) hb, fun q cs te fz hq ht => h4 q cs te fz (heap_kept gA hq) ht⟩
end Go.Proofs.Ytcioefmldcmhgaa
namespace Go.Proofs.Ytcioefmldcmhgaa
open Go.RowKit
set_option maxRecDepth 100000
set_option linter.unusedVariables false
set_option linter.unusedSimpArgs false

theorem len_cell {t : KLib} {k : Nat} (h : k < t.2.length) : (cellsUp t k).length + (recC t.2[k]).length ≤ (recT t).length := by
  obtain ⟨r, hr⟩ := recT_up t (k + 1)
  rw [hr, cellsUp_succ h, List.length_append, List.length_append]; omega
theorem len_item {c : KCell} {j : Nat} (h : j < c.2.length) : (itemsUp c j).length + (recI c.2[j]).length ≤ (recC c).length := by
  obtain ⟨r, hr⟩ := recC_up c (j + 1)
  rw [hr, itemsUp_succ h, List.length_append, List.length_append]; omega
theorem len_end (t : KLib) (k : Nat) (h : t.2.length ≤ k) : (cellsUp t k).length + 1 = (recT t).length := by
  rw [← cellsUp_all h, List.length_append]; rfl
theorem len_endC (c : KCell) (k : Nat) (h : c.2.length ≤ k) : (itemsUp c k).length + 1 = (recC c).length := by
  rw [← itemsUp_all h, List.length_append]; rfl
def RetRL (w : World) (rs : List KRec) (e : Ending) (w' : World) : Prop := ∃ v, e = .returned v ∧ OwnL w' w.heap.size v rs ∧ w.grownBy w' none
set_option maxHeartbeats 64000000 in
theorem RRecords_any (w : World) (v : Value) (t : KLib) (hv : LibV w v t) (hz : SizL t) (hn : (recT t).length ≤ 400) :
    Calls Try.prog 19 #[v] w (RetRL w (recT t)) := by
  obtain ⟨a, b, rfl, ⟨sa, ca, rfl, ha, hoka, hsa⟩, sc, cc, rfl, hp, hokc⟩ := hv
  obtain ⟨N1, hN1⟩ : ∃ N, t.1.length = N := ⟨_, rfl⟩
  obtain ⟨N, hN⟩ : ∃ N, t.2.length = N := ⟨_, rfl⟩
  rw [hN1] at hoka ⊢
  rw [hN] at hokc ⊢
  have hNm : N ≤ 9223372036854775807 := Nat.le_trans hokc.2.1 hokc.2.2
  have hG := World.grownBy_alloc w (.cells #[.slice sa N1 ca, .slice sc N cc] 27) none
  have Bt := heap_new w (.cells #[.slice sa N1 ca, .slice sc N cc] 27) w.heap.size rfl
  have HA := Lib.hid ha
  have HP := Lib.hid hp
  have HN := Lib.hid hN
  have HN1 := Lib.hid hN1
  have HBT := Lib.hid Bt
  have HSA := Lib.hid hsa
  have HZ := Lib.hid hz
  have HLEN := Lib.hid hn
  have hNs : N ≤ 400 := by
    have := flat_len (f := recC) (fun x => by have := recC_len x; omega) t.2
    have h2 : (recT t).length = t.1.length + (t.2.flatMap recC).length + 1 := by simp [recT]; omega
    omega
  clear ha hp hN hN1 hoka hokc hsa hz hn
  go_enter Try.func19, Try.ntmps19
  obtain ⟨C0, C1, _, _⟩ := box_cells2 Bt
  go_wp2_with fail
  generalize (w.alloc (.cells #[.slice sa N1 ca, .slice sc N cc] 27)) = wa at *
  have HG := Lib.hid hG
  clear Bt hG
  refine (RCopied_any wa sa N1 ca t.1 HN1.out (HA.out.kept HG.out) HSA.out HZ.out.1).mono ?_
  rintro e w1 ⟨v1, rfl, ho1, hg1⟩
  have HW1 := Lib.hid hg1
  obtain ⟨s1, n1, c1, e1⟩ := ho1.shapeN
  subst e1
  have HL1 : Hid (OwnL w1 wa.heap.size (.slice s1 n1 c1) (cellsUp t 0)) := Lib.hid (by rw [cellsUp_zero]; exact ho1.ownL (Nat.le_refl _))
  clear C0 C1 hg1 ho1
  obtain ⟨C0, C1, _, _⟩ := box_cells2 (heap_kept HW1.out HBT.out)
  go_wp2_with fail
  go_loopg [3, 4] N (fun gh y i wr => ∃ k : Nat, k ≤ N ∧ N - k ≤ gh ∧ i = .int .i64 (k : Int) ∧ Hid (OwnL wr wa.heap.size y (cellsUp t k)) ∧ Hid (wa.grownBy wr none))
  case atStart => exact ⟨0, Nat.zero_le _, Nat.le_refl _, rfl, HL1, HW1⟩
  case round =>
    clear HL1
    obtain ⟨k, hk, hgh, rfl, HL, HW⟩ := hrel
    obtain ⟨sl, nl, cl, rfl⟩ := HL.out.shapeN
    clear C0 C1
    obtain ⟨C0, C1, _, _⟩ := box_cells2 (heap_kept HW.out HBT.out)
    by_cases hlt : k < N
    · have f1 : decide ((k : Int) < (N : Int)) = true := decide_eq_true (by omega)
      have hkl : k < t.2.length := by have := HN.out; omega
      obtain ⟨ad, q, u0, x, hsc, hq, A0, A1, hu, hx⟩ := HP.out.at k hkl
      obtain ⟨c, hc⟩ : ∃ c, t.2[k] = c := ⟨_, rfl⟩
      have hzc : SizC c := by rw [← hc]; exact HZ.out.2 _ (List.getElem_mem hkl)
      have hlc := len_cell hkl
      rw [hc] at hlc hu hx
      have hcs : cellsUp t (k + 1) = cellsUp t k ++ recC c := by rw [cellsUp_succ hkl, hc]
      have HCS := Lib.hid hcs
      have hlc2 : (cellsUp t k).length + (recC c).length ≤ 400 := by have := HLEN.out; omega
      obtain ⟨su, cu, rfl, hru, hoku, hsu⟩ := hu
      obtain ⟨sv, cv, rfl, hpi, hoki⟩ := ItemsV.open hx
      obtain ⟨R, hR⟩ : ∃ R, c.1.length = R := ⟨_, rfl⟩
      obtain ⟨M, hM⟩ : ∃ M, c.2.length = M := ⟨_, rfl⟩
      rw [hM] at hoki A1
      rw [hR] at A0 hoku
      have hMm : M ≤ 9223372036854775807 := Nat.le_trans hoki.2.1 hoki.2.2
      have HRU := Lib.hid hru
      have HSU := Lib.hid hsu
      have HI := Lib.hid hpi
      have HM := Lib.hid hM
      have HR := Lib.hid hR
      have HZC := Lib.hid hzc
      have HGA := Lib.hid (grown_trans HG.out HW.out)
      have HA0 := Lib.hid A0
      have HA1 := Lib.hid A1
      replace A0 := HGA.out.cell A0 (by simp)
      replace A1 := HGA.out.cell A1 (by simp)
      have HLC := Lib.hid hlc2
      subst hsc
      clear hc hru hoku hpi hoki hR hM hkl hx hsu hzc hlc hcs hlc2
      go_wp2_with fail
      refine (RCopied_any wr su R cu c.1 HR.out (HRU.out.kept HGA.out) HSU.out HZC.out.1).mono ?_
      rintro e w2 ⟨v2, rfl, ho2, hg2⟩
      have hl9 : (recC c).length = c.1.length + (c.2.flatMap recI).length + 1 := by simp [recC]; omega
      have hMs : M ≤ 400 := by
        have := flat_len (f := recI) recI_len c.2
        have := HM.out
        have := HLC.out
        omega
      obtain ⟨v3, w3, hr3, hL3, hgr3, hkp3⟩ := run_rowsR (HL.out.kept hg2) ho2 (by have := HLC.out; omega) (Nat.le_trans HW.out.size hg2.size)
      obtain ⟨s2, n2, c2, rfl⟩ := ho2.shapeN
      obtain ⟨s3, n3, c3, rfl⟩ := hL3.shapeN
      have HR3 := Lib.hid hr3
      have HL3 : Hid (OwnL w3 wa.heap.size (.slice s3 n3 c3) (cellsUp t k ++ itemsUp c 0)) := Lib.hid (by rw [itemsUp_zero]; exact hL3)
      have HW3 := Lib.hid (hgr3 wa (grown_trans HW.out hg2) (Nat.le_refl _))
      clear ho2 hr3 hL3 hgr3 hkp3 hl9 C0 C1 A0 A1 hg2
      obtain ⟨C0, C1, _, _⟩ := box_cells2 (heap_kept HW3.out HBT.out)
      have A1 := (grown_trans HG.out HW3.out).cell HA1.out (by simp)
      go_wp2_with (at_builtin; refine Lib.wpList_append_run _ rfl (.tmp 17) (.tmp 24) 24 24 rfl _ _ rfl rfl _ _ HR3.out ?_)
      go_wp2_with fail
      go_loopg [3, 5] M (fun gh y i wr => ∃ j : Nat, j ≤ M ∧ M - j ≤ gh ∧ i = .int .i64 (j : Int) ∧ Hid (OwnL wr wa.heap.size y (cellsUp t k ++ itemsUp c j)) ∧ Hid (wa.grownBy wr none))
      case atStart => exact ⟨0, Nat.zero_le _, Nat.le_refl _, rfl, HL3, HW3⟩
      case round =>
        clear HL3 C0 C1 A1 HL HW
        obtain ⟨j, hj, hgh2, rfl, HL, HW⟩ := hrel
        obtain ⟨sl, nl, cl, rfl⟩ := HL.out.shapeN
        obtain ⟨C0, C1, _, _⟩ := box_cells2 (heap_kept HW.out HBT.out)
        have A1 := (grown_trans HG.out HW.out).cell HA1.out (by simp)
        by_cases hlt2 : j < M
        · have f2 : decide ((j : Int) < (M : Int)) = true := decide_eq_true (by omega)
          have hjl : j < c.2.length := by have := HM.out; omega
          obtain ⟨ad4, q4, u4, v4, hsv, hq4, B0, B1, hu4, hv4⟩ := HI.out.at j hjl
          obtain ⟨x, hx⟩ : ∃ x, c.2[j] = x := ⟨_, rfl⟩
          have hzi : SizI x := by rw [← hx]; exact HZC.out.2 _ (List.getElem_mem hjl)
          have hli := len_item hjl
          rw [hx] at hu4 hv4 hli
          have hcs : itemsUp c (j + 1) = itemsUp c j ++ recI x := by rw [itemsUp_succ hjl, hx]
          have HCI := Lib.hid hcs
          obtain ⟨sf, cf, rfl, hrf, hokf, hsf⟩ := hu4
          obtain ⟨sp, cp, rfl, hrp, hokp, hsp⟩ := hv4
          obtain ⟨F, hF⟩ : ∃ F, x.1.length = F := ⟨_, rfl⟩
          obtain ⟨G, hGl⟩ : ∃ G, x.2.length = G := ⟨_, rfl⟩
          rw [hF] at B0 hokf
          rw [hGl] at B1 hokp
          have hlx : (cellsUp t k ++ itemsUp c j).length + (F + G + 1) ≤ 400 := by
            have h1 := recI_length x
            have h2 := HLC.out
            rw [List.length_append]; omega
          have HLX := Lib.hid hlx
          have HGV := Lib.hid (grown_trans HG.out HW.out)
          have HRP0 := Lib.hid hrp
          have HRF := Lib.hid (hrf.kept HGV.out)
          have HRP := Lib.hid (hrp.kept HGV.out)
          have HSF := Lib.hid hsf
          have HSP := Lib.hid hsp
          have HF := Lib.hid hF
          have HGG := Lib.hid hGl
          have HZI := Lib.hid hzi
          replace B0 := HGV.out.cell B0 (by simp)
          replace B1 := HGV.out.cell B1 (by simp)
          subst hsv
          have gA := World.grownBy_alloc wr (.cells #[.slice sf F cf, .slice sp G cp] 55) none
          have Bx := heap_new wr (.cells #[.slice sf F cf, .slice sp G cp] 55) wr.heap.size rfl
          have HL4 := Lib.hid (HL.out.kept gA)
          have HW4 := Lib.hid (grown_trans HW.out gA)
          have HRF4 := Lib.hid (HRF.out.kept gA)
          have HRP4 := Lib.hid (HRP.out.kept gA)
          have HBX := Lib.hid Bx
          have i4 : (0 : Int) ≤ (j : Int) ∧ (j : Int) < (M : Int) := by omega
          clear hx hrf hokf hrp hokp hF hGl hjl hzi hli hcs hsf hsp gA Bx hlx
          go_wp2_with fail
          generalize (wr.alloc (.cells #[.slice sf F cf, .slice sp G cp] 55)) = w4 at *
          generalize wr.heap.size = qx at *
          clear C0 C1 A1 B0 B1
          refine (RCopied_any w4 sf F cf x.1 HF.out HRF4.out HSF.out HZI.out.1).mono ?_
          rintro e w5 ⟨v5, rfl, ho5, hg5⟩
          obtain ⟨v6, w6, hr6, hL6, hgr6, hkp6⟩ := run_rowsR (HL4.out.kept hg5) ho5 (by have := HLX.out; have := HF.out; omega) (Nat.le_trans HW4.out.size hg5.size)
          obtain ⟨s5, n5, c5, rfl⟩ := ho5.shapeN
          obtain ⟨s6, n6, c6, rfl⟩ := hL6.shapeN
          have HR6 := Lib.hid hr6
          have HL6 := Lib.hid hL6
          have HW6 := Lib.hid (hgr6 wa (grown_trans HW4.out hg5) (Nat.le_refl _))
          have HG5 := Lib.hid hg5
          have HB6 : Hid (w6.heap[qx]? = some (.cells #[.slice sf F cf, .slice sp G cp] 55 (0, 0)) ∧ RcSl w6 sp x.2) := Lib.hid ⟨hkp6 _ _ _ _ (heap_kept HG5.out HBX.out) (by decide), HRP0.out.kept (grown_trans HG.out HW6.out)⟩
          clear ho5 hr6 hL6 hgr6 hg5 hkp6
          obtain ⟨X0, X1, _, _⟩ := box_cells2 HB6.out.1
          go_wp2_with (at_builtin; refine Lib.wpList_append_run _ rfl (.tmp 46) (.tmp 49) 24 24 rfl _ _ rfl rfl _ _ HR6.out ?_)
          go_wp2_with fail
          refine (RCopied_any w6 sp G cp x.2 HGG.out HB6.out.2 HSP.out HZI.out.2).mono ?_
          rintro e w7 ⟨v7, rfl, ho7, hg7⟩
          obtain ⟨v8, w8, hr8, hL8, hgr8, hkp8⟩ := run_rowsR (HL6.out.kept hg7) ho7 (by have := HLX.out; have := HF.out; have := HGG.out; rw [List.length_append]; omega) (Nat.le_trans HW6.out.size hg7.size)
          obtain ⟨s7, n7, c7, rfl⟩ := ho7.shapeN
          obtain ⟨s8, n8, c8, rfl⟩ := hL8.shapeN
          have HR8 := Lib.hid hr8
          have HW8 := Lib.hid (hgr8 wa (grown_trans HW6.out hg7) (Nat.le_refl _))
          obtain ⟨v9, w9, hr9, hL9, hgr9, hkp9⟩ := run_rowsE hL8 17 (by have := HLX.out; have := HF.out; have := HGG.out; rw [List.length_append, List.length_append]; omega) HW8.out.size
          obtain ⟨s9, n9, c9, rfl⟩ := hL9.shapeN
          have HR9 := Lib.hid hr9
          have HW9 := Lib.hid (hgr9 wa HW8.out (Nat.le_refl _))
          have e9 : cellsUp t k ++ itemsUp c j ++ x.1 ++ x.2 ++ [endE 17] = cellsUp t k ++ itemsUp c (j + 1) := by rw [HCI.out]; simp [recI]
          have HL9 : Hid (OwnL w9 wa.heap.size (.slice s9 n9 c9) (cellsUp t k ++ itemsUp c (j + 1))) := Lib.hid (by rw [← e9]; exact hL9)
          clear ho7 hr8 hL8 hgr8 hkp8 hg7 hr9 hL9 hgr9 hkp9 e9 X0 X1
          go_wp2_with (at_builtin; first | (refine Lib.wpList_append_run _ rfl (.tmp 51) (.tmp 54) 24 24 rfl _ _ rfl rfl _ _ HR8.out ?_) | (refine Lib.wpList_append_run _ rfl (.tmp 56) (.tmp 58) 24 24 rfl _ _ rfl rfl _ _ HR9.out ?_))
          go_wp2_with fail
          go_roundg (M - (j + 1))
          case measure => omega
          case rel => exact ⟨j + 1, by omega, Nat.le_refl _, by go_num, HL9, HW9⟩
        · have f2 : decide ((j : Int) < (M : Int)) = false := decide_eq_false (by omega)
          have hje : c.2.length ≤ j := by have := HM.out; omega
          obtain ⟨v9, w9, hr9, hL9, hgr9, hkp9⟩ := run_rowsE HL.out 7 (by have := HLC.out; have := len_endC c j hje; rw [List.length_append]; omega) HW.out.size
          obtain ⟨s9, n9, c9, rfl⟩ := hL9.shapeN
          have HR9 := Lib.hid hr9
          have HW9 := Lib.hid (hgr9 wa HW.out (Nat.le_refl _))
          have e9 : cellsUp t k ++ itemsUp c j ++ [endE 7] = cellsUp t (k + 1) := by rw [HCS.out, List.append_assoc, itemsUp_all hje]
          have HL9 : Hid (OwnL w9 wa.heap.size (.slice s9 n9 c9) (cellsUp t (k + 1))) := Lib.hid (by rw [← e9]; exact hL9)
          clear hr9 hL9 hgr9 hkp9 e9 hje hj hgh2
          go_wp2_with (at_builtin; refine Lib.wpList_append_run _ rfl (.tmp 60) (.tmp 62) 24 24 rfl _ _ rfl rfl _ _ HR9.out ?_)
          go_wp2_with fail
          go_roundg (N - (k + 1))
          case measure => omega
          case rel => exact ⟨k + 1, by omega, Nat.le_refl _, by go_num, HL9, HW9⟩
    · have f1 : decide ((k : Int) < (N : Int)) = false := decide_eq_false (by omega)
      have hke : t.2.length ≤ k := by have := HN.out; omega
      obtain ⟨v9, w9, hr9, hL9, hgr9, hkp9⟩ := run_rowsE HL.out 4 (by have := HLEN.out; have := len_end t k hke; omega) HW.out.size
      obtain ⟨s9, n9, c9, rfl⟩ := hL9.shapeN
      have HR9 := Lib.hid hr9
      have hF : Hid (RetRL w (recT t) (.returned (.slice s9 n9 c9)) w9) := Lib.hid ⟨_, rfl, by
        rw [← cellsUp_all hke]
        obtain ⟨ys, h1, h2⟩ := hL9
        exact ⟨ys, own_base h1 HG.out.size, h2⟩, hgr9 w (grown_trans HG.out HW.out) HG.out.size⟩
      clear hr9 hL9 hgr9 hkp9 hke hk hgh
      go_wp2_with (at_builtin; refine Lib.wpList_append_run _ rfl (.tmp 64) (.tmp 66) 24 24 rfl _ _ rfl rfl _ _ HR9.out ?_)
      go_wp2_with fail
      go_ret
      exact hF.out
end Go.Proofs.Ytcioefmldcmhgaa
