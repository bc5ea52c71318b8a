/- RecordBack: rows of records whose bodies came in; copies that are owned. -/
import Derived.Test.YteienakimdpfhaaRecordJoinsW
namespace Go.Proofs.Yteienakimdpfhaa
open Go.RowKit
set_option maxRecDepth 100000
set_option linter.unusedVariables false
set_option linter.unusedSimpArgs false

/-- A row of the call's own of records whose bodies came in. -/
def OwnQ (w W : World) (v : Value) (rs : List KRec) : Prop :=
  ∃ xs : List Value, W.ownsRow w.heap.size 24 3 v rs.length xs ∧ (∀ u ∈ xs, u.oneCell' = true) ∧ w.grownBy W none ∧
    ∀ i (h : i < rs.length), ∃ sb cb, xs[i * 3]? = some (.int .u8 (rs[i].1 : Int)) ∧ xs[i * 3 + 1]? = some (.int .u8 (rs[i].2.1 : Int)) ∧ xs[i * 3 + 2]? = some (.slice sb rs[i].2.2.length cb) ∧ BySl w sb rs[i].2.2 ∧ (sb = none → rs[i].2.2.length = 0 ∧ cb = 0) ∧ rs[i].2.2.length ≤ cb ∧ cb ≤ 9223372036854775807
theorem OwnQ.nil {w W : World} (h : w.grownBy W none) : OwnQ w W (.slice none 0 0) [] := ⟨[], ⟨rfl, Or.inl ⟨rfl, rfl⟩⟩, by intro u h; simp at h, h, fun i h => by simp at h⟩
theorem OwnQ.kept {w W W' : World} {v : Value} {rs : List KRec} (h : OwnQ w W v rs) (hg : W.grownBy W' none) : OwnQ w W' v rs := by
  obtain ⟨xs, h1, h2, h3, h4⟩ := h
  exact ⟨xs, own_kept h1 hg, h2, grown_trans h3 hg, h4⟩
theorem OwnQ.shape {w W : World} {v : Value} {rs : List KRec} (h : OwnQ w W v rs) : ∃ s c, v = .slice s rs.length c := by
  obtain ⟨xs, ⟨_, ⟨rfl, h0⟩ | ⟨g, cap, cur, rfl, _⟩⟩, _⟩ := h
  · exact ⟨none, 0, by rw [h0]⟩
  · exact ⟨_, cap, rfl⟩
theorem OwnQ.snoc {w W' : World} {v' : Value} {xs : List Value} {rs : List KRec} {kd dt cb n1 : Nat} {sb : Option Addr} {bd : List Nat} (h1 : ∀ u ∈ xs, u.oneCell' = true) (hl : xs.length = rs.length * 3)
    (h4 : ∀ i (h : i < rs.length), ∃ sb cb, xs[i * 3]? = some (.int .u8 (rs[i].1 : Int)) ∧ xs[i * 3 + 1]? = some (.int .u8 (rs[i].2.1 : Int)) ∧ xs[i * 3 + 2]? = some (.slice sb rs[i].2.2.length cb) ∧ BySl w sb rs[i].2.2 ∧ (sb = none → rs[i].2.2.length = 0 ∧ cb = 0) ∧ rs[i].2.2.length ≤ cb ∧ cb ≤ 9223372036854775807)
    (hown' : W'.ownsRow w.heap.size 24 3 v' n1 (xs ++ [.int .u8 (kd : Int), .int .u8 (dt : Int), .slice sb bd.length cb])) (hn1 : n1 = rs.length + 1) (hg : w.grownBy W' none)
    (hb : BySl w sb bd) (hz : sb = none → bd.length = 0 ∧ cb = 0) (hc : bd.length ≤ cb) (hm : cb ≤ 9223372036854775807) : OwnQ w W' v' (rs ++ [(kd, dt, bd)]) := by
  subst hn1
  refine ⟨_, by rw [List.length_append]; exact hown', ?_, hg, fun i h => ?_⟩
  · intro u hu
    rcases List.mem_append.1 hu with hu | hu
    · exact h1 u hu
    · simp at hu
      rcases hu with rfl | rfl | rfl <;> rfl
  · rw [List.length_append] at h
    simp at h
    rcases Nat.lt_or_ge i rs.length with hi | hi
    · obtain ⟨s0, c0, a1, a2, a3, a4⟩ := h4 i hi
      rw [List.getElem_append_left hi]
      exact ⟨s0, c0, by rw [List.getElem?_append_left (by omega)]; exact a1, by rw [List.getElem?_append_left (by omega)]; exact a2, by rw [List.getElem?_append_left (by omega)]; exact a3, a4⟩
    · obtain rfl : i = rs.length := by omega
      refine ⟨sb, cb, ?_, ?_, ?_, ?_, ?_, ?_, hm⟩
      · rw [List.getElem?_append_right (by omega), hl]; simp
      · rw [List.getElem?_append_right (by omega), hl]; simp
      · rw [List.getElem?_append_right (by omega), hl]; simp
      · simpa using hb
      · simpa using hz
      · simpa using hc
theorem OwnQ.sl {w W : World} {s : Option Addr} {n cap : Nat} {rs : List KRec} (h : OwnQ w W (.slice s n cap) rs) : RcSl W s rs := fun i hi => by
  obtain ⟨xs, h1, h2, h3, h4⟩ := h
  obtain ⟨sb, cb, a1, a2, a3, a4, a5, a6, a7⟩ := h4 i hi
  have h1' := h1
  obtain ⟨h0, ⟨e, e2⟩ | ⟨k, cap', cur, e, hg', hb, hr⟩⟩ := h1'
  · omega
  · cases e
    exact ⟨_, sb, cb, rfl, h1.cells rfl _ _ a1, h1.cells rfl _ _ a2, h1.cells rfl _ _ a3, a4.kept h3, a5, a6, a7⟩
def fil (rs : List KRec) : List KRec := rs.filter fun r => decide (r.1 ≠ 4)
theorem fil_take_ne {rs : List KRec} {k : Nat} (h : k < rs.length) (h4 : rs[k].1 ≠ 4) : fil (rs.take (k + 1)) = fil (rs.take k) ++ [rs[k]] := by
  rw [List.take_succ_eq_append_getElem h]; unfold fil; rw [List.filter_append]; simp [h4]
theorem fil_take_eq {rs : List KRec} {k : Nat} (h : k < rs.length) (h4 : rs[k].1 = 4) : fil (rs.take (k + 1)) = fil (rs.take k) := by
  rw [List.take_succ_eq_append_getElem h]; unfold fil; rw [List.filter_append]; simp [h4]
theorem fil_len (rs : List KRec) : (fil rs).length ≤ rs.length := List.length_filter_le _ _
theorem fil_mem {rs : List KRec} {r : KRec} (h : r ∈ fil rs) : r ∈ rs ∧ r.1 ≠ 4 := by
  unfold fil at h
  rw [List.mem_filter] at h
  exact ⟨h.1, by simpa using h.2⟩
theorem fil_sum (rs : List KRec) : sumB (fil rs) ≤ sumB rs := by
  induction rs with
  | nil => exact Nat.le_refl _
  | cons r rs ih =>
    have e : fil (r :: rs) = if r.1 ≠ 4 then r :: fil rs else fil rs := by
      unfold fil
      by_cases h : r.1 ≠ 4
      · rw [if_pos h, List.filter_cons_of_pos (by simpa using h)]
      · rw [if_neg h, List.filter_cons_of_neg (by simpa using h)]
    rw [e, sumB_cons]
    split
    · rw [sumB_cons]; omega
    · omega
/-- The records that RecordBack joins. -/
def endR (rs : List KRec) : List KRec := fil rs ++ [(4, 0, [])]
theorem endR_len {rs : List KRec} (h1 : rs.length ≤ 200) (h2 : sumB rs ≤ 400000) : (joinB (endR rs)).length ≤ 400804 ∧ 4 ≤ (joinB (endR rs)).length := by
  have a := fil_len rs
  have b := fil_sum rs
  unfold endR
  have e : sumB [(4, 0, [])] = 0 := rfl
  rw [joinB_len, List.length_append, sumB_append, e]
  simp only [List.length_cons, List.length_nil]
  omega
theorem endR_lt {rs : List KRec} (h : ∀ r ∈ rs, r.1 < 256 ∧ r.2.1 < 256) : ∀ r ∈ endR rs, r.1 < 256 ∧ r.2.1 < 256 := by
  intro r hr
  unfold endR at hr
  rcases List.mem_append.1 hr with hr | hr
  · exact h r (fil_mem hr).1
  · simp at hr; subst hr; exact ⟨by decide, by decide⟩
theorem endR_split {rs : List KRec} (h : ∀ r ∈ endR rs, okR r) (z : Nat) : splitD (joinB (endR rs) ++ List.replicate z 0) = (0, endR rs, (joinB (endR rs)).length) :=
  split_join (fil rs) (fun r hr => h r (List.mem_append_left _ hr)) (fun r hr => (fil_mem hr).2) z
theorem endR_more {rs : List KRec} (h : ∀ r ∈ endR rs, okR r) (z : Nat) : splitD (joinB (endR rs) ++ List.replicate z 0 ++ [1]) = (4, [], 0) :=
  split_more (fil rs) (fun r hr => h r (List.mem_append_left _ hr)) (fun r hr => (fil_mem hr).2) z
theorem endR_cut {rs : List KRec} (h : ∀ r ∈ endR rs, okR r) : splitD ((joinB (endR rs)).take ((joinB (endR rs)).length - 1)) = (7, [], 0) :=
  split_cut (fil rs) (fun r hr => h r (List.mem_append_left _ hr)) (fun r hr => (fil_mem hr).2)
/-- A copy that is owned. -/
def RetCO (w : World) (l : List Nat) (e : Ending) (w' : World) : Prop := ∃ g cap, e = .returned (.slice (some ⟨g, 0, none⟩) l.length cap) ∧ OwnB w' w.heap.size (.slice (some ⟨g, 0, none⟩) l.length cap) l ∧ w.grownBy w' none
set_option maxHeartbeats 16000000 in
theorem CopiedO_any (w : World) (a : Addr) (n cap : Nat) (l : List Nat) (hn : l.length = n) (hl : BySl w (some a) l) (h64 : n ≤ 140737488355328) :
    Calls Try.prog 10 #[.slice (some a) n cap] w (RetCO w l) := by
  obtain ⟨i1, hi, hz0, hz1, hz2⟩ := info_partsU
  have hG := World.grownBy_alloc w (.cells #[] 5) none
  have HO := Lib.hid (own_empty w)
  have hs1 : (w.alloc (.cells #[] 5)).heap.size = w.heap.size + 1 := by simp
  have HSZ := Lib.hid hs1
  clear hs1
  have HW : Hid (∀ j u, (bvs l)[j]? = some u → (w.alloc (.cells #[] 5)).cell? (a.add j) = some u) := Lib.hid fun j u hj => hG.cell (hl.news j u hj) (by simp)
  have HB63 : Hid (0 + n ≤ maxLen) := Lib.hid (by unfold maxLen; omega)
  have HLN : Hid ((bvs l).length = n * 1) := Lib.hid (by rw [bvs_len, hn, Nat.mul_one])
  have HBS : Hid (w.heap.size ≤ (w.alloc (.cells #[] 5)).heap.size) := Lib.hid hG.size
  have HL := Lib.hid hl
  have HN := Lib.hid hn
  clear hl hn
  go_enter Try.func10, Try.ntmps10
  go_wp2_with (at_builtin; refine wpList_own_some rfl (.tmp 3) (.tmp 4) 22 rfl w.heap.size 5 i1 (.int .u8 0) 1 1 Try.underlying22 hi hz0 hz1 hz2 rfl (by decide) (.slice (some ⟨w.heap.size, 0, none⟩) 0 0) 0 [] rfl HO.out a n cap (bvs l) rfl HLN.out HW.out (bvs_one l) HB63.out (by omega) HBS.out (Or.inl (by simp)) n (Nat.zero_add _) ?_)
  intro g c1 w1 hown1 hgrow1 hb1 hc1 hm1
  have hg1 : w.grownBy w1 none := grown_new (g := w.heap.size) hG hgrow1 (Nat.le_refl _)
  have hF : Hid (RetCO w l (.returned (.slice (some ⟨g, 0, none⟩) n c1)) w1) := Lib.hid ⟨g, c1, by rw [HN.out], ⟨by rw [HN.out]; exact hown1, HL.out.2⟩, hg1⟩
  clear hown1 hgrow1 hg1 HL HN HW HLN HO
  go_wp2_with fail
  go_ret
  exact hF.out
theorem made_zeros {w : World} {base g z : Nat} (h : w.ownsRow base 5 1 (.slice (some ⟨g, 0, none⟩) z z) z (madeCells #[.int .u8 0] z).toList) : BySl w (some ⟨g, 0, none⟩) (List.replicate z 0) := by
  refine ⟨Or.inr ⟨_, rfl, fun i hi => ?_⟩, fun x hx => by rw [List.eq_of_mem_replicate hx]; decide⟩
  rw [List.length_replicate] at hi
  rw [List.getElem_replicate]
  refine h.cells rfl i _ ?_
  have e : (madeCells #[.int .u8 0] z).toList = List.replicate z (.int .u8 0) := toList_madeCells_one _ _
  rw [e, List.getElem?_replicate, if_pos hi]; rfl
end Go.Proofs.Yteienakimdpfhaa
