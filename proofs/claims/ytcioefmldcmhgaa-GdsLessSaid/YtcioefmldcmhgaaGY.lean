/- Streams as trees: each. -/
import Derived.Test.YtcioefmldcmhgaaGX
namespace Go.Proofs.Ytcioefmldcmhgaa
open Go.RowKit
set_option maxRecDepth 100000
set_option linter.unusedVariables false
set_option linter.unusedSimpArgs false

/-- Boxes of libraries, cells and items stay. -/
def KeepT (W W' : World) : Prop := ∀ (b : Nat) (cs : Array Value) (te : TypeId), W.heap[b]? = some (Obj.cells cs te (0, 0)) → (te = 27 ∨ te = 50 ∨ te = 55) → W'.heap[b]? = some (Obj.cells cs te (0, 0))
theorem KeepT.of {W W' : World} (h : W.grownBy W' none) : KeepT W W' := fun b cs te hb _ => heap_kept h hb
theorem KeepT.trans {A B C : World} (h : KeepT A B) (k : KeepT B C) : KeepT A C := fun b cs te hb ht => k b cs te (h b cs te hb ht) ht
theorem KeepT.off {W W' : World} {q : Nat} {cs : Array Value} {t : TypeId} {fz : Nat × Nat} (hg : W.grownBy W' (some q)) (hq : W.heap[q]? = some (.cells cs t fz)) (h1 : t ≠ 27) (h2 : t ≠ 50) (h3 : t ≠ 55) : KeepT W W' := fun b cs' te hb ht =>
  heap_off hg hb (fun e => by
    cases e
    have := heap_types hb hq
    subst this
    rcases ht with h | h | h
    · exact h1 h
    · exact h2 h
    · exact h3 h)
set_option maxHeartbeats 16000000 in
theorem Bare_any (w : World) (k : Nat) :
    Calls Try.prog 73 #[.int .u8 (k : Int)] w (fun e w' => e = .returned (.agg #[.int .u8 (k : Int), .int .u8 0, .slice none 0 0]) ∧ w.grownBy w' none) := by
  have g2 := World.grownBy_alloc w (.cells #[.int .u8 (k : Int), .int .u8 0, .slice none 0 0] 45) none
  have B2 := heap_new w (.cells #[.int .u8 (k : Int), .int .u8 0, .slice none 0 0] 45) w.heap.size rfl
  obtain ⟨D0, D1, D2, _, _, _⟩ := box_cells3 B2
  clear B2
  go_enter Try.func73, Try.ntmps73
  go_wp2_with fail
  exact bodyPost_ret (v := .agg #[.int .u8 (k : Int), .int .u8 0, .slice none 0 0]) (by simp [results, Try.results73, go_sem, D0, D1, D2]) rfl ⟨rfl, g2⟩
/-- A slice of records whose bodies lie in an elder world. -/
def RecsB (w0 W : World) (v : Value) (rs : List KRec) : Prop := ∃ s c, v = .slice s rs.length c ∧ (∀ i (h : i < rs.length), ∃ a sb cb, s = some a ∧ W.cell? (a.add (i * 3)) = some (.int .u8 (rs[i].1 : Int)) ∧ W.cell? (a.add (i * 3 + 1)) = some (.int .u8 (rs[i].2.1 : Int)) ∧ W.cell? (a.add (i * 3 + 2)) = some (.slice sb rs[i].2.2.length cb) ∧ BySl w0 sb rs[i].2.2 ∧ (sb = none → rs[i].2.2.length = 0 ∧ cb = 0) ∧ rs[i].2.2.length ≤ cb ∧ cb ≤ 9223372036854775807) ∧ SlOk s rs.length c ∧ Small rs ∧ (∀ a, s = some a → 0 < rs.length → a.block < w0.heap.size ∨ ∃ cs, W.heap[a.block]? = some (.cells cs 45 (0, 0)))
theorem RecsV.toB {w0 W : World} {v : Value} {rs : List KRec} (h : RecsV w0 v rs) (hg : w0.grownBy W none) : RecsB w0 W v rs := by
  obtain ⟨s, c, e, h1, h2, h3⟩ := h
  exact ⟨s, c, e, fun i hi => by
    obtain ⟨a, sb, cb, e, a0, a1, a2, a3, a4⟩ := h1 i hi
    exact ⟨a, sb, cb, e, hg.cell a0 (by simp), hg.cell a1 (by simp), hg.cell a2 (by simp), a3, a4⟩, h2, h3, fun a e hl => Or.inl (by
      obtain ⟨a', _, _, e', a0, _⟩ := h1 0 hl
      rw [e] at e'; cases e'
      have := World.block_lt_of_cell? _ _ a0
      simpa [Addr.add] using this)⟩
/-- A record without a body, alone. -/
theorem bare_recs (w0 W : World) (k : Nat) (hk : k < 256) : RecsB w0 (W.alloc (.cells #[.int .u8 (k : Int), .int .u8 0, .slice none 0 0] 45)) (.slice (some ⟨W.heap.size, 0, none⟩) 1 1) [endE k] := by
  have hb := heap_new W (.cells #[.int .u8 (k : Int), .int .u8 0, .slice none 0 0] 45) W.heap.size rfl
  refine ⟨_, 1, rfl, fun i hi => ?_, ⟨(fun e => by cases e), Nat.le_refl _, by decide⟩, fun r hr => ?_, fun a e _ => ?_⟩
  · obtain rfl : i = 0 := by simpa using hi
    exact ⟨_, none, 0, rfl, cell_of hb rfl, cell_of hb rfl, cell_of hb rfl, BySl.nil _ _, fun _ => ⟨rfl, rfl⟩, Nat.le_refl _, by decide⟩
  · simp at hr; subst hr; exact ⟨hk, Nat.zero_lt_succ 255⟩
  · cases e; exact Or.inr ⟨_, hb⟩
/-- What a closure is handed, piece by piece. -/
structure Fed (w0 : World) (T : List KRec) (F q : Nat) (St : World → List KRec → Prop) : Prop where
  old : ∀ W rs, St W rs → w0.grownBy W none
  kept : ∀ W W' rs, St W rs → W.grownBy W' none → St W' rs
  fed : ∀ W rs v more, St W rs → RecsB w0 W v more → (∃ rest, T = rs ++ more ++ rest) → Calls Try.prog F #[v, .pointer (some ⟨q, 0, none⟩)] W (fun e w' => e = .returned (.tuple #[]) ∧ St w' (rs ++ more) ∧ KeepT W w')
def cellsUp (t : KLib) (k : Nat) : List KRec := t.1 ++ (t.2.take k).flatMap recC
def itemsUp (c : KCell) (j : Nat) : List KRec := c.1 ++ (c.2.take j).flatMap recI
theorem cellsUp_zero (t : KLib) : cellsUp t 0 = t.1 := by simp [cellsUp]
theorem itemsUp_zero (c : KCell) : itemsUp c 0 = c.1 := by simp [itemsUp]
theorem cellsUp_succ {t : KLib} {k : Nat} (h : k < t.2.length) : cellsUp t (k + 1) = cellsUp t k ++ recC t.2[k] := by
  unfold cellsUp; rw [List.take_succ_eq_append_getElem h, List.flatMap_append, List.append_assoc]; simp
theorem itemsUp_succ {c : KCell} {j : Nat} (h : j < c.2.length) : itemsUp c (j + 1) = itemsUp c j ++ recI c.2[j] := by
  unfold itemsUp; rw [List.take_succ_eq_append_getElem h, List.flatMap_append, List.append_assoc]; simp
theorem cellsUp_all {t : KLib} {k : Nat} (h : t.2.length ≤ k) : cellsUp t k ++ [endE 4] = recT t := by
  unfold cellsUp recT; rw [List.take_of_length_le h, List.append_assoc]
theorem itemsUp_all {c : KCell} {j : Nat} (h : c.2.length ≤ j) : itemsUp c j ++ [endE 7] = recC c := by
  unfold itemsUp recC; rw [List.take_of_length_le h, List.append_assoc]
theorem recT_up (t : KLib) (k : Nat) : ∃ rest, recT t = cellsUp t k ++ rest := by
  refine ⟨(t.2.drop k).flatMap recC ++ [endE 4], ?_⟩
  unfold recT cellsUp
  have h : t.2.flatMap recC = (t.2.take k).flatMap recC ++ (t.2.drop k).flatMap recC := by rw [← List.flatMap_append, List.take_append_drop]
  rw [h]; simp only [List.append_assoc]
theorem recC_up (c : KCell) (j : Nat) : ∃ rest, recC c = itemsUp c j ++ rest := by
  refine ⟨(c.2.drop j).flatMap recI ++ [endE 7], ?_⟩
  unfold recC itemsUp
  have h : c.2.flatMap recI = (c.2.take j).flatMap recI ++ (c.2.drop j).flatMap recI := by rw [← List.flatMap_append, List.take_append_drop]
  rw [h]; simp only [List.append_assoc]
/-- The pieces are pieces of the whole. -/
theorem piece_head (t : KLib) : ∃ rest, recT t = [] ++ t.1 ++ rest := ⟨_, rfl⟩
theorem piece_end {t : KLib} {k : Nat} (h : t.2.length ≤ k) : ∃ rest, recT t = cellsUp t k ++ [endE 4] ++ rest := ⟨[], by rw [cellsUp_all h]; simp⟩
theorem piece_cell {t : KLib} {k : Nat} (h : k < t.2.length) {p m : List KRec} (hm : ∃ r, recC t.2[k] = p ++ m ++ r) : ∃ rest, recT t = (cellsUp t k ++ p) ++ m ++ rest := by
  obtain ⟨r, hr⟩ := hm
  obtain ⟨s, hs⟩ := recT_up t (k + 1)
  exact ⟨r ++ s, by rw [hs, cellsUp_succ h, hr]; simp⟩
theorem piece_item {c : KCell} {j : Nat} (h : j < c.2.length) {p m : List KRec} (hm : ∃ r, recI c.2[j] = p ++ m ++ r) : ∃ rest, recC c = (itemsUp c j ++ p) ++ m ++ rest := by
  obtain ⟨r, hr⟩ := hm
  obtain ⟨s, hs⟩ := recC_up c (j + 1)
  exact ⟨r ++ s, by rw [hs, itemsUp_succ h, hr]; simp⟩
set_option maxHeartbeats 32000000 in
theorem Each_any (w0 w : World) (F q : Nat) (St : World → List KRec → Prop) (v : Value) (t : KLib) (hf : Fed w0 (recT t) F q St) (hv : LibV w0 v t) (hs : St w [])
    (hcf : ∀ (args : Array Value) (W : World), (callFunc F args).run Try.prog W = .ok (.enter F args) W) :
    Calls Try.prog 56 #[v, .func (.func F) #[] #[.pointer (some ⟨q, 0, none⟩)]] w (fun e w' => e = .returned (.tuple #[]) ∧ St w' (recT t)) := by
  obtain ⟨a, b, rfl, ha, sc, cc, rfl, hp, hok⟩ := hv
  obtain ⟨sa, ca, rfl, _⟩ := ha.shape
  obtain ⟨N, hN⟩ : ∃ N, t.2.length = N := ⟨_, rfl⟩
  rw [hN] at hok ⊢
  have hNm : N ≤ 9223372036854775807 := Nat.le_trans hok.2.1 hok.2.2
  have hG := World.grownBy_alloc w (.cells #[.slice sa t.1.length ca, .slice sc N cc] 27) none
  have Bt := heap_new w (.cells #[.slice sa t.1.length ca, .slice sc N cc] 27) w.heap.size rfl
  have hs1 := hf.kept _ _ _ hs hG
  have HF := Lib.hid hf
  have HA := Lib.hid (ha.toB (hf.old _ _ hs1))
  have HP := Lib.hid hp
  have HN := Lib.hid hN
  have HS := Lib.hid hs1
  obtain ⟨C0, C1, _, _⟩ := box_cells2 Bt
  clear ha hp hN hok hf hs hs1 hG
  go_enter Try.func56, Try.ntmps56
  go_wp2_with fail
  generalize (w.alloc (.cells #[.slice sa t.1.length ca, .slice sc N cc] 27)) = wa at *
  refine (HF.out.fed wa [] _ t.1 HS.out HA.out (piece_head t)).mono ?_
  rintro e w1 ⟨rfl, hs1, hk1⟩
  have HS1 : Hid (St w1 (cellsUp t 0)) := Lib.hid (by rw [cellsUp_zero]; exact hs1)
  have Bt1 := hk1 _ _ _ Bt (Or.inl rfl)
  clear hs1 hk1 Bt C0 C1
  obtain ⟨C0, C1, _, _⟩ := box_cells2 Bt1
  go_wp2_with fail
  clear C0 C1 Bt1
  go_loopg [15] N (fun gh i wr => ∃ k : Nat, k ≤ N ∧ N - k ≤ gh ∧ i = .int .i64 (k : Int) ∧ Hid (St wr (cellsUp t k)))
  case atStart => exact ⟨0, Nat.zero_le _, Nat.le_refl _, rfl, HS1⟩
  case round =>
    clear HS1
    obtain ⟨k, hk, hgh, rfl, HS⟩ := hrel
    have hG := HF.out.old _ _ HS.out
    by_cases hlt : k < N
    · have f1 : decide ((k : Int) < (N : Int)) = true := decide_eq_true (by omega)
      have hkl : k < t.2.length := by have := HN.out; omega
      obtain ⟨ad, q1, u, v, hsc, hq, A0, A1, hu, hv⟩ := HP.out.at k hkl
      have hpc : ∀ p m, (∃ r, recC t.2[k] = p ++ m ++ r) → ∃ rest, recT t = (cellsUp t k ++ p) ++ m ++ rest := fun p m h => piece_cell hkl h
      have hup := cellsUp_succ hkl
      obtain ⟨c, hc⟩ : ∃ c, t.2[k] = c := ⟨_, rfl⟩
      rw [hc] at hu hv hup hpc
      have HPC := Lib.hid hpc
      have HUP := Lib.hid hup
      have HU := Lib.hid hu
      obtain ⟨su, cu, rfl, _⟩ := hu.shape
      obtain ⟨sv, cv, rfl, hpi, hoki⟩ := ItemsV.open hv
      obtain ⟨M, hM⟩ : ∃ M, c.2.length = M := ⟨_, rfl⟩
      rw [hM] at hoki A1
      have hMm : M ≤ 9223372036854775807 := Nat.le_trans hoki.2.1 hoki.2.2
      have HI := Lib.hid hpi
      have HM := Lib.hid hM
      replace A0 := hG.cell A0 (by simp)
      replace A1 := hG.cell A1 (by simp)
      have gA := World.grownBy_alloc wr (.cells #[.slice su c.1.length cu, .slice sv M cv] 50) none
      have Bc := heap_new wr (.cells #[.slice su c.1.length cu, .slice sv M cv] 50) wr.heap.size rfl
      obtain ⟨C0, C1, _, _⟩ := box_cells2 Bc
      have HS2 := Lib.hid (HF.out.kept _ _ _ HS.out gA)
      subst hsc
      clear hu hv hpi hoki hM hG gA hup hpc
      clear hc hkl
      go_wp2_with fail
      generalize (wr.alloc (.cells #[.slice su c.1.length cu, .slice sv M cv] 50)) = w2 at *
      refine (HF.out.fed w2 (cellsUp t k) _ c.1 HS2.out (HU.out.toB (HF.out.old _ _ HS2.out)) (by have := HPC.out [] c.1 ⟨_, rfl⟩; rwa [List.append_nil] at this)).mono ?_
      rintro e w3 ⟨rfl, hs3, hk3⟩
      have HS3 : Hid (St w3 (cellsUp t k ++ itemsUp c 0)) := Lib.hid (by rw [itemsUp_zero]; exact hs3)
      have Bc1 := hk3 _ _ _ Bc (Or.inr (Or.inl rfl))
      clear hs3 hk3 Bc C0 C1 A0 A1
      obtain ⟨C0, C1, _, _⟩ := box_cells2 Bc1
      go_wp2_with fail
      clear C0 C1 Bc1
      go_loopg [26] M (fun gh i wr => ∃ j : Nat, j ≤ M ∧ M - j ≤ gh ∧ i = .int .i64 (j : Int) ∧ Hid (St wr (cellsUp t k ++ itemsUp c j)))
      case atStart => exact ⟨0, Nat.zero_le _, Nat.le_refl _, rfl, HS3⟩
      case round =>
        clear HS3
        obtain ⟨j, hj, hgh2, rfl, HS4⟩ := hrel
        have hG := HF.out.old _ _ HS4.out
        by_cases hlt2 : j < M
        · have f2 : decide ((j : Int) < (M : Int)) = true := decide_eq_true (by omega)
          have hjl : j < c.2.length := by have := HM.out; omega
          obtain ⟨ad2, q2, u2, v2, hsv, hq2, A0, A1, hu2, hv2⟩ := HI.out.at j hjl
          have hpc : ∀ p m, (∃ r, recI c.2[j] = p ++ m ++ r) → ∃ rest, recT t = (cellsUp t k ++ itemsUp c j ++ p) ++ m ++ rest := fun p m h => by
            have := HPC.out _ _ (piece_item hjl h)
            rwa [← List.append_assoc] at this
          have hup := itemsUp_succ hjl
          obtain ⟨y, hy⟩ : ∃ y, c.2[j] = y := ⟨_, rfl⟩
          rw [hy] at hu2 hv2 hpc hup
          have HPI := Lib.hid hpc
          have HUI := Lib.hid hup
          have HU2 := Lib.hid hu2
          have HV2 := Lib.hid hv2
          obtain ⟨su2, cu2, rfl, _⟩ := hu2.shape
          obtain ⟨sv2, cv2, rfl, _⟩ := hv2.shape
          replace A0 := hG.cell A0 (by simp)
          replace A1 := hG.cell A1 (by simp)
          have gA := World.grownBy_alloc wr (.cells #[.slice su2 y.1.length cu2, .slice sv2 y.2.length cv2] 55) none
          have Bi := heap_new wr (.cells #[.slice su2 y.1.length cu2, .slice sv2 y.2.length cv2] 55) wr.heap.size rfl
          obtain ⟨C0, C1, _, _⟩ := box_cells2 Bi
          have HS5 := Lib.hid (HF.out.kept _ _ _ HS4.out gA)
          subst hsv
          clear hu2 hv2 hG gA hpc hup
          clear hy hjl
          go_wp2_with fail
          generalize (wr.alloc (.cells #[.slice su2 y.1.length cu2, .slice sv2 y.2.length cv2] 55)) = w4 at *
          refine (HF.out.fed w4 _ _ y.1 HS5.out (HU2.out.toB (HF.out.old _ _ HS5.out)) (by have := HPI.out [] y.1 ⟨_, rfl⟩; rwa [List.append_nil] at this)).mono ?_
          rintro e w5 ⟨rfl, hs5, hk5⟩
          have HS6 := Lib.hid hs5
          have Bi1 := hk5 _ _ _ Bi (Or.inr (Or.inr rfl))
          clear hs5 hk5 Bi C0 C1 A0 A1
          obtain ⟨C0, C1, _, _⟩ := box_cells2 Bi1
          go_wp2_with fail
          refine (HF.out.fed w5 _ _ y.2 HS6.out (HV2.out.toB (HF.out.old _ _ HS6.out)) (by have := HPI.out y.1 y.2 ⟨[endE 17], by simp [recI]⟩; exact this)).mono ?_
          rintro e w6 ⟨rfl, hs6, hk6⟩
          have HS7 := Lib.hid hs6
          clear hs6 hk6 Bi1 C0 C1
          go_wp2_with fail
          refine (Bare_any w6 17).mono ?_
          rintro e w7 ⟨rfl, hg7⟩
          have gB := World.grownBy_alloc w7 (.cells #[.int .u8 ((17 : Nat) : Int), .int .u8 0, .slice none 0 0] 45) none
          have HS8 := Lib.hid (HF.out.kept _ _ _ HS7.out (grown_trans hg7 gB))
          clear hg7 gB
          go_wp2_with fail
          refine (HF.out.fed _ _ _ [endE 17] HS8.out (bare_recs w0 w7 17 (by decide)) (by have := HPI.out (y.1 ++ y.2) [endE 17] ⟨[], by simp [recI]⟩; simpa using this)).mono ?_
          rintro e w8 ⟨rfl, hs8, hk8⟩
          have HS9 : Hid (St w8 (cellsUp t k ++ itemsUp c (j + 1))) := Lib.hid (by rw [HUI.out]; simpa [recI] using hs8)
          clear hs8 hk8
          go_wp2_with fail
          go_roundg (M - (j + 1))
          case measure => omega
          case rel => exact ⟨j + 1, by omega, Nat.le_refl _, by go_num, HS9⟩
        · have f2 : decide ((j : Int) < (M : Int)) = false := decide_eq_false (by omega)
          have hjm : c.2.length ≤ j := by have := HM.out; omega
          have hia := itemsUp_all hjm
          have HIA := Lib.hid hia
          clear hG hjm hia
          go_wp2_with fail
          refine (Bare_any wr 7).mono ?_
          rintro e w7 ⟨rfl, hg7⟩
          have gB := World.grownBy_alloc w7 (.cells #[.int .u8 ((7 : Nat) : Int), .int .u8 0, .slice none 0 0] 45) none
          have HS8 := Lib.hid (HF.out.kept _ _ _ HS4.out (grown_trans hg7 gB))
          clear hg7 gB
          go_wp2_with fail
          refine (HF.out.fed _ _ _ [endE 7] HS8.out (bare_recs w0 w7 7 (by decide)) (by exact HPC.out (itemsUp c j) [endE 7] ⟨[], by rw [HIA.out, List.append_nil]⟩)).mono ?_
          rintro e w8 ⟨rfl, hs8, hk8⟩
          have HS9 : Hid (St w8 (cellsUp t (k + 1))) := Lib.hid (by rw [HUP.out, ← HIA.out, ← List.append_assoc]; exact hs8)
          clear hs8 hk8
          go_wp2_with fail
          go_roundg (N - (k + 1))
          case measure => omega
          case rel => exact ⟨k + 1, by omega, Nat.le_refl _, by go_num, HS9⟩
    · have f1 : decide ((k : Int) < (N : Int)) = false := decide_eq_false (by omega)
      have hkm : t.2.length ≤ k := by have := HN.out; omega
      have HCA := Lib.hid (cellsUp_all hkm)
      have HPE := Lib.hid (piece_end hkm)
      clear hG hkm
      go_wp2_with fail
      refine (Bare_any wr 4).mono ?_
      rintro e w7 ⟨rfl, hg7⟩
      have gB := World.grownBy_alloc w7 (.cells #[.int .u8 ((4 : Nat) : Int), .int .u8 0, .slice none 0 0] 45) none
      have HS8 := Lib.hid (HF.out.kept _ _ _ HS.out (grown_trans hg7 gB))
      clear hg7 gB
      go_wp2_with fail
      refine (HF.out.fed _ _ _ [endE 4] HS8.out (bare_recs w0 w7 4 (by decide)) HPE.out).mono ?_
      rintro e w8 ⟨rfl, hs8, hk8⟩
      have hF : Hid (St w8 (recT t)) := Lib.hid (by rw [← HCA.out]; exact hs8)
      clear hs8 hk8
      go_wp2_with fail
      first | go_end0 | refine bodyPost_ret (results_none rfl _ _ _) rfl ?_
      exact ⟨rfl, hF.out⟩
end Go.Proofs.Ytcioefmldcmhgaa
