/- Streams as trees: what is parsed, written again. -/
import Derived.Test.YtcioefmldcmhgaaGZa
namespace Go.Proofs.Ytcioefmldcmhgaa
open Go.RowKit
set_option maxRecDepth 100000
set_option linter.unusedVariables false
set_option linter.unusedSimpArgs false

theorem first_back {l : List Nat} (h : (firstR l).1 = 0) (hl : ∀ x ∈ l, x < 256) : recB (firstR l).2.1 = l.take (firstR l).2.2 := by
  rcases Nat.lt_or_ge l.length 2 with h2 | h2
  · rw [first_short h2] at h; cases h
  by_cases hk : lenR l < 4 ∨ lenR l % 2 = 1
  · rw [first_form h2 hk] at h; cases h
  rcases Nat.lt_or_ge l.length (lenR l) with hm | hm
  · rw [first_less h2 hk hm] at h; cases h
  rw [first_ok h2 hk hm]
  match l, h2, hm, hk, hl with
  | x0 :: x1 :: x2 :: x3 :: t, _, hm, hk, hl =>
    have h1 : x1 < 256 := hl x1 (by simp)
    have e : lenR (x0 :: x1 :: x2 :: x3 :: t) = x0 * 256 + x1 := rfl
    rw [e] at hm hk ⊢
    simp at hm
    have hlen : (t.take (x0 * 256 + x1 - 4)).length = x0 * 256 + x1 - 4 := by rw [List.length_take]; omega
    show [((t.take (x0 * 256 + x1 - 4)).length + 4) / 256, ((t.take (x0 * 256 + x1 - 4)).length + 4) % 256, x2, x3] ++ t.take (x0 * 256 + x1 - 4) = _
    rw [hlen]
    obtain ⟨k, hk2⟩ : ∃ k, x0 * 256 + x1 = k + 4 := ⟨x0 * 256 + x1 - 4, by omega⟩
    rw [hk2]
    rw [show k + 4 - 4 + 4 = x0 * 256 + x1 from by omega, show (x0 * 256 + x1) / 256 = x0 from by omega, show (x0 * 256 + x1) % 256 = x1 from by omega]
    rfl
  | [x0], h2, _, _, _ => simp at h2
  | [x0, x1], _, hm, hk, _ =>
    have e : lenR [x0, x1] = x0 * 256 + x1 := rfl
    rw [e] at hm hk; simp at hm; omega
  | [x0, x1, x2], _, hm, hk, _ =>
    have e : lenR [x0, x1, x2] = x0 * 256 + x1 := rfl
    rw [e] at hm hk; simp at hm; omega
theorem sp_back (f : Nat) : ∀ {l : List Nat}, (∀ x ∈ l, x < 256) → (spR f l).1 = 0 → joinB (spR f l).2.1 = l.take (spR f l).2.2 := by
  induction f with
  | zero => intro l _ h; cases h
  | succ f ih =>
    intro l hl h
    unfold spR at h ⊢
    split
    · rename_i h0; rw [if_pos h0] at h; exact absurd h h0
    · rename_i h0
      rw [if_neg h0] at h
      have h0 : (firstR l).1 = 0 := by simpa using h0
      split
      · rw [joinB_one]; exact first_back h0 hl
      · rename_i h4
        rw [if_neg h4] at h
        unfold catS at h ⊢
        split
        · rename_i h1
          dsimp only
          rw [joinB_append, joinB_one, first_back h0 hl, ih (fun x hx => hl x (List.mem_of_mem_drop hx)) h1]
          have hle := first_len l
          rw [List.take_add]
        · rename_i h1; rw [if_neg h1] at h; exact absurd h h1
theorem split_back {l : List Nat} {rs : List KRec} {k : Nat} (hl : ∀ x ∈ l, x < 256) (h : splitD l = (0, rs, k)) : joinB rs = l.take k ∧ k ≤ l.length := by
  unfold splitD at h
  split at h
  · rename_i h0; rw [h] at h0; exact absurd rfl h0
  · rename_i h0
    have h0 : (spR (l.length + 1) l).1 = 0 := by simpa using h0
    split at h
    · have := sp_back (l.length + 1) hl h0
      have h2 := sp_len (l.length + 1) l
      rw [h] at this h2; exact ⟨this, h2⟩
    · cases h
/-- The last record alone is an ENDLIB. -/
def EndL (rs : List KRec) : Prop := ∃ m r, rs = m ++ [r] ∧ r.1 = 4 ∧ ∀ x ∈ m, x.1 ≠ 4
theorem sp_endl (f : Nat) : ∀ {l : List Nat}, (spR f l).1 = 0 → EndL (spR f l).2.1 := by
  induction f with
  | zero => intro l h; cases h
  | succ f ih =>
    intro l h
    unfold spR at h ⊢
    split
    · rename_i h0; rw [if_pos h0] at h; exact absurd h h0
    · rename_i h0
      rw [if_neg h0] at h
      split
      · rename_i h4; exact ⟨[], _, rfl, h4, by simp⟩
      · rename_i h4
        rw [if_neg h4] at h
        unfold catS at h ⊢
        split
        · rename_i h1
          obtain ⟨m, r, e, hr, hm⟩ := ih h1
          refine ⟨(firstR l).2.1 :: m, r, ?_, hr, ?_⟩
          · dsimp only; rw [e]; simp
          · intro x hx
            rcases List.mem_cons.1 hx with rfl | hx
            · exact h4
            · exact hm x hx
        · rename_i h1; rw [if_neg h1] at h; exact absurd h h1
theorem split_endl {l : List Nat} {rs : List KRec} {k : Nat} (h : splitD l = (0, rs, k)) : EndL rs := by
  unfold splitD at h
  split at h
  · rename_i h0; rw [h] at h0; exact absurd rfl h0
  · rename_i h0
    have h0 : (spR (l.length + 1) l).1 = 0 := by simpa using h0
    split at h
    · have := sp_endl (l.length + 1) h0
      rw [h] at this; exact this
    · cases h
theorem endl_all {t : KLib} {m : List KRec} (h : EndL (recT t ++ m)) : m = [] := by
  obtain ⟨p, r, e, hr, hp⟩ := h
  rcases List.eq_nil_or_concat m with rfl | ⟨m', y, rfl⟩
  · rfl
  · exfalso
    rw [List.concat_eq_append, ← List.append_assoc] at e
    have e2 := List.append_inj_left' e rfl
    have : endE 4 ∈ p := by
      rw [← e2]
      exact List.mem_append_left _ (by simp [recT])
    exact hp _ this rfl
theorem parse_split {l : List Nat} {t : KLib} {n : Nat} (h : parseD l = (0, t, n)) : ∃ rs, splitD l = (0, rs, n) ∧ libR rs = some (t, []) ∧ recT t = rs := by
  unfold parseD at h
  split at h
  · rename_i h0
    split at h
    · rename_i t' m hl
      cases h
      have hs : splitD l = (0, (splitD l).2.1, (splitD l).2.2) := by rw [← h0]
      obtain ⟨_, e⟩ := libR_is hl
      have hm := endl_all (t := t) (m := m) (by rw [← e]; exact split_endl hs)
      subst hm
      exact ⟨_, hs, hl, by rw [e]; simp⟩
    · cases h
  · cases h
/-- What is parsed, written again, is the very bytes that were counted. -/
theorem back_write {l : List Nat} {t : KLib} {n : Nat} (hl : ∀ x ∈ l, x < 256) (hlong : l.length ≤ 16777216) (h : parseD l = (0, t, n)) : okL t = true ∧ writeD t = (0, l.take n) ∧ n ≤ l.length ∧ (joinB (recT t)).length ≤ 1099511627776 := by
  obtain ⟨rs, h1, h2, h3⟩ := parse_split h
  obtain ⟨h4, h5⟩ := split_back hl h1
  have hk := (okL_iff t).2 (libR_is h2).1
  have hj : joinB (recT t) = l.take n := by rw [h3, h4]
  have hle : (joinB (recT t)).length ≤ l.length := by rw [hj, List.length_take]; omega
  refine ⟨hk, ?_, h5, by omega⟩
  rw [write_ok hk (by omega), recT_join ((okL_iff t).1 hk), hj]
theorem parse_code (l : List Nat) : (parseD l).1 = 0 ∨ (parseD l).1 = 20 := by
  unfold parseD
  split
  · split
    · exact Or.inl rfl
    · exact Or.inr rfl
  · exact Or.inr rfl
theorem First_nil (w : World) : Calls Try.prog 46 #[.slice none 0 0] w (fun e w' => ∃ kd m : Nat, e = .returned (.tuple #[.agg #[.int .u8 (kd : Int), .int .u8 0, .slice none 0 0], .int .i64 (m : Int), .int .i64 7]) ∧ kd = 0 ∧ m = 0 ∧ w.grownBy w' none) := by
  refine (First_short w none 0 0 (by decide)).mono ?_
  rintro e w1 ⟨vb, rfl, hb, hg1⟩
  rcases hb with ⟨_, _, rfl⟩ | ⟨h, _⟩
  · exact ⟨0, 0, rfl, rfl, rfl, hg1⟩
  · cases h
set_option maxHeartbeats 16000000 in
theorem Next_none (w : World) (p q : Nat) (Bp : w.heap[p]? = some (.cells #[.slice none 0 0] 22 (0, 0))) (Bq : w.heap[q]? = some (.cells #[.int .i64 0] 3 (0, 0))) :
    Calls Try.prog 45 #[.pointer (some ⟨p, 0, none⟩), .pointer (some ⟨q, 0, none⟩)] w (fun e w' => e = .returned (.tuple #[.agg #[.int .u8 0, .int .u8 0, .slice none 0 0], .int .i64 7]) ∧ w.grownBy w' (some q)) := by
  have hG := World.grownBy_alloc w (.cells #[.int .u8 0, .int .u8 0, .slice none 0 0] 45) none
  have Br := heap_new w (.cells #[.int .u8 0, .int .u8 0, .slice none 0 0] 45) w.heap.size rfl
  obtain ⟨Cp, Fp⟩ := box_cell (heap_kept hG Bp)
  obtain ⟨Cq, Fq⟩ := box_cell (heap_kept hG Bq)
  go_enter Try.func45, Try.ntmps45
  go_wp2_with fail
  refine (First_nil _).mono ?_
  rintro e w1 ⟨kd, m, rfl, hkd, hm0, hg1⟩
  have HKD := Lib.hid hkd
  have HM0 := Lib.hid hm0
  have hm1 : m ≤ 1 := by omega
  clear hkd hm0
  obtain ⟨k, hk0⟩ : ∃ k : Nat, k = 0 := ⟨_, rfl⟩
  have HK0 := Lib.hid hk0
  have hk1 : k ≤ 1 := by omega
  replace Bq : w.heap[q]? = some (.cells #[.int .i64 (k : Int)] 3 (0, 0)) := by rw [hk0]; exact Bq
  clear hk0
  have im : (k : Int) + (m : Int) ≤ 9223372036854775807 := by omega
  have hsz : (w.alloc (.cells #[.int .u8 0, .int .u8 0, .slice none 0 0] 45)).heap.size = w.heap.size + 1 := by simp
  have hG1 := grown_trans hG hg1
  have Br0 := heap_kept hg1 Br
  have Bq0 := heap_kept hG1 Bq
  have hs1 := hg1.size
  rw [hsz] at hs1
  obtain ⟨Cq1, Fq1⟩ := box_cell Bq0
  have hqr : q < w.heap.size := heap_lt Bq
  have hqn : q < w1.heap.size := by omega
  have gA := World.grownBy_alloc w1 (.cells #[.int .u8 (kd : Int), .int .u8 0, .slice none 0 0] 45) none
  obtain ⟨Cq2, Fq2⟩ := box_cell (heap_kept gA Bq0)
  have gB := World.grownBy_alloc (w1.setCell ⟨q, 0, none⟩ (.int .i64 ((k : Int) + (m : Int)))) (.cells #[.int .u8 (kd : Int), .int .u8 0, .slice none 0 0] 45) none
  have Bn2 := heap_new (w1.setCell ⟨q, 0, none⟩ (.int .i64 ((k : Int) + (m : Int)))) (.cells #[.int .u8 (kd : Int), .int .u8 0, .slice none 0 0] 45) w1.heap.size (by simp [World.setCell])
  have Br2 := heap_kept gB (heap_unset (g := q) (o := 0) Br0 (by omega) (.int .i64 ((k : Int) + (m : Int))))
  have hG2 : w.grownBy ((w1.setCell ⟨q, 0, none⟩ (.int .i64 ((k : Int) + (m : Int)))).alloc (.cells #[.int .u8 (kd : Int), .int .u8 0, .slice none 0 0] 45)) (some q) := grown_trans (grown_set (grown_any hG1) 0 _) (grown_any gB)
  obtain ⟨Cn0, Cn1, Cn2, _, _, _⟩ := box_cells3 Bn2
  obtain ⟨Cr0, Cr1, Cr2, Fr0, Fr1, Fr2⟩ := box_cells3 Br2
  have Br3 := heap_set3 Br2 (.int .u8 (kd : Int)) (.int .u8 0) (.slice none 0 0)
  have hG3 := grown_new (grown_new (grown_new hG2 (grown_set (grown_refl _ _) 0 (.int .u8 (kd : Int))) (Nat.le_refl w.heap.size)) (grown_set (grown_refl _ _) 1 (.int .u8 0)) (Nat.le_refl w.heap.size)) (grown_set (grown_refl _ _) 2 (.slice none 0 0)) (Nat.le_refl w.heap.size)
  obtain ⟨D0, D1, D2, _, _, _⟩ := box_cells3 Br3
  clear Bn2 gB gA Br2 Br3 hG2 hG1 Br0 Bq0 hg1 hG Br Cp Fp Cq Fq hsz Bp Bq
  go_wp2_with fail
  exact bodyPost_ret (v := .tuple #[.agg #[.int .u8 (kd : Int), .int .u8 0, .slice none 0 0], .int .i64 7]) (by simp [results, Try.results45, go_sem, D0, D1, D2]) rfl ⟨by rw [HKD.out]; rfl, hG3⟩
set_option maxHeartbeats 16000000 in
theorem Split_none (w : World) : Calls Try.prog 26 #[.slice none 0 0] w (fun e w' => e = .returned (.tuple #[.slice none 0 0, .int .i64 0, .int .i64 7]) ∧ w.grownBy w' none) := by
  have hmf : ∀ (fn : Fn) (first cap : Array Value) (w : World), (Instr.makeFunc fn first cap).run Try.prog w = .ok (.func fn first cap) w := fun _ _ _ _ => rfl
  have hG1 := World.grownBy_alloc w (.cells #[.slice none 0 0] 22) none
  have Bp := heap_new w (.cells #[.slice none 0 0] 22) w.heap.size rfl
  obtain ⟨Cp, Fp⟩ := box_cell Bp
  go_enter Try.func26, Try.ntmps26
  go_wp2_with fail
  have hG2 := World.grownBy_alloc (w.alloc (.cells #[.slice none 0 0] 22)) (.cells #[.int .i64 0] 3) none
  have Bq := heap_new (w.alloc (.cells #[.slice none 0 0] 22)) (.cells #[.int .i64 0] 3) (w.heap.size + 1) (by simp)
  replace Bp := heap_kept hG2 Bp
  have hG := grown_trans hG1 hG2
  clear Cp Fp hG1 hG2
  generalize ((w.alloc (.cells #[.slice none 0 0] 22)).alloc (.cells #[.int .i64 0] 3)) = w0 at *
  go_loopg [7] 0 (fun gh v wr => v = .slice none 0 0 ∧ wr = w0)
  case atStart => exact ⟨rfl, rfl⟩
  case round =>
    obtain ⟨rfl, rfl⟩ := hrel
    have HN := Lib.hid (Next_none wr w.heap.size (w.heap.size + 1) Bp Bq)
    have hsz := heap_lt Bq
    clear Bp Bq
    go_wp2_with fail
    refine HN.out.mono ?_
    rintro e w1 ⟨rfl, hg1⟩
    have hF : Hid (w.grownBy (w1.alloc (.cells #[.int .u8 0, .int .u8 0, .slice none 0 0] 45)) none) := Lib.hid (grown_alloc (grown_new hG hg1 (by omega)) _)
    clear hg1 hG HN
    go_wp2_with fail
    go_ret3
    exact ⟨rfl, hF.out⟩
set_option maxHeartbeats 16000000 in
theorem Parse_none (w : World) : Calls Try.prog 10 #[.slice none 0 0] w (RetParse w (parseD [])) := by
  have hG := World.grownBy_alloc w (.cells #[.slice none 0 0, .slice none 0 0] 27) none
  have Br := heap_new w (.cells #[.slice none 0 0, .slice none 0 0] 27) w.heap.size rfl
  have HX := Lib.hid (show parseD [] = (20, ([], []), 0) by kernel_rfl)
  go_enter Try.func10, Try.ntmps10
  go_wp2_with fail
  generalize (w.alloc (.cells #[.slice none 0 0, .slice none 0 0] 27)) = wa at *
  refine (Split_none wa).mono ?_
  rintro e w1 ⟨rfl, hg1⟩
  have gA := World.grownBy_alloc w1 (.cells #[.slice none 0 0] 24) none
  have Br2 := heap_kept gA (heap_kept hg1 Br)
  have hG2 := grown_trans (grown_trans hG hg1) gA
  obtain ⟨_, _, Fr0, Fr1⟩ := box_cells2 Br2
  have Br5 := heap_set2 Br2 (.slice none 0 0) (.slice none 0 0)
  obtain ⟨D0, D1, _, _⟩ := box_cells2 Br5
  have hF : Hid (RetParse w (parseD []) (.returned (.tuple #[.agg #[.slice none 0 0, .slice none 0 0], .int .i64 0, .int .i64 20])) (((w1.alloc (.cells #[.slice none 0 0] 24)).setCell ⟨w.heap.size, 0, none⟩ (.slice none 0 0)).setCell ⟨w.heap.size, 1, none⟩ (.slice none 0 0))) := Lib.hid (by
    rw [HX.out]
    exact ⟨_, rfl, LibT.nil _, grown_put2 hG2 (Nat.le_refl _) _ _⟩)
  clear hg1 hG gA Br Br2 Br5 hG2
  go_wp2_with fail
  exact bodyPost_ret (v := .tuple #[.agg #[.slice none 0 0, .slice none 0 0], .int .i64 0, .int .i64 20]) (by simp [results, Try.results10, go_sem, D0, D1]) rfl hF.out
theorem Parse_any (w : World) (s : Option Addr) (n cap : Nat) (l : List Nat) (hn : l.length = n) (hl : BySl w s l) (hz : s = none → n = 0 ∧ cap = 0) (hc : n ≤ cap) (hm : cap ≤ 9223372036854775807) (hlong : n ≤ 16777216) :
    Calls Try.prog 10 #[.slice s n cap] w (RetParse w (parseD l)) := by
  cases s with
  | none =>
    obtain ⟨rfl, rfl⟩ := hz rfl
    obtain rfl := List.length_eq_zero_iff.1 hn
    exact Parse_none w
  | some a => exact Parse_some w a n cap l hn hl hc hm hlong
end Go.Proofs.Ytcioefmldcmhgaa
