/- Streams as trees: Parse. -/
import Derived.Test.YtcioefmldcmhgaaGU
namespace Go.Proofs.Ytcioefmldcmhgaa
open Go.RowKit
set_option maxRecDepth 100000
set_option linter.unusedVariables false
set_option linter.unusedSimpArgs false

theorem parse_bad {l : List Nat} {c : Nat} {rs : List KRec} {k : Nat} (h : splitD l = (c, rs, k)) (hc : c ≠ 0) : parseD l = (20, ([], []), 0) := by
  unfold parseD; rw [h, if_neg hc]
theorem parse_no {l : List Nat} {rs : List KRec} {k : Nat} (h : splitD l = (0, rs, k)) (h2 : libR rs = none) : parseD l = (20, ([], []), 0) := by
  unfold parseD; rw [h, if_pos rfl]; dsimp only; rw [h2]
theorem parse_yes {l : List Nat} {rs m : List KRec} {k : Nat} {t : KLib} (h : splitD l = (0, rs, k)) (h2 : libR rs = some (t, m)) : parseD l = (0, t, k) := by
  unfold parseD; rw [h, if_pos rfl]; dsimp only; rw [h2]
theorem cf_parse (args : Array Value) (W : World) : (callFunc 28 args).run Try.prog W = .ok (.enter 28 args) W :=
  run_callFunc_enter Try.func28 (by kernel_rfl) (by kernel_rfl) args W
theorem PIn.kept {c : Lst} {qt : Nat} {b : Bool} {W W' : World} (h : PIn c qt b W) (hg : W.grownBy W' none) : PIn c qt b W' :=
  h.imp (fun ⟨e, y, t, u, v, h1, h2, h3, h4⟩ => ⟨e, y, t, u, v, h1, heap_kept hg h2, h3.kept hg, CellsT.kept h4 hg⟩) id
theorem PIn.off {c : Lst} {qt q : Nat} {b : Bool} {W W' : World} {v : Value} (h : PIn c qt b W) (hg : W.grownBy W' (some q)) (hq : W.heap[q]? = some (.cells #[v] 4 (0, 0))) (hne : qt ≠ q) : PIn c qt b W' :=
  h.imp (fun ⟨e, y, t, u, v, h1, h2, h3, h4⟩ => ⟨e, y, t, u, v, h1, heap_off hg h2 (fun e => hne (Option.some.inj e)), h3.off hg hq (by decide) (by decide), CellsT.grownT h4 hg hq (by decide) (by decide) (by decide) (by decide)⟩) id
theorem OwnR.some {W : World} {base n : Nat} {v : Value} {rs : List KRec} (h : OwnR W base v n rs) (h0 : 0 < n) : ∃ a c, v = .slice (some a) n c ∧ n ≤ c ∧ c ≤ 9223372036854775807 := by
  obtain ⟨xs, ⟨_, ⟨_, e⟩ | ⟨g, cap, cur, rfl, _, _, h1, h2, _⟩⟩, _⟩ := h
  · omega
  · exact ⟨_, cap, rfl, h1, by unfold maxLen at h2; omega⟩
theorem sp_pos {f : Nat} : ∀ {l : List Nat}, (spR f l).1 = 0 → 0 < (spR f l).2.1.length := by
  induction f with
  | zero => intro l h; cases h
  | succ f ih =>
    intro l h
    unfold spR at h ⊢
    split
    · rename_i h0; rw [if_pos h0] at h; exact absurd h h0
    · rename_i h0
      rw [if_neg h0] at h
      split
      · simp
      · rename_i h4
        rw [if_neg h4] at h
        unfold catS at h ⊢
        split
        · simp
        · rename_i h1; rw [if_neg h1] at h; exact absurd h h1
theorem split_pos {l : List Nat} {rs : List KRec} {k : Nat} (h : splitD l = (0, rs, k)) : 0 < rs.length := by
  unfold splitD at h
  split at h
  · rename_i h0; rw [h] at h0; exact absurd rfl h0
  · rename_i h0
    split at h
    · have := sp_pos (f := l.length + 1) (l := l) (by simpa using h0)
      rw [h] at this; exact this
    · cases h
set_option maxHeartbeats 16000000 in
theorem Parse_some (w : World) (a : Addr) (n cap : Nat) (l : List Nat) (hn : l.length = n) (hl : BySl w (some a) l) (hc : n ≤ cap) (hm : cap ≤ 9223372036854775807) (hlong : n ≤ 16777216) :
    Calls Try.prog 10 #[.slice (some a) n cap] w (RetParse w (parseD l)) := by
  have hmf : ∀ (fn : Fn) (first cap : Array Value) (w : World), (Instr.makeFunc fn first cap).run Try.prog w = .ok (.func fn first cap) w := fun _ _ _ _ => rfl
  have hG := World.grownBy_alloc w (.cells #[.slice none 0 0, .slice none 0 0] 27) none
  have Br := heap_new w (.cells #[.slice none 0 0, .slice none 0 0] 27) w.heap.size rfl
  have HN := Lib.hid hn
  have HL := Lib.hid (hl.kept hG)
  have HS4 := Lib.hid (split_len4 l)
  have HSM := Lib.hid (split_small hl.2)
  have HLG := Lib.hid hlong
  clear hn hl
  go_enter Try.func10, Try.ntmps10
  go_wp2_with fail
  generalize (w.alloc (.cells #[.slice none 0 0, .slice none 0 0] 27)) = wa at *
  refine (Split_any wa a n cap l HN.out HL.out hc hm hlong).mono ?_
  rintro e w1 ⟨v, rfl, hv, hg1⟩
  obtain ⟨⟨cd, rs, k⟩, hx⟩ : ∃ x, splitD l = x := ⟨_, rfl⟩
  rw [hx] at hv HS4 HSM ⊢
  dsimp only at hv HS4 HSM ⊢
  have HX := Lib.hid hx
  obtain ⟨s1, c1, rfl⟩ := hv.shape
  have Br1 := heap_kept hg1 Br
  have hG1 := grown_trans hG hg1
  have hwr := heap_lt Br
  have hwa := hg1.size
  have gA := World.grownBy_alloc w1 (.cells #[.slice s1 rs.length c1] 24) none
  have Bl := heap_new w1 (.cells #[.slice s1 rs.length c1] 24) w1.heap.size rfl
  have Br2 := heap_kept gA Br1
  have hG2 := grown_trans hG1 gA
  clear hx hg1 Br Br1 hG
  by_cases hcd : cd = 0
  · subst hcd
    have hp := split_pos HX.out
    obtain ⟨ad, c1', e, hc1, hc2⟩ := hv.some hp
    cases e
    have hsl := Lib.hid hv.sl
    have hrt := Lib.hid hv.rct
    have q1 : (((0 : Nat) : Int) != 0) = false := by decide
    have gB := World.grownBy_alloc (w1.alloc (.cells #[.slice (some ad) rs.length c1] 24)) (.cells #[.slice none 0 0, .slice none 0 0] 27) none
    have Bt := heap_new (w1.alloc (.cells #[.slice (some ad) rs.length c1] 24)) (.cells #[.slice none 0 0, .slice none 0 0] 27) (w1.heap.size + 1) (by simp)
    have Bl3 := heap_kept gB Bl
    have Br3 := heap_kept gB Br2
    have hG3 := grown_trans hG2 gB
    have gC := grown_trans gA gB
    have HG1 := Lib.hid hG1
    clear hv Bl Br2 hG2 gA gB
    go_wp2_with fail
    generalize ((w1.alloc (.cells #[.slice (some ad) rs.length c1] 24)).alloc (.cells #[.slice none 0 0, .slice none 0 0] 27)) = w2 at *
    obtain ⟨c, hcc⟩ : ∃ c : Lst, c = ⟨w1, some ad, rs.length, c1, rs⟩ := ⟨_, rfl⟩
    have hok : c.ok := by rw [hcc]; exact ⟨rfl, hsl.out, HSM.out, (fun e => by cases e), hc1, hc2⟩
    have HP : Hid (∀ W, w2.grownBy W none → Calls Try.prog 28 #[.pointer (some ⟨w1.heap.size, 0, none⟩), .pointer (some ⟨w1.heap.size + 1, 0, none⟩)] W (fun e w' => W.grownBy w' (some (w1.heap.size + 1)) ∧ ((e = .returned (.tuple #[]) ∧ PIn c (w1.heap.size + 1) true w') ∨ (e = mis ∧ PIn c (w1.heap.size + 1) false w')))) := Lib.hid fun W hW => by
      refine ParseIn_any c hok W _ _ (.slice none 0 0) (.slice none 0 0) ad (by rw [hcc]; exact ⟨rfl, hrt.out⟩) (by rw [hcc]; have := HS4.out; have := HN.out; have := HLG.out; dsimp only; omega) (by rw [hcc]; exact grown_trans gC hW) (by rw [hcc]; exact Nat.le_succ _) ?_ (heap_kept hW Bt)
      rw [hcc]; exact heap_kept hW Bl3
    have hne : w1.heap.size + 1 < w2.heap.size := heap_lt Bt
    refine (GFits_any w2 28 #[.pointer (some ⟨w1.heap.size, 0, none⟩), .pointer (some ⟨w1.heap.size + 1, 0, none⟩)] (some (w1.heap.size + 1)) (PIn c (w1.heap.size + 1)) (fun r e => by cases e; exact hne) cf_parse
      (Lib.hid fun b W W' v h1 h2 h3 => h1.off h2 h3 (by omega)) (Lib.hid fun b W W' h1 h2 => h1.kept h2) HP).mono ?_
    rintro e w3 ⟨b, rfl, hg3, hP⟩
    have Br4 := heap_off hg3 Br3 (by intro e; have := Option.some.inj e; omega)
    have hG4 := grown_new hG3 hg3 (by omega)
    have h0 : w1.grownBy w3 none := grown_new gC hg3 (by omega)
    have hcr : c.rs = rs := by rw [hcc]
    have hcw : c.w0 = w1 := by rw [hcc]
    obtain ⟨_, _, Fr0, Fr1⟩ := box_cells2 Br4
    rcases hP with ⟨rfl, y, t, u, v, hy, Bt3, hu, hv⟩ | ⟨rfl, hy⟩
    · rw [hcw] at hu hv
      rw [hcr] at hy
      obtain ⟨sa, ca, rfl, _⟩ := hu.shape
      obtain ⟨sb, cb, rfl, _⟩ := RowP.shape hv
      obtain ⟨Ct0, Ct1, _, _⟩ := box_cells2 Bt3
      have gp := grown_put2b (W := w3) (g := w.heap.size) (.slice sa y.1.length ca) (.slice sb y.2.length cb)
      have Br5 := heap_set2 Br4 (.slice sa y.1.length ca) (.slice sb y.2.length cb)
      obtain ⟨D0, D1, _, _⟩ := box_cells2 Br5
      have hF : Hid (RetParse w (parseD l) (.returned (.tuple #[.agg #[.slice sa y.1.length ca, .slice sb y.2.length cb], .int .i64 (k : Int), .int .i64 0])) ((w3.setCell ⟨w.heap.size, 0, none⟩ (.slice sa y.1.length ca)).setCell ⟨w.heap.size, 1, none⟩ (.slice sb y.2.length cb))) := Lib.hid (by
        rw [parse_yes HX.out hy]
        refine ⟨_, rfl, ⟨_, _, rfl, (hu.off gp Br4 (by decide) (by decide)).any, CellsT.any (CellsT.grownT hv gp Br4 (by decide) (by decide) (by decide) (by decide)), ?_⟩, grown_put2 hG4 (Nat.le_refl _) _ _⟩
        obtain ⟨_, e⟩ := libR_is hy
        exact HSM.out.of fun r hr => by rw [e]; exact List.mem_append_left _ hr)
      clear hy hu hv hg3 gp Br4 Br5 Bt3 hG4 h0 hcr hcw hok hcc HP Bl3 Br3 Bt hG3 gC hp
      go_wp2_with fail
      exact bodyPost_ret (v := .tuple #[.agg #[.slice sa y.1.length ca, .slice sb y.2.length cb], .int .i64 (k : Int), .int .i64 0]) (by simp [results, Try.results10, go_sem, D0, D1]) rfl hF.out
    · rw [hcr] at hy
      have Br5 := heap_set2 Br4 (.slice none 0 0) (.slice none 0 0)
      obtain ⟨D0, D1, _, _⟩ := box_cells2 Br5
      have hF : Hid (RetParse w (parseD l) (.returned (.tuple #[.agg #[.slice none 0 0, .slice none 0 0], .int .i64 0, .int .i64 20])) ((w3.setCell ⟨w.heap.size, 0, none⟩ (.slice none 0 0)).setCell ⟨w.heap.size, 1, none⟩ (.slice none 0 0))) := Lib.hid (by
        rw [parse_no HX.out hy]
        exact ⟨_, rfl, LibT.nil _, grown_put2 hG4 (Nat.le_refl _) _ _⟩)
      clear hy hg3 Br4 Br5 hG4 h0 hcr hcw hok hcc HP Bl3 Br3 Bt hG3 gC hp
      go_wp2_with fail
      exact bodyPost_ret (v := .tuple #[.agg #[.slice none 0 0, .slice none 0 0], .int .i64 0, .int .i64 20]) (by simp [results, Try.results10, go_sem, D0, D1]) rfl hF.out
  · have q1 : (((cd : Nat) : Int) != 0) = true := bne_iff_ne.2 (by omega)
    obtain ⟨_, _, Fr0, Fr1⟩ := box_cells2 Br2
    have Br5 := heap_set2 Br2 (.slice none 0 0) (.slice none 0 0)
    obtain ⟨D0, D1, _, _⟩ := box_cells2 Br5
    have hF : Hid (RetParse w (parseD l) (.returned (.tuple #[.agg #[.slice none 0 0, .slice none 0 0], .int .i64 0, .int .i64 20])) (((w1.alloc (.cells #[.slice s1 rs.length c1] 24)).setCell ⟨w.heap.size, 0, none⟩ (.slice none 0 0)).setCell ⟨w.heap.size, 1, none⟩ (.slice none 0 0))) := Lib.hid (by
      rw [parse_bad HX.out hcd]
      exact ⟨_, rfl, LibT.nil _, grown_put2 hG2 (Nat.le_refl _) _ _⟩)
    clear hv Bl Br2 hG2 gA Br5 hG1
    go_wp2_with fail
    exact bodyPost_ret (v := .tuple #[.agg #[.slice none 0 0, .slice none 0 0], .int .i64 0, .int .i64 20]) (by simp [results, Try.results10, go_sem, D0, D1]) rfl hF.out
end Go.Proofs.Ytcioefmldcmhgaa
