/- The document's own reading of texts. -/
import Derived.Test.YtldkddogadmpbaaGreatDoorUniq
namespace Go.Proofs.YtldkddogadmpbaaGreatDoor
open Go.RowKit Mat
set_option maxRecDepth 100000
set_option linter.unusedVariables false
set_option linter.unusedSimpArgs false

theorem RefV.zero (w : World) : RefV w (.agg #[.slice none 0 0]) 0 := ⟨none, 0, 0, [], rfl, rfl, Nat.le_refl _, Or.inl rfl, fun x hx => by simp at hx, Dig.nil _, rfl⟩
theorem RefV.set_other {w : World} {v : Value} {n g : Nat} {c : Array Value} {t : TypeId} (h : RefV w v n) (hbox : w.heap[g]? = some (.cells c t (0, 0))) (ht : t ≠ 3) (o : Nat) (u : Value) : RefV (w.setCell ⟨g, o, none⟩ u) v n := by
  obtain ⟨s, k, cap, xs, e, h1, h2, h3, h4⟩ := h
  exact ⟨s, k, cap, xs, e, h1, h2, h3.set_other hbox ht o u, h4⟩
theorem rret {w w' : World} {v : Value} {n g : Nat} {c : Array Value} {t : TypeId} (hg : w.grownBy w' none) (hbox : w'.heap[g]? = some (.cells c t (0, 0))) (ht : t ≠ 3) (hl : w.heap.size ≤ g) (h : RefV w' v n) (u : Value) :
    RetRef w n (.returned v) (w'.setCell ⟨g, 0, none⟩ u) := ⟨v, rfl, h.set_other hbox ht 0 u, grown_new hg (grown_set (grown_refl _ _) _ _) hl⟩
def RetRefE (w : World) (n : Nat) (code : Int) (e : Ending) (w' : World) : Prop := ∃ v, e = .returned (.tuple #[v, .int .i64 code]) ∧ RefV w' v n ∧ w.grownBy w' none
theorem rretE {w w' : World} {v : Value} {n g : Nat} {code : Int} {c : Array Value} {t : TypeId} (hg : w.grownBy w' none) (hbox : w'.heap[g]? = some (.cells c t (0, 0))) (ht : t ≠ 3) (hl : w.heap.size ≤ g) (h : RefV w' v n) (u : Value) :
    RetRefE w n code (.returned (.tuple #[v, .int .i64 code])) (w'.setCell ⟨g, 0, none⟩ u) := ⟨v, rfl, h.set_other hbox ht 0 u, grown_new hg (grown_set (grown_refl _ _) _ _) hl⟩
theorem rparse_step {l : List Nat} {n e f m k : Nat} (hl : l.length = n) (hfm : f + m = e) (hek : e + 4 * k = n) : dval (l.drop e) + D ^ k * dval ((l.drop f).take m) = dval (l.drop f) := by
  have h : (l.drop f).take m ++ l.drop e = l.drop f := by rw [← hfm, ← List.drop_drop, List.take_append_drop]
  rw [← congrArg dval h, dval_append, List.length_drop, hl, show n - e = 4 * k from by omega]
  have : (10 : Nat) ^ (4 * k) = D ^ k := by rw [Nat.pow_mul]; rfl
  rw [this]; grind

set_option maxHeartbeats 2000000 in
theorem rParse_long (w : World) (s : ByteArray) (hs : 4096 < s.size) :
    Calls Tryz.prog 20 #[.string s] w (RetRefE w 0 2) := by
  have f1 : decide ((4096 : Int) < (s.size : Int)) = true := decide_eq_true (by omega)
  go_enter Tryz.func20, Tryz.ntmps20
  go_wp2_with fail
  exact bodyPost_ret (v := .tuple #[.agg #[.slice none 0 0], .int .i64 2]) (by simp [results, Tryz.results20, go_sem]) rfl ⟨_, rfl, RefV.zero _, by repeat (first | exact World.grownBy_alloc _ _ _ | refine grown_alloc ?_ _ | refine grown_new (g := w.heap.size) ?_ (grown_set (grown_refl _ _) _ _) (by omega))⟩

set_option maxHeartbeats 4000000 in
theorem rParse_form (w : World) (s : ByteArray) (hs : s.size ≤ 4096) (hd : ¬ DecL (bts s)) :
    Calls Tryz.prog 20 #[.string s] w (RetRefE w 0 3) := by
  have f1 : decide ((4096 : Int) < (s.size : Int)) = false := decide_eq_false (by omega)
  have hgw0 := World.grownBy_alloc w (.cells #[.slice none 0 0] 34) none
  have hF : Hid (∀ u, RetRefE w 0 3 (.returned (.tuple #[.agg #[.slice none 0 0], .int .i64 3])) ((w.alloc (.cells #[.slice none 0 0] 34)).setCell ⟨w.heap.size, 0, none⟩ u)) := fun u => ⟨_, rfl, RefV.zero _, grown_new hgw0 (grown_set (grown_refl _ _) _ _) (Nat.le_refl _)⟩
  have hF0 : Hid (RetRefE w 0 3 (.returned (.tuple #[.agg #[.slice none 0 0], .int .i64 3])) (w.alloc (.cells #[.slice none 0 0] 34))) := ⟨_, rfl, RefV.zero _, hgw0⟩
  obtain ⟨hc0, hf0⟩ := box_cell (heap_new w (.cells #[.slice none 0 0] 34) w.heap.size rfl)
  rcases Nat.eq_zero_or_pos s.size with h0 | h0
  · have f2 : ((s.size : Int) == 0) = true := by rw [h0]; rfl
    go_enter Tryz.func20, Tryz.ntmps20
    go_wp2_with fail
    exact bodyPost_ret (v := .tuple #[.agg #[.slice none 0 0], .int .i64 3]) (by simp [results, Tryz.results20, go_sem]) rfl hF0.out
  · have f2 : ((s.size : Int) == 0) = false := beq_eq_false_iff_ne.2 (by omega)
    obtain ⟨x, ex⟩ : ∃ x, (s[0]'h0).toNat = x := ⟨_, rfl⟩
    by_cases hb : 1 < s.size ∧ x = 48
    · obtain ⟨hb1, rfl⟩ := hb
      have f3 : decide ((1 : Int) < (s.size : Int)) = true := decide_eq_true (by omega)
      go_enter Tryz.func20, Tryz.ntmps20
      go_wp2_with fail
      exact bodyPost_ret (v := .tuple #[.agg #[.slice none 0 0], .int .i64 3]) (by simp [results, Tryz.results20, go_sem]) rfl hF0.out
    · have hdec : Hid (¬ ∀ j (h : j < s.size), j < s.size → 48 ≤ (s[j]'h).toNat ∧ (s[j]'h).toNat ≤ 57) := by
        intro h
        refine hd ⟨fun k hk => ?_, ?_⟩
        · have hk' : k < s.size := by rw [bts_len] at hk; exact hk
          rw [bts_get s k hk']; exact h k hk' hk'
        · by_cases h1 : s.size = 1
          · have hl : (bts s).length = 1 := by rw [bts_len]; exact h1
            obtain ⟨y, hy⟩ := List.length_eq_one_iff.1 hl
            by_cases h48 : y = 48
            · left; rw [hy, h48]
            · right; rw [hy]; simpa using h48
          · right
            refine ⟨fun e => ?_, fun e => ?_⟩
            · have := bts_len s; rw [e] at this; simp at this; omega
            · rw [bts_head s h0, ex] at e
              exact hb ⟨by omega, Option.some.inj e⟩
      have key : decide ((1 : Int) < (s.size : Int)) = false ∨ (decide ((1 : Int) < (s.size : Int)) = true ∧ ((x : Int) == 48) = false) := by
        by_cases h1 : 1 < s.size
        · right; exact ⟨decide_eq_true (by omega), beq_eq_false_iff_ne.2 (by omega)⟩
        · left; exact decide_eq_false (by omega)
      clear hb hd
      rcases key with f3 | ⟨f3, f4⟩
      all_goals (
        go_enter Tryz.func20, Tryz.ntmps20
        go_wp2_with fail
        generalize (w.alloc (.cells #[.slice none 0 0] 34)) = w0 at *
        go_loopw [4] (fun i wr => ∃ k : Nat, k ≤ s.size ∧ i = .int .i64 k ∧ w0 = wr ∧ Hid (∀ j (h : j < s.size), j < k → 48 ≤ (s[j]'h).toNat ∧ (s[j]'h).toNat ≤ 57)) (fun i _ => s.size - (intOf i).toNat)
        case atStart => exact ⟨0, Nat.zero_le _, rfl, rfl, fun j h h0 => absurd h0 (by omega)⟩
        case round =>
          obtain ⟨k, hk, rfl, rfl, hd⟩ := hrel
          by_cases hlt : k < s.size
          · obtain ⟨y, ey⟩ : ∃ y, (s[k]'hlt).toNat = y := ⟨_, rfl⟩
            by_cases hy : 48 ≤ y ∧ y ≤ 57
            · have f5 : decide ((y : Int) < 48) = false := decide_eq_false (by omega)
              have f6 : decide ((57 : Int) < (y : Int)) = false := decide_eq_false (by omega)
              go_wp2_with fail
              go_roundw
              case rel =>
                refine ⟨k + 1, by omega, by go_num, by trivial, fun j h hj => ?_⟩
                rcases Nat.lt_or_ge j k with h1 | h1
                · exact hd.out j h h1
                · obtain rfl : j = k := by omega
                  rw [ey]; exact hy
              case measure => simp [intOf]; omega
            · go_wp2_with fail
              all_goals first | exact bodyPost_ret (v := .tuple #[.agg #[.slice none 0 0], .int .i64 3]) (by simp [results, Tryz.results20, go_sem, hc0]) rfl (hF.out _) | (exfalso; omega)
          · obtain rfl : k = s.size := by omega
            exact absurd hd.out hdec.out)

set_option maxHeartbeats 8000000 in
theorem rParse_some (w : World) (s : ByteArray) (hs : s.size ≤ 4096) (hd : DecL (bts s)) :
    Calls Tryz.prog 20 #[.string s] w (RetRefE w (dval (bts s)) 0) := by
  have f1 : decide ((4096 : Int) < (s.size : Int)) = false := decide_eq_false (by omega)
  obtain ⟨i1, hi, hz0, hz1, hz2⟩ := info_partsI
  have hgw0 := World.grownBy_alloc w (.cells #[.slice none 0 0] 34) none
  have hbox0 := heap_new w (.cells #[.slice none 0 0] 34) w.heap.size rfl
  have hs0 : (w.alloc (.cells #[.slice none 0 0] 34)).heap.size = w.heap.size + 1 := by simp
  have HB := Lib.hid (bts_len s)
  have h0 : 0 < s.size := by
    rcases Nat.eq_zero_or_pos s.size with h | h
    · have h2 := bts_len s
      rw [h] at h2
      have h3 := List.length_eq_zero_iff.1 h2
      rcases hd.2 with h4 | h4
      · rw [h3] at h4; simp at h4
      · exact absurd h3 h4.1
    · exact h
  have f2 : ((s.size : Int) == 0) = false := beq_eq_false_iff_ne.2 (by omega)
  obtain ⟨x0, ex⟩ : ∃ x0, (s[0]'h0).toNat = x0 := ⟨_, rfl⟩
  have HDG : Hid (∀ j (h : j < s.size), 48 ≤ (s[j]'h).toNat ∧ (s[j]'h).toNat ≤ 57) := by
    intro j h
    have := hd.1 j (by rw [bts_len]; exact h)
    rw [bts_get s j h] at this; exact this
  have key : decide ((1 : Int) < (s.size : Int)) = false ∨ (decide ((1 : Int) < (s.size : Int)) = true ∧ ((x0 : Int) == 48) = false) := by
    by_cases h1 : 1 < s.size
    · right
      refine ⟨decide_eq_true (by omega), beq_eq_false_iff_ne.2 ?_⟩
      rcases hd.2 with h4 | h4
      · have := bts_len s; rw [h4] at this; simp at this; omega
      · intro e
        apply h4.2
        rw [bts_head s h0, ex]
        congr 1; omega
    · left; exact decide_eq_false (by omega)
  clear hd
  rcases key with f3 | ⟨f3, f4⟩
  all_goals (
    go_enter Tryz.func20, Tryz.ntmps20
    go_wp2_with fail
    generalize (w.alloc (.cells #[.slice none 0 0] 34)) = w0 at *
    go_loopw [4] (fun i wr => ∃ k : Nat, k ≤ s.size ∧ i = .int .i64 k ∧ w0 = wr) (fun i _ => s.size - (intOf i).toNat)
    case atStart => exact ⟨0, Nat.zero_le _, rfl, rfl⟩
    case round =>
      obtain ⟨k, hk, rfl, rfl⟩ := hrel
      by_cases hlt : k < s.size
      · obtain ⟨y, ey⟩ : ∃ y, (s[k]'hlt).toNat = y := ⟨_, rfl⟩
        have hy : 48 ≤ y ∧ y ≤ 57 := ey ▸ HDG.out k hlt
        have f5 : decide ((y : Int) < 48) = false := decide_eq_false (by omega)
        have f6 : decide ((57 : Int) < (y : Int)) = false := decide_eq_false (by omega)
        go_wp2_with fail
        go_roundw
        case rel => exact ⟨k + 1, by omega, by go_num, by trivial⟩
        case measure => simp [intOf]; omega
      · obtain rfl : k = s.size := by omega
        clear f3 f2 f1
        go_wp2_with fail
        go_loopg [5, 6] s.size (fun gh a b wr => ∃ (k : Nat) (E : Int) (sl : Option Addr) (cl : Nat) (ds : List Nat), a = .slice sl k cl ∧ b = .int .i64 E ∧ Hid (E = (s.size : Int) - 4 * (k : Int)) ∧ -4 < E ∧ E ≤ 4096 ∧ E.toNat ≤ gh ∧ k ≤ 1024 ∧ wr.ownsRow (w.heap.size + 1) 3 1 (.slice sl k cl) k (ds.map iv) ∧ Hid (ds.length = k) ∧ Dig D ds ∧ Hid (val D ds = dval ((bts s).drop E.toNat)) ∧ Below (w.heap.size + 1) w0 wr)
        case atStart => exact ⟨0, s.size, none, 0, [], rfl, rfl, by show _ = _; omega, by omega, by omega, by omega, by omega, ⟨rfl, Or.inl ⟨rfl, rfl⟩⟩, rfl, Dig.nil _, by show _ = _; rw [List.drop_of_length_le (by rw [HB.out]; simp)]; rfl, Below.refl _ _⟩
        case round =>
          obtain ⟨k, E, sl, cl, ds, rfl, rfl, hE, hE0, hE1, hgh, hk, hown, hdl, hdd, hv, hbl⟩ := hrel
          by_cases hpos : 0 < E
          · obtain ⟨e, rfl⟩ : ∃ e : Nat, E = (e : Int) := ⟨E.toNat, by omega⟩
            have f7 : decide ((0 : Int) < (e : Int)) = true := decide_eq_true (by omega)
            have hek : Hid (e + 4 * k = s.size) := by show _ = _; have := hE.out; omega
            have hk2 : k < 1024 := by have := hek.out; omega
            obtain ⟨f, hf⟩ : ∃ f, e - 4 = f := ⟨_, rfl⟩
            obtain ⟨m, hm⟩ : ∃ m, e - f = m := ⟨_, rfl⟩
            have hfm : f + m = e := by omega
            have hm4 : m ≤ 4 := by omega
            have hes : e ≤ s.size := by have := hek.out; omega
            have key2 : (decide ((e : Int) - 4 < 0) = true ∧ f = 0) ∨ (decide ((e : Int) - 4 < 0) = false ∧ (e : Int) - 4 = (f : Int)) := by
              by_cases h4 : e < 4
              · left; exact ⟨decide_eq_true (by omega), by omega⟩
              · right; exact ⟨decide_eq_false (by omega), by omega⟩
            have hsr : w.heap.size + 1 ≤ wr.heap.size := by have := hbl.size; omega
            have hv2 : Hid (val D ds + D ^ k * dval (((bts s).drop f).take m) = dval ((bts s).drop f)) := by
              show _ = _
              rw [hv.out]; exact rparse_step HB.out hfm hek.out
            have hEn : Hid ((e : Int) - 4 = (s.size : Int) - 4 * ((k + 1 : Nat) : Int)) := by show _ = _; have := hek.out; omega
            have hef : ((e : Int) - 4).toNat = f := by omega
            clear hE hm hv hf
            rcases key2 with ⟨g1, hf0⟩ | ⟨g1, g2⟩
            all_goals (
              go_wp2_with fail
              go_loopw [8, 9] (fun v i wi => ∃ (j x : Nat), j ≤ m ∧ i = .int .i64 ((f : Int) + (j : Int)) ∧ v = .int .i64 x ∧ Hid (x < 10 ^ j) ∧ x < 10000 ∧ Hid (x = dval (((bts s).drop f).take j)) ∧ wr = wi) (fun _ i _ => e - (intOf i).toNat)
              case atStart => exact ⟨0, 0, Nat.zero_le _, by go_num, rfl, by show _ < _; simp, by omega, rfl, rfl⟩
              case round =>
                obtain ⟨j, x, hj, rfl, rfl, hx, hx4, hxv, rfl⟩ := hrel
                by_cases hlt2 : j < m
                · obtain ⟨p, hp⟩ : ∃ p, f + j = p := ⟨_, rfl⟩
                  have hps : p < s.size := by omega
                  obtain ⟨d, ed⟩ : ∃ d, (s[p]'hps).toNat = d := ⟨_, rfl⟩
                  have hds : 48 ≤ d ∧ d ≤ 57 := ed ▸ HDG.out p hps
                  obtain ⟨q, hq⟩ : ∃ q, d - 48 = q := ⟨_, rfl⟩
                  have g3 : IntKind.u8.wrap ((d : Int) - 48) = (q : Int) := by rw [IntKind.wrap_u8]; omega
                  have g4 : (f : Int) + (j : Int) = (p : Int) := by omega
                  have g5 : decide ((p : Int) < (e : Int)) = true := decide_eq_true (by omega)
                  have hx9 : x < 1000 := by
                    have h1 : 10 ^ j ≤ 10 ^ 3 := Nat.pow_le_pow_right (by omega) (by omega)
                    have := hx.out; omega
                  have hxn : Hid (10 * x + q < 10 ^ (j + 1)) := by show _ < _; have := hx.out; rw [Nat.pow_succ]; omega
                  have hxvn : Hid (10 * x + q = dval (((bts s).drop f).take (j + 1))) := by
                    show _ = _
                    rw [dval_snoc ((bts s).drop f) j d (by rw [List.length_drop, HB.out]; omega) (by rw [List.getElem_drop]; simp only [hp]; rw [bts_get s p hps]; exact ed), ← hxv.out, hq]; omega
                  have hq9 : q ≤ 9 := by omega
                  have g6 : (p : Int) + 1 = (f : Int) + ((j + 1 : Nat) : Int) := by omega
                  rw [g4]
                  clear hq hp
                  go_wp2_with fail
                  go_roundw
                  case rel => exact ⟨j + 1, 10 * x + q, by omega, by first | (rw [g6]; done) | (rw [← g6]; go_num) | go_num, by go_num, hxn, by omega, hxvn, by trivial⟩
                  case measure => simp [intOf]; omega
                · obtain rfl : j = m := by omega
                  have g4 : (f : Int) + (j : Int) = (e : Int) := by omega
                  rw [g4]
                  have hownA := own_allocI hown (.cells #[iv x] 3)
                  have hnews : ∀ j u, ([iv x] : List Value)[j]? = some u → (wr.alloc (.cells #[iv x] 3)).cell? ((⟨wr.heap.size, 0, none⟩ : Addr).add j) = some u := World.news_of_block (heap_alloc_new wr _)
                  have hsi : w.heap.size + 1 ≤ (wr.alloc (.cells #[iv x] 3)).heap.size := by simp; omega
                  have hblA : Below (w.heap.size + 1) w0 (wr.alloc (.cells #[iv x] 3)) := hbl.trans (below_none (World.grownBy_alloc _ _ _) hsr)
                  have hvn : Hid (val D (ds ++ [x]) = dval ((bts s).drop ((e : Int) - 4).toNat)) := by
                    show _ = _
                    rw [val_snoc, hdl.out, hxv.out, hv2.out, hef]
                  clear hown hbl hv2 hxv
                  go_wp2_with (at_builtin; refine wpList_append_lies _ rfl _ _ _ rfl (w.heap.size + 1) 3 i1 (.int .i64 0) 1 8 Tryz.underlying32 hi hz0 hz1 hz2 rfl (by omega) (.slice sl k cl) k (ds.map iv) rfl hownA ⟨wr.heap.size, 0, none⟩ 1 1 [iv x] rfl rfl hnews one_iv (by omega) (by unfold maxLen; omega) (by omega) hsi (wr.heap.size + 1) (by simp) ?_; intro g2 cap2 w5 hown5 hgrow hat9 hlt9)
                  have hbl5 := hblA.trans (below_own hownA hgrow hsi)
                  have hmap : ds.map iv ++ [iv x] = (ds ++ [x]).map iv := by rw [List.map_append]; rfl
                  rw [hmap] at hown5
                  have hl5 : Hid ((ds ++ [x]).length = k + 1) := by show _ = _; rw [List.length_append, hdl.out]; rfl
                  clear hgrow hownA hnews hblA hmap
                  go_roundg (((e : Int) - 4).toNat)
                  case measure => omega
                  case rel => exact ⟨k + 1, (e : Int) - 4, _, cap2, ds ++ [x], rfl, by go_num, hEn, by omega, by omega, Nat.le_refl _, by omega, hown5, hl5, hdd.snoc hx4, hvn, hbl5⟩)
          · have f7 : decide ((0 : Int) < E) = false := decide_eq_false (by omega)
            obtain ⟨hrd, hcap, _⟩ := own_rdoI hown
            have hgw := grown_then_below hgw0 hbl (by omega)
            have hbox := heap_below hbl hbox0 (by omega)
            have HV : Hid (val D ds = dval (bts s)) := by
              show _ = _
              rw [hv.out, show E.toNat = 0 from by omega]; rfl
            clear hown hbl hv hE
            go_wp2_with fail
            refine (rcut_any wr sl k cl ds hdl.out hrd hcap (by omega) hdd).mono ?_
            rintro e w4 ⟨v, rfl, hv4, hg4⟩
            have hbox4 := heap_kept hg4 hbox
            obtain ⟨hc4, hf4⟩ := box_cell hbox4
            rw [HV.out] at hv4
            obtain ⟨s4, k4, c4, zs4, rfl, hz4⟩ := hv4
            have hF := Lib.hid (rretE (code := 0) (grown_trans hgw hg4) hbox4 (by decide) (Nat.le_refl _) ⟨s4, k4, c4, zs4, rfl, hz4⟩ (.slice s4 k4 c4))
            clear hz4 hbox4 hbox hg4 hgw hbox0 hgw0
            go_wp2_with fail
            exact bodyPost_ret (v := .tuple #[.agg #[.slice s4 k4 c4], .int .i64 0]) (by simp [results, Tryz.results20, go_sem, hc4]) rfl hF.out)
end Go.Proofs.YtldkddogadmpbaaGreatDoor
