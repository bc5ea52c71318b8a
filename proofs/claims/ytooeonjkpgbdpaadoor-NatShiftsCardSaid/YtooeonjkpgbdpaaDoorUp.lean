/- Numbers times, and divided by, powers of two: Up, Down. -/
import Derived.Test.YtooeonjkpgbdpaaDoorShift
namespace Go.Proofs.YtooeonjkpgbdpaaDoor
open Go.RowKit Mat
set_option maxRecDepth 100000
set_option linter.unusedVariables false
set_option linter.unusedSimpArgs false

set_option maxHeartbeats 1000000 in
theorem lower_none (w : World) (sa : Option Addr) (n cap k : Nat) (hk : n ≤ k / 64) (bk : k ≤ 68719476736) :
    Calls Tryd.prog 61 #[.slice sa n cap, .int .i64 (k : Int)] w fun e w' => e = .returned (.slice none 0 0) ∧ w = w' := by
  obtain ⟨wh, hwh⟩ : ∃ wh, wh = k / 64 := ⟨_, rfl⟩
  have hd1 : (k : Int) / 64 = (wh : Int) := by omega
  have hw : n ≤ wh := by omega
  clear hk hwh
  go_enter Tryd.func61, Tryd.ntmps61
  go_wp2_with fail
  go_ret
  exact ⟨rfl, rfl⟩

theorem Lowered.rdo {b off : Nat} {w' : World} {sa : Option Addr} {m : Nat} {cs' : Array Value} {zs : List Nat} (hl : zs.length = m) (h : 0 < m → sa = some ⟨b, off, none⟩) (hb : Blk w' b cs') (ha : At cs' off zs) : Rdo w' sa zs := by
  rcases Nat.eq_zero_or_pos m with h0 | h0
  · exact Or.inl (List.length_eq_zero_iff.1 (hl.trans h0))
  · exact Or.inr ⟨b, off, cs', h h0, hb, ha⟩

set_option maxHeartbeats 1000000 in
theorem Up_bad (w : World) (va : Value) (a : Nat) (ha : NatV w va a) (k : Int) (hk : k < 0 ∨ 65536 < k) :
    Calls Tryd.prog 37 #[va, .int .i64 k] w (RetNatE w 0 1) := by
  obtain ⟨sa, xs, rfl, hx, rfl⟩ := ha
  have hgw : w.grownBy ((w.alloc (.cells #[.slice sa xs.length xs.length] 24)).alloc (.cells #[.slice none 0 0] 24)) none := grown_alloc (World.grownBy_alloc _ _ _) _
  rcases hk with hk | hk
  all_goals
    go_enter Tryd.func37, Tryd.ntmps37
    go_wp2_with fail
    exact bodyPost_ret (v := .tuple #[.agg #[.slice none 0 0], .int .i64 1]) (by simp [results, Tryd.results37, go_sem]) rfl ⟨_, rfl, NatV.zero _, by repeat (first | exact hgw | exact World.grownBy_alloc _ _ _ | refine grown_new (g := w.heap.size + 1) ?_ (grown_set (grown_refl _ _) _ _) (by omega))⟩

set_option maxHeartbeats 1000000 in
theorem Down_bad (w : World) (va : Value) (a : Nat) (ha : NatV w va a) (k : Int) (hk : k < 0 ∨ 65536 < k) :
    Calls Tryd.prog 38 #[va, .int .i64 k] w (RetNatE w 0 1) := by
  obtain ⟨sa, xs, rfl, hx, rfl⟩ := ha
  have hgw : w.grownBy ((w.alloc (.cells #[.slice sa xs.length xs.length] 24)).alloc (.cells #[.slice none 0 0] 24)) none := grown_alloc (World.grownBy_alloc _ _ _) _
  rcases hk with hk | hk
  all_goals
    go_enter Tryd.func38, Tryd.ntmps38
    go_wp2_with fail
    exact bodyPost_ret (v := .tuple #[.agg #[.slice none 0 0], .int .i64 1]) (by simp [results, Tryd.results38, go_sem]) rfl ⟨_, rfl, NatV.zero _, by repeat (first | exact hgw | exact World.grownBy_alloc _ _ _ | refine grown_new (g := w.heap.size + 1) ?_ (grown_set (grown_refl _ _) _ _) (by omega))⟩

set_option maxHeartbeats 1000000 in
theorem Up_some (w : World) (va : Value) (a K : Nat) (ha : NatV w va a) (k : Nat) (hk : k ≤ 65536) (hK : K ≤ 1073741824) (la : a < B ^ K) :
    Calls Tryd.prog 37 #[va, .int .i64 (k : Int)] w (RetNatE w (a * 2 ^ k) 0) := by
  obtain ⟨sa, xs, rfl, hx, rfl⟩ := ha
  have h1 := hx.len la
  clear la
  have hgw : w.grownBy ((w.alloc (.cells #[.slice sa xs.length xs.length] 24)).alloc (.cells #[.slice none 0 0] 24)) none := grown_alloc (World.grownBy_alloc _ _ _) _
  have hbox := heap_new (w.alloc (.cells #[.slice sa xs.length xs.length] 24)) (.cells #[.slice none 0 0] 24) (w.heap.size + 1) (by simp)
  go_enter Tryd.func37, Tryd.ntmps37
  go_wp2_with fail
  refine (raised_any _ sa _ _ xs k rfl (hx.rd.kept hgw) hx.dig (by omega) (by omega)).mono ?_
  rintro e w2 ⟨g, n, cs, zs, rfl, hge, hb2, hat2, hl2, hn2, hd2, hv2, hg2⟩
  have hbox2 := heap_kept hg2 hbox
  have hgw2 := grown_trans hgw hg2
  have HV := Lib.hid hv2
  have HL := Lib.hid hl2
  have bn : n ≤ 1099511627776 := by omega
  clear hv2 hl2 hn2 hg2 hbox hge
  obtain ⟨hc2, hf2⟩ := box_cell hbox2
  go_wp2_with fail
  refine (own_at _ _ n _ zs HL.out (Rdo.of hb2 hat2) bn (Nat.le_refl _) hd2).mono ?_
  rintro e w4 ⟨v, rfl, ⟨sc, ys, rfl, hl4, hv4⟩, hg4⟩
  have hbox4 := heap_kept hg4 hbox2
  obtain ⟨hc4, hf4⟩ := box_cell hbox4
  have hF := Lib.hid (ret_setE (code := 0) (grown_trans hgw2 hg4) hbox4 (by decide) (by omega) hl4 (hv4.trans HV.out) (.slice sc ys.length ys.length))
  clear hv4 hbox4 hbox2 hg4 hgw2 hgw hb2 hat2 hc2 hf2
  go_wp2_with fail
  exact bodyPost_ret (v := .tuple #[.agg #[.slice sc ys.length ys.length], .int .i64 0]) (by simp [results, Tryd.results37, go_sem, hc4]) rfl hF.out

set_option maxHeartbeats 1000000 in
theorem Down_some (w : World) (va : Value) (a K : Nat) (ha : NatV w va a) (k : Nat) (hk : k ≤ 65536) (hK : K ≤ 1073741824) (la : a < B ^ K) :
    Calls Tryd.prog 38 #[va, .int .i64 (k : Int)] w (RetNatE w (a / 2 ^ k) 0) := by
  obtain ⟨sa, xs, rfl, hx, rfl⟩ := ha
  have h1 := hx.len la
  clear la
  have hgw : w.grownBy ((w.alloc (.cells #[.slice sa xs.length xs.length] 24)).alloc (.cells #[.slice none 0 0] 24)) none := grown_alloc (World.grownBy_alloc _ _ _) _
  have hbox := heap_new (w.alloc (.cells #[.slice sa xs.length xs.length] 24)) (.cells #[.slice none 0 0] 24) (w.heap.size + 1) (by simp)
  by_cases h0 : xs.length = 0
  · obtain rfl : xs = [] := List.length_eq_zero_iff.1 h0
    obtain rfl := hx.nil rfl
    clear h0 h1
    simp only [List.length_nil] at hgw hbox ⊢
    have HZ : Hid (0 = val B [] / 2 ^ k) := by show _ = _; simp [val]
    rw [← HZ.out]
    go_enter Tryd.func38, Tryd.ntmps38
    go_wp2_with fail
    refine (Clone_nil _).mono ?_
    rintro e w' ⟨rfl, rfl⟩
    go_wp2_with fail
    refine (lower_none _ none 0 0 k (by omega) (by omega)).mono ?_
    rintro e w' ⟨rfl, rfl⟩
    go_wp2_with fail
    refine (own_at _ none 0 0 [] rfl (Or.inl rfl) (by omega) (by omega) (Dig.nil _)).mono ?_
    rintro e w4 ⟨v, rfl, ⟨sc, ys, rfl, hl4, hv4⟩, hg4⟩
    have hbox4 := heap_kept hg4 hbox
    obtain ⟨hc4, hf4⟩ := box_cell hbox4
    have hF := Lib.hid (ret_setE (n := 0) (code := 0) (grown_trans hgw hg4) hbox4 (by decide) (by omega) hl4 hv4 (.slice sc ys.length ys.length))
    clear hv4 hbox4 hg4 hgw hbox
    go_wp2_with fail
    exact bodyPost_ret (v := .tuple #[.agg #[.slice sc ys.length ys.length], .int .i64 0]) (by simp [results, Tryd.results38, go_sem, hc4]) rfl hF.out
  · obtain ⟨b1, o1, cs1, rfl, hb1, hat1⟩ := hx.rd.get 0 (by omega)
    go_enter Tryd.func38, Tryd.ntmps38
    go_wp2_with fail
    refine (Clone_any _ b1 o1 _ cs1 xs (hb1.kept hgw (by simp)) hat1 (by omega) (by omega)).mono ?_
    rintro e w2 ⟨g, cap, cs2, rfl, hge, hb2, hat2, hcap, hg2⟩
    have hge' : w.heap.size + 1 + 1 ≤ g := by simpa using hge
    have hgw2 := grown_trans hgw hg2
    have hbox2 := heap_kept hg2 hbox
    clear hge hg2 hbox
    obtain ⟨hc2, hf2⟩ := box_cell hbox2
    go_wp2_with fail
    refine (lower_any _ g 0 _ _ xs cs2 k rfl hb2 hat2 hx.dig hcap (by omega) (by omega)).mono ?_
    rintro e w3 ⟨sc, m, cap3, cs3, zs, rfl, hm3, hl3, hlx, hd3, hv3, hs3, _, hb3, hat3, hg3⟩
    have hbox3 := heap_row hg3 hbox2 (by omega)
    have hgw3 := grown_new hgw2 hg3 (by omega)
    have HV := Lib.hid hv3
    have HL := Lib.hid hl3
    have hr := Lowered.rdo hl3 hs3 hb3 hat3
    clear hv3 hl3 hs3 hg3 hbox2 hgw2 hc2 hf2 hb2 hat2
    go_wp2_with fail
    refine (own_at _ _ m _ zs HL.out hr (by omega) hm3 hd3).mono ?_
    rintro e w4 ⟨v, rfl, ⟨sd, ys, rfl, hl4, hv4⟩, hg4⟩
    have hbox4 := heap_kept hg4 hbox3
    obtain ⟨hc4, hf4⟩ := box_cell hbox4
    have hF := Lib.hid (ret_setE (code := 0) (grown_trans hgw3 hg4) hbox4 (by decide) (by omega) hl4 (hv4.trans HV.out) (.slice sd ys.length ys.length))
    clear hv4 hbox4 hbox3 hg4 hgw3 hgw hb3 hat3 hr
    go_wp2_with fail
    exact bodyPost_ret (v := .tuple #[.agg #[.slice sd ys.length ys.length], .int .i64 0]) (by simp [results, Tryd.results38, go_sem, hc4]) rfl hF.out
end Go.Proofs.YtooeonjkpgbdpaaDoor
