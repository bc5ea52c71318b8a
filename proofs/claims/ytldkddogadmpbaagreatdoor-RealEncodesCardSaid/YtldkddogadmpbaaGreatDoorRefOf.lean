/- The document's own numbers out of words. -/
import Derived.Test.YtldkddogadmpbaaGreatDoorRef
namespace Go.Proofs.YtldkddogadmpbaaGreatDoor
open Go.RowKit Mat
set_option maxRecDepth 100000
set_option linter.unusedVariables false
set_option linter.unusedSimpArgs false

theorem Tryz.infoI64 : (Tryz.prog.info? 3).map (fun i => (i.zero, i.size, i.bytes)) = some (some (.int .i64 0), 1, 8) := by kernel_rfl
theorem info_partsI : ∃ i, Tryz.prog.info? 3 = some i ∧ i.zero = some (.int .i64 0) ∧ i.size = 1 ∧ i.bytes = 8 := by
  obtain ⟨i, hi, he⟩ := Option.map_eq_some_iff.1 Tryz.infoI64
  exact ⟨i, hi, congrArg Prod.fst he, congrArg (fun x => x.2.1) he, congrArg (fun x => x.2.2) he⟩
theorem one_iv {d : Nat} : ∀ u ∈ ([iv d] : List Value), u.oneCell' = true := by intro u hu; simp at hu; subst hu; rfl
theorem own_rdoI {w : World} {base : Nat} {s : Option Addr} {n cap : Nat} {xs : List Nat} (h : w.ownsRow base 3 1 (.slice s n cap) n (xs.map iv)) : RRdo w s xs ∧ n ≤ cap ∧ xs.length = n := by
  obtain ⟨h1, ⟨e, h2⟩ | ⟨g, cap', cur, e, hg, hb, hc, hm, hs, ht⟩⟩ := h
  · cases e
    rw [List.length_map] at h1
    exact ⟨Or.inl (List.length_eq_zero_iff.1 (by omega)), by omega, by omega⟩
  · cases e
    rw [List.length_map, Nat.mul_one] at h1
    refine ⟨Or.inr ⟨g, 0, cur, rfl, hb, fun i hi => ?_⟩, hc, h1⟩
    have h3 : (cur.toList.take (n * 1))[i]? = (xs.map iv)[i]? := by rw [ht]
    rw [Nat.mul_one, List.getElem?_take, if_pos (by omega), Array.getElem?_toList, List.getElem?_map, List.getElem?_eq_getElem hi] at h3
    rw [Nat.zero_add]; exact h3
theorem own_allocI {w : World} {base : Nat} {v : Value} {n : Nat} {xs : List Value} {t : TypeId} (h : w.ownsRow base t 1 v n xs) (o : Obj) : (w.alloc o).ownsRow base t 1 v n xs := by
  obtain ⟨h1, h2 | ⟨g, cap', cur, e, hg, hb, hr⟩⟩ := h
  · exact ⟨h1, Or.inl h2⟩
  · exact ⟨h1, Or.inr ⟨g, cap', cur, e, hg, (Below.heap_alloc w o g (Array.getElem?_eq_some_iff.1 hb).1).trans hb, hr⟩⟩
theorem below_own {w w' : World} {base n : Nat} {v : Value} {xs : List Value} {t : TypeId} (h : w.ownsRow base t 1 v n xs) (hg : w.grownBy w' v.ownBlock) (hs : base ≤ w.heap.size) : Below base w w' := by
  obtain ⟨h1, ⟨e, _⟩ | ⟨g, cap', cur, e, hg', hb, hr⟩⟩ := h
  · subst e; exact below_none hg hs
  · subst e; exact below_row (g := g) hg hg' hs
theorem of_bound {v x n k : Nat} (h : v + x * D ^ k = n) (hx : 0 < x) (hn : n < B) : k < 64 := by
  have h1 : D ^ k ≤ x * D ^ k := Nat.le_mul_of_pos_left _ hx
  have h2 : 2 ^ k ≤ D ^ k := Nat.pow_le_pow_left (by unfold D; omega) k
  rcases Nat.lt_or_ge k 64 with h3 | h3
  · exact h3
  · have : 2 ^ 64 ≤ 2 ^ k := Nat.pow_le_pow_right (by omega) h3
    have : B = 2 ^ 64 := by decide
    omega
theorem of_step {v x p d q : Nat} (hd : x % 10000 = d) (hq : x / 10000 = q) : v + p * d + q * (p * D) = v + x * p := by
  have := Nat.div_add_mod x 10000
  rw [hd, hq] at this
  rw [← this]
  unfold D
  grind
theorem top_snoc {ds : List Nat} {d : Nat} (h : d ≠ 0) : Top (ds ++ [d]) := by
  intro x hx
  rw [List.getLast?_append] at hx
  simp at hx
  omega

set_option maxHeartbeats 4000000 in
theorem rOf_any (w : World) (n : Nat) (hn : n < B) :
    Calls Tryz.prog 34 #[.int .u64 (n : Int)] w (RetRef w n) := by
  obtain ⟨i1, hi, hz0, hz1, hz2⟩ := info_partsI
  have HN := Lib.hid hn
  have hgw0 := World.grownBy_alloc w (.cells #[.slice none 0 0] 34) none
  have hbox0 := heap_new w (.cells #[.slice none 0 0] 34) w.heap.size rfl
  have hs0 : w.heap.size + 1 ≤ (w.alloc (.cells #[.slice none 0 0] 34)).heap.size := by simp
  go_enter Tryz.func34, Tryz.ntmps34
  go_wp2_with fail
  generalize (w.alloc (.cells #[.slice none 0 0] 34)) = w0 at *
  go_loopg [0, 3] n (fun gh a b wr => ∃ (x : Nat) (sl : Option Addr) (nl cl : Nat) (ds : List Nat), a = .int .u64 x ∧ b = .slice sl nl cl ∧ x ≤ gh ∧ Hid (x < B) ∧ wr.ownsRow (w.heap.size + 1) 3 1 (.slice sl nl cl) nl (ds.map iv) ∧ Hid (ds.length = nl) ∧ Dig D ds ∧ Hid (x = 0 → Top ds) ∧ Hid (val D ds + x * D ^ nl = n) ∧ Below (w.heap.size + 1) w0 wr)
  case atStart => exact ⟨n, none, 0, 0, [], rfl, rfl, Nat.le_refl _, HN, ⟨rfl, Or.inl ⟨rfl, rfl⟩⟩, rfl, Dig.nil _, fun _ x hx => by simp at hx, by show _ = _; simp [val], Below.refl _ _⟩
  case round =>
    obtain ⟨x, sl, nl, cl, ds, rfl, rfl, hgh, hxB, hown, hdl, hdd, htp, hv, hbl⟩ := hrel
    by_cases h0 : x = 0
    · subst h0
      obtain ⟨hrd, hcap, _⟩ := own_rdoI hown
      have hbox := heap_below hbl hbox0 (by omega)
      obtain ⟨cb, fb⟩ := box_cell hbox
      have hF : Hid (RetRef w n (.returned (.agg #[.slice sl nl cl])) (wr.setCell ⟨w.heap.size, 0, none⟩ (.slice sl nl cl))) :=
        ⟨_, rfl, ⟨sl, nl, cl, ds, rfl, hdl.out, hcap, hrd.set_other hbox (by decide) 0 _, htp.out rfl, hdd, by have := hv.out; omega⟩, grown_new (grown_then_below hgw0 hbl (by omega)) (grown_set (grown_refl _ _) _ _) (Nat.le_refl _)⟩
      clear hown hbl hbox hv htp
      go_wp2_with fail
      exact bodyPost_ret (v := .agg #[.slice sl nl cl]) (by simp [results, Tryz.results34, go_sem, cb]) rfl hF.out
    · have f1 : decide ((0 : Int) < (x : Int)) = true := decide_eq_true (by omega)
      have hk := of_bound hv.out (by omega) HN.out
      obtain ⟨d, hd⟩ : ∃ d, x % 10000 = d := ⟨_, rfl⟩
      obtain ⟨q, hq⟩ : ∃ q, x / 10000 = q := ⟨_, rfl⟩
      have hd1 : d < 10000 := by omega
      have hqx : q < x := by omega
      have e1 : (x : Int) % 10000 = (d : Int) := by omega
      have e2 : (x : Int) / 10000 = (q : Int) := by omega
      have hqB : Hid (q < B) := Nat.lt_trans hqx hxB.out
      have htp2 : Hid (q = 0 → Top (ds ++ [d])) := fun e => top_snoc (by omega)
      have hvn : Hid (val D (ds ++ [d]) + q * D ^ (nl + 1) = n) := by
        show _ = _
        rw [val_snoc, hdl.out, Nat.pow_succ, of_step hd hq]; exact hv.out
      have hownA := own_allocI hown (.cells #[iv d] 3)
      have hnews : ∀ j u, ([iv d] : List Value)[j]? = some u → (wr.alloc (.cells #[iv d] 3)).cell? ((⟨wr.heap.size, 0, none⟩ : Addr).add j) = some u := World.news_of_block (heap_alloc_new wr _)
      have hsr : w.heap.size + 1 ≤ wr.heap.size := by have := hbl.size; omega
      have hsi : w.heap.size + 1 ≤ (wr.alloc (.cells #[iv d] 3)).heap.size := by simp; omega
      have hblA : Below (w.heap.size + 1) w0 (wr.alloc (.cells #[iv d] 3)) := hbl.trans (below_none (World.grownBy_alloc _ _ _) hsr)
      clear hd hq hown hbl htp hv
      go_wp2_with (at_builtin; refine wpList_append_lies _ rfl _ _ _ rfl (w.heap.size + 1) 3 i1 (.int .i64 0) 1 8 Tryz.underlying32 hi hz0 hz1 hz2 rfl (by omega) (.slice sl nl cl) nl (ds.map iv) rfl hownA ⟨wr.heap.size, 0, none⟩ 1 1 [iv d] rfl rfl hnews one_iv (by omega) (by unfold maxLen; omega) (by omega) hsi (wr.heap.size + 1) (by simp) ?_; intro g2 cap2 w5 hown5 hgrow hat9 hlt9)
      have hbl5 := hblA.trans (below_own hownA hgrow hsi)
      have hmap : ds.map iv ++ [iv d] = (ds ++ [d]).map iv := by rw [List.map_append]; rfl
      rw [hmap] at hown5
      have hl5 : Hid ((ds ++ [d]).length = nl + 1) := by show _ = _; rw [List.length_append, hdl.out]; rfl
      clear hgrow hownA hnews hblA hmap
      go_roundg q
      case measure => omega
      case rel => exact ⟨q, _, nl + 1, cap2, ds ++ [d], (by first | rfl | rw [Mul64.wrapN q hqB.out]), rfl, Nat.le_refl _, hqB, hown5, hl5, hdd.snoc hd1, htp2, hvn, hbl5⟩
end Go.Proofs.YtldkddogadmpbaaGreatDoor
