/- Streams as trees: items. -/
import Derived.Test.YtcioefmldcmhgaaGT
namespace Go.Proofs.Ytcioefmldcmhgaa
open Go.RowKit
set_option maxRecDepth 100000
set_option linter.unusedVariables false
set_option linter.unusedSimpArgs false

theorem heap_set2 {w : World} {g : Nat} {a0 a1 : Value} {t : TypeId} (h : w.heap[g]? = some (.cells #[a0, a1] t (0, 0))) (v0 v1 : Value) : ((w.setCell ⟨g, 0, none⟩ v0).setCell ⟨g, 1, none⟩ v1).heap[g]? = some (.cells #[v0, v1] t (0, 0)) := by
  simp [World.setCell, Array.getElem?_modify, h]
theorem heap_unset2 {w : World} {g k : Nat} {o : Obj} (h : w.heap[k]? = some o) (hk : k ≠ g) (v0 v1 : Value) : ((w.setCell ⟨g, 0, none⟩ v0).setCell ⟨g, 1, none⟩ v1).heap[k]? = some o := heap_unset (heap_unset h hk v0) hk v1
theorem grown_put2 {w w' : World} {g : Nat} {row : Option Nat} (hg : w.grownBy w' row) (hl : w.heap.size ≤ g) (v0 v1 : Value) : w.grownBy ((w'.setCell ⟨g, 0, none⟩ v0).setCell ⟨g, 1, none⟩ v1) row :=
  grown_new (g := g) (grown_new (g := g) hg (grown_set (grown_refl _ _) 0 v0) hl) (grown_set (grown_refl _ _) 1 v1) hl
theorem grown_put2b {W : World} {g : Nat} (v0 v1 : Value) : W.grownBy ((W.setCell ⟨g, 0, none⟩ v0).setCell ⟨g, 1, none⟩ v1) (some g) := grown_set (grown_set (grown_refl _ _) 0 v0) 1 v1
theorem Ps.off {c : Lst} {g q : Nat} {W W' : World} {l : List KRec} (h : Ps c g W l) (hg : W.grownBy W' (some q)) (hq : c.w0.heap.size ≤ q) (hne : g ≠ q) : Ps c g W' l :=
  ⟨grown_new h.1 hg hq, h.2.1, h.2.2.1, h.2.2.2.1, heap_off hg h.2.2.2.2 (fun e => hne (Option.some.inj e))⟩
theorem Must_newq (c : Lst) (hc : c.ok) (W : World) (g n q : Nat) (ks : List Nat) (l : List KRec) (hp : Ps c g W l) (hq : W.heap.size = q) (hn : ks.length = n) (hb : n ≤ 1000) (hk : ∀ x ∈ ks, x < 256) :
    Calls Try.prog 52 #[.pointer (some ⟨g, 0, none⟩), .slice (some ⟨q, 0, none⟩) n n] (W.alloc (.cells (bvs ks).toArray 5)) (RetRu c g W (run (musts ks) l)) := by
  subst hq; exact Must_new c hc W g n ks l hp hn hb hk
/-- What item answers. -/
def RetItem (c : Lst) (g : Nat) (w : World) (x : Option (KItem × List KRec)) (e : Ending) (w' : World) : Prop :=
  (x = none ∧ e = mis ∧ w.grownBy w' (some g)) ∨ (∃ y t a b, x = some (y, t) ∧ e = .returned (.agg #[a, b]) ∧ RowT c.w0 w' a y.1 ∧ RowT c.w0 w' b y.2 ∧ w.grownBy w' (some g) ∧ Ps c g w' t)
theorem item_1 {l : List KRec} (h : run elementRu l = none) : itemR l = none := by unfold itemR; rw [h]
theorem item_2 {l t : List KRec} (h : run elementRu l = some t) (h2 : run .props t = none) : itemR l = none := by unfold itemR; rw [h]; simp only [h2]
theorem item_3 {l t u : List KRec} (h : run elementRu l = some t) (h2 : run .props t = some u) (h3 : run (musts [17]) u = none) : itemR l = none := by
  have h4 : run (.one 17) u = none := by
    simp only [musts, run] at h3
    simp only [run]
    split at h3
    · cases h3
    · assumption
  unfold itemR; rw [h]; simp only [h2, h4]
theorem one_musts {k : Nat} {u v : List KRec} (h3 : run (musts [k]) u = some v) : run (.one k) u = some v := by
  simp only [musts, run] at h3
  simp only [run]
  split at h3
  · cases h3; assumption
  · cases h3
theorem item_4 {l t u v : List KRec} (h : run elementRu l = some t) (h2 : run .props t = some u) (h3 : run (musts [17]) u = some v) : itemR l = some ((cutL l t, cutL t u), v) := by
  unfold itemR; rw [h]; simp only [h2, one_musts h3]
set_option maxHeartbeats 16000000 in
theorem Item_any (c : Lst) (hc : c.ok) (w : World) (g : Nat) (l : List KRec) (ad : Addr) (hs : c.lies ad) (hbig : c.n ≤ 4398046511104) (hp : Ps c g w l) :
    Calls Try.prog 71 #[.pointer (some ⟨g, 0, none⟩)] w (RetItem c g w (itemR l)) := by
  obtain ⟨x, hx⟩ : ∃ x, itemR l = x := ⟨_, rfl⟩
  rw [hx]
  have hmf : ∀ (fn : Fn) (first cap : Array Value) (w : World), (Instr.makeFunc fn first cap).run Try.prog w = .ok (.func fn first cap) w := fun _ _ _ _ => rfl
  have HX := Lib.hid hx
  have HC := Lib.hid hc
  have HS := Lib.hid hs
  have HB := Lib.hid hbig
  have hG := World.grownBy_alloc w (.cells #[.slice none 0 0, .slice none 0 0] 55) none
  have HP := Lib.hid (hp.kept hG)
  have hgl := hp.lt
  have Br := heap_new w (.cells #[.slice none 0 0, .slice none 0 0] 55) w.heap.size rfl
  have hwl := hp.2.1
  have hw0 := hp.1.size
  clear hc hs hbig hp hx
  go_enter Try.func71, Try.ntmps71
  go_wp2_with fail
  generalize (w.alloc (.cells #[.slice none 0 0, .slice none 0 0] 55)) = wa at *
  refine (Taken_any c HC.out wa g _ elementRu l ad HS.out HB.out HP.out cf_element (Lib.hid fun W m hm => Element_any c HC.out W g m hm)).mono ?_
  rintro e w1 (⟨hT, rfl, hg1⟩ | ⟨t, f, hT, rfl, hf, hg1, hp1⟩)
  · have hF : Hid (RetItem c g w x mis w1) := Lib.hid (Or.inl ⟨by rw [← HX.out]; exact item_1 hT, rfl, grown_trans (grown_any hG) hg1⟩)
    clear hT hg1 hG Br
    go_wp2_with fail
    exact ⟨rfl, hF.out⟩
  · have HT := Lib.hid hT
    have HF := Lib.hid hf
    have HP1 := Lib.hid hp1
    have HG1 := Lib.hid (grown_trans (grown_any hG) hg1)
    have Br1 := heap_off hg1 Br (by intro e; have := Option.some.inj e; omega)
    obtain ⟨s1, c1, rfl, _⟩ := hf.shape
    clear hT hf hp1 hg1 hG Br
    go_wp2_with fail
    refine (Taken_any c HC.out w1 g _ .props t ad HS.out HB.out HP1.out cf_props (Lib.hid fun W m hm => Props_any c HC.out W g m hm)).mono ?_
    rintro e w2 (⟨hT, rfl, hg1⟩ | ⟨u, f2, hT, rfl, hf, hg1, hp1⟩)
    · have hF : Hid (RetItem c g w x mis w2) := Lib.hid (Or.inl ⟨by rw [← HX.out]; exact item_2 HT.out hT, rfl, grown_trans HG1.out hg1⟩)
      clear hT hg1 Br1
      go_wp2_with fail
      exact ⟨rfl, hF.out⟩
    · have HT2 := Lib.hid hT
      have HF2 := Lib.hid hf
      have HP2 := Lib.hid hp1
      have HG2 := Lib.hid (grown_trans HG1.out hg1)
      have Br2 := heap_off hg1 Br1 (by intro e; have := Option.some.inj e; omega)
      have HF := Lib.hid (HF.out.off hg1 HP1.out.2.2.2.2 (by decide) (by decide))
      obtain ⟨s2, c2, rfl, _⟩ := hf.shape
      clear hT hf hp1 hg1 Br1
      have gA := World.grownBy_alloc w2 (.cells #[.slice s1 (cutL l t).length c1, .slice s2 (cutL t u).length c2] 55) none
      have Bn := heap_new w2 (.cells #[.slice s1 (cutL l t).length c1, .slice s2 (cutL t u).length c2] 55) w2.heap.size rfl
      have HP3 := Lib.hid (HP2.out.kept gA)
      have HG3 := Lib.hid (grown_trans HG2.out (grown_any gA))
      have Br3 := heap_kept gA Br2
      have HFa := Lib.hid (HF.out.kept gA)
      have HFb := Lib.hid (HF2.out.kept gA)
      have hsz2 := heap_lt Br2
      have hsg2 := HP2.out.lt
      go_wp2_with fail
      refine (Must_newq c HC.out _ g 1 (w2.heap.size + 1) [17] u HP3.out (by simp) rfl (by decide) (by simp)).mono ?_
      rintro e w3 (⟨hT, rfl, hg1⟩ | ⟨v, hT, rfl, hg1, hp1⟩)
      · have hF : Hid (RetItem c g w x mis w3) := Lib.hid (Or.inl ⟨by rw [← HX.out]; exact item_3 HT.out HT2.out hT, rfl, grown_trans HG3.out hg1⟩)
        clear hT hg1 Br2 Br3 gA Bn
        go_wp2_with fail
        exact ⟨rfl, hF.out⟩
      · have HX4 := Lib.hid ((item_4 HT.out HT2.out hT).symm.trans HX.out)
        have Br4 := heap_off hg1 Br3 (by intro e; have := Option.some.inj e; omega)
        have Bn4 := heap_off hg1 Bn (by intro e; have := Option.some.inj e; omega)
        have hf4 := HFa.out.off hg1 HP3.out.2.2.2.2 (by decide) (by decide)
        have hf5 := HFb.out.off hg1 HP3.out.2.2.2.2 (by decide) (by decide)
        have hG4 := grown_trans HG3.out hg1
        obtain ⟨Cn0, Cn1, _, _⟩ := box_cells2 Bn4
        obtain ⟨_, _, Fr0, Fr1⟩ := box_cells2 Br4
        have Br5 := heap_set2 Br4 (.slice s1 (cutL l t).length c1) (.slice s2 (cutL t u).length c2)
        obtain ⟨D0, D1, _, _⟩ := box_cells2 Br5
        have hG5 := grown_put2 hG4 (Nat.le_refl w.heap.size) (.slice s1 (cutL l t).length c1) (.slice s2 (cutL t u).length c2)
        have gp := grown_put2b (W := w3) (g := w.heap.size) (.slice s1 (cutL l t).length c1) (.slice s2 (cutL t u).length c2)
        have hF : Hid (RetItem c g w x (.returned (.agg #[.slice s1 (cutL l t).length c1, .slice s2 (cutL t u).length c2])) ((w3.setCell ⟨w.heap.size, 0, none⟩ (.slice s1 (cutL l t).length c1)).setCell ⟨w.heap.size, 1, none⟩ (.slice s2 (cutL t u).length c2))) :=
          Lib.hid (Or.inr ⟨_, v, _, _, HX4.out.symm, rfl, hf4.off gp Br4 (by decide) (by decide), hf5.off gp Br4 (by decide) (by decide), hG5, hp1.off gp (by omega) (by omega)⟩)
        clear hT hg1 hp1 Br2 Br3 gA Bn Br4 Bn4 hf4 hf5 hG4 Br5 hG5 gp
        go_wp2_with fail
        exact bodyPost_ret (v := .agg #[.slice s1 (cutL l t).length c1, .slice s2 (cutL t u).length c2]) (by simp [results, Try.results71, go_sem, D0, D1]) rfl hF.out
end Go.Proofs.Ytcioefmldcmhgaa
