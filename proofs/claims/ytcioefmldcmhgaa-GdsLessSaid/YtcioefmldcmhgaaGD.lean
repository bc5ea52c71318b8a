/- Streams as trees: cells. -/
import Derived.Test.YtcioefmldcmhgaaGC
import Derived.Test.YtcioefmldcmhgaaKJoin
import Derived.Deep.RegionLaw
namespace Go.Proofs.Ytcioefmldcmhgaa
open Go.RowKit
set_option maxRecDepth 100000
set_option linter.unusedVariables false
set_option linter.unusedSimpArgs false

theorem OwnIt.grownT {w0 W W' : World} {base q : Nat} {v : Value} {xs : List KItem} {cs : Array Value} {t : TypeId} {fz : Nat × Nat} (h : OwnIt w0 W base v xs) (hg : W.grownBy W' (some q)) (hq : W.heap[q]? = some (.cells cs t fz)) (h1 : t ≠ 5) (h2 : t ≠ 45) (h3 : t ≠ 55) : OwnIt w0 W' base v xs :=
  h.move (fun ys ho => own_offT ho hg hq h3) (fun u x hx => hx.off hg hq h1 h2) (fun u x hx => hx.off hg hq h1 h2)
theorem OwnIt.kept {w0 W W' : World} {base : Nat} {v : Value} {xs : List KItem} (h : OwnIt w0 W base v xs) (hg : W.grownBy W' none) : OwnIt w0 W' base v xs :=
  h.move (fun ys ho => own_kept ho hg) (fun u x hx => hx.kept hg) (fun u x hx => hx.kept hg)
theorem ItemsT.grownT {w0 W W' : World} {q : Nat} {v : Value} {xs : List KItem} {cs : Array Value} {t : TypeId} {fz : Nat × Nat} (h : ItemsT w0 W v xs) (hg : W.grownBy W' (some q)) (hq : W.heap[q]? = some (.cells cs t fz)) (h1 : t ≠ 5) (h2 : t ≠ 45) (h3 : t ≠ 55) : ItemsT w0 W' v xs :=
  h.move (fun g cur hb => heap_off hg hb (fun e => by cases e; rw [hb] at hq; cases hq; exact h3 rfl)) (fun u x hx => hx.off hg hq h1 h2) (fun u x hx => hx.off hg hq h1 h2)
theorem ItemsT.kept {w0 W W' : World} {v : Value} {xs : List KItem} (h : ItemsT w0 W v xs) (hg : W.grownBy W' none) : ItemsT w0 W' v xs :=
  h.move (fun g cur hb => heap_kept hg hb) (fun u x hx => hx.kept hg) (fun u x hx => hx.kept hg)
theorem heap_rowT {W W' : World} {base n size q : Nat} {e : TypeId} {v : Value} {xs : List Value} {cs : Array Value} {t : TypeId} {fz : Nat × Nat} (ho : W.ownsRow base e size v n xs) (hg : W.grownBy W' v.ownBlock) (hq : W.heap[q]? = some (.cells cs t fz)) (ht : t ≠ e) : W'.heap[q]? = some (.cells cs t fz) :=
  heap_off hg hq (fun h => own_type ho hq ht h.symm)
theorem Ps.own {c : Lst} {g base n size : Nat} {W W' : World} {l : List KRec} {e : TypeId} {v : Value} {xs : List Value} (h : Ps c g W l) (ho : W.ownsRow base e size v n xs) (hg : W.grownBy W' v.ownBlock) (hb : c.w0.heap.size ≤ base) (ht : 85 ≠ e) : Ps c g W' l :=
  ⟨grown_own h.1 ho hg hb, h.2.1, h.2.2.1, h.2.2.2.1, heap_rowT ho hg h.2.2.2.2 ht⟩
theorem grown_ownS {w W W' : World} {base n size : Nat} {g : Nat} {e : TypeId} {v : Value} {xs : List Value} (hw : w.grownBy W (some g)) (ho : W.ownsRow base e size v n xs) (hg : W.grownBy W' v.ownBlock) (hb : w.heap.size ≤ base) : w.grownBy W' (some g) := by
  obtain ⟨h1, ⟨e, _⟩ | ⟨k, cap', cur, e, hg', hb', hr⟩⟩ := ho
  · subst e; exact grown_trans hw (grown_any hg)
  · subst e; exact grown_new (g := k) hw hg (by omega)
theorem heap_types {W : World} {g : Nat} {a b : Array Value} {t t' : TypeId} {fz fz' : Nat × Nat} (h : W.heap[g]? = some (.cells a t fz)) (h' : W.heap[g]? = some (.cells b t' fz')) : t = t' := by
  rw [h] at h'
  injection h' with h'
  injection h'
theorem heap_ne {W : World} {g q : Nat} {a b : Array Value} {t t' : TypeId} {fz fz' : Nat × Nat} (h : W.heap[g]? = some (.cells a t fz)) (h' : W.heap[q]? = some (.cells b t' fz')) (hne : t ≠ t') : g ≠ q := fun e => by
  subst e; exact hne (heap_types h h')
theorem heap_setb {w : World} {g : Nat} {v0 v1 : Value} {t : TypeId} (h : w.heap[g]? = some (.cells #[v0, v1] t (0, 0))) (v : Value) : (w.setCell ⟨g, 1, none⟩ v).heap[g]? = some (.cells #[v0, v] t (0, 0)) := heap_set2b h v
/-- What lies in memory behind an item's append and its store. -/
theorem CellLay {c : Lst} {w w4 w5 : World} {g qb : Nat} {v hv va vb : Value} {s5 : Option Addr} {c5 : Nat} {hd : List KRec} {xs : List KItem} {z : KItem} {u : List KRec} {ys : List Value}
    (hown : (w4.alloc (.cells #[va, vb] 55)).ownsRow w.heap.size 55 2 v xs.length ys) (hone : ∀ u ∈ ys, u.oneCell' = true)
    (hys : ∀ i (h : i < xs.length), ∃ a b, ys[i * 2]? = some a ∧ ys[i * 2 + 1]? = some b ∧ RowT c.w0 (w4.alloc (.cells #[va, vb] 55)) a xs[i].1 ∧ RowT c.w0 (w4.alloc (.cells #[va, vb] 55)) b xs[i].2)
    (hown5 : w5.ownsRow w.heap.size 55 2 (.slice s5 (xs.length + 1) c5) (xs.length + 1) (ys ++ [va, vb])) (hg5 : (w4.alloc (.cells #[va, vb] 55)).grownBy w5 v.ownBlock)
    (hfa : RowT c.w0 w4 va z.1) (hfb : RowT c.w0 w4 vb z.2) (Bn : w4.heap[qb]? = some (.cells #[hv, v] 50 (0, 0))) (Br : w4.heap[w.heap.size]? = some (.cells #[.slice none 0 0, .slice none 0 0] 50 (0, 0)))
    (hf : RowT c.w0 w4 hv hd) (hp : Ps c g w4 u) (hG : w.grownBy w4 (some g)) (hw0 : c.w0.heap.size ≤ w.heap.size) (hqr : w.heap.size < qb) (hgq : g ≠ qb) :
    w5.heap[qb]? = some (.cells #[hv, v] 50 (0, 0)) ∧ Hid (OwnIt c.w0 (w5.setCell ⟨qb, 1, none⟩ (.slice s5 (xs.length + 1) c5)) w.heap.size (.slice s5 (xs.length + 1) c5) (xs ++ [z]) ∧ (w5.setCell ⟨qb, 1, none⟩ (.slice s5 (xs.length + 1) c5)).heap[qb]? = some (.cells #[hv, .slice s5 (xs.length + 1) c5] 50 (0, 0)) ∧ (w5.setCell ⟨qb, 1, none⟩ (.slice s5 (xs.length + 1) c5)).heap[w.heap.size]? = some (.cells #[.slice none 0 0, .slice none 0 0] 50 (0, 0)) ∧
      RowT c.w0 (w5.setCell ⟨qb, 1, none⟩ (.slice s5 (xs.length + 1) c5)) hv hd ∧ Ps c g (w5.setCell ⟨qb, 1, none⟩ (.slice s5 (xs.length + 1) c5)) u ∧ w.grownBy (w5.setCell ⟨qb, 1, none⟩ (.slice s5 (xs.length + 1) c5)) (some g)) := by
  have gA := World.grownBy_alloc w4 (.cells #[va, vb] 55) none
  obtain ⟨sa, ca, rfl, _⟩ := hfa.shape
  obtain ⟨sb, cb, rfl, _⟩ := hfb.shape
  have st : ∀ u x, RowT c.w0 (w4.alloc (.cells #[.slice sa z.1.length ca, .slice sb z.2.length cb] 55)) u x → RowT c.w0 w5 u x := fun u x hx => hx.own hown hg5 (by decide) (by decide)
  have Ir5 : OwnIt c.w0 w5 w.heap.size (.slice s5 (xs.length + 1) c5) (xs ++ [(z.1, z.2)]) := OwnP.snoc (A := RowT c.w0) (B := RowT c.w0) hown.1 hone rfl rfl hys rfl hown5 st st (hfa.kept gA) (hfb.kept gA)
  have Bn5 := heap_rowT hown hg5 (heap_kept gA Bn) (by decide)
  have Br5 := heap_rowT hown hg5 (heap_kept gA Br) (by decide)
  have hf5 := st _ _ (hf.kept gA)
  have hp5 := (hp.kept gA).own hown hg5 hw0 (by decide)
  have hG5 := grown_ownS (grown_trans hG (grown_any gA)) hown hg5 (Nat.le_refl _)
  have gp : w5.grownBy (w5.setCell ⟨qb, 1, none⟩ (.slice s5 (xs.length + 1) c5)) (some qb) := grown_set (grown_refl _ _) 1 _
  exact ⟨Bn5, Lib.hid ⟨Ir5.grownT gp Bn5 (by decide) (by decide) (by decide), heap_set2b Bn5 _, heap_unset Br5 (by omega) _, hf5.off gp Bn5 (by decide) (by decide), hp5.off gp (by omega) hgq, grown_new hG5 gp (by omega)⟩⟩
set_option maxHeartbeats 32000000 in
theorem Cell_any (c : Lst) (hc : c.ok) (w : World) (g F : Nat) (l : List KRec) (ad : Addr) (hs : c.lies ad) (hbig : c.n ≤ 1099511627776) (hp : Ps c g w l) (hF : l.length < F) :
    Calls Try.prog 51 #[.pointer (some ⟨g, 0, none⟩)] w (RetCell c g w (cellR F l)) := by
  obtain ⟨i1, hi, hz0, hz1, hz2⟩ := info_partsI
  obtain ⟨x, hx⟩ : ∃ x, cellR F l = x := ⟨_, rfl⟩
  rw [hx]
  have hmf : ∀ (fn : Fn) (first cap : Array Value) (w : World), (Instr.makeFunc fn first cap).run Try.prog w = .ok (.func fn first cap) w := fun _ _ _ _ => rfl
  have HX := Lib.hid hx
  have HC := Lib.hid hc
  have HS := Lib.hid hs
  have HB := Lib.hid hbig
  have HFF := Lib.hid hF
  have hG := World.grownBy_alloc w (.cells #[.slice none 0 0, .slice none 0 0] 50) none
  have HP := Lib.hid (hp.kept hG)
  have hgl := hp.lt
  have Br := heap_new w (.cells #[.slice none 0 0, .slice none 0 0] 50) w.heap.size rfl
  have hwl := hp.2.1
  have hw0 := hp.1.size
  clear hc hs hbig hp hx hF
  go_enter Try.func51, Try.ntmps51
  go_wp2_with fail
  generalize (w.alloc (.cells #[.slice none 0 0, .slice none 0 0] 50)) = wa at *
  refine (Taken_any c HC.out wa g _ titleRu l ad HS.out (by have := HB.out; omega) HP.out cf_title (Lib.hid fun W m hm => Title_any c HC.out W g m hm)).mono ?_
  rintro e w1 (⟨hT, rfl, hg1⟩ | ⟨t, hv, hT, rfl, hf, hg1, hp1⟩)
  · have hF : Hid (RetCell c g w x mis w1) := Lib.hid (Or.inl ⟨by rw [← HX.out]; exact cell_1 hT, rfl, grown_trans (grown_any hG) hg1⟩)
    clear hT hg1 hG Br
    go_wp2_with fail
    exact ⟨rfl, hF.out⟩
  · have HX1 := Lib.hid ((cell_2 hT).symm.trans HX.out)
    have hgA := grown_trans (grown_any (row := some g) hG) hg1
    have Br1 := heap_off hg1 Br (by intro e; have := Option.some.inj e; omega)
    obtain ⟨s1, c1, rfl, _⟩ := hf.shape
    have htl : t.length ≤ l.length := by
      obtain ⟨p, rfl, _⟩ := run_pre hT
      rw [List.length_append]; omega
    have gA := World.grownBy_alloc w1 (.cells #[.slice s1 (cutL l t).length c1, .slice none 0 0] 50) none
    have Bn := heap_new w1 (.cells #[.slice s1 (cutL l t).length c1, .slice none 0 0] 50) w1.heap.size rfl
    have Br2 := heap_kept gA Br1
    have HP2 := Lib.hid (hp1.kept gA)
    have hG2 := grown_trans hgA (grown_any gA)
    have hf2 := hf.kept gA
    have hfu : t.length < F := by have := HFF.out; omega
    have htn : t.length ≤ c.n := hp1.2.2.1
    obtain ⟨y, hy⟩ : ∃ y, itemsR F t = y := ⟨_, rfl⟩
    have HY0 : Hid (catI [] (itemsR F t) = y) := Lib.hid (by rw [catI_nil]; exact hy)
    rw [hy] at HX1
    have hqr : w.heap.size < w1.heap.size := heap_lt Br1
    clear hT hf hp1 hg1 hG Br Br1 hgA gA hy
    go_wp2_with fail
    generalize (w1.alloc (.cells #[.slice s1 (cutL l t).length c1, .slice none 0 0] 50)) = w2 at *
    generalize w1.heap.size = qb at *
    go_loopg [] t.length (fun gh wr => ∃ (m : List KRec) (xs : List KItem) (v : Value) (f : Nat), m.length ≤ gh ∧ m.length < f ∧ xs.length + m.length ≤ c.n ∧ Hid (catI xs (itemsR f m) = y) ∧ OwnIt c.w0 wr w.heap.size v xs ∧ wr.heap[qb]? = some (.cells #[.slice s1 (cutL l t).length c1, v] 50 (0, 0)) ∧ wr.heap[w.heap.size]? = some (.cells #[.slice none 0 0, .slice none 0 0] 50 (0, 0)) ∧ RowT c.w0 wr (.slice s1 (cutL l t).length c1) (cutL l t) ∧ Hid (Ps c g wr m) ∧ w.grownBy wr (some g))
    case atStart => exact ⟨t, [], _, F, Nat.le_refl _, hfu, by simpa using htn, HY0, OwnP.nil _ _, Bn, Br2, hf2, HP2, hG2⟩
    case round =>
      clear Bn Br2 hf2 HP2 hG2 HY0 hfu htn HP htl
      obtain ⟨m, xs, v, f, hgh, hmf2, hxn, HY, Ir, Bn, Br, hf, HP, hG⟩ := hrel
      obtain ⟨f, rfl⟩ : ∃ k, f = k + 1 := ⟨f - 1, by omega⟩
      obtain ⟨sv, cv, rfl⟩ := Ir.shape
      have hgq : g ≠ qb := heap_ne HP.out.2.2.2.2 Bn (by decide)
      go_wp2_with fail
      refine (Takes_any c HC.out wr g 7 m HP.out).mono ?_
      rintro e w3 (⟨hT, rfl, hg1⟩ | ⟨hT, rfl, hg1, hp1⟩ | ⟨u, hT, rfl, hg1, hp1⟩)
      · have hF : Hid (RetCell c g w x mis w3) := Lib.hid (Or.inl ⟨by rw [← HX1.out, ← HY.out, items_misfit hT]; rfl, rfl, grown_sg hG hg1⟩)
        clear hT hg1 hG Br Bn Ir hf
        go_wp2_with fail
        exact ⟨rfl, hF.out⟩
      · have hG1 := grown_sg hG hg1
        have Bg := HP.out.2.2.2.2
        have Br1 := heap_off hg1 Br (by intro e; have := Option.some.inj e; omega)
        have Bn1 := heap_off hg1 Bn (by intro e; exact hgq (Option.some.inj e).symm)
        have Ir1 := Ir.grownT hg1 Bg (by decide) (by decide) (by decide)
        have hf1 := hf.off hg1 Bg (by decide) (by decide)
        have HP1 := Lib.hid hp1
        have HT := Lib.hid hT
        obtain ⟨Cn0, Cn1, Fn0, Fn1⟩ := box_cells2 Bn1
        clear hT hg1 hp1 Bg Br Bn Ir hf hG
        obtain ⟨o, ho⟩ : ∃ o, itemR m = o := ⟨_, rfl⟩
        have HO := Lib.hid ho
        clear ho
        cases o with
        | none =>
          have HXN := Lib.hid (show x = none by rw [← HX1.out, ← HY.out, items_bad HT.out HO.out]; rfl)
          go_wp2_with fail
          refine wp_region_held_drew (S := fun w' => w'.cell? ⟨qb, 1, none⟩ = some (.slice sv xs.length cv)) (by kernel_rfl) (by exact Cn1) (fun hHeld => ?_)
          refine wpAnyH_take (i := 0) (v := ?_) rfl (by kernel_rfl) (by kernel_rfl) (by kernel_rfl) (fun _ _ _ h => h) (Or.inl ⟨by rfl, ?_⟩) (by assumption) ?_
          rotate_left
          · (intro w hSw; (try dsimp only at hSw); go_simp; (try with_reducible rfl))
          try simp only [Act.put, List.getElem_toArray, List.getElem_cons_zero, List.getElem_cons_succ, List.setIfInBounds_toArray, List.set_cons_zero, List.set_cons_succ]
          refine wpAnyH_take (i := 1) (v := ?_) rfl (by kernel_rfl) (by kernel_rfl) (by kernel_rfl) (fun _ _ _ h => h) (Or.inl ⟨by rfl, ?_⟩) (by assumption) ?_
          rotate_left
          · (intro w hSw; (try dsimp only at hSw); go_simp; (try with_reducible rfl))
          try simp only [Act.put, List.getElem_toArray, List.getElem_cons_zero, List.getElem_cons_succ, List.setIfInBounds_toArray, List.set_cons_zero, List.set_cons_succ]
          refine wpAnyH_take (i := 2) (v := ?_) rfl (by kernel_rfl) (by kernel_rfl) (by kernel_rfl) (fun _ _ _ h => h) (Or.inl ⟨by rfl, ?_⟩) (by assumption) ?_
          rotate_left
          · (intro w hSw; (try dsimp only at hSw); go_simp; (try with_reducible rfl))
          try simp only [Act.put, List.getElem_toArray, List.getElem_cons_zero, List.getElem_cons_succ, List.setIfInBounds_toArray, List.set_cons_zero, List.set_cons_succ]
          refine wpAnyH_ready (rs := [3]) (by kernel_rfl) (by simp) ?_
          refine AllReadyH.cons rfl (fun K hK => ?_) AllReadyH.nil
          go_simp
          go_at_call 71
          refine (Item_any c HC.out _ g m ad HS.out (by have := HB.out; omega) (HP1.out.kept (grown_drew (grown_refl _ _)))).mono ?_
          rw [HO.out]
          rintro e w4 (⟨_, rfl, hg4⟩ | ⟨_, _, _, _, h, _⟩)
          · exact ⟨rfl, Or.inl ⟨HXN.out, rfl, grown_sg (grown_drew hG1) hg4⟩⟩
          · cases h
        | some o =>
          obtain ⟨z, u⟩ := o
          have HIL := Lib.hid (item_len HO.out)
          have HX6 := Lib.hid ((items_more (f := f) xs HT.out HO.out).symm.trans HY.out)
          have hxm : xs.length ≤ 1099511627776 := by have := HB.out; omega
          have HM1 : Hid (xs.length + 1 ≤ maxLen) := Lib.hid (by unfold maxLen; omega)
          have HM2 : Hid ((xs.length + 1) * 48 ≤ 140737488355328) := Lib.hid (by omega)
          have hib : OwnIt c.w0 w3 w.heap.size (.slice sv xs.length cv) xs := Ir1
          have HIr := Lib.hid hib
          have HBr := Lib.hid Br1
          have HBn := Lib.hid Bn1
          have HF1 := Lib.hid hf1
          clear hib Ir1 Br1 Bn1 hf1 hxm
          go_wp2_with fail
          go_region_law (first
            | (refine step_own_some rfl (.tmp 13) (.tmp 16) 48 rfl w.heap.size 55 i1 (.agg #[.slice none 0 0, .slice none 0 0]) 2 48 Try.underlying48 hi hz0 hz1 hz2 rfl (by decide) (.slice sv xs.length cv) xs.length ys rfl HOWN.out ⟨w4.heap.size, 0, none⟩ 1 1 [.slice sa z.1.length ca, .slice sb z.2.length cb] rfl rfl (World.news_of_block (cs := #[.slice sa z.1.length ca, .slice sb z.2.length cb]) (heap_new w4 _ _ rfl)) (by simp [Value.oneCell']) HM1.out HM2.out HBS.out (Or.inr (by decide)) (xs.length + 1) rfl ?_; intro gb cbb w5 hown hg5 hgb hcb hmb; have HLAY := CellLay HOWN.out HONE.out HYS.out hown hg5 HFA.out HFB.out HBn4.out HBr4.out HF4.out HP4.out HG4.out hw0 hqr hgq; clear hown hg5 hgb hcb hmb; obtain ⟨Bn5, HLAY⟩ := HLAY; obtain ⟨_, Cn6, _, Fn6⟩ := box_cells2 Bn5; clear Bn5)
            | (go_simp; go_at_call 71; (with_reducible refine (Item_any c HC.out _ g m ad HS.out (by have := HB.out; omega) (HP1.out.kept (grown_drew (grown_refl _ _)))).mono ?_); rw [HO.out]; rintro e w4 (⟨h, _⟩ | ⟨_, _, va, vb, h, rfl, hfa, hfb, hg4, hp4⟩); (cases h); (cases h); have hGd := grown_drew (row := some g) (grown_refl w3 _); have hg9 := grown_sg hGd hg4; have Bg9 := HP1.out.2.2.2.2; have Bn4 := heap_off hg9 HBn.out (by intro e; exact hgq (Option.some.inj e).symm); have gA := World.grownBy_alloc w4 (.cells #[va, vb] 55) none; obtain ⟨_, Cn4, _, _⟩ := box_cells2 Bn4; obtain ⟨_, Cn5, _, _⟩ := box_cells2 (heap_kept gA Bn4); have HIr4 := Lib.hid ((HIr.out.grownT hg9 Bg9 (by decide) (by decide) (by decide)).kept gA); obtain ⟨ys, hown, hone, hys⟩ := HIr4.out; have HOWN := Lib.hid hown; have HONE := Lib.hid hone; have HYS := Lib.hid hys; have HBS : Hid (w.heap.size ≤ (w4.alloc (.cells #[va, vb] 55)).heap.size) := Lib.hid (Nat.le_trans (grown_sg hG1 hg9).size gA.size); have HFA := Lib.hid hfa; have HFB := Lib.hid hfb; have HG4 := Lib.hid (grown_sg hG1 hg9); have HP4 := Lib.hid hp4; have HBn4 := Lib.hid Bn4; have HBr4 := Lib.hid (heap_off hg9 HBr.out (by intro e; have := Option.some.inj e; omega)); have HF4 := Lib.hid (HF1.out.off hg9 Bg9 (by decide) (by decide)); obtain ⟨sa, ca, rfl, _⟩ := hfa.shape; obtain ⟨sb, cb, rfl, _⟩ := hfb.shape; clear hown hone hys hfa hfb hp4 hg4 hGd))
          all_goals (
            go_wp2_with fail
            go_roundg u.length
            case measure => have := HIL.out; omega
            case rel => obtain ⟨Ir6, Bn6, Br6, hf6, hP6, hG6⟩ := HLAY.out; exact ⟨u, xs ++ [z], _, f, Nat.le_refl _, by have := HIL.out; omega, by rw [List.length_append]; have := HIL.out; simp; omega, HX6, by simpa using Ir6, by simpa using Bn6, Br6, hf6, Lib.hid hP6, hG6⟩)
      · have hG1 := grown_sg hG hg1
        have Bg := HP.out.2.2.2.2
        have Br1 := heap_off hg1 Br (by intro e; have := Option.some.inj e; omega)
        have Bn1 := heap_off hg1 Bn (by intro e; exact hgq (Option.some.inj e).symm)
        have Ir1 := (Ir.grownT hg1 Bg (by decide) (by decide) (by decide)).row
        have hf1 := hf.off hg1 Bg (by decide) (by decide)
        have HXE : x = some ((cutL l t, xs), u) := by rw [← HX1.out, ← HY.out, items_stop hT]; simp [catI]
        obtain ⟨Cn0, Cn1, _, _⟩ := box_cells2 Bn1
        obtain ⟨_, _, Fr0, Fr1⟩ := box_cells2 Br1
        have gp := grown_put2b (W := w3) (g := w.heap.size) (.slice s1 (cutL l t).length c1) (.slice sv xs.length cv)
        have hG5 := grown_put2 hG1 (Nat.le_refl w.heap.size) (.slice s1 (cutL l t).length c1) (.slice sv xs.length cv)
        have hF : Hid (RetCell c g w x (.returned (.agg #[.slice s1 (cutL l t).length c1, .slice sv xs.length cv])) ((w3.setCell ⟨w.heap.size, 0, none⟩ (.slice s1 (cutL l t).length c1)).setCell ⟨w.heap.size, 1, none⟩ (.slice sv xs.length cv))) :=
          Lib.hid (Or.inr ⟨_, u, _, _, HXE, rfl, hf1.off gp Br1 (by decide) (by decide), ItemsT.grownT Ir1 gp Br1 (by decide) (by decide) (by decide), hG5, hp1.off gp (by omega) (by omega)⟩)
        have Br5 := heap_set2 Br1 (.slice s1 (cutL l t).length c1) (.slice sv xs.length cv)
        obtain ⟨D0, D1, _, _⟩ := box_cells2 Br5
        clear hT hg1 hp1 Bg Br Bn Ir hf hG Br1 Bn1 Ir1 hf1 HXE gp hG5 hG1 Br5
        go_wp2_with fail
        exact bodyPost_ret (v := .agg #[.slice s1 (cutL l t).length c1, .slice sv xs.length cv]) (by simp [results, Try.results51, go_sem, D0, D1]) rfl hF.out
end Go.Proofs.Ytcioefmldcmhgaa
