/- Streams as trees: libraries. -/
import Derived.Test.YtcioefmldcmhgaaGD
namespace Go.Proofs.Ytcioefmldcmhgaa
open Go.RowKit
set_option maxRecDepth 100000
set_option linter.unusedVariables false
set_option linter.unusedSimpArgs false

theorem Sees_any (c : Lst) (hc : c.ok) (w : World) (g kd : Nat) (l : List KRec) (hp : Ps c g w l) :
    Calls Try.prog 50 #[.pointer (some ⟨g, 0, none⟩), .int .u8 (kd : Int)] w (RetB w (sees kd l)) := by
  cases l with
  | nil =>
    obtain ⟨C0, C1⟩ := hp.fin
    exact Sees_end w g c.n c.cap kd c.s C0 C1
  | cons r t =>
    obtain ⟨k, kr, dt, bd, a, q, sb, cb, rfl, hk, hkl, hs, hq, hkr, hdt, Bg, A0, A1, A2, A3, A4, A5, A6, hnx⟩ := hp.at hc
    obtain ⟨C0, C1, F0, F1⟩ := box_cells2 Bg
    refine Sees_at w g c.n c.cap kd k kr a q hq hk C0 C1 (hp.1.cell A0 (by simp)) _ ?_
    simp only [sees]
    by_cases h : kr = kd
    · rw [decide_eq_true h, h]; simp
    · rw [decide_eq_false h]; exact beq_eq_false_iff_ne.2 (by omega)
abbrev CellsT (w0 : World) : World → Value → List KCell → Prop := RowP 50 (RowT w0) (ItemsT w0)
abbrev OwnCe (w0 : World) : World → Nat → Value → List KCell → Prop := OwnP 50 (RowT w0) (ItemsT w0)
theorem OwnCe.grownT {w0 W W' : World} {base q : Nat} {v : Value} {xs : List KCell} {cs : Array Value} {t : TypeId} {fz : Nat × Nat} (h : OwnCe w0 W base v xs) (hg : W.grownBy W' (some q)) (hq : W.heap[q]? = some (.cells cs t fz)) (h1 : t ≠ 5) (h2 : t ≠ 45) (h3 : t ≠ 55) (h4 : t ≠ 50) : OwnCe w0 W' base v xs :=
  h.move (fun ys ho => own_offT ho hg hq h4) (fun u x hx => hx.off hg hq h1 h2) (fun u x hx => ItemsT.grownT hx hg hq h1 h2 h3)
theorem CellsT.grownT {w0 W W' : World} {q : Nat} {v : Value} {xs : List KCell} {cs : Array Value} {t : TypeId} {fz : Nat × Nat} (h : CellsT w0 W v xs) (hg : W.grownBy W' (some q)) (hq : W.heap[q]? = some (.cells cs t fz)) (h1 : t ≠ 5) (h2 : t ≠ 45) (h3 : t ≠ 55) (h4 : t ≠ 50) : CellsT w0 W' v xs :=
  h.move (fun g cur hb => heap_off hg hb (fun e => by cases e; rw [hb] at hq; cases hq; exact h4 rfl)) (fun u x hx => hx.off hg hq h1 h2) (fun u x hx => ItemsT.grownT hx hg hq h1 h2 h3)
theorem OwnCe.kept {w0 W W' : World} {base : Nat} {v : Value} {xs : List KCell} (h : OwnCe w0 W base v xs) (hg : W.grownBy W' none) : OwnCe w0 W' base v xs :=
  h.move (fun ys ho => own_kept ho hg) (fun u x hx => hx.kept hg) (fun u x hx => ItemsT.kept hx hg)
theorem CellsT.kept {w0 W W' : World} {v : Value} {xs : List KCell} (h : CellsT w0 W v xs) (hg : W.grownBy W' none) : CellsT w0 W' v xs :=
  h.move (fun g cur hb => heap_kept hg hb) (fun u x hx => hx.kept hg) (fun u x hx => ItemsT.kept hx hg)
theorem ItemsT.own {w0 W W' : World} {base n size : Nat} {e : TypeId} {v u : Value} {xs : List Value} {rs : List KItem} (h : ItemsT w0 W u rs) (ho : W.ownsRow base e size v n xs) (hg : W.grownBy W' v.ownBlock) (h1 : e ≠ 5) (h2 : e ≠ 45) (h3 : e ≠ 55) : ItemsT w0 W' u rs := by
  obtain ⟨_, ⟨e', _⟩ | ⟨g, cap', cur, e', hg', hb, hr⟩⟩ := ho
  · subst e'; exact ItemsT.kept h hg
  · subst e'; exact ItemsT.grownT h hg hb h1 h2 h3
theorem cells_stop {F f : Nat} {m : List KRec} (h : sees 5 m = false) : cellsR F (f + 1) m = some ([], m) := by simp [cellsR, h]
theorem cells_bad {F f : Nat} {m : List KRec} (h : sees 5 m = true) (h2 : cellR F m = none) : cellsR F (f + 1) m = none := by simp [cellsR, h, h2]
theorem cells_more {F f : Nat} {m t : List KRec} {x : KCell} (xs : List KCell) (h : sees 5 m = true) (h2 : cellR F m = some (x, t)) : catI xs (cellsR F (f + 1) m) = catI (xs ++ [x]) (cellsR F f t) := by
  simp only [cellsR, h, h2, if_true]
  cases cellsR F f t with
  | none => rfl
  | some y => simp [catI]
theorem cell_len {F : Nat} {m t : List KRec} {x : KCell} (h : cellR F m = some (x, t)) : t.length < m.length := by
  obtain ⟨_, rfl⟩ := cell_is h
  have := recC_len x
  rw [List.length_append]; omega
/-- What library answers. -/
def RetLib (c : Lst) (g : Nat) (w : World) (x : Option (KLib × List KRec)) (e : Ending) (w' : World) : Prop :=
  (x = none ∧ e = mis ∧ w.grownBy w' (some g)) ∨ (∃ y t a b, x = some (y, t) ∧ e = .returned (.agg #[a, b]) ∧ RowT c.w0 w' a y.1 ∧ CellsT c.w0 w' b y.2 ∧ w.grownBy w' (some g) ∧ Ps c g w' t)
theorem lib_1 {F : Nat} {l : List KRec} (h : run headRu l = none) : libF F l = none := by unfold libF; rw [h]
def endL (hd : List KRec) (o : Option (List KCell × List KRec)) : Option (KLib × List KRec) :=
  match o with
  | none => none
  | some (xs, l2) => match run (.one 4) l2 with
    | none => none
    | some l3 => some ((hd, xs), l3)
theorem lib_2 {F : Nat} {l t : List KRec} (h : run headRu l = some t) : libF F l = endL (cutL l t) (cellsR F F t) := by
  unfold libF endL; simp only [h]
  cases cellsR F F t with
  | none => rfl
  | some y =>
    obtain ⟨xs, l2⟩ := y
    dsimp only
    cases run (.one 4) l2 <;> rfl
theorem endL_none {hd : List KRec} {xs : List KCell} {m : List KRec} (h : run (musts [4]) m = none) : endL hd (some (xs, m)) = none := by
  have h4 : run (.one 4) m = none := by
    simp only [musts, run] at h
    simp only [run]
    split at h
    · cases h
    · assumption
  simp [endL, h4]
theorem endL_some {hd : List KRec} {xs : List KCell} {m u : List KRec} (h : run (musts [4]) m = some u) : endL hd (some (xs, m)) = some ((hd, xs), u) := by
  simp [endL, one_musts h]
/-- What lies in memory behind an item's append and its store. -/
theorem LibLay {c : Lst} {w w4 w5 : World} {g qb : Nat} {v hv va vb : Value} {s5 : Option Addr} {c5 : Nat} {hd : List KRec} {xs : List KCell} {z : KCell} {u : List KRec} {ys : List Value}
    (hown : (w4.alloc (.cells #[va, vb] 50)).ownsRow w.heap.size 50 2 v xs.length ys) (hone : ∀ u ∈ ys, u.oneCell' = true)
    (hys : ∀ i (h : i < xs.length), ∃ a b, ys[i * 2]? = some a ∧ ys[i * 2 + 1]? = some b ∧ RowT c.w0 (w4.alloc (.cells #[va, vb] 50)) a xs[i].1 ∧ ItemsT c.w0 (w4.alloc (.cells #[va, vb] 50)) b xs[i].2)
    (hown5 : w5.ownsRow w.heap.size 50 2 (.slice s5 (xs.length + 1) c5) (xs.length + 1) (ys ++ [va, vb])) (hg5 : (w4.alloc (.cells #[va, vb] 50)).grownBy w5 v.ownBlock)
    (hfa : RowT c.w0 w4 va z.1) (hfb : ItemsT c.w0 w4 vb z.2) (Bn : w4.heap[qb]? = some (.cells #[hv, v] 27 (0, 0))) (Br : w4.heap[w.heap.size]? = some (.cells #[.slice none 0 0, .slice none 0 0] 27 (0, 0)))
    (hf : RowT c.w0 w4 hv hd) (hp : Ps c g w4 u) (hG : w.grownBy w4 (some g)) (hw0 : c.w0.heap.size ≤ w.heap.size) (hqr : w.heap.size < qb) (hgq : g ≠ qb) :
    w5.heap[qb]? = some (.cells #[hv, v] 27 (0, 0)) ∧ Hid (OwnCe c.w0 (w5.setCell ⟨qb, 1, none⟩ (.slice s5 (xs.length + 1) c5)) w.heap.size (.slice s5 (xs.length + 1) c5) (xs ++ [z]) ∧ (w5.setCell ⟨qb, 1, none⟩ (.slice s5 (xs.length + 1) c5)).heap[qb]? = some (.cells #[hv, .slice s5 (xs.length + 1) c5] 27 (0, 0)) ∧ (w5.setCell ⟨qb, 1, none⟩ (.slice s5 (xs.length + 1) c5)).heap[w.heap.size]? = some (.cells #[.slice none 0 0, .slice none 0 0] 27 (0, 0)) ∧
      RowT c.w0 (w5.setCell ⟨qb, 1, none⟩ (.slice s5 (xs.length + 1) c5)) hv hd ∧ Ps c g (w5.setCell ⟨qb, 1, none⟩ (.slice s5 (xs.length + 1) c5)) u ∧ w.grownBy (w5.setCell ⟨qb, 1, none⟩ (.slice s5 (xs.length + 1) c5)) (some g)) := by
  have gA := World.grownBy_alloc w4 (.cells #[va, vb] 50) none
  obtain ⟨sa, ca, rfl, _⟩ := hfa.shape
  obtain ⟨sb, cb, rfl, _⟩ := RowP.shape hfb
  have st : ∀ u x, RowT c.w0 (w4.alloc (.cells #[.slice sa z.1.length ca, .slice sb z.2.length cb] 50)) u x → RowT c.w0 w5 u x := fun u x hx => hx.own hown hg5 (by decide) (by decide)
  have st2 : ∀ u x, ItemsT c.w0 (w4.alloc (.cells #[.slice sa z.1.length ca, .slice sb z.2.length cb] 50)) u x → ItemsT c.w0 w5 u x := fun u x hx => ItemsT.own hx hown hg5 (by decide) (by decide) (by decide)
  have Ir5 : OwnCe c.w0 w5 w.heap.size (.slice s5 (xs.length + 1) c5) (xs ++ [(z.1, z.2)]) := OwnP.snoc (A := RowT c.w0) (B := ItemsT c.w0) hown.1 hone rfl rfl hys rfl hown5 st st2 (hfa.kept gA) (ItemsT.kept hfb gA)
  have Bn5 := heap_rowT hown hg5 (heap_kept gA Bn) (by decide)
  have Br5 := heap_rowT hown hg5 (heap_kept gA Br) (by decide)
  have hf5 := st _ _ (hf.kept gA)
  have hp5 := (hp.kept gA).own hown hg5 hw0 (by decide)
  have hG5 := grown_ownS (grown_trans hG (grown_any gA)) hown hg5 (Nat.le_refl _)
  have gp : w5.grownBy (w5.setCell ⟨qb, 1, none⟩ (.slice s5 (xs.length + 1) c5)) (some qb) := grown_set (grown_refl _ _) 1 _
  exact ⟨Bn5, Lib.hid ⟨OwnCe.grownT Ir5 gp Bn5 (by decide) (by decide) (by decide) (by decide), heap_set2b Bn5 _, heap_unset Br5 (by omega) _, hf5.off gp Bn5 (by decide) (by decide), hp5.off gp (by omega) hgq, grown_new hG5 gp (by omega)⟩⟩
set_option maxHeartbeats 32000000 in
theorem Library_any (c : Lst) (hc : c.ok) (w : World) (g F : Nat) (l : List KRec) (ad : Addr) (hs : c.lies ad) (hbig : c.n ≤ 1099511627776) (hp : Ps c g w l) (hF : l.length < F) :
    Calls Try.prog 30 #[.pointer (some ⟨g, 0, none⟩)] w (RetLib c g w (libF F l)) := by
  obtain ⟨i1, hi, hz0, hz1, hz2⟩ := info_partsC
  obtain ⟨x, hx⟩ : ∃ x, libF F l = x := ⟨_, rfl⟩
  rw [hx]
  have hmf : ∀ (fn : Fn) (first cap : Array Value) (w : World), (Instr.makeFunc fn first cap).run Try.prog w = .ok (.func fn first cap) w := fun _ _ _ _ => rfl
  have HX := Lib.hid hx
  have HC := Lib.hid hc
  have HS := Lib.hid hs
  have HB := Lib.hid hbig
  have HFF := Lib.hid hF
  have hG := World.grownBy_alloc w (.cells #[.slice none 0 0, .slice none 0 0] 27) none
  have HP := Lib.hid (hp.kept hG)
  have hgl := hp.lt
  have Br := heap_new w (.cells #[.slice none 0 0, .slice none 0 0] 27) w.heap.size rfl
  have hwl := hp.2.1
  have hw0 := hp.1.size
  clear hc hs hbig hp hx hF
  go_enter Try.func30, Try.ntmps30
  go_wp2_with fail
  generalize (w.alloc (.cells #[.slice none 0 0, .slice none 0 0] 27)) = wa at *
  refine (Taken_any c HC.out wa g _ headRu l ad HS.out (by have := HB.out; omega) HP.out cf_head (Lib.hid fun W m hm => Head_any c HC.out W g m hm)).mono ?_
  rintro e w1 (⟨hT, rfl, hg1⟩ | ⟨t, hv, hT, rfl, hf, hg1, hp1⟩)
  · have hF : Hid (RetLib c g w x mis w1) := Lib.hid (Or.inl ⟨by rw [← HX.out]; exact lib_1 hT, rfl, grown_trans (grown_any hG) hg1⟩)
    clear hT hg1 hG Br
    go_wp2_with fail
    exact ⟨rfl, hF.out⟩
  · have HX1 := Lib.hid ((lib_2 hT).symm.trans HX.out)
    have hgA := grown_trans (grown_any (row := some g) hG) hg1
    have Br1 := heap_off hg1 Br (by intro e; have := Option.some.inj e; omega)
    obtain ⟨s1, c1, rfl, _⟩ := hf.shape
    have htl : t.length ≤ l.length := by
      obtain ⟨p, rfl, _⟩ := run_pre hT
      rw [List.length_append]; omega
    have gA := World.grownBy_alloc w1 (.cells #[.slice s1 (cutL l t).length c1, .slice none 0 0] 27) none
    have Bn := heap_new w1 (.cells #[.slice s1 (cutL l t).length c1, .slice none 0 0] 27) w1.heap.size rfl
    have Br2 := heap_kept gA Br1
    have HP2 := Lib.hid (hp1.kept gA)
    have hG2 := grown_trans hgA (grown_any gA)
    have hf2 := hf.kept gA
    have hfu : t.length < F := by have := HFF.out; omega
    have htn : t.length ≤ c.n := hp1.2.2.1
    obtain ⟨y, hy⟩ : ∃ y, cellsR F F t = y := ⟨_, rfl⟩
    have HY0 : Hid (catI [] (cellsR F F t) = y) := Lib.hid (by rw [catI_nil]; exact hy)
    rw [hy] at HX1
    have hqr : w.heap.size < w1.heap.size := heap_lt Br1
    clear hT hf hp1 hg1 hG Br Br1 hgA gA hy
    go_wp2_with fail
    generalize (w1.alloc (.cells #[.slice s1 (cutL l t).length c1, .slice none 0 0] 27)) = w2 at *
    generalize w1.heap.size = qb at *
    go_loopg [] t.length (fun gh wr => ∃ (m : List KRec) (xs : List KCell) (v : Value) (f : Nat), m.length ≤ gh ∧ m.length < F ∧ m.length < f ∧ xs.length + m.length ≤ c.n ∧ Hid (catI xs (cellsR F f m) = y) ∧ OwnCe c.w0 wr w.heap.size v xs ∧ wr.heap[qb]? = some (.cells #[.slice s1 (cutL l t).length c1, v] 27 (0, 0)) ∧ wr.heap[w.heap.size]? = some (.cells #[.slice none 0 0, .slice none 0 0] 27 (0, 0)) ∧ RowT c.w0 wr (.slice s1 (cutL l t).length c1) (cutL l t) ∧ Hid (Ps c g wr m) ∧ w.grownBy wr (some g))
    case atStart => exact ⟨t, [], _, F, Nat.le_refl _, hfu, hfu, by simpa using htn, HY0, OwnP.nil _ _, Bn, Br2, hf2, HP2, hG2⟩
    case round =>
      clear Bn Br2 hf2 HP2 hG2 HY0 hfu htn HP htl
      obtain ⟨m, xs, v, f, hgh, hmF, hmf2, hxn, HY, Ir, Bn, Br, hf, HP, hG⟩ := hrel
      obtain ⟨f, rfl⟩ : ∃ k, f = k + 1 := ⟨f - 1, by omega⟩
      obtain ⟨sv, cv, rfl⟩ := Ir.shape
      have hgq : g ≠ qb := heap_ne HP.out.2.2.2.2 Bn (by decide)
      have HMF := Lib.hid hmF
      obtain ⟨B, hB⟩ : ∃ B, sees 5 m = B := ⟨_, rfl⟩
      have HBS5 := Lib.hid hB
      clear hB hmF
      go_wp2_with fail
      refine (Sees_any c HC.out wr g 5 m HP.out).mono ?_
      rw [HBS5.out]
      rintro e w3 ⟨rfl, hg3⟩
      have hg1 := grown_any (row := some g) hg3
      have hp1 := HP.out.kept hg3
      have hG1 := grown_sg hG hg1
      have Br1 := heap_kept hg3 Br
      have Bn1 := heap_kept hg3 Bn
      have Ir1 := OwnCe.kept Ir hg3
      have hf1 := hf.kept hg3
      have HP1 := Lib.hid hp1
      clear hg1 hp1 Br Bn Ir hf hG hg3
      cases B with
      | true =>
        have HT := HBS5
        obtain ⟨Cn0, Cn1, Fn0, Fn1⟩ := box_cells2 Bn1
        obtain ⟨o, ho⟩ : ∃ o, cellR F m = o := ⟨_, rfl⟩
        have HO := Lib.hid ho
        clear ho
        cases o with
        | none =>
          have HXN := Lib.hid (show x = none by rw [← HX1.out, ← HY.out, cells_bad HT.out HO.out]; rfl)
          go_wp2_with fail
          refine wp_region_held_drew (S := fun w' => w'.cell? ⟨qb, 1, none⟩ = some (.slice sv xs.length cv)) (by kernel_rfl) (by exact Cn1) (fun hHeld => ?_)
          refine wpAnyH_take (i := 0) (v := ?_) rfl (by kernel_rfl) (by kernel_rfl) (by kernel_rfl) (fun _ _ _ h => h) (Or.inl ⟨by rfl, ?_⟩) (by assumption) ?_
          rotate_left
          · (intro w hSw; (try dsimp only at hSw); go_simp; (try with_reducible rfl))
          try simp only [Act.put, List.getElem_toArray, List.getElem_cons_zero, List.getElem_cons_succ, List.setIfInBounds_toArray, List.set_cons_zero, List.set_cons_succ]
          refine wpAnyH_take (i := 1) (v := ?_) rfl (by kernel_rfl) (by kernel_rfl) (by kernel_rfl) (fun _ _ _ h => h) (Or.inl ⟨by rfl, ?_⟩) (by assumption) ?_
          rotate_left
          · (intro w hSw; (try dsimp only at hSw); go_simp; (try with_reducible rfl))
          try simp only [Act.put, List.getElem_toArray, List.getElem_cons_zero, List.getElem_cons_succ, List.setIfInBounds_toArray, List.set_cons_zero, List.set_cons_succ]
          refine wpAnyH_take (i := 2) (v := ?_) rfl (by kernel_rfl) (by kernel_rfl) (by kernel_rfl) (fun _ _ _ h => h) (Or.inl ⟨by rfl, ?_⟩) (by assumption) ?_
          rotate_left
          · (intro w hSw; (try dsimp only at hSw); go_simp; (try with_reducible rfl))
          try simp only [Act.put, List.getElem_toArray, List.getElem_cons_zero, List.getElem_cons_succ, List.setIfInBounds_toArray, List.set_cons_zero, List.set_cons_succ]
          refine wpAnyH_ready (rs := [3]) (by kernel_rfl) (by simp) ?_
          refine AllReadyH.cons rfl (fun K hK => ?_) AllReadyH.nil
          go_simp
          go_at_call 51
          refine (Cell_any c HC.out _ g F m ad HS.out HB.out (HP1.out.kept (grown_drew (grown_refl _ _))) HMF.out).mono ?_
          rw [HO.out]
          rintro e w4 (⟨_, rfl, hg4⟩ | ⟨_, _, _, _, h, _⟩)
          · exact ⟨rfl, Or.inl ⟨HXN.out, rfl, grown_sg (grown_drew hG1) hg4⟩⟩
          · cases h
        | some o =>
          obtain ⟨z, u⟩ := o
          have HIL := Lib.hid (cell_len HO.out)
          have HX6 := Lib.hid ((cells_more (f := f) xs HT.out HO.out).symm.trans HY.out)
          have hxm : xs.length ≤ 1099511627776 := by have := HB.out; omega
          have HM1 : Hid (xs.length + 1 ≤ maxLen) := Lib.hid (by unfold maxLen; omega)
          have HM2 : Hid ((xs.length + 1) * 48 ≤ 140737488355328) := Lib.hid (by omega)
          have hib : OwnCe c.w0 w3 w.heap.size (.slice sv xs.length cv) xs := Ir1
          have HIr := Lib.hid hib
          have HBr := Lib.hid Br1
          have HBn := Lib.hid Bn1
          have HF1 := Lib.hid hf1
          clear hib Ir1 Br1 Bn1 hf1 hxm
          go_wp2_with fail
          go_region_law (first
            | (refine step_own_some rfl (.tmp 14) (.tmp 17) 25 rfl w.heap.size 50 i1 (.agg #[.slice none 0 0, .slice none 0 0]) 2 48 Try.underlying25 hi hz0 hz1 hz2 rfl (by decide) (.slice sv xs.length cv) xs.length ys rfl HOWN.out ⟨w4.heap.size, 0, none⟩ 1 1 [.slice sa z.1.length ca, .slice sb z.2.length cb] rfl rfl (World.news_of_block (cs := #[.slice sa z.1.length ca, .slice sb z.2.length cb]) (heap_new w4 _ _ rfl)) (by simp [Value.oneCell']) HM1.out HM2.out HBS.out (Or.inr (by decide)) (xs.length + 1) rfl ?_; intro gb cbb w5 hown hg5 hgb hcb hmb; have HLAY := LibLay HOWN.out HONE.out HYS.out hown hg5 HFA.out HFB.out HBn4.out HBr4.out HF4.out HP4.out HG4.out hw0 hqr hgq; clear hown hg5 hgb hcb hmb; obtain ⟨Bn5, HLAY⟩ := HLAY; obtain ⟨_, Cn6, _, Fn6⟩ := box_cells2 Bn5; clear Bn5)
            | (go_simp; go_at_call 51; (with_reducible refine (Cell_any c HC.out _ g F m ad HS.out HB.out (HP1.out.kept (grown_drew (grown_refl _ _))) HMF.out).mono ?_); rw [HO.out]; rintro e w4 (⟨h, _⟩ | ⟨_, _, va, vb, h, rfl, hfa, hfb, hg4, hp4⟩); (cases h); (cases h); have hGd := grown_drew (row := some g) (grown_refl w3 _); have hg9 := grown_sg hGd hg4; have Bg9 := HP1.out.2.2.2.2; have Bn4 := heap_off hg9 HBn.out (by intro e; exact hgq (Option.some.inj e).symm); have gA := World.grownBy_alloc w4 (.cells #[va, vb] 50) none; obtain ⟨_, Cn4, _, _⟩ := box_cells2 Bn4; obtain ⟨_, Cn5, _, _⟩ := box_cells2 (heap_kept gA Bn4); have HIr4 := Lib.hid (OwnCe.kept (OwnCe.grownT HIr.out hg9 Bg9 (by decide) (by decide) (by decide) (by decide)) gA); obtain ⟨ys, hown, hone, hys⟩ := HIr4.out; have HOWN := Lib.hid hown; have HONE := Lib.hid hone; have HYS := Lib.hid hys; have HBS : Hid (w.heap.size ≤ (w4.alloc (.cells #[va, vb] 50)).heap.size) := Lib.hid (Nat.le_trans (grown_sg hG1 hg9).size gA.size); have HFA := Lib.hid hfa; have HFB := Lib.hid hfb; have HG4 := Lib.hid (grown_sg hG1 hg9); have HP4 := Lib.hid hp4; have HBn4 := Lib.hid Bn4; have HBr4 := Lib.hid (heap_off hg9 HBr.out (by intro e; have := Option.some.inj e; omega)); have HF4 := Lib.hid (HF1.out.off hg9 Bg9 (by decide) (by decide)); obtain ⟨sa, ca, rfl, _⟩ := hfa.shape; obtain ⟨sb, cb, rfl, _⟩ := RowP.shape hfb; clear hown hone hys hfa hfb hp4 hg4 hGd))
          all_goals (
            go_wp2_with fail
            go_roundg u.length
            case measure => have := HIL.out; omega
            case rel => obtain ⟨Ir6, Bn6, Br6, hf6, hP6, hG6⟩ := HLAY.out; exact ⟨u, xs ++ [z], _, f, Nat.le_refl _, by have := HIL.out; have := HMF.out; omega, by have := HIL.out; omega, by rw [List.length_append]; have := HIL.out; simp; omega, HX6, by simpa using Ir6, by simpa using Bn6, Br6, hf6, Lib.hid hP6, hG6⟩)
      | false =>
        have HT := HBS5
        have HIr := Lib.hid (OwnP.row Ir1)
        have HBr := Lib.hid Br1
        have HBn := Lib.hid Bn1
        have HF1 := Lib.hid hf1
        have HXE : Hid (endL (cutL l t) (some (xs, m)) = x) := Lib.hid (by rw [← HX1.out, ← HY.out, cells_stop HT.out]; simp [catI])
        have hqb := heap_lt Bn1
        clear Ir1 Br1 Bn1 hf1
        go_wp2_with fail
        refine (Must_new c HC.out w3 g 1 [4] m HP1.out rfl (by decide) (by simp)).mono ?_
        rintro e w4 (⟨hT, rfl, hg1⟩ | ⟨u, hT, rfl, hg1, hp1⟩)
        · have hF : Hid (RetLib c g w x mis w4) := Lib.hid (Or.inl ⟨by rw [← HXE.out]; exact endL_none hT, rfl, grown_sg hG1 hg1⟩)
          clear hT hg1
          go_wp2_with fail
          exact ⟨rfl, hF.out⟩
        · have HXU := HXE.out.symm.trans (endL_some hT)
          have Bg := HP1.out.2.2.2.2
          have Br4 := heap_off hg1 HBr.out (by intro e; have := Option.some.inj e; omega)
          have Bn4 := heap_off hg1 HBn.out (by intro e; exact hgq (Option.some.inj e).symm)
          have Ir4 := CellsT.grownT HIr.out hg1 Bg (by decide) (by decide) (by decide) (by decide)
          have hf4 := HF1.out.off hg1 Bg (by decide) (by decide)
          have hG4 := grown_sg hG1 hg1
          obtain ⟨Cn0, Cn1, _, _⟩ := box_cells2 Bn4
          obtain ⟨_, _, Fr0, Fr1⟩ := box_cells2 Br4
          have gp := grown_put2b (W := w4) (g := w.heap.size) (.slice s1 (cutL l t).length c1) (.slice sv xs.length cv)
          have hG5 := grown_put2 hG4 (Nat.le_refl w.heap.size) (.slice s1 (cutL l t).length c1) (.slice sv xs.length cv)
          have hF : Hid (RetLib c g w x (.returned (.agg #[.slice s1 (cutL l t).length c1, .slice sv xs.length cv])) ((w4.setCell ⟨w.heap.size, 0, none⟩ (.slice s1 (cutL l t).length c1)).setCell ⟨w.heap.size, 1, none⟩ (.slice sv xs.length cv))) :=
            Lib.hid (Or.inr ⟨_, u, _, _, HXU, rfl, hf4.off gp Br4 (by decide) (by decide), CellsT.grownT Ir4 gp Br4 (by decide) (by decide) (by decide) (by decide), hG5, hp1.off gp (by omega) (by omega)⟩)
          have Br5 := heap_set2 Br4 (.slice s1 (cutL l t).length c1) (.slice sv xs.length cv)
          obtain ⟨D0, D1, _, _⟩ := box_cells2 Br5
          clear hT hg1 hp1 Bg Br4 Bn4 Ir4 hf4 gp hG5 hG4 hG1 Br5 HXU
          go_wp2_with fail
          exact bodyPost_ret (v := .agg #[.slice s1 (cutL l t).length c1, .slice sv xs.length cv]) (by simp [results, Try.results30, go_sem, D0, D1]) rfl hF.out
end Go.Proofs.Ytcioefmldcmhgaa
