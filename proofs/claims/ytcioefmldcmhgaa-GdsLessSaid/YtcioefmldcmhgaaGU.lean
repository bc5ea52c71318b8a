/- Streams as trees: what a tree in memory reads as; Parse. -/
import Derived.Test.YtcioefmldcmhgaaGF
import Derived.Test.YtcioefmldcmhgaaKSplit
namespace Go.Proofs.Ytcioefmldcmhgaa
open Go.RowKit
set_option maxRecDepth 100000
set_option linter.unusedVariables false
set_option linter.unusedSimpArgs false

def SlOk (s : Option Addr) (n c : Nat) : Prop := (s = none → n = 0 ∧ c = 0) ∧ n ≤ c ∧ c ≤ 9223372036854775807
def Small (rs : List KRec) : Prop := ∀ r ∈ rs, r.1 < 256 ∧ r.2.1 < 256
/-- A value that is a slice of records which reads so. -/
def RecsV (W : World) (v : Value) (rs : List KRec) : Prop := ∃ s c, v = .slice s rs.length c ∧ RcSl W s rs ∧ SlOk s rs.length c ∧ Small rs
section
variable {α β : Type}
def PairSl (A : World → Value → α → Prop) (B : World → Value → β → Prop) (W : World) (s : Option Addr) (xs : List (α × β)) : Prop :=
  ∀ i (h : i < xs.length), ∃ ad a b, s = some ad ∧ W.cell? (ad.add (i * 2)) = some a ∧ W.cell? (ad.add (i * 2 + 1)) = some b ∧ A W a xs[i].1 ∧ B W b xs[i].2
def PairsV (A : World → Value → α → Prop) (B : World → Value → β → Prop) (W : World) (v : Value) (xs : List (α × β)) : Prop := ∃ s c, v = .slice s xs.length c ∧ PairSl A B W s xs ∧ SlOk s xs.length c
theorem PairSl.kept {A : World → Value → α → Prop} {B : World → Value → β → Prop} {W W' : World} {s : Option Addr} {xs : List (α × β)} (h : PairSl A B W s xs) (hg : W.grownBy W' none) (hA : ∀ u x, A W u x → A W' u x) (hB : ∀ u x, B W u x → B W' u x) : PairSl A B W' s xs := fun i hi => by
  obtain ⟨ad, a, b, e, h1, h2, h3, h4⟩ := h i hi
  exact ⟨ad, a, b, e, hg.cell h1 (by simp), hg.cell h2 (by simp), hA _ _ h3, hB _ _ h4⟩
theorem PairsV.kept {A : World → Value → α → Prop} {B : World → Value → β → Prop} {W W' : World} {v : Value} {xs : List (α × β)} (h : PairsV A B W v xs) (hg : W.grownBy W' none) (hA : ∀ u x, A W u x → A W' u x) (hB : ∀ u x, B W u x → B W' u x) : PairsV A B W' v xs := by
  obtain ⟨s, c, e, h1, h2⟩ := h
  exact ⟨s, c, e, h1.kept hg hA hB, h2⟩
theorem PairSl.at {A : World → Value → α → Prop} {B : World → Value → β → Prop} {W : World} {s : Option Addr} {xs : List (α × β)} (h : PairSl A B W s xs) (i : Nat) (hi : i < xs.length) :
    ∃ (ad q : Addr) (a b : Value), s = some ad ∧ ad.add (i * 2) = q ∧ W.cell? q = some a ∧ W.cell? ⟨q.block, q.off + 1, none⟩ = some b ∧ A W a xs[i].1 ∧ B W b xs[i].2 := by
  obtain ⟨ad, a, b, e, h1, h2, h3, h4⟩ := h i hi
  rw [add_cell1] at h2
  exact ⟨ad, _, a, b, e, rfl, h1, h2, h3, h4⟩
theorem RowP.pairs {te : TypeId} {A A' : World → Value → α → Prop} {B B' : World → Value → β → Prop} {W : World} {v : Value} {xs : List (α × β)} (h : RowP te A B W v xs) (hA : ∀ u x, (∃ y, (x, y) ∈ xs) → A W u x → A' W u x) (hB : ∀ u x, (∃ y, (y, x) ∈ xs) → B W u x → B' W u x) : PairsV A' B' W v xs := by
  rcases h with ⟨rfl, rfl⟩ | ⟨g, cap, cur, rfl, hb, k1, k2, h3⟩
  · exact ⟨none, 0, rfl, fun i hi => by simp at hi, fun _ => ⟨rfl, rfl⟩, Nat.le_refl _, by omega⟩
  · refine ⟨_, cap, rfl, fun i hi => ?_, (fun e => by cases e), k1, k2⟩
    obtain ⟨a, b, a1, a2, a3, a4⟩ := h3 i hi
    exact ⟨_, a, b, rfl, cell_of hb a1, cell_of hb a2, hA _ _ ⟨_, List.getElem_mem hi⟩ a3, hB _ _ ⟨_, List.getElem_mem hi⟩ a4⟩
end
abbrev ItemsV : World → Value → List KItem → Prop := PairsV RecsV RecsV
abbrev CellsV : World → Value → List KCell → Prop := PairsV RecsV ItemsV
/-- A tree in memory. -/
def LibV (W : World) (v : Value) (t : KLib) : Prop := ∃ a b, v = .agg #[a, b] ∧ RecsV W a t.1 ∧ CellsV W b t.2
theorem RecsV.kept {W W' : World} {v : Value} {rs : List KRec} (h : RecsV W v rs) (hg : W.grownBy W' none) : RecsV W' v rs := by
  obtain ⟨s, c, e, h1, h2⟩ := h
  exact ⟨s, c, e, h1.kept hg, h2⟩
theorem ItemsV.kept {W W' : World} {v : Value} {xs : List KItem} (h : ItemsV W v xs) (hg : W.grownBy W' none) : ItemsV W' v xs := PairsV.kept h hg (fun u x hx => hx.kept hg) (fun u x hx => hx.kept hg)
theorem CellsV.kept {W W' : World} {v : Value} {xs : List KCell} (h : CellsV W v xs) (hg : W.grownBy W' none) : CellsV W' v xs := PairsV.kept h hg (fun u x hx => hx.kept hg) (fun u x hx => ItemsV.kept hx hg)
theorem LibV.kept {W W' : World} {v : Value} {t : KLib} (h : LibV W v t) (hg : W.grownBy W' none) : LibV W' v t := by
  obtain ⟨a, b, e, h1, h2⟩ := h
  exact ⟨a, b, e, h1.kept hg, CellsV.kept h2 hg⟩
theorem RowT.recs {w0 W : World} {v : Value} {rs : List KRec} (h : RowT w0 W v rs) (hs : Small rs) : RecsV W v rs := by
  obtain ⟨s, c, rfl, hz, hc, hm⟩ := h.shape
  exact ⟨s, c, rfl, h.sl, ⟨hz, hc, hm⟩, hs⟩
theorem Small.nil : Small [] := fun r h => by simp at h
theorem Small.of {rs ss : List KRec} (h : Small ss) (hs : ∀ r ∈ rs, r ∈ ss) : Small rs := fun r hr => h r (hs r hr)
theorem mem_recI {x : KItem} {r : KRec} (h : r ∈ x.1 ∨ r ∈ x.2) : r ∈ recI x := by
  unfold recI; rcases h with h | h <;> simp [h]
theorem mem_recC {c : KCell} {r : KRec} (h : r ∈ c.1 ∨ ∃ x ∈ c.2, r ∈ recI x) : r ∈ recC c := by
  unfold recC
  rcases h with h | ⟨x, h1, h2⟩
  · simp [h]
  · exact List.mem_append_right _ (List.mem_append_left _ (List.mem_flatMap.2 ⟨x, h1, h2⟩))
theorem mem_recT {t : KLib} {r : KRec} (h : r ∈ t.1 ∨ ∃ c ∈ t.2, r ∈ recC c) : r ∈ recT t := by
  unfold recT
  rcases h with h | ⟨x, h1, h2⟩
  · simp [h]
  · exact List.mem_append_right _ (List.mem_append_left _ (List.mem_flatMap.2 ⟨x, h1, h2⟩))
theorem ItemsT.items {w0 W : World} {v : Value} {xs : List KItem} (h : ItemsT w0 W v xs) (hs : ∀ x ∈ xs, Small (recI x)) : ItemsV W v xs :=
  RowP.pairs h (fun u x ⟨y, hm⟩ hx => hx.recs ((hs _ hm).of fun r hr => mem_recI (Or.inl hr))) (fun u x ⟨y, hm⟩ hx => hx.recs ((hs _ hm).of fun r hr => mem_recI (Or.inr hr)))
theorem CellsT.cells {w0 W : World} {v : Value} {xs : List KCell} (h : CellsT w0 W v xs) (hs : ∀ x ∈ xs, Small (recC x)) : CellsV W v xs :=
  RowP.pairs h (fun u x ⟨y, hm⟩ hx => hx.recs ((hs _ hm).of fun r hr => mem_recC (Or.inl hr))) (fun u x ⟨y, hm⟩ hx => ItemsT.items hx fun z hz => (hs _ hm).of fun r hr => mem_recC (Or.inr ⟨z, hz, hr⟩))
/-- A tree of records that are small. -/
theorem lib_v {w0 W : World} {a b : Value} {t : KLib} (h1 : RowT w0 W a t.1) (h2 : CellsT w0 W b t.2) (hs : Small (recT t)) : LibV W (.agg #[a, b]) t :=
  ⟨a, b, rfl, h1.recs (hs.of fun r hr => mem_recT (Or.inl hr)), CellsT.cells h2 fun c hc => hs.of fun r hr => mem_recT (Or.inr ⟨c, hc, hr⟩)⟩
theorem LibV.nil (W : World) : LibV W (.agg #[.slice none 0 0, .slice none 0 0]) ([], []) :=
  ⟨_, _, rfl, ⟨none, 0, rfl, fun i hi => by simp at hi, ⟨fun _ => ⟨rfl, rfl⟩, Nat.le_refl _, by omega⟩, Small.nil⟩, ⟨none, 0, rfl, fun i hi => by simp at hi, ⟨fun _ => ⟨rfl, rfl⟩, Nat.le_refl _, by omega⟩⟩⟩
/-- What Split's records are. -/
theorem first_small {l : List Nat} (h : ∀ x ∈ l, x < 256) : (firstR l).2.1.1 < 256 ∧ (firstR l).2.1.2.1 < 256 := by
  have key : ∀ i, l.getD i 0 < 256 := fun i => by
    rw [List.getD_eq_getElem?_getD]
    rcases Nat.lt_or_ge i l.length with hi | hi
    · rw [List.getElem?_eq_getElem hi]; exact h _ (List.getElem_mem hi)
    · rw [List.getElem?_eq_none hi]; decide
  unfold firstR
  repeat' split
  all_goals first | (exact ⟨key 2, key 3⟩) | (constructor <;> decide)
theorem sp_small (f : Nat) : ∀ {l : List Nat}, (∀ x ∈ l, x < 256) → Small (spR f l).2.1 := by
  induction f with
  | zero => intro l h; exact Small.nil
  | succ f ih =>
    intro l h
    unfold spR
    repeat' split
    · exact Small.nil
    · intro r hr; simp at hr; subst hr; exact first_small h
    · unfold catS
      split
      · intro r hr
        rcases List.mem_append.1 hr with hr | hr
        · simp at hr; subst hr; exact first_small h
        · exact ih (fun x hx => h x (List.mem_of_mem_drop hx)) r hr
      · exact Small.nil
theorem split_small {l : List Nat} (h : ∀ x ∈ l, x < 256) : Small (splitD l).2.1 := by
  unfold splitD
  split
  · exact sp_small _ h
  · split
    · exact sp_small _ h
    · exact Small.nil
theorem sp_len4 (f : Nat) : ∀ (l : List Nat), 4 * (spR f l).2.1.length ≤ l.length := by
  induction f with
  | zero => intro l; simp [spR]
  | succ f ih =>
    intro l
    unfold spR
    have hl := first_len l
    split
    · simp
    · rename_i h0
      have hp := first_pos (l := l) (by simpa using h0)
      split
      · simp; omega
      · unfold catS
        have := ih (l.drop (firstR l).2.2)
        rw [List.length_drop] at this
        split
        · rw [List.length_append]; simp; omega
        · simp
theorem split_len4 (l : List Nat) : 4 * (splitD l).2.1.length ≤ l.length := by
  unfold splitD
  split
  · exact sp_len4 _ _
  · split
    · exact sp_len4 _ _
    · simp
/-- What Parse answers: the error, the tree, how many bytes. -/
def parseD (l : List Nat) : Nat × KLib × Nat :=
  if (splitD l).1 = 0 then (match libR (splitD l).2.1 with | some (t, _) => (0, t, (splitD l).2.2) | none => (20, ([], []), 0)) else (20, ([], []), 0)
/-- A tree in blocks of its own. -/
def LibT (W : World) (v : Value) (t : KLib) : Prop := ∃ a b, v = .agg #[a, b] ∧ RowT W W a t.1 ∧ CellsT W W b t.2 ∧ Small (recT t)
theorem LibT.v {W : World} {v : Value} {t : KLib} (h : LibT W v t) : LibV W v t := by
  obtain ⟨a, b, rfl, h1, h2, h3⟩ := h
  exact lib_v h1 h2 h3
theorem RowT.any {w0 w1 W : World} {v : Value} {rs : List KRec} (h : RowT w0 W v rs) : RowT w1 W v rs := h
theorem CellsT.any {w0 w1 W : World} {v : Value} {rs : List KCell} (h : CellsT w0 W v rs) : CellsT w1 W v rs := h
theorem LibT.off {W W' : World} {v : Value} {t : KLib} {q : Nat} {cs : Array Value} {te : TypeId} {fz : Nat × Nat} (h : LibT W v t) (hg : W.grownBy W' (some q)) (hq : W.heap[q]? = some (.cells cs te fz)) (h1 : te ≠ 5) (h2 : te ≠ 45) (h3 : te ≠ 55) (h4 : te ≠ 50) : LibT W' v t := by
  obtain ⟨a, b, e, k1, k2, k3⟩ := h
  exact ⟨a, b, e, (k1.off hg hq h1 h2).any, CellsT.any (CellsT.grownT k2 hg hq h1 h2 h3 h4), k3⟩
theorem LibT.kept {W W' : World} {v : Value} {t : KLib} (h : LibT W v t) (hg : W.grownBy W' none) : LibT W' v t := by
  obtain ⟨a, b, e, k1, k2, k3⟩ := h
  exact ⟨a, b, e, (k1.kept hg).any, CellsT.any (CellsT.kept k2 hg), k3⟩
theorem LibT.nil (W : World) : LibT W (.agg #[.slice none 0 0, .slice none 0 0]) ([], []) :=
  ⟨_, _, rfl, Or.inl ⟨rfl, rfl⟩, Or.inl ⟨rfl, rfl⟩, fun r hr => by simp [recT, endE] at hr; subst hr; exact ⟨by decide, by decide⟩⟩
def RetParse (w : World) (x : Nat × KLib × Nat) (e : Ending) (w' : World) : Prop := ∃ v, e = .returned (.tuple #[v, .int .i64 (x.2.2 : Int), .int .i64 (x.1 : Int)]) ∧ LibT w' v x.2.1 ∧ w.grownBy w' none
/-- What lies in the tree's variable behind the parser. -/
def PIn (c : Lst) (qt : Nat) (b : Bool) (w' : World) : Prop :=
  (b = true ∧ ∃ y t u v, libR c.rs = some (y, t) ∧ w'.heap[qt]? = some (.cells #[u, v] 27 (0, 0)) ∧ RowT c.w0 w' u y.1 ∧ CellsT c.w0 w' v y.2) ∨ (b = false ∧ libR c.rs = none)
set_option maxHeartbeats 16000000 in
theorem ParseIn_any (c : Lst) (hc : c.ok) (W : World) (ql qt : Nat) (u0 u1 : Value) (ad : Addr) (hs : c.lies ad) (hbig : c.n ≤ 1099511627776) (h0 : c.w0.grownBy W none) (hqt : c.w0.heap.size ≤ qt)
    (Bl : W.heap[ql]? = some (.cells #[.slice c.s c.n c.cap] 24 (0, 0))) (Bt : W.heap[qt]? = some (.cells #[u0, u1] 27 (0, 0))) :
    Calls Try.prog 28 #[.pointer (some ⟨ql, 0, none⟩), .pointer (some ⟨qt, 0, none⟩)] W (fun e w' => W.grownBy w' (some qt) ∧ ((e = .returned (.tuple #[]) ∧ PIn c qt true w') ∨ (e = mis ∧ PIn c qt false w'))) := by
  obtain ⟨Cl, Fl⟩ := box_cell Bl
  have HC := Lib.hid hc
  have HS := Lib.hid hs
  have HB := Lib.hid hbig
  have HBt := Lib.hid Bt
  have HH0 := Lib.hid h0
  have hqn := heap_lt Bt
  clear hc hs hbig Bl Bt h0
  go_enter Try.func28, Try.ntmps28
  go_wp2_with fail
  refine (Over_any c W HH0.out).mono ?_
  rintro e w1 ⟨rfl, hg1, hp1⟩
  have HP1 := Lib.hid (hp1 HC.out.1)
  have hsz1 := HP1.out.lt
  have Bt1 := heap_kept hg1 HBt.out
  have HG1 := Lib.hid hg1
  clear hg1 hp1 Cl Fl
  go_wp2_with fail
  refine (Library_any c HC.out w1 W.heap.size (c.rs.length + 1) c.rs ad HS.out HB.out HP1.out (Nat.lt_succ_self _)).mono ?_
  rintro e w2 (⟨hT, rfl, hg2⟩ | ⟨y, t, u, v, hT, rfl, hu, hv, hg2, hp2⟩)
  · have hF : Hid (W.grownBy w2 (some qt) ∧ PIn c qt false w2) := Lib.hid ⟨grown_any (grown_new HG1.out hg2 (Nat.le_refl _)), Or.inr ⟨rfl, hT⟩⟩
    clear hT hg2 Bt1
    go_wp2_with fail
    exact ⟨rfl, hF.out.1, Or.inr ⟨rfl, hF.out.2⟩⟩
  · have Bt2 := heap_off hg2 Bt1 (by intro e; have := Option.some.inj e; omega)
    have hG2 := grown_new HG1.out hg2 (Nat.le_refl _)
    obtain ⟨_, _, Ft0, Ft1⟩ := box_cells2 Bt2
    have HU := Lib.hid hu
    have HV := Lib.hid hv
    obtain ⟨sa, ca, rfl, _⟩ := hu.shape
    obtain ⟨sb, cb, rfl, _⟩ := RowP.shape hv
    have gp := grown_put2b (W := w2) (g := qt) (.slice sa y.1.length ca) (.slice sb y.2.length cb)
    have hF : Hid (W.grownBy ((w2.setCell ⟨qt, 0, none⟩ (.slice sa y.1.length ca)).setCell ⟨qt, 1, none⟩ (.slice sb y.2.length cb)) (some qt) ∧ PIn c qt true ((w2.setCell ⟨qt, 0, none⟩ (.slice sa y.1.length ca)).setCell ⟨qt, 1, none⟩ (.slice sb y.2.length cb))) :=
      Lib.hid ⟨grown_trans (grown_any hG2) gp, Or.inl ⟨rfl, y, t, _, _, hT, heap_set2 Bt2 _ _, HU.out.off gp Bt2 (by decide) (by decide), CellsT.grownT HV.out gp Bt2 (by decide) (by decide) (by decide) (by decide)⟩⟩
    clear hT hu hv hg2 hp2 Bt1 Bt2 hG2 gp
    go_wp2_with fail
    first | go_end0 | refine bodyPost_ret (results_none rfl _ _ _) rfl ?_
    exact ⟨hF.out.1, Or.inl ⟨rfl, hF.out.2⟩⟩
end Go.Proofs.Ytcioefmldcmhgaa
