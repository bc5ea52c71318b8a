/- What the laws lean on, part 2. -/
import Derived.Laws.CopyOwn
import Derived.Test.YtgbbdgioohaknaaGreatDoorPb1
namespace Go.Proofs.YtgbbdgioohaknaaGreatDoor
open Go.RowKit Mat
set_option maxRecDepth 100000
set_option linter.unusedVariables false
set_option linter.unusedSimpArgs false
def Sa (sa : Option Addr) (k : Nat) : Option Addr := if k = 0 then none else sa
theorem dA_ {sa : Option Addr} {k : Nat} (h : 0 < k) : Sa sa k = sa := by unfold Sa; rw [if_neg (by omega)]
def ks_ (w : World) (sa : Option Addr) (xs : List Nat) (e : Ending) (w' : World) : Prop :=
 ∃ k, k ≤ xs.length ∧ e = .returned (.slice (Sa sa k) k k) ∧ Top (xs.take k) ∧ val B (xs.take k) = val B xs ∧ w = w'
structure Lm (w : World) (sa : Option Addr) (xs : List Nat) : Prop where
 rd : Rdo w sa xs
 nil : xs = [] → sa = none
 top : Top xs
 dig : Dig B xs
def NatV (w : World) (v : Value) (n : Nat) : Prop := ∃ (sa : Option Addr) (xs : List Nat), v = .agg #[.slice sa xs.length xs.length] ∧ Lm w sa xs ∧ val B xs = n
theorem Rdo.kept {w w' : World} {sa : Option Addr} {xs : List Nat} (h : Rdo w sa xs) (hg : w.grownBy w' none) : Rdo w' sa xs := by
 rcases h with h | ⟨b, off, cs, e, h1, h2⟩
 · exact Or.inl h
 · exact Or.inr ⟨b, off, cs, e, h1.kept hg (by simp), h2⟩
theorem Rdo.take {w : World} {sa : Option Addr} {xs : List Nat} (h : Rdo w sa xs) (k : Nat) : Rdo w (Sa sa k) (xs.take k) := by
 by_cases hk : k = 0
 · subst hk; exact Or.inl rfl
 · rw [dA_ (by omega)]
   rcases h with h | ⟨b, off, cs, e, h1, h2⟩
   · exact Or.inl (by rw [h]; simp)
   · exact Or.inr ⟨b, off, cs, e, h1, h2.take k⟩
theorem Lm.kept {w w' : World} {sa : Option Addr} {xs : List Nat} (h : Lm w sa xs) (hg : w.grownBy w' none) : Lm w' sa xs := ⟨h.rd.kept hg, h.nil, h.top, h.dig⟩
theorem NatV.kept {w w' : World} {v : Value} {n : Nat} (h : NatV w v n) (hg : w.grownBy w' none) : NatV w' v n := by
 obtain ⟨sa, xs, e, h1, h2⟩ := h
 exact ⟨sa, xs, e, h1.kept hg, h2⟩
theorem NatV.drewN {w : World} {v : Value} {n : Nat} (h : NatV w v n) (q : Nat) : NatV (w.drewN q) v n := h.kept (v_ _ _ _)
theorem Rdo.beside {w : World} {sa : Option Addr} {xs : List Nat} (h : Rdo w sa xs) {g : Nat} (hg : w.heap.size ≤ g) : Rd w sa xs g := by
 rcases h with h | ⟨b, off, cs, e, h1, h2⟩
 · exact Or.inl h
 · exact Or.inr ⟨b, off, cs, e, by have := h1.lt; omega, h1, h2⟩
theorem Rd.kept {w w' : World} {sa : Option Addr} {xs : List Nat} {g : Nat} (h : Rd w sa xs g) (hg : w.grownBy w' (some g)) : Rd w' sa xs g := by
 rcases h with h | ⟨b, off, cs, e, hne, h1, h2⟩
 · exact Or.inl h
 · exact Or.inr ⟨b, off, cs, e, hne, h1.kept hg (by simpa using hne), h2⟩
theorem Rd.kept_none {w w' : World} {sa : Option Addr} {xs : List Nat} {g : Nat} (h : Rd w sa xs g) (hg : w.grownBy w' none) : Rd w' sa xs g := h.kept (eg_ hg)
theorem Rdo.of {w : World} {b off : Nat} {cs : Array Value} {xs : List Nat} (h : Blk w b cs) (k : At cs off xs) : Rdo w (some ⟨b, off, none⟩) xs := Or.inr ⟨b, off, cs, rfl, h, k⟩
def bK_ (w : World) (n : Nat) (e : Ending) (w' : World) : Prop := ∃ v, e = .returned v ∧ NatV w' v n ∧ w.grownBy w' none
theorem fa_ (xs : List Nat) (k : Nat) (hk : k < xs.length) (h : xs[k] ≠ 0) : Top (xs.take (k + 1)) := by
 intro x hx
 rw [List.take_succ_eq_append_getElem hk, List.getLast?_append] at hx
 simp at hx
 rw [← hx]; exact h
set_option maxHeartbeats 1000000 in
theorem je_ (w : World) (sa : Option Addr) (cap : Nat) (xs : List Nat) (hx : Rdo w sa xs) (hn : xs.length ≤ 1099511627776) (hcap : xs.length ≤ cap) :
    Calls Tryz.prog 103 #[.slice sa xs.length cap] w (ks_ w sa xs) := by
 generalize hl : xs.length = n at *
 have Hn := H_ hl
 clear hl
 go_enter Tryz.func103, Tryz.ntmps103
 go_wp2_with fail
 go_loopw [3] (fun i wr => ∃ (k : Nat), k ≤ n ∧ i = .int .i64 k ∧ w = wr ∧ Hid (val B (xs.take k) = val B xs)) (fun i _ => (intOf i).toNat)
 case atStart => exact ⟨n, Nat.le_refl _, rfl, rfl, by show _ = _; rw [← Hn.out, List.take_length]⟩
 case round =>
  obtain ⟨k, hk, rfl, rfl, hv⟩ := hrel
  by_cases h0 : k = 0
  · subst h0
    have HF : Hid (ks_ w sa xs (.returned (.slice (Sa sa 0) 0 0)) w) := ⟨0, Nat.zero_le _, rfl, by intro x hx; simp at hx, hv.out, rfl⟩
    go_wp2_with fail
    go_ret
    exact HF
  · obtain ⟨j, rfl⟩ : ∃ j, k = j + 1 := ⟨k - 1, by omega⟩
    clear h0
    obtain ⟨b1, o1, rfl, c1⟩ := hx.cell (by rw [Hn.out]; omega)
    have c1 := c1 j (by rw [Hn.out]; omega)
    obtain ⟨x, ex⟩ : ∃ x, xs[j]'(by rw [Hn.out]; omega) = x := ⟨_, rfl⟩
    rw [ex] at c1
    have EX := H_ ex
    clear ex
    by_cases hz : x = 0
    · subst hz
      go_wp2_with fail
      go_roundw
      case rel => exact ⟨j, by omega, by go_num, by trivial, by show _ = _; rw [← hv.out, w_ B xs j (by rw [Hn.out]; omega), EX.out]; omega⟩
      case measure => simp [intOf]
    · have t : ((x : Int) == 0) = false := beq_eq_false_iff_ne.2 (by omega)
      have HF : Hid (ks_ w (some ⟨b1, o1, none⟩) xs (.returned (.slice (some ⟨b1, o1, none⟩) (j + 1) (j + 1))) w) :=
       ⟨j + 1, by rw [Hn.out]; omega, rfl, fa_ xs j (by rw [Hn.out]; omega) (by rw [EX.out]; exact hz), hv.out, rfl⟩
      have t2 : ((j : Int) + 1 == 0) = false := beq_eq_false_iff_ne.2 (by omega)
      go_wp2_with fail
      go_ret
      exact HF
def kE_ (w : World) (sa : Option Addr) (n : Nat) (e : Ending) (w' : World) : Prop :=
 ∃ (s : Option Addr) (zs : List Nat), e = .returned (.agg #[.slice s zs.length zs.length]) ∧ Lm w' s zs ∧ val B zs = n ∧ (s = none ∨ s = sa) ∧ w.grownBy w' none
def RetFresh (w : World) (n : Nat) (e : Ending) (w' : World) : Prop :=
 ∃ (s : Option Addr) (zs : List Nat), e = .returned (.agg #[.slice s zs.length zs.length]) ∧ Lm w' s zs ∧ val B zs = n ∧ (∀ ad, s = some ad → w.heap.size ≤ ad.block) ∧ w.grownBy w' none
theorem RetFresh.nat {w : World} {n : Nat} {e : Ending} {w' : World} (h : RetFresh w n e w') : bK_ w n e w' := by
 obtain ⟨s, zs, e1, h1, h2, _, h3⟩ := h
 exact ⟨_, e1, ⟨s, zs, rfl, h1, h2⟩, h3⟩
set_option maxHeartbeats 1000000 in
theorem iB_ (w : World) (sa : Option Addr) (cap : Nat) (xs : List Nat) (hx : Rdo w sa xs) (hn : xs.length ≤ 1099511627776) (hcap : xs.length ≤ cap) (dx : Dig B xs) :
    Calls Tryz.prog 95 #[.slice sa xs.length cap] w (kE_ w sa (val B xs)) := by
 go_enter Tryz.func95, Tryz.ntmps95
 go_wp2_with fail
 refine (je_ _ sa cap xs (hx.kept (wg_ _ _ _)) hn hcap).mono ?_
 rintro e w' ⟨k, hk, rfl, ht, hv, rfl⟩
 go_wp2_with fail
 refine bodyPost_ret (v := .agg #[.slice (Sa sa k) k k]) (by simp [results, Tryz.results95, go_sem]) rfl ?_
 have hlen : (xs.take k).length = k := by rw [List.length_take]; omega
 refine ⟨Sa sa k, xs.take k, by rw [hlen], ⟨?_, ?_, ht, dx.take k⟩, hv, ?_, ?_⟩
 · exact (hx.take k).kept (by repeat (first | exact wg_ _ _ _ | exact h_ _ _ | refine l_ ?_ _))
 · intro h; rw [h] at hlen; simp at hlen; rw [← hlen]; rfl
 · unfold Sa; split
   · exact Or.inl rfl
   · exact Or.inr rfl
 · exact wg_ _ _ _
theorem iE_ (w : World) (sa : Option Addr) (cap : Nat) (xs : List Nat) (hx : Rdo w sa xs) (hn : xs.length ≤ 1099511627776) (hcap : xs.length ≤ cap) (dx : Dig B xs) :
    Calls Tryz.prog 95 #[.slice sa xs.length cap] w (bK_ w (val B xs)) := by
 refine (iB_ w sa cap xs hx hn hcap dx).mono ?_
 rintro e w' ⟨s, zs, e1, h1, h2, _, h3⟩
 exact ⟨_, e1, ⟨s, zs, rfl, h1, h2⟩, h3⟩
theorem en_ (w : World) (cs : Array Value) : Blk (w.alloc (.cells cs 96)) w.heap.size cs := by
 show (w.heap.push _)[w.heap.size]? = _
 simp
theorem ga_ (w : World) (cs : Array Value) (g : Nat) (h : g = w.heap.size) : Blk (w.alloc (.cells cs 96)) g cs := by subst h; exact en_ w cs
theorem jO_ {W w' : World} (hg : W.grownBy w' none) {a : Addr} {v : Value} (h : W.cell? a = some v) (f : W.frozen? a = false) : w'.cell? a = some v ∧ w'.frozen? a = false := by
 have hlt : a.block < W.heap.size := by
  rcases Nat.lt_or_ge a.block W.heap.size with h1 | h1
  · exact h1
  · simp [World.cell?, Array.getElem?_eq_none h1] at h
 exact ⟨hg.cell h (by simp), (World.frozen?_of_block (w := W) (hg.block a.block hlt (by simp))).trans f⟩
theorem Blk.set_other {w : World} {b g : Nat} {cs c : Array Value} {t : TypeId} (h : Blk w b cs) (hbox : w.heap[g]? = some (.cells c t (0, 0))) (ht : t ≠ 96) (o : Nat) (u : Value) : Blk (w.setCell ⟨g, o, none⟩ u) b cs := by
 unfold Blk at *
 rw [Below.heap_setCell _ _ _ _ (by rintro rfl; rw [hbox] at h; simp at h; exact ht h.2)]
 exact h
theorem Rdo.set_other {w : World} {sa : Option Addr} {xs : List Nat} {g : Nat} {c : Array Value} {t : TypeId} (h : Rdo w sa xs) (hbox : w.heap[g]? = some (.cells c t (0, 0))) (ht : t ≠ 96) (o : Nat) (u : Value) : Rdo (w.setCell ⟨g, o, none⟩ u) sa xs := by
 rcases h with h | ⟨b, off, cs, e, h1, h2⟩
 · exact Or.inl h
 · exact Or.inr ⟨b, off, cs, e, h1.set_other hbox ht o u, h2⟩
theorem Lm.set_other {w : World} {sa : Option Addr} {xs : List Nat} {g : Nat} {c : Array Value} {t : TypeId} (h : Lm w sa xs) (hbox : w.heap[g]? = some (.cells c t (0, 0))) (ht : t ≠ 96) (o : Nat) (u : Value) : Lm (w.setCell ⟨g, o, none⟩ u) sa xs := ⟨h.rd.set_other hbox ht o u, h.nil, h.top, h.dig⟩
theorem NatV.set_other {w : World} {v : Value} {n : Nat} {g : Nat} {c : Array Value} {t : TypeId} (h : NatV w v n) (hbox : w.heap[g]? = some (.cells c t (0, 0))) (ht : t ≠ 96) (o : Nat) (u : Value) : NatV (w.setCell ⟨g, o, none⟩ u) v n := by
 obtain ⟨sa, xs, e, h1, h2⟩ := h
 exact ⟨sa, xs, e, h1.set_other hbox ht o u, h2⟩
theorem a_ {w w' : World} {g : Nat} {o : Obj} (hg : w.grownBy w' none) (h : w.heap[g]? = some o) : w'.heap[g]? = some o :=
 (hg.block g (Array.getElem?_eq_some_iff.1 h).1 (by simp)).trans h
theorem f_ (w : World) (o : Obj) (g : Nat) (h : g = w.heap.size) : (w.alloc o).heap[g]? = some o := by
 subst h; show (w.heap.push o)[w.heap.size]? = _; simp
theorem dU_ {w w' : World} {sa : Option Addr} {xs : List Nat} {n g : Nat} {c : Array Value} {t : TypeId} (hg : w.grownBy w' none) (hbox : w'.heap[g]? = some (.cells c t (0, 0))) (ht : t ≠ 96) (hl : w.heap.size ≤ g) (h : Lm w' sa xs) (hv : val B xs = n) (u : Value) :
    bK_ w n (.returned (.agg #[.slice sa xs.length xs.length])) (w'.setCell ⟨g, 0, none⟩ u) :=
 ⟨_, rfl, ⟨sa, xs, rfl, h.set_other hbox ht 0 u, hv⟩, s_ hg (q_ (h_ _ _) _ _) hl⟩
set_option maxHeartbeats 1000000 in
theorem jm_ (w : World) (n : Nat) (hn : n < B) :
    Calls Tryz.prog 71 #[.int .u64 (n : Int)] w (bK_ w n) := by
 have hb := ga_ (w.alloc (.cells #[.slice none 0 0] 24)) #[.int .u64 (n : Int)] (w.heap.size + 1) (by simp)
 have hat : At #[.int .u64 (n : Int)] 0 [n] := fun i hi => by
  obtain rfl : i = 0 := by simpa using hi
  rfl
 have Hv := H_ (show val B [n] = n by simp [val])
 go_enter Tryz.func71, Tryz.ntmps71
 go_wp2_with fail
 refine (iE_ _ _ _ [n] (Rdo.of hb hat) (by simp) (by simp) (Dig.cons hn (Dig.nil _))).mono ?_
 rintro e w' ⟨v, rfl, ⟨sa, xs, rfl, hl, hv⟩, hg⟩
 obtain ⟨hc, hf⟩ := jO_ hg (a := ⟨w.heap.size, 0, none⟩) (v := .slice none 0 0) (by go_simp) (by go_simp)
 have hb2 := a_ hg (Below.heap_alloc _ _ w.heap.size (by simp) |>.trans (f_ w (.cells #[.slice none 0 0] 24) _ rfl))
 have hF := H_ (dU_ (w := w) (d_ (l_ (wg_ _ _ _) _) hg) hb2 (by decide) (Nat.le_refl _) hl hv (.slice sa xs.length xs.length))
 rw [Hv.out] at hF
 clear hv hb2
 go_wp2_with fail
 exact bodyPost_ret (v := .agg #[.slice sa xs.length xs.length]) (by simp [results, Tryz.results71, go_sem, hc]) rfl hF.out
def kI_ (w : World) (xs : List Nat) (e : Ending) (w' : World) : Prop :=
 ∃ (g cap : Nat) (cs : Array Value), e = .returned (.slice (some ⟨g, 0, none⟩) xs.length cap) ∧ w.heap.size ≤ g ∧ Blk w' g cs ∧ At cs 0 xs ∧ xs.length ≤ cap ∧ w.grownBy w' none
theorem er_ (w : World) : Calls Tryz.prog 101 #[.slice none 0 0] w fun e w' => e = .returned (.slice none 0 0) ∧ w = w' := by
 have hnil := fun w a l c => Lib.run_eql_slice_nil (P := Tryz.prog) w 22 96 a l c 0 0 Tryz.underlying22
 go_enter Tryz.func101, Tryz.ntmps101
 go_wp2_with fail
 go_ret
 exact ⟨rfl, rfl⟩
theorem Tryz.infoU64 : (Tryz.prog.info? 96).map (fun i => (i.zero, i.size, i.bytes)) = some (some (.int .u64 0), 1, 8) := by kernel_rfl
theorem iC_ {w : World} {base : Nat} {v : Value} {xs : List Nat} (h : w.ownsRow base 96 1 v xs.length (xs.map fun x : Nat => Value.int .u64 (x : Int))) (h0 : 0 < xs.length) :
    ∃ (g cap : Nat) (cs : Array Value), v = .slice (some ⟨g, 0, none⟩) xs.length cap ∧ base ≤ g ∧ Blk w g cs ∧ At cs 0 xs ∧ xs.length ≤ cap ∧ cs.size = cap := by
 obtain ⟨_, ⟨_, h⟩ | ⟨g, cap, cur, hv, hg, hh, hle, hm, hs, ht⟩⟩ := h
 · omega
 · refine ⟨g, cap, cur, hv, hg, hh, ?_, hle, by simpa using hs⟩
   intro i hi
   have e1 : (cur.toList.take (xs.length * 1))[i]? = some (.int .u64 (xs[i] : Int)) := by rw [ht]; simp [hi]
   rw [List.getElem?_take_of_lt (by omega)] at e1
   simpa using e1
set_option maxHeartbeats 1000000 in
theorem gd_ (w : World) (b off cap : Nat) (cs : Array Value) (xs : List Nat) (hb : Blk w b cs) (hx : At cs off xs) (h0 : 0 < xs.length) (hn : xs.length ≤ 1099511627776) :
    Calls Tryz.prog 101 #[.slice (some ⟨b, off, none⟩) xs.length cap] w (kI_ w xs) := by
 obtain ⟨i0, hi, hz0, hz1, hz2⟩ := info_parts Tryz.infoU64
 have hnil := fun w a l c => Lib.run_eql_slice_nil (P := Tryz.prog) w 22 96 a l c 0 0 Tryz.underlying22
 go_enter Tryz.func101, Tryz.ntmps101
 have hat : ∀ j u, (xs.map fun x : Nat => Value.int .u64 (x : Int))[j]? = some u → w.cell? ((⟨b, off, none⟩ : Addr).add j) = some u := by
  intro j u hj
  rw [List.getElem?_map] at hj
  cases e : xs[j]? with
  | none => rw [e] at hj; cases hj
  | some x =>
   rw [e] at hj
   obtain ⟨hlt, ex⟩ := List.getElem?_eq_some_iff.1 e
   have := hb.at hx j hlt
   have e2 : (⟨b, off, none⟩ : Addr).add j = ⟨b, off + j, none⟩ := by unfold Addr.add; split <;> simp_all
   rw [e2, this, ex]; exact hj
 go_wp2_with (at_builtin; refine wpList_append_own _ rfl _ _ 22 rfl w.heap.size 96 i0 (.int .u64 0) 1 8 Tryz.underlying22 hi hz0 hz1 hz2 rfl (by decide) _ 0 [] rfl (World.ownsRow_made w #[] 0 (Nat.le_refl _) (by unfold maxLen; omega) rfl) ⟨b, off, none⟩ xs.length cap (xs.map fun x : Nat => Value.int .u64 (x : Int)) rfl (by simp) ?h1 ?h2 ?h3 ?h4 ?h5 ?_)
 case h1 => intro j u hj; exact (wg_ w (.cells #[] 96) none).cell (hat j u hj) (by simp)
 case h2 => intro u hu; simp at hu; obtain ⟨a, _, rfl⟩ := hu; rfl
 case h3 => unfold maxLen; omega
 case h4 => omega
 case h5 => simp
 intro v' w1 hown hgrow _
 obtain ⟨g, cap', cs', hv', hge, hbk, hat', hle, _⟩ := iC_ (base := w.heap.size) (xs := xs) (by simpa using hown) h0
 have HV := H_ hv'
 have hg2 : w.grownBy w1 none := s_ (wg_ w (.cells #[] 96) none) hgrow (Nat.le_refl _)
 clear hown hv' hgrow hat hb
 go_wp2_with fail
 go_ret
 exact ⟨g, cap', cs', by show Ending.returned v' = _; rw [HV.out], hge, hbk, hat', hle, hg2⟩
theorem cn_ {w : World} {g n : Nat} (h : w.ownsRow g 96 1 (.slice (some ⟨g, 0, none⟩) n n) n (madeCells #[.int .u64 0] (n * 1)).toList) :
    ∃ cs, Blk w g cs ∧ cs.size = n ∧ At cs 0 (List.replicate n 0) := by
 obtain ⟨_, ⟨h, _⟩ | ⟨g', cap, cur, hv, hg, hh, hle, hm, hs, ht⟩⟩ := h
 · cases h
 · simp only [Value.slice.injEq, Option.some.injEq, Addr.mk.injEq] at hv
   obtain ⟨⟨rfl, _⟩, _, rfl⟩ := hv
   refine ⟨cur, hh, by simpa using hs, ?_⟩
   intro i hi
   rw [List.length_replicate] at hi
   have e1 : (cur.toList.take (n * 1))[i]? = some (.int .u64 0) := by
    rw [ht, Array.getElem?_toList]
    simp [madeCells, hi]
    rw [Nat.mod_one]; rfl
   rw [List.getElem?_take_of_lt (by omega)] at e1
   simpa using e1
theorem jh_ {cs : Array Value} {xs : List Nat} {m : Nat} (h : At cs 0 (List.replicate m 0)) (hm : cs.size = m) (hl : xs.length ≤ m) :
    At (splice cs.toList 0 (xs.map fun x : Nat => Value.int .u64 (x : Int))).toArray 0 (xs ++ List.replicate (m - xs.length) 0) := by
 intro i hi
 simp only [List.length_append, List.length_replicate] at hi
 simp only [splice, List.take_zero, List.nil_append, Nat.zero_add, List.length_map]
 rw [List.getElem?_toArray]
 by_cases h2 : i < xs.length
 · rw [List.getElem?_append_left (by simpa using h2), List.getElem_append_left h2]; simp [h2]
 · rw [List.getElem?_append_right (by simpa using h2), List.getElem_append_right (by omega)]
   have := h i (by simp; omega)
   simp only [Nat.zero_add, List.getElem_replicate] at this
   simp only [List.length_map, List.getElem?_drop, List.getElem_replicate]
   rw [show xs.length + (i - xs.length) = i from by omega]
   simpa using this
theorem Lm.len {w : World} {sa : Option Addr} {xs : List Nat} (h : Lm w sa xs) {K : Nat} (hK : val B xs < B ^ K) : xs.length ≤ K := by
 rcases Nat.lt_or_ge K xs.length with h1 | h1
 · have h2 := eH_ B xs (by rintro rfl; simp at h1) h.top
   have h3 : B ^ K ≤ B ^ (xs.length - 1) := Nat.pow_le_pow_right T_ (by omega)
   omega
 · exact h1
theorem iO_ {w : World} {b off : Nat} {cs : Array Value} {xs : List Nat} (hb : Blk w b cs) (hx : At cs off xs) :
    ∀ j u, (xs.map fun x : Nat => Value.int .u64 (x : Int))[j]? = some u → w.cell? ((⟨b, off, none⟩ : Addr).add j) = some u := by
 intro j u hj
 rw [List.getElem?_map] at hj
 cases e : xs[j]? with
 | none => rw [e] at hj; cases hj
 | some x =>
  rw [e] at hj
  obtain ⟨hlt, ex⟩ := List.getElem?_eq_some_iff.1 e
  have := hb.at hx j hlt
  have e2 : (⟨b, off, none⟩ : Addr).add j = ⟨b, off + j, none⟩ := by unfold Addr.add; split <;> simp_all
  rw [e2, this, ex]; exact hj
theorem iF_ (xs : List Nat) : ∀ v ∈ (xs.map fun x : Nat => Value.int .u64 (x : Int)), v.oneCell' = true := by
 intro u hu; simp at hu; obtain ⟨a, _, rfl⟩ := hu; rfl
theorem hf_ (w : World) (b off n cap : Nat) (xs : List Nat) (cs : Array Value) (sa : Option Addr) (m cap2 : Nat) (ys : List Nat) (hn : xs.length = n) (hmm : ys.length = m)
    (hb : Blk w b cs) (hx : At cs off xs) (hs : Rd w sa ys b) (hl : m ≤ n) (hm : n ≤ 1099511627776) (dx : Dig B xs) (dy : Dig B ys) :
    Calls Tryz.prog 129 #[.slice (some ⟨b, off, none⟩) n cap, .slice sa m cap2] w (gF_ w b off xs ys cs) := by
 subst hn; subst hmm; exact ji_ w b off cap xs cs sa cap2 ys hb hx hs hl hm dx dy
theorem cy_ (w : World) (b off n cap : Nat) (xs : List Nat) (cs : Array Value) (sa : Option Addr) (m cap2 : Nat) (ys : List Nat) (hn : xs.length = n) (hmm : ys.length = m)
    (hb : Blk w b cs) (hx : At cs off xs) (hs : Rd w sa ys b) (hl : m ≤ n) (hm : n ≤ 1099511627776) (dx : Dig B xs) (dy : Dig B ys) (hle : val B ys ≤ val B xs) :
    Calls Tryz.prog 130 #[.slice (some ⟨b, off, none⟩) n cap, .slice sa m cap2] w (fw_ w b off xs ys cs) := by
 subst hn; subst hmm; exact fG_ w b off cap xs cs sa cap2 ys hb hx hs hl hm dx dy hle
theorem ee_ (w : World) (sa : Option Addr) (n cap : Nat) (xs : List Nat) (hl : xs.length = n) (hx : Rdo w sa xs) (hn : n ≤ 1099511627776) (hcap : n ≤ cap) (dx : Dig B xs) :
    Calls Tryz.prog 95 #[.slice sa n cap] w (bK_ w (val B xs)) := by
 subst hl; exact iE_ w sa cap xs hx hn hcap dx
theorem eL_ (w : World) (sa : Option Addr) (n cap : Nat) (xs : List Nat) (hl : xs.length = n) (hx : Rdo w sa xs) (hn : n ≤ 1099511627776) (hcap : n ≤ cap) (dx : Dig B xs) :
    Calls Tryz.prog 95 #[.slice sa n cap] w (kE_ w sa (val B xs)) := by
 subst hl; exact iB_ w sa cap xs hx hn hcap dx
theorem gQ_ {w w' : World} {sa : Option Addr} {xs : List Nat} {n g : Nat} {c : Array Value} {t : TypeId} (hg : w.grownBy w' none) (hbox : w'.heap[g]? = some (.cells c t (0, 0))) (ht : t ≠ 96) (hl : w.heap.size ≤ g) (h : Lm w' sa xs) (hv : val B xs = n) (hf : ∀ ad, sa = some ad → w.heap.size ≤ ad.block) (u : Value) :
    RetFresh w n (.returned (.agg #[.slice sa xs.length xs.length])) (w'.setCell ⟨g, 0, none⟩ u) :=
 ⟨sa, xs, rfl, h.set_other hbox ht 0 u, hv, hf, s_ hg (q_ (h_ _ _) _ _) hl⟩
theorem gY_ {s : Option Addr} {g n : Nat} (h : s = none ∨ s = some ⟨g, 0, none⟩) (hg : n ≤ g) : ∀ ad, s = some ad → n ≤ ad.block := by
 intro ad e
 rcases h with h | h
 · rw [h] at e; cases e
 · rw [h] at e; cases e; exact hg
theorem dz_ (w : World) (sa : Option Addr) (n cap : Nat) (xs : List Nat) (hl : xs.length = n) (hx : Rdo w sa xs) (hn : n ≤ 1099511627776) (hcap : n ≤ cap) :
    Calls Tryz.prog 103 #[.slice sa n cap] w (ks_ w sa xs) := by
 subst hl; exact je_ w sa cap xs hx hn hcap
theorem dO_ (w : World) (b off n cap : Nat) (cs : Array Value) (xs : List Nat) (hl : xs.length = n) (hb : Blk w b cs) (hx : At cs off xs) (h0 : 0 < n) (hn : n ≤ 1099511627776) :
    Calls Tryz.prog 101 #[.slice (some ⟨b, off, none⟩) n cap] w (kI_ w xs) := by
 subst hl; exact gd_ w b off cap cs xs hb hx h0 hn
theorem Blk.raw {w : World} {b : Nat} {cs : Array Value} (h : Blk w b cs) : w.heap[b]? = some (.cells cs.toList.toArray 96 (0, 0)) := h
theorem kl_ {w : World} {ls : Option Addr} {lx : List Nat} (h : Rdo w ls lx) (g : Nat) : 0 < (lx.map fun x : Nat => Value.int .u64 (x : Int)).length →
    some (⟨g, 0, none⟩ : Addr) = some ⟨g, 0, none⟩ ∧ ∃ ad, ls = some ad ∧ ∀ j v, (lx.map fun x : Nat => Value.int .u64 (x : Int))[j]? = some v → w.cell? (ad.add j) = some v := by
 intro h0
 obtain ⟨b, off, cs, rfl, h1, h2⟩ := h.get 0 (by simpa using h0)
 exact ⟨rfl, _, rfl, iO_ h1 h2⟩
theorem km_ {lx : List Nat} {n m : Nat} (hn : lx.length = n) (h : n ≤ m) : (lx.map fun x : Nat => Value.int .u64 (x : Int)).length = Nat.min n m := by
 rw [List.length_map, hn]; exact (Nat.min_eq_left h).symm
theorem kn_ {lx : List Nat} {n m : Nat} {cs : Array Value} (hn : lx.length = n) (hs : cs.size = m) (h : n ≤ m) : 0 + (lx.map fun x : Nat => Value.int .u64 (x : Int)).length ≤ cs.toList.length := by
 rw [List.length_map, hn, Array.length_toList, hs]; omega
theorem M_ {w w1 w2 : World} {g : Nat} (h : w.grownBy w1 none) (k : Below g w1 w2) (hg : w.heap.size ≤ g) : w.grownBy w2 none :=
 ⟨k.os.trans h.os, k.tape.trans h.tape, k.output.trans h.output, Nat.le_trans h.size k.size, fun i hi hr => (k.block i (by omega)).trans (h.block i hi hr)⟩
theorem am_ {w w' : World} {g b : Nat} {o : Obj} (k : Below g w w') (h : w.heap[b]? = some o) (hb : b < g) : w'.heap[b]? = some o := (k.block b hb).trans h
theorem aN_ {w w' : World} {g b : Nat} {o : Obj} (k : w.grownBy w' (some g)) (h : w.heap[b]? = some o) (hb : b ≠ g) : w'.heap[b]? = some o := (k.block b (Array.getElem?_eq_some_iff.1 h).1 (by simpa using hb)).trans h
theorem j_ {w : World} {g : Nat} {v : Value} {t : TypeId} (h : w.heap[g]? = some (.cells #[v] t (0, 0))) : w.cell? ⟨g, 0, none⟩ = some v ∧ w.frozen? ⟨g, 0, none⟩ = false := by
 constructor <;> simp [World.cell?, World.frozen?, h]
theorem kM_ (xs : List Nat) : val B (xs ++ [0]) = val B xs := by rw [G_]; simp
theorem jf_ {xs ys zs : List Nat} {c n : Nat} (dx : Dig B xs) (dy : Dig B ys) (hx : xs.length ≤ n) (hy : ys.length ≤ n) (h : val B zs + c * B ^ (n + 1) = val B (xs ++ [0]) + val B ys) : val B zs = val B xs + val B ys := by
 have h1 := ba_ B xs dx
 have h2 := ba_ B ys dy
 have h3 : B ^ xs.length ≤ B ^ n := Nat.pow_le_pow_right T_ hx
 have h4 : B ^ ys.length ≤ B ^ n := Nat.pow_le_pow_right T_ hy
 have h5 : B ^ (n + 1) = B ^ n * B := Nat.pow_succ ..
 have h6 : B ^ n * 2 ≤ B ^ n * B := Nat.mul_le_mul_left _ (by unfold B; omega)
 rw [kM_] at h
 rcases Nat.eq_zero_or_pos c with rfl | hc
 · simpa using h
 · have : 1 * B ^ (n + 1) ≤ c * B ^ (n + 1) := Nat.mul_le_mul_right _ hc
   omega
theorem kQ_ : (Tryz.prog.info? 96).map (·.size) = some 1 := by kernel_rfl
set_option maxHeartbeats 2000000 in
theorem hl_ (w : World) (ls ss : Option Addr) (lx sx : List Nat) (va vb : Value) (hl : Lm w ls lx) (hs : Lm w ss sx) (n m : Nat) (hn : lx.length = n) (hm : sx.length = m) (hmn : m ≤ n) (hb : n ≤ 1073741824)
    (hor : (va = .agg #[.slice ls n n] ∧ vb = .agg #[.slice ss m m] ∧ ¬ n < m) ∨ (va = .agg #[.slice ss m m] ∧ vb = .agg #[.slice ls n n] ∧ m < n)) :
    Calls Tryz.prog 113 #[va, vb] w (RetFresh w (val B lx + val B sx)) := by
 have Hn := H_ hn
 have Hm := H_ hm
 clear hn hm
 obtain ⟨i0, hi, hz0, hz1, hz2⟩ := info_parts Tryz.infoU64
 rcases hor with ⟨rfl, rfl, ho⟩ | ⟨rfl, rfl, ho⟩
 all_goals
  go_enter Tryz.func113, Tryz.ntmps113
  go_wp2_with fail
  go_quiet (fail)
  go_wp2_with (first | (at_make; refine wpList_make_full _ rfl _ _ 22 rfl _ 96 i0 (.int .u64 0) 1 Tryz.underlying22 hi hz0 hz1 .i64 .i64 _ _ (n + 1) rfl rfl (by omega) (by omega) (by rw [hz2]; omega) (by unfold maxLen; omega) (Nat.le_refl _) ?_; intro w1 hown hg1; obtain ⟨cs, hb1, hsz, hat⟩ := cn_ hown; have HS := H_ hsz; clear hsz hown; simp only [World.heap_drewN, World.size_alloc] at hb1; have hgw := d_ (d_ (l_ (l_ (wg_ w _ _) _) _) (v_ _ _ none)) hg1; have hbox1 := a_ hg1 (f_ ((w.alloc _).alloc _) _ (w.heap.size + 1 + 1) (by simp))) | (with_reducible show wpList _ _ _ _ _ _; refine wpList_copy_splice (o := ⟨some 25, _, _, _, _, _⟩) rfl _ _ _ _ rfl 96 Tryz.underlying22 kQ_ _ _ _ _ _ _ rfl rfl _ 0 cs.toList 96 hb1.raw (lx.map fun x : Nat => Value.int .u64 (x : Int)) (km_ Hn.out (Nat.le_succ n)) (kl_ (hl.rd.kept hgw) _) (kn_ Hn.out HS.out (Nat.le_succ n)) (iF_ _) (w.heap.size + 1 + 1 + 1) w1 (Below.refl _ _) (Nat.le_refl _) ?_; intro w2 hblk2 hbel2))
  have hat2 := jh_ hat HS.out (by rw [Hn.out]; omega)
  rw [Hn.out, Nat.add_sub_cancel_left] at hat2
  have hgw2 := M_ hgw hbel2 (by omega)
  have hbox2 := am_ hbel2 hbox1 (by omega)
  refine (hf_ _ _ 0 (n + 1) _ (lx ++ [0]) _ ss m _ sx (by rw [List.length_append, Hn.out]; rfl) Hm.out hblk2.out hat2 (((hs.rd.beside (by omega)).kept_none hgw2)) (by omega) (by omega) (hl.dig.snoc T_) hs.dig).mono ?_
  rintro e w3 ⟨c, zs, cs3, rfl, hb3, hw3, hg3, hl3, hd3, hc3, hv3⟩
  have hbox3 := aN_ hg3 hbox2 (by omega)
  have hgw3 := s_ hgw2 hg3 (by omega)
  rw [List.length_append, Hn.out] at hl3 hv3
  have HV := H_ (jf_ hl.dig hs.dig (by rw [Hn.out]; omega) (by rw [Hm.out]; omega) hv3)
  have HL := H_ hl3
  clear hv3 hl3 hc3 hbox1 hbox2 hg1 hb1 hat hat2 hblk2 hbel2 hg3 hgw hgw2
  go_wp2_with fail
  refine (eL_ _ _ (n + 1) _ zs HL.out (Rdo.of hb3 hw3.lies) (by omega) (Nat.le_refl _) hd3).mono ?_
  rintro e w4 ⟨sa, xs, rfl, hl4, hv4, hfr, hg4⟩
  have hbox4 := a_ hg4 hbox3
  obtain ⟨hc4, hf4⟩ := j_ hbox4
  have hF := H_ (gQ_ (d_ hgw3 hg4) hbox4 (by decide) (by omega) hl4 (hv4.trans HV.out) (gY_ hfr (by omega)) (.slice sa xs.length xs.length))
  clear hv4 hbox4 hbox3 hg4 hgw3 hb3 hw3 hfr
  go_wp2_with fail
  exact bodyPost_ret (v := .agg #[.slice sa xs.length xs.length]) (by simp [results, Tryz.results113, go_sem, hc4]) rfl hF.out
theorem js_ (w : World) (va vb : Value) (a b K : Nat) (ha : NatV w va a) (hb : NatV w vb b) (hK : K ≤ 1073741824) (la : a < B ^ K) (lb : b < B ^ K) :
    Calls Tryz.prog 113 #[va, vb] w (RetFresh w (a + b)) := by
 obtain ⟨sa, xs, rfl, hx, rfl⟩ := ha
 obtain ⟨sb, ys, rfl, hy, rfl⟩ := hb
 have h1 := hx.len la
 have h2 := hy.len lb
 by_cases h : xs.length < ys.length
 · rw [Nat.add_comm]
   exact hl_ w sb sa ys xs _ _ hy hx _ _ rfl rfl (by omega) (by omega) (Or.inr ⟨rfl, rfl, h⟩)
 · exact hl_ w sa sb xs ys _ _ hx hy _ _ rfl rfl (by omega) (by omega) (Or.inl ⟨rfl, rfl, h⟩)
theorem et_ (w : World) (va vb : Value) (a b K : Nat) (ha : NatV w va a) (hb : NatV w vb b) (hK : K ≤ 1073741824) (la : a < B ^ K) (lb : b < B ^ K) :
    Calls Tryz.prog 113 #[va, vb] w (bK_ w (a + b)) :=
 (js_ w va vb a b K ha hb hK la lb).mono fun _ _ h => h.nat
theorem bq_ (w : World) (sa sb : Option Addr) (xs ys : List Nat) (hx : Lm w sa xs) (hy : Lm w sb ys) (hn : xs.length ≤ 1099511627776) (hm : ys.length ≤ 1099511627776) :
    Calls Tryz.prog 112 #[.slice sa xs.length xs.length, .slice sb ys.length ys.length] w (fD_ w (val B xs) (val B ys)) := by
 rcases Nat.lt_trichotomy xs.length ys.length with h | h | h
 · have := I_ B T_ xs ys hx.dig hy.top h
   refine (fZ_ w sa sb _ _ _ _ h hn hm).mono ?_
   rintro e w' ⟨rfl, rfl⟩
   exact ⟨by rw [bb_ this], 0, rfl⟩
 · have := fX_ w sa sb xs.length ys.length xs ys xs.length hx.rd hy.rd rfl h.symm hn hx.dig hy.dig
   rw [← h]
   rw [← h] at this
   exact this
 · have := I_ B T_ ys xs hy.dig hx.top h
   refine (fY_ w sa sb _ _ _ _ h hn hm).mono ?_
   rintro e w' ⟨rfl, rfl⟩
   exact ⟨by rw [bc_ this], 0, rfl⟩
set_option maxHeartbeats 1000000 in
theorem jq_ (w : World) (va vb : Value) (a b K : Nat) (ha : NatV w va a) (hb : NatV w vb b) (hK : K ≤ 1073741824) (la : a < B ^ K) (lb : b < B ^ K) :
    Calls Tryz.prog 87 #[va, vb] w fun e w' => e = .returned (.int .i64 (W_ a b)) ∧ w.grownBy w' none := by
 obtain ⟨sa, xs, rfl, hx, rfl⟩ := ha
 obtain ⟨sb, ys, rfl, hy, rfl⟩ := hb
 have h1 := hx.len la
 have h2 := hy.len lb
 have hgw : w.grownBy ((w.alloc (.cells #[.slice sa xs.length xs.length] 24)).alloc (.cells #[.slice sb ys.length ys.length] 24)) none := l_ (wg_ _ _ _) _
 go_enter Tryz.func87, Tryz.ntmps87
 go_wp2_with fail
 refine (bq_ _ sa sb xs ys (hx.kept hgw) (hy.kept hgw) (by omega) (by omega)).mono ?_
 rintro e w' ⟨rfl, q, rfl⟩
 go_wp2_with fail
 go_ret
 exact ⟨rfl, d_ hgw (v_ _ _ _)⟩
def bC_ (w : World) (n : Nat) (code : Int) (e : Ending) (w' : World) : Prop := ∃ v, e = .returned (.tuple #[v, .int .i64 code]) ∧ NatV w' v n ∧ w.grownBy w' none
theorem NatV.zero (w : World) : NatV w (.agg #[.slice none 0 0]) 0 := ⟨none, [], rfl, ⟨Or.inl rfl, fun _ => rfl, by intro x hx; simp at hx, Dig.nil _⟩, rfl⟩
theorem fd_ {w w' : World} {sa : Option Addr} {xs : List Nat} {n g : Nat} {c : Array Value} {t : TypeId} {code : Int} (hg : w.grownBy w' none) (hbox : w'.heap[g]? = some (.cells c t (0, 0))) (ht : t ≠ 96) (hl : w.heap.size ≤ g) (h : Lm w' sa xs) (hv : val B xs = n) (u : Value) :
    bC_ w n code (.returned (.tuple #[.agg #[.slice sa xs.length xs.length], .int .i64 code])) (w'.setCell ⟨g, 0, none⟩ u) :=
 ⟨_, rfl, ⟨sa, xs, rfl, h.set_other hbox ht 0 u, hv⟩, s_ hg (q_ (h_ _ _) _ _) hl⟩
set_option maxHeartbeats 1000000 in
theorem hh_ (w : World) (va vb : Value) (a b K : Nat) (ha : NatV w va a) (hb : NatV w vb b) (hK : K ≤ 1073741824) (la : a < B ^ K) (lb : b < B ^ K) (hlt : a < b) :
    Calls Tryz.prog 114 #[va, vb] w (bC_ w 0 4) := by
 obtain ⟨sa, xs, rfl, hx, rfl⟩ := ha
 obtain ⟨sb, ys, rfl, hy, rfl⟩ := hb
 have h1 := hx.len la
 have h2 := hy.len lb
 have HC := H_ (bb_ hlt)
 clear hlt
 have hgw : w.grownBy (((w.alloc (.cells #[.slice sa xs.length xs.length] 24)).alloc (.cells #[.slice sb ys.length ys.length] 24)).alloc (.cells #[.slice none 0 0] 24)) none := l_ (l_ (wg_ _ _ _) _) _
 go_enter Tryz.func114, Tryz.ntmps114
 go_wp2_with fail
 refine (bq_ _ sa sb xs ys (hx.kept hgw) (hy.kept hgw) (by omega) (by omega)).mono ?_
 rintro e w' ⟨rfl, q, rfl⟩
 rw [HC.out]
 go_wp2_with fail
 exact bodyPost_ret (v := .tuple #[.agg #[.slice none 0 0], .int .i64 4]) (by simp [results, Tryz.results114, go_sem]) rfl ⟨_, rfl, NatV.zero _, s_ (g := w.heap.size + 1 + 1) (d_ hgw (v_ _ _ _)) (q_ (h_ _ _) _ _) (by omega)⟩
theorem eG_ {sa : Option Addr} {w : World} {xs : List Nat} (h : Lm w sa xs) (hp : 0 < val B xs) : 0 < xs.length := by
 rcases Nat.eq_zero_or_pos xs.length with h0 | h0
 · rw [List.length_eq_zero_iff] at h0; subst h0; simp [val] at hp
 · exact h0
theorem cT_ {w : World} {sa sb : Option Addr} {xs ys : List Nat} (hx : Lm w sa xs) (hy : Lm w sb ys) (h : val B xs ≤ val B ys) : xs.length ≤ ys.length := by
 rcases Nat.lt_or_ge ys.length xs.length with h1 | h1
 · have := I_ B T_ ys xs hy.dig hx.top h1; omega
 · exact h1
theorem fF_ (w : World) : Calls Tryz.prog 130 #[.slice none 0 0, .slice none 0 0] w fun e w' => e = .returned (.tuple #[]) ∧ w = w' := by
 go_enter Tryz.func130, Tryz.ntmps130
 go_wp2_with fail
 refine wp_loop_rounds 1 ?_
 rw [rounds_succ]
 go_wp2_with fail
 refine wp_loop_rounds 1 ?_
 rw [rounds_succ]
 go_wp2_with fail
 go_end0
 exact ⟨rfl, rfl⟩
set_option maxHeartbeats 1000000 in
theorem cq_ (w : World) (va vb : Value) (a b K : Nat) (ha : NatV w va a) (hb : NatV w vb b) (hK : K ≤ 1073741824) (la : a < B ^ K) (hle : b ≤ a) :
    Calls Tryz.prog 114 #[va, vb] w (bC_ w (a - b) 0) := by
 obtain ⟨sa, xs, rfl, hx, rfl⟩ := ha
 obtain ⟨sb, ys, rfl, hy, rfl⟩ := hb
 have h1 := hx.len la
 have h2 := cT_ hy hx hle
 have HD := H_ hle
 have hC : 0 ≤ W_ (val B xs) (val B ys) := by
  rcases Nat.lt_or_ge (val B ys) (val B xs) with h | h
  · rw [bc_ h]; omega
  · rw [bI_ (by omega)]; omega
 generalize hcc : W_ (val B xs) (val B ys) = cc at hC
 have HC := H_ hcc
 clear hle hcc la
 have hgw : w.grownBy (((w.alloc (.cells #[.slice sa xs.length xs.length] 24)).alloc (.cells #[.slice sb ys.length ys.length] 24)).alloc (.cells #[.slice none 0 0] 24)) none := l_ (l_ (wg_ _ _ _) _) _
 have hbox := f_ ((w.alloc (.cells #[.slice sa xs.length xs.length] 24)).alloc (.cells #[.slice sb ys.length ys.length] 24)) (.cells #[.slice none 0 0] 24) (w.heap.size + 1 + 1) (by simp)
 have hboxb := (Below.heap_alloc _ (.cells #[.slice none 0 0] 24) (w.heap.size + 1) (by simp)).trans (f_ (w.alloc (.cells #[.slice sa xs.length xs.length] 24)) (.cells #[.slice sb ys.length ys.length] 24) (w.heap.size + 1) (by simp))
 by_cases h0 : xs.length = 0
 · obtain rfl : xs = [] := List.length_eq_zero_iff.1 h0
   obtain rfl : ys = [] := List.length_eq_zero_iff.1 (by simpa using h2)
   obtain rfl := hx.nil rfl
   obtain rfl := hy.nil rfl
   clear h0 h1 h2
   simp only [List.length_nil] at hgw hbox hboxb ⊢
   go_enter Tryz.func114, Tryz.ntmps114
   go_wp2_with fail
   refine (bq_ _ none none [] [] (hx.kept hgw) (hy.kept hgw) (by simp) (by simp)).mono ?_
   rintro e w' ⟨rfl, q, rfl⟩
   rw [HC.out]
   go_wp2_with fail
   refine (er_ _).mono ?_
   rintro e w' ⟨rfl, rfl⟩
   go_wp2_with fail
   refine (fF_ _).mono ?_
   rintro e w' ⟨rfl, rfl⟩
   go_wp2_with fail
   refine (ee_ _ none 0 0 [] rfl (Or.inl rfl) (by omega) (by omega) (Dig.nil _)).mono ?_
   rintro e w4 ⟨v, rfl, ⟨sa, xs, rfl, hl4, hv4⟩, hg4⟩
   have hbox4 := a_ (d_ (v_ _ _ none) hg4) hbox
   obtain ⟨hc4, hf4⟩ := j_ hbox4
   have hF := H_ (fd_ (w := w) (n := 0) (code := 0) (d_ hgw (d_ (v_ _ _ none) hg4)) hbox4 (by decide) (by omega) hl4 hv4 (.slice sa xs.length xs.length))
   clear hv4 hbox4 hg4 hgw hbox hboxb
   go_wp2_with fail
   exact bodyPost_ret (v := .tuple #[.agg #[.slice sa xs.length xs.length], .int .i64 0]) (by simp [results, Tryz.results114, go_sem, hc4]) rfl hF.out
 · obtain ⟨b1, o1, cs1, rfl, hb1, hat1⟩ := hx.rd.get 0 (by omega)
   go_enter Tryz.func114, Tryz.ntmps114
   go_wp2_with fail
   refine (bq_ _ (some ⟨b1, o1, none⟩) sb xs ys (hx.kept hgw) (hy.kept hgw) (by omega) (by omega)).mono ?_
   rintro e w' ⟨rfl, q, rfl⟩
   rw [HC.out]
   go_wp2_with fail
   refine (gd_ _ b1 o1 _ cs1 xs (hb1.kept (d_ hgw (v_ _ _ none)) (by simp)) hat1 (by omega) (by omega)).mono ?_
   rintro e w2 ⟨g, cap, cs2, rfl, hge, hb2, hat2, hcap, hg2⟩
   have hge' : w.heap.size + 1 + 1 + 1 ≤ g := by simpa using hge
   have hgw2 := d_ (d_ hgw (v_ _ q none)) hg2
   have hbox2 := a_ (d_ (v_ _ _ none) hg2) hbox
   obtain ⟨hcb, hfb⟩ := j_ (a_ (d_ (v_ _ _ none) hg2) hboxb)
   clear hge hg2 hbox hboxb
   obtain ⟨hc2, hf2⟩ := j_ hbox2
   go_wp2_with fail
   refine (cy_ _ g 0 _ _ xs cs2 sb _ _ ys rfl rfl hb2 hat2 ((hy.rd.beside (by omega)).kept_none hgw2) h2 (by omega) hx.dig hy.dig HD.out).mono ?_
   rintro e w3 ⟨zs, cs3, rfl, hb3, hw3, hg3, hl3, hd3, hv3⟩
   have hbox3 := aN_ hg3 hbox2 (by omega)
   have hgw3 := s_ hgw2 hg3 (by omega)
   have HV := H_ (show val B zs = val B xs - val B ys by omega)
   have HL := H_ hl3
   clear hv3 hl3 hbox2 hgw2 hg3 hb2 hat2 hc2 hf2 hcb hfb
   go_wp2_with fail
   refine (ee_ _ _ _ _ zs HL.out (Rdo.of hb3 hw3.lies) (by omega) (by omega) hd3).mono ?_
   rintro e w4 ⟨v, rfl, ⟨sa, zs2, rfl, hl4, hv4⟩, hg4⟩
   have hbox4 := a_ hg4 hbox3
   obtain ⟨hc4, hf4⟩ := j_ hbox4
   have hF := H_ (fd_ (code := 0) (d_ hgw3 hg4) hbox4 (by decide) (by omega) hl4 (hv4.trans HV.out) (.slice sa zs2.length zs2.length))
   clear hv4 hbox4 hbox3 hg4 hgw3 hb3 hw3
   go_wp2_with fail
   exact bodyPost_ret (v := .tuple #[.agg #[.slice sa zs2.length zs2.length], .int .i64 0]) (by simp [results, Tryz.results114, go_sem, hc4]) rfl hF.out
end Go.Proofs.YtgbbdgioohaknaaGreatDoor
