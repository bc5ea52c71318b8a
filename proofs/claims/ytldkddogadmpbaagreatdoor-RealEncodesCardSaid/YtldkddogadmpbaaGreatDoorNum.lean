/- Numbers as the program keeps them: limbs without a 0 on top; cut, own, Clone. -/
import Derived.Test.YtldkddogadmpbaaGreatDoorSum
namespace Go.Proofs.YtldkddogadmpbaaGreatDoor
open Go.RowKit Mat
set_option maxRecDepth 100000
set_option linter.unusedVariables false
set_option linter.unusedSimpArgs false

/-- The address of limbs at the head of others: none, if there are none. -/
def Sa (sa : Option Addr) (k : Nat) : Option Addr := if k = 0 then none else sa
theorem Sa_pos {sa : Option Addr} {k : Nat} (h : 0 < k) : Sa sa k = sa := by unfold Sa; rw [if_neg (by omega)]
theorem Sa_zero (sa : Option Addr) : Sa sa 0 = none := rfl

/-- What cut leaves: the limbs without noughts on top; the world stays. -/
def CutTo (w : World) (sa : Option Addr) (xs : List Nat) (e : Ending) (w' : World) : Prop :=
  ∃ k, k ≤ xs.length ∧ e = .returned (.slice (Sa sa k) k k) ∧ Top (xs.take k) ∧ val B (xs.take k) = val B xs ∧ w = w'

/-- Limbs as a number has them: no 0 on top; nil, if there are none. -/
structure Lm (w : World) (sa : Option Addr) (xs : List Nat) : Prop where
  rd : Rdo w sa xs
  nil : xs = [] → sa = none
  top : Top xs
  dig : Dig B xs

/-- A number of the program's. -/
def NatV (w : World) (v : Value) (n : Nat) : Prop := ∃ (sa : Option Addr) (xs : List Nat), v = .agg #[.slice sa xs.length xs.length] ∧ Lm w sa xs ∧ val B xs = n

theorem Rdo.kept {w w' : World} {sa : Option Addr} {xs : List Nat} (h : Rdo w sa xs) (hg : w.grownBy w' none) : Rdo w' sa xs := by
  rcases h with h | ⟨b, off, cs, e, h1, h2⟩
  · exact Or.inl h
  · exact Or.inr ⟨b, off, cs, e, h1.kept hg (by simp), h2⟩
theorem Rdo.take {w : World} {sa : Option Addr} {xs : List Nat} (h : Rdo w sa xs) (k : Nat) : Rdo w (Sa sa k) (xs.take k) := by
  by_cases hk : k = 0
  · subst hk; exact Or.inl rfl
  · rw [Sa_pos (by omega)]
    rcases h with h | ⟨b, off, cs, e, h1, h2⟩
    · exact Or.inl (by rw [h]; simp)
    · exact Or.inr ⟨b, off, cs, e, h1, h2.take k⟩
theorem Lm.kept {w w' : World} {sa : Option Addr} {xs : List Nat} (h : Lm w sa xs) (hg : w.grownBy w' none) : Lm w' sa xs := ⟨h.rd.kept hg, h.nil, h.top, h.dig⟩
theorem NatV.kept {w w' : World} {v : Value} {n : Nat} (h : NatV w v n) (hg : w.grownBy w' none) : NatV w' v n := by
  obtain ⟨sa, xs, e, h1, h2⟩ := h
  exact ⟨sa, xs, e, h1.kept hg, h2⟩
theorem NatV.drewN {w : World} {v : Value} {n : Nat} (h : NatV w v n) (q : Nat) : NatV (w.drewN q) v n := h.kept (grown_drewN _ _ _)
/-- Beside a store to a block that came later. -/
theorem Rdo.beside {w : World} {sa : Option Addr} {xs : List Nat} (h : Rdo w sa xs) {g : Nat} (hg : w.heap.size ≤ g) : Rd w sa xs g := by
  rcases h with h | ⟨b, off, cs, e, h1, h2⟩
  · exact Or.inl h
  · exact Or.inr ⟨b, off, cs, e, by have := h1.lt; omega, h1, h2⟩
theorem Rd.kept {w w' : World} {sa : Option Addr} {xs : List Nat} {g : Nat} (h : Rd w sa xs g) (hg : w.grownBy w' (some g)) : Rd w' sa xs g := by
  rcases h with h | ⟨b, off, cs, e, hne, h1, h2⟩
  · exact Or.inl h
  · exact Or.inr ⟨b, off, cs, e, hne, h1.kept hg (by simpa using hne), h2⟩
theorem Rd.kept_none {w w' : World} {sa : Option Addr} {xs : List Nat} {g : Nat} (h : Rd w sa xs g) (hg : w.grownBy w' none) : Rd w' sa xs g := h.kept (grown_any hg)
theorem Rdo.of {w : World} {b off : Nat} {cs : Array Value} {xs : List Nat} (h : Blk w b cs) (k : At cs off xs) : Rdo w (some ⟨b, off, none⟩) xs := Or.inr ⟨b, off, cs, rfl, h, k⟩

/-- A number is answered; what was there stays. -/
def RetNat (w : World) (n : Nat) (e : Ending) (w' : World) : Prop := ∃ v, e = .returned v ∧ NatV w' v n ∧ w.grownBy w' none

theorem top_take (xs : List Nat) (k : Nat) (hk : k < xs.length) (h : xs[k] ≠ 0) : Top (xs.take (k + 1)) := by
  intro x hx
  rw [List.take_succ_eq_append_getElem hk, List.getLast?_append] at hx
  simp at hx
  rw [← hx]; exact h

set_option maxHeartbeats 1000000 in
theorem cut_any (w : World) (sa : Option Addr) (cap : Nat) (xs : List Nat) (hx : Rdo w sa xs) (hn : xs.length ≤ 1099511627776) (hcap : xs.length ≤ cap) :
    Calls Tryz.prog 73 #[.slice sa xs.length cap] w (CutTo w sa xs) := by
  generalize hl : xs.length = n at *
  have Hn := Lib.hid hl
  clear hl
  go_enter Tryz.func73, Tryz.ntmps73
  go_wp2_with fail
  go_loopw [3] (fun i wr => ∃ (k : Nat), k ≤ n ∧ i = .int .i64 k ∧ w = wr ∧ Hid (val B (xs.take k) = val B xs)) (fun i _ => (intOf i).toNat)
  case atStart => exact ⟨n, Nat.le_refl _, rfl, rfl, by show _ = _; rw [← Hn.out, List.take_length]⟩
  case round =>
    obtain ⟨k, hk, rfl, rfl, hv⟩ := hrel
    by_cases h0 : k = 0
    · subst h0
      have HF : Hid (CutTo w sa xs (.returned (.slice (Sa sa 0) 0 0)) w) := ⟨0, Nat.zero_le _, rfl, by intro x hx; simp at hx, hv.out, rfl⟩
      go_wp2_with fail
      go_ret
      exact HF
    · obtain ⟨j, rfl⟩ : ∃ j, k = j + 1 := ⟨k - 1, by omega⟩
      clear h0
      obtain ⟨b1, o1, rfl, c1⟩ := hx.cell (by rw [Hn.out]; omega)
      have c1 := c1 j (by rw [Hn.out]; omega)
      obtain ⟨x, ex⟩ : ∃ x, xs[j]'(by rw [Hn.out]; omega) = x := ⟨_, rfl⟩
      rw [ex] at c1
      have EX := Lib.hid ex
      clear ex
      by_cases hz : x = 0
      · subst hz
        go_wp2_with fail
        go_roundw
        case rel => exact ⟨j, by omega, by go_num, by trivial, by show _ = _; rw [← hv.out, val_take_succ B xs j (by rw [Hn.out]; omega), EX.out]; omega⟩
        case measure => simp [intOf]
      · have t : ((x : Int) == 0) = false := beq_eq_false_iff_ne.2 (by omega)
        have HF : Hid (CutTo w (some ⟨b1, o1, none⟩) xs (.returned (.slice (some ⟨b1, o1, none⟩) (j + 1) (j + 1))) w) :=
          ⟨j + 1, by rw [Hn.out]; omega, rfl, top_take xs j (by rw [Hn.out]; omega) (by rw [EX.out]; exact hz), hv.out, rfl⟩
        have t2 : ((j : Int) + 1 == 0) = false := beq_eq_false_iff_ne.2 (by omega)
        go_wp2_with fail
        go_ret
        exact HF

/-- A number is answered whose limbs lie where the given ones lay. -/
def RetOwn (w : World) (sa : Option Addr) (n : Nat) (e : Ending) (w' : World) : Prop :=
  ∃ (s : Option Addr) (zs : List Nat), e = .returned (.agg #[.slice s zs.length zs.length]) ∧ Lm w' s zs ∧ val B zs = n ∧ (s = none ∨ s = sa) ∧ w.grownBy w' none
/-- A number is answered whose limbs lie in new memory. -/
def RetFresh (w : World) (n : Nat) (e : Ending) (w' : World) : Prop :=
  ∃ (s : Option Addr) (zs : List Nat), e = .returned (.agg #[.slice s zs.length zs.length]) ∧ Lm w' s zs ∧ val B zs = n ∧ (∀ ad, s = some ad → w.heap.size ≤ ad.block) ∧ w.grownBy w' none
theorem RetFresh.nat {w : World} {n : Nat} {e : Ending} {w' : World} (h : RetFresh w n e w') : RetNat w n e w' := by
  obtain ⟨s, zs, e1, h1, h2, _, h3⟩ := h
  exact ⟨_, e1, ⟨s, zs, rfl, h1, h2⟩, h3⟩

set_option maxHeartbeats 1000000 in
theorem own_own (w : World) (sa : Option Addr) (cap : Nat) (xs : List Nat) (hx : Rdo w sa xs) (hn : xs.length ≤ 1099511627776) (hcap : xs.length ≤ cap) (dx : Dig B xs) :
    Calls Tryz.prog 42 #[.slice sa xs.length cap] w (RetOwn w sa (val B xs)) := by
  go_enter Tryz.func42, Tryz.ntmps42
  go_wp2_with fail
  refine (cut_any _ sa cap xs (hx.kept (World.grownBy_alloc _ _ _)) hn hcap).mono ?_
  rintro e w' ⟨k, hk, rfl, ht, hv, rfl⟩
  go_wp2_with fail
  refine bodyPost_ret (v := .agg #[.slice (Sa sa k) k k]) (by simp [results, Tryz.results42, go_sem]) rfl ?_
  have hlen : (xs.take k).length = k := by rw [List.length_take]; omega
  refine ⟨Sa sa k, xs.take k, by rw [hlen], ⟨?_, ?_, ht, dx.take k⟩, hv, ?_, ?_⟩
  · exact (hx.take k).kept (by repeat (first | exact World.grownBy_alloc _ _ _ | exact grown_refl _ _ | refine grown_alloc ?_ _))
  · intro h; rw [h] at hlen; simp at hlen; rw [← hlen]; rfl
  · unfold Sa; split
    · exact Or.inl rfl
    · exact Or.inr rfl
  · exact World.grownBy_alloc _ _ _

theorem own_any (w : World) (sa : Option Addr) (cap : Nat) (xs : List Nat) (hx : Rdo w sa xs) (hn : xs.length ≤ 1099511627776) (hcap : xs.length ≤ cap) (dx : Dig B xs) :
    Calls Tryz.prog 42 #[.slice sa xs.length cap] w (RetNat w (val B xs)) := by
  refine (own_own w sa cap xs hx hn hcap dx).mono ?_
  rintro e w' ⟨s, zs, e1, h1, h2, _, h3⟩
  exact ⟨_, e1, ⟨s, zs, rfl, h1, h2⟩, h3⟩

theorem blk_alloc (w : World) (cs : Array Value) : Blk (w.alloc (.cells cs 71)) w.heap.size cs := by
  show (w.heap.push _)[w.heap.size]? = _
  simp
theorem blk_alloc_at (w : World) (cs : Array Value) (g : Nat) (h : g = w.heap.size) : Blk (w.alloc (.cells cs 71)) g cs := by subst h; exact blk_alloc w cs
theorem RetNat.after {w w1 : World} {n : Nat} {e : Ending} {w' : World} (h : RetNat w1 n e w') (hg : w.grownBy w1 none) : RetNat w n e w' := by
  obtain ⟨v, e1, e2, e3⟩ := h
  exact ⟨v, e1, e2, grown_trans hg e3⟩

/-- A cell of the call's own, behind a call that makes blocks alone. -/
theorem res_kept {W w' : World} (hg : W.grownBy w' none) {a : Addr} {v : Value} (h : W.cell? a = some v) (f : W.frozen? a = false) : w'.cell? a = some v ∧ w'.frozen? a = false := by
  have hlt : a.block < W.heap.size := by
    rcases Nat.lt_or_ge a.block W.heap.size with h1 | h1
    · exact h1
    · simp [World.cell?, Array.getElem?_eq_none h1] at h
  exact ⟨hg.cell h (by simp), (World.frozen?_of_block (w := W) (hg.block a.block hlt (by simp))).trans f⟩

theorem Blk.set_other {w : World} {b g : Nat} {cs c : Array Value} {t : TypeId} (h : Blk w b cs) (hbox : w.heap[g]? = some (.cells c t (0, 0))) (ht : t ≠ 71) (o : Nat) (u : Value) : Blk (w.setCell ⟨g, o, none⟩ u) b cs := by
  unfold Blk at *
  rw [Below.heap_setCell _ _ _ _ (by rintro rfl; rw [hbox] at h; simp at h; exact ht h.2)]
  exact h
theorem Rdo.set_other {w : World} {sa : Option Addr} {xs : List Nat} {g : Nat} {c : Array Value} {t : TypeId} (h : Rdo w sa xs) (hbox : w.heap[g]? = some (.cells c t (0, 0))) (ht : t ≠ 71) (o : Nat) (u : Value) : Rdo (w.setCell ⟨g, o, none⟩ u) sa xs := by
  rcases h with h | ⟨b, off, cs, e, h1, h2⟩
  · exact Or.inl h
  · exact Or.inr ⟨b, off, cs, e, h1.set_other hbox ht o u, h2⟩
theorem Lm.set_other {w : World} {sa : Option Addr} {xs : List Nat} {g : Nat} {c : Array Value} {t : TypeId} (h : Lm w sa xs) (hbox : w.heap[g]? = some (.cells c t (0, 0))) (ht : t ≠ 71) (o : Nat) (u : Value) : Lm (w.setCell ⟨g, o, none⟩ u) sa xs := ⟨h.rd.set_other hbox ht o u, h.nil, h.top, h.dig⟩
theorem NatV.set_other {w : World} {v : Value} {n : Nat} {g : Nat} {c : Array Value} {t : TypeId} (h : NatV w v n) (hbox : w.heap[g]? = some (.cells c t (0, 0))) (ht : t ≠ 71) (o : Nat) (u : Value) : NatV (w.setCell ⟨g, o, none⟩ u) v n := by
  obtain ⟨sa, xs, e, h1, h2⟩ := h
  exact ⟨sa, xs, e, h1.set_other hbox ht o u, h2⟩
theorem heap_kept {w w' : World} {g : Nat} {o : Obj} (hg : w.grownBy w' none) (h : w.heap[g]? = some o) : w'.heap[g]? = some o :=
  (hg.block g (Array.getElem?_eq_some_iff.1 h).1 (by simp)).trans h
theorem heap_new (w : World) (o : Obj) (g : Nat) (h : g = w.heap.size) : (w.alloc o).heap[g]? = some o := by
  subst h; show (w.heap.push o)[w.heap.size]? = _; simp
/-- A number stored into the call's own result. -/
theorem ret_set {w w' : World} {sa : Option Addr} {xs : List Nat} {n g : Nat} {c : Array Value} {t : TypeId} (hg : w.grownBy w' none) (hbox : w'.heap[g]? = some (.cells c t (0, 0))) (ht : t ≠ 71) (hl : w.heap.size ≤ g) (h : Lm w' sa xs) (hv : val B xs = n) (u : Value) :
    RetNat w n (.returned (.agg #[.slice sa xs.length xs.length])) (w'.setCell ⟨g, 0, none⟩ u) :=
  ⟨_, rfl, ⟨sa, xs, rfl, h.set_other hbox ht 0 u, hv⟩, grown_new hg (grown_set (grown_refl _ _) _ _) hl⟩

set_option maxHeartbeats 1000000 in
theorem Of_any (w : World) (n : Nat) (hn : n < B) :
    Calls Tryz.prog 52 #[.int .u64 (n : Int)] w (RetNat w n) := by
  have hb := blk_alloc_at (w.alloc (.cells #[.slice none 0 0] 24)) #[.int .u64 (n : Int)] (w.heap.size + 1) (by simp)
  have hat : At #[.int .u64 (n : Int)] 0 [n] := fun i hi => by
    obtain rfl : i = 0 := by simpa using hi
    rfl
  have Hv := Lib.hid (show val B [n] = n by simp [val])
  go_enter Tryz.func52, Tryz.ntmps52
  go_wp2_with fail
  refine (own_any _ _ _ [n] (Rdo.of hb hat) (by simp) (by simp) (Dig.cons hn (Dig.nil _))).mono ?_
  rintro e w' ⟨v, rfl, ⟨sa, xs, rfl, hl, hv⟩, hg⟩
  obtain ⟨hc, hf⟩ := res_kept hg (a := ⟨w.heap.size, 0, none⟩) (v := .slice none 0 0) (by go_simp) (by go_simp)
  have hb2 := heap_kept hg (Below.heap_alloc _ _ w.heap.size (by simp) |>.trans (heap_new w (.cells #[.slice none 0 0] 24) _ rfl))
  have hF := Lib.hid (ret_set (w := w) (grown_trans (grown_alloc (World.grownBy_alloc _ _ _) _) hg) hb2 (by decide) (Nat.le_refl _) hl hv (.slice sa xs.length xs.length))
  rw [Hv.out] at hF
  clear hv hb2
  go_wp2_with fail
  exact bodyPost_ret (v := .agg #[.slice sa xs.length xs.length]) (by simp [results, Tryz.results52, go_sem, hc]) rfl hF.out

/-- What Clone leaves: the limbs in a block of its own. -/
def Cloned (w : World) (xs : List Nat) (e : Ending) (w' : World) : Prop :=
  ∃ (g cap : Nat) (cs : Array Value), e = .returned (.slice (some ⟨g, 0, none⟩) xs.length cap) ∧ w.heap.size ≤ g ∧ Blk w' g cs ∧ At cs 0 xs ∧ xs.length ≤ cap ∧ w.grownBy w' none

theorem Clone_nil (w : World) : Calls Tryz.prog 84 #[.slice none 0 0] w fun e w' => e = .returned (.slice none 0 0) ∧ w = w' := by
  have hnil := fun w a l c => Lib.run_eql_slice_nil (P := Tryz.prog) w 22 71 a l c 0 0 Tryz.underlying22
  go_enter Tryz.func84, Tryz.ntmps84
  go_wp2_with fail
  go_ret
  exact ⟨rfl, rfl⟩
theorem Tryz.infoU64 : (Tryz.prog.info? 71).map (fun i => (i.zero, i.size, i.bytes)) = some (some (.int .u64 0), 1, 8) := by kernel_rfl
theorem own_limbs {w : World} {base : Nat} {v : Value} {xs : List Nat} (h : w.ownsRow base 71 1 v xs.length (xs.map fun x : Nat => Value.int .u64 (x : Int))) (h0 : 0 < xs.length) :
    ∃ (g cap : Nat) (cs : Array Value), v = .slice (some ⟨g, 0, none⟩) xs.length cap ∧ base ≤ g ∧ Blk w g cs ∧ At cs 0 xs ∧ xs.length ≤ cap ∧ cs.size = cap := by
  obtain ⟨_, ⟨_, h⟩ | ⟨g, cap, cur, hv, hg, hh, hle, hm, hs, ht⟩⟩ := h
  · omega
  · refine ⟨g, cap, cur, hv, hg, hh, ?_, hle, by simpa using hs⟩
    intro i hi
    have e1 : (cur.toList.take (xs.length * 1))[i]? = some (.int .u64 (xs[i] : Int)) := by rw [ht]; simp [hi]
    rw [List.getElem?_take_of_lt (by omega)] at e1
    simpa using e1
set_option maxHeartbeats 1000000 in
theorem Clone_any (w : World) (b off cap : Nat) (cs : Array Value) (xs : List Nat) (hb : Blk w b cs) (hx : At cs off xs) (h0 : 0 < xs.length) (hn : xs.length ≤ 1099511627776) :
    Calls Tryz.prog 84 #[.slice (some ⟨b, off, none⟩) xs.length cap] w (Cloned w xs) := by
  obtain ⟨i0, hi, hz0, hz1, hz2⟩ := info_parts Tryz.infoU64
  have hnil := fun w a l c => Lib.run_eql_slice_nil (P := Tryz.prog) w 22 71 a l c 0 0 Tryz.underlying22
  go_enter Tryz.func84, Tryz.ntmps84
  have hat : ∀ j u, (xs.map fun x : Nat => Value.int .u64 (x : Int))[j]? = some u → w.cell? ((⟨b, off, none⟩ : Addr).add j) = some u := by
    intro j u hj
    rw [List.getElem?_map] at hj
    cases e : xs[j]? with
    | none => rw [e] at hj; cases hj
    | some x =>
      rw [e] at hj
      obtain ⟨hlt, ex⟩ := List.getElem?_eq_some_iff.1 e
      have := hb.at hx j hlt
      have e2 : (⟨b, off, none⟩ : Addr).add j = ⟨b, off + j, none⟩ := by unfold Addr.add; split <;> simp_all
      rw [e2, this, ex]; exact hj
  go_wp2_with (at_builtin; refine wpList_append_own _ rfl _ _ 22 rfl w.heap.size 71 i0 (.int .u64 0) 1 8 Tryz.underlying22 hi hz0 hz1 hz2 rfl (by decide) _ 0 [] rfl (World.ownsRow_made w #[] 0 (Nat.le_refl _) (by unfold maxLen; omega) rfl) ⟨b, off, none⟩ xs.length cap (xs.map fun x : Nat => Value.int .u64 (x : Int)) rfl (by simp) ?h1 ?h2 ?h3 ?h4 ?h5 ?_)
  case h1 => intro j u hj; exact (World.grownBy_alloc w (.cells #[] 71) none).cell (hat j u hj) (by simp)
  case h2 => intro u hu; simp at hu; obtain ⟨a, _, rfl⟩ := hu; rfl
  case h3 => unfold maxLen; omega
  case h4 => omega
  case h5 => simp
  intro v' w1 hown hgrow _
  obtain ⟨g, cap', cs', hv', hge, hbk, hat', hle, _⟩ := own_limbs (base := w.heap.size) (xs := xs) (by simpa using hown) h0
  have HV := Lib.hid hv'
  have hg2 : w.grownBy w1 none := grown_new (World.grownBy_alloc w (.cells #[] 71) none) hgrow (Nat.le_refl _)
  clear hown hv' hgrow hat hb
  go_wp2_with fail
  go_ret
  exact ⟨g, cap', cs', by show Ending.returned v' = _; rw [HV.out], hge, hbk, hat', hle, hg2⟩
end Go.Proofs.YtldkddogadmpbaaGreatDoor
