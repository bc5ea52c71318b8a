/- Sums and differences of numbers: Add, Sub, Cmp. -/
import Derived.Test.YtldkddogadmpbaaGreatDoorNum
import Derived.Laws.CopyOwn
namespace Go.Proofs.YtldkddogadmpbaaGreatDoor
open Go.RowKit Mat
set_option maxRecDepth 100000
set_option linter.unusedVariables false
set_option linter.unusedSimpArgs false

theorem made_limbs {w : World} {g n : Nat} (h : w.ownsRow g 71 1 (.slice (some ⟨g, 0, none⟩) n n) n (madeCells #[.int .u64 0] (n * 1)).toList) :
    ∃ cs, Blk w g cs ∧ cs.size = n ∧ At cs 0 (List.replicate n 0) := by
  obtain ⟨_, ⟨h, _⟩ | ⟨g', cap, cur, hv, hg, hh, hle, hm, hs, ht⟩⟩ := h
  · cases h
  · simp only [Value.slice.injEq, Option.some.injEq, Addr.mk.injEq] at hv
    obtain ⟨⟨rfl, _⟩, _, rfl⟩ := hv
    refine ⟨cur, hh, by simpa using hs, ?_⟩
    intro i hi
    rw [List.length_replicate] at hi
    have e1 : (cur.toList.take (n * 1))[i]? = some (.int .u64 0) := by
      rw [ht, Array.getElem?_toList]
      simp [madeCells, hi]
      rw [Nat.mod_one]; rfl
    rw [List.getElem?_take_of_lt (by omega)] at e1
    simpa using e1

theorem at_splice {cs : Array Value} {xs : List Nat} {m : Nat} (h : At cs 0 (List.replicate m 0)) (hm : cs.size = m) (hl : xs.length ≤ m) :
    At (splice cs.toList 0 (xs.map fun x : Nat => Value.int .u64 (x : Int))).toArray 0 (xs ++ List.replicate (m - xs.length) 0) := by
  intro i hi
  simp only [List.length_append, List.length_replicate] at hi
  simp only [splice, List.take_zero, List.nil_append, Nat.zero_add, List.length_map]
  rw [List.getElem?_toArray]
  by_cases h2 : i < xs.length
  · rw [List.getElem?_append_left (by simpa using h2), List.getElem_append_left h2]; simp [h2]
  · rw [List.getElem?_append_right (by simpa using h2), List.getElem_append_right (by omega)]
    have := h i (by simp; omega)
    simp only [Nat.zero_add, List.getElem_replicate] at this
    simp only [List.length_map, List.getElem?_drop, List.getElem_replicate]
    rw [show xs.length + (i - xs.length) = i from by omega]
    simpa using this

theorem Lm.len {w : World} {sa : Option Addr} {xs : List Nat} (h : Lm w sa xs) {K : Nat} (hK : val B xs < B ^ K) : xs.length ≤ K := by
  rcases Nat.lt_or_ge K xs.length with h1 | h1
  · have h2 := val_ge B xs (by rintro rfl; simp at h1) h.top
    have h3 : B ^ K ≤ B ^ (xs.length - 1) := Nat.pow_le_pow_right B_pos (by omega)
    omega
  · exact h1

theorem hat_limbs {w : World} {b off : Nat} {cs : Array Value} {xs : List Nat} (hb : Blk w b cs) (hx : At cs off xs) :
    ∀ j u, (xs.map fun x : Nat => Value.int .u64 (x : Int))[j]? = some u → w.cell? ((⟨b, off, none⟩ : Addr).add j) = some u := by
  intro j u hj
  rw [List.getElem?_map] at hj
  cases e : xs[j]? with
  | none => rw [e] at hj; cases hj
  | some x =>
    rw [e] at hj
    obtain ⟨hlt, ex⟩ := List.getElem?_eq_some_iff.1 e
    have := hb.at hx j hlt
    have e2 : (⟨b, off, none⟩ : Addr).add j = ⟨b, off + j, none⟩ := by unfold Addr.add; split <;> simp_all
    rw [e2, this, ex]; exact hj
theorem one_limbs (xs : List Nat) : ∀ v ∈ (xs.map fun x : Nat => Value.int .u64 (x : Int)), v.oneCell' = true := by
  intro u hu; simp at hu; obtain ⟨a, _, rfl⟩ := hu; rfl

theorem addTo_at (w : World) (b off n cap : Nat) (xs : List Nat) (cs : Array Value) (sa : Option Addr) (m cap2 : Nat) (ys : List Nat) (hn : xs.length = n) (hmm : ys.length = m)
    (hb : Blk w b cs) (hx : At cs off xs) (hs : Rd w sa ys b) (hl : m ≤ n) (hm : n ≤ 1099511627776) (dx : Dig B xs) (dy : Dig B ys) :
    Calls Tryz.prog 97 #[.slice (some ⟨b, off, none⟩) n cap, .slice sa m cap2] w (AddedTo w b off xs ys cs) := by
  subst hn; subst hmm; exact addTo_any w b off cap xs cs sa cap2 ys hb hx hs hl hm dx dy
theorem takeFrom_at (w : World) (b off n cap : Nat) (xs : List Nat) (cs : Array Value) (sa : Option Addr) (m cap2 : Nat) (ys : List Nat) (hn : xs.length = n) (hmm : ys.length = m)
    (hb : Blk w b cs) (hx : At cs off xs) (hs : Rd w sa ys b) (hl : m ≤ n) (hm : n ≤ 1099511627776) (dx : Dig B xs) (dy : Dig B ys) (hle : val B ys ≤ val B xs) :
    Calls Tryz.prog 104 #[.slice (some ⟨b, off, none⟩) n cap, .slice sa m cap2] w (TookFrom w b off xs ys cs) := by
  subst hn; subst hmm; exact takeFrom_any w b off cap xs cs sa cap2 ys hb hx hs hl hm dx dy hle
theorem own_at (w : World) (sa : Option Addr) (n cap : Nat) (xs : List Nat) (hl : xs.length = n) (hx : Rdo w sa xs) (hn : n ≤ 1099511627776) (hcap : n ≤ cap) (dx : Dig B xs) :
    Calls Tryz.prog 42 #[.slice sa n cap] w (RetNat w (val B xs)) := by
  subst hl; exact own_any w sa cap xs hx hn hcap dx
theorem own_own_at (w : World) (sa : Option Addr) (n cap : Nat) (xs : List Nat) (hl : xs.length = n) (hx : Rdo w sa xs) (hn : n ≤ 1099511627776) (hcap : n ≤ cap) (dx : Dig B xs) :
    Calls Tryz.prog 42 #[.slice sa n cap] w (RetOwn w sa (val B xs)) := by
  subst hl; exact own_own w sa cap xs hx hn hcap dx
/-- A number stored into the call's own result, its limbs in new memory. -/
theorem ret_setF {w w' : World} {sa : Option Addr} {xs : List Nat} {n g : Nat} {c : Array Value} {t : TypeId} (hg : w.grownBy w' none) (hbox : w'.heap[g]? = some (.cells c t (0, 0))) (ht : t ≠ 71) (hl : w.heap.size ≤ g) (h : Lm w' sa xs) (hv : val B xs = n) (hf : ∀ ad, sa = some ad → w.heap.size ≤ ad.block) (u : Value) :
    RetFresh w n (.returned (.agg #[.slice sa xs.length xs.length])) (w'.setCell ⟨g, 0, none⟩ u) :=
  ⟨sa, xs, rfl, h.set_other hbox ht 0 u, hv, hf, grown_new hg (grown_set (grown_refl _ _) _ _) hl⟩
theorem fresh_of {s : Option Addr} {g n : Nat} (h : s = none ∨ s = some ⟨g, 0, none⟩) (hg : n ≤ g) : ∀ ad, s = some ad → n ≤ ad.block := by
  intro ad e
  rcases h with h | h
  · rw [h] at e; cases e
  · rw [h] at e; cases e; exact hg
theorem cut_at (w : World) (sa : Option Addr) (n cap : Nat) (xs : List Nat) (hl : xs.length = n) (hx : Rdo w sa xs) (hn : n ≤ 1099511627776) (hcap : n ≤ cap) :
    Calls Tryz.prog 73 #[.slice sa n cap] w (CutTo w sa xs) := by
  subst hl; exact cut_any w sa cap xs hx hn hcap
theorem Clone_at (w : World) (b off n cap : Nat) (cs : Array Value) (xs : List Nat) (hl : xs.length = n) (hb : Blk w b cs) (hx : At cs off xs) (h0 : 0 < n) (hn : n ≤ 1099511627776) :
    Calls Tryz.prog 84 #[.slice (some ⟨b, off, none⟩) n cap] w (Cloned w xs) := by
  subst hl; exact Clone_any w b off cap cs xs hb hx h0 hn
theorem Blk.raw {w : World} {b : Nat} {cs : Array Value} (h : Blk w b cs) : w.heap[b]? = some (.cells cs.toList.toArray 71 (0, 0)) := h
theorem copy_pos {w : World} {ls : Option Addr} {lx : List Nat} (h : Rdo w ls lx) (g : Nat) : 0 < (lx.map fun x : Nat => Value.int .u64 (x : Int)).length →
    some (⟨g, 0, none⟩ : Addr) = some ⟨g, 0, none⟩ ∧ ∃ ad, ls = some ad ∧ ∀ j v, (lx.map fun x : Nat => Value.int .u64 (x : Int))[j]? = some v → w.cell? (ad.add j) = some v := by
  intro h0
  obtain ⟨b, off, cs, rfl, h1, h2⟩ := h.get 0 (by simpa using h0)
  exact ⟨rfl, _, rfl, hat_limbs h1 h2⟩
theorem copy_len {lx : List Nat} {n m : Nat} (hn : lx.length = n) (h : n ≤ m) : (lx.map fun x : Nat => Value.int .u64 (x : Int)).length = Nat.min n m := by
  rw [List.length_map, hn]; exact (Nat.min_eq_left h).symm
theorem copy_fit {lx : List Nat} {n m : Nat} {cs : Array Value} (hn : lx.length = n) (hs : cs.size = m) (h : n ≤ m) : 0 + (lx.map fun x : Nat => Value.int .u64 (x : Int)).length ≤ cs.toList.length := by
  rw [List.length_map, hn, Array.length_toList, hs]; omega
theorem grown_then_below {w w1 w2 : World} {g : Nat} (h : w.grownBy w1 none) (k : Below g w1 w2) (hg : w.heap.size ≤ g) : w.grownBy w2 none :=
  ⟨k.os.trans h.os, k.tape.trans h.tape, k.output.trans h.output, Nat.le_trans h.size k.size, fun i hi hr => (k.block i (by omega)).trans (h.block i hi hr)⟩
theorem heap_below {w w' : World} {g b : Nat} {o : Obj} (k : Below g w w') (h : w.heap[b]? = some o) (hb : b < g) : w'.heap[b]? = some o := (k.block b hb).trans h
theorem heap_row {w w' : World} {g b : Nat} {o : Obj} (k : w.grownBy w' (some g)) (h : w.heap[b]? = some o) (hb : b ≠ g) : w'.heap[b]? = some o := (k.block b (Array.getElem?_eq_some_iff.1 h).1 (by simpa using hb)).trans h
theorem box_cell {w : World} {g : Nat} {v : Value} {t : TypeId} (h : w.heap[g]? = some (.cells #[v] t (0, 0))) : w.cell? ⟨g, 0, none⟩ = some v ∧ w.frozen? ⟨g, 0, none⟩ = false := by
  constructor <;> simp [World.cell?, World.frozen?, h]
theorem val_pad (xs : List Nat) : val B (xs ++ [0]) = val B xs := by rw [val_snoc]; simp
theorem carry_out {xs ys zs : List Nat} {c n : Nat} (dx : Dig B xs) (dy : Dig B ys) (hx : xs.length ≤ n) (hy : ys.length ≤ n) (h : val B zs + c * B ^ (n + 1) = val B (xs ++ [0]) + val B ys) : val B zs = val B xs + val B ys := by
  have h1 := val_lt B xs dx
  have h2 := val_lt B ys dy
  have h3 : B ^ xs.length ≤ B ^ n := Nat.pow_le_pow_right B_pos hx
  have h4 : B ^ ys.length ≤ B ^ n := Nat.pow_le_pow_right B_pos hy
  have h5 : B ^ (n + 1) = B ^ n * B := Nat.pow_succ ..
  have h6 : B ^ n * 2 ≤ B ^ n * B := Nat.mul_le_mul_left _ (by unfold B; omega)
  rw [val_pad] at h
  rcases Nat.eq_zero_or_pos c with rfl | hc
  · simpa using h
  · have : 1 * B ^ (n + 1) ≤ c * B ^ (n + 1) := Nat.mul_le_mul_right _ hc
    omega
theorem sizeU64 : (Tryz.prog.info? 71).map (·.size) = some 1 := by kernel_rfl

set_option maxHeartbeats 2000000 in
theorem Add_core (w : World) (ls ss : Option Addr) (lx sx : List Nat) (va vb : Value) (hl : Lm w ls lx) (hs : Lm w ss sx) (n m : Nat) (hn : lx.length = n) (hm : sx.length = m) (hmn : m ≤ n) (hb : n ≤ 1073741824)
    (hor : (va = .agg #[.slice ls n n] ∧ vb = .agg #[.slice ss m m] ∧ ¬ n < m) ∨ (va = .agg #[.slice ss m m] ∧ vb = .agg #[.slice ls n n] ∧ m < n)) :
    Calls Tryz.prog 78 #[va, vb] w (RetFresh w (val B lx + val B sx)) := by
  have Hn := Lib.hid hn
  have Hm := Lib.hid hm
  clear hn hm
  obtain ⟨i0, hi, hz0, hz1, hz2⟩ := info_parts Tryz.infoU64
  rcases hor with ⟨rfl, rfl, ho⟩ | ⟨rfl, rfl, ho⟩
  all_goals
    go_enter Tryz.func78, Tryz.ntmps78
    go_wp2_with fail
    go_quiet (fail)
    go_wp2_with (first | (at_make; refine wpList_make_full _ rfl _ _ 22 rfl _ 71 i0 (.int .u64 0) 1 Tryz.underlying22 hi hz0 hz1 .i64 .i64 _ _ (n + 1) rfl rfl (by omega) (by omega) (by rw [hz2]; omega) (by unfold maxLen; omega) (Nat.le_refl _) ?_; intro w1 hown hg1; obtain ⟨cs, hb1, hsz, hat⟩ := made_limbs hown; have HS := Lib.hid hsz; clear hsz hown; simp only [World.heap_drewN, World.size_alloc] at hb1; have hgw := grown_trans (grown_trans (grown_alloc (grown_alloc (World.grownBy_alloc w _ _) _) _) (grown_drewN _ _ none)) hg1; have hbox1 := heap_kept hg1 (heap_new ((w.alloc _).alloc _) _ (w.heap.size + 1 + 1) (by simp))) | (with_reducible show wpList _ _ _ _ _ _; refine wpList_copy_splice (o := ⟨some 25, _, _, _, _, _⟩) rfl _ _ _ _ rfl 71 Tryz.underlying22 sizeU64 _ _ _ _ _ _ rfl rfl _ 0 cs.toList 71 hb1.raw (lx.map fun x : Nat => Value.int .u64 (x : Int)) (copy_len Hn.out (Nat.le_succ n)) (copy_pos (hl.rd.kept hgw) _) (copy_fit Hn.out HS.out (Nat.le_succ n)) (one_limbs _) (w.heap.size + 1 + 1 + 1) w1 (Below.refl _ _) (Nat.le_refl _) ?_; intro w2 hblk2 hbel2))
    have hat2 := at_splice hat HS.out (by rw [Hn.out]; omega)
    rw [Hn.out, Nat.add_sub_cancel_left] at hat2
    have hgw2 := grown_then_below hgw hbel2 (by omega)
    have hbox2 := heap_below hbel2 hbox1 (by omega)
    refine (addTo_at _ _ 0 (n + 1) _ (lx ++ [0]) _ ss m _ sx (by rw [List.length_append, Hn.out]; rfl) Hm.out hblk2.out hat2 (((hs.rd.beside (by omega)).kept_none hgw2)) (by omega) (by omega) (hl.dig.snoc B_pos) hs.dig).mono ?_
    rintro e w3 ⟨c, zs, cs3, rfl, hb3, hw3, hg3, hl3, hd3, hc3, hv3⟩
    have hbox3 := heap_row hg3 hbox2 (by omega)
    have hgw3 := grown_new hgw2 hg3 (by omega)
    rw [List.length_append, Hn.out] at hl3 hv3
    have HV := Lib.hid (carry_out hl.dig hs.dig (by rw [Hn.out]; omega) (by rw [Hm.out]; omega) hv3)
    have HL := Lib.hid hl3
    clear hv3 hl3 hc3 hbox1 hbox2 hg1 hb1 hat hat2 hblk2 hbel2 hg3 hgw hgw2
    go_wp2_with fail
    refine (own_own_at _ _ (n + 1) _ zs HL.out (Rdo.of hb3 hw3.lies) (by omega) (Nat.le_refl _) hd3).mono ?_
    rintro e w4 ⟨sa, xs, rfl, hl4, hv4, hfr, hg4⟩
    have hbox4 := heap_kept hg4 hbox3
    obtain ⟨hc4, hf4⟩ := box_cell hbox4
    have hF := Lib.hid (ret_setF (grown_trans hgw3 hg4) hbox4 (by decide) (by omega) hl4 (hv4.trans HV.out) (fresh_of hfr (by omega)) (.slice sa xs.length xs.length))
    clear hv4 hbox4 hbox3 hg4 hgw3 hb3 hw3 hfr
    go_wp2_with fail
    exact bodyPost_ret (v := .agg #[.slice sa xs.length xs.length]) (by simp [results, Tryz.results78, go_sem, hc4]) rfl hF.out

theorem Add_fresh (w : World) (va vb : Value) (a b K : Nat) (ha : NatV w va a) (hb : NatV w vb b) (hK : K ≤ 1073741824) (la : a < B ^ K) (lb : b < B ^ K) :
    Calls Tryz.prog 78 #[va, vb] w (RetFresh w (a + b)) := by
  obtain ⟨sa, xs, rfl, hx, rfl⟩ := ha
  obtain ⟨sb, ys, rfl, hy, rfl⟩ := hb
  have h1 := hx.len la
  have h2 := hy.len lb
  by_cases h : xs.length < ys.length
  · rw [Nat.add_comm]
    exact Add_core w sb sa ys xs _ _ hy hx _ _ rfl rfl (by omega) (by omega) (Or.inr ⟨rfl, rfl, h⟩)
  · exact Add_core w sa sb xs ys _ _ hx hy _ _ rfl rfl (by omega) (by omega) (Or.inl ⟨rfl, rfl, h⟩)

theorem Add_any (w : World) (va vb : Value) (a b K : Nat) (ha : NatV w va a) (hb : NatV w vb b) (hK : K ≤ 1073741824) (la : a < B ^ K) (lb : b < B ^ K) :
    Calls Tryz.prog 78 #[va, vb] w (RetNat w (a + b)) :=
  (Add_fresh w va vb a b K ha hb hK la lb).mono fun _ _ h => h.nat

/-- What Cmp tells. -/
theorem compare_any (w : World) (sa sb : Option Addr) (xs ys : List Nat) (hx : Lm w sa xs) (hy : Lm w sb ys) (hn : xs.length ≤ 1099511627776) (hm : ys.length ≤ 1099511627776) :
    Calls Tryz.prog 82 #[.slice sa xs.length xs.length, .slice sb ys.length ys.length] w (Compared w (val B xs) (val B ys)) := by
  rcases Nat.lt_trichotomy xs.length ys.length with h | h | h
  · have := val_lt_of_length B B_pos xs ys hx.dig hy.top h
    refine (compare_less w sa sb _ _ _ _ h hn hm).mono ?_
    rintro e w' ⟨rfl, rfl⟩
    exact ⟨by rw [cmpInt_lt this], 0, rfl⟩
  · have := compare_same w sa sb xs.length ys.length xs ys xs.length hx.rd hy.rd rfl h.symm hn hx.dig hy.dig
    rw [← h]
    rw [← h] at this
    exact this
  · have := val_lt_of_length B B_pos ys xs hy.dig hx.top h
    refine (compare_more w sa sb _ _ _ _ h hn hm).mono ?_
    rintro e w' ⟨rfl, rfl⟩
    exact ⟨by rw [cmpInt_gt this], 0, rfl⟩

set_option maxHeartbeats 1000000 in
theorem Cmp_any (w : World) (va vb : Value) (a b K : Nat) (ha : NatV w va a) (hb : NatV w vb b) (hK : K ≤ 1073741824) (la : a < B ^ K) (lb : b < B ^ K) :
    Calls Tryz.prog 59 #[va, vb] w fun e w' => e = .returned (.int .i64 (cmpInt a b)) ∧ w.grownBy w' none := by
  obtain ⟨sa, xs, rfl, hx, rfl⟩ := ha
  obtain ⟨sb, ys, rfl, hy, rfl⟩ := hb
  have h1 := hx.len la
  have h2 := hy.len lb
  have hgw : w.grownBy ((w.alloc (.cells #[.slice sa xs.length xs.length] 24)).alloc (.cells #[.slice sb ys.length ys.length] 24)) none := grown_alloc (World.grownBy_alloc _ _ _) _
  go_enter Tryz.func59, Tryz.ntmps59
  go_wp2_with fail
  refine (compare_any _ sa sb xs ys (hx.kept hgw) (hy.kept hgw) (by omega) (by omega)).mono ?_
  rintro e w' ⟨rfl, q, rfl⟩
  go_wp2_with fail
  go_ret
  exact ⟨rfl, grown_trans hgw (grown_drewN _ _ _)⟩

/-- A number and an error are answered; what was there stays. -/
def RetNatE (w : World) (n : Nat) (code : Int) (e : Ending) (w' : World) : Prop := ∃ v, e = .returned (.tuple #[v, .int .i64 code]) ∧ NatV w' v n ∧ w.grownBy w' none

theorem NatV.zero (w : World) : NatV w (.agg #[.slice none 0 0]) 0 := ⟨none, [], rfl, ⟨Or.inl rfl, fun _ => rfl, by intro x hx; simp at hx, Dig.nil _⟩, rfl⟩
theorem ret_setE {w w' : World} {sa : Option Addr} {xs : List Nat} {n g : Nat} {c : Array Value} {t : TypeId} {code : Int} (hg : w.grownBy w' none) (hbox : w'.heap[g]? = some (.cells c t (0, 0))) (ht : t ≠ 71) (hl : w.heap.size ≤ g) (h : Lm w' sa xs) (hv : val B xs = n) (u : Value) :
    RetNatE w n code (.returned (.tuple #[.agg #[.slice sa xs.length xs.length], .int .i64 code])) (w'.setCell ⟨g, 0, none⟩ u) :=
  ⟨_, rfl, ⟨sa, xs, rfl, h.set_other hbox ht 0 u, hv⟩, grown_new hg (grown_set (grown_refl _ _) _ _) hl⟩

set_option maxHeartbeats 1000000 in
theorem Sub_less (w : World) (va vb : Value) (a b K : Nat) (ha : NatV w va a) (hb : NatV w vb b) (hK : K ≤ 1073741824) (la : a < B ^ K) (lb : b < B ^ K) (hlt : a < b) :
    Calls Tryz.prog 96 #[va, vb] w (RetNatE w 0 4) := by
  obtain ⟨sa, xs, rfl, hx, rfl⟩ := ha
  obtain ⟨sb, ys, rfl, hy, rfl⟩ := hb
  have h1 := hx.len la
  have h2 := hy.len lb
  have HC := Lib.hid (cmpInt_lt hlt)
  clear hlt
  have hgw : w.grownBy (((w.alloc (.cells #[.slice sa xs.length xs.length] 24)).alloc (.cells #[.slice sb ys.length ys.length] 24)).alloc (.cells #[.slice none 0 0] 24)) none := grown_alloc (grown_alloc (World.grownBy_alloc _ _ _) _) _
  go_enter Tryz.func96, Tryz.ntmps96
  go_wp2_with fail
  refine (compare_any _ sa sb xs ys (hx.kept hgw) (hy.kept hgw) (by omega) (by omega)).mono ?_
  rintro e w' ⟨rfl, q, rfl⟩
  rw [HC.out]
  go_wp2_with fail
  exact bodyPost_ret (v := .tuple #[.agg #[.slice none 0 0], .int .i64 4]) (by simp [results, Tryz.results96, go_sem]) rfl ⟨_, rfl, NatV.zero _, grown_new (g := w.heap.size + 1 + 1) (grown_trans hgw (grown_drewN _ _ _)) (grown_set (grown_refl _ _) _ _) (by omega)⟩

theorem val_pos_of {sa : Option Addr} {w : World} {xs : List Nat} (h : Lm w sa xs) (hp : 0 < val B xs) : 0 < xs.length := by
  rcases Nat.eq_zero_or_pos xs.length with h0 | h0
  · rw [List.length_eq_zero_iff] at h0; subst h0; simp [val] at hp
  · exact h0
theorem len_le_of {w : World} {sa sb : Option Addr} {xs ys : List Nat} (hx : Lm w sa xs) (hy : Lm w sb ys) (h : val B xs ≤ val B ys) : xs.length ≤ ys.length := by
  rcases Nat.lt_or_ge ys.length xs.length with h1 | h1
  · have := val_lt_of_length B B_pos ys xs hy.dig hx.top h1; omega
  · exact h1

theorem takeFrom_nil (w : World) : Calls Tryz.prog 104 #[.slice none 0 0, .slice none 0 0] w fun e w' => e = .returned (.tuple #[]) ∧ w = w' := by
  go_enter Tryz.func104, Tryz.ntmps104
  go_wp2_with fail
  refine wp_loop_rounds 1 ?_
  rw [rounds_succ]
  go_wp2_with fail
  refine wp_loop_rounds 1 ?_
  rw [rounds_succ]
  go_wp2_with fail
  go_end0
  exact ⟨rfl, rfl⟩

set_option maxHeartbeats 1000000 in
theorem Sub_some (w : World) (va vb : Value) (a b K : Nat) (ha : NatV w va a) (hb : NatV w vb b) (hK : K ≤ 1073741824) (la : a < B ^ K) (hle : b ≤ a) :
    Calls Tryz.prog 96 #[va, vb] w (RetNatE w (a - b) 0) := by
  obtain ⟨sa, xs, rfl, hx, rfl⟩ := ha
  obtain ⟨sb, ys, rfl, hy, rfl⟩ := hb
  have h1 := hx.len la
  have h2 := len_le_of hy hx hle
  have HD := Lib.hid hle
  have hC : 0 ≤ cmpInt (val B xs) (val B ys) := by
    rcases Nat.lt_or_ge (val B ys) (val B xs) with h | h
    · rw [cmpInt_gt h]; omega
    · rw [cmpInt_eq (by omega)]; omega
  generalize hcc : cmpInt (val B xs) (val B ys) = cc at hC
  have HC := Lib.hid hcc
  clear hle hcc la
  have hgw : w.grownBy (((w.alloc (.cells #[.slice sa xs.length xs.length] 24)).alloc (.cells #[.slice sb ys.length ys.length] 24)).alloc (.cells #[.slice none 0 0] 24)) none := grown_alloc (grown_alloc (World.grownBy_alloc _ _ _) _) _
  have hbox := heap_new ((w.alloc (.cells #[.slice sa xs.length xs.length] 24)).alloc (.cells #[.slice sb ys.length ys.length] 24)) (.cells #[.slice none 0 0] 24) (w.heap.size + 1 + 1) (by simp)
  have hboxb := (Below.heap_alloc _ (.cells #[.slice none 0 0] 24) (w.heap.size + 1) (by simp)).trans (heap_new (w.alloc (.cells #[.slice sa xs.length xs.length] 24)) (.cells #[.slice sb ys.length ys.length] 24) (w.heap.size + 1) (by simp))
  by_cases h0 : xs.length = 0
  · obtain rfl : xs = [] := List.length_eq_zero_iff.1 h0
    obtain rfl : ys = [] := List.length_eq_zero_iff.1 (by simpa using h2)
    obtain rfl := hx.nil rfl
    obtain rfl := hy.nil rfl
    clear h0 h1 h2
    simp only [List.length_nil] at hgw hbox hboxb ⊢
    go_enter Tryz.func96, Tryz.ntmps96
    go_wp2_with fail
    refine (compare_any _ none none [] [] (hx.kept hgw) (hy.kept hgw) (by simp) (by simp)).mono ?_
    rintro e w' ⟨rfl, q, rfl⟩
    rw [HC.out]
    go_wp2_with fail
    refine (Clone_nil _).mono ?_
    rintro e w' ⟨rfl, rfl⟩
    go_wp2_with fail
    refine (takeFrom_nil _).mono ?_
    rintro e w' ⟨rfl, rfl⟩
    go_wp2_with fail
    refine (own_at _ none 0 0 [] rfl (Or.inl rfl) (by omega) (by omega) (Dig.nil _)).mono ?_
    rintro e w4 ⟨v, rfl, ⟨sa, xs, rfl, hl4, hv4⟩, hg4⟩
    have hbox4 := heap_kept (grown_trans (grown_drewN _ _ none) hg4) hbox
    obtain ⟨hc4, hf4⟩ := box_cell hbox4
    have hF := Lib.hid (ret_setE (w := w) (n := 0) (code := 0) (grown_trans hgw (grown_trans (grown_drewN _ _ none) hg4)) hbox4 (by decide) (by omega) hl4 hv4 (.slice sa xs.length xs.length))
    clear hv4 hbox4 hg4 hgw hbox hboxb
    go_wp2_with fail
    exact bodyPost_ret (v := .tuple #[.agg #[.slice sa xs.length xs.length], .int .i64 0]) (by simp [results, Tryz.results96, go_sem, hc4]) rfl hF.out
  · obtain ⟨b1, o1, cs1, rfl, hb1, hat1⟩ := hx.rd.get 0 (by omega)
    go_enter Tryz.func96, Tryz.ntmps96
    go_wp2_with fail
    refine (compare_any _ (some ⟨b1, o1, none⟩) sb xs ys (hx.kept hgw) (hy.kept hgw) (by omega) (by omega)).mono ?_
    rintro e w' ⟨rfl, q, rfl⟩
    rw [HC.out]
    go_wp2_with fail
    refine (Clone_any _ b1 o1 _ cs1 xs (hb1.kept (grown_trans hgw (grown_drewN _ _ none)) (by simp)) hat1 (by omega) (by omega)).mono ?_
    rintro e w2 ⟨g, cap, cs2, rfl, hge, hb2, hat2, hcap, hg2⟩
    have hge' : w.heap.size + 1 + 1 + 1 ≤ g := by simpa using hge
    have hgw2 := grown_trans (grown_trans hgw (grown_drewN _ q none)) hg2
    have hbox2 := heap_kept (grown_trans (grown_drewN _ _ none) hg2) hbox
    obtain ⟨hcb, hfb⟩ := box_cell (heap_kept (grown_trans (grown_drewN _ _ none) hg2) hboxb)
    clear hge hg2 hbox hboxb
    obtain ⟨hc2, hf2⟩ := box_cell hbox2
    go_wp2_with fail
    refine (takeFrom_at _ g 0 _ _ xs cs2 sb _ _ ys rfl rfl hb2 hat2 ((hy.rd.beside (by omega)).kept_none hgw2) h2 (by omega) hx.dig hy.dig HD.out).mono ?_
    rintro e w3 ⟨zs, cs3, rfl, hb3, hw3, hg3, hl3, hd3, hv3⟩
    have hbox3 := heap_row hg3 hbox2 (by omega)
    have hgw3 := grown_new hgw2 hg3 (by omega)
    have HV := Lib.hid (show val B zs = val B xs - val B ys by omega)
    have HL := Lib.hid hl3
    clear hv3 hl3 hbox2 hgw2 hg3 hb2 hat2 hc2 hf2 hcb hfb
    go_wp2_with fail
    refine (own_at _ _ _ _ zs HL.out (Rdo.of hb3 hw3.lies) (by omega) (by omega) hd3).mono ?_
    rintro e w4 ⟨v, rfl, ⟨sa, zs2, rfl, hl4, hv4⟩, hg4⟩
    have hbox4 := heap_kept hg4 hbox3
    obtain ⟨hc4, hf4⟩ := box_cell hbox4
    have hF := Lib.hid (ret_setE (code := 0) (grown_trans hgw3 hg4) hbox4 (by decide) (by omega) hl4 (hv4.trans HV.out) (.slice sa zs2.length zs2.length))
    clear hv4 hbox4 hbox3 hg4 hgw3 hb3 hw3
    go_wp2_with fail
    exact bodyPost_ret (v := .tuple #[.agg #[.slice sa zs2.length zs2.length], .int .i64 0]) (by simp [results, Tryz.results96, go_sem, hc4]) rfl hF.out
end Go.Proofs.YtldkddogadmpbaaGreatDoor
