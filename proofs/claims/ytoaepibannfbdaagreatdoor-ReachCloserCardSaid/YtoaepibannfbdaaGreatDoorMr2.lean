/- What the laws lean on, part 2. -/
import Derived.BigQuiet
import Derived.Deep.LoopGhost
import Derived.Deep.QuietTactic
import Derived.Deep.RegionHeld3
import Derived.Laws.CopyOwn
import Derived.Laws.Externs
import Derived.Lib.Hide
import Derived.Outline
import Derived.Shelf.Bits.Mul64
import Derived.StillTailTactics
import Derived.WalkKit
import Derived.WalkLawsBesides
import Derived.WalkSpells
import Derived.Test.YtoaepibannfbdaaGreatDoorProg
import Derived.Test.YtoaepibannfbdaaGreatDoorMr1
namespace Go.Proofs.YtoaepibannfbdaaGreatDoor
open Go.RowKit Mat
set_option maxRecDepth 100000
set_option linter.unusedVariables false
set_option linter.unusedSimpArgs false
theorem made_limbs {w : World} {g n : Nat} (h : w.ownsRow g 114 1 (.slice (some ⟨g, 0, none⟩) n n) n (madeCells #[.int .u64 0] (n * 1)).toList) :
    ∃ cs, Blk w g cs ∧ cs.size = n ∧ At cs 0 (List.replicate n 0) := by
  obtain ⟨_, ⟨h, _⟩ | ⟨g', cap, cur, hv, hg, hh, hle, hm, hs, ht⟩⟩ := h
  · cases h
  · simp only [Value.slice.injEq, Option.some.injEq, Addr.mk.injEq] at hv
    obtain ⟨⟨rfl, _⟩, _, rfl⟩ := hv
    refine ⟨cur, hh, by simpa using hs, ?_⟩
    intro i hi
    rw [List.length_replicate] at hi
    have e1 : (cur.toList.take (n * 1))[i]? = some (.int .u64 0) := by
      rw [ht, Array.getElem?_toList]
      simp [madeCells, hi]
      rw [Nat.mod_one]; rfl
    rw [List.getElem?_take_of_lt (by omega)] at e1
    simpa using e1
theorem at_splice {cs : Array Value} {xs : List Nat} {m : Nat} (h : At cs 0 (List.replicate m 0)) (hm : cs.size = m) (hl : xs.length ≤ m) :
    At (splice cs.toList 0 (xs.map fun x : Nat => Value.int .u64 (x : Int))).toArray 0 (xs ++ List.replicate (m - xs.length) 0) := by
  intro i hi
  simp only [List.length_append, List.length_replicate] at hi
  simp only [splice, List.take_zero, List.nil_append, Nat.zero_add, List.length_map]
  rw [List.getElem?_toArray]
  by_cases h2 : i < xs.length
  · rw [List.getElem?_append_left (by simpa using h2), List.getElem_append_left h2]; simp [h2]
  · rw [List.getElem?_append_right (by simpa using h2), List.getElem_append_right (by omega)]
    have := h i (by simp; omega)
    simp only [Nat.zero_add, List.getElem_replicate] at this
    simp only [List.length_map, List.getElem?_drop, List.getElem_replicate]
    rw [show xs.length + (i - xs.length) = i from by omega]
    simpa using this
theorem Lm.len {w : World} {sa : Option Addr} {xs : List Nat} (h : Lm w sa xs) {K : Nat} (hK : val B xs < B ^ K) : xs.length ≤ K := by
  rcases Nat.lt_or_ge K xs.length with h1 | h1
  · have h2 := val_ge B xs (by rintro rfl; simp at h1) h.top
    have h3 : B ^ K ≤ B ^ (xs.length - 1) := Nat.pow_le_pow_right B_pos (by omega)
    omega
  · exact h1
theorem hat_limbs {w : World} {b off : Nat} {cs : Array Value} {xs : List Nat} (hb : Blk w b cs) (hx : At cs off xs) :
    ∀ j u, (xs.map fun x : Nat => Value.int .u64 (x : Int))[j]? = some u → w.cell? ((⟨b, off, none⟩ : Addr).add j) = some u := by
  intro j u hj
  rw [List.getElem?_map] at hj
  cases e : xs[j]? with
  | none => rw [e] at hj; cases hj
  | some x =>
    rw [e] at hj
    obtain ⟨hlt, ex⟩ := List.getElem?_eq_some_iff.1 e
    have := hb.at hx j hlt
    have e2 : (⟨b, off, none⟩ : Addr).add j = ⟨b, off + j, none⟩ := by unfold Addr.add; split <;> simp_all
    rw [e2, this, ex]; exact hj
theorem one_limbs (xs : List Nat) : ∀ v ∈ (xs.map fun x : Nat => Value.int .u64 (x : Int)), v.oneCell' = true := by
  intro u hu; simp at hu; obtain ⟨a, _, rfl⟩ := hu; rfl
theorem addTo_at (w : World) (b off n cap : Nat) (xs : List Nat) (cs : Array Value) (sa : Option Addr) (m cap2 : Nat) (ys : List Nat) (hn : xs.length = n) (hmm : ys.length = m)
    (hb : Blk w b cs) (hx : At cs off xs) (hs : Rd w sa ys b) (hl : m ≤ n) (hm : n ≤ 1099511627776) (dx : Dig B xs) (dy : Dig B ys) :
    Calls Tryz.prog 162 #[.slice (some ⟨b, off, none⟩) n cap, .slice sa m cap2] w (AddedTo w b off xs ys cs) := by
  subst hn; subst hmm; exact addTo_any w b off cap xs cs sa cap2 ys hb hx hs hl hm dx dy
theorem takeFrom_at (w : World) (b off n cap : Nat) (xs : List Nat) (cs : Array Value) (sa : Option Addr) (m cap2 : Nat) (ys : List Nat) (hn : xs.length = n) (hmm : ys.length = m)
    (hb : Blk w b cs) (hx : At cs off xs) (hs : Rd w sa ys b) (hl : m ≤ n) (hm : n ≤ 1099511627776) (dx : Dig B xs) (dy : Dig B ys) (hle : val B ys ≤ val B xs) :
    Calls Tryz.prog 163 #[.slice (some ⟨b, off, none⟩) n cap, .slice sa m cap2] w (TookFrom w b off xs ys cs) := by
  subst hn; subst hmm; exact takeFrom_any w b off cap xs cs sa cap2 ys hb hx hs hl hm dx dy hle
theorem own_at (w : World) (sa : Option Addr) (n cap : Nat) (xs : List Nat) (hl : xs.length = n) (hx : Rdo w sa xs) (hn : n ≤ 1099511627776) (hcap : n ≤ cap) (dx : Dig B xs) :
    Calls Tryz.prog 117 #[.slice sa n cap] w (RetNat w (val B xs)) := by
  subst hl; exact own_any w sa cap xs hx hn hcap dx
theorem own_own_at (w : World) (sa : Option Addr) (n cap : Nat) (xs : List Nat) (hl : xs.length = n) (hx : Rdo w sa xs) (hn : n ≤ 1099511627776) (hcap : n ≤ cap) (dx : Dig B xs) :
    Calls Tryz.prog 117 #[.slice sa n cap] w (RetOwn w sa (val B xs)) := by
  subst hl; exact own_own w sa cap xs hx hn hcap dx
theorem ret_setF {w w' : World} {sa : Option Addr} {xs : List Nat} {n g : Nat} {c : Array Value} {t : TypeId} (hg : w.grownBy w' none) (hbox : w'.heap[g]? = some (.cells c t (0, 0))) (ht : t ≠ 114) (hl : w.heap.size ≤ g) (h : Lm w' sa xs) (hv : val B xs = n) (hf : ∀ ad, sa = some ad → w.heap.size ≤ ad.block) (u : Value) :
    RetFresh w n (.returned (.agg #[.slice sa xs.length xs.length])) (w'.setCell ⟨g, 0, none⟩ u) :=
  ⟨sa, xs, rfl, h.set_other hbox ht 0 u, hv, hf, grown_new hg (grown_set (grown_refl _ _) _ _) hl⟩
theorem fresh_of {s : Option Addr} {g n : Nat} (h : s = none ∨ s = some ⟨g, 0, none⟩) (hg : n ≤ g) : ∀ ad, s = some ad → n ≤ ad.block := by
  intro ad e
  rcases h with h | h
  · rw [h] at e; cases e
  · rw [h] at e; cases e; exact hg
theorem cut_at (w : World) (sa : Option Addr) (n cap : Nat) (xs : List Nat) (hl : xs.length = n) (hx : Rdo w sa xs) (hn : n ≤ 1099511627776) (hcap : n ≤ cap) :
    Calls Tryz.prog 133 #[.slice sa n cap] w (CutTo w sa xs) := by
  subst hl; exact cut_any w sa cap xs hx hn hcap
theorem Clone_at (w : World) (b off n cap : Nat) (cs : Array Value) (xs : List Nat) (hl : xs.length = n) (hb : Blk w b cs) (hx : At cs off xs) (h0 : 0 < n) (hn : n ≤ 1099511627776) :
    Calls Tryz.prog 131 #[.slice (some ⟨b, off, none⟩) n cap] w (Cloned w xs) := by
  subst hl; exact Clone_any w b off cap cs xs hb hx h0 hn
theorem Blk.raw {w : World} {b : Nat} {cs : Array Value} (h : Blk w b cs) : w.heap[b]? = some (.cells cs.toList.toArray 114 (0, 0)) := h
theorem copy_pos {w : World} {ls : Option Addr} {lx : List Nat} (h : Rdo w ls lx) (g : Nat) : 0 < (lx.map fun x : Nat => Value.int .u64 (x : Int)).length →
    some (⟨g, 0, none⟩ : Addr) = some ⟨g, 0, none⟩ ∧ ∃ ad, ls = some ad ∧ ∀ j v, (lx.map fun x : Nat => Value.int .u64 (x : Int))[j]? = some v → w.cell? (ad.add j) = some v := by
  intro h0
  obtain ⟨b, off, cs, rfl, h1, h2⟩ := h.get 0 (by simpa using h0)
  exact ⟨rfl, _, rfl, hat_limbs h1 h2⟩
theorem copy_len {lx : List Nat} {n m : Nat} (hn : lx.length = n) (h : n ≤ m) : (lx.map fun x : Nat => Value.int .u64 (x : Int)).length = Nat.min n m := by
  rw [List.length_map, hn]; exact (Nat.min_eq_left h).symm
theorem copy_fit {lx : List Nat} {n m : Nat} {cs : Array Value} (hn : lx.length = n) (hs : cs.size = m) (h : n ≤ m) : 0 + (lx.map fun x : Nat => Value.int .u64 (x : Int)).length ≤ cs.toList.length := by
  rw [List.length_map, hn, Array.length_toList, hs]; omega
theorem grown_then_below {w w1 w2 : World} {g : Nat} (h : w.grownBy w1 none) (k : Below g w1 w2) (hg : w.heap.size ≤ g) : w.grownBy w2 none :=
  ⟨k.os.trans h.os, k.tape.trans h.tape, k.output.trans h.output, Nat.le_trans h.size k.size, fun i hi hr => (k.block i (by omega)).trans (h.block i hi hr)⟩
theorem heap_below {w w' : World} {g b : Nat} {o : Obj} (k : Below g w w') (h : w.heap[b]? = some o) (hb : b < g) : w'.heap[b]? = some o := (k.block b hb).trans h
theorem heap_row {w w' : World} {g b : Nat} {o : Obj} (k : w.grownBy w' (some g)) (h : w.heap[b]? = some o) (hb : b ≠ g) : w'.heap[b]? = some o := (k.block b (Array.getElem?_eq_some_iff.1 h).1 (by simpa using hb)).trans h
theorem box_cell {w : World} {g : Nat} {v : Value} {t : TypeId} (h : w.heap[g]? = some (.cells #[v] t (0, 0))) : w.cell? ⟨g, 0, none⟩ = some v ∧ w.frozen? ⟨g, 0, none⟩ = false := by
  constructor <;> simp [World.cell?, World.frozen?, h]
theorem val_pad (xs : List Nat) : val B (xs ++ [0]) = val B xs := by rw [val_snoc]; simp
theorem carry_out {xs ys zs : List Nat} {c n : Nat} (dx : Dig B xs) (dy : Dig B ys) (hx : xs.length ≤ n) (hy : ys.length ≤ n) (h : val B zs + c * B ^ (n + 1) = val B (xs ++ [0]) + val B ys) : val B zs = val B xs + val B ys := by
  have h1 := val_lt B xs dx
  have h2 := val_lt B ys dy
  have h3 : B ^ xs.length ≤ B ^ n := Nat.pow_le_pow_right B_pos hx
  have h4 : B ^ ys.length ≤ B ^ n := Nat.pow_le_pow_right B_pos hy
  have h5 : B ^ (n + 1) = B ^ n * B := Nat.pow_succ ..
  have h6 : B ^ n * 2 ≤ B ^ n * B := Nat.mul_le_mul_left _ (by unfold B; omega)
  rw [val_pad] at h
  rcases Nat.eq_zero_or_pos c with rfl | hc
  · simpa using h
  · have : 1 * B ^ (n + 1) ≤ c * B ^ (n + 1) := Nat.mul_le_mul_right _ hc
    omega
theorem sizeU64 : (Tryz.prog.info? 114).map (·.size) = some 1 := by kernel_rfl
set_option maxHeartbeats 2000000 in
theorem Add_core (w : World) (ls ss : Option Addr) (lx sx : List Nat) (va vb : Value) (hl : Lm w ls lx) (hs : Lm w ss sx) (n m : Nat) (hn : lx.length = n) (hm : sx.length = m) (hmn : m ≤ n) (hb : n ≤ 1073741824)
    (hor : (va = .agg #[.slice ls n n] ∧ vb = .agg #[.slice ss m m] ∧ ¬ n < m) ∨ (va = .agg #[.slice ss m m] ∧ vb = .agg #[.slice ls n n] ∧ m < n)) :
    Calls Tryz.prog 150 #[va, vb] w (RetFresh w (val B lx + val B sx)) := by
  have Hn := Lib.hid hn
  have Hm := Lib.hid hm
  clear hn hm
  obtain ⟨i0, hi, hz0, hz1, hz2⟩ := info_parts Tryz.infoU64
  rcases hor with ⟨rfl, rfl, ho⟩ | ⟨rfl, rfl, ho⟩
  all_goals
    go_enter Tryz.func150, Tryz.ntmps150
    go_wp2_with fail
    go_quiet (fail)
    go_wp2_with (first | (at_make; refine wpList_make_full _ rfl _ _ 25 rfl _ 114 i0 (.int .u64 0) 1 Tryz.underlying25 hi hz0 hz1 .i64 .i64 _ _ (n + 1) rfl rfl (by omega) (by omega) (by rw [hz2]; omega) (by unfold maxLen; omega) (Nat.le_refl _) ?_; intro w1 hown hg1; obtain ⟨cs, hb1, hsz, hat⟩ := made_limbs hown; have HS := Lib.hid hsz; clear hsz hown; simp only [World.heap_drewN, World.size_alloc] at hb1; have hgw := grown_trans (grown_trans (grown_alloc (grown_alloc (World.grownBy_alloc w _ _) _) _) (grown_drewN _ _ none)) hg1; have hbox1 := heap_kept hg1 (heap_new ((w.alloc _).alloc _) _ (w.heap.size + 1 + 1) (by simp))) | (with_reducible show wpList _ _ _ _ _ _; refine wpList_copy_splice (o := ⟨some 25, _, _, _, _, _⟩) rfl _ _ _ _ rfl 114 Tryz.underlying25 sizeU64 _ _ _ _ _ _ rfl rfl _ 0 cs.toList 114 hb1.raw (lx.map fun x : Nat => Value.int .u64 (x : Int)) (copy_len Hn.out (Nat.le_succ n)) (copy_pos (hl.rd.kept hgw) _) (copy_fit Hn.out HS.out (Nat.le_succ n)) (one_limbs _) (w.heap.size + 1 + 1 + 1) w1 (Below.refl _ _) (Nat.le_refl _) ?_; intro w2 hblk2 hbel2))
    have hat2 := at_splice hat HS.out (by rw [Hn.out]; omega)
    rw [Hn.out, Nat.add_sub_cancel_left] at hat2
    have hgw2 := grown_then_below hgw hbel2 (by omega)
    have hbox2 := heap_below hbel2 hbox1 (by omega)
    refine (addTo_at _ _ 0 (n + 1) _ (lx ++ [0]) _ ss m _ sx (by rw [List.length_append, Hn.out]; rfl) Hm.out hblk2.out hat2 (((hs.rd.beside (by omega)).kept_none hgw2)) (by omega) (by omega) (hl.dig.snoc B_pos) hs.dig).mono ?_
    rintro e w3 ⟨c, zs, cs3, rfl, hb3, hw3, hg3, hl3, hd3, hc3, hv3⟩
    have hbox3 := heap_row hg3 hbox2 (by omega)
    have hgw3 := grown_new hgw2 hg3 (by omega)
    rw [List.length_append, Hn.out] at hl3 hv3
    have HV := Lib.hid (carry_out hl.dig hs.dig (by rw [Hn.out]; omega) (by rw [Hm.out]; omega) hv3)
    have HL := Lib.hid hl3
    clear hv3 hl3 hc3 hbox1 hbox2 hg1 hb1 hat hat2 hblk2 hbel2 hg3 hgw hgw2
    go_wp2_with fail
    refine (own_own_at _ _ (n + 1) _ zs HL.out (Rdo.of hb3 hw3.lies) (by omega) (Nat.le_refl _) hd3).mono ?_
    rintro e w4 ⟨sa, xs, rfl, hl4, hv4, hfr, hg4⟩
    have hbox4 := heap_kept hg4 hbox3
    obtain ⟨hc4, hf4⟩ := box_cell hbox4
    have hF := Lib.hid (ret_setF (grown_trans hgw3 hg4) hbox4 (by decide) (by omega) hl4 (hv4.trans HV.out) (fresh_of hfr (by omega)) (.slice sa xs.length xs.length))
    clear hv4 hbox4 hbox3 hg4 hgw3 hb3 hw3 hfr
    go_wp2_with fail
    exact bodyPost_ret (v := .agg #[.slice sa xs.length xs.length]) (by simp [results, Tryz.results150, go_sem, hc4]) rfl hF.out
theorem Add_fresh (w : World) (va vb : Value) (a b K : Nat) (ha : NatV w va a) (hb : NatV w vb b) (hK : K ≤ 1073741824) (la : a < B ^ K) (lb : b < B ^ K) :
    Calls Tryz.prog 150 #[va, vb] w (RetFresh w (a + b)) := by
  obtain ⟨sa, xs, rfl, hx, rfl⟩ := ha
  obtain ⟨sb, ys, rfl, hy, rfl⟩ := hb
  have h1 := hx.len la
  have h2 := hy.len lb
  by_cases h : xs.length < ys.length
  · rw [Nat.add_comm]
    exact Add_core w sb sa ys xs _ _ hy hx _ _ rfl rfl (by omega) (by omega) (Or.inr ⟨rfl, rfl, h⟩)
  · exact Add_core w sa sb xs ys _ _ hx hy _ _ rfl rfl (by omega) (by omega) (Or.inl ⟨rfl, rfl, h⟩)
theorem Add_any (w : World) (va vb : Value) (a b K : Nat) (ha : NatV w va a) (hb : NatV w vb b) (hK : K ≤ 1073741824) (la : a < B ^ K) (lb : b < B ^ K) :
    Calls Tryz.prog 150 #[va, vb] w (RetNat w (a + b)) :=
  (Add_fresh w va vb a b K ha hb hK la lb).mono fun _ _ h => h.nat
theorem compare_any (w : World) (sa sb : Option Addr) (xs ys : List Nat) (hx : Lm w sa xs) (hy : Lm w sb ys) (hn : xs.length ≤ 1099511627776) (hm : ys.length ≤ 1099511627776) :
    Calls Tryz.prog 142 #[.slice sa xs.length xs.length, .slice sb ys.length ys.length] w (Compared w (val B xs) (val B ys)) := by
  rcases Nat.lt_trichotomy xs.length ys.length with h | h | h
  · have := val_lt_of_length B B_pos xs ys hx.dig hy.top h
    refine (compare_less w sa sb _ _ _ _ h hn hm).mono ?_
    rintro e w' ⟨rfl, rfl⟩
    exact ⟨by rw [cmpInt_lt this], 0, rfl⟩
  · have := compare_same w sa sb xs.length ys.length xs ys xs.length hx.rd hy.rd rfl h.symm hn hx.dig hy.dig
    rw [← h]
    rw [← h] at this
    exact this
  · have := val_lt_of_length B B_pos ys xs hy.dig hx.top h
    refine (compare_more w sa sb _ _ _ _ h hn hm).mono ?_
    rintro e w' ⟨rfl, rfl⟩
    exact ⟨by rw [cmpInt_gt this], 0, rfl⟩
set_option maxHeartbeats 1000000 in
theorem Cmp_any (w : World) (va vb : Value) (a b K : Nat) (ha : NatV w va a) (hb : NatV w vb b) (hK : K ≤ 1073741824) (la : a < B ^ K) (lb : b < B ^ K) :
    Calls Tryz.prog 118 #[va, vb] w fun e w' => e = .returned (.int .i64 (cmpInt a b)) ∧ w.grownBy w' none := by
  obtain ⟨sa, xs, rfl, hx, rfl⟩ := ha
  obtain ⟨sb, ys, rfl, hy, rfl⟩ := hb
  have h1 := hx.len la
  have h2 := hy.len lb
  have hgw : w.grownBy ((w.alloc (.cells #[.slice sa xs.length xs.length] 27)).alloc (.cells #[.slice sb ys.length ys.length] 27)) none := grown_alloc (World.grownBy_alloc _ _ _) _
  go_enter Tryz.func118, Tryz.ntmps118
  go_wp2_with fail
  refine (compare_any _ sa sb xs ys (hx.kept hgw) (hy.kept hgw) (by omega) (by omega)).mono ?_
  rintro e w' ⟨rfl, q, rfl⟩
  go_wp2_with fail
  go_ret
  exact ⟨rfl, grown_trans hgw (grown_drewN _ _ _)⟩
def RetNatE (w : World) (n : Nat) (code : Int) (e : Ending) (w' : World) : Prop := ∃ v, e = .returned (.tuple #[v, .int .i64 code]) ∧ NatV w' v n ∧ w.grownBy w' none
theorem NatV.zero (w : World) : NatV w (.agg #[.slice none 0 0]) 0 := ⟨none, [], rfl, ⟨Or.inl rfl, fun _ => rfl, by intro x hx; simp at hx, Dig.nil _⟩, rfl⟩
theorem ret_setE {w w' : World} {sa : Option Addr} {xs : List Nat} {n g : Nat} {c : Array Value} {t : TypeId} {code : Int} (hg : w.grownBy w' none) (hbox : w'.heap[g]? = some (.cells c t (0, 0))) (ht : t ≠ 114) (hl : w.heap.size ≤ g) (h : Lm w' sa xs) (hv : val B xs = n) (u : Value) :
    RetNatE w n code (.returned (.tuple #[.agg #[.slice sa xs.length xs.length], .int .i64 code])) (w'.setCell ⟨g, 0, none⟩ u) :=
  ⟨_, rfl, ⟨sa, xs, rfl, h.set_other hbox ht 0 u, hv⟩, grown_new hg (grown_set (grown_refl _ _) _ _) hl⟩
set_option maxHeartbeats 1000000 in
theorem Sub_less (w : World) (va vb : Value) (a b K : Nat) (ha : NatV w va a) (hb : NatV w vb b) (hK : K ≤ 1073741824) (la : a < B ^ K) (lb : b < B ^ K) (hlt : a < b) :
    Calls Tryz.prog 151 #[va, vb] w (RetNatE w 0 4) := by
  obtain ⟨sa, xs, rfl, hx, rfl⟩ := ha
  obtain ⟨sb, ys, rfl, hy, rfl⟩ := hb
  have h1 := hx.len la
  have h2 := hy.len lb
  have HC := Lib.hid (cmpInt_lt hlt)
  clear hlt
  have hgw : w.grownBy (((w.alloc (.cells #[.slice sa xs.length xs.length] 27)).alloc (.cells #[.slice sb ys.length ys.length] 27)).alloc (.cells #[.slice none 0 0] 27)) none := grown_alloc (grown_alloc (World.grownBy_alloc _ _ _) _) _
  go_enter Tryz.func151, Tryz.ntmps151
  go_wp2_with fail
  refine (compare_any _ sa sb xs ys (hx.kept hgw) (hy.kept hgw) (by omega) (by omega)).mono ?_
  rintro e w' ⟨rfl, q, rfl⟩
  rw [HC.out]
  go_wp2_with fail
  exact bodyPost_ret (v := .tuple #[.agg #[.slice none 0 0], .int .i64 4]) (by simp [results, Tryz.results151, go_sem]) rfl ⟨_, rfl, NatV.zero _, grown_new (g := w.heap.size + 1 + 1) (grown_trans hgw (grown_drewN _ _ _)) (grown_set (grown_refl _ _) _ _) (by omega)⟩
theorem val_pos_of {sa : Option Addr} {w : World} {xs : List Nat} (h : Lm w sa xs) (hp : 0 < val B xs) : 0 < xs.length := by
  rcases Nat.eq_zero_or_pos xs.length with h0 | h0
  · rw [List.length_eq_zero_iff] at h0; subst h0; simp [val] at hp
  · exact h0
theorem len_le_of {w : World} {sa sb : Option Addr} {xs ys : List Nat} (hx : Lm w sa xs) (hy : Lm w sb ys) (h : val B xs ≤ val B ys) : xs.length ≤ ys.length := by
  rcases Nat.lt_or_ge ys.length xs.length with h1 | h1
  · have := val_lt_of_length B B_pos ys xs hy.dig hx.top h1; omega
  · exact h1
theorem takeFrom_nil (w : World) : Calls Tryz.prog 163 #[.slice none 0 0, .slice none 0 0] w fun e w' => e = .returned (.tuple #[]) ∧ w = w' := by
  go_enter Tryz.func163, Tryz.ntmps163
  go_wp2_with fail
  refine wp_loop_rounds 1 ?_
  rw [rounds_succ]
  go_wp2_with fail
  refine wp_loop_rounds 1 ?_
  rw [rounds_succ]
  go_wp2_with fail
  go_end0
  exact ⟨rfl, rfl⟩
set_option maxHeartbeats 1000000 in
theorem Sub_some (w : World) (va vb : Value) (a b K : Nat) (ha : NatV w va a) (hb : NatV w vb b) (hK : K ≤ 1073741824) (la : a < B ^ K) (hle : b ≤ a) :
    Calls Tryz.prog 151 #[va, vb] w (RetNatE w (a - b) 0) := by
  obtain ⟨sa, xs, rfl, hx, rfl⟩ := ha
  obtain ⟨sb, ys, rfl, hy, rfl⟩ := hb
  have h1 := hx.len la
  have h2 := len_le_of hy hx hle
  have HD := Lib.hid hle
  have hC : 0 ≤ cmpInt (val B xs) (val B ys) := by
    rcases Nat.lt_or_ge (val B ys) (val B xs) with h | h
    · rw [cmpInt_gt h]; omega
    · rw [cmpInt_eq (by omega)]; omega
  generalize hcc : cmpInt (val B xs) (val B ys) = cc at hC
  have HC := Lib.hid hcc
  clear hle hcc la
  have hgw : w.grownBy (((w.alloc (.cells #[.slice sa xs.length xs.length] 27)).alloc (.cells #[.slice sb ys.length ys.length] 27)).alloc (.cells #[.slice none 0 0] 27)) none := grown_alloc (grown_alloc (World.grownBy_alloc _ _ _) _) _
  have hbox := heap_new ((w.alloc (.cells #[.slice sa xs.length xs.length] 27)).alloc (.cells #[.slice sb ys.length ys.length] 27)) (.cells #[.slice none 0 0] 27) (w.heap.size + 1 + 1) (by simp)
  have hboxb := (Below.heap_alloc _ (.cells #[.slice none 0 0] 27) (w.heap.size + 1) (by simp)).trans (heap_new (w.alloc (.cells #[.slice sa xs.length xs.length] 27)) (.cells #[.slice sb ys.length ys.length] 27) (w.heap.size + 1) (by simp))
  by_cases h0 : xs.length = 0
  · obtain rfl : xs = [] := List.length_eq_zero_iff.1 h0
    obtain rfl : ys = [] := List.length_eq_zero_iff.1 (by simpa using h2)
    obtain rfl := hx.nil rfl
    obtain rfl := hy.nil rfl
    clear h0 h1 h2
    simp only [List.length_nil] at hgw hbox hboxb ⊢
    go_enter Tryz.func151, Tryz.ntmps151
    go_wp2_with fail
    refine (compare_any _ none none [] [] (hx.kept hgw) (hy.kept hgw) (by simp) (by simp)).mono ?_
    rintro e w' ⟨rfl, q, rfl⟩
    rw [HC.out]
    go_wp2_with fail
    refine (Clone_nil _).mono ?_
    rintro e w' ⟨rfl, rfl⟩
    go_wp2_with fail
    refine (takeFrom_nil _).mono ?_
    rintro e w' ⟨rfl, rfl⟩
    go_wp2_with fail
    refine (own_at _ none 0 0 [] rfl (Or.inl rfl) (by omega) (by omega) (Dig.nil _)).mono ?_
    rintro e w4 ⟨v, rfl, ⟨sa, xs, rfl, hl4, hv4⟩, hg4⟩
    have hbox4 := heap_kept (grown_trans (grown_drewN _ _ none) hg4) hbox
    obtain ⟨hc4, hf4⟩ := box_cell hbox4
    have hF := Lib.hid (ret_setE (w := w) (n := 0) (code := 0) (grown_trans hgw (grown_trans (grown_drewN _ _ none) hg4)) hbox4 (by decide) (by omega) hl4 hv4 (.slice sa xs.length xs.length))
    clear hv4 hbox4 hg4 hgw hbox hboxb
    go_wp2_with fail
    exact bodyPost_ret (v := .tuple #[.agg #[.slice sa xs.length xs.length], .int .i64 0]) (by simp [results, Tryz.results151, go_sem, hc4]) rfl hF.out
  · obtain ⟨b1, o1, cs1, rfl, hb1, hat1⟩ := hx.rd.get 0 (by omega)
    go_enter Tryz.func151, Tryz.ntmps151
    go_wp2_with fail
    refine (compare_any _ (some ⟨b1, o1, none⟩) sb xs ys (hx.kept hgw) (hy.kept hgw) (by omega) (by omega)).mono ?_
    rintro e w' ⟨rfl, q, rfl⟩
    rw [HC.out]
    go_wp2_with fail
    refine (Clone_any _ b1 o1 _ cs1 xs (hb1.kept (grown_trans hgw (grown_drewN _ _ none)) (by simp)) hat1 (by omega) (by omega)).mono ?_
    rintro e w2 ⟨g, cap, cs2, rfl, hge, hb2, hat2, hcap, hg2⟩
    have hge' : w.heap.size + 1 + 1 + 1 ≤ g := by simpa using hge
    have hgw2 := grown_trans (grown_trans hgw (grown_drewN _ q none)) hg2
    have hbox2 := heap_kept (grown_trans (grown_drewN _ _ none) hg2) hbox
    obtain ⟨hcb, hfb⟩ := box_cell (heap_kept (grown_trans (grown_drewN _ _ none) hg2) hboxb)
    clear hge hg2 hbox hboxb
    obtain ⟨hc2, hf2⟩ := box_cell hbox2
    go_wp2_with fail
    refine (takeFrom_at _ g 0 _ _ xs cs2 sb _ _ ys rfl rfl hb2 hat2 ((hy.rd.beside (by omega)).kept_none hgw2) h2 (by omega) hx.dig hy.dig HD.out).mono ?_
    rintro e w3 ⟨zs, cs3, rfl, hb3, hw3, hg3, hl3, hd3, hv3⟩
    have hbox3 := heap_row hg3 hbox2 (by omega)
    have hgw3 := grown_new hgw2 hg3 (by omega)
    have HV := Lib.hid (show val B zs = val B xs - val B ys by omega)
    have HL := Lib.hid hl3
    clear hv3 hl3 hbox2 hgw2 hg3 hb2 hat2 hc2 hf2 hcb hfb
    go_wp2_with fail
    refine (own_at _ _ _ _ zs HL.out (Rdo.of hb3 hw3.lies) (by omega) (by omega) hd3).mono ?_
    rintro e w4 ⟨v, rfl, ⟨sa, zs2, rfl, hl4, hv4⟩, hg4⟩
    have hbox4 := heap_kept hg4 hbox3
    obtain ⟨hc4, hf4⟩ := box_cell hbox4
    have hF := Lib.hid (ret_setE (code := 0) (grown_trans hgw3 hg4) hbox4 (by decide) (by omega) hl4 (hv4.trans HV.out) (.slice sa zs2.length zs2.length))
    clear hv4 hbox4 hbox3 hg4 hgw3 hb3 hw3
    go_wp2_with fail
    exact bodyPost_ret (v := .tuple #[.agg #[.slice sa zs2.length zs2.length], .int .i64 0]) (by simp [results, Tryz.results151, go_sem, hc4]) rfl hF.out
end Go.Proofs.YtoaepibannfbdaaGreatDoor
namespace Go.Proofs.YtoaepibannfbdaaGreatDoor
open Go.RowKit Mat
set_option maxRecDepth 100000
set_option linter.unusedVariables false
set_option linter.unusedSimpArgs false
def mulHi (x y : Nat) : Nat := x * y / B
def mulLo (x y : Nat) : Nat := x * y % B
theorem mulLo_lt (x y : Nat) : mulLo x y < B := Nat.mod_lt _ B_pos
theorem mul_eq (x y : Nat) : mulLo x y + B * mulHi x y = x * y := Nat.mod_add_div ..
set_option maxHeartbeats 1000000 in
theorem mul64_any (x y : Nat) (hx : x < B) (hy : y < B) (w : World) :
    Calls Tryz.prog 153 #[.int .u64 (x : Int), .int .u64 (y : Int)] w fun e w' => e = .returned (.tuple #[.int .u64 (mulHi x y : Int), .int .u64 (mulLo x y : Int)]) ∧ w = w' := by
  show Calls _ _ _ _ fun e w' => e = .returned (.tuple #[.int .u64 ((x * y / 18446744073709551616 : Nat) : Int), .int .u64 ((x * y % 18446744073709551616 : Nat) : Int)]) ∧ w = w'
  have hx : x < 18446744073709551616 := hx
  have hy : y < 18446744073709551616 := hy
  obtain ⟨bd, bt, bw, hhi⟩ := Lib.mul64_hi x y hx hy
  have ba := Lib.half_mul_le (a := x / 4294967296) (b := y / 4294967296) (by omega) (by omega)
  have bb := Lib.half_mul_le (a := x / 4294967296) (b := y % 4294967296) (by omega) (by omega)
  have bc := Lib.half_mul_le (a := x % 4294967296) (b := y / 4294967296) (by omega) (by omega)
  have ba' : x / 4294967296 * (y / 4294967296) < 18446744073709551616 := by omega
  have bb' : x / 4294967296 * (y % 4294967296) < 18446744073709551616 := by omega
  have bc' : x % 4294967296 * (y / 4294967296) < 18446744073709551616 := by omega
  have bh1 : x / 4294967296 * (y / 4294967296) + (x / 4294967296 * (y % 4294967296) + x % 4294967296 * (y % 4294967296) / 4294967296) / 4294967296 < 18446744073709551616 := by omega
  have bh : x / 4294967296 * (y / 4294967296) + (x / 4294967296 * (y % 4294967296) + x % 4294967296 * (y % 4294967296) / 4294967296) / 4294967296 + ((x / 4294967296 * (y % 4294967296) + x % 4294967296 * (y % 4294967296) / 4294967296) % 4294967296 + x % 4294967296 * (y / 4294967296)) / 4294967296 < 18446744073709551616 := by omega
  have Hhi := Lib.hid hhi
  clear hhi
  go_enter Tryz.func153, Tryz.ntmps153
  go_wp2
  simp only [Mul64.maskN x hx, Mul64.maskN y hy, Mul64.divN, Mul64.mulN, Mul64.addN, Mul64.wrapN _ bd, Mul64.wrapN _ bb', Mul64.wrapN _ bt, Mul64.maskN _ bt, Mul64.wrapN _ bc', Mul64.wrapN _ bw, Mul64.wrapN _ ba', Mul64.wrapN _ bh1, Mul64.wrapN _ bh, Mul64.wrapM (x * y)]
  rw [Hhi.out]
  go_ret2
  exact ⟨rfl, rfl⟩
theorem muladd_step (k v x y by' add s : Nat) (h : v + add * B ^ k = s) :
    v + B ^ k * addLo x (addLo (mulLo y by') add 0) 0 + (mulHi y by' + addHi (mulLo y by') add 0 + addHi x (addLo (mulLo y by') add 0) 0) * B ^ (k + 1) = s + B ^ k * x + B ^ k * (y * by') := by
  have e1 := mul_eq y by'
  have e2 : addLo (mulLo y by') add 0 + B * addHi (mulLo y by') add 0 = mulLo y by' + add + 0 := Nat.mod_add_div ..
  have e3 : addLo x (addLo (mulLo y by') add 0) 0 + B * addHi x (addLo (mulLo y by') add 0) 0 = x + addLo (mulLo y by') add 0 + 0 := Nat.mod_add_div ..
  generalize addLo x (addLo (mulLo y by') add 0) 0 = r3 at *
  generalize addHi x (addLo (mulLo y by') add 0) 0 = c3 at *
  generalize addLo (mulLo y by') add 0 = r2 at *
  generalize addHi (mulLo y by') add 0 = c2 at *
  generalize mulLo y by' = r1 at *
  generalize mulHi y by' = q1 at *
  rw [← e1, Nat.pow_succ]
  grind
theorem muladd_bd {x y by' add : Nat} (hx : x < B) (hy : y < B) (hb : by' < B) (ha : add < B) :
    mulHi y by' + addHi (mulLo y by') add 0 < B ∧ mulHi y by' + addHi (mulLo y by') add 0 + addHi x (addLo (mulLo y by') add 0) 0 < B := by
  have e1 := mul_eq y by'
  have e2 : addLo (mulLo y by') add 0 + B * addHi (mulLo y by') add 0 = mulLo y by' + add + 0 := Nat.mod_add_div ..
  have e3 : addLo x (addLo (mulLo y by') add 0) 0 + B * addHi x (addLo (mulLo y by') add 0) 0 = x + addLo (mulLo y by') add 0 + 0 := Nat.mod_add_div ..
  have h1 : y * by' ≤ (B - 1) * (B - 1) := Nat.mul_le_mul (by omega) (by omega)
  have h2 : (B - 1) * (B - 1) + (B - 1) + (B - 1) < B * B := by decide +kernel
  generalize addLo x (addLo (mulLo y by') add 0) 0 = r3 at *
  generalize addHi x (addLo (mulLo y by') add 0) 0 = c3 at *
  generalize addLo (mulLo y by') add 0 = r2 at *
  generalize addHi (mulLo y by') add 0 = c2 at *
  generalize mulLo y by' = r1 at *
  generalize mulHi y by' = q1 at *
  have h3 : B * (q1 + c2 + c3) < B * B := by
    have : B * (q1 + c2 + c3) = B * q1 + B * c2 + B * c3 := by rw [Nat.mul_add, Nat.mul_add]
    omega
  have h4 := Nat.lt_of_mul_lt_mul_left h3
  omega
def AddedScaled (w : World) (b off : Nat) (xs ys : List Nat) (by' : Nat) (cs : Array Value) (e : Ending) (w' : World) : Prop :=
  ∃ (zs : List Nat) (cs' : Array Value), e = .returned (.tuple #[]) ∧ Blk w' b cs' ∧ Wrote cs cs' off zs ∧ w.grownBy w' (some b) ∧ zs.length = ys.length + 1 ∧ Dig B zs ∧ val B zs = val B (xs.take ys.length) + val B ys * by'
set_option maxHeartbeats 2000000 in
theorem addScaled_any (w : World) (b off n cap : Nat) (xs : List Nat) (cs : Array Value) (sa : Option Addr) (m cap2 : Nat) (ys : List Nat) (by' : Nat) (hn : xs.length = n) (hmm : ys.length = m)
    (hb : Blk w b cs) (hx : At cs off xs) (hs : Rd w sa ys b) (hl : n = m + 1) (hm : n ≤ 1099511627776) (dx : Dig B xs) (dy : Dig B ys) (hby : by' < B) :
    Calls Tryz.prog 143 #[.slice (some ⟨b, off, none⟩) n cap, .slice sa m cap2, .int .u64 (by' : Int)] w (AddedScaled w b off xs ys by' cs) := by
  subst hl
  have Hn := Lib.hid hn
  have Hm := Lib.hid hmm
  have hbyN : by' < 18446744073709551616 := hby
  clear hn hmm
  go_enter Tryz.func143, Tryz.ntmps143
  go_wp2_with fail
  go_loopw [6, 14] (fun c i wr => ∃ (k ad : Nat) (zs : List Nat), k ≤ m ∧ i = .int .i64 k ∧ c = .int .u64 ad ∧ ad < B ∧ Hid (zs.length = k) ∧ Dig B zs ∧ Blk wr b (Put cs off zs) ∧ w.grownBy wr (some b) ∧ Hid (val B zs + ad * B ^ k = val B (xs.take k) + val B (ys.take k) * by'))
    (fun _ i _ => m - (intOf i).toNat)
  case atStart => exact ⟨0, 0, [], Nat.zero_le _, rfl, rfl, B_pos, rfl, Dig.nil _, hb, grown_refl _ _, by show _ = _; simp [val]⟩
  case round =>
    obtain ⟨k, ad, zs, hk, rfl, rfl, hc, hzl, hzd, hbk, hg, hv⟩ := hrel
    by_cases hlt : k < m
    · obtain ⟨x, ex⟩ : ∃ x, xs[k]'(by rw [Hn.out]; omega) = x := ⟨_, rfl⟩
      obtain ⟨y, ey⟩ : ∃ y, ys[k]'(by rw [Hm.out]; omega) = y := ⟨_, rfl⟩
      have hxB : x < B := ex ▸ dx.get k _
      have hyB : y < B := ey ▸ dy.get k _
      obtain ⟨b2, off2, cs2, rfl, hne, h2, hy⟩ := hs.get k (by rw [Hm.out]; omega)
      have cx : wr.cell? ⟨b, off + k, none⟩ = some (.int .u64 (x : Int)) := by
        rw [hbk.cell, Put_out _ _ _ _ (by rw [hzl.out]; omega), hx k (by rw [Hn.out]; omega), ex]
      have cy : wr.cell? ⟨b2, off2 + k, none⟩ = some (.int .u64 (y : Int)) := by
        rw [(h2.kept hg (by simpa using hne)).cell, hy k (by rw [Hm.out]; omega), ey]
      have fx : wr.frozen? ⟨b, off + k, none⟩ = false := hbk.frozen _
      have EX := Lib.hid ex
      have EY := Lib.hid ey
      clear ex ey
      have ha1 : ∀ w, (callFunc 154 #[.int .u64 (mulLo y by' : Int), .int .u64 (ad : Int), .int .u64 0]).run Tryz.prog w = .ok (.value (.tuple #[.int .u64 (addLo (mulLo y by') ad 0 : Int), .int .u64 (addHi (mulLo y by') ad 0 : Int)])) w := fun w => add64 _ _ 0 (Nat.zero_le _) w
      have ha2 : ∀ w, (callFunc 154 #[.int .u64 (x : Int), .int .u64 (addLo (mulLo y by') ad 0 : Int), .int .u64 0]).run Tryz.prog w = .ok (.value (.tuple #[.int .u64 (addLo x (addLo (mulLo y by') ad 0) 0 : Int), .int .u64 (addHi x (addLo (mulLo y by') ad 0) 0 : Int)])) w := fun w => add64 _ _ 0 (Nat.zero_le _) w
      obtain ⟨b1, b2'⟩ := muladd_bd hxB hyB hby hc
      have b1 : mulHi y by' + addHi (mulLo y by') ad 0 < 18446744073709551616 := b1
      have b3 : mulHi y by' + addHi (mulLo y by') ad 0 + addHi x (addLo (mulLo y by') ad 0) 0 < 18446744073709551616 := b2'
      go_wp2_with (go_at_call 153; refine (mul64_any y by' hyB hby _).mono ?_; rintro e w' ⟨rfl, rfl⟩)
      clear ha1 ha2 cx cy fx
      go_roundw
      case rel =>
        refine ⟨k + 1, mulHi y by' + addHi (mulLo y by') ad 0 + addHi x (addLo (mulLo y by') ad 0) 0, zs ++ [addLo x (addLo (mulLo y by') ad 0) 0], by omega, by go_num, by go_num, b2', ?_, hzd.snoc (addLo_lt _ _ _), ?_, grown_set hg _ _, ?_⟩
        · show _ = _; rw [List.length_append, hzl.out]; rfl
        · rw [Put_snoc, hzl.out]; exact hbk.setCell _ _
        · show _ = _
          rw [val_snoc, hzl.out, muladd_step k _ x y by' ad _ hv.out, val_take_succ B xs k (by rw [Hn.out]; omega), val_take_succ B ys k (by rw [Hm.out]; omega), EX.out, EY.out, Nat.add_mul, Nat.mul_assoc]; omega
      case measure => simp [intOf]; omega
    · obtain rfl : k = m := by omega
      have cx : wr.cell? ⟨b, off + k, none⟩ = some (.int .u64 (xs[k]'(by rw [Hn.out]; omega) : Int)) := by
        rw [hbk.cell, Put_out _ _ _ _ (by rw [hzl.out]; omega), hx k (by rw [Hn.out]; omega)]
      have fx : wr.frozen? ⟨b, off + k, none⟩ = false := hbk.frozen _
      obtain ⟨xv, exv⟩ : ∃ xv, xs[k]'(by rw [Hn.out]; omega) = xv := ⟨_, rfl⟩
      rw [exv] at cx
      clear exv
      have hsz : off + (k + 1) ≤ cs.size := by
        rcases hx.le with h | h
        · exfalso; have := Hn.out; rw [h] at this; simp at this
        · rw [Hn.out] at h; omega
      have HF : Hid (AddedScaled w b off xs ys by' cs (.returned (.tuple #[])) (wr.setCell ⟨b, off + k, none⟩ (.int .u64 (ad : Int)))) := by
        have hb2 := hbk.setCell (off + k) (.int .u64 (ad : Int))
        have hp : (Put cs off zs).setIfInBounds (off + k) (.int .u64 (ad : Int)) = Put cs off (zs ++ [ad]) := by rw [Put_snoc, hzl.out]
        rw [hp] at hb2
        have hlen : (zs ++ [ad]).length = k + 1 := by rw [List.length_append, hzl.out]; rfl
        refine ⟨zs ++ [ad], _, rfl, hb2, ⟨size_Put _ _ _, fun j hj => Put_out _ _ _ _ hj, Put_in _ _ _ (by rw [hlen]; exact hsz)⟩, grown_set hg _ _, by rw [hlen, Hm.out], hzd.snoc hc, ?_⟩
        rw [val_snoc, hzl.out, Hm.out, Nat.mul_comm, hv.out, ← Hm.out, List.take_length, Hm.out]
      clear hbk hg hv hzl hzd
      go_wp2_with fail
      go_end0
      exact HF
theorem mul_step {us ys zs : List Nat} {i x V : Nat} (hi : i ≤ us.length) (hv : val B us = V * val B ys) (hz : val B zs = val B ((us.drop i ++ [0]).take ys.length) + val B ys * x) (hl : us.length = i + ys.length) :
    val B (us.take i ++ zs) = (V + B ^ i * x) * val B ys := by
  have e : (us.drop i ++ [0]).take ys.length = us.drop i := by
    rw [List.take_append_of_le_length (by rw [List.length_drop]; omega), List.take_of_length_le (by rw [List.length_drop]; omega)]
  rw [e] at hz
  have h1 := val_split B us i hi
  rw [val_append, List.length_take, Nat.min_eq_left hi, hz, Nat.mul_add, ← Nat.add_assoc, ← h1, hv, Nat.add_mul]
  congr 1
  rw [Nat.mul_assoc, Nat.mul_comm x]
theorem win_at {cs : Array Value} {us : List Nat} {k j : Nat} (h : At cs 0 (us ++ List.replicate (j + 1) 0)) (hk : k ≤ us.length) : At cs k (us.drop k ++ [0]) := by
  have h1 := h.drop k
  rw [Nat.zero_add, List.drop_append_of_le_length hk] at h1
  have h2 := h1.take ((us.drop k).length + 1)
  rw [List.take_length_add_append, List.take_replicate, Nat.min_eq_left (by omega)] at h2
  exact h2
theorem win_put {cs cs' : Array Value} {us zs : List Nat} {k j m : Nat} (h : At cs 0 (us ++ List.replicate (j + 1) 0)) (hu : us.length = k + m) (hz : zs.length = m + 1) (hw : Wrote cs cs' k zs) : At cs' 0 ((us.take k ++ zs) ++ List.replicate j 0) := by
  have hlk : (us.take k).length = k := by rw [List.length_take]; omega
  refine At.append (At.append ?_ ?_) ?_
  · intro i hi
    rw [hlk] at hi
    rw [hw.out _ (by omega), h i (by simp; omega), List.getElem_append_left (by omega), List.getElem_take]
  · rw [hlk, Nat.zero_add]; exact hw.lies
  · intro i hi
    rw [List.length_replicate] at hi
    rw [List.length_append, hlk, hz]
    rw [hw.out _ (by omega), List.getElem_replicate]
    have := h (k + (m + 1) + i) (by simp; omega)
    rw [Nat.zero_add] at this ⊢
    rw [this, List.getElem_append_right (by omega), List.getElem_replicate]
set_option maxHeartbeats 2000000 in
theorem Mul_core (w : World) (sa sb : Option Addr) (xs ys : List Nat) (hx : Lm w sa xs) (hy : Lm w sb ys) (n m : Nat) (hn : xs.length = n) (hm : ys.length = m) (bn : n ≤ 1073741824) (bm : m ≤ 1073741824) :
    Calls Tryz.prog 120 #[.agg #[.slice sa n n], .agg #[.slice sb m m]] w (RetFresh w (val B xs * val B ys)) := by
  have Hn := Lib.hid hn
  have Hm := Lib.hid hm
  clear hn hm
  obtain ⟨i0, hi, hz0, hz1, hz2⟩ := info_parts Tryz.infoU64
  have hgw0 : w.grownBy (((w.alloc (.cells #[.slice sa n n] 27)).alloc (.cells #[.slice sb m m] 27)).alloc (.cells #[.slice none 0 0] 27)) none := grown_alloc (grown_alloc (World.grownBy_alloc _ _ _) _) _
  have hbox0 := heap_new ((w.alloc (.cells #[.slice sa n n] 27)).alloc (.cells #[.slice sb m m] 27)) (.cells #[.slice none 0 0] 27) (w.heap.size + 1 + 1) (by simp)
  have hboxb0 := (Below.heap_alloc _ (.cells #[.slice none 0 0] 27) (w.heap.size + 1) (by simp)).trans (heap_new (w.alloc (.cells #[.slice sa n n] 27)) (.cells #[.slice sb m m] 27) (w.heap.size + 1) (by simp))
  have hboxa0 := (Below.heap_alloc _ (.cells #[.slice none 0 0] 27) (w.heap.size) (by simp; omega)).trans ((Below.heap_alloc _ (.cells #[.slice sb m m] 27) (w.heap.size) (by simp)).trans (heap_new w (.cells #[.slice sa n n] 27) (w.heap.size) rfl))
  have hs0 : (((w.alloc (.cells #[.slice sa n n] 27)).alloc (.cells #[.slice sb m m] 27)).alloc (.cells #[.slice none 0 0] 27)).heap.size = w.heap.size + 1 + 1 + 1 := by simp
  go_enter Tryz.func120, Tryz.ntmps120
  go_wp2_with (at_make; refine wpList_make_full _ rfl _ _ 25 rfl _ 114 i0 (.int .u64 0) 1 Tryz.underlying25 hi hz0 hz1 .i64 .i64 _ _ (n + m) rfl rfl (by omega) (by omega) (by rw [hz2]; omega) (by unfold maxLen; omega) (Nat.le_refl _) ?_; intro w1 hown hg1; obtain ⟨cs, hb1, hsz, hat⟩ := made_limbs hown; have HS := Lib.hid hsz; have HS0 := Lib.hid hs0; rw [hs0] at hb1; clear hsz hs0 hown; have hgw := grown_trans hgw0 hg1; have hbox1 := heap_kept hg1 hbox0; have hboxb1 := heap_kept hg1 hboxb0; have hboxa1 := heap_kept hg1 hboxa0; obtain ⟨hca, hfa⟩ := box_cell hboxa1; clear hg1 hgw0 hbox0 hboxb0 hboxa0)
  go_loopw [19] (fun i wr => ∃ (k : Nat) (us : List Nat) (cs2 : Array Value), k ≤ n ∧ i = .int .i64 k ∧ Hid (us.length = k + m) ∧ Dig B us ∧ Blk wr (w.heap.size + 1 + 1 + 1) cs2 ∧ At cs2 0 (us ++ List.replicate (n - k) 0) ∧ w1.grownBy wr (some (w.heap.size + 1 + 1 + 1)) ∧ Hid (val B us = val B (xs.take k) * val B ys))
    (fun i _ => n - (intOf i).toNat)
  case atStart => exact ⟨0, List.replicate m 0, cs, Nat.zero_le _, rfl, by show _ = _; simp, Dig.replicate B_pos _, hb1, by rw [Nat.sub_zero, List.replicate_append_replicate, Nat.add_comm m n]; exact hat, grown_refl _ _, by show _ = _; rw [val_replicate]; simp [val]⟩
  case round =>
    obtain ⟨k, us, cs2, hk, rfl, hul, hud, hbk, hat2, hg, hv⟩ := hrel
    have hcb := box_cell (heap_row hg hboxb1 (by omega))
    by_cases hlt : k < n
    · obtain ⟨x, ex⟩ : ∃ x, xs[k]'(by rw [Hn.out]; omega) = x := ⟨_, rfl⟩
      have hxB : x < B := ex ▸ hx.dig.get k _
      obtain ⟨b2, off2, cs3, rfl, h2, hax⟩ := hx.rd.get k (by rw [Hn.out]; omega)
      have cx : wr.cell? ⟨b2, off2 + k, none⟩ = some (.int .u64 (x : Int)) := by
        rw [((h2.kept hgw (by simp)).kept hg (by have := h2.lt; simp; omega)).cell, hax k (by rw [Hn.out]; omega), ex]
      have EX := Lib.hid ex
      clear ex
      obtain ⟨hcb, hfb⟩ := hcb
      go_wp2_with fail
      have e1 : IntKind.i64.wrap ((k : Int) + (m : Int)) = (k : Int) + (m : Int) := IntWalk.i64_in _ (by omega)
      have e2 : IntKind.i64.wrap ((k : Int) + (m : Int) + 1) = (k : Int) + (m : Int) + 1 := IntWalk.i64_in _ (by omega)
      have f1 : (k : Int) ≤ (k : Int) + (m : Int) + 1 := by omega
      have f2 : (k : Int) + (m : Int) + 1 ≤ (n : Int) + (m : Int) := by omega
      have f3 : ((k : Int) + (m : Int) + 1).toNat = k + m + 1 := by omega
      have f4 : (0 : Int) ≤ (k : Int) := by omega
      have f5 : k ≠ n + m := by omega
      go_still_tail 12, (by kernel_rfl)
      change wpList _ _ _ _ _ wr.drew
      clear e1 e2 f1 f2 f3 f4 f5
      go_wp2_with fail
      have hr : n - k = (n - k - 1) + 1 := by omega
      rw [hr] at hat2
      refine (addScaled_any _ _ k _ _ (us.drop k ++ [0]) cs2 sb m _ ys x (by rw [List.length_append, List.length_drop, hul.out]; simp; omega) Hm.out hbk.drew (win_at hat2 (by rw [hul.out]; omega)) (((hy.rd.beside (g := w.heap.size + 1 + 1 + 1) (by omega)).kept_none hgw).kept (grown_drew hg)) (by omega) (by omega) ((hud.drop k).snoc B_pos) hy.dig hxB).mono ?_
      rintro e w2 ⟨zs, cs4, rfl, hb4, hw4, hg4, hl4, hd4, hv4⟩
      rw [Hm.out] at hl4
      have HZ := Lib.hid hv4
      have HL := Lib.hid hl4
      have hat4 := win_put hat2 hul.out hl4 hw4
      clear hv4 hl4 hr cx hcb hfb
      go_wp2_with fail
      go_roundw
      case rel =>
        refine ⟨k + 1, us.take k ++ zs, cs4, by omega, by go_num, ?_, (hud.take k).append hd4, hb4, by rw [show n - (k + 1) = n - k - 1 from by omega]; exact hat4, grown_trans (grown_drew hg) hg4, ?_⟩
        · show _ = _; rw [List.length_append, HL.out, List.length_take, hul.out]; omega
        · show _ = _
          rw [mul_step (by rw [hul.out]; omega) hv.out HZ.out (by rw [hul.out, Hm.out]), val_take_succ B xs k (by rw [Hn.out]; omega), EX.out]
      case measure => simp [intOf]; omega
    · obtain rfl : k = n := by omega
      have hbox2 := heap_row hg hbox1 (by omega)
      have hgw2 := grown_new hgw hg (by omega)
      rw [Nat.sub_self, List.replicate_zero, List.append_nil] at hat2
      have HV : Hid (val B us = val B xs * val B ys) := by show _ = _; rw [hv.out, ← Hn.out, List.take_length]
      clear hbox1 hboxb1 hboxa1 hb1 hat hca hfa hcb hv hg hgw
      go_wp2_with fail
      refine (own_own_at _ _ (k + m) _ us hul.out (Rdo.of hbk hat2) (by omega) (Nat.le_refl _) hud).mono ?_
      rintro e w4 ⟨sc, zs, rfl, hl4, hv4, hfr, hg4⟩
      have hbox4 := heap_kept hg4 hbox2
      obtain ⟨hc4, hf4⟩ := box_cell hbox4
      have hF := Lib.hid (ret_setF (grown_trans hgw2 hg4) hbox4 (by decide) (by omega) hl4 (hv4.trans HV.out) (fresh_of hfr (by omega)) (.slice sc zs.length zs.length))
      clear hfr hv4 hbox4 hbox2 hg4 hgw2
      go_wp2_with fail
      exact bodyPost_ret (v := .agg #[.slice sc zs.length zs.length]) (by simp [results, Tryz.results120, go_sem, hc4]) rfl hF.out
theorem Mul_fresh (w : World) (va vb : Value) (a b K : Nat) (ha : NatV w va a) (hb : NatV w vb b) (hK : K ≤ 1073741824) (la : a < B ^ K) (lb : b < B ^ K) :
    Calls Tryz.prog 120 #[va, vb] w (RetFresh w (a * b)) := by
  obtain ⟨sa, xs, rfl, hx, rfl⟩ := ha
  obtain ⟨sb, ys, rfl, hy, rfl⟩ := hb
  have h1 := hx.len la
  have h2 := hy.len lb
  exact Mul_core w sa sb xs ys hx hy _ _ rfl rfl (by omega) (by omega)
theorem Mul_any (w : World) (va vb : Value) (a b K : Nat) (ha : NatV w va a) (hb : NatV w vb b) (hK : K ≤ 1073741824) (la : a < B ^ K) (lb : b < B ^ K) :
    Calls Tryz.prog 120 #[va, vb] w (RetNat w (a * b)) :=
  (Mul_fresh w va vb a b K ha hb hK la lb).mono fun _ _ h => h.nat
end Go.Proofs.YtoaepibannfbdaaGreatDoor
