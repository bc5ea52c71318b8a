/- What the laws lean on, part 4. -/
import Derived.Deep.RegionHeld3
import Derived.LoopN
import Derived.Laws.Cover3
import Derived.Laws.BitsAllLaws
import Derived.Laws.Bits128
import Derived.Test.YtldkddogadmpbaaGreatDoorMz1
import Derived.Test.YtldkddogadmpbaaGreatDoorMz3
import Derived.Test.YtldkddogadmpbaaGreatDoorBits
import Derived.Test.YtldkddogadmpbaaGreatDoorWord
namespace Go.Proofs.YtldkddogadmpbaaGreatDoor
open Go.RowKit Mat
set_option maxRecDepth 100000
set_option linter.unusedVariables false
set_option linter.unusedSimpArgs false
def BySl (w : World) (s : Option Addr) (l : List Nat) : Prop := (l = [] ∨ ∃ a, s = some a ∧ ∀ i (h : i < l.length), w.cell? (a.add i) = some (.int .u8 (l[i] : Int))) ∧ ∀ x ∈ l, x < 256
theorem BySl.kept {w W : World} {s : Option Addr} {l : List Nat} (h : BySl w s l) (g : w.grownBy W none) : BySl W s l :=
  ⟨h.1.imp id fun ⟨a, e, hc⟩ => ⟨a, e, fun i hi => g.cell (hc i hi) (by simp)⟩, h.2⟩
theorem heap_of_grown {w W : World} (h : w.grownBy W none) : w.heap.size ≤ W.heap.size := h.size
theorem bor_step (v x : Nat) (hv : v < 281474976710656) (hx : x < 256) : bits .or .u64 ((v : Int) * 256) (x : Int) = ((v * 256 + x : Nat) : Int) := by
  have e1 : (v : Int) * 256 = ((v * 256 : Nat) : Int) := by omega
  rw [e1, bits_or_u64_nat _ _ (by omega) (by omega)]
  congr 1
  rw [Nat.mul_comm, show 256 = 2 ^ 8 from rfl, Nat.two_pow_add_eq_or_of_lt (by omega)]
theorem and127 (x : Nat) (hx : x < 256) : bits .andNot .u8 (x : Int) 128 = ((x % 128 : Nat) : Int) := by
  have h := u8_andNot_nat x 128 hx (by omega)
  rw [show ((128 : Nat) : Int) = 128 from rfl] at h
  rw [h, show 255 - 128 = 2 ^ 7 - 1 from rfl, Nat.and_two_pow_sub_one_eq_mod]
theorem and128 : ∀ x : Fin 256, (x.val &&& 128 != 0) = decide (128 ≤ x.val) := by decide +kernel
theorem and128' (x : Nat) (hx : x < 256) : (bits .and .u8 (x : Int) 128 != 0) = decide (128 ≤ x) := by
  have h := u8_and_nat x 128 hx (by omega)
  rw [show ((128 : Nat) : Int) = 128 from rfl] at h
  have h2 := and128 ⟨x, hx⟩
  rw [h, ← h2]
  simp only [bne, Bool.not_eq_not]
  rw [Bool.eq_iff_iff]
  simp
theorem mv_snoc (l : List Nat) (k : Nat) (h : k < l.length) : mv (l.take (k + 1)) = mv (l.take k) * 256 + l.getD k 0 := by
  unfold mv
  rw [List.take_add_one, List.foldl_append, List.getElem?_eq_getElem h]
  simp [List.getD_eq_getElem?_getD, List.getElem?_eq_getElem h]
theorem mv_bd (l : List Nat) (k : Nat) (h : ∀ x ∈ l, x < 256) (hk : k ≤ 6) : mv (l.take k) < 281474976710656 := by
  have := mv_lt (l.take k) 0 (fun x hx => h x (List.mem_of_mem_take hx))
  have h2 : 256 ^ (l.take k).length ≤ 256 ^ 6 := Nat.pow_le_pow_right (by omega) (by rw [List.length_take]; omega)
  unfold mv
  have h3 : (256 : Nat) ^ 6 = 281474976710656 := by decide
  omega
theorem mv_7 (xs : List Nat) (h : xs.length = 7) (hd : ∀ x ∈ xs, x < 256) : mv xs < 2 ^ 56 := by
  have h8 := mv_lt xs 0 hd
  rw [h] at h8
  exact h8
theorem zsgn (s : Bool) (m : Nat) : (if s then (-1 : Int) else 1) * (m : Int) = if s then -(m : Int) else (m : Int) := by cases s <;> simp
theorem sh_bd (m e : Nat) (hm : m < 2 ^ 56) (he : e < 128) : m * 2 ^ (4 * (e - 78)) < B ^ 5 ∧ 2 ^ (4 * (78 - e)) < B ^ 5 := by
  have hB : B = 2 ^ 64 := by unfold B; decide
  obtain ⟨M, hM⟩ : ∃ M, 64 * 5 = M := ⟨_, rfl⟩
  rw [hB, ← Nat.pow_mul, hM]
  constructor
  · have h1 : m * 2 ^ (4 * (e - 78)) < 2 ^ 56 * 2 ^ (4 * (e - 78)) := Nat.mul_lt_mul_of_pos_right hm (Nat.pow_pos (by omega))
    rw [← Nat.pow_add] at h1
    exact Nat.lt_trans h1 (Nat.pow_lt_pow_right (by omega) (by omega))
  · exact Nat.pow_lt_pow_right (by omega) (by omega)
theorem Up_of (w : World) (va : Value) (a K : Nat) (ha : NatV w va a) (k : Int) (k' : Nat) (e : k = (k' : Int)) (hk : k' ≤ 65536) (hK : K ≤ 1073741824) (la : a < B ^ K) :
    Calls Tryz.prog 53 #[va, .int .i64 k] w (RetNatE w (a * 2 ^ k') 0) := by subst e; exact Up_some w va a K ha k' hk hK la
theorem NatV.set1 {w : World} {v : Value} {n : Nat} {g : Nat} {a0 : Value} (h : NatV w v n) (hbox : w.heap[g]? = some (.cells #[a0] 24 (0, 0))) (v0 : Value) : NatV (w.setCell ⟨g, 0, none⟩ v0) v n := h.set_other hbox (by decide) 0 v0
theorem NatV.setz {w : World} {v : Value} {n : Nat} {g : Nat} {a0 a1 : Value} (h : NatV w v n) (hbox : w.heap[g]? = some (.cells #[a0, a1] 26 (0, 0))) (v0 v1 : Value) : NatV ((w.setCell ⟨g, 0, none⟩ v0).setCell ⟨g, 1, none⟩ v1) v n := (h.set_other hbox (by decide) 0 v0).set_other (heap_setfst hbox v0) (by decide) 1 v1
theorem grown_set1 {w w' : World} {g : Nat} (hg : w.grownBy w' none) (hl : w.heap.size ≤ g) (v0 : Value) : w.grownBy (w'.setCell ⟨g, 0, none⟩ v0) none :=
  grown_new (g := g) hg (grown_set (grown_refl _ _) _ _) hl
set_option maxHeartbeats 16000000 in
theorem Dec_bad (w : World) (s : Option Addr) (n cap : Nat) (hn : n ≠ 8) (hb : n ≤ 9223372036854775807) :
    Calls Tryz.prog 22 #[.slice s n cap] w (RetRatE w 0 3) := by
  have f1 : ((n : Int) != 8) = true := bne_iff_ne.2 (by omega)
  have f2 : ((n : Int) == 8) = false := beq_eq_false_iff_ne.2 (by omega)
  have hG := World.grownBy_alloc w (.cells #[.slice none 0 0, .bool false, .slice none 0 0, .bool false] 28) none
  have Bq := heap_new w (.cells #[.slice none 0 0, .bool false, .slice none 0 0, .bool false] 28) w.heap.size rfl
  go_enter Tryz.func22, Tryz.ntmps22
  go_wp2_with fail
  exact bodyPost_ret (v := .tuple #[.agg #[.slice none 0 0, .bool false, .slice none 0 0, .bool false], .int .i64 3]) (by simp [results, Tryz.results22, go_sem]) rfl ⟨_, rfl, RatV.zero _, hG⟩
set_option maxHeartbeats 16000000 in
theorem dec_a (w : World) (a : Addr) (cap : Nat) (x0 : Nat) (xs : List Nat) (x1 x2 x3 x4 x5 x6 x7 : Nat) (hxs : xs = [x1, x2, x3, x4, x5, x6, x7]) (hcap : 8 ≤ cap) (hc : cap ≤ 9223372036854775807) (h0 : x0 < 256) (hd : ∀ x ∈ xs, x < 256)
    (c0 : w.cell? a = some (.int .u8 (x0 : Int))) (c1 : w.cell? ⟨a.block, a.off + 1, none⟩ = some (.int .u8 (x1 : Int))) (c2 : w.cell? ⟨a.block, a.off + 2, none⟩ = some (.int .u8 (x2 : Int))) (c3 : w.cell? ⟨a.block, a.off + 3, none⟩ = some (.int .u8 (x3 : Int))) (c4 : w.cell? ⟨a.block, a.off + 4, none⟩ = some (.int .u8 (x4 : Int))) (c5 : w.cell? ⟨a.block, a.off + 5, none⟩ = some (.int .u8 (x5 : Int))) (c6 : w.cell? ⟨a.block, a.off + 6, none⟩ = some (.int .u8 (x6 : Int))) (c7 : w.cell? ⟨a.block, a.off + 7, none⟩ = some (.int .u8 (x7 : Int))) (hTab : Tab w) :
    Calls Tryz.prog 22 #[.slice (some a) 8 cap] w (RetRatE w (rv (decide (128 ≤ x0)) (x0 % 128) (mv xs)) 0) := by
  have HTB : Hid (∀ W, w.grownBy W none → Tab W) := fun W hW => hTab.kept hW (by simp)
  clear hTab
  have hat : ∀ w c, (Instr.arrayAt 94 (.slice (some ⟨a.block, a.off + 1, none⟩) 7 c)).run Tryz.prog w = .ok (.pointer (some ⟨a.block, a.off + 1, none⟩)) w := fun w c => run_arrayAt w _ _ 7 _ 7 c Tryz.underlying94 (Nat.le_refl _)
  have hG := World.grownBy_alloc w (.cells #[.slice none 0 0, .bool false, .slice none 0 0, .bool false] 28) none
  have Bq := heap_new w (.cells #[.slice none 0 0, .bool false, .slice none 0 0, .bool false] 28) w.heap.size rfl
  have HC0 := Lib.hid c0
  replace c0 := hG.cell c0 (by simp)
  replace c1 := hG.cell c1 (by simp)
  replace c2 := hG.cell c2 (by simp)
  replace c3 := hG.cell c3 (by simp)
  replace c4 := hG.cell c4 (by simp)
  replace c5 := hG.cell c5 (by simp)
  replace c6 := hG.cell c6 (by simp)
  replace c7 := hG.cell c7 (by simp)
  have HXS := Lib.hid hxs; have HD := Lib.hid hd; clear hxs hd
  have hm7 : mv xs < 2 ^ 56 := by exact mv_7 xs (by rw [HXS.out]; rfl) HD.out
  have HM := Lib.hid hm7; clear hm7
  obtain ⟨e, he⟩ : ∃ e, x0 % 128 = e := ⟨_, rfl⟩
  have he7 : e < 128 := by omega
  have g1 : bits .andNot .u8 (x0 : Int) 128 = (e : Int) := by rw [and127 x0 h0, he]
  obtain ⟨s, hs⟩ : ∃ s, decide (128 ≤ x0) = s := ⟨_, rfl⟩
  have g2 : (bits .and .u8 (x0 : Int) 128 != 0) = s := by rw [and128' x0 h0, hs]
  rw [he, hs]
  obtain ⟨R0, hR0⟩ : ∃ R, rv s e (mv xs) = R := ⟨_, rfl⟩
  rw [hR0]
  have HR := Lib.hid hR0
  clear hR0
  have G1 := Lib.hid g1
  have G2 := Lib.hid g2
  clear he hs g1 g2
  go_enter Tryz.func22, Tryz.ntmps22
  go_wp2_with (simp only [hat])
  clear c0 c1 c2 c3 c4 c5 c6 c7 hat
  generalize (w.alloc (.cells #[.slice none 0 0, .bool false, .slice none 0 0, .bool false] 28)) = w0 at *
  go_loop [4, 6, 19] (fun m _ i => ∃ k v : Nat, k ≤ 7 ∧ Hid (v = mv (xs.take k)) ∧ i = .int .i64 (k : Int) ∧ m = .int .u64 (v : Int)) (fun _ _ i => 7 - (intOf i).toNat)
  case atStart => exact ⟨0, 0, by omega, Lib.hid (by simp [mv]), rfl, rfl⟩
  case round =>
    obtain ⟨k, v, hk, HV, rfl, rfl⟩ := hrel
    by_cases hlt : k < 7
    · have hix : ∀ W, (Instr.index 94 (.agg #[.int .u8 (x1 : Int), .int .u8 (x2 : Int), .int .u8 (x3 : Int), .int .u8 (x4 : Int), .int .u8 (x5 : Int), .int .u8 (x6 : Int), .int .u8 (x7 : Int)]) (.int .i64 (k : Int))).run Tryz.prog W = .ok (.int .u8 ((xs.getD k 0 : Nat) : Int)) W := by
        have : k = 0 ∨ k = 1 ∨ k = 2 ∨ k = 3 ∨ k = 4 ∨ k = 5 ∨ k = 6 := by omega
        rw [HXS.out]
        rcases this with rfl | rfl | rfl | rfl | rfl | rfl | rfl <;> (intro W; kernel_rfl)
      have hl7 : xs.length = 7 := by rw [HXS.out]; rfl
      have hx : xs.getD k 0 < 256 := by
        rw [List.getD_eq_getElem?_getD, List.getElem?_eq_getElem (by omega)]; exact HD.out _ (List.getElem_mem _)
      have hv : v < 281474976710656 := by rw [HV.out]; exact mv_bd xs k HD.out (by omega)
      have HN : Hid (v * 256 + xs.getD k 0 = mv (xs.take (k + 1))) := Lib.hid (by rw [mv_snoc xs k (by omega), HV.out])
      have hb := bor_step v (xs.getD k 0) hv hx
      have HB := Lib.hid hb
      clear hb hl7
      generalize xs.getD k 0 = x at *
      go_wp2_with (simp only [hix])
      exact ⟨⟨k + 1, v * 256 + x, by omega, HN, by go_num, congrArg (Value.int IntKind.u64) HB.out⟩, by simp [intOf]; omega⟩
    · have hk7 : k = 7 := by omega
      subst hk7
      have hvm : v = mv xs := by rw [HV.out, HXS.out]; rfl
      have hm : v < 2 ^ 56 := by rw [hvm]; exact HM.out
      rw [← hvm] at HR
      clear HV hvm HXS HD HM hlt hk
      have hvB : v < B := by unfold B; omega
      have hb9 := sh_bd v e hm he7
      have HB1 := Lib.hid hb9.1
      have HB2 := Lib.hid hb9.2
      have hv5 : v < B ^ 5 := Nat.lt_of_le_of_lt (Nat.le_mul_of_pos_right _ (Nat.pow_pos (by omega))) HB1.out
      have HV5 := Lib.hid hv5
      clear hb9 hv5
      go_wp2_with fail
      refine (Of_any w0 v hvB).mono ?_
      rintro e w1 ⟨_, rfl, ⟨su, xu, rfl, hu, vu⟩, gw1⟩
      have nu : NatV w1 (.agg #[.slice su xu.length xu.length]) (v) := ⟨su, xu, rfl, hu, vu⟩
      replace Bq := heap_kept gw1 Bq
      replace hG := grown_trans hG gw1
      clear gw1
      clear hu vu
      obtain ⟨Cq0, Cq1, Cq2, Cq3, Fq0, Fq1, Fq2, Fq3⟩ := box_cells4 Bq
      go_wp2_with fail
      clear Cq0 Cq1 Cq2 Cq3 Fq0 Fq1 Fq2 Fq3
      refine (Of_one w1).mono ?_
      rintro e w2 ⟨_, rfl, ⟨sd, xd, rfl, hd, vd⟩, gw2⟩
      have nd : NatV w2 (.agg #[.slice sd xd.length xd.length]) (1) := ⟨sd, xd, rfl, hd, vd⟩
      replace Bq := heap_kept gw2 Bq
      replace nu := nu.kept gw2
      replace hG := grown_trans hG gw2
      clear gw2
      clear hd vd
      obtain ⟨Cq0, Cq1, Cq2, Cq3, Fq0, Fq1, Fq2, Fq3⟩ := box_cells4 Bq
      have gbw2 := (grown_alloc (World.grownBy_alloc w2 (.cells #[.slice su xu.length xu.length] 24) none) (.cells #[.slice sd xd.length xd.length] 24))
      have Bu := heap_kept (World.grownBy_alloc _ (.cells #[.slice sd xd.length xd.length] 24) none) (heap_new w2 (.cells #[.slice su xu.length xu.length] 24) (w2.heap.size) rfl)
      have Bd := (heap_new (w2.alloc (.cells #[.slice su xu.length xu.length] 24)) (.cells #[.slice sd xd.length xd.length] 24) (w2.heap.size + 1) (by simp))
      have hzw2 : Hid (w.heap.size ≤ w2.heap.size) := Lib.hid hG.size
      have hlqw2 : Hid (w.heap.size < w2.heap.size) := Lib.hid (Array.getElem?_eq_some_iff.1 Bq).1
      clear Cq0 Cq1 Cq2 Cq3 Fq0 Fq1 Fq2 Fq3
      replace Bq := heap_kept gbw2 Bq
      replace nu := nu.kept gbw2
      replace nd := nd.kept gbw2
      replace hG := grown_trans hG gbw2
      clear gbw2
      obtain ⟨Cq0, Cq1, Cq2, Cq3, Fq0, Fq1, Fq2, Fq3⟩ := box_cells4 Bq
      obtain ⟨Cu0, Fu0⟩ := box_cell Bu
      obtain ⟨Cd0, Fd0⟩ := box_cell Bd
      have c0 := hG.cell HC0.out (by simp)
      by_cases h8 : 78 < e
      · skip
        have f8 : decide (0 < 4 * ((e : Int) - 78)) = true := decide_eq_true (by omega)
        have g1 := G1.out
        go_wp2_with fail
        clear g1 f8 c0
        generalize ((w2.alloc (.cells #[.slice su xu.length xu.length] 24)).alloc (.cells #[.slice sd xd.length xd.length] 24)) = w3 at *
        generalize w2.heap.size = aw2 at *
        replace hzw2 := hzw2.out
        replace hlqw2 := hlqw2.out
        clear Cq0 Cq1 Cq2 Cq3 Fq0 Fq1 Fq2 Fq3 Cu0 Fu0 Cd0 Fd0
        refine (Up_of w3 _ v 5 nu _ (4 * (e - 78)) (by omega) (by omega) (by omega) HV5.out).mono ?_
        rintro e u1w4 ⟨_, rfl, ⟨st, xt, rfl, ht, vt⟩, gu1w4⟩
        have nt : NatV u1w4 (.agg #[.slice st xt.length xt.length]) (v * 2 ^ (4 * (e - 78))) := ⟨st, xt, rfl, ht, vt⟩
        replace Bq := heap_kept gu1w4 Bq
        replace Bu := heap_kept gu1w4 Bu
        replace Bd := heap_kept gu1w4 Bd
        replace nu := nu.kept gu1w4
        replace nd := nd.kept gu1w4
        replace hG := grown_trans hG gu1w4
        clear gu1w4
        clear ht vt
        obtain ⟨Cq0, Cq1, Cq2, Cq3, Fq0, Fq1, Fq2, Fq3⟩ := box_cells4 Bq
        obtain ⟨Cu0, Fu0⟩ := box_cell Bu
        obtain ⟨Cd0, Fd0⟩ := box_cell Bd
        go_wp2_with fail
        clear Cq0 Cq1 Cq2 Cq3 Fq0 Fq1 Fq2 Fq3 Cu0 Fu0 Cd0 Fd0
        replace nu := nu.set1 Bu (.slice st xt.length xt.length)
        replace nd := nd.set1 Bu (.slice st xt.length xt.length)
        replace nt := nt.set1 Bu (.slice st xt.length xt.length)
        replace hG := grown_set1 (g := aw2) hG (by omega) (.slice st xt.length xt.length)
        replace Bq := heap_unset Bq (show w.heap.size ≠ aw2 by omega) (.slice st xt.length xt.length)
        replace Bd := heap_unset Bd (show aw2 + 1 ≠ aw2 by omega) (.slice st xt.length xt.length)
        replace Bu := heap_set Bu (.slice st xt.length xt.length)
        generalize (u1w4.setCell ⟨aw2, 0, none⟩ (.slice st xt.length xt.length)) = u1w5 at *
        have nU : NatV u1w5 (.agg #[.slice st xt.length xt.length]) (v * 2 ^ (4 * (e - 78))) := nt
        have nD : NatV u1w5 (.agg #[.slice sd xd.length xd.length]) (2 ^ (4 * (78 - e))) := by rw [show 4 * (78 - e) = 0 by omega]; exact nd
        clear nu nd nt
        refine (Big_any u1w5 _ (v * 2 ^ (4 * (e - 78))) 5 nU (by omega) HB1.out).mono ?_
        rintro e u1w6 ⟨_, rfl, ⟨sk, xk, bk, rfl, hk, vk, tk⟩, gu1w6⟩
        have ik : IntV u1w6 (.agg #[.slice sk xk.length xk.length, .bool bk]) (((v * 2 ^ (4 * (e - 78)) : Nat) : Int)) := ⟨sk, xk, bk, rfl, hk, vk, tk⟩
        replace Bq := heap_kept gu1w6 Bq
        replace Bu := heap_kept gu1w6 Bu
        replace Bd := heap_kept gu1w6 Bd
        replace nU := nU.kept gu1w6
        replace nD := nD.kept gu1w6
        replace hG := grown_trans hG gu1w6
        clear gu1w6
        clear hk vk tk
        obtain ⟨Cq0, Cq1, Cq2, Cq3, Fq0, Fq1, Fq2, Fq3⟩ := box_cells4 Bq
        obtain ⟨Cu0, Fu0⟩ := box_cell Bu
        obtain ⟨Cd0, Fd0⟩ := box_cell Bd
        have gbu1w6 := (World.grownBy_alloc u1w6 (.cells #[.slice sk xk.length xk.length, .bool bk] 26) none)
        have Bk := (heap_new u1w6 (.cells #[.slice sk xk.length xk.length, .bool bk] 26) (u1w6.heap.size) rfl)
        have hzu1w6 : Hid (w.heap.size ≤ u1w6.heap.size) := Lib.hid hG.size
        have hlqu1w6 : Hid (w.heap.size < u1w6.heap.size) := Lib.hid (Array.getElem?_eq_some_iff.1 Bq).1
        have hluu1w6 : Hid (aw2 < u1w6.heap.size) := Lib.hid (Array.getElem?_eq_some_iff.1 Bu).1
        have hldu1w6 : Hid (aw2 + 1 < u1w6.heap.size) := Lib.hid (Array.getElem?_eq_some_iff.1 Bd).1
        clear Cq0 Cq1 Cq2 Cq3 Fq0 Fq1 Fq2 Fq3 Cu0 Fu0 Cd0 Fd0
        replace Bq := heap_kept gbu1w6 Bq
        replace Bu := heap_kept gbu1w6 Bu
        replace Bd := heap_kept gbu1w6 Bd
        replace nU := nU.kept gbu1w6
        replace nD := nD.kept gbu1w6
        replace ik := ik.kept gbu1w6
        replace hG := grown_trans hG gbu1w6
        clear gbu1w6
        obtain ⟨Cq0, Cq1, Cq2, Cq3, Fq0, Fq1, Fq2, Fq3⟩ := box_cells4 Bq
        obtain ⟨Cu0, Fu0⟩ := box_cell Bu
        obtain ⟨Cd0, Fd0⟩ := box_cell Bd
        obtain ⟨Ck0, Ck1, Fk0, Fk1⟩ := box_cells Bk
        have c0 := hG.cell HC0.out (by simp)
        have g2 := G2.out
        cases s
        · skip
          have HMK : Hid (∀ W p1 q1, IntV W p1 (((v * 2 ^ (4 * (e - 78)) : Nat) : Int)) → IntV W q1 ((2 ^ (4 * (78 - e)) : Nat) : Int) → Tab W → Calls Tryz.prog 14 #[p1, q1] W (RetRatE W R0 0)) := fun W p1 q1 h1 h2 h3 => by
            have h := FMake_any W p1 q1 (((v * 2 ^ (4 * (e - 78)) : Nat) : Int)) ((2 ^ (4 * (78 - e)) : Nat) : Int) 5 h1 h2 (by omega) (by rw [Int.natAbs_natCast]; exact HB1.out) (by rw [Int.natAbs_natCast]; exact HB2.out) h3
            rw [if_neg pow_ne, show Rat.divInt (((v * 2 ^ (4 * (e - 78)) : Nat) : Int)) ((2 ^ (4 * (78 - e)) : Nat) : Int) = R0 by rw [← HR.out]; unfold rv; simp] at h
            exact h
          go_wp2_with fail
          generalize (u1w6.alloc (.cells #[.slice sk xk.length xk.length, .bool bk] 26)) = u1w7 at *
          generalize u1w6.heap.size = au1w6 at *
          replace hzu1w6 := hzu1w6.out
          replace hlqu1w6 := hlqu1w6.out
          replace hluu1w6 := hluu1w6.out
          replace hldu1w6 := hldu1w6.out
          clear c0 g2
          have HTr : Hid (∀ W, u1w7.grownBy W none → Tab W) := fun W hW => HTB.out _ (grown_trans hG hW)
          go_region_held3 (fun w' => w'.cell? ⟨au1w6, 0, none⟩ = some (.slice sk xk.length xk.length) ∧ w'.cell? ⟨au1w6, 1, none⟩ = some (.bool bk) ∧ w'.cell? ⟨aw2 + 1, 0, none⟩ = some (.slice sd xd.length xd.length))
            (first | assumption | exact ⟨Ck0, Ck1, Cd0⟩ | exact HSu1n0w8_20 | go_keep)
            (first
              | (go_at_call 15; (with_reducible refine (Big_any u1w7.drew _ (2 ^ (4 * (78 - e))) 5 (nD.kept (grown_drew (grown_refl _ _))) (by omega) HB2.out).mono ?_); rintro e u1n0w8_1 ⟨v5, rfl, j5, gu1n0w8_1⟩; have hGu1n0w8_1 := grown_pre u1w7 gu1n0w8_1 rfl rfl rfl rfl; have hSu1n0w8_1 := (And.intro (hGu1n0w8_1.cell Ck0 (by simp)) (And.intro (hGu1n0w8_1.cell Ck1 (by simp)) (hGu1n0w8_1.cell Cd0 (by simp)))); clear gu1n0w8_1)
              | (go_at_call 14; (with_reducible refine (HMK.out u1n0w8_1 _ _ (ik.kept hGu1n0w8_1) j5 (HTr.out _ hGu1n0w8_1)).mono ?_); rintro e u1n0w8_2 ⟨_, rfl, ⟨sr, xr, br, sr', xr', br', rfl, hr, hr'⟩, gu1n0w8_2⟩; have hGu1n0w8_2 := grown_trans hGu1n0w8_1 gu1n0w8_2; replace j5 := j5.kept gu1n0w8_2; have qr : RatV u1n0w8_2 (.agg #[.slice sr xr.length xr.length, .bool br, .slice sr' xr'.length xr'.length, .bool br']) (R0) := ⟨sr, xr, br, sr', xr', br', rfl, hr, hr'⟩; have hSu1n0w8_2 := (And.intro (hGu1n0w8_2.cell Ck0 (by simp)) (And.intro (hGu1n0w8_2.cell Ck1 (by simp)) (hGu1n0w8_2.cell Cd0 (by simp)))); clear gu1n0w8_2; clear hr hr'; (obtain ⟨dq0, dq1, dq2, dq3, dq4, dq5, dq6, dq7⟩ := box_cells4 (heap_kept hGu1n0w8_2 Bq)); have HSu1n0w8_20 := (And.intro ((box_cells (heap_unset4 (heap_kept hGu1n0w8_2 Bk) (show au1w6 ≠ w.heap.size by omega) (.slice sr xr.length xr.length) (.bool br) (.slice sr' xr'.length xr'.length) (.bool br'))).1) (And.intro ((box_cells (heap_unset4 (heap_kept hGu1n0w8_2 Bk) (show au1w6 ≠ w.heap.size by omega) (.slice sr xr.length xr.length) (.bool br) (.slice sr' xr'.length xr'.length) (.bool br'))).2.1) ((box_cell (heap_unset4 (heap_kept hGu1n0w8_2 Bd) (show aw2 + 1 ≠ w.heap.size by omega) (.slice sr xr.length xr.length) (.bool br) (.slice sr' xr'.length xr'.length) (.bool br'))).1)))))
          replace Bq := heap_kept hGu1n0w8_2 Bq
          replace Bu := heap_kept hGu1n0w8_2 Bu
          replace Bd := heap_kept hGu1n0w8_2 Bd
          replace Bk := heap_kept hGu1n0w8_2 Bk
          replace nU := nU.kept hGu1n0w8_2
          replace nD := nD.kept hGu1n0w8_2
          replace ik := ik.kept hGu1n0w8_2
          replace hG := grown_trans hG hGu1n0w8_2
          clear Cq0 Cq1 Cq2 Cq3 Fq0 Fq1 Fq2 Fq3 Cu0 Fu0 Cd0 Fd0 Ck0 Ck1 Fk0 Fk1
          obtain ⟨k90, k91, k92, k93, k94, k95, k96, k97⟩ := box_cells4 Bq
          obtain ⟨q90, q91, q92, q93, q94, q95, q96, q97⟩ := box_cells4 (heap_set4 Bq (.slice sr xr.length xr.length) (.bool br) (.slice sr' xr'.length xr'.length) (.bool br'))
          have hF : Hid (RetRatE w (R0) 0 (.returned (.tuple #[.agg #[.slice sr xr.length xr.length, .bool br, .slice sr' xr'.length xr'.length, .bool br'], .int .i64 0])) ((((u1n0w8_2.setCell ⟨w.heap.size, 0, none⟩ (.slice sr xr.length xr.length)).setCell ⟨w.heap.size, 1, none⟩ (.bool br)).setCell ⟨w.heap.size, 2, none⟩ (.slice sr' xr'.length xr'.length)).setCell ⟨w.heap.size, 3, none⟩ (.bool br'))) := ret_ratvE hG Bq (by omega) qr
          clear nU nD ik j5 qr
          obtain ⟨Cu0, Fu0⟩ := box_cell Bu
          obtain ⟨Cd0, Fd0⟩ := box_cell Bd
          obtain ⟨Ck0, Ck1, Fk0, Fk1⟩ := box_cells Bk
          go_wp2_with fail
          exact bodyPost_ret (v := .tuple #[.agg #[.slice sr xr.length xr.length, .bool br, .slice sr' xr'.length xr'.length, .bool br'], .int .i64 0]) (by simp [results, Tryz.results22, go_sem, q90, q91, q92, q93]) rfl hF.out
        · skip
          have HMK : Hid (∀ W p1 q1, IntV W p1 (-((v * 2 ^ (4 * (e - 78)) : Nat) : Int)) → IntV W q1 ((2 ^ (4 * (78 - e)) : Nat) : Int) → Tab W → Calls Tryz.prog 14 #[p1, q1] W (RetRatE W R0 0)) := fun W p1 q1 h1 h2 h3 => by
            have h := FMake_any W p1 q1 (-((v * 2 ^ (4 * (e - 78)) : Nat) : Int)) ((2 ^ (4 * (78 - e)) : Nat) : Int) 5 h1 h2 (by omega) (by rw [Int.natAbs_neg, Int.natAbs_natCast]; exact HB1.out) (by rw [Int.natAbs_natCast]; exact HB2.out) h3
            rw [if_neg pow_ne, show Rat.divInt (-((v * 2 ^ (4 * (e - 78)) : Nat) : Int)) ((2 ^ (4 * (78 - e)) : Nat) : Int) = R0 by rw [← HR.out]; unfold rv; simp] at h
            exact h
          go_wp2_with fail
          clear c0 g2
          generalize (u1w6.alloc (.cells #[.slice sk xk.length xk.length, .bool bk] 26)) = u1w7 at *
          generalize u1w6.heap.size = au1w6 at *
          replace hzu1w6 := hzu1w6.out
          replace hlqu1w6 := hlqu1w6.out
          replace hluu1w6 := hluu1w6.out
          replace hldu1w6 := hldu1w6.out
          clear Cq0 Cq1 Cq2 Cq3 Fq0 Fq1 Fq2 Fq3 Cu0 Fu0 Cd0 Fd0 Ck0 Ck1 Fk0 Fk1
          refine (ZNeg_any u1w7 _ _ 5 ik (by omega) (by rw [Int.natAbs_natCast]; exact HB1.out)).mono ?_
          rintro e u1n1w8 ⟨_, rfl, ⟨sm, xm, bm, rfl, hm, vm, tm⟩, gu1n1w8⟩
          have im : IntV u1n1w8 (.agg #[.slice sm xm.length xm.length, .bool bm]) (-((v * 2 ^ (4 * (e - 78)) : Nat) : Int)) := ⟨sm, xm, bm, rfl, hm, vm, tm⟩
          replace Bq := heap_kept gu1n1w8 Bq
          replace Bu := heap_kept gu1n1w8 Bu
          replace Bd := heap_kept gu1n1w8 Bd
          replace Bk := heap_kept gu1n1w8 Bk
          replace nU := nU.kept gu1n1w8
          replace nD := nD.kept gu1n1w8
          replace ik := ik.kept gu1n1w8
          replace hG := grown_trans hG gu1n1w8
          clear gu1n1w8
          clear hm vm tm
          obtain ⟨Cq0, Cq1, Cq2, Cq3, Fq0, Fq1, Fq2, Fq3⟩ := box_cells4 Bq
          obtain ⟨Cu0, Fu0⟩ := box_cell Bu
          obtain ⟨Cd0, Fd0⟩ := box_cell Bd
          obtain ⟨Ck0, Ck1, Fk0, Fk1⟩ := box_cells Bk
          go_wp2_with fail
          clear nU
          have nD' : NatV _ _ _ := nD.setz Bk (.slice sm xm.length xm.length) (.bool bm)
          clear nD
          clear Cq0 Cq1 Cq2 Cq3 Fq0 Fq1 Fq2 Fq3 Cu0 Fu0 Cd0 Fd0 Ck0 Ck1 Fk0 Fk1
          replace ik := ik.set2 Bk (.slice sm xm.length xm.length) (.bool bm)
          replace im := im.set2 Bk (.slice sm xm.length xm.length) (.bool bm)
          replace hG := grown_set2 (g := au1w6) hG (by omega) (.slice sm xm.length xm.length) (.bool bm)
          replace Bq := heap_unset2 Bq (show w.heap.size ≠ au1w6 by omega) (.slice sm xm.length xm.length) (.bool bm)
          replace Bu := heap_unset2 Bu (show aw2 ≠ au1w6 by omega) (.slice sm xm.length xm.length) (.bool bm)
          replace Bd := heap_unset2 Bd (show aw2 + 1 ≠ au1w6 by omega) (.slice sm xm.length xm.length) (.bool bm)
          replace Bk := heap_set2 Bk (.slice sm xm.length xm.length) (.bool bm)
          generalize ((u1n1w8.setCell ⟨au1w6, 0, none⟩ (.slice sm xm.length xm.length)).setCell ⟨au1w6, 1, none⟩ (.bool bm)) = u1n1w9 at *
          have nD := nD'; clear nD'
          obtain ⟨Cq0, Cq1, Cq2, Cq3, Fq0, Fq1, Fq2, Fq3⟩ := box_cells4 Bq
          obtain ⟨Cu0, Fu0⟩ := box_cell Bu
          obtain ⟨Cd0, Fd0⟩ := box_cell Bd
          obtain ⟨Ck0, Ck1, Fk0, Fk1⟩ := box_cells Bk
          have HTr : Hid (∀ W, u1n1w9.grownBy W none → Tab W) := fun W hW => HTB.out _ (grown_trans hG hW)
          go_region_held3 (fun w' => w'.cell? ⟨au1w6, 0, none⟩ = some (.slice sm xm.length xm.length) ∧ w'.cell? ⟨au1w6, 1, none⟩ = some (.bool bm) ∧ w'.cell? ⟨aw2 + 1, 0, none⟩ = some (.slice sd xd.length xd.length))
            (first | assumption | exact ⟨Ck0, Ck1, Cd0⟩ | exact HSu1n1w10_20 | go_keep)
            (first
              | (go_at_call 15; (with_reducible refine (Big_any u1n1w9.drew _ (2 ^ (4 * (78 - e))) 5 (nD.kept (grown_drew (grown_refl _ _))) (by omega) HB2.out).mono ?_); rintro e u1n1w10_1 ⟨v5, rfl, j5, gu1n1w10_1⟩; have hGu1n1w10_1 := grown_pre u1n1w9 gu1n1w10_1 rfl rfl rfl rfl; have hSu1n1w10_1 := (And.intro (hGu1n1w10_1.cell Ck0 (by simp)) (And.intro (hGu1n1w10_1.cell Ck1 (by simp)) (hGu1n1w10_1.cell Cd0 (by simp)))); clear gu1n1w10_1)
              | (go_at_call 14; (with_reducible refine (HMK.out u1n1w10_1 _ _ (im.kept hGu1n1w10_1) j5 (HTr.out _ hGu1n1w10_1)).mono ?_); rintro e u1n1w10_2 ⟨_, rfl, ⟨sr, xr, br, sr', xr', br', rfl, hr, hr'⟩, gu1n1w10_2⟩; have hGu1n1w10_2 := grown_trans hGu1n1w10_1 gu1n1w10_2; replace j5 := j5.kept gu1n1w10_2; have qr : RatV u1n1w10_2 (.agg #[.slice sr xr.length xr.length, .bool br, .slice sr' xr'.length xr'.length, .bool br']) (R0) := ⟨sr, xr, br, sr', xr', br', rfl, hr, hr'⟩; have hSu1n1w10_2 := (And.intro (hGu1n1w10_2.cell Ck0 (by simp)) (And.intro (hGu1n1w10_2.cell Ck1 (by simp)) (hGu1n1w10_2.cell Cd0 (by simp)))); clear gu1n1w10_2; clear hr hr'; (obtain ⟨dq0, dq1, dq2, dq3, dq4, dq5, dq6, dq7⟩ := box_cells4 (heap_kept hGu1n1w10_2 Bq)); have HSu1n1w10_20 := (And.intro ((box_cells (heap_unset4 (heap_kept hGu1n1w10_2 Bk) (show au1w6 ≠ w.heap.size by omega) (.slice sr xr.length xr.length) (.bool br) (.slice sr' xr'.length xr'.length) (.bool br'))).1) (And.intro ((box_cells (heap_unset4 (heap_kept hGu1n1w10_2 Bk) (show au1w6 ≠ w.heap.size by omega) (.slice sr xr.length xr.length) (.bool br) (.slice sr' xr'.length xr'.length) (.bool br'))).2.1) ((box_cell (heap_unset4 (heap_kept hGu1n1w10_2 Bd) (show aw2 + 1 ≠ w.heap.size by omega) (.slice sr xr.length xr.length) (.bool br) (.slice sr' xr'.length xr'.length) (.bool br'))).1)))))
          replace Bq := heap_kept hGu1n1w10_2 Bq
          replace Bu := heap_kept hGu1n1w10_2 Bu
          replace Bd := heap_kept hGu1n1w10_2 Bd
          replace Bk := heap_kept hGu1n1w10_2 Bk
          replace ik := ik.kept hGu1n1w10_2
          replace im := im.kept hGu1n1w10_2
          replace nD := nD.kept hGu1n1w10_2
          replace hG := grown_trans hG hGu1n1w10_2
          clear Cq0 Cq1 Cq2 Cq3 Fq0 Fq1 Fq2 Fq3 Cu0 Fu0 Cd0 Fd0 Ck0 Ck1 Fk0 Fk1
          obtain ⟨k90, k91, k92, k93, k94, k95, k96, k97⟩ := box_cells4 Bq
          obtain ⟨q90, q91, q92, q93, q94, q95, q96, q97⟩ := box_cells4 (heap_set4 Bq (.slice sr xr.length xr.length) (.bool br) (.slice sr' xr'.length xr'.length) (.bool br'))
          have hF : Hid (RetRatE w (R0) 0 (.returned (.tuple #[.agg #[.slice sr xr.length xr.length, .bool br, .slice sr' xr'.length xr'.length, .bool br'], .int .i64 0])) ((((u1n1w10_2.setCell ⟨w.heap.size, 0, none⟩ (.slice sr xr.length xr.length)).setCell ⟨w.heap.size, 1, none⟩ (.bool br)).setCell ⟨w.heap.size, 2, none⟩ (.slice sr' xr'.length xr'.length)).setCell ⟨w.heap.size, 3, none⟩ (.bool br'))) := ret_ratvE hG Bq (by omega) qr
          clear ik im nD j5 qr
          obtain ⟨Cu0, Fu0⟩ := box_cell Bu
          obtain ⟨Cd0, Fd0⟩ := box_cell Bd
          obtain ⟨Ck0, Ck1, Fk0, Fk1⟩ := box_cells Bk
          go_wp2_with fail
          exact bodyPost_ret (v := .tuple #[.agg #[.slice sr xr.length xr.length, .bool br, .slice sr' xr'.length xr'.length, .bool br'], .int .i64 0]) (by simp [results, Tryz.results22, go_sem, q90, q91, q92, q93]) rfl hF.out
      · skip
        have f8 : decide (0 < 4 * ((e : Int) - 78)) = false := decide_eq_false (by omega)
        have g1 := G1.out
        go_wp2_with fail
        clear g1 f8 c0
        generalize ((w2.alloc (.cells #[.slice su xu.length xu.length] 24)).alloc (.cells #[.slice sd xd.length xd.length] 24)) = w3 at *
        generalize w2.heap.size = aw2 at *
        replace hzw2 := hzw2.out
        replace hlqw2 := hlqw2.out
        clear Cq0 Cq1 Cq2 Cq3 Fq0 Fq1 Fq2 Fq3 Cu0 Fu0 Cd0 Fd0
        refine (Up_of w3 _ 1 5 nd _ (4 * (78 - e)) (by omega) (by omega) (by omega) (by unfold B; decide)).mono ?_
        rintro e u0w4 ⟨_, rfl, ⟨st, xt, rfl, ht, vt⟩, gu0w4⟩
        have nt : NatV u0w4 (.agg #[.slice st xt.length xt.length]) (1 * 2 ^ (4 * (78 - e))) := ⟨st, xt, rfl, ht, vt⟩
        replace Bq := heap_kept gu0w4 Bq
        replace Bu := heap_kept gu0w4 Bu
        replace Bd := heap_kept gu0w4 Bd
        replace nu := nu.kept gu0w4
        replace nd := nd.kept gu0w4
        replace hG := grown_trans hG gu0w4
        clear gu0w4
        clear ht vt
        obtain ⟨Cq0, Cq1, Cq2, Cq3, Fq0, Fq1, Fq2, Fq3⟩ := box_cells4 Bq
        obtain ⟨Cu0, Fu0⟩ := box_cell Bu
        obtain ⟨Cd0, Fd0⟩ := box_cell Bd
        go_wp2_with fail
        clear Cq0 Cq1 Cq2 Cq3 Fq0 Fq1 Fq2 Fq3 Cu0 Fu0 Cd0 Fd0
        replace nu := nu.set1 Bd (.slice st xt.length xt.length)
        replace nd := nd.set1 Bd (.slice st xt.length xt.length)
        replace nt := nt.set1 Bd (.slice st xt.length xt.length)
        replace hG := grown_set1 (g := aw2 + 1) hG (by omega) (.slice st xt.length xt.length)
        replace Bq := heap_unset Bq (show w.heap.size ≠ aw2 + 1 by omega) (.slice st xt.length xt.length)
        replace Bu := heap_unset Bu (show aw2 ≠ aw2 + 1 by omega) (.slice st xt.length xt.length)
        replace Bd := heap_set Bd (.slice st xt.length xt.length)
        generalize (u0w4.setCell ⟨aw2 + 1, 0, none⟩ (.slice st xt.length xt.length)) = u0w5 at *
        have nU : NatV u0w5 (.agg #[.slice su xu.length xu.length]) (v * 2 ^ (4 * (e - 78))) := by rw [show 4 * (e - 78) = 0 by omega, Nat.pow_zero, Nat.mul_one]; exact nu
        have nD : NatV u0w5 (.agg #[.slice st xt.length xt.length]) (2 ^ (4 * (78 - e))) := by rw [Nat.one_mul] at nt; exact nt
        clear nu nd nt
        refine (Big_any u0w5 _ (v * 2 ^ (4 * (e - 78))) 5 nU (by omega) HB1.out).mono ?_
        rintro e u0w6 ⟨_, rfl, ⟨sk, xk, bk, rfl, hk, vk, tk⟩, gu0w6⟩
        have ik : IntV u0w6 (.agg #[.slice sk xk.length xk.length, .bool bk]) (((v * 2 ^ (4 * (e - 78)) : Nat) : Int)) := ⟨sk, xk, bk, rfl, hk, vk, tk⟩
        replace Bq := heap_kept gu0w6 Bq
        replace Bu := heap_kept gu0w6 Bu
        replace Bd := heap_kept gu0w6 Bd
        replace nU := nU.kept gu0w6
        replace nD := nD.kept gu0w6
        replace hG := grown_trans hG gu0w6
        clear gu0w6
        clear hk vk tk
        obtain ⟨Cq0, Cq1, Cq2, Cq3, Fq0, Fq1, Fq2, Fq3⟩ := box_cells4 Bq
        obtain ⟨Cu0, Fu0⟩ := box_cell Bu
        obtain ⟨Cd0, Fd0⟩ := box_cell Bd
        have gbu0w6 := (World.grownBy_alloc u0w6 (.cells #[.slice sk xk.length xk.length, .bool bk] 26) none)
        have Bk := (heap_new u0w6 (.cells #[.slice sk xk.length xk.length, .bool bk] 26) (u0w6.heap.size) rfl)
        have hzu0w6 : Hid (w.heap.size ≤ u0w6.heap.size) := Lib.hid hG.size
        have hlqu0w6 : Hid (w.heap.size < u0w6.heap.size) := Lib.hid (Array.getElem?_eq_some_iff.1 Bq).1
        have hluu0w6 : Hid (aw2 < u0w6.heap.size) := Lib.hid (Array.getElem?_eq_some_iff.1 Bu).1
        have hldu0w6 : Hid (aw2 + 1 < u0w6.heap.size) := Lib.hid (Array.getElem?_eq_some_iff.1 Bd).1
        clear Cq0 Cq1 Cq2 Cq3 Fq0 Fq1 Fq2 Fq3 Cu0 Fu0 Cd0 Fd0
        replace Bq := heap_kept gbu0w6 Bq
        replace Bu := heap_kept gbu0w6 Bu
        replace Bd := heap_kept gbu0w6 Bd
        replace nU := nU.kept gbu0w6
        replace nD := nD.kept gbu0w6
        replace ik := ik.kept gbu0w6
        replace hG := grown_trans hG gbu0w6
        clear gbu0w6
        obtain ⟨Cq0, Cq1, Cq2, Cq3, Fq0, Fq1, Fq2, Fq3⟩ := box_cells4 Bq
        obtain ⟨Cu0, Fu0⟩ := box_cell Bu
        obtain ⟨Cd0, Fd0⟩ := box_cell Bd
        obtain ⟨Ck0, Ck1, Fk0, Fk1⟩ := box_cells Bk
        have c0 := hG.cell HC0.out (by simp)
        have g2 := G2.out
        cases s
        · skip
          have HMK : Hid (∀ W p1 q1, IntV W p1 (((v * 2 ^ (4 * (e - 78)) : Nat) : Int)) → IntV W q1 ((2 ^ (4 * (78 - e)) : Nat) : Int) → Tab W → Calls Tryz.prog 14 #[p1, q1] W (RetRatE W R0 0)) := fun W p1 q1 h1 h2 h3 => by
            have h := FMake_any W p1 q1 (((v * 2 ^ (4 * (e - 78)) : Nat) : Int)) ((2 ^ (4 * (78 - e)) : Nat) : Int) 5 h1 h2 (by omega) (by rw [Int.natAbs_natCast]; exact HB1.out) (by rw [Int.natAbs_natCast]; exact HB2.out) h3
            rw [if_neg pow_ne, show Rat.divInt (((v * 2 ^ (4 * (e - 78)) : Nat) : Int)) ((2 ^ (4 * (78 - e)) : Nat) : Int) = R0 by rw [← HR.out]; unfold rv; simp] at h
            exact h
          go_wp2_with fail
          generalize (u0w6.alloc (.cells #[.slice sk xk.length xk.length, .bool bk] 26)) = u0w7 at *
          generalize u0w6.heap.size = au0w6 at *
          replace hzu0w6 := hzu0w6.out
          replace hlqu0w6 := hlqu0w6.out
          replace hluu0w6 := hluu0w6.out
          replace hldu0w6 := hldu0w6.out
          clear c0 g2
          have HTr : Hid (∀ W, u0w7.grownBy W none → Tab W) := fun W hW => HTB.out _ (grown_trans hG hW)
          go_region_held3 (fun w' => w'.cell? ⟨au0w6, 0, none⟩ = some (.slice sk xk.length xk.length) ∧ w'.cell? ⟨au0w6, 1, none⟩ = some (.bool bk) ∧ w'.cell? ⟨aw2 + 1, 0, none⟩ = some (.slice st xt.length xt.length))
            (first | assumption | exact ⟨Ck0, Ck1, Cd0⟩ | exact HSu0n0w8_20 | go_keep)
            (first
              | (go_at_call 15; (with_reducible refine (Big_any u0w7.drew _ (2 ^ (4 * (78 - e))) 5 (nD.kept (grown_drew (grown_refl _ _))) (by omega) HB2.out).mono ?_); rintro e u0n0w8_1 ⟨v5, rfl, j5, gu0n0w8_1⟩; have hGu0n0w8_1 := grown_pre u0w7 gu0n0w8_1 rfl rfl rfl rfl; have hSu0n0w8_1 := (And.intro (hGu0n0w8_1.cell Ck0 (by simp)) (And.intro (hGu0n0w8_1.cell Ck1 (by simp)) (hGu0n0w8_1.cell Cd0 (by simp)))); clear gu0n0w8_1)
              | (go_at_call 14; (with_reducible refine (HMK.out u0n0w8_1 _ _ (ik.kept hGu0n0w8_1) j5 (HTr.out _ hGu0n0w8_1)).mono ?_); rintro e u0n0w8_2 ⟨_, rfl, ⟨sr, xr, br, sr', xr', br', rfl, hr, hr'⟩, gu0n0w8_2⟩; have hGu0n0w8_2 := grown_trans hGu0n0w8_1 gu0n0w8_2; replace j5 := j5.kept gu0n0w8_2; have qr : RatV u0n0w8_2 (.agg #[.slice sr xr.length xr.length, .bool br, .slice sr' xr'.length xr'.length, .bool br']) (R0) := ⟨sr, xr, br, sr', xr', br', rfl, hr, hr'⟩; have hSu0n0w8_2 := (And.intro (hGu0n0w8_2.cell Ck0 (by simp)) (And.intro (hGu0n0w8_2.cell Ck1 (by simp)) (hGu0n0w8_2.cell Cd0 (by simp)))); clear gu0n0w8_2; clear hr hr'; (obtain ⟨dq0, dq1, dq2, dq3, dq4, dq5, dq6, dq7⟩ := box_cells4 (heap_kept hGu0n0w8_2 Bq)); have HSu0n0w8_20 := (And.intro ((box_cells (heap_unset4 (heap_kept hGu0n0w8_2 Bk) (show au0w6 ≠ w.heap.size by omega) (.slice sr xr.length xr.length) (.bool br) (.slice sr' xr'.length xr'.length) (.bool br'))).1) (And.intro ((box_cells (heap_unset4 (heap_kept hGu0n0w8_2 Bk) (show au0w6 ≠ w.heap.size by omega) (.slice sr xr.length xr.length) (.bool br) (.slice sr' xr'.length xr'.length) (.bool br'))).2.1) ((box_cell (heap_unset4 (heap_kept hGu0n0w8_2 Bd) (show aw2 + 1 ≠ w.heap.size by omega) (.slice sr xr.length xr.length) (.bool br) (.slice sr' xr'.length xr'.length) (.bool br'))).1)))))
          replace Bq := heap_kept hGu0n0w8_2 Bq
          replace Bu := heap_kept hGu0n0w8_2 Bu
          replace Bd := heap_kept hGu0n0w8_2 Bd
          replace Bk := heap_kept hGu0n0w8_2 Bk
          replace nU := nU.kept hGu0n0w8_2
          replace nD := nD.kept hGu0n0w8_2
          replace ik := ik.kept hGu0n0w8_2
          replace hG := grown_trans hG hGu0n0w8_2
          clear Cq0 Cq1 Cq2 Cq3 Fq0 Fq1 Fq2 Fq3 Cu0 Fu0 Cd0 Fd0 Ck0 Ck1 Fk0 Fk1
          obtain ⟨k90, k91, k92, k93, k94, k95, k96, k97⟩ := box_cells4 Bq
          obtain ⟨q90, q91, q92, q93, q94, q95, q96, q97⟩ := box_cells4 (heap_set4 Bq (.slice sr xr.length xr.length) (.bool br) (.slice sr' xr'.length xr'.length) (.bool br'))
          have hF : Hid (RetRatE w (R0) 0 (.returned (.tuple #[.agg #[.slice sr xr.length xr.length, .bool br, .slice sr' xr'.length xr'.length, .bool br'], .int .i64 0])) ((((u0n0w8_2.setCell ⟨w.heap.size, 0, none⟩ (.slice sr xr.length xr.length)).setCell ⟨w.heap.size, 1, none⟩ (.bool br)).setCell ⟨w.heap.size, 2, none⟩ (.slice sr' xr'.length xr'.length)).setCell ⟨w.heap.size, 3, none⟩ (.bool br'))) := ret_ratvE hG Bq (by omega) qr
          clear nU nD ik j5 qr
          obtain ⟨Cu0, Fu0⟩ := box_cell Bu
          obtain ⟨Cd0, Fd0⟩ := box_cell Bd
          obtain ⟨Ck0, Ck1, Fk0, Fk1⟩ := box_cells Bk
          go_wp2_with fail
          exact bodyPost_ret (v := .tuple #[.agg #[.slice sr xr.length xr.length, .bool br, .slice sr' xr'.length xr'.length, .bool br'], .int .i64 0]) (by simp [results, Tryz.results22, go_sem, q90, q91, q92, q93]) rfl hF.out
        · skip
          have HMK : Hid (∀ W p1 q1, IntV W p1 (-((v * 2 ^ (4 * (e - 78)) : Nat) : Int)) → IntV W q1 ((2 ^ (4 * (78 - e)) : Nat) : Int) → Tab W → Calls Tryz.prog 14 #[p1, q1] W (RetRatE W R0 0)) := fun W p1 q1 h1 h2 h3 => by
            have h := FMake_any W p1 q1 (-((v * 2 ^ (4 * (e - 78)) : Nat) : Int)) ((2 ^ (4 * (78 - e)) : Nat) : Int) 5 h1 h2 (by omega) (by rw [Int.natAbs_neg, Int.natAbs_natCast]; exact HB1.out) (by rw [Int.natAbs_natCast]; exact HB2.out) h3
            rw [if_neg pow_ne, show Rat.divInt (-((v * 2 ^ (4 * (e - 78)) : Nat) : Int)) ((2 ^ (4 * (78 - e)) : Nat) : Int) = R0 by rw [← HR.out]; unfold rv; simp] at h
            exact h
          go_wp2_with fail
          clear c0 g2
          generalize (u0w6.alloc (.cells #[.slice sk xk.length xk.length, .bool bk] 26)) = u0w7 at *
          generalize u0w6.heap.size = au0w6 at *
          replace hzu0w6 := hzu0w6.out
          replace hlqu0w6 := hlqu0w6.out
          replace hluu0w6 := hluu0w6.out
          replace hldu0w6 := hldu0w6.out
          clear Cq0 Cq1 Cq2 Cq3 Fq0 Fq1 Fq2 Fq3 Cu0 Fu0 Cd0 Fd0 Ck0 Ck1 Fk0 Fk1
          refine (ZNeg_any u0w7 _ _ 5 ik (by omega) (by rw [Int.natAbs_natCast]; exact HB1.out)).mono ?_
          rintro e u0n1w8 ⟨_, rfl, ⟨sm, xm, bm, rfl, hm, vm, tm⟩, gu0n1w8⟩
          have im : IntV u0n1w8 (.agg #[.slice sm xm.length xm.length, .bool bm]) (-((v * 2 ^ (4 * (e - 78)) : Nat) : Int)) := ⟨sm, xm, bm, rfl, hm, vm, tm⟩
          replace Bq := heap_kept gu0n1w8 Bq
          replace Bu := heap_kept gu0n1w8 Bu
          replace Bd := heap_kept gu0n1w8 Bd
          replace Bk := heap_kept gu0n1w8 Bk
          replace nU := nU.kept gu0n1w8
          replace nD := nD.kept gu0n1w8
          replace ik := ik.kept gu0n1w8
          replace hG := grown_trans hG gu0n1w8
          clear gu0n1w8
          clear hm vm tm
          obtain ⟨Cq0, Cq1, Cq2, Cq3, Fq0, Fq1, Fq2, Fq3⟩ := box_cells4 Bq
          obtain ⟨Cu0, Fu0⟩ := box_cell Bu
          obtain ⟨Cd0, Fd0⟩ := box_cell Bd
          obtain ⟨Ck0, Ck1, Fk0, Fk1⟩ := box_cells Bk
          go_wp2_with fail
          clear nU
          have nD' : NatV _ _ _ := nD.setz Bk (.slice sm xm.length xm.length) (.bool bm)
          clear nD
          clear Cq0 Cq1 Cq2 Cq3 Fq0 Fq1 Fq2 Fq3 Cu0 Fu0 Cd0 Fd0 Ck0 Ck1 Fk0 Fk1
          replace ik := ik.set2 Bk (.slice sm xm.length xm.length) (.bool bm)
          replace im := im.set2 Bk (.slice sm xm.length xm.length) (.bool bm)
          replace hG := grown_set2 (g := au0w6) hG (by omega) (.slice sm xm.length xm.length) (.bool bm)
          replace Bq := heap_unset2 Bq (show w.heap.size ≠ au0w6 by omega) (.slice sm xm.length xm.length) (.bool bm)
          replace Bu := heap_unset2 Bu (show aw2 ≠ au0w6 by omega) (.slice sm xm.length xm.length) (.bool bm)
          replace Bd := heap_unset2 Bd (show aw2 + 1 ≠ au0w6 by omega) (.slice sm xm.length xm.length) (.bool bm)
          replace Bk := heap_set2 Bk (.slice sm xm.length xm.length) (.bool bm)
          generalize ((u0n1w8.setCell ⟨au0w6, 0, none⟩ (.slice sm xm.length xm.length)).setCell ⟨au0w6, 1, none⟩ (.bool bm)) = u0n1w9 at *
          have nD := nD'; clear nD'
          obtain ⟨Cq0, Cq1, Cq2, Cq3, Fq0, Fq1, Fq2, Fq3⟩ := box_cells4 Bq
          obtain ⟨Cu0, Fu0⟩ := box_cell Bu
          obtain ⟨Cd0, Fd0⟩ := box_cell Bd
          obtain ⟨Ck0, Ck1, Fk0, Fk1⟩ := box_cells Bk
          have HTr : Hid (∀ W, u0n1w9.grownBy W none → Tab W) := fun W hW => HTB.out _ (grown_trans hG hW)
          go_region_held3 (fun w' => w'.cell? ⟨au0w6, 0, none⟩ = some (.slice sm xm.length xm.length) ∧ w'.cell? ⟨au0w6, 1, none⟩ = some (.bool bm) ∧ w'.cell? ⟨aw2 + 1, 0, none⟩ = some (.slice st xt.length xt.length))
            (first | assumption | exact ⟨Ck0, Ck1, Cd0⟩ | exact HSu0n1w10_20 | go_keep)
            (first
              | (go_at_call 15; (with_reducible refine (Big_any u0n1w9.drew _ (2 ^ (4 * (78 - e))) 5 (nD.kept (grown_drew (grown_refl _ _))) (by omega) HB2.out).mono ?_); rintro e u0n1w10_1 ⟨v5, rfl, j5, gu0n1w10_1⟩; have hGu0n1w10_1 := grown_pre u0n1w9 gu0n1w10_1 rfl rfl rfl rfl; have hSu0n1w10_1 := (And.intro (hGu0n1w10_1.cell Ck0 (by simp)) (And.intro (hGu0n1w10_1.cell Ck1 (by simp)) (hGu0n1w10_1.cell Cd0 (by simp)))); clear gu0n1w10_1)
              | (go_at_call 14; (with_reducible refine (HMK.out u0n1w10_1 _ _ (im.kept hGu0n1w10_1) j5 (HTr.out _ hGu0n1w10_1)).mono ?_); rintro e u0n1w10_2 ⟨_, rfl, ⟨sr, xr, br, sr', xr', br', rfl, hr, hr'⟩, gu0n1w10_2⟩; have hGu0n1w10_2 := grown_trans hGu0n1w10_1 gu0n1w10_2; replace j5 := j5.kept gu0n1w10_2; have qr : RatV u0n1w10_2 (.agg #[.slice sr xr.length xr.length, .bool br, .slice sr' xr'.length xr'.length, .bool br']) (R0) := ⟨sr, xr, br, sr', xr', br', rfl, hr, hr'⟩; have hSu0n1w10_2 := (And.intro (hGu0n1w10_2.cell Ck0 (by simp)) (And.intro (hGu0n1w10_2.cell Ck1 (by simp)) (hGu0n1w10_2.cell Cd0 (by simp)))); clear gu0n1w10_2; clear hr hr'; (obtain ⟨dq0, dq1, dq2, dq3, dq4, dq5, dq6, dq7⟩ := box_cells4 (heap_kept hGu0n1w10_2 Bq)); have HSu0n1w10_20 := (And.intro ((box_cells (heap_unset4 (heap_kept hGu0n1w10_2 Bk) (show au0w6 ≠ w.heap.size by omega) (.slice sr xr.length xr.length) (.bool br) (.slice sr' xr'.length xr'.length) (.bool br'))).1) (And.intro ((box_cells (heap_unset4 (heap_kept hGu0n1w10_2 Bk) (show au0w6 ≠ w.heap.size by omega) (.slice sr xr.length xr.length) (.bool br) (.slice sr' xr'.length xr'.length) (.bool br'))).2.1) ((box_cell (heap_unset4 (heap_kept hGu0n1w10_2 Bd) (show aw2 + 1 ≠ w.heap.size by omega) (.slice sr xr.length xr.length) (.bool br) (.slice sr' xr'.length xr'.length) (.bool br'))).1)))))
          replace Bq := heap_kept hGu0n1w10_2 Bq
          replace Bu := heap_kept hGu0n1w10_2 Bu
          replace Bd := heap_kept hGu0n1w10_2 Bd
          replace Bk := heap_kept hGu0n1w10_2 Bk
          replace ik := ik.kept hGu0n1w10_2
          replace im := im.kept hGu0n1w10_2
          replace nD := nD.kept hGu0n1w10_2
          replace hG := grown_trans hG hGu0n1w10_2
          clear Cq0 Cq1 Cq2 Cq3 Fq0 Fq1 Fq2 Fq3 Cu0 Fu0 Cd0 Fd0 Ck0 Ck1 Fk0 Fk1
          obtain ⟨k90, k91, k92, k93, k94, k95, k96, k97⟩ := box_cells4 Bq
          obtain ⟨q90, q91, q92, q93, q94, q95, q96, q97⟩ := box_cells4 (heap_set4 Bq (.slice sr xr.length xr.length) (.bool br) (.slice sr' xr'.length xr'.length) (.bool br'))
          have hF : Hid (RetRatE w (R0) 0 (.returned (.tuple #[.agg #[.slice sr xr.length xr.length, .bool br, .slice sr' xr'.length xr'.length, .bool br'], .int .i64 0])) ((((u0n1w10_2.setCell ⟨w.heap.size, 0, none⟩ (.slice sr xr.length xr.length)).setCell ⟨w.heap.size, 1, none⟩ (.bool br)).setCell ⟨w.heap.size, 2, none⟩ (.slice sr' xr'.length xr'.length)).setCell ⟨w.heap.size, 3, none⟩ (.bool br'))) := ret_ratvE hG Bq (by omega) qr
          clear ik im nD j5 qr
          obtain ⟨Cu0, Fu0⟩ := box_cell Bu
          obtain ⟨Cd0, Fd0⟩ := box_cell Bd
          obtain ⟨Ck0, Ck1, Fk0, Fk1⟩ := box_cells Bk
          go_wp2_with fail
          exact bodyPost_ret (v := .tuple #[.agg #[.slice sr xr.length xr.length, .bool br, .slice sr' xr'.length xr'.length, .bool br'], .int .i64 0]) (by simp [results, Tryz.results22, go_sem, q90, q91, q92, q93]) rfl hF.out
theorem Dec_any (w : World) (s : Option Addr) (n cap : Nat) (l : List Nat) (hn : l.length = n) (hl : BySl w s l) (hcap : n ≤ cap) (hc : cap ≤ 9223372036854775807) (hTab : Tab w) :
    Calls Tryz.prog 22 #[.slice s n cap] w (RetRatE w (bval l) (bcod l)) := by
  by_cases h8 : n = 8
  · subst h8
    obtain ⟨h1, hd⟩ := hl
    obtain ⟨a, rfl, hx⟩ := h1.resolve_left (fun e => by rw [e] at hn; simp at hn)
    match l, hn with
    | [x0, x1, x2, x3, x4, x5, x6, x7], _ =>
      have h := dec_a w a cap x0 [x1, x2, x3, x4, x5, x6, x7] x1 x2 x3 x4 x5 x6 x7 rfl hcap hc (hd x0 (by simp)) (fun x h => hd x (List.mem_cons_of_mem _ h)) (hx 0 (by simp)) (hx 1 (by simp)) (hx 2 (by simp)) (hx 3 (by simp)) (hx 4 (by simp)) (hx 5 (by simp)) (hx 6 (by simp)) (hx 7 (by simp)) hTab
      exact h
  · have h := Dec_bad w s n cap h8 (by omega)
    have e1 : bval l = 0 := by unfold bval; rw [if_neg (by omega)]
    have e2 : bcod l = 3 := by unfold bcod; rw [if_neg (by omega)]
    rw [e1, e2]; exact h
end Go.Proofs.YtldkddogadmpbaaGreatDoor
namespace Go.Proofs.YtldkddogadmpbaaGreatDoor
open Go.RowKit Mat
set_option maxRecDepth 100000
set_option linter.unusedVariables false
set_option linter.unusedSimpArgs false
def ex0 (U : Nat) : Nat := (nb U - 56 + 3) / 4
theorem ex0_lo {U e : Nat} (h : e < ex0 U) : 2 ^ 56 * 2 ^ (4 * e) ≤ U := by
  unfold ex0 at h
  have hU : 0 < U := by
    rcases Nat.eq_zero_or_pos U with h0 | h0
    · rw [h0, nb_zero] at h; omega
    · exact h0
  have h1 := nb_pos hU
  rw [← Nat.pow_add]
  exact Nat.le_trans (Nat.pow_le_pow_right (by omega) (by omega)) h1.1
theorem ex0_hi (U : Nat) : U < 2 ^ 56 * 2 ^ (4 * ex0 U) := by
  rw [← Nat.pow_add]
  rcases Nat.eq_zero_or_pos U with h0 | h0
  · rw [h0]; exact Nat.pow_pos (by omega)
  · have h1 := nb_pos h0
    refine Nat.lt_of_lt_of_le h1.2.1 (Nat.pow_le_pow_right (by omega) ?_)
    unfold ex0; omega
def LeastE (U : Nat) (x y : Int) (b : Bool) : Prop :=
  (b = true ∧ ex0 U < 128 ∧ U % 2 ^ (4 * ex0 U) = 0 ∧ x = (ex0 U : Int) ∧ y = ((U / 2 ^ (4 * ex0 U) : Nat) : Int)) ∨ (b = false ∧ ¬ (ex0 U < 128 ∧ U % 2 ^ (4 * ex0 U) = 0))
def RetLeast (w : World) (U : Nat) (e : Ending) (w' : World) : Prop := ∃ x y b, e = .returned (.tuple #[.int .i64 x, .int .u64 y, .bool b]) ∧ LeastE U x y b ∧ w.grownBy w' none
def Units (r : Rat) (U : Nat) (b : Bool) : Prop :=
  (b = true ∧ ∃ sh, sh ≤ 312 ∧ r.den = 2 ^ sh ∧ r.num.natAbs * 2 ^ (312 - sh) = U) ∨ (b = false ∧ ∀ s, s ≤ 312 → r.den ≠ 2 ^ s)
def RetUnits (w : World) (r : Rat) (e : Ending) (w' : World) : Prop := ∃ v U b, e = .returned (.tuple #[v, .bool b]) ∧ NatV w' v U ∧ Units r U b ∧ w.grownBy w' none
theorem Down_of (w : World) (va : Value) (a K : Nat) (ha : NatV w va a) (k : Int) (k' : Nat) (e : k = (k' : Int)) (hk : k' ≤ 65536) (hK : K ≤ 1073741824) (la : a < B ^ K) :
    Calls Tryz.prog 61 #[va, .int .i64 k] w (RetNatE w (a / 2 ^ k') 0) := by subst e; exact Down_some w va a K ha k' hk hK la
theorem Word_lt (w : World) (va : Value) (a K : Nat) (ha : NatV w va a) (hK : K ≤ 1073741824) (la : a < B ^ K) (hB : a < B) :
    Calls Tryz.prog 62 #[va] w (fun e w' => e = .returned (.tuple #[.int .u64 (a : Int), .bool true]) ∧ w.grownBy w' none) := by
  refine (Word_any w va a K ha hK la).mono ?_
  rintro e w' ⟨⟨x, rfl, h1, _⟩, hg⟩
  rw [h1 hB, decide_eq_true hB]
  exact ⟨rfl, hg⟩
set_option maxHeartbeats 16000000 in
theorem Least_any (w : World) (va : Value) (U K : Nat) (Ha : NatV w va U) (hK : K ≤ 400000) (la : U < B ^ K) :
    Calls Tryz.prog 26 #[va] w (RetLeast w U) := by
  have Hla := Lib.hid la
  clear la
  obtain ⟨k, hk⟩ : ∃ k, nb U = k := ⟨_, rfl⟩
  obtain ⟨x, hx⟩ : ∃ x, ex0 U = x := ⟨_, rfl⟩
  have hxk : x = (k - 56 + 3) / 4 := by rw [← hx, ← hk]; rfl
  obtain ⟨P, hP⟩ : ∃ P, RetLeast w U = P := ⟨_, rfl⟩
  have no : ∀ W, w.grownBy W none → Hid (¬ (x < 128 ∧ U % 2 ^ (4 * x) = 0)) → P (.returned (.tuple #[.int .i64 0, .int .u64 0, .bool false])) W := fun W hg h => by
    rw [← hP]; exact ⟨0, 0, false, rfl, Or.inr ⟨rfl, by rw [hx]; exact h.out⟩, hg⟩
  have yes : ∀ W x', w.grownBy W none → x' = (x : Int) → Hid (x < 128 ∧ U % 2 ^ (4 * x) = 0) → P (.returned (.tuple #[.int .i64 x', .int .u64 ((U / 2 ^ (4 * x) : Nat) : Int), .bool true])) W := fun W x' hg e h => by
    rw [← hP, e]; exact ⟨_, _, true, rfl, Or.inl ⟨rfl, by rw [hx]; exact h.out.1, by rw [hx]; exact h.out.2, by rw [hx], by rw [hx]⟩, hg⟩
  have hhi : U < 2 ^ 56 * 2 ^ (4 * x) := by have := ex0_hi U; rw [hx] at this; exact this
  have hm : U / 2 ^ (4 * x) < 2 ^ 56 := Nat.div_lt_of_lt_mul (by rw [Nat.mul_comm]; exact hhi)
  have HM : Hid (U / 2 ^ (4 * x) < 2 ^ 56) := Lib.hid hm
  have HNO := Lib.hid no
  have HYES := Lib.hid yes
  have HK := Lib.hid hk
  have HXK := Lib.hid hxk
  rw [hP]
  clear hP hx no yes hhi hm hk hxk
  have hB : 2 ^ 56 < B := by unfold B; decide
  have hk9 : k ≤ 25600000 := by
    rcases Nat.eq_zero_or_pos U with h0 | h0
    · rw [← HK.out, h0, nb_zero]; omega
    · have h1 := nb_pos h0
      have h2 : U < 2 ^ (64 * K) := by rw [Nat.pow_mul]; exact Hla.out
      have h3 : 2 ^ (nb U - 1) < 2 ^ (64 * K) := Nat.lt_of_le_of_lt h1.1 h2
      have h4 := (Nat.pow_lt_pow_iff_right (by omega : 1 < 2)).1 h3
      rw [HK.out] at h4
      omega
  obtain ⟨sa, xa, rfl, ha, va⟩ := Ha
  have hG : w.grownBy (w.alloc (.cells #[.slice sa xa.length xa.length] 24)) none := (World.grownBy_alloc _ _ _)
  have Ba := (heap_new w (.cells #[.slice sa xa.length xa.length] 24) (w.heap.size) rfl)
  have na : NatV (w.alloc (.cells #[.slice sa xa.length xa.length] 24)) (.agg #[.slice sa xa.length xa.length]) (U) := ⟨sa, xa, rfl, ha.kept hG, va⟩
  have oa : NatV w (.agg #[.slice sa xa.length xa.length]) (U) := ⟨sa, xa, rfl, ha, va⟩
  clear ha va
  go_enter Tryz.func26, Tryz.ntmps26
  obtain ⟨Ca0, Fa0⟩ := box_cell Ba
  go_wp2_with fail
  generalize (w.alloc (.cells #[.slice sa xa.length xa.length] 24)) = w0 at *
  clear Ca0 Fa0
  refine (Bits_any w0 _ U K na (by omega) Hla.out).mono ?_
  rintro e w1 ⟨rfl, gw1⟩
  rw [HK.out]
  replace Ba := heap_kept gw1 Ba
  replace na := na.kept gw1
  replace hG := grown_trans hG gw1
  clear gw1
  obtain ⟨Ca0, Fa0⟩ := box_cell Ba
  by_cases h56 : 56 < k
  · skip
    have fx : ((k : Int) - 56 + 4 - 1) / 4 = (x : Int) := by have := HXK.out; omega
    by_cases h127 : 127 < x
    · skip
      go_wp2_with fail
      go_ret3
      exact HNO.out _ hG (Lib.hid (fun h => by omega))
    · skip
      go_wp2_with fail
      clear Ca0 Fa0
      refine (Down_of w1 _ U K na _ (4 * x) (by omega) (by omega) (by omega) Hla.out).mono ?_
      rintro e u1yw2 ⟨_, rfl, ⟨sd, xd, rfl, hd, vd⟩, gu1yw2⟩
      have nd : NatV u1yw2 (.agg #[.slice sd xd.length xd.length]) (U / 2 ^ (4 * x)) := ⟨sd, xd, rfl, hd, vd⟩
      replace Ba := heap_kept gu1yw2 Ba
      replace na := na.kept gu1yw2
      replace hG := grown_trans hG gu1yw2
      clear gu1yw2
      clear hd vd
      obtain ⟨Ca0, Fa0⟩ := box_cell Ba
      have gbu1yw2 := (World.grownBy_alloc u1yw2 (.cells #[.slice sd xd.length xd.length] 24) none)
      have Bd := (heap_new u1yw2 (.cells #[.slice sd xd.length xd.length] 24) (u1yw2.heap.size) rfl)
      have hzu1yw2 : Hid (w.heap.size ≤ u1yw2.heap.size) := Lib.hid hG.size
      have hlau1yw2 : Hid (w.heap.size < u1yw2.heap.size) := Lib.hid (Array.getElem?_eq_some_iff.1 Ba).1
      clear Ca0 Fa0
      replace Ba := heap_kept gbu1yw2 Ba
      replace na := na.kept gbu1yw2
      replace nd := nd.kept gbu1yw2
      replace hG := grown_trans hG gbu1yw2
      clear gbu1yw2
      obtain ⟨Ca0, Fa0⟩ := box_cell Ba
      obtain ⟨Cd0, Fd0⟩ := box_cell Bd
      go_wp2_with fail
      have ld : U / 2 ^ (4 * x) < B ^ K := Nat.lt_of_le_of_lt (Nat.div_le_self _ _) Hla.out
      generalize (u1yw2.alloc (.cells #[.slice sd xd.length xd.length] 24)) = u1yw3 at *
      generalize u1yw2.heap.size = au1yw2 at *
      replace hzu1yw2 := hzu1yw2.out
      replace hlau1yw2 := hlau1yw2.out
      clear Ca0 Fa0 Cd0 Fd0
      refine (Up_of u1yw3 _ (U / 2 ^ (4 * x)) K nd _ (4 * x) (by omega) (by omega) (by omega) ld).mono ?_
      rintro e u1yw4 ⟨_, rfl, ⟨st, xt, rfl, ht, vt⟩, gu1yw4⟩
      have nt : NatV u1yw4 (.agg #[.slice st xt.length xt.length]) (U / 2 ^ (4 * x) * 2 ^ (4 * x)) := ⟨st, xt, rfl, ht, vt⟩
      replace Ba := heap_kept gu1yw4 Ba
      replace Bd := heap_kept gu1yw4 Bd
      replace na := na.kept gu1yw4
      replace nd := nd.kept gu1yw4
      replace hG := grown_trans hG gu1yw4
      clear gu1yw4
      clear ht vt
      obtain ⟨Ca0, Fa0⟩ := box_cell Ba
      obtain ⟨Cd0, Fd0⟩ := box_cell Bd
      have gbu1yw4 := (World.grownBy_alloc u1yw4 (.cells #[.slice st xt.length xt.length] 24) none)
      have Bt := (heap_new u1yw4 (.cells #[.slice st xt.length xt.length] 24) (u1yw4.heap.size) rfl)
      have hzu1yw4 : Hid (w.heap.size ≤ u1yw4.heap.size) := Lib.hid hG.size
      have hlau1yw4 : Hid (w.heap.size < u1yw4.heap.size) := Lib.hid (Array.getElem?_eq_some_iff.1 Ba).1
      have hldu1yw4 : Hid (au1yw2 < u1yw4.heap.size) := Lib.hid (Array.getElem?_eq_some_iff.1 Bd).1
      clear Ca0 Fa0 Cd0 Fd0
      replace Ba := heap_kept gbu1yw4 Ba
      replace Bd := heap_kept gbu1yw4 Bd
      replace na := na.kept gbu1yw4
      replace nd := nd.kept gbu1yw4
      replace nt := nt.kept gbu1yw4
      replace hG := grown_trans hG gbu1yw4
      clear gbu1yw4
      obtain ⟨Ca0, Fa0⟩ := box_cell Ba
      obtain ⟨Cd0, Fd0⟩ := box_cell Bd
      obtain ⟨Ct0, Ft0⟩ := box_cell Bt
      go_wp2_with fail
      have lt9 : U / 2 ^ (4 * x) * 2 ^ (4 * x) < B ^ K := Nat.lt_of_le_of_lt (Nat.div_mul_le_self _ _) Hla.out
      generalize (u1yw4.alloc (.cells #[.slice st xt.length xt.length] 24)) = u1yw5 at *
      generalize u1yw4.heap.size = au1yw4 at *
      replace hzu1yw4 := hzu1yw4.out
      replace hlau1yw4 := hlau1yw4.out
      replace hldu1yw4 := hldu1yw4.out
      clear Ca0 Fa0 Cd0 Fd0 Ct0 Ft0
      refine (Cmp_any u1yw5 _ _ (U / 2 ^ (4 * x) * 2 ^ (4 * x)) U K nt na (by omega) lt9 Hla.out).mono ?_
      rintro e u1yw6 ⟨rfl, gu1yw6⟩
      replace Ba := heap_kept gu1yw6 Ba
      replace Bd := heap_kept gu1yw6 Bd
      replace Bt := heap_kept gu1yw6 Bt
      replace na := na.kept gu1yw6
      replace nd := nd.kept gu1yw6
      replace nt := nt.kept gu1yw6
      replace hG := grown_trans hG gu1yw6
      clear gu1yw6
      obtain ⟨Ca0, Fa0⟩ := box_cell Ba
      obtain ⟨Cd0, Fd0⟩ := box_cell Bd
      obtain ⟨Ct0, Ft0⟩ := box_cell Bt
      by_cases hdv : U % 2 ^ (4 * x) = 0
      · skip
        rw [cmpInt_eq (Nat.div_mul_cancel (Nat.dvd_of_mod_eq_zero hdv))]
        have HDV := Lib.hid hdv; clear hdv lt9
        go_wp2_with fail
        clear Ca0 Fa0 Cd0 Fd0 Ct0 Ft0
        refine (Word_lt u1yw6 _ (U / 2 ^ (4 * x)) K nd (by omega) ld (Nat.lt_trans HM.out hB)).mono ?_
        rintro e u1ypw7 ⟨rfl, gu1ypw7⟩
        replace Ba := heap_kept gu1ypw7 Ba
        replace Bd := heap_kept gu1ypw7 Bd
        replace Bt := heap_kept gu1ypw7 Bt
        replace na := na.kept gu1ypw7
        replace nd := nd.kept gu1ypw7
        replace nt := nt.kept gu1ypw7
        replace hG := grown_trans hG gu1ypw7
        clear gu1ypw7
        obtain ⟨Ca0, Fa0⟩ := box_cell Ba
        obtain ⟨Cd0, Fd0⟩ := box_cell Bd
        obtain ⟨Ct0, Ft0⟩ := box_cell Bt
        go_wp2_with fail
        go_ret3
        refine HYES.out _ _ hG ?_ (Lib.hid ⟨by omega, HDV.out⟩)
        first | rfl | omega
      · skip
        have hne : U / 2 ^ (4 * x) * 2 ^ (4 * x) < U := by
          have h1 := Nat.div_add_mod' U (2 ^ (4 * x))
          omega
        rw [cmpInt_lt hne]
        have HDV := Lib.hid hdv; clear hdv lt9 hne
        go_wp2_with fail
        go_ret3
        exact HNO.out _ hG (Lib.hid (fun h => HDV.out h.2))
  · skip
    obtain rfl : x = 0 := by have := HXK.out; omega
    go_wp2_with fail
    clear Ca0 Fa0
    refine (Down_of w1 _ U K na _ (4 * 0) (by omega) (by omega) (by omega) Hla.out).mono ?_
    rintro e u0w2 ⟨_, rfl, ⟨sd, xd, rfl, hd, vd⟩, gu0w2⟩
    have nd : NatV u0w2 (.agg #[.slice sd xd.length xd.length]) (U / 2 ^ (4 * 0)) := ⟨sd, xd, rfl, hd, vd⟩
    replace Ba := heap_kept gu0w2 Ba
    replace na := na.kept gu0w2
    replace hG := grown_trans hG gu0w2
    clear gu0w2
    clear hd vd
    obtain ⟨Ca0, Fa0⟩ := box_cell Ba
    have gbu0w2 := (World.grownBy_alloc u0w2 (.cells #[.slice sd xd.length xd.length] 24) none)
    have Bd := (heap_new u0w2 (.cells #[.slice sd xd.length xd.length] 24) (u0w2.heap.size) rfl)
    have hzu0w2 : Hid (w.heap.size ≤ u0w2.heap.size) := Lib.hid hG.size
    have hlau0w2 : Hid (w.heap.size < u0w2.heap.size) := Lib.hid (Array.getElem?_eq_some_iff.1 Ba).1
    clear Ca0 Fa0
    replace Ba := heap_kept gbu0w2 Ba
    replace na := na.kept gbu0w2
    replace nd := nd.kept gbu0w2
    replace hG := grown_trans hG gbu0w2
    clear gbu0w2
    obtain ⟨Ca0, Fa0⟩ := box_cell Ba
    obtain ⟨Cd0, Fd0⟩ := box_cell Bd
    go_wp2_with fail
    have ld : U / 2 ^ (4 * 0) < B ^ K := Nat.lt_of_le_of_lt (Nat.div_le_self _ _) Hla.out
    generalize (u0w2.alloc (.cells #[.slice sd xd.length xd.length] 24)) = u0w3 at *
    generalize u0w2.heap.size = au0w2 at *
    replace hzu0w2 := hzu0w2.out
    replace hlau0w2 := hlau0w2.out
    clear Ca0 Fa0 Cd0 Fd0
    refine (Up_of u0w3 _ (U / 2 ^ (4 * 0)) K nd _ (4 * 0) (by omega) (by omega) (by omega) ld).mono ?_
    rintro e u0w4 ⟨_, rfl, ⟨st, xt, rfl, ht, vt⟩, gu0w4⟩
    have nt : NatV u0w4 (.agg #[.slice st xt.length xt.length]) (U / 2 ^ (4 * 0) * 2 ^ (4 * 0)) := ⟨st, xt, rfl, ht, vt⟩
    replace Ba := heap_kept gu0w4 Ba
    replace Bd := heap_kept gu0w4 Bd
    replace na := na.kept gu0w4
    replace nd := nd.kept gu0w4
    replace hG := grown_trans hG gu0w4
    clear gu0w4
    clear ht vt
    obtain ⟨Ca0, Fa0⟩ := box_cell Ba
    obtain ⟨Cd0, Fd0⟩ := box_cell Bd
    have gbu0w4 := (World.grownBy_alloc u0w4 (.cells #[.slice st xt.length xt.length] 24) none)
    have Bt := (heap_new u0w4 (.cells #[.slice st xt.length xt.length] 24) (u0w4.heap.size) rfl)
    have hzu0w4 : Hid (w.heap.size ≤ u0w4.heap.size) := Lib.hid hG.size
    have hlau0w4 : Hid (w.heap.size < u0w4.heap.size) := Lib.hid (Array.getElem?_eq_some_iff.1 Ba).1
    have hldu0w4 : Hid (au0w2 < u0w4.heap.size) := Lib.hid (Array.getElem?_eq_some_iff.1 Bd).1
    clear Ca0 Fa0 Cd0 Fd0
    replace Ba := heap_kept gbu0w4 Ba
    replace Bd := heap_kept gbu0w4 Bd
    replace na := na.kept gbu0w4
    replace nd := nd.kept gbu0w4
    replace nt := nt.kept gbu0w4
    replace hG := grown_trans hG gbu0w4
    clear gbu0w4
    obtain ⟨Ca0, Fa0⟩ := box_cell Ba
    obtain ⟨Cd0, Fd0⟩ := box_cell Bd
    obtain ⟨Ct0, Ft0⟩ := box_cell Bt
    go_wp2_with fail
    have lt9 : U / 2 ^ (4 * 0) * 2 ^ (4 * 0) < B ^ K := Nat.lt_of_le_of_lt (Nat.div_mul_le_self _ _) Hla.out
    generalize (u0w4.alloc (.cells #[.slice st xt.length xt.length] 24)) = u0w5 at *
    generalize u0w4.heap.size = au0w4 at *
    replace hzu0w4 := hzu0w4.out
    replace hlau0w4 := hlau0w4.out
    replace hldu0w4 := hldu0w4.out
    clear Ca0 Fa0 Cd0 Fd0 Ct0 Ft0
    refine (Cmp_any u0w5 _ _ (U / 2 ^ (4 * 0) * 2 ^ (4 * 0)) U K nt na (by omega) lt9 Hla.out).mono ?_
    rintro e u0w6 ⟨rfl, gu0w6⟩
    replace Ba := heap_kept gu0w6 Ba
    replace Bd := heap_kept gu0w6 Bd
    replace Bt := heap_kept gu0w6 Bt
    replace na := na.kept gu0w6
    replace nd := nd.kept gu0w6
    replace nt := nt.kept gu0w6
    replace hG := grown_trans hG gu0w6
    clear gu0w6
    obtain ⟨Ca0, Fa0⟩ := box_cell Ba
    obtain ⟨Cd0, Fd0⟩ := box_cell Bd
    obtain ⟨Ct0, Ft0⟩ := box_cell Bt
    by_cases hdv : U % 2 ^ (4 * 0) = 0
    · skip
      rw [cmpInt_eq (Nat.div_mul_cancel (Nat.dvd_of_mod_eq_zero hdv))]
      have HDV := Lib.hid hdv; clear hdv lt9
      go_wp2_with fail
      clear Ca0 Fa0 Cd0 Fd0 Ct0 Ft0
      refine (Word_lt u0w6 _ (U / 2 ^ (4 * 0)) K nd (by omega) ld (Nat.lt_trans HM.out hB)).mono ?_
      rintro e u0pw7 ⟨rfl, gu0pw7⟩
      replace Ba := heap_kept gu0pw7 Ba
      replace Bd := heap_kept gu0pw7 Bd
      replace Bt := heap_kept gu0pw7 Bt
      replace na := na.kept gu0pw7
      replace nd := nd.kept gu0pw7
      replace nt := nt.kept gu0pw7
      replace hG := grown_trans hG gu0pw7
      clear gu0pw7
      obtain ⟨Ca0, Fa0⟩ := box_cell Ba
      obtain ⟨Cd0, Fd0⟩ := box_cell Bd
      obtain ⟨Ct0, Ft0⟩ := box_cell Bt
      go_wp2_with fail
      go_ret3
      have h := HYES.out _ 0 hG rfl (Lib.hid ⟨by omega, HDV.out⟩)
      simp only [Nat.mul_zero, Nat.pow_zero, Nat.div_one] at h
      exact h
    · skip
      have hne : U / 2 ^ (4 * 0) * 2 ^ (4 * 0) < U := by
        have h1 := Nat.div_add_mod' U (2 ^ (4 * 0))
        omega
      rw [cmpInt_lt hne]
      have HDV := Lib.hid hdv; clear hdv lt9 hne
      go_wp2_with fail
      go_ret3
      exact HNO.out _ hG (Lib.hid (fun h => HDV.out h.2))
set_option maxHeartbeats 16000000 in
theorem Units_any (w : World) (va : Value) (r : Rat) (K : Nat) (Ha : RatV w va r) (hK : K ≤ 400000) (ln : r.num.natAbs < B ^ K) (ld : r.den < B ^ K) :
    Calls Tryz.prog 25 #[va] w (RetUnits w r) := by
  have Hln := Lib.hid ln
  have Hld := Lib.hid ld
  clear ln ld
  have hdp : (r.den : Int).natAbs = r.den := Int.natAbs_natCast _
  obtain ⟨d, hd⟩ : ∃ d, r.den = d := ⟨_, rfl⟩
  obtain ⟨k, hk⟩ : ∃ k, nb d = k := ⟨_, rfl⟩
  have hd0 : 0 < d := by rw [← hd]; exact r.den_pos
  have hk0 := nb_pos hd0
  rw [hk] at hk0
  obtain ⟨P, hP⟩ : ∃ P, RetUnits w r = P := ⟨_, rfl⟩
  have no : ∀ W, w.grownBy W none → Hid (∀ s, s ≤ 312 → d ≠ 2 ^ s) → P (.returned (.tuple #[.agg #[.slice none 0 0], .bool false])) W := fun W hg h => by
    rw [← hP]; exact ⟨_, 0, false, rfl, NatV.zero _, Or.inr ⟨rfl, by rw [hd]; exact h.out⟩, hg⟩
  have yes : ∀ W v, w.grownBy W none → NatV W v (r.num.natAbs * 2 ^ (312 - (k - 1))) → Hid (k - 1 ≤ 312 ∧ d = 2 ^ (k - 1)) → P (.returned (.tuple #[v, .bool true])) W := fun W v hg hv h => by
    rw [← hP]; exact ⟨_, _, true, rfl, hv, Or.inl ⟨rfl, k - 1, h.out.1, by rw [hd]; exact h.out.2, rfl⟩, hg⟩
  have Hld2 : Hid (d < B ^ K) := Lib.hid (by rw [← hd]; exact Hld.out)
  have HDE : Hid ((r.den : Int).natAbs = d) := Lib.hid (by rw [hdp, hd])
  have HD0 := Lib.hid hk0
  have hk9 : k ≤ 25600000 := by
    have h2 : d < 2 ^ (64 * K) := by rw [Nat.pow_mul]; exact Hld2.out
    have h3 : 2 ^ (k - 1) < 2 ^ (64 * K) := Nat.lt_of_le_of_lt hk0.1 h2
    have h4 := (Nat.pow_lt_pow_iff_right (by omega : 1 < 2)).1 h3
    omega
  have hk1 : 1 ≤ k := hk0.2.2
  have HNO := Lib.hid no
  have HYES := Lib.hid yes
  have HK := Lib.hid hk
  rw [hP]
  clear hP no yes hdp hd hk hk0
  obtain ⟨sa, xa, ba, sa', xa', ba', rfl, ha, ha'⟩ := Ha
  have hG : w.grownBy ((w.alloc (.cells #[.slice sa xa.length xa.length, .bool ba, .slice sa' xa'.length xa'.length, .bool ba'] 28)).alloc (.cells #[.slice none 0 0] 24)) none := (grown_alloc (World.grownBy_alloc _ _ _) _)
  have Ba := heap_kept (World.grownBy_alloc _ (.cells #[.slice none 0 0] 24) none) (heap_new w (.cells #[.slice sa xa.length xa.length, .bool ba, .slice sa' xa'.length xa'.length, .bool ba'] 28) (w.heap.size) rfl)
  have Bq := (heap_new (w.alloc (.cells #[.slice sa xa.length xa.length, .bool ba, .slice sa' xa'.length xa'.length, .bool ba'] 28)) (.cells #[.slice none 0 0] 24) (w.heap.size + 1) (by simp))
  have qa : RatV ((w.alloc (.cells #[.slice sa xa.length xa.length, .bool ba, .slice sa' xa'.length xa'.length, .bool ba'] 28)).alloc (.cells #[.slice none 0 0] 24)) (.agg #[.slice sa xa.length xa.length, .bool ba, .slice sa' xa'.length xa'.length, .bool ba']) (r) := ⟨sa, xa, ba, sa', xa', ba', rfl, ha.kept hG, ha'.kept hG⟩
  have oa : RatV w (.agg #[.slice sa xa.length xa.length, .bool ba, .slice sa' xa'.length xa'.length, .bool ba']) (r) := ⟨sa, xa, ba, sa', xa', ba', rfl, ha, ha'⟩
  clear ha ha'
  go_enter Tryz.func25, Tryz.ntmps25
  obtain ⟨Ca0, Ca1, Ca2, Ca3, Fa0, Fa1, Fa2, Fa3⟩ := box_cells4 Ba
  obtain ⟨Cq0, Fq0⟩ := box_cell Bq
  go_wp2_with fail
  generalize ((w.alloc (.cells #[.slice sa xa.length xa.length, .bool ba, .slice sa' xa'.length xa'.length, .bool ba'] 28)).alloc (.cells #[.slice none 0 0] 24)) = w0 at *
  clear Ca0 Ca1 Ca2 Ca3 Fa0 Fa1 Fa2 Fa3 Cq0 Fq0
  refine (FDen_any w0 _ r K qa (by omega) Hld.out).mono ?_
  rintro e w1 ⟨_, rfl, ⟨se, xe, be, rfl, he, ve, te⟩, gw1⟩
  have ie : IntV w1 (.agg #[.slice se xe.length xe.length, .bool be]) ((r.den : Int)) := ⟨se, xe, be, rfl, he, ve, te⟩
  replace Ba := heap_kept gw1 Ba
  replace Bq := heap_kept gw1 Bq
  replace qa := qa.kept gw1
  replace hG := grown_trans hG gw1
  clear gw1
  clear he ve te
  obtain ⟨Ca0, Ca1, Ca2, Ca3, Fa0, Fa1, Fa2, Fa3⟩ := box_cells4 Ba
  obtain ⟨Cq0, Fq0⟩ := box_cell Bq
  go_wp2_with fail
  clear Ca0 Ca1 Ca2 Ca3 Fa0 Fa1 Fa2 Fa3 Cq0 Fq0
  refine (Abs_any w1 _ (r.den : Int) K ie (by omega) (by rw [HDE.out]; exact Hld2.out)).mono ?_
  rintro e w2 ⟨_, rfl, ⟨sd, xd, rfl, hd, vd⟩, gw2⟩
  rw [HDE.out] at vd
  have nd : NatV w2 (.agg #[.slice sd xd.length xd.length]) (d) := ⟨sd, xd, rfl, hd, vd⟩
  replace Ba := heap_kept gw2 Ba
  replace Bq := heap_kept gw2 Bq
  replace qa := qa.kept gw2
  replace ie := ie.kept gw2
  replace hG := grown_trans hG gw2
  clear gw2
  clear hd vd
  obtain ⟨Ca0, Ca1, Ca2, Ca3, Fa0, Fa1, Fa2, Fa3⟩ := box_cells4 Ba
  obtain ⟨Cq0, Fq0⟩ := box_cell Bq
  have gbw2 := (World.grownBy_alloc w2 (.cells #[.slice sd xd.length xd.length] 24) none)
  have Bd := (heap_new w2 (.cells #[.slice sd xd.length xd.length] 24) (w2.heap.size) rfl)
  have hzw2 : Hid (w.heap.size ≤ w2.heap.size) := Lib.hid hG.size
  have hlaw2 : Hid (w.heap.size < w2.heap.size) := Lib.hid (Array.getElem?_eq_some_iff.1 Ba).1
  have hlqw2 : Hid (w.heap.size + 1 < w2.heap.size) := Lib.hid (Array.getElem?_eq_some_iff.1 Bq).1
  clear Ca0 Ca1 Ca2 Ca3 Fa0 Fa1 Fa2 Fa3 Cq0 Fq0
  replace Ba := heap_kept gbw2 Ba
  replace Bq := heap_kept gbw2 Bq
  replace qa := qa.kept gbw2
  replace ie := ie.kept gbw2
  replace nd := nd.kept gbw2
  replace hG := grown_trans hG gbw2
  clear gbw2
  obtain ⟨Ca0, Ca1, Ca2, Ca3, Fa0, Fa1, Fa2, Fa3⟩ := box_cells4 Ba
  obtain ⟨Cq0, Fq0⟩ := box_cell Bq
  obtain ⟨Cd0, Fd0⟩ := box_cell Bd
  go_wp2_with fail
  generalize (w2.alloc (.cells #[.slice sd xd.length xd.length] 24)) = w3 at *
  generalize w2.heap.size = aw2 at *
  replace hzw2 := hzw2.out
  replace hlaw2 := hlaw2.out
  replace hlqw2 := hlqw2.out
  clear Ca0 Ca1 Ca2 Ca3 Fa0 Fa1 Fa2 Fa3 Cq0 Fq0 Cd0 Fd0
  refine (Bits_any w3 _ d K nd (by omega) Hld2.out).mono ?_
  rintro e w4 ⟨rfl, gw4⟩
  rw [HK.out]
  replace Ba := heap_kept gw4 Ba
  replace Bq := heap_kept gw4 Bq
  replace Bd := heap_kept gw4 Bd
  replace qa := qa.kept gw4
  replace ie := ie.kept gw4
  replace nd := nd.kept gw4
  replace hG := grown_trans hG gw4
  clear gw4
  obtain ⟨Ca0, Ca1, Ca2, Ca3, Fa0, Fa1, Fa2, Fa3⟩ := box_cells4 Ba
  obtain ⟨Cq0, Fq0⟩ := box_cell Bq
  obtain ⟨Cd0, Fd0⟩ := box_cell Bd
  by_cases h312 : 313 < k
  · skip
    have f1 : decide (312 < (k : Int) - 1) = true := decide_eq_true (by omega)
    clear Ca0 Ca1 Ca2 Ca3 Fa0 Fa1 Fa2 Fa3 Cq0 Fq0 Cd0 Fd0
    obtain ⟨k90, k91⟩ := box_cell Bq
    obtain ⟨q90, q91⟩ := box_cell (heap_set Bq (.slice none 0 0))
    have hF := Lib.hid (HNO.out _ (grown_set1 (g := w.heap.size + 1) hG (by omega) (.slice none 0 0)) (Lib.hid (fun s hs e => by
      have h1 := HD0.out.1
      rw [e] at h1
      have h2 := (Nat.pow_le_pow_iff_right (by omega : 1 < 2)).1 h1
      omega)))
    go_wp2_with fail
    exact bodyPost_ret (v := .tuple #[.agg #[.slice none 0 0], .bool false]) (by simp [results, Tryz.results25, go_sem, q90]) rfl hF.out
  · skip
    go_wp2_with fail
    clear Ca0 Ca1 Ca2 Ca3 Fa0 Fa1 Fa2 Fa3 Cq0 Fq0 Cd0 Fd0
    refine (Of_one w4).mono ?_
    rintro e yw5 ⟨_, rfl, ⟨so, xo, rfl, ho, vo⟩, gyw5⟩
    have no : NatV yw5 (.agg #[.slice so xo.length xo.length]) (1) := ⟨so, xo, rfl, ho, vo⟩
    replace Ba := heap_kept gyw5 Ba
    replace Bq := heap_kept gyw5 Bq
    replace Bd := heap_kept gyw5 Bd
    replace qa := qa.kept gyw5
    replace ie := ie.kept gyw5
    replace nd := nd.kept gyw5
    replace hG := grown_trans hG gyw5
    clear gyw5
    clear ho vo
    obtain ⟨Ca0, Ca1, Ca2, Ca3, Fa0, Fa1, Fa2, Fa3⟩ := box_cells4 Ba
    obtain ⟨Cq0, Fq0⟩ := box_cell Bq
    obtain ⟨Cd0, Fd0⟩ := box_cell Bd
    go_wp2_with fail
    clear Ca0 Ca1 Ca2 Ca3 Fa0 Fa1 Fa2 Fa3 Cq0 Fq0 Cd0 Fd0
    refine (Up_of yw5 _ 1 1 no _ (k - 1) (by omega) (by omega) (by omega) (by unfold B; decide)).mono ?_
    rintro e yw6 ⟨_, rfl, ⟨sp, xp, rfl, hp, vp⟩, gyw6⟩
    have np : NatV yw6 (.agg #[.slice sp xp.length xp.length]) (1 * 2 ^ (k - 1)) := ⟨sp, xp, rfl, hp, vp⟩
    replace Ba := heap_kept gyw6 Ba
    replace Bq := heap_kept gyw6 Bq
    replace Bd := heap_kept gyw6 Bd
    replace qa := qa.kept gyw6
    replace ie := ie.kept gyw6
    replace nd := nd.kept gyw6
    replace no := no.kept gyw6
    replace hG := grown_trans hG gyw6
    clear gyw6
    clear hp vp
    obtain ⟨Ca0, Ca1, Ca2, Ca3, Fa0, Fa1, Fa2, Fa3⟩ := box_cells4 Ba
    obtain ⟨Cq0, Fq0⟩ := box_cell Bq
    obtain ⟨Cd0, Fd0⟩ := box_cell Bd
    have gbyw6 := (World.grownBy_alloc yw6 (.cells #[.slice sp xp.length xp.length] 24) none)
    have Bp := (heap_new yw6 (.cells #[.slice sp xp.length xp.length] 24) (yw6.heap.size) rfl)
    have hzyw6 : Hid (w.heap.size ≤ yw6.heap.size) := Lib.hid hG.size
    have hlayw6 : Hid (w.heap.size < yw6.heap.size) := Lib.hid (Array.getElem?_eq_some_iff.1 Ba).1
    have hlqyw6 : Hid (w.heap.size + 1 < yw6.heap.size) := Lib.hid (Array.getElem?_eq_some_iff.1 Bq).1
    have hldyw6 : Hid (aw2 < yw6.heap.size) := Lib.hid (Array.getElem?_eq_some_iff.1 Bd).1
    clear Ca0 Ca1 Ca2 Ca3 Fa0 Fa1 Fa2 Fa3 Cq0 Fq0 Cd0 Fd0
    replace Ba := heap_kept gbyw6 Ba
    replace Bq := heap_kept gbyw6 Bq
    replace Bd := heap_kept gbyw6 Bd
    replace qa := qa.kept gbyw6
    replace ie := ie.kept gbyw6
    replace nd := nd.kept gbyw6
    replace no := no.kept gbyw6
    replace np := np.kept gbyw6
    replace hG := grown_trans hG gbyw6
    clear gbyw6
    obtain ⟨Ca0, Ca1, Ca2, Ca3, Fa0, Fa1, Fa2, Fa3⟩ := box_cells4 Ba
    obtain ⟨Cq0, Fq0⟩ := box_cell Bq
    obtain ⟨Cd0, Fd0⟩ := box_cell Bd
    obtain ⟨Cp0, Fp0⟩ := box_cell Bp
    go_wp2_with fail
    have lp : 1 * 2 ^ (k - 1) < B ^ K := by rw [Nat.one_mul]; exact Nat.lt_of_le_of_lt HD0.out.1 Hld2.out
    generalize (yw6.alloc (.cells #[.slice sp xp.length xp.length] 24)) = yw7 at *
    generalize yw6.heap.size = ayw6 at *
    replace hzyw6 := hzyw6.out
    replace hlayw6 := hlayw6.out
    replace hlqyw6 := hlqyw6.out
    replace hldyw6 := hldyw6.out
    clear Ca0 Ca1 Ca2 Ca3 Fa0 Fa1 Fa2 Fa3 Cq0 Fq0 Cd0 Fd0 Cp0 Fp0
    refine (Cmp_any yw7 _ _ (1 * 2 ^ (k - 1)) d K np nd (by omega) lp Hld2.out).mono ?_
    rintro e yw8 ⟨rfl, gyw8⟩
    replace Ba := heap_kept gyw8 Ba
    replace Bq := heap_kept gyw8 Bq
    replace Bd := heap_kept gyw8 Bd
    replace Bp := heap_kept gyw8 Bp
    replace qa := qa.kept gyw8
    replace ie := ie.kept gyw8
    replace nd := nd.kept gyw8
    replace no := no.kept gyw8
    replace np := np.kept gyw8
    replace hG := grown_trans hG gyw8
    clear gyw8
    obtain ⟨Ca0, Ca1, Ca2, Ca3, Fa0, Fa1, Fa2, Fa3⟩ := box_cells4 Ba
    obtain ⟨Cq0, Fq0⟩ := box_cell Bq
    obtain ⟨Cd0, Fd0⟩ := box_cell Bd
    obtain ⟨Cp0, Fp0⟩ := box_cell Bp
    by_cases hp : d = 2 ^ (k - 1)
    · skip
      rw [cmpInt_eq (by rw [Nat.one_mul]; exact hp.symm)]
      have HPW := Lib.hid hp; clear hp lp
      go_wp2_with fail
      clear Ca0 Ca1 Ca2 Ca3 Fa0 Fa1 Fa2 Fa3 Cq0 Fq0 Cd0 Fd0 Cp0 Fp0
      refine (FNum_any yw8 _ r K qa (by omega) Hln.out).mono ?_
      rintro e yew9 ⟨_, rfl, ⟨sj, xj, bj, rfl, hj, vj, tj⟩, gyew9⟩
      have ij : IntV yew9 (.agg #[.slice sj xj.length xj.length, .bool bj]) (r.num) := ⟨sj, xj, bj, rfl, hj, vj, tj⟩
      replace Ba := heap_kept gyew9 Ba
      replace Bq := heap_kept gyew9 Bq
      replace Bd := heap_kept gyew9 Bd
      replace Bp := heap_kept gyew9 Bp
      replace qa := qa.kept gyew9
      replace ie := ie.kept gyew9
      replace nd := nd.kept gyew9
      replace no := no.kept gyew9
      replace np := np.kept gyew9
      replace hG := grown_trans hG gyew9
      clear gyew9
      clear hj vj tj
      obtain ⟨Ca0, Ca1, Ca2, Ca3, Fa0, Fa1, Fa2, Fa3⟩ := box_cells4 Ba
      obtain ⟨Cq0, Fq0⟩ := box_cell Bq
      obtain ⟨Cd0, Fd0⟩ := box_cell Bd
      obtain ⟨Cp0, Fp0⟩ := box_cell Bp
      go_wp2_with fail
      clear Ca0 Ca1 Ca2 Ca3 Fa0 Fa1 Fa2 Fa3 Cq0 Fq0 Cd0 Fd0 Cp0 Fp0
      refine (Abs_any yew9 _ r.num K ij (by omega) Hln.out).mono ?_
      rintro e yew10 ⟨_, rfl, ⟨sb, xb, rfl, hb, vb⟩, gyew10⟩
      have nb : NatV yew10 (.agg #[.slice sb xb.length xb.length]) (r.num.natAbs) := ⟨sb, xb, rfl, hb, vb⟩
      replace Ba := heap_kept gyew10 Ba
      replace Bq := heap_kept gyew10 Bq
      replace Bd := heap_kept gyew10 Bd
      replace Bp := heap_kept gyew10 Bp
      replace qa := qa.kept gyew10
      replace ie := ie.kept gyew10
      replace nd := nd.kept gyew10
      replace no := no.kept gyew10
      replace np := np.kept gyew10
      replace ij := ij.kept gyew10
      replace hG := grown_trans hG gyew10
      clear gyew10
      clear hb vb
      obtain ⟨Ca0, Ca1, Ca2, Ca3, Fa0, Fa1, Fa2, Fa3⟩ := box_cells4 Ba
      obtain ⟨Cq0, Fq0⟩ := box_cell Bq
      obtain ⟨Cd0, Fd0⟩ := box_cell Bd
      obtain ⟨Cp0, Fp0⟩ := box_cell Bp
      go_wp2_with fail
      clear Ca0 Ca1 Ca2 Ca3 Fa0 Fa1 Fa2 Fa3 Cq0 Fq0 Cd0 Fd0 Cp0 Fp0
      refine (Up_of yew10 _ r.num.natAbs K nb _ (312 - (k - 1)) (by omega) (by omega) (by omega) Hln.out).mono ?_
      rintro e yew11 ⟨_, rfl, ⟨su, xu, rfl, hu, vu⟩, gyew11⟩
      have nu : NatV yew11 (.agg #[.slice su xu.length xu.length]) (r.num.natAbs * 2 ^ (312 - (k - 1))) := ⟨su, xu, rfl, hu, vu⟩
      replace Ba := heap_kept gyew11 Ba
      replace Bq := heap_kept gyew11 Bq
      replace Bd := heap_kept gyew11 Bd
      replace Bp := heap_kept gyew11 Bp
      replace qa := qa.kept gyew11
      replace ie := ie.kept gyew11
      replace nd := nd.kept gyew11
      replace no := no.kept gyew11
      replace np := np.kept gyew11
      replace ij := ij.kept gyew11
      replace nb := nb.kept gyew11
      replace hG := grown_trans hG gyew11
      clear gyew11
      clear hu vu
      obtain ⟨Ca0, Ca1, Ca2, Ca3, Fa0, Fa1, Fa2, Fa3⟩ := box_cells4 Ba
      obtain ⟨Cq0, Fq0⟩ := box_cell Bq
      obtain ⟨Cd0, Fd0⟩ := box_cell Bd
      obtain ⟨Cp0, Fp0⟩ := box_cell Bp
      have gbyew11 := (World.grownBy_alloc yew11 (.cells #[.slice su xu.length xu.length] 24) none)
      have Bu := (heap_new yew11 (.cells #[.slice su xu.length xu.length] 24) (yew11.heap.size) rfl)
      have hzyew11 : Hid (w.heap.size ≤ yew11.heap.size) := Lib.hid hG.size
      have hlayew11 : Hid (w.heap.size < yew11.heap.size) := Lib.hid (Array.getElem?_eq_some_iff.1 Ba).1
      have hlqyew11 : Hid (w.heap.size + 1 < yew11.heap.size) := Lib.hid (Array.getElem?_eq_some_iff.1 Bq).1
      have hldyew11 : Hid (aw2 < yew11.heap.size) := Lib.hid (Array.getElem?_eq_some_iff.1 Bd).1
      have hlpyew11 : Hid (ayw6 < yew11.heap.size) := Lib.hid (Array.getElem?_eq_some_iff.1 Bp).1
      clear Ca0 Ca1 Ca2 Ca3 Fa0 Fa1 Fa2 Fa3 Cq0 Fq0 Cd0 Fd0 Cp0 Fp0
      replace Ba := heap_kept gbyew11 Ba
      replace Bq := heap_kept gbyew11 Bq
      replace Bd := heap_kept gbyew11 Bd
      replace Bp := heap_kept gbyew11 Bp
      replace qa := qa.kept gbyew11
      replace ie := ie.kept gbyew11
      replace nd := nd.kept gbyew11
      replace no := no.kept gbyew11
      replace np := np.kept gbyew11
      replace ij := ij.kept gbyew11
      replace nb := nb.kept gbyew11
      replace nu := nu.kept gbyew11
      replace hG := grown_trans hG gbyew11
      clear gbyew11
      obtain ⟨Ca0, Ca1, Ca2, Ca3, Fa0, Fa1, Fa2, Fa3⟩ := box_cells4 Ba
      obtain ⟨Cq0, Fq0⟩ := box_cell Bq
      obtain ⟨Cd0, Fd0⟩ := box_cell Bd
      obtain ⟨Cp0, Fp0⟩ := box_cell Bp
      obtain ⟨Cu0, Fu0⟩ := box_cell Bu
      clear Ca0 Ca1 Ca2 Ca3 Fa0 Fa1 Fa2 Fa3 Cq0 Fq0 Cd0 Fd0 Cp0 Fp0 Cu0 Fu0
      obtain ⟨k90, k91⟩ := box_cell Bq
      obtain ⟨q90, q91⟩ := box_cell (heap_set Bq (.slice su xu.length xu.length))
      obtain ⟨Cu0, Fu0⟩ := box_cell Bu
      have hF := Lib.hid (HYES.out _ _ (grown_set1 (g := w.heap.size + 1) hG (by omega) (.slice su xu.length xu.length)) (nu.set1 Bq (.slice su xu.length xu.length)) (Lib.hid ⟨by omega, HPW.out⟩))
      go_wp2_with fail
      exact bodyPost_ret (v := .tuple #[.agg #[.slice su xu.length xu.length], .bool true]) (by simp [results, Tryz.results25, go_sem, q90]) rfl hF.out
    · skip
      rw [cmpInt_lt (show 1 * 2 ^ (k - 1) < d by have := HD0.out.1; omega)]
      have HPW := Lib.hid hp; clear hp lp
      clear Ca0 Ca1 Ca2 Ca3 Fa0 Fa1 Fa2 Fa3 Cq0 Fq0 Cd0 Fd0 Cp0 Fp0
      obtain ⟨k90, k91⟩ := box_cell Bq
      obtain ⟨q90, q91⟩ := box_cell (heap_set Bq (.slice none 0 0))
      have hF := Lib.hid (HNO.out _ (grown_set1 (g := w.heap.size + 1) hG (by omega) (.slice none 0 0)) (Lib.hid (fun s hs e => HPW.out (by
        have h1 := HD0.out.1
        have h2 := HD0.out.2.1
        rw [e] at h1 h2
        have h3 := (Nat.pow_le_pow_iff_right (by omega : 1 < 2)).1 h1
        have h4 := (Nat.pow_lt_pow_iff_right (by omega : 1 < 2)).1 h2
        rw [e, show s = k - 1 by omega]))))
      go_wp2_with fail
      exact bodyPost_ret (v := .tuple #[.agg #[.slice none 0 0], .bool false]) (by simp [results, Tryz.results25, go_sem, q90]) rfl hF.out
end Go.Proofs.YtldkddogadmpbaaGreatDoor
