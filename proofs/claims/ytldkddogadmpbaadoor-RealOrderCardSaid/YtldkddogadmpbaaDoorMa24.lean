/- What the laws lean on, part 24. -/
import Derived.Deep.RegionHeld3
import Derived.IntWalk
import Derived.Test.YtldkddogadmpbaaDoorMa17
import Derived.Test.YtldkddogadmpbaaDoorMa23
import Derived.Test.YtldkddogadmpbaaDoorMa14
namespace Go.Proofs.YtldkddogadmpbaaDoor
open Go.RowKit Mat
set_option maxRecDepth 100000
set_option linter.unusedVariables false
set_option linter.unusedSimpArgs false
def RQ (w : World) (v : Value) (r : Rat) (E : Nat) : Prop := ∃ (g : Int) (s : Option Addr) (l c : Nat) (g' : Int) (s' : Option Addr) (l' c' : Nat) (n d : Int), v = .agg #[.int .i64 g, .slice s l c, .int .i64 g', .slice s' l' c'] ∧ RIntV w (.agg #[.int .i64 g, .slice s l c]) n ∧ RIntV w (.agg #[.int .i64 g', .slice s' l' c']) d ∧ Hid (0 < d ∧ Rat.divInt n d = r ∧ n.natAbs < D ^ E ∧ d.natAbs < D ^ E)
theorem RQ.kept {w w' : World} {v : Value} {r : Rat} {E : Nat} (h : RQ w v r E) (hg : w.grownBy w' none) : RQ w' v r E := by
  obtain ⟨g, s, l, c, g', s', l', c', n, d, e, h1, h2, h3⟩ := h
  exact ⟨g, s, l, c, g', s', l', c', n, d, e, h1.kept hg, h2.kept hg, h3⟩
theorem dpw {a E M : Nat} (h : a < D ^ E) (hE : E ≤ M) : a < D ^ M := Nat.lt_of_lt_of_le h (Nat.pow_le_pow_right D_pos hE)
theorem dp6 {a E : Nat} (h : a < D ^ E) (hE : E ≤ 1000000) : a < D ^ 1000000 := by
  obtain ⟨M, hM⟩ : ∃ M, M = 1000000 := ⟨_, rfl⟩
  rw [← hM] at hE ⊢
  exact dpw h hE
theorem dp4 {a E : Nat} (h : a < D ^ E) (hE : E ≤ 400000) : a < D ^ 400000 := by
  obtain ⟨M, hM⟩ : ∃ M, M = 400000 := ⟨_, rfl⟩
  rw [← hM] at hE ⊢
  exact dpw h hE
theorem RQ.mono {w : World} {v : Value} {r : Rat} {E M : Nat} (h : RQ w v r E) (hE : E ≤ M) : RQ w v r M := by
  obtain ⟨g, s, l, c, g', s', l', c', n, d, e, h1, h2, h3, h4, h5, h6⟩ := h
  exact ⟨g, s, l, c, g', s', l', c', n, d, e, h1, h2, h3, h4, dpw h5 hE, dpw h6 hE⟩
theorem RIntV.set4 {w : World} {v : Value} {n : Int} {g : Nat} {a0 a1 a2 a3 : Value} (h : RIntV w v n) (hbox : w.heap[g]? = some (.cells #[a0, a1, a2, a3] 40 (0, 0))) (v0 v1 v2 v3 : Value) : RIntV ((((w.setCell ⟨g, 0, none⟩ v0).setCell ⟨g, 1, none⟩ v1).setCell ⟨g, 2, none⟩ v2).setCell ⟨g, 3, none⟩ v3) v n := by
  have k1 : (w.setCell ⟨g, 0, none⟩ v0).heap[g]? = some (.cells #[v0, a1, a2, a3] 40 (0, 0)) := by simp [World.setCell, Array.getElem?_modify, hbox]
  have k2 : ((w.setCell ⟨g, 0, none⟩ v0).setCell ⟨g, 1, none⟩ v1).heap[g]? = some (.cells #[v0, v1, a2, a3] 40 (0, 0)) := by simp [World.setCell, Array.getElem?_modify, hbox]
  have k3 : (((w.setCell ⟨g, 0, none⟩ v0).setCell ⟨g, 1, none⟩ v1).setCell ⟨g, 2, none⟩ v2).heap[g]? = some (.cells #[v0, v1, v2, a3] 40 (0, 0)) := by simp [World.setCell, Array.getElem?_modify, hbox]
  exact (((h.set_other hbox (by decide) 0 v0).set_other k1 (by decide) 1 v1).set_other k2 (by decide) 2 v2).set_other k3 (by decide) 3 v3
theorem RQ.set4 {w : World} {v : Value} {r : Rat} {E : Nat} {g : Nat} {a0 a1 a2 a3 : Value} (h : RQ w v r E) (hbox : w.heap[g]? = some (.cells #[a0, a1, a2, a3] 40 (0, 0))) (v0 v1 v2 v3 : Value) : RQ ((((w.setCell ⟨g, 0, none⟩ v0).setCell ⟨g, 1, none⟩ v1).setCell ⟨g, 2, none⟩ v2).setCell ⟨g, 3, none⟩ v3) v r E := by
  obtain ⟨g, s, l, c, g', s', l', c', n, d, e, h1, h2, h3⟩ := h
  exact ⟨g, s, l, c, g', s', l', c', n, d, e, h1.set4 hbox _ _ _ _, h2.set4 hbox _ _ _ _, h3⟩
def RetRQ (w : World) (r : Rat) (E : Nat) (e : Ending) (w' : World) : Prop := ∃ v, e = .returned v ∧ RQ w' v r E ∧ w.grownBy w' none
def RetRQE (w : World) (r : Rat) (E : Nat) (code : Int) (e : Ending) (w' : World) : Prop := ∃ v, e = .returned (.tuple #[v, .int .i64 code]) ∧ RQ w' v r E ∧ w.grownBy w' none
theorem ret_rq {w w' : World} {r : Rat} {E g : Nat} {a0 a1 a2 a3 v0 v1 v2 v3 : Value} (hg : w.grownBy w' none) (hbox : w'.heap[g]? = some (.cells #[a0, a1, a2, a3] 40 (0, 0))) (hl : w.heap.size ≤ g) (h : RQ w' (.agg #[v0, v1, v2, v3]) r E) :
    RetRQ w r E (.returned (.agg #[v0, v1, v2, v3])) ((((w'.setCell ⟨g, 0, none⟩ v0).setCell ⟨g, 1, none⟩ v1).setCell ⟨g, 2, none⟩ v2).setCell ⟨g, 3, none⟩ v3) :=
  ⟨_, rfl, h.set4 hbox _ _ _ _, grown_set4 hg hl _ _ _ _⟩
theorem ret_rqE {w w' : World} {r : Rat} {E : Nat} {code : Int} {g : Nat} {a0 a1 a2 a3 v0 v1 v2 v3 : Value} (hg : w.grownBy w' none) (hbox : w'.heap[g]? = some (.cells #[a0, a1, a2, a3] 40 (0, 0))) (hl : w.heap.size ≤ g) (h : RQ w' (.agg #[v0, v1, v2, v3]) r E) :
    RetRQE w r E code (.returned (.tuple #[.agg #[v0, v1, v2, v3], .int .i64 code])) ((((w'.setCell ⟨g, 0, none⟩ v0).setCell ⟨g, 1, none⟩ v1).setCell ⟨g, 2, none⟩ v2).setCell ⟨g, 3, none⟩ v3) :=
  ⟨_, rfl, h.set4 hbox _ _ _ _, grown_set4 hg hl _ _ _ _⟩
theorem RQ.of {w : World} {g g' : Int} {s s' : Option Addr} {l c l' c' : Nat} {n d : Int} {r : Rat} {E : Nat} (h1 : RIntV w (.agg #[.int .i64 g, .slice s l c]) n) (h2 : RIntV w (.agg #[.int .i64 g', .slice s' l' c']) d) (h3 : 0 < d) (h4 : Rat.divInt n d = r) (h5 : n.natAbs < D ^ E) (h6 : d.natAbs < D ^ E) : RQ w (.agg #[.int .i64 g, .slice s l c, .int .i64 g', .slice s' l' c']) r E :=
  ⟨g, s, l, c, g', s', l', c', n, d, rfl, h1, h2, h3, h4, h5, h6⟩
theorem dmul_bd {x y : Int} {E F : Nat} (hx : x.natAbs < D ^ E) (hy : y.natAbs < D ^ F) : (x * y).natAbs < D ^ (E + F) := by
  rw [Int.natAbs_mul, Nat.pow_add]; exact Nat.mul_lt_mul'' hx hy
theorem dadd_bd {x y : Int} {E : Nat} (hx : x.natAbs < D ^ E) (hy : y.natAbs < D ^ E) : (x + y).natAbs < D ^ (E + 1) := by
  have h1 := Int.natAbs_add_le x y
  rw [Nat.pow_succ]
  have h2 : D ^ E * 2 ≤ D ^ E * D := Nat.mul_le_mul_left _ (by unfold D; omega)
  omega
theorem dneg_bd {x : Int} {E : Nat} (hx : x.natAbs < D ^ E) : (-x).natAbs < D ^ E := by rw [Int.natAbs_neg]; exact hx
theorem rq_add {n d m e : Int} {r t : Rat} (hd : 0 < d) (he : 0 < e) (h1 : Rat.divInt n d = r) (h2 : Rat.divInt m e = t) : Rat.divInt (n * e + m * d) (d * e) = r + t := by
  rw [← h1, ← h2, Rat.divInt_add_divInt _ _ (by omega) (by omega)]
theorem rq_add1 {n d m : Int} {r t : Rat} (hd : 0 < d) (h1 : Rat.divInt n d = r) (h2 : Rat.divInt m d = t) : Rat.divInt (n + m) d = r + t := by
  rw [← rq_add hd hd h1 h2, ← Int.add_mul, Rat.divInt_mul_right (by omega)]
theorem rq_neg {n d : Int} {r : Rat} (h1 : Rat.divInt n d = r) : Rat.divInt (-n) d = -r := by rw [← h1, Rat.neg_divInt]
theorem rq_mul {n d m e : Int} {r t : Rat} (h1 : Rat.divInt n d = r) (h2 : Rat.divInt m e = t) : Rat.divInt (n * m) (d * e) = r * t := by
  rw [← h1, ← h2, Rat.divInt_mul_divInt]
theorem rq_div {n d m e : Int} {r t : Rat} (h1 : Rat.divInt n d = r) (h2 : Rat.divInt m e = t) : Rat.divInt (n * e) (d * m) = r / t := by
  rw [← h1, ← h2, Rat.div_def, Rat.inv_divInt, Rat.divInt_mul_divInt]
theorem rq_num_ne {n d : Int} {r : Rat} (h : Rat.divInt n d = r) (h0 : r ≠ 0) : n ≠ 0 := fun e => h0 (by rw [← h, e, Rat.zero_divInt])
theorem rq_sign {n d : Int} {r : Rat} (hd : 0 < d) (h1 : Rat.divInt n d = r) : n.sign = r.num.sign := by
  have h := rsg_divInt (n := n) hd
  rw [h1] at h; exact h.symm
set_option maxHeartbeats 16000000 in
theorem rQOf_any (w : World) (n : Int) (h1 : -9223372036854775808 ≤ n) (h2 : n ≤ 9223372036854775807) :
    Calls Tryd.prog 26 #[.int .i64 n] w (RetRQ w (n : Rat) 5) := by
  have HN : Hid (-9223372036854775808 ≤ n ∧ n ≤ 9223372036854775807) := ⟨h1, h2⟩
  have HF : Hid ((0 : Int) < 1 ∧ Rat.divInt n 1 = (n : Rat) ∧ n.natAbs < D ^ 5 ∧ (1 : Int).natAbs < D ^ 5) := ⟨by decide, by rw [show (1 : Int) = ((1 : Nat) : Int) from rfl, Rat.divInt_ofNat]; exact Rat.mkRat_self (n : Rat), by unfold D; omega, by unfold D; decide⟩
  clear h1 h2
  have hG : w.grownBy (w.alloc (.cells #[.int .i64 0, .slice none 0 0, .int .i64 0, .slice none 0 0] 40)) none := (World.grownBy_alloc _ _ _)
  have Bq := (heap_new w (.cells #[.int .i64 0, .slice none 0 0, .int .i64 0, .slice none 0 0] 40) (w.heap.size) rfl)
  go_enter Tryd.func26, Tryd.ntmps26
  obtain ⟨Cq0, Cq1, Cq2, Cq3, Fq0, Fq1, Fq2, Fq3⟩ := box_cells4 Bq
  go_wp2_with fail
  generalize (w.alloc (.cells #[.int .i64 0, .slice none 0 0, .int .i64 0, .slice none 0 0] 40)) = w0 at *
  clear Cq0 Fq0 Cq1 Fq1 Cq2 Fq2 Cq3 Fq3
  refine (rZOf_any w0 n HN.out.1 HN.out.2).mono ?_
  rintro e w1 ⟨_, rfl, ⟨ga, sa, la, ca, rfl, ha, ma⟩, gw1⟩
  have ra : RIntV w1 (.agg #[.int .i64 ga, .slice sa la ca]) (n) := ⟨ga, sa, la, ca, rfl, ha, ma⟩
  replace Bq := heap_kept gw1 Bq
  replace hG := grown_trans hG gw1
  clear gw1
  clear ma
  obtain ⟨Cq0, Cq1, Cq2, Cq3, Fq0, Fq1, Fq2, Fq3⟩ := box_cells4 Bq
  go_wp2_with fail
  clear Cq0 Fq0 Cq1 Fq1 Cq2 Fq2 Cq3 Fq3
  refine (rZOf_any w1 1 (by omega) (by omega)).mono ?_
  rintro e w2 ⟨_, rfl, ⟨gb, sb, lb, cb, rfl, hb, mb⟩, gw2⟩
  have rb : RIntV w2 (.agg #[.int .i64 gb, .slice sb lb cb]) (1) := ⟨gb, sb, lb, cb, rfl, hb, mb⟩
  replace Bq := heap_kept gw2 Bq
  replace ra := ra.kept gw2
  replace hG := grown_trans hG gw2
  clear gw2
  clear mb
  obtain ⟨Cq0, Cq1, Cq2, Cq3, Fq0, Fq1, Fq2, Fq3⟩ := box_cells4 Bq
  have yd : RQ w2 (.agg #[.int .i64 ga, .slice sa la ca, .int .i64 gb, .slice sb lb cb]) (n : Rat) 5 := RQ.of ra rb HF.out.1 HF.out.2.1 HF.out.2.2.1 HF.out.2.2.2
  clear Cq0 Fq0 Cq1 Fq1 Cq2 Fq2 Cq3 Fq3
  obtain ⟨k90, k91, k92, k93, k94, k95, k96, k97⟩ := box_cells4 Bq
  obtain ⟨q90, q91, q92, q93, q94, q95, q96, q97⟩ := box_cells4 (heap_set4 Bq (.int .i64 ga) (.slice sa la ca) (.int .i64 gb) (.slice sb lb cb))
  have hF : Hid (RetRQ w (n : Rat) 5 (.returned (.agg #[.int .i64 ga, .slice sa la ca, .int .i64 gb, .slice sb lb cb])) ((((w2.setCell ⟨w.heap.size, 0, none⟩ (.int .i64 ga)).setCell ⟨w.heap.size, 1, none⟩ (.slice sa la ca)).setCell ⟨w.heap.size, 2, none⟩ (.int .i64 gb)).setCell ⟨w.heap.size, 3, none⟩ (.slice sb lb cb))) := ret_rq hG Bq (by omega) yd
  clear ra rb yd
  go_wp2_with fail
  exact bodyPost_ret (v := .agg #[.int .i64 ga, .slice sa la ca, .int .i64 gb, .slice sb lb cb]) (by simp [results, Tryd.results26, go_sem, q90, q91, q92, q93]) rfl hF.out
set_option maxHeartbeats 16000000 in
theorem rQCmp_any (w : World) (va vb : Value) (r t : Rat) (E M : Nat) (Ha : RQ w va r E) (Hb : RQ w vb t M) (hE : E + M ≤ 300000) :
    Calls Tryd.prog 18 #[va, vb] w (RetZ w (rcmp r t)) := by
  have HE : Hid (E + M ≤ 300000) := hE
  clear hE
  obtain ⟨ga, sa, la, ca, ga', sa', la', ca', na, da, rfl, ha, ha', ua⟩ := Ha
  obtain ⟨gb, sb, lb, cb, gb', sb', lb', cb', nb, db, rfl, hb, hb', ub⟩ := Hb
  have hG : w.grownBy ((w.alloc (.cells #[.int .i64 ga, .slice sa la ca, .int .i64 ga', .slice sa' la' ca'] 40)).alloc (.cells #[.int .i64 gb, .slice sb lb cb, .int .i64 gb', .slice sb' lb' cb'] 40)) none := (grown_alloc (World.grownBy_alloc _ _ _) _)
  have Ba := heap_kept (World.grownBy_alloc _ (.cells #[.int .i64 gb, .slice sb lb cb, .int .i64 gb', .slice sb' lb' cb'] 40) none) (heap_new w (.cells #[.int .i64 ga, .slice sa la ca, .int .i64 ga', .slice sa' la' ca'] 40) (w.heap.size) rfl)
  have Bb := (heap_new (w.alloc (.cells #[.int .i64 ga, .slice sa la ca, .int .i64 ga', .slice sa' la' ca'] 40)) (.cells #[.int .i64 gb, .slice sb lb cb, .int .i64 gb', .slice sb' lb' cb'] 40) (w.heap.size + 1) (by simp))
  have ya : RQ ((w.alloc (.cells #[.int .i64 ga, .slice sa la ca, .int .i64 ga', .slice sa' la' ca'] 40)).alloc (.cells #[.int .i64 gb, .slice sb lb cb, .int .i64 gb', .slice sb' lb' cb'] 40)) (.agg #[.int .i64 ga, .slice sa la ca, .int .i64 ga', .slice sa' la' ca']) r E := ⟨ga, sa, la, ca, ga', sa', la', ca', na, da, rfl, ha.kept hG, ha'.kept hG, ua⟩
  have ra : RIntV ((w.alloc (.cells #[.int .i64 ga, .slice sa la ca, .int .i64 ga', .slice sa' la' ca'] 40)).alloc (.cells #[.int .i64 gb, .slice sb lb cb, .int .i64 gb', .slice sb' lb' cb'] 40)) (.agg #[.int .i64 ga, .slice sa la ca]) na := ha.kept hG
  have ra' : RIntV ((w.alloc (.cells #[.int .i64 ga, .slice sa la ca, .int .i64 ga', .slice sa' la' ca'] 40)).alloc (.cells #[.int .i64 gb, .slice sb lb cb, .int .i64 gb', .slice sb' lb' cb'] 40)) (.agg #[.int .i64 ga', .slice sa' la' ca']) da := ha'.kept hG
  have yb : RQ ((w.alloc (.cells #[.int .i64 ga, .slice sa la ca, .int .i64 ga', .slice sa' la' ca'] 40)).alloc (.cells #[.int .i64 gb, .slice sb lb cb, .int .i64 gb', .slice sb' lb' cb'] 40)) (.agg #[.int .i64 gb, .slice sb lb cb, .int .i64 gb', .slice sb' lb' cb']) t M := ⟨gb, sb, lb, cb, gb', sb', lb', cb', nb, db, rfl, hb.kept hG, hb'.kept hG, ub⟩
  have rb : RIntV ((w.alloc (.cells #[.int .i64 ga, .slice sa la ca, .int .i64 ga', .slice sa' la' ca'] 40)).alloc (.cells #[.int .i64 gb, .slice sb lb cb, .int .i64 gb', .slice sb' lb' cb'] 40)) (.agg #[.int .i64 gb, .slice sb lb cb]) nb := hb.kept hG
  have rb' : RIntV ((w.alloc (.cells #[.int .i64 ga, .slice sa la ca, .int .i64 ga', .slice sa' la' ca'] 40)).alloc (.cells #[.int .i64 gb, .slice sb lb cb, .int .i64 gb', .slice sb' lb' cb'] 40)) (.agg #[.int .i64 gb', .slice sb' lb' cb']) db := hb'.kept hG
  have oa : RQ w (.agg #[.int .i64 ga, .slice sa la ca, .int .i64 ga', .slice sa' la' ca']) r E := ⟨ga, sa, la, ca, ga', sa', la', ca', na, da, rfl, ha, ha', ua⟩
  clear ha ha'
  have ob : RQ w (.agg #[.int .i64 gb, .slice sb lb cb, .int .i64 gb', .slice sb' lb' cb']) t M := ⟨gb, sb, lb, cb, gb', sb', lb', cb', nb, db, rfl, hb, hb', ub⟩
  clear hb hb'
  go_enter Tryd.func18, Tryd.ntmps18
  have HC : Hid (zcmp (na * db) (nb * da) = rcmp r t) := by show _ = _; rw [← ua.out.2.1, ← ub.out.2.1, rcmp_divInt ua.out.1 ub.out.1]
  obtain ⟨Ca0, Ca1, Ca2, Ca3, Fa0, Fa1, Fa2, Fa3⟩ := box_cells4 Ba
  obtain ⟨Cb0, Cb1, Cb2, Cb3, Fb0, Fb1, Fb2, Fb3⟩ := box_cells4 Bb
  go_wp2_with fail
  generalize ((w.alloc (.cells #[.int .i64 ga, .slice sa la ca, .int .i64 ga', .slice sa' la' ca'] 40)).alloc (.cells #[.int .i64 gb, .slice sb lb cb, .int .i64 gb', .slice sb' lb' cb'] 40)) = w0 at *
  go_region_held3 (fun w' => w'.cell? ⟨w.heap.size, 0, none⟩ = some (.int .i64 ga) ∧ w'.cell? ⟨w.heap.size, 1, none⟩ = some (.slice sa la ca) ∧ w'.cell? ⟨w.heap.size, 2, none⟩ = some (.int .i64 ga') ∧ w'.cell? ⟨w.heap.size, 3, none⟩ = some (.slice sa' la' ca') ∧ w'.cell? ⟨w.heap.size + 1, 0, none⟩ = some (.int .i64 gb) ∧ w'.cell? ⟨w.heap.size + 1, 1, none⟩ = some (.slice sb lb cb) ∧ w'.cell? ⟨w.heap.size + 1, 2, none⟩ = some (.int .i64 gb') ∧ w'.cell? ⟨w.heap.size + 1, 3, none⟩ = some (.slice sb' lb' cb'))
    (first | assumption | exact ⟨Ca0, Ca1, Ca2, Ca3, Cb0, Cb1, Cb2, Cb3⟩ | go_keep)
    (first
      | (go_at_call 44; (with_reducible refine (rZMul_any w0.drew _ _ na db (ra.kept (grown_drew (grown_refl _ _))) (rb'.kept (grown_drew (grown_refl _ _))) (dp6 ua.out.2.2.1 (by have := HE.out; omega)) (dp6 ub.out.2.2.2 (by have := HE.out; omega))).mono ?_); rintro e w1_1 ⟨vk1, rfl, k1, gw1_1⟩; have hGw1_1 := grown_pre w0 gw1_1 rfl rfl rfl rfl; have hSw1_1 := (And.intro (hGw1_1.cell Ca0 (by simp)) (And.intro (hGw1_1.cell Ca1 (by simp)) (And.intro (hGw1_1.cell Ca2 (by simp)) (And.intro (hGw1_1.cell Ca3 (by simp)) (And.intro (hGw1_1.cell Cb0 (by simp)) (And.intro (hGw1_1.cell Cb1 (by simp)) (And.intro (hGw1_1.cell Cb2 (by simp)) (hGw1_1.cell Cb3 (by simp))))))))); clear gw1_1)
      | (go_at_call 44; (with_reducible refine (rZMul_any w1_1 _ _ nb da (rb.kept hGw1_1) (ra'.kept hGw1_1) (dp6 ub.out.2.2.1 (by have := HE.out; omega)) (dp6 ua.out.2.2.2 (by have := HE.out; omega))).mono ?_); rintro e w1_2 ⟨vk2, rfl, k2, gw1_2⟩; have hGw1_2 := grown_trans hGw1_1 gw1_2; replace k1 := k1.kept gw1_2; have hSw1_2 := (And.intro (hGw1_2.cell Ca0 (by simp)) (And.intro (hGw1_2.cell Ca1 (by simp)) (And.intro (hGw1_2.cell Ca2 (by simp)) (And.intro (hGw1_2.cell Ca3 (by simp)) (And.intro (hGw1_2.cell Cb0 (by simp)) (And.intro (hGw1_2.cell Cb1 (by simp)) (And.intro (hGw1_2.cell Cb2 (by simp)) (hGw1_2.cell Cb3 (by simp))))))))); clear gw1_2)
      | (go_at_call 36; (with_reducible refine (rZCmp_any w1_2 _ _ (na * db) (nb * da) k1 k2 (dp6 (dmul_bd ua.out.2.2.1 ub.out.2.2.2) (by have := HE.out; omega)) (dp6 (dmul_bd ub.out.2.2.1 ua.out.2.2.2) (by have := HE.out; omega))).mono ?_); rintro e w1_3 ⟨rfl, gw1_3⟩; rw [HC.out]; have hGw1_3 := grown_trans hGw1_2 gw1_3; replace k1 := k1.kept gw1_3; replace k2 := k2.kept gw1_3; have hSw1_3 := (And.intro (hGw1_3.cell Ca0 (by simp)) (And.intro (hGw1_3.cell Ca1 (by simp)) (And.intro (hGw1_3.cell Ca2 (by simp)) (And.intro (hGw1_3.cell Ca3 (by simp)) (And.intro (hGw1_3.cell Cb0 (by simp)) (And.intro (hGw1_3.cell Cb1 (by simp)) (And.intro (hGw1_3.cell Cb2 (by simp)) (hGw1_3.cell Cb3 (by simp))))))))); clear gw1_3))
  replace Ba := heap_kept hGw1_3 Ba
  replace Bb := heap_kept hGw1_3 Bb
  replace ya := ya.kept hGw1_3
  replace ra := ra.kept hGw1_3
  replace ra' := ra'.kept hGw1_3
  replace yb := yb.kept hGw1_3
  replace rb := rb.kept hGw1_3
  replace rb' := rb'.kept hGw1_3
  replace hG := grown_trans hG hGw1_3
  clear Ca0 Fa0 Ca1 Fa1 Ca2 Fa2 Ca3 Fa3 Cb0 Fb0 Cb1 Fb1 Cb2 Fb2 Cb3 Fb3
  obtain ⟨Ca0, Ca1, Ca2, Ca3, Fa0, Fa1, Fa2, Fa3⟩ := box_cells4 Ba
  obtain ⟨Cb0, Cb1, Cb2, Cb3, Fb0, Fb1, Fb2, Fb3⟩ := box_cells4 Bb
  go_wp2_with fail
  go_ret
  exact ⟨rfl, hG⟩
set_option maxHeartbeats 16000000 in
theorem rQMul_any (w : World) (va vb : Value) (r t : Rat) (E M : Nat) (Ha : RQ w va r E) (Hb : RQ w vb t M) (hE : E + M ≤ 300000) :
    Calls Tryd.prog 30 #[va, vb] w (RetRQ w (r * t) (E + M)) := by
  have HE : Hid (E + M ≤ 300000) := hE
  clear hE
  obtain ⟨ga, sa, la, ca, ga', sa', la', ca', na, da, rfl, ha, ha', ua⟩ := Ha
  obtain ⟨gb, sb, lb, cb, gb', sb', lb', cb', nb, db, rfl, hb, hb', ub⟩ := Hb
  have hG : w.grownBy (((w.alloc (.cells #[.int .i64 ga, .slice sa la ca, .int .i64 ga', .slice sa' la' ca'] 40)).alloc (.cells #[.int .i64 gb, .slice sb lb cb, .int .i64 gb', .slice sb' lb' cb'] 40)).alloc (.cells #[.int .i64 0, .slice none 0 0, .int .i64 0, .slice none 0 0] 40)) none := (grown_alloc (grown_alloc (World.grownBy_alloc _ _ _) _) _)
  have Ba := heap_kept (grown_alloc (World.grownBy_alloc _ (.cells #[.int .i64 gb, .slice sb lb cb, .int .i64 gb', .slice sb' lb' cb'] 40) none) (.cells #[.int .i64 0, .slice none 0 0, .int .i64 0, .slice none 0 0] 40)) (heap_new w (.cells #[.int .i64 ga, .slice sa la ca, .int .i64 ga', .slice sa' la' ca'] 40) (w.heap.size) rfl)
  have Bb := heap_kept (World.grownBy_alloc _ (.cells #[.int .i64 0, .slice none 0 0, .int .i64 0, .slice none 0 0] 40) none) (heap_new (w.alloc (.cells #[.int .i64 ga, .slice sa la ca, .int .i64 ga', .slice sa' la' ca'] 40)) (.cells #[.int .i64 gb, .slice sb lb cb, .int .i64 gb', .slice sb' lb' cb'] 40) (w.heap.size + 1) (by simp))
  have Bq := (heap_new ((w.alloc (.cells #[.int .i64 ga, .slice sa la ca, .int .i64 ga', .slice sa' la' ca'] 40)).alloc (.cells #[.int .i64 gb, .slice sb lb cb, .int .i64 gb', .slice sb' lb' cb'] 40)) (.cells #[.int .i64 0, .slice none 0 0, .int .i64 0, .slice none 0 0] 40) (w.heap.size + 1 + 1) (by simp))
  have ya : RQ (((w.alloc (.cells #[.int .i64 ga, .slice sa la ca, .int .i64 ga', .slice sa' la' ca'] 40)).alloc (.cells #[.int .i64 gb, .slice sb lb cb, .int .i64 gb', .slice sb' lb' cb'] 40)).alloc (.cells #[.int .i64 0, .slice none 0 0, .int .i64 0, .slice none 0 0] 40)) (.agg #[.int .i64 ga, .slice sa la ca, .int .i64 ga', .slice sa' la' ca']) r E := ⟨ga, sa, la, ca, ga', sa', la', ca', na, da, rfl, ha.kept hG, ha'.kept hG, ua⟩
  have ra : RIntV (((w.alloc (.cells #[.int .i64 ga, .slice sa la ca, .int .i64 ga', .slice sa' la' ca'] 40)).alloc (.cells #[.int .i64 gb, .slice sb lb cb, .int .i64 gb', .slice sb' lb' cb'] 40)).alloc (.cells #[.int .i64 0, .slice none 0 0, .int .i64 0, .slice none 0 0] 40)) (.agg #[.int .i64 ga, .slice sa la ca]) na := ha.kept hG
  have ra' : RIntV (((w.alloc (.cells #[.int .i64 ga, .slice sa la ca, .int .i64 ga', .slice sa' la' ca'] 40)).alloc (.cells #[.int .i64 gb, .slice sb lb cb, .int .i64 gb', .slice sb' lb' cb'] 40)).alloc (.cells #[.int .i64 0, .slice none 0 0, .int .i64 0, .slice none 0 0] 40)) (.agg #[.int .i64 ga', .slice sa' la' ca']) da := ha'.kept hG
  have yb : RQ (((w.alloc (.cells #[.int .i64 ga, .slice sa la ca, .int .i64 ga', .slice sa' la' ca'] 40)).alloc (.cells #[.int .i64 gb, .slice sb lb cb, .int .i64 gb', .slice sb' lb' cb'] 40)).alloc (.cells #[.int .i64 0, .slice none 0 0, .int .i64 0, .slice none 0 0] 40)) (.agg #[.int .i64 gb, .slice sb lb cb, .int .i64 gb', .slice sb' lb' cb']) t M := ⟨gb, sb, lb, cb, gb', sb', lb', cb', nb, db, rfl, hb.kept hG, hb'.kept hG, ub⟩
  have rb : RIntV (((w.alloc (.cells #[.int .i64 ga, .slice sa la ca, .int .i64 ga', .slice sa' la' ca'] 40)).alloc (.cells #[.int .i64 gb, .slice sb lb cb, .int .i64 gb', .slice sb' lb' cb'] 40)).alloc (.cells #[.int .i64 0, .slice none 0 0, .int .i64 0, .slice none 0 0] 40)) (.agg #[.int .i64 gb, .slice sb lb cb]) nb := hb.kept hG
  have rb' : RIntV (((w.alloc (.cells #[.int .i64 ga, .slice sa la ca, .int .i64 ga', .slice sa' la' ca'] 40)).alloc (.cells #[.int .i64 gb, .slice sb lb cb, .int .i64 gb', .slice sb' lb' cb'] 40)).alloc (.cells #[.int .i64 0, .slice none 0 0, .int .i64 0, .slice none 0 0] 40)) (.agg #[.int .i64 gb', .slice sb' lb' cb']) db := hb'.kept hG
  have oa : RQ w (.agg #[.int .i64 ga, .slice sa la ca, .int .i64 ga', .slice sa' la' ca']) r E := ⟨ga, sa, la, ca, ga', sa', la', ca', na, da, rfl, ha, ha', ua⟩
  clear ha ha'
  have ob : RQ w (.agg #[.int .i64 gb, .slice sb lb cb, .int .i64 gb', .slice sb' lb' cb']) t M := ⟨gb, sb, lb, cb, gb', sb', lb', cb', nb, db, rfl, hb, hb', ub⟩
  clear hb hb'
  go_enter Tryd.func30, Tryd.ntmps30
  obtain ⟨Ca0, Ca1, Ca2, Ca3, Fa0, Fa1, Fa2, Fa3⟩ := box_cells4 Ba
  obtain ⟨Cb0, Cb1, Cb2, Cb3, Fb0, Fb1, Fb2, Fb3⟩ := box_cells4 Bb
  obtain ⟨Cq0, Cq1, Cq2, Cq3, Fq0, Fq1, Fq2, Fq3⟩ := box_cells4 Bq
  go_wp2_with fail
  generalize (((w.alloc (.cells #[.int .i64 ga, .slice sa la ca, .int .i64 ga', .slice sa' la' ca'] 40)).alloc (.cells #[.int .i64 gb, .slice sb lb cb, .int .i64 gb', .slice sb' lb' cb'] 40)).alloc (.cells #[.int .i64 0, .slice none 0 0, .int .i64 0, .slice none 0 0] 40)) = w0 at *
  go_region_held3 (fun w' => w'.cell? ⟨w.heap.size, 0, none⟩ = some (.int .i64 ga) ∧ w'.cell? ⟨w.heap.size, 1, none⟩ = some (.slice sa la ca) ∧ w'.cell? ⟨w.heap.size, 2, none⟩ = some (.int .i64 ga') ∧ w'.cell? ⟨w.heap.size, 3, none⟩ = some (.slice sa' la' ca') ∧ w'.cell? ⟨w.heap.size + 1, 0, none⟩ = some (.int .i64 gb) ∧ w'.cell? ⟨w.heap.size + 1, 1, none⟩ = some (.slice sb lb cb) ∧ w'.cell? ⟨w.heap.size + 1, 2, none⟩ = some (.int .i64 gb') ∧ w'.cell? ⟨w.heap.size + 1, 3, none⟩ = some (.slice sb' lb' cb'))
    (first | assumption | exact ⟨Ca0, Ca1, Ca2, Ca3, Cb0, Cb1, Cb2, Cb3⟩ | exact HSw1_20 | go_keep)
    (first
      | (go_at_call 44; (with_reducible refine (rZMul_any w0.drew _ _ na nb (ra.kept (grown_drew (grown_refl _ _))) (rb.kept (grown_drew (grown_refl _ _))) (dp6 ua.out.2.2.1 (by have := HE.out; omega)) (dp6 ub.out.2.2.1 (by have := HE.out; omega))).mono ?_); rintro e w1_1 ⟨_, rfl, ⟨gd, sd, ld, cd, rfl, hd, md⟩, gw1_1⟩; have hGw1_1 := grown_pre w0 gw1_1 rfl rfl rfl rfl; have rd : RIntV w1_1 (.agg #[.int .i64 gd, .slice sd ld cd]) (na * nb) := ⟨gd, sd, ld, cd, rfl, hd, md⟩; have hSw1_1 := (And.intro (hGw1_1.cell Ca0 (by simp)) (And.intro (hGw1_1.cell Ca1 (by simp)) (And.intro (hGw1_1.cell Ca2 (by simp)) (And.intro (hGw1_1.cell Ca3 (by simp)) (And.intro (hGw1_1.cell Cb0 (by simp)) (And.intro (hGw1_1.cell Cb1 (by simp)) (And.intro (hGw1_1.cell Cb2 (by simp)) (hGw1_1.cell Cb3 (by simp))))))))); clear gw1_1; clear md)
      | (go_at_call 44; (with_reducible refine (rZMul_any w1_1 _ _ da db (ra'.kept hGw1_1) (rb'.kept hGw1_1) (dp6 ua.out.2.2.2 (by have := HE.out; omega)) (dp6 ub.out.2.2.2 (by have := HE.out; omega))).mono ?_); rintro e w1_2 ⟨_, rfl, ⟨ge, se, le, ce, rfl, he, me⟩, gw1_2⟩; have hGw1_2 := grown_trans hGw1_1 gw1_2; replace rd := rd.kept gw1_2; have re : RIntV w1_2 (.agg #[.int .i64 ge, .slice se le ce]) (da * db) := ⟨ge, se, le, ce, rfl, he, me⟩; have hSw1_2 := (And.intro (hGw1_2.cell Ca0 (by simp)) (And.intro (hGw1_2.cell Ca1 (by simp)) (And.intro (hGw1_2.cell Ca2 (by simp)) (And.intro (hGw1_2.cell Ca3 (by simp)) (And.intro (hGw1_2.cell Cb0 (by simp)) (And.intro (hGw1_2.cell Cb1 (by simp)) (And.intro (hGw1_2.cell Cb2 (by simp)) (hGw1_2.cell Cb3 (by simp))))))))); clear gw1_2; clear me; (obtain ⟨dq0, dq1, dq2, dq3, dq4, dq5, dq6, dq7⟩ := box_cells4 (heap_kept hGw1_2 Bq)); have HSw1_20 := (And.intro ((box_cells4 (heap_unset4 (heap_kept hGw1_2 Ba) (show w.heap.size ≠ w.heap.size + 1 + 1 by omega) (.int .i64 gd) (.slice sd ld cd) (.int .i64 ge) (.slice se le ce))).1) (And.intro ((box_cells4 (heap_unset4 (heap_kept hGw1_2 Ba) (show w.heap.size ≠ w.heap.size + 1 + 1 by omega) (.int .i64 gd) (.slice sd ld cd) (.int .i64 ge) (.slice se le ce))).2.1) (And.intro ((box_cells4 (heap_unset4 (heap_kept hGw1_2 Ba) (show w.heap.size ≠ w.heap.size + 1 + 1 by omega) (.int .i64 gd) (.slice sd ld cd) (.int .i64 ge) (.slice se le ce))).2.2.1) (And.intro ((box_cells4 (heap_unset4 (heap_kept hGw1_2 Ba) (show w.heap.size ≠ w.heap.size + 1 + 1 by omega) (.int .i64 gd) (.slice sd ld cd) (.int .i64 ge) (.slice se le ce))).2.2.2.1) (And.intro ((box_cells4 (heap_unset4 (heap_kept hGw1_2 Bb) (show w.heap.size + 1 ≠ w.heap.size + 1 + 1 by omega) (.int .i64 gd) (.slice sd ld cd) (.int .i64 ge) (.slice se le ce))).1) (And.intro ((box_cells4 (heap_unset4 (heap_kept hGw1_2 Bb) (show w.heap.size + 1 ≠ w.heap.size + 1 + 1 by omega) (.int .i64 gd) (.slice sd ld cd) (.int .i64 ge) (.slice se le ce))).2.1) (And.intro ((box_cells4 (heap_unset4 (heap_kept hGw1_2 Bb) (show w.heap.size + 1 ≠ w.heap.size + 1 + 1 by omega) (.int .i64 gd) (.slice sd ld cd) (.int .i64 ge) (.slice se le ce))).2.2.1) ((box_cells4 (heap_unset4 (heap_kept hGw1_2 Bb) (show w.heap.size + 1 ≠ w.heap.size + 1 + 1 by omega) (.int .i64 gd) (.slice sd ld cd) (.int .i64 ge) (.slice se le ce))).2.2.2.1))))))))))
  replace Ba := heap_kept hGw1_2 Ba
  replace Bb := heap_kept hGw1_2 Bb
  replace Bq := heap_kept hGw1_2 Bq
  replace ya := ya.kept hGw1_2
  replace ra := ra.kept hGw1_2
  replace ra' := ra'.kept hGw1_2
  replace yb := yb.kept hGw1_2
  replace rb := rb.kept hGw1_2
  replace rb' := rb'.kept hGw1_2
  replace hG := grown_trans hG hGw1_2
  clear Ca0 Fa0 Ca1 Fa1 Ca2 Fa2 Ca3 Fa3 Cb0 Fb0 Cb1 Fb1 Cb2 Fb2 Cb3 Fb3 Cq0 Fq0 Cq1 Fq1 Cq2 Fq2 Cq3 Fq3
  have yd : RQ w1_2 (.agg #[.int .i64 gd, .slice sd ld cd, .int .i64 ge, .slice se le ce]) (r * t) (E + M) := RQ.of rd re (Int.mul_pos ua.out.1 ub.out.1) (rq_mul ua.out.2.1 ub.out.2.1) (dmul_bd ua.out.2.2.1 ub.out.2.2.1) (dmul_bd ua.out.2.2.2 ub.out.2.2.2)
  obtain ⟨k90, k91, k92, k93, k94, k95, k96, k97⟩ := box_cells4 Bq
  obtain ⟨q90, q91, q92, q93, q94, q95, q96, q97⟩ := box_cells4 (heap_set4 Bq (.int .i64 gd) (.slice sd ld cd) (.int .i64 ge) (.slice se le ce))
  have hF : Hid (RetRQ w (r * t) (E + M) (.returned (.agg #[.int .i64 gd, .slice sd ld cd, .int .i64 ge, .slice se le ce])) ((((w1_2.setCell ⟨w.heap.size + 1 + 1, 0, none⟩ (.int .i64 gd)).setCell ⟨w.heap.size + 1 + 1, 1, none⟩ (.slice sd ld cd)).setCell ⟨w.heap.size + 1 + 1, 2, none⟩ (.int .i64 ge)).setCell ⟨w.heap.size + 1 + 1, 3, none⟩ (.slice se le ce))) := ret_rq hG Bq (by omega) yd
  clear ya ra ra' yb rb rb' rd re yd
  go_wp2_with fail
  exact bodyPost_ret (v := .agg #[.int .i64 gd, .slice sd ld cd, .int .i64 ge, .slice se le ce]) (by simp [results, Tryd.results30, go_sem, q90, q91, q92, q93]) rfl hF.out
end Go.Proofs.YtldkddogadmpbaaDoor
namespace Go.Proofs.YtldkddogadmpbaaDoor
open Go.RowKit Mat
set_option maxRecDepth 100000
set_option linter.unusedVariables false
set_option linter.unusedSimpArgs false
theorem p2D {x K : Nat} (h : x ≤ 2 ^ K) (hK : K ≤ 5000) : x < D ^ 1000000 := by
  obtain ⟨E, hE⟩ : ∃ E, E = 1000000 := ⟨_, rfl⟩
  rw [← hE]
  have h1 : 2 ^ K ≤ D ^ K := Nat.pow_le_pow_left (by decide) K
  have h2 : D ^ K < D ^ E := Nat.pow_lt_pow_right (by decide) (by omega)
  omega
theorem two_odd {A X K i : Nat} (h : A * X ^ (2 * i + 1) = 2 ^ K) : (A * X) * (X * X) ^ i = 2 ^ K := by
  rw [← h, Nat.pow_succ, Nat.pow_mul, Nat.pow_two]; grind
theorem two_even {A X K i : Nat} (h : A * X ^ (2 * i) = 2 ^ K) : A * (X * X) ^ i = 2 ^ K := by
  rw [← h, Nat.pow_mul, Nat.pow_two]
theorem two_bd {A X K j : Nat} (h : A * X ^ j = 2 ^ K) (hA : 0 < A) (hX : 0 < X) : A ≤ 2 ^ K ∧ (1 ≤ j → A * X ≤ 2 ^ K ∧ X ≤ 2 ^ K) ∧ (2 ≤ j → X * X ≤ 2 ^ K) := by
  have hp : 0 < X ^ j := Nat.pow_pos hX
  refine ⟨by rw [← h]; exact Nat.le_mul_of_pos_right _ hp, fun hj => ?_, fun hj => ?_⟩
  · have h1 : X ≤ X ^ j := by
      have := Nat.pow_le_pow_right hX hj
      rwa [Nat.pow_one] at this
    have h2 : A * X ≤ A * X ^ j := Nat.mul_le_mul_left _ h1
    have h3 : X ^ j ≤ A * X ^ j := Nat.le_mul_of_pos_left _ hA
    rw [h] at h2 h3
    omega
  · have h1 := Nat.pow_le_pow_right hX hj
    rw [Nat.pow_two] at h1
    have h3 : X ^ j ≤ A * X ^ j := Nat.le_mul_of_pos_left _ hA
    rw [h] at h3
    omega
theorem rOf_1 (w : World) : Calls Tryd.prog 28 #[.int .u64 1] w (RetRef w 1) := rOf_any w 1 (by decide)
theorem rOf_2 (w : World) : Calls Tryd.prog 28 #[.int .u64 2] w (RetRef w 2) := rOf_any w 2 (by decide)
set_option maxHeartbeats 8000000 in
theorem rTwo_any (w : World) (K : Nat) (hK : K ≤ 5000) :
    Calls Tryd.prog 56 #[.int .i64 (K : Int)] w (RetRef w (2 ^ K)) := by
  have hgw0 := World.grownBy_alloc w (.cells #[.slice none 0 0] 36) none
  have hs0 : (w.alloc (.cells #[.slice none 0 0] 36)).heap.size = w.heap.size + 1 := by simp
  have hr0 := heap_new w (.cells #[.slice none 0 0] 36) w.heap.size rfl
  go_enter Tryd.func56, Tryd.ntmps56
  go_wp2_with fail
  generalize (w.alloc (.cells #[.slice none 0 0] 36)) = w0 at *
  refine (rOf_1 w0).mono ?_
  rintro e w1 ⟨v, rfl, ⟨s1, k1, c1, z1, rfl, n1⟩, g1⟩
  have hb1 := heap_new w1 (.cells #[.slice s1 k1 c1] 36) w1.heap.size rfl
  have hB1 : Boxed (w1.alloc (.cells #[.slice s1 k1 c1] 36)) w1.heap.size 1 := ⟨s1, k1, c1, hb1, RefV.kept ⟨s1, k1, c1, z1, rfl, n1⟩ (World.grownBy_alloc _ _ _)⟩
  have hG1 := grown_alloc g1 (.cells #[.slice s1 k1 c1] 36)
  have hl1 : w.heap.size < w1.heap.size := by have h1 := (Array.getElem?_eq_some_iff.1 hr0).1; have := g1.size; omega
  clear g1 n1 hb1
  go_wp2_with fail
  generalize ha1 : w1.heap.size = a1 at *
  generalize hW1 : (w1.alloc (.cells #[.slice s1 k1 c1] 36)) = W1 at *
  have hl2 : a1 < W1.heap.size := by obtain ⟨_, _, _, h1, _⟩ := hB1; exact (Array.getElem?_eq_some_iff.1 h1).1
  clear ha1 hW1
  refine (rOf_2 W1).mono ?_
  rintro e w2 ⟨v, rfl, ⟨s2, k2, c2, z2, rfl, n2⟩, g2⟩
  have hb2 := heap_new w2 (.cells #[.slice s2 k2 c2] 36) w2.heap.size rfl
  have hB2 : Boxed (w2.alloc (.cells #[.slice s2 k2 c2] 36)) w2.heap.size 2 := ⟨s2, k2, c2, hb2, RefV.kept ⟨s2, k2, c2, z2, rfl, n2⟩ (World.grownBy_alloc _ _ _)⟩
  have hG2 := grown_alloc g2 (.cells #[.slice s2 k2 c2] 36)
  have hB1' := hB1.kept hG2
  have hl3 : a1 < w2.heap.size := by have := g2.size; omega
  have hG := grown_trans hG1 hG2
  clear g2 n2 hb2 hB1 hG1 hG2
  go_wp2_with fail
  generalize ha2 : w2.heap.size = a2 at *
  generalize hW2 : (w2.alloc (.cells #[.slice s2 k2 c2] 36)) = W2 at *
  clear ha2 hW2 hl2
  go_loopw [0] (fun k wr => ∃ (j A X : Nat), k = .int .i64 j ∧ j ≤ K ∧ Boxed wr a1 A ∧ Boxed wr a2 X ∧ 0 < A ∧ 0 < X ∧ Hid (A * X ^ j = 2 ^ K) ∧ w0.grownBy wr none) (fun k _ => (intOf k).toNat)
  case atStart => exact ⟨K, 1, 2, rfl, Nat.le_refl _, hB1', hB2, by omega, by omega, by show _ = _; omega, hG⟩
  case round =>
    clear hB1' hB2 hG
    obtain ⟨j, A, X, rfl, hj, hA, hX, hA0, hX0, hv, hG⟩ := hrel
    obtain ⟨b1, b2, b3⟩ := two_bd hv.out hA0 hX0
    have b1 := Lib.hid b1
    have b2 := Lib.hid b2
    have b3 := Lib.hid b3
    have hr := heap_kept hG hr0
    have hgw := grown_trans hgw0 hG
    obtain ⟨sA, kA, cA, hbA, nA⟩ := hA
    obtain ⟨sX, kX, cX, hbX, nX⟩ := hX
    obtain ⟨cA1, fA1⟩ := box_cell hbA
    obtain ⟨cX1, fX1⟩ := box_cell hbX
    obtain ⟨cr, fr⟩ := box_cell hr
    by_cases h0 : j = 0
    · subst h0
      have hF : Hid (RetRef w (2 ^ K) (.returned (.agg #[.slice sA kA cA])) (wr.setCell ⟨w.heap.size, 0, none⟩ (.slice sA kA cA))) := by
        have := hv.out
        rw [Nat.pow_zero, Nat.mul_one] at this
        rw [← this]
        exact rret hgw hr (by decide) (Nat.le_refl _) nA _
      clear hv nA nX
      go_wp2_with fail
      exact bodyPost_ret (v := .agg #[.slice sA kA cA]) (by simp [results, Tryd.results56, go_sem, cr]) rfl hF.out
    · obtain ⟨i, r, rfl, hr1⟩ : ∃ i r, j = 2 * i + r ∧ r ≤ 1 := ⟨j / 2, j % 2, by omega, by omega⟩
      have f1 : decide ((0 : Int) < ((2 * i + r : Nat) : Int)) = true := decide_eq_true (by omega)
      obtain ⟨J, hJ⟩ : ∃ J, 2 * i + r = J := ⟨_, rfl⟩
      have e2 : (J : Int) / 2 = (i : Int) := by omega
      have e3 : (J : Int) % 2 = (r : Int) := by omega
      rw [hJ] at f1 ⊢
      have hla : w0.heap.size ≤ a1 := by omega
      have hlb : w0.heap.size ≤ a2 := by omega
      rcases (show r = 1 ∨ r = 0 by omega) with rfl | rfl
      · have e3 : (J : Int) % 2 = 1 := by omega
        clear hr1
        go_wp2_with fail
        refine (rMul_any wr _ _ A X nA nX (p2D b1.out hK) (p2D (b2.out (by omega)).2 hK)).mono ?_
        rintro e w5 ⟨v, rfl, ⟨s5, k5, c5, z5, rfl, n5⟩, g5⟩
        have hbA5 := heap_kept g5 hbA
        obtain ⟨cA5, fA5⟩ := box_cell hbA5
        have B1 : Boxed (w5.setCell ⟨a1, 0, none⟩ (.slice s5 k5 c5)) a1 (A * X) := Boxed.set hbA5 ⟨s5, k5, c5, z5, rfl, n5⟩
        have B2 : Boxed (w5.setCell ⟨a1, 0, none⟩ (.slice s5 k5 c5)) a2 X := (Boxed.kept ⟨sX, kX, cX, hbX, nX⟩ g5).unset (by omega) hbA5 (by decide) _
        have hG5 := grown_new (grown_trans hG g5) (grown_set (grown_refl w5 (some a1)) 0 (.slice s5 k5 c5)) hla
        have hvn : Hid ((A * X) * (X * X) ^ i = 2 ^ K) := two_odd hv.out
        have hAX : 0 < A * X := Nat.mul_pos hA0 hX0
        obtain ⟨s6, k6, c6, hb6, n6⟩ := B2
        obtain ⟨c26, f26⟩ := box_cell hb6
        clear g5 n5 hbA hbX nA nX hG hr hgw cA1 fA1 cX1 fX1 hv
        by_cases hi : i = 0
        · have f4 : decide ((1 : Int) < (J : Int)) = false := decide_eq_false (by omega)
          go_wp2_with fail
          go_roundw
          case rel => exact ⟨0, A * X, X, rfl, by omega, B1, ⟨s6, k6, c6, hb6, n6⟩, hAX, hX0, by show _ = _; have := hvn.out; rw [hi, Nat.pow_zero] at this; rw [Nat.pow_zero]; exact this, hG5⟩
          case measure => simp [intOf]; omega
        · have f4 : decide ((1 : Int) < (J : Int)) = true := decide_eq_true (by omega)
          go_wp2_with fail
          refine (rMul_any _ _ _ X X n6 n6 (p2D (b2.out (by omega)).2 hK) (p2D (b2.out (by omega)).2 hK)).mono ?_
          rintro e w7 ⟨v, rfl, ⟨s7, k7, c7, z7, rfl, n7⟩, g7⟩
          have hb27 := heap_kept g7 hb6
          obtain ⟨c27, f27⟩ := box_cell hb27
          have B2n : Boxed (w7.setCell ⟨a2, 0, none⟩ (.slice s7 k7 c7)) a2 (X * X) := Boxed.set hb27 ⟨s7, k7, c7, z7, rfl, n7⟩
          have B1n := (B1.kept g7).unset (by omega) hb27 (by decide) (.slice s7 k7 c7)
          have hGn := grown_new (grown_trans hG5 g7) (grown_set (grown_refl w7 (some a2)) 0 (.slice s7 k7 c7)) (by omega : w0.heap.size ≤ a2)
          clear g7 n7
          go_wp2_with fail
          go_roundw
          case rel => exact ⟨i, A * X, X * X, rfl, by omega, B1n, B2n, hAX, Nat.mul_pos hX0 hX0, hvn, hGn⟩
          case measure => simp [intOf]; omega
      · have e3 : (J : Int) % 2 = 0 := by omega
        have f4 : decide ((1 : Int) < (J : Int)) = true := decide_eq_true (by omega)
        have hvn : Hid (A * (X * X) ^ i = 2 ^ K) := two_even (by have := hv.out; simpa using this)
        have B1 : Boxed wr a1 A := ⟨sA, kA, cA, hbA, nA⟩
        clear hr1 hr hgw
        go_wp2_with fail
        refine (rMul_any wr _ _ X X nX nX (p2D (b2.out (by omega)).2 hK) (p2D (b2.out (by omega)).2 hK)).mono ?_
        rintro e w7 ⟨v, rfl, ⟨s7, k7, c7, z7, rfl, n7⟩, g7⟩
        have hb27 := heap_kept g7 hbX
        obtain ⟨c27, f27⟩ := box_cell hb27
        have B2n : Boxed (w7.setCell ⟨a2, 0, none⟩ (.slice s7 k7 c7)) a2 (X * X) := Boxed.set hb27 ⟨s7, k7, c7, z7, rfl, n7⟩
        have B1n := (B1.kept g7).unset (by omega) hb27 (by decide) (.slice s7 k7 c7)
        have hGn := grown_new (grown_trans hG g7) (grown_set (grown_refl w7 (some a2)) 0 (.slice s7 k7 c7)) (by omega : w0.heap.size ≤ a2)
        clear g7 n7
        clear hbA hbX nA nX cA1 fA1 cX1 fX1 hv hG
        go_wp2_with fail
        go_roundw
        case rel => exact ⟨i, A, X * X, rfl, by omega, B1n, B2n, hA0, Nat.mul_pos hX0 hX0, hvn, hGn⟩
        case measure => simp [intOf]; omega
end Go.Proofs.YtldkddogadmpbaaDoor
namespace Go.Proofs.YtldkddogadmpbaaDoor
open Go.RowKit Mat
set_option maxRecDepth 100000
set_option linter.unusedVariables false
set_option linter.unusedSimpArgs false
theorem rTwo_of (w : World) (k : Int) (K : Nat) (e : k = (K : Int)) (hK : K ≤ 5000) : Calls Tryd.prog 56 #[.int .i64 k] w (RetRef w (2 ^ K)) := by subst e; exact rTwo_any w K hK
theorem two_D (K : Nat) (h : K ≤ 312) : 2 ^ K < D ^ 25 := by
  obtain ⟨N, hN⟩ : ∃ N, 25 = N := ⟨_, rfl⟩
  rw [hN]
  have h1 : 2 ^ (13 * N) ≤ D ^ N := by rw [Nat.pow_mul]; exact Nat.pow_le_pow_left (by unfold D; decide) _
  exact Nat.lt_of_lt_of_le (Nat.pow_lt_pow_right (by omega) (by omega)) h1
def six (p q : Nat) : Rat := Rat.divInt ((2 ^ (4 * p) : Nat) : Int) ((2 ^ (4 * q) : Nat) : Int)
set_option maxHeartbeats 16000000 in
theorem rSix_any (w : World) (k : Int) (p q : Nat) (h : (k < 0 ∧ p = 0 ∧ k = -(q : Int)) ∨ (0 ≤ k ∧ q = 0 ∧ k = (p : Int))) (hp : p ≤ 78) (hq : q ≤ 78) :
    Calls Tryd.prog 31 #[.int .i64 k] w (RetRQ w (six p q) 25) := by
  have HV : Hid (0 < ((2 ^ (4 * q) : Nat) : Int) ∧ Rat.divInt ((2 ^ (4 * p) : Nat) : Int) ((2 ^ (4 * q) : Nat) : Int) = six p q ∧ ((2 ^ (4 * p) : Nat) : Int).natAbs < D ^ 25 ∧ ((2 ^ (4 * q) : Nat) : Int).natAbs < D ^ 25) := by
    have : 0 < 2 ^ (4 * q) := Nat.pow_pos (by omega)
    exact ⟨by omega, rfl, by rw [Int.natAbs_natCast]; exact two_D _ (by omega), by rw [Int.natAbs_natCast]; exact two_D _ (by omega)⟩
  have M1 : ∀ (W : World) (v : Value) (K : Nat), RefV W v (2 ^ K) → Calls Tryd.prog 27 #[.int .i64 1, v] W (RetRInt W ((2 ^ K : Nat) : Int)) := fun W v K h => by
    have : 0 < 2 ^ K := Nat.pow_pos (by omega)
    exact rMade_any W v 1 (2 ^ K) _ h (by omega) (Or.inr (Int.sign_eq_one_of_pos (by omega)))
  have HM1 := Lib.hid M1
  clear M1
  have hG : w.grownBy (w.alloc (.cells #[.int .i64 0, .slice none 0 0, .int .i64 0, .slice none 0 0] 40)) none := (World.grownBy_alloc _ _ _)
  have Bq := (heap_new w (.cells #[.int .i64 0, .slice none 0 0, .int .i64 0, .slice none 0 0] 40) (w.heap.size) rfl)
  go_enter Tryd.func31, Tryd.ntmps31
  obtain ⟨Cq0, Cq1, Cq2, Cq3, Fq0, Fq1, Fq2, Fq3⟩ := box_cells4 Bq
  go_wp2_with fail
  generalize (w.alloc (.cells #[.int .i64 0, .slice none 0 0, .int .i64 0, .slice none 0 0] 40)) = w0 at *
  clear Cq0 Cq1 Cq2 Cq3 Fq0 Fq1 Fq2 Fq3
  refine (rZOf_any w0 1 (by omega) (by omega)).mono ?_
  rintro e w1 ⟨_, rfl, ⟨go, so, lo, co, rfl, ho, mo⟩, gw1⟩
  have ro : RIntV w1 (.agg #[.int .i64 go, .slice so lo co]) (1) := ⟨go, so, lo, co, rfl, ho, mo⟩
  replace Bq := heap_kept gw1 Bq
  replace hG := grown_trans hG gw1
  clear gw1
  clear mo
  obtain ⟨Cq0, Cq1, Cq2, Cq3, Fq0, Fq1, Fq2, Fq3⟩ := box_cells4 Bq
  have gbw1 := (World.grownBy_alloc w1 (.cells #[.int .i64 go, .slice so lo co] 38) none)
  have Bo := (heap_new w1 (.cells #[.int .i64 go, .slice so lo co] 38) (w1.heap.size) rfl)
  have hzw1 : Hid (w.heap.size ≤ w1.heap.size) := Lib.hid hG.size
  have hlqw1 : Hid (w.heap.size < w1.heap.size) := Lib.hid (Array.getElem?_eq_some_iff.1 Bq).1
  clear Cq0 Cq1 Cq2 Cq3 Fq0 Fq1 Fq2 Fq3
  replace Bq := heap_kept gbw1 Bq
  replace ro := ro.kept gbw1
  replace hG := grown_trans hG gbw1
  clear gbw1
  obtain ⟨Cq0, Cq1, Cq2, Cq3, Fq0, Fq1, Fq2, Fq3⟩ := box_cells4 Bq
  obtain ⟨Co0, Co1, Fo0, Fo1⟩ := box_cells Bo
  rcases h with ⟨h1, rfl, rfl⟩ | ⟨h1, rfl, rfl⟩
  · skip
    go_wp2_with fail
    generalize (w1.alloc (.cells #[.int .i64 go, .slice so lo co] 38)) = w2 at *
    generalize w1.heap.size = aw1 at *
    replace hzw1 := hzw1.out
    replace hlqw1 := hlqw1.out
    go_region_held3 (fun w' => w'.cell? ⟨aw1, 0, none⟩ = some (.int .i64 go) ∧ w'.cell? ⟨aw1, 1, none⟩ = some (.slice so lo co))
      (first | assumption | exact ⟨Co0, Co1⟩ | exact HSaw3_20 | go_keep)
      (first
        | (go_at_call 56; (with_reducible refine (rTwo_of w2.drew _ (4 * q) (by first | omega | (rw [IntKind.wrap_i64]; omega)) (by omega)).mono ?_); rintro e aw3_1 ⟨v3, rfl, n3, gaw3_1⟩; have hGaw3_1 := grown_pre w2 gaw3_1 rfl rfl rfl rfl; have hSaw3_1 := (And.intro (hGaw3_1.cell Co0 (by simp)) (hGaw3_1.cell Co1 (by simp))); clear gaw3_1)
        | (go_at_call 27; (with_reducible refine (HM1.out aw3_1 _ _ n3).mono ?_); rintro e aw3_2 ⟨_, rfl, ⟨gd, sd, ld, cd, rfl, hd, md⟩, gaw3_2⟩; have hGaw3_2 := grown_trans hGaw3_1 gaw3_2; replace n3 := n3.kept gaw3_2; have rd : RIntV aw3_2 (.agg #[.int .i64 gd, .slice sd ld cd]) (((2 ^ (4 * q) : Nat) : Int)) := ⟨gd, sd, ld, cd, rfl, hd, md⟩; have hSaw3_2 := (And.intro (hGaw3_2.cell Co0 (by simp)) (hGaw3_2.cell Co1 (by simp))); clear gaw3_2; clear md; (obtain ⟨dq0, dq1, dq2, dq3, dq4, dq5, dq6, dq7⟩ := box_cells4 (heap_kept hGaw3_2 Bq)); have HSaw3_20 := (And.intro ((box_cells (heap_unset4 (heap_kept hGaw3_2 Bo) (show aw1 ≠ w.heap.size by omega) (.int .i64 go) (.slice so lo co) (.int .i64 gd) (.slice sd ld cd))).1) ((box_cells (heap_unset4 (heap_kept hGaw3_2 Bo) (show aw1 ≠ w.heap.size by omega) (.int .i64 go) (.slice so lo co) (.int .i64 gd) (.slice sd ld cd))).2.1))))
    replace Bq := heap_kept hGaw3_2 Bq
    replace Bo := heap_kept hGaw3_2 Bo
    replace ro := ro.kept hGaw3_2
    replace hG := grown_trans hG hGaw3_2
    clear Cq0 Cq1 Cq2 Cq3 Fq0 Fq1 Fq2 Fq3 Co0 Co1 Fo0 Fo1
    have o1 : RIntV aw3_2 (.agg #[.int .i64 go, .slice so lo co]) ((2 ^ (4 * 0) : Nat) : Int) := ro
    have yv : RQ aw3_2 (.agg #[.int .i64 go, .slice so lo co, .int .i64 gd, .slice sd ld cd]) (six 0 q) 25 := RQ.of o1 rd HV.out.1 HV.out.2.1 HV.out.2.2.1 HV.out.2.2.2
    obtain ⟨k90, k91, k92, k93, k94, k95, k96, k97⟩ := box_cells4 Bq
    obtain ⟨q90, q91, q92, q93, q94, q95, q96, q97⟩ := box_cells4 (heap_set4 Bq (.int .i64 go) (.slice so lo co) (.int .i64 gd) (.slice sd ld cd))
    have hF : Hid (RetRQ w (six 0 q) 25 (.returned (.agg #[.int .i64 go, .slice so lo co, .int .i64 gd, .slice sd ld cd])) ((((aw3_2.setCell ⟨w.heap.size, 0, none⟩ (.int .i64 go)).setCell ⟨w.heap.size, 1, none⟩ (.slice so lo co)).setCell ⟨w.heap.size, 2, none⟩ (.int .i64 gd)).setCell ⟨w.heap.size, 3, none⟩ (.slice sd ld cd))) := ret_rq hG Bq (by omega) yv
    clear ro n3 rd yv o1
    go_wp2_with fail
    exact bodyPost_ret (v := .agg #[.int .i64 go, .slice so lo co, .int .i64 gd, .slice sd ld cd]) (by simp [results, Tryd.results31, go_sem, q90, q91, q92, q93]) rfl hF.out
  · skip
    go_wp2_with fail
    generalize (w1.alloc (.cells #[.int .i64 go, .slice so lo co] 38)) = w2 at *
    generalize w1.heap.size = aw1 at *
    replace hzw1 := hzw1.out
    replace hlqw1 := hlqw1.out
    go_region_held3 (fun w' => w'.cell? ⟨aw1, 0, none⟩ = some (.int .i64 go) ∧ w'.cell? ⟨aw1, 1, none⟩ = some (.slice so lo co))
      (first | assumption | exact ⟨Co0, Co1⟩ | exact HSbw3_20 | go_keep)
      (first
        | (go_at_call 56; (with_reducible refine (rTwo_of w2.drew _ (4 * p) (by first | omega | (rw [IntKind.wrap_i64]; omega)) (by omega)).mono ?_); rintro e bw3_1 ⟨v3, rfl, n3, gbw3_1⟩; have hGbw3_1 := grown_pre w2 gbw3_1 rfl rfl rfl rfl; have hSbw3_1 := (And.intro (hGbw3_1.cell Co0 (by simp)) (hGbw3_1.cell Co1 (by simp))); clear gbw3_1)
        | (go_at_call 27; (with_reducible refine (HM1.out bw3_1 _ _ n3).mono ?_); rintro e bw3_2 ⟨_, rfl, ⟨gd, sd, ld, cd, rfl, hd, md⟩, gbw3_2⟩; have hGbw3_2 := grown_trans hGbw3_1 gbw3_2; replace n3 := n3.kept gbw3_2; have rd : RIntV bw3_2 (.agg #[.int .i64 gd, .slice sd ld cd]) (((2 ^ (4 * p) : Nat) : Int)) := ⟨gd, sd, ld, cd, rfl, hd, md⟩; have hSbw3_2 := (And.intro (hGbw3_2.cell Co0 (by simp)) (hGbw3_2.cell Co1 (by simp))); clear gbw3_2; clear md; (obtain ⟨dq0, dq1, dq2, dq3, dq4, dq5, dq6, dq7⟩ := box_cells4 (heap_kept hGbw3_2 Bq)); have HSbw3_20 := (And.intro ((box_cells (heap_unset4 (heap_kept hGbw3_2 Bo) (show aw1 ≠ w.heap.size by omega) (.int .i64 gd) (.slice sd ld cd) (.int .i64 go) (.slice so lo co))).1) ((box_cells (heap_unset4 (heap_kept hGbw3_2 Bo) (show aw1 ≠ w.heap.size by omega) (.int .i64 gd) (.slice sd ld cd) (.int .i64 go) (.slice so lo co))).2.1))))
    replace Bq := heap_kept hGbw3_2 Bq
    replace Bo := heap_kept hGbw3_2 Bo
    replace ro := ro.kept hGbw3_2
    replace hG := grown_trans hG hGbw3_2
    clear Cq0 Cq1 Cq2 Cq3 Fq0 Fq1 Fq2 Fq3 Co0 Co1 Fo0 Fo1
    have o1 : RIntV bw3_2 (.agg #[.int .i64 go, .slice so lo co]) ((2 ^ (4 * 0) : Nat) : Int) := ro
    have yv : RQ bw3_2 (.agg #[.int .i64 gd, .slice sd ld cd, .int .i64 go, .slice so lo co]) (six p 0) 25 := RQ.of rd o1 HV.out.1 HV.out.2.1 HV.out.2.2.1 HV.out.2.2.2
    obtain ⟨k90, k91, k92, k93, k94, k95, k96, k97⟩ := box_cells4 Bq
    obtain ⟨q90, q91, q92, q93, q94, q95, q96, q97⟩ := box_cells4 (heap_set4 Bq (.int .i64 gd) (.slice sd ld cd) (.int .i64 go) (.slice so lo co))
    have hF : Hid (RetRQ w (six p 0) 25 (.returned (.agg #[.int .i64 gd, .slice sd ld cd, .int .i64 go, .slice so lo co])) ((((bw3_2.setCell ⟨w.heap.size, 0, none⟩ (.int .i64 gd)).setCell ⟨w.heap.size, 1, none⟩ (.slice sd ld cd)).setCell ⟨w.heap.size, 2, none⟩ (.int .i64 go)).setCell ⟨w.heap.size, 3, none⟩ (.slice so lo co))) := ret_rq hG Bq (by omega) yv
    clear ro n3 rd yv o1
    go_wp2_with fail
    exact bodyPost_ret (v := .agg #[.int .i64 gd, .slice sd ld cd, .int .i64 go, .slice so lo co]) (by simp [results, Tryd.results31, go_sem, q90, q91, q92, q93]) rfl hF.out
end Go.Proofs.YtldkddogadmpbaaDoor
