/- Records: Split. -/
import Derived.Test.YtcioefmldcmhgaaKRow
namespace Go.Proofs.Ytcioefmldcmhgaa
open Go.RowKit
set_option maxRecDepth 100000
set_option linter.unusedVariables false
set_option linter.unusedSimpArgs false

def RetSplit (w : World) (x : Nat × List KRec × Nat) (e : Ending) (w' : World) : Prop :=
  ∃ v, e = .returned (.tuple #[v, .int .i64 (x.2.2 : Int), .int .i64 (x.1 : Int)]) ∧ OwnR w' w.heap.size v x.2.1.length x.2.1 ∧ w.grownBy w' none
theorem split_err {l : List Nat} {c : Nat} (h : spR (l.length + 1) l = (c, [], 0)) (hc : c ≠ 0) : splitD l = (c, [], 0) := by
  unfold splitD; rw [h, if_pos hc]
theorem split_ok {l : List Nat} {rs : List KRec} {k : Nat} (h : spR (l.length + 1) l = (0, rs, k)) (hz : ∀ x ∈ l.drop k, x = 0) : splitD l = (0, rs, k) := by
  unfold splitD; rw [h, if_neg (by simp), if_pos hz]
theorem split_rest {l : List Nat} {rs : List KRec} {k : Nat} (h : spR (l.length + 1) l = (0, rs, k)) (hz : ¬ ∀ x ∈ l.drop k, x = 0) : splitD l = (4, [], 0) := by
  unfold splitD; rw [h, if_neg (by simp), if_neg hz]
set_option maxHeartbeats 16000000 in
theorem Split_any (w : World) (a : Addr) (n cap : Nat) (l : List Nat) (hn : l.length = n) (hl : BySl w (some a) l) (hc : n ≤ cap) (hm : cap ≤ 9223372036854775807) (hlong : n ≤ 16777216) :
    Calls Try.prog 26 #[.slice (some a) n cap] w (RetSplit w (splitD l)) := by
  have hmf : ∀ (fn : Fn) (first cap : Array Value) (w : World), (Instr.makeFunc fn first cap).run Try.prog w = .ok (.func fn first cap) w := fun _ _ _ _ => rfl
  obtain ⟨i1, hi, hz0, hz1, hz2⟩ := info_partsR
  obtain ⟨x, hx⟩ : ∃ x, splitD l = x := ⟨_, rfl⟩
  rw [hx]
  have HX := Lib.hid hx
  clear hx
  have ilong : (n : Int) ≤ 16777216 := by omega
  have hG1 := World.grownBy_alloc w (.cells #[.slice (some a) n cap] 22) none
  have Bp := heap_new w (.cells #[.slice (some a) n cap] 22) w.heap.size rfl
  obtain ⟨Cp, Fp⟩ := box_cell Bp
  go_enter Try.func26, Try.ntmps26
  go_wp2_with fail
  have hG2 := World.grownBy_alloc (w.alloc (.cells #[.slice (some a) n cap] 22)) (.cells #[.int .i64 0] 3) none
  have Bq := heap_new (w.alloc (.cells #[.slice (some a) n cap] 22)) (.cells #[.int .i64 0] 3) (w.heap.size + 1) (by simp)
  replace Bp := heap_kept hG2 Bp
  have hG := grown_trans hG1 hG2
  clear Cp Fp hG1 hG2
  generalize ((w.alloc (.cells #[.slice (some a) n cap] 22)).alloc (.cells #[.int .i64 0] 3)) = w0 at *
  go_loopg [7] n (fun gh v wr => ∃ (k f : Nat) (rs : List KRec), k ≤ n ∧ n - k ≤ gh ∧ n - k ≤ f ∧ 4 * rs.length ≤ k ∧ OwnR wr w.heap.size v rs.length rs ∧ Hid (spR (n + 1) l = catS rs k (spR (f + 1) (l.drop k))) ∧ wr.heap[w.heap.size]? = some (.cells #[.slice (some a) n cap] 22 (0, 0)) ∧ wr.heap[w.heap.size + 1]? = some (.cells #[.int .i64 (k : Int)] 3 (0, 0)) ∧ w.grownBy wr none)
  case atStart => exact ⟨0, n, [], Nat.zero_le _, Nat.le_refl _, Nat.le_refl _, Nat.le_refl _, OwnR.nil _ _, Lib.hid (catS_nil _ (spR_zero _ _)).symm, Bp, Bq, hG⟩
  case round =>
    clear Bp Bq hG
    obtain ⟨k, f, rs, hk, hgh, hf, h4, Ir, HS, Bp, Bq, hG⟩ := hrel
    obtain ⟨sv, cv, rfl⟩ := Ir.shape
    have hfl := first_len (l.drop k)
    have hfc := first_code (l.drop k)
    have hfp := first_pos (l := l.drop k)
    have her := sp_err (l0 := l) HS.out
    have hla := sp_last HS.out
    have hmo := sp_more HS.out
    have HFL := Lib.hid hfl; have HFP := Lib.hid hfp; have HER := Lib.hid her; have HLA := Lib.hid hla; have HMO := Lib.hid hmo
    clear hfl hfp her hla hmo
    have HN := Next_any wr w.heap.size (w.heap.size + 1) a n cap k l hn (hl.kept hG) hc hm hk Bp Bq
    have HN := Lib.hid HN
    obtain ⟨⟨c, ⟨kd, dt, bd⟩, m⟩, hx⟩ : ∃ x, firstR (l.drop k) = x := ⟨_, rfl⟩
    rw [hx] at HN HFL HFP HER HLA HMO hfc
    clear hx
    dsimp only at HN HFL HFP HER HLA HMO hfc
    have hml : m ≤ n - k := by have := HFL.out; rw [List.length_drop, hn] at this; exact this
    have hlr := Lib.hid (Nat.le_refl wr.heap.size)
    by_cases hc0 : c = 0
    · subst hc0
      by_cases hk4 : kd = 4
      · skip
        have f1 : (((0 : Nat) : Int) != 0) = false := by decide
        have F2 : Hid (((kd : Int) == 4) = true) := Lib.hid (beq_iff_eq.2 (by omega))
        have HK4 := Lib.hid hk4
        clear hk4
        go_wp2_with fail
        refine HN.out.mono ?_
        rintro e w1 ⟨vb, rfl, hb, hg1, Bq1⟩
        obtain ⟨_, g, cb, rfl, hbb, hgb, hlb, hmb⟩ := hb.resolve_left (fun h => h.1 rfl)
        have hs1 := hg1.size
        have hsw : w.heap.size + 1 < wr.heap.size := heap_lt Bq
        have Ir1 := Ir.offT hg1 Bq (by decide) (by decide)
        have Bp1 := heap_row hg1 Bp (by omega)
        have hG1 := grown_new (g := w.heap.size + 1) hG hg1 (by omega)
        have hgo1 : ∀ b, (Value.slice sv rs.length cv).ownBlock = some b → b < w1.heap.size := by
          obtain ⟨xs, hx1, _⟩ := Ir1
          exact fun b e => (hx1.lt b e).2
        have gA := World.grownBy_alloc w1 (.cells #[.int .u8 (kd : Int), .int .u8 (dt : Int), .slice (some ⟨g, 0, none⟩) bd.length cb] 45) none
        have gB := World.grownBy_alloc (w1.alloc (.cells #[.int .u8 (kd : Int), .int .u8 (dt : Int), .slice (some ⟨g, 0, none⟩) bd.length cb] 45)) (.cells #[.int .u8 (kd : Int), .int .u8 (dt : Int), .slice (some ⟨g, 0, none⟩) bd.length cb] 45) none
        have gAB := grown_trans gA gB
        have Bt := heap_kept gB (heap_new w1 (.cells #[.int .u8 (kd : Int), .int .u8 (dt : Int), .slice (some ⟨g, 0, none⟩) bd.length cb] 45) w1.heap.size rfl)
        have Ir2 := Ir1.kept gAB
        have Bp2 := heap_kept gAB Bp1
        have Bq2 := heap_kept gAB Bq1
        have hG2 := grown_trans hG1 gAB
        have hb2 := hbb.kept gAB
        have hne9 := Lib.hid (show wr.heap.size ≤ g from hgb)
        clear Ir Ir1 Bp Bp1 Bq Bq1 hG hG1 hg1 gA gB gAB hbb HN
        obtain ⟨xs, hown, hrl, hone, hxs⟩ := Ir2
        have HOWN := Lib.hid hown
        have HNEW : Hid (∀ j u, ([.int .u8 (kd : Int), .int .u8 (dt : Int), .slice (some ⟨g, 0, none⟩) bd.length cb] : List Value)[j]? = some u → (((w1.alloc (.cells #[.int .u8 (kd : Int), .int .u8 (dt : Int), .slice (some ⟨g, 0, none⟩) bd.length cb] 45)).alloc (.cells #[.int .u8 (kd : Int), .int .u8 (dt : Int), .slice (some ⟨g, 0, none⟩) bd.length cb] 45))).cell? ((⟨w1.heap.size + 1, 0, none⟩ : Addr).add j) = some u) := Lib.hid (by
          have h0 := (own_oneR (W := (w1.alloc (.cells #[.int .u8 (kd : Int), .int .u8 (dt : Int), .slice (some ⟨g, 0, none⟩) bd.length cb] 45))) (b := 0) (u0 := .int .u8 (kd : Int)) (u1 := .int .u8 (dt : Int)) (u2 := .slice (some ⟨g, 0, none⟩) bd.length cb) (Nat.zero_le _)).cells rfl
          rwa [show ((w1.alloc (.cells #[.int .u8 (kd : Int), .int .u8 (dt : Int), .slice (some ⟨g, 0, none⟩) bd.length cb] 45))).heap.size = w1.heap.size + 1 from by simp] at h0)
        have HONE : Hid (∀ u ∈ ([.int .u8 (kd : Int), .int .u8 (dt : Int), .slice (some ⟨g, 0, none⟩) bd.length cb] : List Value), u.oneCell' = true) := Lib.hid (by intro u hu; simp at hu; rcases hu with rfl | rfl | rfl <;> rfl)
        have HBASE : Hid (w.heap.size ≤ (((w1.alloc (.cells #[.int .u8 (kd : Int), .int .u8 (dt : Int), .slice (some ⟨g, 0, none⟩) bd.length cb] 45)).alloc (.cells #[.int .u8 (kd : Int), .int .u8 (dt : Int), .slice (some ⟨g, 0, none⟩) bd.length cb] 45))).heap.size) := Lib.hid (by simp; omega)
        have HXS := Lib.hid hxs
        have HO1 := Lib.hid hone
        have HGO := Lib.hid hgo1
        have HBT := Lib.hid Bt
        have HB2 := Lib.hid hb2
        have HBP := Lib.hid Bp2
        have HBQ := Lib.hid Bq2
        have HG2 := Lib.hid hG2
        clear hown hrl hone hxs hgo1 Bt hb2 Bp2 Bq2 hG2
        go_wp2_with (at_builtin; refine wpList_append_own _ rfl (.tmp 24) (.tmp 26) 24 rfl w.heap.size 45 i1 (.agg #[.int .u8 0, .int .u8 0, .slice none 0 0]) 3 32 Try.underlying24 hi hz0 hz1 hz2 rfl (by decide) (.slice sv rs.length cv) rs.length xs rfl HOWN.out ⟨w1.heap.size + 1, 0, none⟩ 1 1 [.int .u8 (kd : Int), .int .u8 (dt : Int), .slice (some ⟨g, 0, none⟩) bd.length cb] rfl rfl HNEW.out HONE.out (by unfold maxLen; omega) (by omega) HBASE.out ?_)
        intro v2 w2 hown2 hgrow2 hnil2
        have Ir3 : OwnR w2 w.heap.size v2 (rs.length + 1) (rs ++ [(kd, dt, bd)]) := OwnR.mk HOWN.out hgrow2 hown2 rfl HO1.out HXS.out (by have := hne9.out; omega) HB2.out hlb hmb
        have hG3 := grown_row HG2.out HOWN.out hgrow2 (Nat.le_refl _)
        have Bt3 := heap_off hgrow2 HBT.out (fun e => by have := HGO.out _ e.symm; omega)
        have Bp3 := heap_off hgrow2 HBP.out (fun e => ownR_type HOWN.out HBP.out (by decide) e.symm)
        have Bq3 := heap_off hgrow2 HBQ.out (fun e => ownR_type HOWN.out HBQ.out (by decide) e.symm)
        clear hown2 hgrow2 hnil2 HOWN HNEW HONE HBASE HXS HO1 HGO HBT HB2 HBP HBQ HG2
        obtain ⟨s2, c2, rfl⟩ := Ir3.shape
        obtain ⟨Ct0, Ct1, Ct2, _, _, _⟩ := box_cells3 Bt3
        have f2 := F2.out
        have hS2 := HLA.out trivial HK4.out
        have hm4 := HFP.out trivial
        obtain ⟨Cp3, _⟩ := box_cell Bp3
        obtain ⟨Cq3, _⟩ := box_cell Bq3
        have hkm : k + m ≤ n := by omega
        have HR : Hid (spR (l.length + 1) l = (0, rs ++ [(kd, dt, bd)], k + m)) := Lib.hid (by rw [hn]; exact hS2)
        obtain ⟨K, hK⟩ : ∃ K, k + m = K := ⟨_, rfl⟩
        rw [hK] at HR hkm Bq3 Cq3
        have ik1 : (K : Int) ≤ (n : Int) := by omega
        have ik2 : (K : Int) ≤ (cap : Int) := by omega
        clear hS2 hml hgh h4 hf hk hm4 hK
        obtain ⟨pp, hp, hpl⟩ : ∃ pp : Addr, (if cap = K then some a else some (a.add K)) = some pp ∧ BySl w2 (some pp) (l.drop K) := cut_some ((hl.kept hG3).drop K) (fun e => List.drop_eq_nil_of_le (by omega))
        have HPL := Lib.hid hpl
        have HI3 := Lib.hid Ir3
        clear hpl Ct1 Ct2
        go_wp2_with fail
        go_loop [35] (fun i => ∃ j : Nat, j ≤ n - K ∧ Hid (∀ i, i < j → (l.drop K).getD i 0 = 0) ∧ i = .int .i64 (j : Int)) (fun i => n - K - (intOf i).toNat)
        case atStart => exact ⟨0, Nat.zero_le _, Lib.hid (fun i hi => by omega), rfl⟩
        case round =>
          obtain ⟨j, hj, HZ, rfl⟩ := hrel
          by_cases hlt : j < n - K
          · have f3 : decide ((j : Int) < ((n - K : Nat) : Int)) = true := decide_eq_true (by omega)
            have hcell := HPL.out.get j (by rw [List.length_drop, hn]; exact hlt)
            have hxb := HPL.out.lt j
            obtain ⟨y, hy⟩ : ∃ y, (l.drop K).getD j 0 = y := ⟨_, rfl⟩
            rw [hy] at hcell hxb
            have HY := Lib.hid hy
            clear hy
            by_cases hy0 : y = 0
            · have f4 : ((y : Int) != 0) = false := by rw [hy0]; rfl
              have HY0 := Lib.hid hy0
              clear hy0
              go_wp2_with fail
              go_round
              case rel => exact ⟨j + 1, by omega, Lib.hid (fun i hi => by
                rcases Nat.lt_or_ge i j with h | h
                · exact HZ.out i h
                · rw [show i = j from by omega, HY.out, HY0.out]), by go_num⟩
              case measure => simp [intOf]; omega
            · have f4 : ((y : Int) != 0) = true := bne_iff_ne.2 (by omega)
              have he : splitD l = (4, [], 0) := split_rest HR.out (fun h => hy0 (by
                rw [← HY.out, List.getD_eq_getElem?_getD, List.getElem?_eq_getElem (by rw [List.length_drop, hn]; exact hlt)]
                exact h _ (List.getElem_mem _)))
              rw [HX.out] at he
              have hF : Hid (RetSplit w x (.returned (.tuple #[.slice none 0 0, .int .i64 0, .int .i64 4])) w2) := Lib.hid (by
                rw [he]; exact ⟨_, rfl, OwnR.nil _ _, hG3⟩)
              clear he
              go_wp2_with fail
              go_ret3
              exact hF.out
          · have hjn : j = n - K := by omega
            have f3 : decide ((j : Int) < ((n - K : Nat) : Int)) = false := decide_eq_false (by omega)
            have he : splitD l = (0, rs ++ [(kd, dt, bd)], K) := split_ok HR.out (fun y hy => by
              obtain ⟨i, hi, rfl⟩ := List.getElem_of_mem hy
              rw [List.length_drop, hn] at hi
              have := HZ.out i (by omega)
              rwa [List.getD_eq_getElem?_getD, List.getElem?_eq_getElem (by rw [List.length_drop, hn]; exact hi)] at this)
            rw [HX.out] at he
            have hF : Hid (∀ W, w2.grownBy W none → RetSplit w x (.returned (.tuple #[.slice s2 (rs.length + 1) c2, .int .i64 (K : Int), .int .i64 0])) W) := Lib.hid (fun W hW => by
              rw [he]; exact ⟨_, rfl, by rw [List.length_append]; exact HI3.out.kept hW, grown_trans hG3 hW⟩)
            clear he
            go_wp2_with fail
            go_quiet (fail)
            go_wp2_with fail
            go_ret3
            exact hF.out _ (grown_drewN _ _ _)
      · skip
        have f1 : (((0 : Nat) : Int) != 0) = false := by decide
        have F2 : Hid (((kd : Int) == 4) = false) := Lib.hid (beq_eq_false_iff_ne.2 (by omega))
        have HK4 := Lib.hid hk4
        clear hk4
        go_wp2_with fail
        refine HN.out.mono ?_
        rintro e w1 ⟨vb, rfl, hb, hg1, Bq1⟩
        obtain ⟨_, g, cb, rfl, hbb, hgb, hlb, hmb⟩ := hb.resolve_left (fun h => h.1 rfl)
        have hs1 := hg1.size
        have hsw : w.heap.size + 1 < wr.heap.size := heap_lt Bq
        have Ir1 := Ir.offT hg1 Bq (by decide) (by decide)
        have Bp1 := heap_row hg1 Bp (by omega)
        have hG1 := grown_new (g := w.heap.size + 1) hG hg1 (by omega)
        have hgo1 : ∀ b, (Value.slice sv rs.length cv).ownBlock = some b → b < w1.heap.size := by
          obtain ⟨xs, hx1, _⟩ := Ir1
          exact fun b e => (hx1.lt b e).2
        have gA := World.grownBy_alloc w1 (.cells #[.int .u8 (kd : Int), .int .u8 (dt : Int), .slice (some ⟨g, 0, none⟩) bd.length cb] 45) none
        have gB := World.grownBy_alloc (w1.alloc (.cells #[.int .u8 (kd : Int), .int .u8 (dt : Int), .slice (some ⟨g, 0, none⟩) bd.length cb] 45)) (.cells #[.int .u8 (kd : Int), .int .u8 (dt : Int), .slice (some ⟨g, 0, none⟩) bd.length cb] 45) none
        have gAB := grown_trans gA gB
        have Bt := heap_kept gB (heap_new w1 (.cells #[.int .u8 (kd : Int), .int .u8 (dt : Int), .slice (some ⟨g, 0, none⟩) bd.length cb] 45) w1.heap.size rfl)
        have Ir2 := Ir1.kept gAB
        have Bp2 := heap_kept gAB Bp1
        have Bq2 := heap_kept gAB Bq1
        have hG2 := grown_trans hG1 gAB
        have hb2 := hbb.kept gAB
        have hne9 := Lib.hid (show wr.heap.size ≤ g from hgb)
        clear Ir Ir1 Bp Bp1 Bq Bq1 hG hG1 hg1 gA gB gAB hbb HN
        obtain ⟨xs, hown, hrl, hone, hxs⟩ := Ir2
        have HOWN := Lib.hid hown
        have HNEW : Hid (∀ j u, ([.int .u8 (kd : Int), .int .u8 (dt : Int), .slice (some ⟨g, 0, none⟩) bd.length cb] : List Value)[j]? = some u → (((w1.alloc (.cells #[.int .u8 (kd : Int), .int .u8 (dt : Int), .slice (some ⟨g, 0, none⟩) bd.length cb] 45)).alloc (.cells #[.int .u8 (kd : Int), .int .u8 (dt : Int), .slice (some ⟨g, 0, none⟩) bd.length cb] 45))).cell? ((⟨w1.heap.size + 1, 0, none⟩ : Addr).add j) = some u) := Lib.hid (by
          have h0 := (own_oneR (W := (w1.alloc (.cells #[.int .u8 (kd : Int), .int .u8 (dt : Int), .slice (some ⟨g, 0, none⟩) bd.length cb] 45))) (b := 0) (u0 := .int .u8 (kd : Int)) (u1 := .int .u8 (dt : Int)) (u2 := .slice (some ⟨g, 0, none⟩) bd.length cb) (Nat.zero_le _)).cells rfl
          rwa [show ((w1.alloc (.cells #[.int .u8 (kd : Int), .int .u8 (dt : Int), .slice (some ⟨g, 0, none⟩) bd.length cb] 45))).heap.size = w1.heap.size + 1 from by simp] at h0)
        have HONE : Hid (∀ u ∈ ([.int .u8 (kd : Int), .int .u8 (dt : Int), .slice (some ⟨g, 0, none⟩) bd.length cb] : List Value), u.oneCell' = true) := Lib.hid (by intro u hu; simp at hu; rcases hu with rfl | rfl | rfl <;> rfl)
        have HBASE : Hid (w.heap.size ≤ (((w1.alloc (.cells #[.int .u8 (kd : Int), .int .u8 (dt : Int), .slice (some ⟨g, 0, none⟩) bd.length cb] 45)).alloc (.cells #[.int .u8 (kd : Int), .int .u8 (dt : Int), .slice (some ⟨g, 0, none⟩) bd.length cb] 45))).heap.size) := Lib.hid (by simp; omega)
        have HXS := Lib.hid hxs
        have HO1 := Lib.hid hone
        have HGO := Lib.hid hgo1
        have HBT := Lib.hid Bt
        have HB2 := Lib.hid hb2
        have HBP := Lib.hid Bp2
        have HBQ := Lib.hid Bq2
        have HG2 := Lib.hid hG2
        clear hown hrl hone hxs hgo1 Bt hb2 Bp2 Bq2 hG2
        go_wp2_with (at_builtin; refine wpList_append_own _ rfl (.tmp 24) (.tmp 26) 24 rfl w.heap.size 45 i1 (.agg #[.int .u8 0, .int .u8 0, .slice none 0 0]) 3 32 Try.underlying24 hi hz0 hz1 hz2 rfl (by decide) (.slice sv rs.length cv) rs.length xs rfl HOWN.out ⟨w1.heap.size + 1, 0, none⟩ 1 1 [.int .u8 (kd : Int), .int .u8 (dt : Int), .slice (some ⟨g, 0, none⟩) bd.length cb] rfl rfl HNEW.out HONE.out (by unfold maxLen; omega) (by omega) HBASE.out ?_)
        intro v2 w2 hown2 hgrow2 hnil2
        have Ir3 : OwnR w2 w.heap.size v2 (rs.length + 1) (rs ++ [(kd, dt, bd)]) := OwnR.mk HOWN.out hgrow2 hown2 rfl HO1.out HXS.out (by have := hne9.out; omega) HB2.out hlb hmb
        have hG3 := grown_row HG2.out HOWN.out hgrow2 (Nat.le_refl _)
        have Bt3 := heap_off hgrow2 HBT.out (fun e => by have := HGO.out _ e.symm; omega)
        have Bp3 := heap_off hgrow2 HBP.out (fun e => ownR_type HOWN.out HBP.out (by decide) e.symm)
        have Bq3 := heap_off hgrow2 HBQ.out (fun e => ownR_type HOWN.out HBQ.out (by decide) e.symm)
        clear hown2 hgrow2 hnil2 HOWN HNEW HONE HBASE HXS HO1 HGO HBT HB2 HBP HBQ HG2
        obtain ⟨s2, c2, rfl⟩ := Ir3.shape
        obtain ⟨Ct0, Ct1, Ct2, _, _, _⟩ := box_cells3 Bt3
        have f2 := F2.out
        have hS2 := HMO.out trivial HK4.out
        go_wp2_with fail
        have hm4 := HFP.out trivial
        obtain ⟨f', rfl⟩ : ∃ f', f = f' + 1 := ⟨f - 1, by omega⟩
        go_roundg (n - (k + m))
        case measure => omega
        case rel => exact ⟨k + m, f', rs ++ [(kd, dt, bd)], by omega, Nat.le_refl _, by omega, by rw [List.length_append]; show 4 * (rs.length + 1) ≤ _; omega, by rw [List.length_append]; exact Ir3, Lib.hid (by rw [← List.drop_drop]; exact hS2), Bp3, Bq3, hG3⟩
    · have f1 : ((c : Int) != 0) = true := bne_iff_ne.2 (by omega)
      go_wp2_with fail
      refine HN.out.mono ?_
      rintro e w1 ⟨vb, rfl, hb, hg1, Bq1⟩
      rcases hb with ⟨_, rfl, rfl⟩ | ⟨h, _⟩
      · have hG3 := grown_alloc (grown_new (g := w.heap.size + 1) hG hg1 (by omega)) (.cells #[.int .u8 (kd : Int), .int .u8 (dt : Int), .slice none 0 0] 45)
        have he : splitD l = (c, [], 0) := split_err (by rw [hn]; exact HER.out hc0) hc0
        rw [HX.out] at he
        have hF : Hid (RetSplit w x (.returned (.tuple #[.slice none 0 0, .int .i64 0, .int .i64 (c : Int)])) (w1.alloc (.cells #[.int .u8 (kd : Int), .int .u8 (dt : Int), .slice none 0 0] 45))) := Lib.hid (by
          rw [he]; exact ⟨_, rfl, OwnR.nil _ _, hG3⟩)
        clear he hG3 hg1 Bq1 Bp Bq Ir HN
        go_wp2_with fail
        go_ret3
        exact hF.out
      · exact absurd h hc0
end Go.Proofs.Ytcioefmldcmhgaa
