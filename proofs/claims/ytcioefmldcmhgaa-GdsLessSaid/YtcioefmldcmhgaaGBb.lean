/-
  Streams as trees: the document's Parse.
-/
import Derived.Test.YtcioefmldcmhgaaKSplit
import Derived.Test.YtcioefmldcmhgaaKStep
import Derived.IntWalk
import Derived.Test.YtcioefmldcmhgaaGB5m
import Derived.Test.YtcioefmldcmhgaaGOm
namespace Go.Proofs.Ytcioefmldcmhgaa
open Go.RowKit
set_option maxRecDepth 100000
set_option linter.unusedVariables false
set_option linter.unusedSimpArgs false

/-- The last of some records. -/
def lastK (rs : List KRec) : Nat := (rs.getD (rs.length - 1) (0, 0, [])).1
theorem lastK_snoc (rs : List KRec) (r : KRec) : lastK (rs ++ [r]) = r.1 := by
  unfold lastK
  rw [List.length_append, show rs.length + [r].length - 1 = rs.length from rfl, List.getD_eq_getElem?_getD, List.getElem?_append_right (Nat.le_refl _)]
  simp
theorem drop_getD (l : List Nat) (k i : Nat) : (l.drop k).getD i 0 = l.getD (k + i) 0 := by
  rw [List.getD_eq_getElem?_getD, List.getD_eq_getElem?_getD, List.getElem?_drop]
theorem getD_mem_drop {l : List Nat} {k m : Nat} (h : k ≤ m) (hm : m < l.length) : l.getD m 0 ∈ l.drop k := by
  obtain ⟨i, rfl⟩ : ∃ i, m = k + i := ⟨m - k, by omega⟩
  rw [List.getD_eq_getElem?_getD, List.getElem?_eq_getElem hm, Option.getD_some]
  have : (l.drop k)[i]'(by rw [List.length_drop]; omega) = l[k + i] := List.getElem_drop
  rw [← this]; exact List.getElem_mem _
theorem RcSl.last {W : World} {s : Option Addr} {rs : List KRec} (h : RcSl W s rs) (h0 : 0 < rs.length) : ∃ a, s = some a ∧ W.cell? (a.add ((rs.length - 1) * 3)) = some (.int .u8 (lastK rs : Int)) := by
  obtain ⟨a, sb, cb, e, h1, _⟩ := h (rs.length - 1) (by omega)
  refine ⟨a, e, ?_⟩
  rw [h1]; unfold lastK
  rw [List.getD_eq_getElem?_getD, List.getElem?_eq_getElem (by omega)]; rfl
set_option maxHeartbeats 16000000 in
theorem RSplit_any (w : World) (s : Option Addr) (n cap : Nat) (l : List Nat) (hn : l.length = n) (hl : BySl w s l) (hc : n ≤ cap) (hm : cap ≤ 9223372036854775807) (hlong : n ≤ 16777216) :
    Calls Try.prog 31 #[.slice s n cap] w (RetSplit w (splitD l)) := by
  obtain ⟨i1, hi, hz0, hz1, hz2⟩ := info_partsR
  obtain ⟨i2, hi2, hy0, hy1, hy2⟩ := info_partsU
  obtain ⟨x, hx⟩ : ∃ x, splitD l = x := ⟨_, rfl⟩
  rw [hx]
  have HX := Lib.hid hx
  clear hx
  have ilong : (n : Int) ≤ 16777216 := by omega
  have hG : w.grownBy w none := grown_refl _ _
  go_enter Try.func31, Try.ntmps31
  go_wp2_with fail
  go_loopg [5, 6] (n + 1) (fun gh v i wr => ∃ (k f : Nat) (rs : List KRec) (d : Bool), k ≤ n ∧ n - k + (if d then 0 else 1) ≤ gh ∧ n - k ≤ f ∧ 4 * rs.length ≤ k ∧ i = .int .i64 (k : Int) ∧ OwnR wr w.heap.size v rs.length rs ∧ Hid (d = false → (rs = [] ∨ lastK rs ≠ 4) ∧ spR (n + 1) l = catS rs k (spR (f + 1) (l.drop k))) ∧ Hid (d = true → 0 < rs.length ∧ lastK rs = 4 ∧ spR (n + 1) l = (0, rs, k)) ∧ w.grownBy wr none)
  case atStart => exact ⟨0, n, [], false, Nat.zero_le _, Nat.le_refl _, Nat.le_refl _, Nat.le_refl _, rfl, OwnR.nil _ _, Lib.hid (fun _ => ⟨Or.inl rfl, (catS_nil _ (spR_zero _ _)).symm⟩), Lib.hid (fun e => by cases e), hG⟩
  case round =>
    clear hG
    obtain ⟨k, f, rs, d, hk, hgh, hf, h4, rfl, Ir, HF, HT, hG⟩ := hrel
    cases d with
    | true =>
      obtain ⟨sv, cv, rfl⟩ := Ir.shape
      obtain ⟨h0, h1, h2⟩ := HT.out rfl
      obtain ⟨av, rfl, hla⟩ := Ir.sl.last h0
      rw [h1] at hla
      obtain ⟨j, hj⟩ : ∃ j, rs.length = j + 1 := ⟨rs.length - 1, by omega⟩
      rw [hj] at hla
      rw [show j + 1 - 1 = j from rfl] at hla
      have hjz : ((j : Int) + 1 == 0) = false := beq_eq_false_iff_ne.2 (by omega)
      rw [show ((4 : Nat) : Int) = 4 from rfl] at hla
      have hjb : (j : Int) ≤ 16777216 := by omega
      have HJ := Lib.hid hj
      have HH2 := Lib.hid h2
      have HI3 := Lib.hid Ir
      obtain ⟨a, rfl⟩ : ∃ a, s = some a := by
        rcases hl.1 with rfl | ⟨a, e, _⟩
        · simp at hn; omega
        · exact ⟨a, e⟩
      have HBL := Lib.hid (hl.kept hG)
      have HGG := Lib.hid hG
      clear h0 h1 h2 hgh hf h4 HF HT Ir hG hl
      go_wp2_with fail
      go_loop [8] (fun i => ∃ m : Nat, k ≤ m ∧ m ≤ n ∧ Hid (∀ i, k ≤ i → i < m → l.getD i 0 = 0) ∧ i = .int .i64 (m : Int)) (fun i => n - (intOf i).toNat)
      case atStart => exact ⟨k, Nat.le_refl _, hk, Lib.hid (fun i h1 h2 => by omega), rfl⟩
      case round =>
        obtain ⟨m, hkm, hmn, HZ, rfl⟩ := hrel
        by_cases hlt : m < n
        · have f3 : decide ((m : Int) < (n : Int)) = true := decide_eq_true (by omega)
          have hcell := HBL.out.get m (by omega)
          have hxb := HBL.out.lt m
          obtain ⟨y, hy⟩ : ∃ y, l.getD m 0 = y := ⟨_, rfl⟩
          rw [hy] at hcell hxb
          have HY := Lib.hid hy
          clear hy
          by_cases hy0 : y = 0
          · have f4 : ((y : Int) != 0) = false := by rw [hy0]; rfl
            have HY0 := Lib.hid hy0
            clear hy0
            go_wp2_with fail
            go_round
            case rel => exact ⟨m + 1, by omega, by omega, Lib.hid (fun i h1 h2 => by
              rcases Nat.lt_or_ge i m with h | h
              · exact HZ.out i h1 h
              · rw [show i = m from by omega, HY.out, HY0.out]), by go_num⟩
            case measure => simp [intOf]; omega
          · have f4 : ((y : Int) != 0) = true := bne_iff_ne.2 (by omega)
            have he : splitD l = (4, [], 0) := split_rest (by rw [hn]; exact HH2.out) (fun h => hy0 (by
              rw [← HY.out]; exact h _ (getD_mem_drop hkm (by omega))))
            rw [HX.out] at he
            have hF : Hid (RetSplit w x (.returned (.tuple #[.slice none 0 0, .int .i64 0, .int .i64 4])) wr) := Lib.hid (by
              rw [he]; exact ⟨_, rfl, OwnR.nil _ _, HGG.out⟩)
            clear he
            go_wp2_with fail
            go_ret3
            exact hF.out
        · have hjn : m = n := by omega
          have f3 : decide ((m : Int) < (n : Int)) = false := decide_eq_false (by omega)
          have he : splitD l = (0, rs, k) := split_ok (by rw [hn]; exact HH2.out) (fun y hy => by
            obtain ⟨i, hi, rfl⟩ := List.getElem_of_mem hy
            rw [List.length_drop, hn] at hi
            rw [List.getElem_drop]
            have := HZ.out (k + i) (by omega) (by omega)
            rwa [List.getD_eq_getElem?_getD, List.getElem?_eq_getElem (by omega)] at this)
          rw [HX.out] at he
          have hF : Hid (RetSplit w x (.returned (.tuple #[.slice (some av) (j + 1) cv, .int .i64 (k : Int), .int .i64 0])) wr) := Lib.hid (by
            rw [he]; exact ⟨_, rfl, by have h9 := HI3.out; rw [HJ.out] at h9; show OwnR wr _ _ rs.length rs; rw [HJ.out]; exact h9, HGG.out⟩)
          clear he
          go_wp2_with fail
          go_ret3
          exact hF.out
    | false =>
      obtain ⟨rn, hrn⟩ : ∃ rn, rs.length = rn := ⟨_, rfl⟩
      have HRN := Lib.hid hrn
      rw [hrn] at Ir
      have h4r : 4 * rn ≤ k := by omega
      clear hrn h4
      obtain ⟨sv, cv, rfl⟩ := Ir.shape
      obtain ⟨hlk, hsp⟩ := HF.out rfl
      have HSP := Lib.hid hsp
      clear hsp HF HT
      by_cases hrn0 : rn = 0
      · subst hrn0
        clear hlk
        have HGG := Lib.hid hG
        have HIR := Lib.hid Ir
        clear hG Ir
        by_cases h2 : n - k < 2
        · have HFI : Hid (firstR (l.drop k) = (7, (0, 0, []), 0)) := Lib.hid (first_short (by rw [List.length_drop, hn]; omega))
          have f5 : decide ((n : Int) - (k : Int) < 2) = true := decide_eq_true (by omega)
          have he : splitD l = (7, [], 0) := split_err (by rw [hn, HSP.out]; unfold catS spR; rw [HFI.out]; rfl) (by decide)
          rw [HX.out] at he
          have hF : Hid (∀ W, wr.grownBy W none → RetSplit w x (.returned (.tuple #[.slice none 0 0, .int .i64 0, .int .i64 7])) W) := Lib.hid (fun W hW => by
            rw [he]; exact ⟨_, rfl, OwnR.nil _ _, grown_trans HGG.out hW⟩)
          clear he
          go_wp2_with fail
          go_ret3
          exact hF.out _ (grown_refl _ _)
        have f5 : decide ((n : Int) - (k : Int) < 2) = false := decide_eq_false (by omega)
        obtain ⟨a, rfl⟩ : ∃ a, s = some a := by
          rcases hl.1 with rfl | ⟨a, e, _⟩
          · simp at hn; omega
          · exact ⟨a, e⟩
        have HBL := Lib.hid (hl.kept HGG.out)
        have hx0 := HBL.out.get k (by omega)
        have hx1 := HBL.out.get (k + 1) (by omega)
        rw [show a.add (k + 1) = ⟨a.block, a.off + (k + 1), none⟩ from rfl] at hx1
        have hb0 := HBL.out.lt k
        have hb1 := HBL.out.lt (k + 1)
        have hNv : lenR (l.drop k) = l.getD k 0 * 256 + l.getD (k + 1) 0 := by
          unfold lenR
          rw [drop_getD, drop_getD]; rfl
        obtain ⟨x0, hx0e⟩ : ∃ y, l.getD k 0 = y := ⟨_, rfl⟩
        obtain ⟨x1, hx1e⟩ : ∃ y, l.getD (k + 1) 0 = y := ⟨_, rfl⟩
        rw [hx0e] at hx0 hb0 hNv
        rw [hx1e] at hx1 hb1 hNv
        obtain ⟨N, hN⟩ : ∃ N, lenR (l.drop k) = N := ⟨_, rfl⟩
        rw [hN] at hNv
        have HN := Lib.hid hN
        clear hN hx0e hx1e
        have q1 : IntKind.i64.wrap ((k : Int) + 1) = (k : Int) + 1 := IntWalk.i64_in _ (by omega)
        have q2 : (0 : Int) ≤ (k : Int) + 1 := by omega
        have q3 : (k : Int) + 1 < (n : Int) := by omega
        have q4 : (k : Int) < (n : Int) := by omega
        have q5 : ((k : Int) + 1).toNat = k + 1 := by omega
        have q6 : IntKind.i64.wrap (256 * (x0 : Int)) = 256 * (x0 : Int) := IntWalk.i64_in _ (by omega)
        have q7 : IntKind.i64.wrap (256 * (x0 : Int) + (x1 : Int)) = (N : Int) := by rw [IntWalk.i64_in _ (by omega)]; omega
        have hNb : N < 65536 := by omega
        clear hNv
        go_wp2_with fail
        go_quiet (fail)
        have gz := grown_drewN wr nq none
        have HZG := Lib.hid (grown_trans HGG.out gz)
        have HZI := Lib.hid (HIR.out.kept gz)
        have HZB := Lib.hid (HBL.out.kept gz)
        replace hF0 := Lib.hid gz
        clear gz q1 q2 q3 q4 q5 q6 q7 hx0 hx1 hb0 hb1
        generalize wr.drewN nq = wz at *
        by_cases h3 : N < 4 ∨ N % 2 = 1
        · have HFI : Hid (firstR (l.drop k) = (3, (0, 0, []), 0)) := Lib.hid (first_form (by rw [List.length_drop, hn]; omega) (by rw [HN.out]; exact h3))
          have ht : (decide ((N : Int) < 4) || ((N : Int) % 2 == 1)) = true := by
            rcases h3 with h | h
            · rw [decide_eq_true (by omega)]; rfl
            · rw [show ((N : Int) % 2 == 1) = true from beq_iff_eq.2 (by omega), Bool.or_true]
          have he : splitD l = (3, [], 0) := split_err (by rw [hn, HSP.out]; unfold catS spR; rw [HFI.out]; rfl) (by decide)
          rw [HX.out] at he
          have hF : Hid (∀ W, wr.grownBy W none → RetSplit w x (.returned (.tuple #[.slice none 0 0, .int .i64 0, .int .i64 3])) W) := Lib.hid (fun W hW => by
            rw [he]; exact ⟨_, rfl, OwnR.nil _ _, grown_trans HGG.out hW⟩)
          clear he
          go_wp2_with fail
          all_goals (
            go_ret3
            exact hF.out _ hF0.out)
        have ht : (decide ((N : Int) < 4) || ((N : Int) % 2 == 1)) = false := by
          rw [decide_eq_false (by omega), show ((N : Int) % 2 == 1) = false from beq_eq_false_iff_ne.2 (by omega)]; rfl
        by_cases h5 : n - k < N
        · have HFI : Hid (firstR (l.drop k) = (7, (0, 0, []), 0)) := Lib.hid (first_less (by rw [List.length_drop, hn]; omega) (by rw [HN.out]; exact h3) (by rw [HN.out, List.length_drop, hn]; exact h5))
          have f6 : decide ((n : Int) - (k : Int) < (N : Int)) = true := decide_eq_true (by omega)
          have he : splitD l = (7, [], 0) := split_err (by rw [hn, HSP.out]; unfold catS spR; rw [HFI.out]; rfl) (by decide)
          rw [HX.out] at he
          have hF : Hid (∀ W, wr.grownBy W none → RetSplit w x (.returned (.tuple #[.slice none 0 0, .int .i64 0, .int .i64 7])) W) := Lib.hid (fun W hW => by
            rw [he]; exact ⟨_, rfl, OwnR.nil _ _, grown_trans HGG.out hW⟩)
          clear he
          go_wp2_with fail
          go_ret3
          exact hF.out _ hF0.out
        have f6 : decide ((n : Int) - (k : Int) < (N : Int)) = false := decide_eq_false (by omega)
        have HFI : Hid (firstR (l.drop k) = (0, (l.getD (k + 2) 0, l.getD (k + 3) 0, ((l.drop (k + 4)).take (N - 4))), N)) := Lib.hid (by
          rw [first_ok (by rw [List.length_drop, hn]; omega) (by rw [HN.out]; exact h3) (by rw [HN.out, List.length_drop, hn]; omega), HN.out, drop_getD, drop_getD, List.drop_drop])
        have hx2 := HZB.out.get (k + 2) (by omega)
        have ho2 := hl.get (k + 2) (by omega)
        have ho3 := hl.get (k + 3) (by omega)
        rw [show a.add (k + 2) = ⟨a.block, a.off + (k + 2), none⟩ from rfl] at ho2
        rw [show a.add (k + 3) = ⟨a.block, a.off + (k + 3), none⟩ from rfl] at ho3
        have hx3 := HZB.out.get (k + 3) (by omega)
        rw [show a.add (k + 2) = ⟨a.block, a.off + (k + 2), none⟩ from rfl] at hx2
        rw [show a.add (k + 3) = ⟨a.block, a.off + (k + 3), none⟩ from rfl] at hx3
        obtain ⟨kd, hkd⟩ : ∃ y, l.getD (k + 2) 0 = y := ⟨_, rfl⟩
        obtain ⟨dt, hdt⟩ : ∃ y, l.getD (k + 3) 0 = y := ⟨_, rfl⟩
        obtain ⟨bd, hbd⟩ : ∃ y, (l.drop (k + 4)).take (N - 4) = y := ⟨_, rfl⟩
        rw [hkd, hdt, hbd] at HFI
        rw [hkd] at hx2 ho2
        rw [hdt] at hx3 ho3
        have HO2 := Lib.hid ho2
        have HO3 := Lib.hid ho3
        clear ho2 ho3
        have hbl : bd.length = N - 4 := by rw [← hbd, List.length_take, List.length_drop]; omega
        have hBD : BySl wz (some (a.add (k + 4))) bd := by rw [← hbd]; exact (HZB.out.drop (k + 4)).take _
        obtain ⟨pp, hp, hpl⟩ : ∃ pp : Addr, (if cap = k + 4 then some a else some ⟨a.block, a.off + (k + 4), none⟩) = some pp ∧ BySl wz (some pp) bd := cut_some hBD (fun e => List.length_eq_zero_iff.1 (by omega))
        have HPL := Lib.hid hpl
        have HBN := Lib.hid hbl
        clear hpl hBD hkd hdt hbd hbl
        have q1 : IntKind.i64.wrap ((k : Int) + 2) = (k : Int) + 2 := IntWalk.i64_in _ (by omega)
        have q2 : (0 : Int) ≤ (k : Int) + 2 := by omega
        have q3 : (k : Int) + 2 < (n : Int) := by omega
        have q4 : ((k : Int) + 2).toNat = k + 2 := by omega
        have r1 : IntKind.i64.wrap ((k : Int) + 3) = (k : Int) + 3 := IntWalk.i64_in _ (by omega)
        have r2 : (0 : Int) ≤ (k : Int) + 3 := by omega
        have r3 : (k : Int) + 3 < (n : Int) := by omega
        have r4 : ((k : Int) + 3).toNat = k + 3 := by omega
        have s1 : IntKind.i64.wrap ((k : Int) + 4) = (k : Int) + 4 := IntWalk.i64_in _ (by omega)
        have s2 : (0 : Int) ≤ (k : Int) + 4 := by omega
        have s3 : (k : Int) + 4 ≤ (k : Int) + (N : Int) := by omega
        have s4 : ((k : Int) + 4).toNat = k + 4 := by omega
        have t1 : IntKind.i64.wrap ((k : Int) + (N : Int)) = (k : Int) + (N : Int) := IntWalk.i64_in _ (by omega)
        have t2 : (k : Int) + (N : Int) ≤ (cap : Int) := by omega
        have t3 : (k : Int) + (N : Int) ≤ (n : Int) := by omega
        have t4 : ((k : Int) + (N : Int)).toNat = k + N := by omega
        have t5 : k + N - (k + 4) = N - 4 := by omega
        go_wp2_with fail
        obtain ⟨xs, hown, hrl, hone, hxs⟩ := HZI.out
        have HOWN := Lib.hid hown
        have HXS := Lib.hid hxs
        have HO1 := Lib.hid hone
        have HR1 : Hid (∀ u ∈ bvs bd, u.oneCell' = true) := Lib.hid (bvs_one bd)
        have HLN : Hid ((bvs bd).length = (N - 4) * 1) := Lib.hid (by rw [bvs_len, HBN.out, Nat.mul_one])
        have HB0 : Hid (w.heap.size ≤ wz.heap.size) := Lib.hid HZG.out.size
        have HM1 : Hid (0 + (N - 4) ≤ maxLen) := Lib.hid (by unfold maxLen; omega)
        have HM2 : Hid ((0 + (N - 4)) * 1 ≤ 140737488355328) := Lib.hid (by omega)
        have HM3 : Hid (0 + 1 ≤ maxLen) := Lib.hid (by unfold maxLen; omega)
        have HM4 : Hid ((0 + 1) * 32 ≤ 140737488355328) := Lib.hid (by omega)
        clear hown hrl hone hxs
        go_region_held3 (fun w' => w'.cell? ⟨a.block, a.off + (k + 2), none⟩ = some (.int .u8 (kd : Int)) ∧ w'.cell? ⟨a.block, a.off + (k + 3), none⟩ = some (.int .u8 (dt : Int)))
          (first | assumption | exact ⟨hx2, hx3⟩ | go_keep)
          (first
            | (refine step_own_some rfl (.tmp 67) (.tmp 74) 22 rfl w.heap.size 5 i2 (.int .u8 0) 1 1 Try.underlying22 hi2 hy0 hy1 hy2 rfl (by decide) (.slice (some ⟨wz.heap.size, 0, none⟩) 0 0) 0 [] rfl (own_drew (own_mt HB0.out)) pp (N - 4) _ (bvs bd) rfl HLN.out (HPL.out.newsK (grown_drew (World.grownBy_alloc wz _ none))) HR1.out HM1.out HM2.out (Nat.le_trans HB0.out (grown_drew (World.grownBy_alloc wz _ none)).size) (Or.inl (by simp)) (N - 4) (Nat.zero_add _) ?_; intro g cb w1 hown1 hgrow1 hgb hcb hmb; have hg9 : wz.grownBy w1 none := grown_new (g := wz.heap.size) (grown_drew (World.grownBy_alloc wz _ none)) hgrow1 (Nat.le_refl _); have HG1 := Lib.hid hg9; have hx2 := hg9.cell hx2 (by simp); have hx3 := hg9.cell hx3 (by simp); have HBK := Lib.hid (own_blk hown1 HBN.out HPL.out.2); clear hown1 hgrow1 hg9)
            | (refine step_own_some rfl (.tmp 56) (.tmp 77) 24 rfl w.heap.size 45 i1 (.agg #[.int .u8 0, .int .u8 0, .slice none 0 0]) 3 32 Try.underlying24 hi hz0 hz1 hz2 rfl (by decide) _ 0 xs rfl (ownR_kept HOWN.out (grown_alloc HG1.out _)) ⟨w1.heap.size, 0, none⟩ 1 1 [.int .u8 (kd : Int), .int .u8 (dt : Int), .slice (some ⟨g, 0, none⟩) (N - 4) cb] rfl rfl (World.news_of_block (cs := #[.int .u8 (kd : Int), .int .u8 (dt : Int), .slice (some ⟨g, 0, none⟩) (N - 4) cb]) (heap_new w1 _ _ rfl)) (by simp [Value.oneCell']) HM3.out HM4.out (Nat.le_trans HB0.out (grown_alloc HG1.out _).size) (Or.inr (by decide)) (0 + 1) rfl ?_; intro g2 c2 w2 hown2 hgrow2 hgb2 hcb2 hmb2; have hown3 : w2.ownsRow w.heap.size 45 3 (.slice (some ⟨g2, 0, none⟩) (0 + 1) c2) (0 + 1) (xs ++ [.int .u8 (((kd, dt, bd) : KRec).1 : Int), .int .u8 (((kd, dt, bd) : KRec).2.1 : Int), .slice (some ⟨g, 0, none⟩) ((kd, dt, bd) : KRec).2.2.length cb]) := (by show w2.ownsRow _ _ _ _ _ (xs ++ [.int .u8 (kd : Int), .int .u8 (dt : Int), .slice (some ⟨g, 0, none⟩) bd.length cb]); rw [HBN.out]; exact hown2); have HG3 := Lib.hid (grown_row (w := w) (grown_trans HZG.out (grown_alloc HG1.out (.cells #[.int .u8 (kd : Int), .int .u8 (dt : Int), .slice (some ⟨g, 0, none⟩) (N - 4) cb] 45))) (ownR_kept HOWN.out (grown_alloc HG1.out (.cells #[.int .u8 (kd : Int), .int .u8 (dt : Int), .slice (some ⟨g, 0, none⟩) (N - 4) cb] 45))) hgrow2 (Nat.le_refl _)); have hx2 := HG3.out.cell HO2.out (by simp); have hx3 := HG3.out.cell HO3.out (by simp); have HI3 := Lib.hid (OwnR.mk (W := w1.alloc (.cells #[.int .u8 (kd : Int), .int .u8 (dt : Int), .slice (some ⟨g, 0, none⟩) (N - 4) cb] 45)) (ownR_kept HOWN.out (grown_alloc HG1.out (.cells #[.int .u8 (kd : Int), .int .u8 (dt : Int), .slice (some ⟨g, 0, none⟩) (N - 4) cb] 45))) hgrow2 hown3 HRN.out HO1.out (fun i h => (HXS.out i h).imp fun g' h' => h'.imp fun c' h'' => ⟨h''.1, h''.2.1, h''.2.2.1, h''.2.2.2.1, h''.2.2.2.2.1.kept (grown_alloc HG1.out (.cells #[.int .u8 (kd : Int), .int .u8 (dt : Int), .slice (some ⟨g, 0, none⟩) (N - 4) cb] 45)), h''.2.2.2.2.2⟩) hgb (HBK.out.kept (World.grownBy_alloc w1 (.cells #[.int .u8 (kd : Int), .int .u8 (dt : Int), .slice (some ⟨g, 0, none⟩) (N - 4) cb] 45) none)) (by show bd.length ≤ cb; rw [HBN.out]; exact hcb) hmb); clear hown2 hown3 hgrow2))
        clear q1 q2 q3 q4 r1 r2 r3 r4 s1 s2 s3 s4
        have hml2 := first_len (l.drop k)
        rw [HFI.out, List.length_drop, hn] at hml2
        obtain ⟨f', rfl⟩ : ∃ f', f = f' + 1 := ⟨f - 1, by omega⟩
        have HM0 := Lib.hid (sp_more HSP.out)
        have HLA := Lib.hid (sp_last HSP.out)
        rw [HFI.out] at HM0 HLA
        go_wp2_with fail
        go_roundg (n - (k + N) + (if decide (kd = 4) then 0 else 1))
        case measure =>
          have hgh' : n - k + 1 ≤ gk := hgh
          split <;> omega
        case rel => exact ⟨k + N, f', rs ++ [(kd, dt, bd)], decide (kd = 4), by omega, Nat.le_refl _, by omega, by rw [List.length_append, HRN.out]; show 4 * (0 + 1) ≤ _; omega, rfl, by rw [List.length_append, HRN.out]; exact HI3.out, Lib.hid (fun e => ⟨Or.inr (by rw [lastK_snoc]; exact of_decide_eq_false e), by rw [← List.drop_drop]; exact HM0.out trivial (of_decide_eq_false e)⟩), Lib.hid (fun e => ⟨by rw [List.length_append]; exact Nat.succ_pos _, by rw [lastK_snoc]; exact of_decide_eq_true e, HLA.out trivial (of_decide_eq_true e)⟩), HG3.out⟩
      · skip
        replace hlk := hlk.resolve_left (fun e => by have := HRN.out; rw [e] at this; exact hrn0 this.symm)
        obtain ⟨av, rfl, hla⟩ := Ir.sl.last (by have := HRN.out; omega)
        rw [HRN.out] at hla
        obtain ⟨j, rfl⟩ : ∃ j, rn = j + 1 := ⟨rn - 1, by omega⟩
        rw [show j + 1 - 1 = j from rfl] at hla
        obtain ⟨lk, hlkv⟩ : ∃ y, lastK rs = y := ⟨_, rfl⟩
        rw [hlkv] at hla hlk
        have hjz : ((j : Int) + 1 == 0) = false := beq_eq_false_iff_ne.2 (by omega)
        have hjb : (j : Int) ≤ 16777216 := by omega
        have hl4 : ((lk : Int) != 4) = true := bne_iff_ne.2 (by omega)
        clear hlkv hlk hrn0
        have HGG := Lib.hid hG
        have HIR := Lib.hid Ir
        clear hG Ir
        by_cases h2 : n - k < 2
        · have HFI : Hid (firstR (l.drop k) = (7, (0, 0, []), 0)) := Lib.hid (first_short (by rw [List.length_drop, hn]; omega))
          have f5 : decide ((n : Int) - (k : Int) < 2) = true := decide_eq_true (by omega)
          have he : splitD l = (7, [], 0) := split_err (by rw [hn, HSP.out]; unfold catS spR; rw [HFI.out]; rfl) (by decide)
          rw [HX.out] at he
          have hF : Hid (∀ W, wr.grownBy W none → RetSplit w x (.returned (.tuple #[.slice none 0 0, .int .i64 0, .int .i64 7])) W) := Lib.hid (fun W hW => by
            rw [he]; exact ⟨_, rfl, OwnR.nil _ _, grown_trans HGG.out hW⟩)
          clear he
          go_wp2_with fail
          go_ret3
          exact hF.out _ (grown_refl _ _)
        have f5 : decide ((n : Int) - (k : Int) < 2) = false := decide_eq_false (by omega)
        obtain ⟨a, rfl⟩ : ∃ a, s = some a := by
          rcases hl.1 with rfl | ⟨a, e, _⟩
          · simp at hn; omega
          · exact ⟨a, e⟩
        have HBL := Lib.hid (hl.kept HGG.out)
        have hx0 := HBL.out.get k (by omega)
        have hx1 := HBL.out.get (k + 1) (by omega)
        rw [show a.add (k + 1) = ⟨a.block, a.off + (k + 1), none⟩ from rfl] at hx1
        have hb0 := HBL.out.lt k
        have hb1 := HBL.out.lt (k + 1)
        have hNv : lenR (l.drop k) = l.getD k 0 * 256 + l.getD (k + 1) 0 := by
          unfold lenR
          rw [drop_getD, drop_getD]; rfl
        obtain ⟨x0, hx0e⟩ : ∃ y, l.getD k 0 = y := ⟨_, rfl⟩
        obtain ⟨x1, hx1e⟩ : ∃ y, l.getD (k + 1) 0 = y := ⟨_, rfl⟩
        rw [hx0e] at hx0 hb0 hNv
        rw [hx1e] at hx1 hb1 hNv
        obtain ⟨N, hN⟩ : ∃ N, lenR (l.drop k) = N := ⟨_, rfl⟩
        rw [hN] at hNv
        have HN := Lib.hid hN
        clear hN hx0e hx1e
        have q1 : IntKind.i64.wrap ((k : Int) + 1) = (k : Int) + 1 := IntWalk.i64_in _ (by omega)
        have q2 : (0 : Int) ≤ (k : Int) + 1 := by omega
        have q3 : (k : Int) + 1 < (n : Int) := by omega
        have q4 : (k : Int) < (n : Int) := by omega
        have q5 : ((k : Int) + 1).toNat = k + 1 := by omega
        have q6 : IntKind.i64.wrap (256 * (x0 : Int)) = 256 * (x0 : Int) := IntWalk.i64_in _ (by omega)
        have q7 : IntKind.i64.wrap (256 * (x0 : Int) + (x1 : Int)) = (N : Int) := by rw [IntWalk.i64_in _ (by omega)]; omega
        have hNb : N < 65536 := by omega
        clear hNv
        go_wp2_with fail
        go_quiet (fail)
        have gz := grown_drewN wr nq none
        have HZG := Lib.hid (grown_trans HGG.out gz)
        have HZI := Lib.hid (HIR.out.kept gz)
        have HZB := Lib.hid (HBL.out.kept gz)
        replace hF0 := Lib.hid gz
        clear gz q1 q2 q3 q4 q5 q6 q7 hx0 hx1 hb0 hb1
        generalize wr.drewN nq = wz at *
        by_cases h3 : N < 4 ∨ N % 2 = 1
        · have HFI : Hid (firstR (l.drop k) = (3, (0, 0, []), 0)) := Lib.hid (first_form (by rw [List.length_drop, hn]; omega) (by rw [HN.out]; exact h3))
          have ht : (decide ((N : Int) < 4) || ((N : Int) % 2 == 1)) = true := by
            rcases h3 with h | h
            · rw [decide_eq_true (by omega)]; rfl
            · rw [show ((N : Int) % 2 == 1) = true from beq_iff_eq.2 (by omega), Bool.or_true]
          have he : splitD l = (3, [], 0) := split_err (by rw [hn, HSP.out]; unfold catS spR; rw [HFI.out]; rfl) (by decide)
          rw [HX.out] at he
          have hF : Hid (∀ W, wr.grownBy W none → RetSplit w x (.returned (.tuple #[.slice none 0 0, .int .i64 0, .int .i64 3])) W) := Lib.hid (fun W hW => by
            rw [he]; exact ⟨_, rfl, OwnR.nil _ _, grown_trans HGG.out hW⟩)
          clear he
          go_wp2_with fail
          all_goals (
            go_ret3
            exact hF.out _ hF0.out)
        have ht : (decide ((N : Int) < 4) || ((N : Int) % 2 == 1)) = false := by
          rw [decide_eq_false (by omega), show ((N : Int) % 2 == 1) = false from beq_eq_false_iff_ne.2 (by omega)]; rfl
        by_cases h5 : n - k < N
        · have HFI : Hid (firstR (l.drop k) = (7, (0, 0, []), 0)) := Lib.hid (first_less (by rw [List.length_drop, hn]; omega) (by rw [HN.out]; exact h3) (by rw [HN.out, List.length_drop, hn]; exact h5))
          have f6 : decide ((n : Int) - (k : Int) < (N : Int)) = true := decide_eq_true (by omega)
          have he : splitD l = (7, [], 0) := split_err (by rw [hn, HSP.out]; unfold catS spR; rw [HFI.out]; rfl) (by decide)
          rw [HX.out] at he
          have hF : Hid (∀ W, wr.grownBy W none → RetSplit w x (.returned (.tuple #[.slice none 0 0, .int .i64 0, .int .i64 7])) W) := Lib.hid (fun W hW => by
            rw [he]; exact ⟨_, rfl, OwnR.nil _ _, grown_trans HGG.out hW⟩)
          clear he
          go_wp2_with fail
          go_ret3
          exact hF.out _ hF0.out
        have f6 : decide ((n : Int) - (k : Int) < (N : Int)) = false := decide_eq_false (by omega)
        have HFI : Hid (firstR (l.drop k) = (0, (l.getD (k + 2) 0, l.getD (k + 3) 0, ((l.drop (k + 4)).take (N - 4))), N)) := Lib.hid (by
          rw [first_ok (by rw [List.length_drop, hn]; omega) (by rw [HN.out]; exact h3) (by rw [HN.out, List.length_drop, hn]; omega), HN.out, drop_getD, drop_getD, List.drop_drop])
        have hx2 := HZB.out.get (k + 2) (by omega)
        have ho2 := hl.get (k + 2) (by omega)
        have ho3 := hl.get (k + 3) (by omega)
        rw [show a.add (k + 2) = ⟨a.block, a.off + (k + 2), none⟩ from rfl] at ho2
        rw [show a.add (k + 3) = ⟨a.block, a.off + (k + 3), none⟩ from rfl] at ho3
        have hx3 := HZB.out.get (k + 3) (by omega)
        rw [show a.add (k + 2) = ⟨a.block, a.off + (k + 2), none⟩ from rfl] at hx2
        rw [show a.add (k + 3) = ⟨a.block, a.off + (k + 3), none⟩ from rfl] at hx3
        obtain ⟨kd, hkd⟩ : ∃ y, l.getD (k + 2) 0 = y := ⟨_, rfl⟩
        obtain ⟨dt, hdt⟩ : ∃ y, l.getD (k + 3) 0 = y := ⟨_, rfl⟩
        obtain ⟨bd, hbd⟩ : ∃ y, (l.drop (k + 4)).take (N - 4) = y := ⟨_, rfl⟩
        rw [hkd, hdt, hbd] at HFI
        rw [hkd] at hx2 ho2
        rw [hdt] at hx3 ho3
        have HO2 := Lib.hid ho2
        have HO3 := Lib.hid ho3
        clear ho2 ho3
        have hbl : bd.length = N - 4 := by rw [← hbd, List.length_take, List.length_drop]; omega
        have hBD : BySl wz (some (a.add (k + 4))) bd := by rw [← hbd]; exact (HZB.out.drop (k + 4)).take _
        obtain ⟨pp, hp, hpl⟩ : ∃ pp : Addr, (if cap = k + 4 then some a else some ⟨a.block, a.off + (k + 4), none⟩) = some pp ∧ BySl wz (some pp) bd := cut_some hBD (fun e => List.length_eq_zero_iff.1 (by omega))
        have HPL := Lib.hid hpl
        have HBN := Lib.hid hbl
        clear hpl hBD hkd hdt hbd hbl
        have q1 : IntKind.i64.wrap ((k : Int) + 2) = (k : Int) + 2 := IntWalk.i64_in _ (by omega)
        have q2 : (0 : Int) ≤ (k : Int) + 2 := by omega
        have q3 : (k : Int) + 2 < (n : Int) := by omega
        have q4 : ((k : Int) + 2).toNat = k + 2 := by omega
        have r1 : IntKind.i64.wrap ((k : Int) + 3) = (k : Int) + 3 := IntWalk.i64_in _ (by omega)
        have r2 : (0 : Int) ≤ (k : Int) + 3 := by omega
        have r3 : (k : Int) + 3 < (n : Int) := by omega
        have r4 : ((k : Int) + 3).toNat = k + 3 := by omega
        have s1 : IntKind.i64.wrap ((k : Int) + 4) = (k : Int) + 4 := IntWalk.i64_in _ (by omega)
        have s2 : (0 : Int) ≤ (k : Int) + 4 := by omega
        have s3 : (k : Int) + 4 ≤ (k : Int) + (N : Int) := by omega
        have s4 : ((k : Int) + 4).toNat = k + 4 := by omega
        have t1 : IntKind.i64.wrap ((k : Int) + (N : Int)) = (k : Int) + (N : Int) := IntWalk.i64_in _ (by omega)
        have t2 : (k : Int) + (N : Int) ≤ (cap : Int) := by omega
        have t3 : (k : Int) + (N : Int) ≤ (n : Int) := by omega
        have t4 : ((k : Int) + (N : Int)).toNat = k + N := by omega
        have t5 : k + N - (k + 4) = N - 4 := by omega
        go_wp2_with fail
        obtain ⟨xs, hown, hrl, hone, hxs⟩ := HZI.out
        have HOWN := Lib.hid hown
        have HXS := Lib.hid hxs
        have HO1 := Lib.hid hone
        have HR1 : Hid (∀ u ∈ bvs bd, u.oneCell' = true) := Lib.hid (bvs_one bd)
        have HLN : Hid ((bvs bd).length = (N - 4) * 1) := Lib.hid (by rw [bvs_len, HBN.out, Nat.mul_one])
        have HB0 : Hid (w.heap.size ≤ wz.heap.size) := Lib.hid HZG.out.size
        have HM1 : Hid (0 + (N - 4) ≤ maxLen) := Lib.hid (by unfold maxLen; omega)
        have HM2 : Hid ((0 + (N - 4)) * 1 ≤ 140737488355328) := Lib.hid (by omega)
        have HM3 : Hid ((j + 1) + 1 ≤ maxLen) := Lib.hid (by unfold maxLen; omega)
        have HM4 : Hid (((j + 1) + 1) * 32 ≤ 140737488355328) := Lib.hid (by omega)
        clear hown hrl hone hxs
        go_region_held3 (fun w' => w'.cell? ⟨a.block, a.off + (k + 2), none⟩ = some (.int .u8 (kd : Int)) ∧ w'.cell? ⟨a.block, a.off + (k + 3), none⟩ = some (.int .u8 (dt : Int)))
          (first | assumption | exact ⟨hx2, hx3⟩ | go_keep)
          (first
            | (refine step_own_some rfl (.tmp 67) (.tmp 74) 22 rfl w.heap.size 5 i2 (.int .u8 0) 1 1 Try.underlying22 hi2 hy0 hy1 hy2 rfl (by decide) (.slice (some ⟨wz.heap.size, 0, none⟩) 0 0) 0 [] rfl (own_drew (own_mt HB0.out)) pp (N - 4) _ (bvs bd) rfl HLN.out (HPL.out.newsK (grown_drew (World.grownBy_alloc wz _ none))) HR1.out HM1.out HM2.out (Nat.le_trans HB0.out (grown_drew (World.grownBy_alloc wz _ none)).size) (Or.inl (by simp)) (N - 4) (Nat.zero_add _) ?_; intro g cb w1 hown1 hgrow1 hgb hcb hmb; have hg9 : wz.grownBy w1 none := grown_new (g := wz.heap.size) (grown_drew (World.grownBy_alloc wz _ none)) hgrow1 (Nat.le_refl _); have HG1 := Lib.hid hg9; have hx2 := hg9.cell hx2 (by simp); have hx3 := hg9.cell hx3 (by simp); have HBK := Lib.hid (own_blk hown1 HBN.out HPL.out.2); clear hown1 hgrow1 hg9)
            | (refine step_own_some rfl (.tmp 56) (.tmp 77) 24 rfl w.heap.size 45 i1 (.agg #[.int .u8 0, .int .u8 0, .slice none 0 0]) 3 32 Try.underlying24 hi hz0 hz1 hz2 rfl (by decide) _ (j + 1) xs rfl (ownR_kept HOWN.out (grown_alloc HG1.out _)) ⟨w1.heap.size, 0, none⟩ 1 1 [.int .u8 (kd : Int), .int .u8 (dt : Int), .slice (some ⟨g, 0, none⟩) (N - 4) cb] rfl rfl (World.news_of_block (cs := #[.int .u8 (kd : Int), .int .u8 (dt : Int), .slice (some ⟨g, 0, none⟩) (N - 4) cb]) (heap_new w1 _ _ rfl)) (by simp [Value.oneCell']) HM3.out HM4.out (Nat.le_trans HB0.out (grown_alloc HG1.out _).size) (Or.inr (by decide)) ((j + 1) + 1) rfl ?_; intro g2 c2 w2 hown2 hgrow2 hgb2 hcb2 hmb2; have hown3 : w2.ownsRow w.heap.size 45 3 (.slice (some ⟨g2, 0, none⟩) ((j + 1) + 1) c2) ((j + 1) + 1) (xs ++ [.int .u8 (((kd, dt, bd) : KRec).1 : Int), .int .u8 (((kd, dt, bd) : KRec).2.1 : Int), .slice (some ⟨g, 0, none⟩) ((kd, dt, bd) : KRec).2.2.length cb]) := (by show w2.ownsRow _ _ _ _ _ (xs ++ [.int .u8 (kd : Int), .int .u8 (dt : Int), .slice (some ⟨g, 0, none⟩) bd.length cb]); rw [HBN.out]; exact hown2); have HG3 := Lib.hid (grown_row (w := w) (grown_trans HZG.out (grown_alloc HG1.out (.cells #[.int .u8 (kd : Int), .int .u8 (dt : Int), .slice (some ⟨g, 0, none⟩) (N - 4) cb] 45))) (ownR_kept HOWN.out (grown_alloc HG1.out (.cells #[.int .u8 (kd : Int), .int .u8 (dt : Int), .slice (some ⟨g, 0, none⟩) (N - 4) cb] 45))) hgrow2 (Nat.le_refl _)); have hx2 := HG3.out.cell HO2.out (by simp); have hx3 := HG3.out.cell HO3.out (by simp); have HI3 := Lib.hid (OwnR.mk (W := w1.alloc (.cells #[.int .u8 (kd : Int), .int .u8 (dt : Int), .slice (some ⟨g, 0, none⟩) (N - 4) cb] 45)) (ownR_kept HOWN.out (grown_alloc HG1.out (.cells #[.int .u8 (kd : Int), .int .u8 (dt : Int), .slice (some ⟨g, 0, none⟩) (N - 4) cb] 45))) hgrow2 hown3 HRN.out HO1.out (fun i h => (HXS.out i h).imp fun g' h' => h'.imp fun c' h'' => ⟨h''.1, h''.2.1, h''.2.2.1, h''.2.2.2.1, h''.2.2.2.2.1.kept (grown_alloc HG1.out (.cells #[.int .u8 (kd : Int), .int .u8 (dt : Int), .slice (some ⟨g, 0, none⟩) (N - 4) cb] 45)), h''.2.2.2.2.2⟩) hgb (HBK.out.kept (World.grownBy_alloc w1 (.cells #[.int .u8 (kd : Int), .int .u8 (dt : Int), .slice (some ⟨g, 0, none⟩) (N - 4) cb] 45) none)) (by show bd.length ≤ cb; rw [HBN.out]; exact hcb) hmb); clear hown2 hown3 hgrow2))
        clear q1 q2 q3 q4 r1 r2 r3 r4 s1 s2 s3 s4
        have hml2 := first_len (l.drop k)
        rw [HFI.out, List.length_drop, hn] at hml2
        obtain ⟨f', rfl⟩ : ∃ f', f = f' + 1 := ⟨f - 1, by omega⟩
        have HM0 := Lib.hid (sp_more HSP.out)
        have HLA := Lib.hid (sp_last HSP.out)
        rw [HFI.out] at HM0 HLA
        go_wp2_with fail
        go_roundg (n - (k + N) + (if decide (kd = 4) then 0 else 1))
        case measure =>
          have hgh' : n - k + 1 ≤ gk := hgh
          split <;> omega
        case rel => exact ⟨k + N, f', rs ++ [(kd, dt, bd)], decide (kd = 4), by omega, Nat.le_refl _, by omega, by rw [List.length_append, HRN.out]; show 4 * ((j + 1) + 1) ≤ _; omega, rfl, by rw [List.length_append, HRN.out]; exact HI3.out, Lib.hid (fun e => ⟨Or.inr (by rw [lastK_snoc]; exact of_decide_eq_false e), by rw [← List.drop_drop]; exact HM0.out trivial (of_decide_eq_false e)⟩), Lib.hid (fun e => ⟨by rw [List.length_append]; exact Nat.succ_pos _, by rw [lastK_snoc]; exact of_decide_eq_true e, HLA.out trivial (of_decide_eq_true e)⟩), HG3.out⟩
end Go.Proofs.Ytcioefmldcmhgaa
namespace Go.Proofs.Ytcioefmldcmhgaa
open Go.RowKit
set_option maxRecDepth 100000
set_option linter.unusedVariables false
set_option linter.unusedSimpArgs false

theorem treeD_nil : treeD [] = none := by kernel_rfl
set_option maxHeartbeats 16000000 in
theorem RTree_none (w : World) : Calls Try.prog 32 #[.slice none 0 0] w (RetTree w (treeD [])) := by
  have g1 := World.grownBy_alloc w (.cells #[.slice none 0 0, .slice none 0 0] 27) none
  have b1 := heap_new w (.cells #[.slice none 0 0, .slice none 0 0] 27) w.heap.size rfl
  have g2 := World.grownBy_alloc (w.alloc (.cells #[.slice none 0 0, .slice none 0 0] 27)) (.cells #[.slice none 0 0, .slice none 0 0] 27) none
  have b2 := heap_new (w.alloc (.cells #[.slice none 0 0, .slice none 0 0] 27)) (.cells #[.slice none 0 0, .slice none 0 0] 27) (w.heap.size + 1) (by simp)
  have HTS := Lib.hid (show TS w ((w.alloc (.cells #[.slice none 0 0, .slice none 0 0] 27)).alloc (.cells #[.slice none 0 0, .slice none 0 0] 27)) (.slice none 0 0) (.slice none 0 0) [] [] from ⟨grown_trans g1 g2, heap_kept g2 b1, b2, Or.inl ⟨rfl, rfl⟩, OwnP.nil _ _⟩)
  have hszb : ((w.alloc (.cells #[.slice none 0 0, .slice none 0 0] 27)).alloc (.cells #[.slice none 0 0, .slice none 0 0] 27)).heap.size = w.heap.size + 1 + 1 := by simp
  clear g1 b1 g2 b2
  have i0 : InS (((w.alloc (.cells #[.slice none 0 0, .slice none 0 0] 27)).alloc (.cells #[.slice none 0 0, .slice none 0 0] 27)).alloc (.cells #[.int .i64 0, .int .i64 1, .int .i64 1057, .int .i64 1058, .int .i64 1059, .int .i64 2, .int .i64 1031, .int .i64 1032, .int .i64 1035, .int .i64 1034, .int .i64 1054] 3)) (some ⟨((w.alloc (.cells #[.slice none 0 0, .slice none 0 0] 27)).alloc (.cells #[.slice none 0 0, .slice none 0 0] 27)).heap.size, 0, none⟩) [0, 1, 1057, 1058, 1059, 2, 1031, 1032, 1035, 1034, 1054] := ins_lit _ [0, 1, 1057, 1058, 1059, 2, 1031, 1032, 1035, 1034, 1054]
  rw [hszb] at i0
  clear hszb
  have I0 := Lib.hid i0
  have G0 := Lib.hid (World.grownBy_alloc ((w.alloc (.cells #[.slice none 0 0, .slice none 0 0] 27)).alloc (.cells #[.slice none 0 0, .slice none 0 0] 27)) (.cells #[.int .i64 0, .int .i64 1, .int .i64 1057, .int .i64 1058, .int .i64 1059, .int .i64 2, .int .i64 1031, .int .i64 1032, .int .i64 1035, .int .i64 1034, .int .i64 1054] 3) none)
  clear i0
  go_enter Try.func32, Try.ntmps32
  go_wp2_with fail
  refine (RFit_any _ none _ 0 0 0 11 11 [] [0, 1, 1057, 1058, 1059, 2, 1031, 1032, 1035, 1034, 1054] rfl (fun i hi => by simp at hi) Small.nil (Nat.le_refl _) (by decide) I0.out rfl (by decide) (by decide)).mono ?_
  rintro e w1 ⟨rfl, hg1⟩
  have HT1 := Lib.hid (HTS.out.kept (grown_trans G0.out hg1))
  clear hg1 HTS I0 G0
  rw [show fitD [0, 1, 1057, 1058, 1059, 2, 1031, 1032, 1035, 1034, 1054] (([] : List KRec).drop 0) = -1 from rfl]
  have hput := HT1.out.put (.slice none 0 0) (.slice none 0 0)
  have hF : Hid (RetTree w (treeD []) (.returned (.tuple #[.agg #[.slice none 0 0, .slice none 0 0], .bool false])) ((w1.setCell ⟨w.heap.size, 0, none⟩ (.slice none 0 0)).setCell ⟨w.heap.size, 1, none⟩ (.slice none 0 0))) := Lib.hid (Or.inl ⟨treeD_nil, rfl, hput.1⟩)
  obtain ⟨D0, D1, _, _⟩ := box_cells2 hput.2
  obtain ⟨_, _, Fr0, Fr1⟩ := box_cells2 HT1.out.2.1
  obtain ⟨Ct0, Ct1, _, _⟩ := box_cells2 HT1.out.2.2.1
  clear hput
  go_wp2_with fail
  exact bodyPost_ret (v := .tuple #[.agg #[.slice none 0 0, .slice none 0 0], .bool false]) (by simp [results, Try.results32, go_sem, D0, D1]) rfl hF.out
theorem RTree_any (w : World) (s : Option Addr) (n cap : Nat) (rs : List KRec) (hn : rs.length = n) (hl : RcSl w s rs) (hz : s = none → n = 0 ∧ cap = 0) (hs : Small rs) (hb : BigR rs) (hcap : n ≤ cap) (hcm : cap ≤ 9223372036854775807) :
    Calls Try.prog 32 #[.slice s n cap] w (RetTree w (treeD rs)) := by
  cases s with
  | none =>
    obtain ⟨rfl, rfl⟩ := hz rfl
    obtain rfl : rs = [] := List.length_eq_zero_iff.1 hn
    exact RTree_none w
  | some a => exact RTree_some w a n cap rs hn hl hs hb hcap hcm
theorem first_bodyL (l : List Nat) : (firstR l).2.1.2.2.length ≤ l.length := by
  unfold firstR; repeat' split
  all_goals (first | (exact Nat.zero_le _) | (dsimp only; rw [List.length_take, List.length_drop]; omega))
theorem sp_body (f : Nat) : ∀ (l : List Nat), ∀ r ∈ (spR f l).2.1, r.2.2.length ≤ l.length := by
  induction f with
  | zero => intro l r h; cases h
  | succ f ih =>
    intro l r h
    unfold spR at h
    split at h
    · simp at h
    · split at h
      · simp at h; subst h; exact first_bodyL l
      · unfold catS at h
        split at h
        · rcases List.mem_append.1 h with h | h
          · simp at h; subst h; exact first_bodyL l
          · have := ih _ r h; rw [List.length_drop] at this; omega
        · simp at h
theorem split_big {l : List Nat} (h : l.length ≤ 16777216) : BigR (splitD l).2.1 := by
  refine ⟨by have := split_len4 l; omega, fun r hr => ?_⟩
  have key : r ∈ (spR (l.length + 1) l).2.1 := by
    unfold splitD at hr
    split at hr
    · exact hr
    · split at hr
      · exact hr
      · simp at hr
  have := sp_body _ l r key
  omega
theorem parse_tree {l : List Nat} (h : (splitD l).1 = 0) : parseD l = match treeD (splitD l).2.1 with | some t => (0, t, (splitD l).2.2) | none => (20, ([], []), 0) := by
  unfold parseD treeD
  rw [if_pos h]
  cases hl : libR (splitD l).2.1 with
  | none => rfl
  | some y =>
    obtain ⟨t, m⟩ := y
    obtain ⟨_, e⟩ := libR_is hl
    have hs : splitD l = (0, (splitD l).2.1, (splitD l).2.2) := by rw [← h]
    have hm : m = [] := endl_all (t := t) (by rw [← e]; exact split_endl hs)
    subst hm
    rfl
theorem parse_fail {l : List Nat} (h : (splitD l).1 ≠ 0 ∨ treeD (splitD l).2.1 = none) : parseD l = (20, ([], []), 0) := by
  by_cases h0 : (splitD l).1 = 0
  · rw [parse_tree h0, h.resolve_left (fun h => h h0)]
  · unfold parseD; rw [if_neg h0]
theorem OwnR.ok {W : World} {base n : Nat} {v : Value} {rs : List KRec} (h : OwnR W base v n rs) : ∃ s c, v = .slice s n c ∧ RcSl W s rs ∧ (s = none → n = 0 ∧ c = 0) ∧ n ≤ c ∧ c ≤ 9223372036854775807 := by
  have h9 := h
  obtain ⟨xs, ⟨_, ⟨rfl, e⟩ | ⟨g, cap, cur, rfl, _, _, h1, h2, _⟩⟩, h5, _⟩ := h
  · subst e
    obtain rfl : rs = [] := List.length_eq_zero_iff.1 h5
    exact ⟨none, 0, rfl, fun i hi => by simp at hi, fun _ => ⟨rfl, rfl⟩, Nat.le_refl _, by omega⟩
  · exact ⟨_, cap, rfl, h9.sl, (fun e => by cases e), h1, by unfold maxLen at h2; omega⟩
set_option maxHeartbeats 16000000 in
theorem RParse_any (w : World) (s : Option Addr) (n cap : Nat) (l : List Nat) (hn : l.length = n) (hl : BySl w s l) (hc : n ≤ cap) (hm : cap ≤ 9223372036854775807) (hlong : n ≤ 16777216) :
    Calls Try.prog 11 #[.slice s n cap] w (RetParse w (parseD l)) := by
  have HQ : Hid (∀ W v x, x = parseD l → LibT W v x.2.1 → w.grownBy W none → RetParse w (parseD l) (.returned (.tuple #[v, .int .i64 (x.2.2 : Int), .int .i64 (x.1 : Int)])) W) := Lib.hid (fun W v x hx hv hg => by subst hx; exact ⟨v, rfl, hv, hg⟩)
  obtain ⟨P, hP⟩ : ∃ P, RetParse w (parseD l) = P := ⟨_, rfl⟩
  rw [hP] at HQ ⊢
  have HPT := Lib.hid (parse_tree (l := l))
  have HPF := Lib.hid (parse_fail (l := l))
  have HSM := Lib.hid (split_small hl.2)
  have HBG := Lib.hid (split_big (l := l) (by omega))
  have HS := Lib.hid (RSplit_any (w.alloc (.cells #[.slice none 0 0, .slice none 0 0] 27)) s n cap l hn (hl.kept (World.grownBy_alloc _ _ none)) hc hm hlong)
  obtain ⟨⟨c, rs, k⟩, hx⟩ : ∃ x, splitD l = x := ⟨_, rfl⟩
  rw [hx] at HPT HPF HSM HBG HS
  dsimp only at HPT HPF HSM HBG
  have g1 := World.grownBy_alloc w (.cells #[.slice none 0 0, .slice none 0 0] 27) none
  have b1 := heap_new w (.cells #[.slice none 0 0, .slice none 0 0] 27) w.heap.size rfl
  have HG1 := Lib.hid g1
  have HB1 := Lib.hid b1
  clear hn hl hP hx hc hm hlong g1 b1
  go_enter Try.func11, Try.ntmps11
  go_wp2_with fail
  refine HS.out.mono ?_
  rintro e w1 ⟨v, rfl, ho, hg1⟩
  dsimp only at ho ⊢
  obtain ⟨sv, cv, rfl, hsl, hzz, hcc, hmm⟩ := ho.ok
  have HSL := Lib.hid hsl
  have HZZ := Lib.hid hzz
  have HG2 := Lib.hid (grown_trans HG1.out hg1)
  have HB2 := Lib.hid (heap_kept hg1 HB1.out)
  clear ho hsl hzz hg1 HS HG1 HB1
  go_wp2_with fail
  refine (RTree_any w1 sv rs.length cv rs rfl HSL.out HZZ.out HSM.out HBG.out hcc hmm).mono ?_
  rintro e w2 (⟨hT, rfl, hg2⟩ | ⟨t, a, b, hT, rfl, hlt, hg2⟩)
  · have gA := World.grownBy_alloc w2 (.cells #[.slice none 0 0, .slice none 0 0] 27) none
    have hg3 := grown_trans hg2 gA
    have hG := grown_trans HG2.out hg3
    have hB := heap_kept hg3 HB2.out
    obtain ⟨_, _, Fr0, Fr1⟩ := box_cells2 hB
    have hF := Lib.hid (HQ.out _ (.agg #[.slice none 0 0, .slice none 0 0]) (20, ([], []), 0) (HPF.out (Or.inr hT)).symm (LibT.nil _) (grown_put2 hG (Nat.le_refl w.heap.size) (.slice none 0 0) (.slice none 0 0)))
    obtain ⟨D0, D1, _, _⟩ := box_cells2 (heap_set2 hB (.slice none 0 0) (.slice none 0 0))
    clear hT hg2 gA hg3 hG hB
    by_cases hc0 : c = 0
    · have q1 : ((c : Int) != 0) = false := by rw [hc0]; rfl
      clear hc0
      go_wp2_with fail
      exact bodyPost_ret (v := .tuple #[.agg #[.slice none 0 0, .slice none 0 0], .int .i64 0, .int .i64 20]) (by simp [results, Try.results11, go_sem, D0, D1]) rfl hF.out
    · have q1 : ((c : Int) != 0) = true := bne_iff_ne.2 (by omega)
      clear hc0
      go_wp2_with fail
      exact bodyPost_ret (v := .tuple #[.agg #[.slice none 0 0, .slice none 0 0], .int .i64 0, .int .i64 20]) (by simp [results, Try.results11, go_sem, D0, D1]) rfl hF.out
  · obtain ⟨sa, ca, sb, cb, hab⟩ := hlt.v.two
    injection hab with hab
    injection hab with hab
    simp only [List.cons.injEq, and_true] at hab
    obtain ⟨rfl, rfl⟩ := hab
    have gA := World.grownBy_alloc w2 (.cells #[.slice sa t.1.length ca, .slice sb t.2.length cb] 27) none
    have Bt := heap_new w2 (.cells #[.slice sa t.1.length ca, .slice sb t.2.length cb] 27) w2.heap.size rfl
    have hg3 := grown_trans hg2 gA
    have hG := grown_trans HG2.out hg3
    have hB := heap_kept hg3 HB2.out
    obtain ⟨_, _, Fr0, Fr1⟩ := box_cells2 hB
    obtain ⟨Ct0, Ct1, _, _⟩ := box_cells2 Bt
    by_cases hc0 : c = 0
    · have q1 : ((c : Int) != 0) = false := by rw [hc0]; rfl
      have gp := grown_put2b (W := w2.alloc (.cells #[.slice sa t.1.length ca, .slice sb t.2.length cb] 27)) (g := w.heap.size) (.slice sa t.1.length ca) (.slice sb t.2.length cb)
      have hF := Lib.hid (HQ.out _ (.agg #[.slice sa t.1.length ca, .slice sb t.2.length cb]) (0, t, k) (by rw [HPT.out hc0, hT]) ((hlt.kept gA).off gp hB (by decide) (by decide) (by decide) (by decide)) (grown_put2 hG (Nat.le_refl w.heap.size) (.slice sa t.1.length ca) (.slice sb t.2.length cb)))
      obtain ⟨D0, D1, _, _⟩ := box_cells2 (heap_set2 hB (.slice sa t.1.length ca) (.slice sb t.2.length cb))
      clear hT hg2 gA hg3 hG hB gp hlt Bt hc0
      go_wp2_with fail
      exact bodyPost_ret (v := .tuple #[.agg #[.slice sa t.1.length ca, .slice sb t.2.length cb], .int .i64 (k : Int), .int .i64 0]) (by simp [results, Try.results11, go_sem, D0, D1]) rfl hF.out
    · have q1 : ((c : Int) != 0) = true := bne_iff_ne.2 (by omega)
      have hF := Lib.hid (HQ.out _ (.agg #[.slice none 0 0, .slice none 0 0]) (20, ([], []), 0) (HPF.out (Or.inl hc0)).symm (LibT.nil _) (grown_put2 hG (Nat.le_refl w.heap.size) (.slice none 0 0) (.slice none 0 0)))
      obtain ⟨D0, D1, _, _⟩ := box_cells2 (heap_set2 hB (.slice none 0 0) (.slice none 0 0))
      clear hT hg2 gA hg3 hG hB hlt Bt hc0
      go_wp2_with fail
      exact bodyPost_ret (v := .tuple #[.agg #[.slice none 0 0, .slice none 0 0], .int .i64 0, .int .i64 20]) (by simp [results, Try.results11, go_sem, D0, D1]) rfl hF.out
end Go.Proofs.Ytcioefmldcmhgaa
