/- Records: the document's Join. -/
import Derived.Test.YteienakimdpfhaaKJoin
namespace Go.Proofs.Yteienakimdpfhaa
open Go.RowKit
set_option maxRecDepth 100000
set_option linter.unusedVariables false
set_option linter.unusedSimpArgs false

def JoinP (w : World) (rs : List KRec) : Ending → World → Prop := RetJoin w (joinD rs)
set_option maxHeartbeats 32000000 in
theorem RJoin_any (w : World) (s : Option Addr) (n cap : Nat) (rs : List KRec) (hn : rs.length = n) (hl : RcSl w s rs) (hk : ∀ r ∈ rs, r.1 < 256 ∧ r.2.1 < 256) (hb : (joinB rs).length ≤ 1099511627776) (hm : n ≤ 9223372036854775807) :
    Calls Try.prog 18 #[.slice s n cap] w (RetJoin w (joinD rs)) := by
  obtain ⟨i1, hi, hz0, hz1, hz2⟩ := info_partsU
  have HR := Lib.hid hl
  have HN := Lib.hid hn
  have HK := Lib.hid hk
  have HB := Lib.hid hb
  have HQ : Hid (∀ x, x = joinD rs → ∀ W v, OwnB W w.heap.size v x.2 → w.grownBy W none → RetJoin w (joinD rs) (.returned (.tuple #[v, .int .i64 (x.1 : Int)])) W) := Lib.hid (fun x hx W v h1 h2 => by rw [← hx]; exact ⟨v, rfl, h1, h2⟩)
  obtain ⟨P, hP⟩ : ∃ P, RetJoin w (joinD rs) = P := ⟨_, rfl⟩
  rw [hP] at HQ ⊢
  clear hP hl hn hk hb
  have hG : w.grownBy w none := grown_refl _ _
  go_enter Try.func18, Try.ntmps18
  go_wp2_with fail
  go_loopg [4] n (fun gh i wr => ∃ k : Nat, k ≤ n ∧ n - k ≤ gh ∧ i = .int .i64 (k : Int) ∧ Hid (∀ j (hj : j < rs.length), j < k → okR rs[j]) ∧ w = wr)
  case atStart => exact ⟨0, Nat.zero_le _, Nat.le_refl _, rfl, Lib.hid (fun j _ h => by omega), rfl⟩
  case round =>
    obtain ⟨k, hk, hgh, rfl, HOK, rfl⟩ := hrel
    by_cases hlt : k < n
    · have f1 : decide ((k : Int) < (n : Int)) = true := decide_eq_true (by omega)
      have hkr : k < rs.length := by rw [HN.out]; exact hlt
      obtain ⟨a, q, sb, cb, kd, dt, bd, rfl, hq, hr, A0, A1, A2, HBY, hz, hcb, hmb⟩ := HR.out.at k hkr
      have HOKR : Hid (okR rs[k] ↔ (bd.length % 2 = 0 ∧ bd.length ≤ 65530)) := Lib.hid (by rw [hr]; exact Iff.rfl)
      clear hr HBY
      have q1 := tmod_nat bd.length 2
      have q2 : ((bd.length : Int) % 2) = ((bd.length % 2 : Nat) : Int) := by omega
      obtain ⟨R, hR⟩ : ∃ R, bd.length % 2 = R := ⟨_, rfl⟩
      have HRE := Lib.hid hR
      rw [hR] at q1 q2
      by_cases hodd : R = 1
      · have f2 : ((R : Int) == 1) = true := beq_iff_eq.2 (by omega)
        have hF := Lib.hid (HQ.out (3, []) (joinD_at hkr (fun h => by have := HOKR.out.1 h; have := HRE.out; omega)).symm w (.slice none 0 0) (OwnB.nil _ _) (grown_refl _ _))
        clear hR hodd
        go_wp2_with fail
        exact hF.out
      · have f2 : ((R : Int) == 1) = false := beq_eq_false_iff_ne.2 (by omega)
        by_cases hbig : 65530 < bd.length
        · have f3 : decide ((65530 : Int) < (bd.length : Int)) = true := decide_eq_true (by omega)
          have hF := Lib.hid (HQ.out (3, []) (joinD_at hkr (fun h => by have := HOKR.out.1 h; omega)).symm w (.slice none 0 0) (OwnB.nil _ _) (grown_refl _ _))
          clear hR hodd hbig
          go_wp2_with fail
          exact hF.out
        · have f3 : decide ((65530 : Int) < (bd.length : Int)) = false := decide_eq_false (by omega)
          have HOK2 : Hid (okR rs[k]) := Lib.hid (HOKR.out.2 (by omega))
          clear hR hodd hbig
          go_wp2_with fail
          go_roundg (n - (k + 1))
          case measure => omega
          case rel => exact ⟨k + 1, by omega, Nat.le_refl _, by go_num, Lib.hid (fun j hj h => by
              rcases Nat.lt_or_ge j k with h2 | h2
              · exact HOK.out j hj h2
              · obtain rfl : j = k := by omega
                exact HOK2.out), rfl⟩
    · have f1 : decide ((k : Int) < (n : Int)) = false := decide_eq_false (by omega)
      have HALL : Hid (∀ j (hj : j < rs.length), okR rs[j]) := Lib.hid (fun j hj => HOK.out j hj (by have := HN.out; omega))
      clear HOK hgh
      have hG : w.grownBy w none := grown_refl _ _
      go_wp2_with fail
      go_loopg [5, 6, 7] n (fun gh v i lst wr => ∃ k : Nat, k ≤ n ∧ n - k ≤ gh ∧ i = .int .i64 (k : Int) ∧ OwnB wr w.heap.size v (joinB (rs.take k)) ∧ w.grownBy wr none)
      case atStart => exact ⟨0, Nat.zero_le _, Nat.le_refl _, rfl, OwnB.nil _ _, hG⟩
      case round =>
        clear hG
        obtain ⟨k, hk, hgh, rfl, hO, hG⟩ := hrel
        by_cases hlt : k < n
        · have f1 : decide ((k : Int) < (n : Int)) = true := decide_eq_true (by omega)
          have hkr : k < rs.length := by rw [HN.out]; exact hlt
          obtain ⟨a, q, sb, cb, kd, dt, bd, rfl, hq, hr, A0, A1, A2, HBY, hz, hcb, hmb⟩ := HR.out.at k hkr
          have HOKR : Hid (okR rs[k] ↔ (bd.length % 2 = 0 ∧ bd.length ≤ 65530)) := Lib.hid (by rw [hr]; exact Iff.rfl)
          have hlb : bd.length ≤ 65530 := (HOKR.out.1 (HALL.out k hkr)).2
          have hk2 := HK.out _ (List.getElem_mem hkr)
          rw [hr] at hk2
          dsimp only at hk2
          obtain ⟨hkd, hdt⟩ := hk2
          have HAA := Lib.hid (And.intro A0 (And.intro A1 A2))
          replace A0 := hG.cell A0 (by simp)
          replace A1 := hG.cell A1 (by simp)
          replace A2 := hG.cell A2 (by simp)
          have HY := Lib.hid HBY
          have HG := Lib.hid hG
          have HO := Lib.hid hO
          obtain ⟨s0, c0, hv, _, _, _, _⟩ := hO.shape
          have hlen1 : (joinB (rs.take k)).length + 4 + bd.length ≤ 1099511627776 := by
            have h1 := joinB_take rs k hkr
            have h2 := joinB_len_take rs (k + 1)
            have h3 : (recB (kd, dt, bd)).length = bd.length + 4 := recB_len _
            rw [h1, List.length_append, hr, h3] at h2
            have := HB.out
            omega
          have HTK : Hid (joinB (rs.take (k + 1)) = joinB (rs.take k) ++ recB (kd, dt, bd)) := Lib.hid (by rw [joinB_take rs k hkr, hr])
          obtain ⟨L, hL⟩ : ∃ L, joinB (rs.take k) = L := ⟨_, rfl⟩
          rw [hL] at HO hv hlen1 HTK
          subst hv
          clear hr HBY hG hO hL
          obtain ⟨y0, hy0⟩ : ∃ y, (bd.length + 4) / 256 = y := ⟨_, rfl⟩
          obtain ⟨y1, hy1⟩ : ∃ y, (bd.length + 4) % 256 = y := ⟨_, rfl⟩
          have u0 : IntKind.i64.wrap ((bd.length : Int) + 4) = (bd.length : Int) + 4 := IntWalk.i64_in _ (by omega)
          have u1 : IntKind.i64.wrap (((bd.length : Int) + 4).tdiv 256) = (y0 : Int) := by
            rw [show (bd.length : Int) + 4 = ((bd.length + 4 : Nat) : Int) from by omega]
            rw [show (256 : Int) = ((256 : Nat) : Int) from rfl, ← Int.ofNat_tdiv, hy0]
            exact IntWalk.i64_in _ (by omega)
          have u2 : ((bd.length : Int) + 4).tmod 256 = (y1 : Int) := by
            rw [show (bd.length : Int) + 4 = ((bd.length + 4 : Nat) : Int) from by omega]
            have := tmod_nat (bd.length + 4) 256
            rw [hy1] at this
            exact this
          have u3 : ((bd.length : Int) + 4) / 256 = (y0 : Int) := by omega
          have u4 : ((bd.length : Int) + 4) % 256 = (y1 : Int) := by omega
          have u5 : IntKind.u8.wrap (y0 : Int) = (y0 : Int) := IntWalk.u8_in _ (by omega)
          have u6 : IntKind.u8.wrap (y1 : Int) = (y1 : Int) := IntWalk.u8_in _ (by omega)
          have u7 : (k : Int) < (n : Int) := by omega
          have HREC : Hid (recB (kd, dt, bd) = [y0, y1, kd, dt] ++ bd) := Lib.hid (by unfold recB; rw [hy0, hy1])
          have HY4 : Hid (∀ x ∈ [y0, y1, kd, dt], x < 256) := Lib.hid (by intro x hx; simp at hx; omega)
          clear hy0 hy1
          go_wp2_with fail
          have HOWN := Lib.hid HO.out.1
          have HL8 := Lib.hid HO.out.2
          have HB63 : Hid (L.length + 4 ≤ maxLen) := Lib.hid (by unfold maxLen; omega)
          have HBT : Hid ((L.length + 4) * 1 ≤ 140737488355328) := Lib.hid (by omega)
          have HBW : Hid (w.heap.size ≤ wr.heap.size) := Lib.hid HG.out.size
          have HGB : Hid (∀ W, wr.grownBy W none → w.grownBy W none) := Lib.hid (fun W h => grown_trans HG.out h)
          go_region_held3 (fun w' => w'.cell? q = some (.int .u8 (kd : Int)) ∧ w'.cell? ⟨q.block, q.off + 1, none⟩ = some (.int .u8 (dt : Int)))
            (first | assumption | exact ⟨A0, A1⟩ | go_keep)
            (first
              | (refine step_own_some rfl (.tmp 44) (.tmp 61) 22 rfl w.heap.size 5 i1 (.int .u8 0) 1 1 Try.underlying22 hi hz0 hz1 hz2 rfl (by decide) (.slice s0 L.length c0) L.length (bvs L) rfl (by first | exact own_kept HOWN.out (grown_drew (grown_alloc (grown_refl _ _) _)) | exact own_kept HOWN.out (grown_alloc (grown_drew (grown_refl _ _)) _) | exact own_kept HOWN.out (grown_alloc (grown_refl _ _) _)) ⟨wr.heap.size, 0, none⟩ 4 4 (bvs [y0, y1, kd, dt]) rfl rfl (World.news_of_block (cs := #[.int .u8 (y0 : Int), .int .u8 (y1 : Int), .int .u8 (kd : Int), .int .u8 (dt : Int)]) (heap_new wr _ _ rfl)) (bvs_one _) HB63.out HBT.out (by first | exact Nat.le_trans HBW.out (grown_drew (grown_alloc (grown_refl _ none) _)).size | exact Nat.le_trans HBW.out (grown_alloc (grown_drew (grown_refl _ none)) _).size | exact Nat.le_trans HBW.out (grown_alloc (grown_refl _ none) _).size) (Or.inr (by decide)) _ rfl ?_; intro g1 c1 w1 hown1 hgrow1 hb1 hc1 hm1; have HG1 := Lib.hid (grown_own (by first | exact HGB.out _ (grown_drew (grown_alloc (grown_refl _ _) _)) | exact HGB.out _ (grown_alloc (grown_drew (grown_refl _ _)) _) | exact HGB.out _ (grown_alloc (grown_refl _ _) _)) (by first | exact own_kept HOWN.out (grown_drew (grown_alloc (grown_refl _ _) _)) | exact own_kept HOWN.out (grown_alloc (grown_drew (grown_refl _ _)) _) | exact own_kept HOWN.out (grown_alloc (grown_refl _ _) _)) hgrow1 (Nat.le_refl _)); have HO1 := Lib.hid (OwnB.of (m := [y0, y1, kd, dt]) hown1 rfl HL8.out HY4.out); have A0 := HG1.out.cell HAA.out.1 (by simp); have A1 := HG1.out.cell HAA.out.2.1 (by simp); have A2 := HG1.out.cell HAA.out.2.2 (by simp); clear hown1 hgrow1))
          have HLN : Hid ((L ++ [y0, y1, kd, dt]).length = L.length + 4) := Lib.hid (by simp)
          have HOWN1 : Hid (w1.ownsRow w.heap.size 5 1 (.slice (some ⟨g1, 0, none⟩) (L.length + 4) c1) (L.length + 4) (bvs (L ++ [y0, y1, kd, dt]))) := Lib.hid (by
            have := HO1.out.1
            rwa [HLN.out] at this)
          have HB63b : Hid (L.length + 4 + bd.length ≤ maxLen) := Lib.hid (by unfold maxLen; omega)
          have HBASE1 := Lib.hid HG1.out.size
          have HYY := Lib.hid (HY.out.kept HG1.out)
          cases sb with
          | some ab =>
            have HNEW := Lib.hid HYY.out.news
            have HD8 := Lib.hid HYY.out.2
            go_wp2_with (at_builtin; refine wpList_own_some rfl (.tmp 63) (.tmp 68) 22 rfl w.heap.size 5 i1 (.int .u8 0) 1 1 Try.underlying22 hi hz0 hz1 hz2 rfl (by decide) (.slice (some ⟨g1, 0, none⟩) (L.length + 4) c1) (L.length + 4) (bvs (L ++ [y0, y1, kd, dt])) rfl HOWN1.out ab bd.length cb (bvs bd) rfl (by rw [bvs_len, Nat.mul_one]) HNEW.out (bvs_one _) HB63b.out (by omega) HBASE1.out (Or.inl (by simp)) _ rfl ?_)
            intro g2 c2 w2 hown2 hgrow2 hb2 hc2 hm2
            have HG2 := Lib.hid (grown_own HG1.out HOWN1.out hgrow2 (Nat.le_refl _))
            have HO2 := Lib.hid (OwnB.of (m := bd) hown2 (by rw [HLN.out]) HO1.out.2 HD8.out)
            clear hown2 hgrow2
            go_wp2_with fail
            go_roundg (n - (k + 1))
            case measure => omega
            case rel => exact ⟨k + 1, by omega, Nat.le_refl _, by go_num, by rw [HTK.out, HREC.out, ← List.append_assoc]; exact HO2.out, HG2.out⟩
          | none =>
            obtain ⟨hl0, rfl⟩ := hz rfl
            obtain rfl : bd = [] := List.length_eq_zero_iff.1 hl0
            go_wp2_with (at_builtin; refine wpList_append_own_none rfl (.tmp 63) (.tmp 68) 22 rfl w.heap.size 5 i1 1 Try.underlying22 hi (.slice (some ⟨g1, 0, none⟩) (L.length + 4) c1) (L.length + 4) (bvs (L ++ [y0, y1, kd, dt])) rfl HOWN1.out rfl ?_)
            go_wp2_with fail
            go_roundg (n - (k + 1))
            case measure => omega
            case rel => exact ⟨k + 1, by omega, Nat.le_refl _, by go_num, by rw [HTK.out, HREC.out, List.append_nil]; exact HO1.out, HG1.out⟩
        · have f1 : decide ((k : Int) < (n : Int)) = false := decide_eq_false (by omega)
          have hkn : k = n := by omega
          have hF := Lib.hid (HQ.out (0, joinB rs) (joinD_all HALL.out).symm wr)
          have hT : Hid (joinB (rs.take k) = joinB rs) := Lib.hid (by rw [hkn, ← HN.out, List.take_length])
          rw [hT.out] at hO
          obtain ⟨s0, c0, rfl, _, _, _, _⟩ := hO.shape
          have HO := Lib.hid hO
          have HG := Lib.hid hG
          clear hO hG hkn
          go_wp2_with fail
          exact hF.out _ HO.out HG.out
end Go.Proofs.Yteienakimdpfhaa
