/- Records: Shorts, Longs; the document's numbers of bytes. -/
import Derived.Test.YteienakimdpfhaaKNum
namespace Go.Proofs.Yteienakimdpfhaa
open Go.RowKit
set_option maxRecDepth 100000
set_option linter.unusedVariables false
set_option linter.unusedSimpArgs false

set_option maxHeartbeats 16000000 in
theorem Shorts_any (w : World) (s : Option Addr) (n cap : Nat) (l : List Nat) (hn : l.length = n) (hl : BySl w s l) (hc : n ≤ cap) (hm : cap ≤ 9223372036854775807) (h4 : n ≤ 4000) :
    Calls Try.prog 19 #[.slice s n cap] w (RetNums w (numsD 2 l)) := by
  have HN := Lib.hid (Numbers_2 w s n cap l hn hl hc hm h4)
  have HQ : Hid (∀ W v, OwnI W w.heap.size v (numsD 2 l).2 → w.grownBy W none → RetNums w (numsD 2 l) (.returned (.tuple #[v, .int .i64 ((numsD 2 l).1 : Int)])) W) := Lib.hid (fun W v h1 h2 => ⟨v, rfl, h1, h2⟩)
  obtain ⟨x, hx⟩ : ∃ x, numsD 2 l = x := ⟨_, rfl⟩
  rw [hx] at HN HQ ⊢
  obtain ⟨c, zs⟩ := x
  obtain ⟨P, hP⟩ : ∃ P, RetNums w (c, zs) = P := ⟨_, rfl⟩
  have HP := Lib.hid hP
  rw [hP] at HQ ⊢
  clear hP hx hl hn
  go_enter Try.func19, Try.ntmps19
  go_wp2_with fail
  refine HN.out.mono ?_
  rintro e w1 ⟨v, rfl, hO, hg⟩
  dsimp only at hO
  obtain ⟨s0, c0, rfl, _, _, _⟩ := hO.shape
  have hF := Lib.hid (HQ.out _ _ hO hg)
  clear hO hg
  go_wp2_with fail
  exact hF.out
set_option maxHeartbeats 16000000 in
theorem Longs_any (w : World) (s : Option Addr) (n cap : Nat) (l : List Nat) (hn : l.length = n) (hl : BySl w s l) (hc : n ≤ cap) (hm : cap ≤ 9223372036854775807) (h4 : n ≤ 4000) :
    Calls Try.prog 21 #[.slice s n cap] w (RetNums w (numsD 4 l)) := by
  have HN := Lib.hid (Numbers_4 w s n cap l hn hl hc hm h4)
  have HQ : Hid (∀ W v, OwnI W w.heap.size v (numsD 4 l).2 → w.grownBy W none → RetNums w (numsD 4 l) (.returned (.tuple #[v, .int .i64 ((numsD 4 l).1 : Int)])) W) := Lib.hid (fun W v h1 h2 => ⟨v, rfl, h1, h2⟩)
  obtain ⟨x, hx⟩ : ∃ x, numsD 4 l = x := ⟨_, rfl⟩
  rw [hx] at HN HQ ⊢
  obtain ⟨c, zs⟩ := x
  obtain ⟨P, hP⟩ : ∃ P, RetNums w (c, zs) = P := ⟨_, rfl⟩
  have HP := Lib.hid hP
  rw [hP] at HQ ⊢
  clear hP hx hl hn
  go_enter Try.func21, Try.ntmps21
  go_wp2_with fail
  refine HN.out.mono ?_
  rintro e w1 ⟨v, rfl, hO, hg⟩
  dsimp only at hO
  obtain ⟨s0, c0, rfl, _, _, _⟩ := hO.shape
  have hF := Lib.hid (HQ.out _ _ hO hg)
  clear hO hg
  go_wp2_with fail
  exact hF.out
theorem pow_even {n : Nat} (h : 0 < n) : ∃ Q, 256 ^ n = 2 * Q := by
  obtain ⟨k, rfl⟩ : ∃ k, n = k + 1 := ⟨n - 1, by omega⟩
  exact ⟨128 * 256 ^ k, by rw [Nat.pow_succ]; omega⟩
theorem pow_le4 {n : Nat} (h : n ≤ 4) : 256 ^ n ≤ 4294967296 := by
  have hp : 256 ^ n ≤ 256 ^ 4 := Nat.pow_le_pow_right (by decide) h
  have h4 : (256 : Nat) ^ 4 = 4294967296 := by decide
  omega
set_option maxHeartbeats 16000000 in
theorem RNumber_any (w : World) (a : Addr) (n cap : Nat) (l : List Nat) (hn : l.length = n) (hl : BySl w (some a) l) (h0 : 0 < n) (h4 : n ≤ 4) :
    Calls Try.prog 37 #[.slice (some a) n cap] w (RetInt w (sgN l)) := by
  have HL := Lib.hid hl
  have HN := Lib.hid hn
  have HF : Hid (∀ z : Int, z = sgN l → RetInt w (sgN l) (.returned (.int .i64 z)) w) := Lib.hid (fun z hz => ⟨by rw [hz], rfl⟩)
  obtain ⟨P, hP⟩ : ∃ P, RetInt w (sgN l) = P := ⟨_, rfl⟩
  rw [hP] at HF ⊢
  clear hl hn hP
  go_enter Try.func37, Try.ntmps37
  go_wp2_with fail
  go_loop [3, 4] (fun v i => ∃ (k z : Nat), k ≤ n ∧ Hid (beN (l.take k) = z) ∧ v = .int .i64 (z : Int) ∧ i = .int .i64 (k : Int)) (fun v i => n - (intOf i).toNat)
  case atStart => exact ⟨0, 0, Nat.zero_le _, Lib.hid rfl, rfl, rfl⟩
  case round =>
    obtain ⟨k, z, hk, HS, rfl, rfl⟩ := hrel
    have hzb : z < 4294967296 := by
      rw [← HS.out]
      have h1 := beN_lt (l := l.take k) (fun x hx => HL.out.2 x (List.mem_of_mem_take hx))
      have h2 : (l.take k).length ≤ 4 := by rw [List.length_take]; omega
      have := pow_le4 h2
      omega
    by_cases hlt : k < n
    · have f1 : decide ((k : Int) < (n : Int)) = true := decide_eq_true (by omega)
      have hcell := HL.out.get k (by rw [HN.out]; omega)
      have hxb := HL.out.lt k
      have hst := beN_take l k (by rw [HN.out]; exact hlt)
      rw [HS.out] at hst
      obtain ⟨x, hx⟩ : ∃ x, l.getD k 0 = x := ⟨_, rfl⟩
      rw [hx] at hcell hxb hst
      have HST := Lib.hid hst
      clear hx hst
      go_wp2_with fail
      go_round
      case rel => exact ⟨k + 1, z * 256 + x, by omega, HST, by go_num, by go_num⟩
      case measure => simp [intOf]; omega
    · have f1 : decide ((k : Int) < (n : Int)) = false := decide_eq_false (by omega)
      have f1b : decide (k < n) = false := decide_eq_false hlt
      have hkn : k = n := by omega
      have HZ : Hid (beN l = z) := Lib.hid (by rw [← HS.out, List.take_of_length_le (by rw [HN.out]; omega)])
      clear HS hkn hlt hk
      go_wp2_with fail
      go_loop [5, 6] (fun v i => ∃ (j H : Nat), j ≤ n ∧ Hid (256 ^ j = H) ∧ v = .int .i64 (H : Int) ∧ i = .int .i64 (j : Int)) (fun v i => n - (intOf i).toNat)
      case atStart => exact ⟨0, 1, Nat.zero_le _, Lib.hid rfl, rfl, rfl⟩
      case round =>
        obtain ⟨j, H, hj, HH, rfl, rfl⟩ := hrel
        have hHb : H ≤ 4294967296 := by rw [← HH.out]; exact pow_le4 (by omega)
        by_cases hlt2 : j < n
        · have f2 : decide ((j : Int) < (n : Int)) = true := decide_eq_true (by omega)
          have HST : Hid (256 ^ (j + 1) = H * 256) := Lib.hid (by rw [Nat.pow_succ, HH.out])
          go_wp2_with fail
          go_round
          case rel => exact ⟨j + 1, H * 256, by omega, HST, by go_num, by go_num⟩
          case measure => simp [intOf]; omega
        · have f2 : decide ((j : Int) < (n : Int)) = false := decide_eq_false (by omega)
          have f2b : decide (j < n) = false := decide_eq_false hlt2
          have hjn : j = n := by omega
          obtain ⟨Q, hQ⟩ := pow_even h0
          have hHQ : H = 2 * Q := by rw [← HH.out, hjn, hQ]
          have HSG : Hid (sgN l = if H ≤ 2 * z then (z : Int) - (H : Int) else (z : Int)) := Lib.hid (by
            unfold sgN; rw [HN.out, HZ.out, ← hjn, HH.out])
          have q2 : wrap64 ((H : Int) / 2) = (Q : Int) := by unfold wrap64; omega
          have q3 : (H : Int) / 2 = (Q : Int) := by omega
          by_cases hc : Q ≤ z
          · have f3 : decide ((Q : Int) ≤ (z : Int)) = true := decide_eq_true (by omega)
            have f4 : decide (Q ≤ z) = true := decide_eq_true hc
            have hF := Lib.hid (HF.out ((z : Int) - (H : Int)) (by rw [HSG.out, if_pos (by omega)]))
            clear hc hHQ hQ hjn
            go_wp2_with fail
            exact hF.out
          · have f3 : decide ((Q : Int) ≤ (z : Int)) = false := decide_eq_false (by omega)
            have f4 : decide (Q ≤ z) = false := decide_eq_false hc
            have hF := Lib.hid (HF.out (z : Int) (by rw [HSG.out, if_neg (by omega)]))
            clear hc hHQ hQ hjn
            go_wp2_with fail
            exact hF.out
set_option maxHeartbeats 32000000 in
theorem RNumbers_2 (w : World) (s : Option Addr) (n cap : Nat) (l : List Nat) (hn : l.length = n) (hl : BySl w s l) (hc : n ≤ cap) (hm : cap ≤ 9223372036854775807) (h4 : n ≤ 4000) :
    Calls Try.prog 20 #[.slice s n cap, .int .i64 2] w (RetNums w (numsD 2 l)) := by
  obtain ⟨i1, hi, hz0, hz1, hz2⟩ := info_partsI
  have q1 := tmod_nat n 2
  have q2 : ((n : Int) % 2) = ((n % 2 : Nat) : Int) := by omega
  by_cases hodd : n % 2 = 0
  · have f2 : (((n % 2 : Nat) : Int) != 0) = false := by rw [hodd]; rfl
    rw [numsD_ok (by rw [hn]; exact hodd)]
    obtain ⟨q, hq⟩ : ∃ q, n / 2 = q := ⟨_, rfl⟩
    have hqn : n = q * 2 := by omega
    have HQL : Hid ((numsL 2 l).length = q) := Lib.hid (by rw [numsL_len, hn, hq])
    have HNT : Hid (∀ k, k < q → (numsL 2 l).take (k + 1) = (numsL 2 l).take k ++ [sgN ((l.drop (k * 2)).take 2)]) := Lib.hid (fun k hk => nums_take 2 l k (by rw [hn, hq]; exact hk))
    have HQ : Hid (∀ W v, OwnI W w.heap.size v (numsL 2 l) → w.grownBy W none → RetNums w (0, numsL 2 l) (.returned (.tuple #[v, .int .i64 0])) W) := Lib.hid (fun W v h1 h2 => ⟨v, rfl, h1, h2⟩)
    obtain ⟨ZS, hZS⟩ : ∃ ZS, numsL 2 l = ZS := ⟨_, rfl⟩
    rw [hZS] at HQL HNT HQ ⊢
    obtain ⟨P, hP⟩ : ∃ P, RetNums w (0, ZS) = P := ⟨_, rfl⟩
    rw [hP] at HQ ⊢
    have HL := Lib.hid hl
    have HN := Lib.hid hn
    have HQN := Lib.hid hqn
    have hqb : q ≤ 4000 := by omega
    obtain ⟨R, hR⟩ : ∃ R, n % 2 = R := ⟨_, rfl⟩
    rw [hR] at q1 q2 f2
    have hG0 : w.grownBy w none := grown_refl _ _
    clear hR hodd hP hZS hl hn hq hqn
    go_enter Try.func20, Try.ntmps20
    go_wp2_with fail
    go_loopg [6, 7] n (fun gh v b wr => ∃ (k j : Nat), k ≤ q ∧ j ≤ n ∧ n - j ≤ gh ∧ b = .int .i64 (j : Int) ∧ Hid (j = k * 2) ∧ OwnI wr w.heap.size v (ZS.take k) ∧ w.grownBy wr none)
    case atStart => exact ⟨0, 0, Nat.zero_le _, Nat.zero_le _, Nat.le_refl _, rfl, Lib.hid (by omega), OwnI.nil _ _, hG0⟩
    case round =>
      clear hG0 q1 q2 f2
      obtain ⟨k, j, hk, hj, hgh, rfl, HJ, hO, hG⟩ := hrel
      by_cases hlt : j < n
      · have f1 : decide ((j : Int) < (n : Int)) = true := decide_eq_true (by omega)
        have hkq : k < q := by have := HJ.out; have := HQN.out; omega
        have hjz : j + 2 ≤ n := by have := HJ.out; have := HQN.out; omega
        have hll : (l.drop j).length = n - j := by rw [List.length_drop, HN.out]
        obtain ⟨a, rfl⟩ : ∃ a, s = some a := by
          rcases HL.out.1 with e | ⟨a, e, _⟩
          · have := HN.out; rw [e] at this; simp at this; omega
          · exact ⟨a, e⟩
        have hlt2 : ((l.drop j).take 2).length = 2 := by rw [List.length_take, hll]; omega
        have hpl := (HL.out.drop j).take 2
        have HNM := Lib.hid (fun W (h : w.grownBy W none) => RNumber_any W (a.add j) 2 (cap - j) _ hlt2 (hpl.kept h) (by omega) (by omega))
        have HTE := Lib.hid (HNT.out k hkq)
        rw [← HJ.out] at HTE
        obtain ⟨zz, hzz⟩ : ∃ zz, sgN ((l.drop j).take 2) = zz := ⟨_, rfl⟩
        rw [hzz] at HNM HTE
        have HG := Lib.hid hG
        have hlk : (ZS.take k).length = k := by rw [List.length_take, HQL.out]; omega
        obtain ⟨L, hL⟩ : ∃ L, ZS.take k = L := ⟨_, rfl⟩
        rw [hL] at HTE hO hlk
        obtain ⟨s0, c0, rfl, _, _, _⟩ := hO.shape
        rw [hlk]
        have HO := Lib.hid hO
        have HLK := Lib.hid hlk
        have s1 : IntKind.i64.wrap ((j : Int) + 2) = (j : Int) + 2 := IntWalk.i64_in _ (by omega)
        have s2 : (0 : Int) ≤ (j : Int) := by omega
        have s3 : (j : Int) ≤ (j : Int) + 2 := by omega
        have s4 : (j : Int) + 2 ≤ (cap : Int) := by omega
        have s5 : (j : Int) + 2 ≤ (n : Int) := by omega
        have s6 : ((j : Int) + 2).toNat = j + 2 := by omega
        have s7 : j + 2 - j = 2 := by omega
        have s8 : ((j : Int) + 2 - (j : Int)).toNat = 2 := by omega
        clear hzz hL hO hG hlk hll hlt2 hpl
        go_wp2_with fail
        refine (HNM.out _ HG.out).mono ?_
        rintro e w1 ⟨rfl, hw1⟩
        subst w1
        have gA := World.grownBy_alloc wr (.cells #[.int .i64 zz] 3) none
        have HNW := Lib.hid (news_int wr zz)
        have HOWN : Hid ((wr.alloc (.cells #[.int .i64 zz] 3)).ownsRow w.heap.size 3 1 (.slice s0 k c0) k (ivs L)) := Lib.hid (by
          have h := HO.out.kept gA
          unfold OwnI at h
          rwa [HLK.out] at h)
        have HGA := Lib.hid (grown_trans HG.out gA)
        have HBS := Lib.hid HGA.out.size
        have HM1 : Hid (k + 1 ≤ maxLen) := Lib.hid (by unfold maxLen; omega)
        clear gA
        go_wp2_with (at_builtin; refine wpList_own_some rfl (.tmp 20) (.tmp 28) 45 rfl w.heap.size 3 i1 (.int .i64 0) 1 8 Try.underlying45 hi hz0 hz1 hz2 rfl (by decide) (.slice s0 k c0) k (ivs L) rfl HOWN.out ⟨wr.heap.size, 0, none⟩ 1 1 [.int .i64 zz] rfl rfl HNW.out (by simp [Value.oneCell']) HM1.out (by omega) HBS.out (Or.inr (by decide)) _ rfl ?_)
        intro g2 c2 w2 hown2 hgrow2 hgb2 hcb2 hmb2
        have HG2 := Lib.hid (grown_own HGA.out HOWN.out hgrow2 (Nat.le_refl _))
        have HO2 := Lib.hid (OwnI.of hown2 (by rw [HLK.out]))
        clear hown2 hgrow2 HOWN HNW
        go_wp2_with fail
        go_roundg (n - (j + 2))
        case measure => omega
        case rel => exact ⟨k + 1, j + 2, by omega, by omega, Nat.le_refl _, by go_num, Lib.hid (by have := HJ.out; omega), by rw [HTE.out]; exact HO2.out, HG2.out⟩
      · have f1 : decide ((j : Int) < (n : Int)) = false := decide_eq_false (by omega)
        have hkq : k = q := by have := HJ.out; have := HQN.out; omega
        have hT : Hid (ZS.take k = ZS) := Lib.hid (by rw [hkq, ← HQL.out, List.take_length])
        rw [hT.out] at hO
        obtain ⟨s0, c0, rfl, _, _, _⟩ := hO.shape
        have HO := Lib.hid hO
        have HG := Lib.hid hG
        clear hO hG hkq
        go_wp2_with fail
        exact HQ.out _ _ HO.out HG.out
  · have f2 : (((n % 2 : Nat) : Int) != 0) = true := bne_iff_ne.2 (by omega)
    rw [numsD_bad (by rw [hn]; exact hodd)]
    obtain ⟨R, hR⟩ : ∃ R, n % 2 = R := ⟨_, rfl⟩
    rw [hR] at q1 q2 f2
    have hF : Hid (RetNums w (3, []) (.returned (.tuple #[.slice none 0 0, .int .i64 3])) w) := Lib.hid ⟨_, rfl, OwnI.nil _ _, grown_refl _ _⟩
    obtain ⟨P, hP⟩ : ∃ P, RetNums w (3, []) = P := ⟨_, rfl⟩
    rw [hP] at hF ⊢
    clear hR hodd hl hn hP
    go_enter Try.func20, Try.ntmps20
    go_wp2_with fail
    exact hF.out
set_option maxHeartbeats 32000000 in
theorem RNumbers_4 (w : World) (s : Option Addr) (n cap : Nat) (l : List Nat) (hn : l.length = n) (hl : BySl w s l) (hc : n ≤ cap) (hm : cap ≤ 9223372036854775807) (h4 : n ≤ 4000) :
    Calls Try.prog 20 #[.slice s n cap, .int .i64 4] w (RetNums w (numsD 4 l)) := by
  obtain ⟨i1, hi, hz0, hz1, hz2⟩ := info_partsI
  have q1 := tmod_nat n 4
  have q2 : ((n : Int) % 4) = ((n % 4 : Nat) : Int) := by omega
  by_cases hodd : n % 4 = 0
  · have f2 : (((n % 4 : Nat) : Int) != 0) = false := by rw [hodd]; rfl
    rw [numsD_ok (by rw [hn]; exact hodd)]
    obtain ⟨q, hq⟩ : ∃ q, n / 4 = q := ⟨_, rfl⟩
    have hqn : n = q * 4 := by omega
    have HQL : Hid ((numsL 4 l).length = q) := Lib.hid (by rw [numsL_len, hn, hq])
    have HNT : Hid (∀ k, k < q → (numsL 4 l).take (k + 1) = (numsL 4 l).take k ++ [sgN ((l.drop (k * 4)).take 4)]) := Lib.hid (fun k hk => nums_take 4 l k (by rw [hn, hq]; exact hk))
    have HQ : Hid (∀ W v, OwnI W w.heap.size v (numsL 4 l) → w.grownBy W none → RetNums w (0, numsL 4 l) (.returned (.tuple #[v, .int .i64 0])) W) := Lib.hid (fun W v h1 h2 => ⟨v, rfl, h1, h2⟩)
    obtain ⟨ZS, hZS⟩ : ∃ ZS, numsL 4 l = ZS := ⟨_, rfl⟩
    rw [hZS] at HQL HNT HQ ⊢
    obtain ⟨P, hP⟩ : ∃ P, RetNums w (0, ZS) = P := ⟨_, rfl⟩
    rw [hP] at HQ ⊢
    have HL := Lib.hid hl
    have HN := Lib.hid hn
    have HQN := Lib.hid hqn
    have hqb : q ≤ 4000 := by omega
    obtain ⟨R, hR⟩ : ∃ R, n % 4 = R := ⟨_, rfl⟩
    rw [hR] at q1 q2 f2
    have hG0 : w.grownBy w none := grown_refl _ _
    clear hR hodd hP hZS hl hn hq hqn
    go_enter Try.func20, Try.ntmps20
    go_wp2_with fail
    go_loopg [6, 7] n (fun gh v b wr => ∃ (k j : Nat), k ≤ q ∧ j ≤ n ∧ n - j ≤ gh ∧ b = .int .i64 (j : Int) ∧ Hid (j = k * 4) ∧ OwnI wr w.heap.size v (ZS.take k) ∧ w.grownBy wr none)
    case atStart => exact ⟨0, 0, Nat.zero_le _, Nat.zero_le _, Nat.le_refl _, rfl, Lib.hid (by omega), OwnI.nil _ _, hG0⟩
    case round =>
      clear hG0 q1 q2 f2
      obtain ⟨k, j, hk, hj, hgh, rfl, HJ, hO, hG⟩ := hrel
      by_cases hlt : j < n
      · have f1 : decide ((j : Int) < (n : Int)) = true := decide_eq_true (by omega)
        have hkq : k < q := by have := HJ.out; have := HQN.out; omega
        have hjz : j + 4 ≤ n := by have := HJ.out; have := HQN.out; omega
        have hll : (l.drop j).length = n - j := by rw [List.length_drop, HN.out]
        obtain ⟨a, rfl⟩ : ∃ a, s = some a := by
          rcases HL.out.1 with e | ⟨a, e, _⟩
          · have := HN.out; rw [e] at this; simp at this; omega
          · exact ⟨a, e⟩
        have hlt2 : ((l.drop j).take 4).length = 4 := by rw [List.length_take, hll]; omega
        have hpl := (HL.out.drop j).take 4
        have HNM := Lib.hid (fun W (h : w.grownBy W none) => RNumber_any W (a.add j) 4 (cap - j) _ hlt2 (hpl.kept h) (by omega) (by omega))
        have HTE := Lib.hid (HNT.out k hkq)
        rw [← HJ.out] at HTE
        obtain ⟨zz, hzz⟩ : ∃ zz, sgN ((l.drop j).take 4) = zz := ⟨_, rfl⟩
        rw [hzz] at HNM HTE
        have HG := Lib.hid hG
        have hlk : (ZS.take k).length = k := by rw [List.length_take, HQL.out]; omega
        obtain ⟨L, hL⟩ : ∃ L, ZS.take k = L := ⟨_, rfl⟩
        rw [hL] at HTE hO hlk
        obtain ⟨s0, c0, rfl, _, _, _⟩ := hO.shape
        rw [hlk]
        have HO := Lib.hid hO
        have HLK := Lib.hid hlk
        have s1 : IntKind.i64.wrap ((j : Int) + 4) = (j : Int) + 4 := IntWalk.i64_in _ (by omega)
        have s2 : (0 : Int) ≤ (j : Int) := by omega
        have s3 : (j : Int) ≤ (j : Int) + 4 := by omega
        have s4 : (j : Int) + 4 ≤ (cap : Int) := by omega
        have s5 : (j : Int) + 4 ≤ (n : Int) := by omega
        have s6 : ((j : Int) + 4).toNat = j + 4 := by omega
        have s7 : j + 4 - j = 4 := by omega
        have s8 : ((j : Int) + 4 - (j : Int)).toNat = 4 := by omega
        clear hzz hL hO hG hlk hll hlt2 hpl
        go_wp2_with fail
        refine (HNM.out _ HG.out).mono ?_
        rintro e w1 ⟨rfl, hw1⟩
        subst w1
        have gA := World.grownBy_alloc wr (.cells #[.int .i64 zz] 3) none
        have HNW := Lib.hid (news_int wr zz)
        have HOWN : Hid ((wr.alloc (.cells #[.int .i64 zz] 3)).ownsRow w.heap.size 3 1 (.slice s0 k c0) k (ivs L)) := Lib.hid (by
          have h := HO.out.kept gA
          unfold OwnI at h
          rwa [HLK.out] at h)
        have HGA := Lib.hid (grown_trans HG.out gA)
        have HBS := Lib.hid HGA.out.size
        have HM1 : Hid (k + 1 ≤ maxLen) := Lib.hid (by unfold maxLen; omega)
        clear gA
        go_wp2_with (at_builtin; refine wpList_own_some rfl (.tmp 20) (.tmp 28) 45 rfl w.heap.size 3 i1 (.int .i64 0) 1 8 Try.underlying45 hi hz0 hz1 hz2 rfl (by decide) (.slice s0 k c0) k (ivs L) rfl HOWN.out ⟨wr.heap.size, 0, none⟩ 1 1 [.int .i64 zz] rfl rfl HNW.out (by simp [Value.oneCell']) HM1.out (by omega) HBS.out (Or.inr (by decide)) _ rfl ?_)
        intro g2 c2 w2 hown2 hgrow2 hgb2 hcb2 hmb2
        have HG2 := Lib.hid (grown_own HGA.out HOWN.out hgrow2 (Nat.le_refl _))
        have HO2 := Lib.hid (OwnI.of hown2 (by rw [HLK.out]))
        clear hown2 hgrow2 HOWN HNW
        go_wp2_with fail
        go_roundg (n - (j + 4))
        case measure => omega
        case rel => exact ⟨k + 1, j + 4, by omega, by omega, Nat.le_refl _, by go_num, Lib.hid (by have := HJ.out; omega), by rw [HTE.out]; exact HO2.out, HG2.out⟩
      · have f1 : decide ((j : Int) < (n : Int)) = false := decide_eq_false (by omega)
        have hkq : k = q := by have := HJ.out; have := HQN.out; omega
        have hT : Hid (ZS.take k = ZS) := Lib.hid (by rw [hkq, ← HQL.out, List.take_length])
        rw [hT.out] at hO
        obtain ⟨s0, c0, rfl, _, _, _⟩ := hO.shape
        have HO := Lib.hid hO
        have HG := Lib.hid hG
        clear hO hG hkq
        go_wp2_with fail
        exact HQ.out _ _ HO.out HG.out
  · have f2 : (((n % 4 : Nat) : Int) != 0) = true := bne_iff_ne.2 (by omega)
    rw [numsD_bad (by rw [hn]; exact hodd)]
    obtain ⟨R, hR⟩ : ∃ R, n % 4 = R := ⟨_, rfl⟩
    rw [hR] at q1 q2 f2
    have hF : Hid (RetNums w (3, []) (.returned (.tuple #[.slice none 0 0, .int .i64 3])) w) := Lib.hid ⟨_, rfl, OwnI.nil _ _, grown_refl _ _⟩
    obtain ⟨P, hP⟩ : ∃ P, RetNums w (3, []) = P := ⟨_, rfl⟩
    rw [hP] at hF ⊢
    clear hR hodd hl hn hP
    go_enter Try.func20, Try.ntmps20
    go_wp2_with fail
    exact hF.out
end Go.Proofs.Yteienakimdpfhaa
