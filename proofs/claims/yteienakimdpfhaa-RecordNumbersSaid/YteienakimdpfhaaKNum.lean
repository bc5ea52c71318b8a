/- Records: numbers of bytes. -/
import Derived.Test.YteienakimdpfhaaKNumM
import Derived.Test.YteienakimdpfhaaKJoin
import Derived.Test.YteienakimdpfhaaKMath
namespace Go.Proofs.Yteienakimdpfhaa
open Go.RowKit
set_option maxRecDepth 100000
set_option linter.unusedVariables false
set_option linter.unusedSimpArgs false

def RetInt (w : World) (z : Int) (e : Ending) (w' : World) : Prop := e = .returned (.int .i64 z) ∧ w' = w
theorem sgN_bd8 {l : List Nat} {n : Nat} (h0 : 0 < l.length) (hn : l.length ≤ 4) (h : ∀ x ∈ l, x < 256) : -2147483648 ≤ sgN l ∧ sgN l < 2147483648 := by
  have := sgN_bd h0 h
  have hp : 256 ^ l.length ≤ 256 ^ 4 := Nat.pow_le_pow_right (by decide) hn
  have h4 : (256 : Nat) ^ 4 = 4294967296 := by decide
  omega
set_option maxHeartbeats 16000000 in
theorem Number_any (w : World) (a : Addr) (n cap : Nat) (l : List Nat) (hn : l.length = n) (hl : BySl w (some a) l) (h0 : 0 < n) (h4 : n ≤ 4) (hc : n ≤ cap) (hm : cap ≤ 9223372036854775807) :
    Calls Try.prog 46 #[.slice (some a) n cap] w (RetInt w (sgN l)) := by
  have hc0 := hl.get 0 (by omega)
  have hx0 := hl.lt 0
  rw [show a.add 0 = a from by simp [Addr.add]] at hc0
  have hone : l.take 1 = [l.getD 0 0] := by
    rw [List.take_succ_eq_append_getElem (by omega), List.take_zero, List.getD_eq_getElem?_getD, List.getElem?_eq_getElem (by omega)]; rfl
  have hs1 : sgN (l.take 1) = if 128 ≤ l.getD 0 0 then ((l.getD 0 0 : Nat) : Int) - 256 else ((l.getD 0 0 : Nat) : Int) := by rw [hone]; exact sgN_one _ hx0
  obtain ⟨x0, hx⟩ : ∃ x, l.getD 0 0 = x := ⟨_, rfl⟩
  rw [hx] at hc0 hx0 hs1
  obtain ⟨z0, hz0⟩ : ∃ z : Int, IntKind.i8.wrap (x0 : Int) = z := ⟨_, rfl⟩
  have hz1 : sgN (l.take 1) = z0 := by
    rw [hs1, ← hz0]
    unfold IntKind.wrap
    simp [IntKind.bits, IntKind.signed]
    split <;> split <;> omega
  have hzb : -128 ≤ z0 ∧ z0 < 128 := by rw [← hz1, hs1]; split <;> omega
  obtain ⟨p, hp, hpl⟩ : ∃ pp : Addr, (if cap = 1 then some a else some ⟨a.block, a.off + 1, none⟩) = some pp ∧ BySl w (some pp) (l.drop 1) := cut_some (hl.drop 1) (fun e => List.drop_eq_nil_of_le (by omega))
  have HL := Lib.hid hl
  have HP := Lib.hid hpl
  have HN := Lib.hid hn
  have HZ := Lib.hid hz1
  obtain ⟨n1, hn1⟩ : ∃ n1, n = n1 + 1 := ⟨n - 1, by omega⟩
  subst hn1
  have i1 : (1 : Int) ≤ (cap : Int) := by omega
  clear hl hpl hn hone hs1 hx hz1
  go_enter Try.func46, Try.ntmps46
  go_wp2_with fail
  go_loop [3, 5, 14] (fun v lst i => ∃ (k : Nat) (z : Int), k ≤ n1 ∧ Hid (sgN (l.take (k + 1)) = z) ∧ v = .int .i64 z ∧ i = .int .i64 (k : Int)) (fun v lst i => n1 - (intOf i).toNat)
  case atStart => exact ⟨0, z0, Nat.zero_le _, HZ, rfl, rfl⟩
  case round =>
    obtain ⟨k, z, hk, HS, rfl, rfl⟩ := hrel
    by_cases hlt : k < n1
    · have f1 : decide ((k : Int) < (n1 : Int)) = true := decide_eq_true (by omega)
      have hcell := HP.out.get k (by rw [List.length_drop, HN.out]; omega)
      have hxb := HP.out.lt k
      have hx2 : (l.drop 1).getD k 0 = l.getD (k + 1) 0 := by
        rw [List.getD_eq_getElem?_getD, List.getElem?_drop, Nat.add_comm, ← List.getD_eq_getElem?_getD]
      rw [hx2] at hcell hxb
      have hst := sgN_take (l := l) (k := k + 1) (by omega) (by rw [HN.out]; omega) hxb
      rw [HS.out] at hst
      have hzb : -2147483648 ≤ z ∧ z < 2147483648 := by
        rw [← HS.out]
        exact sgN_bd8 (n := 0) (by rw [List.length_take, HN.out]; omega) (by rw [List.length_take, HN.out]; omega) (fun x hx => HL.out.2 x (List.mem_of_mem_take hx))
      obtain ⟨x, hx⟩ : ∃ x, l.getD (k + 1) 0 = x := ⟨_, rfl⟩
      rw [hx] at hcell hxb hst
      have HST := Lib.hid hst
      obtain ⟨hzb1, hzb2⟩ := hzb
      have hor := bor_i64 z x hxb (by omega) (by omega)
      clear hx hx2 hst
      go_wp2_with fail
      go_round
      case rel => exact ⟨k + 1, z * 256 + (x : Int), by omega, HST, by go_num, by go_num⟩
      case measure => simp [intOf]; omega
    · have f1 : decide ((k : Int) < (n1 : Int)) = false := decide_eq_false (by omega)
      have hF : Hid (sgN l = z) := Lib.hid (by
        rw [← HS.out, List.take_of_length_le (by rw [HN.out]; omega)])
      go_wp2_with fail
      go_ret
      exact ⟨by rw [hF.out]; rfl, rfl⟩
/-- Whole numbers as cells. -/
def ivs (l : List Int) : List Value := l.map fun z => .int .i64 z
theorem ivs_len (l : List Int) : (ivs l).length = l.length := by simp [ivs]
theorem ivs_append (l m : List Int) : ivs l ++ ivs m = ivs (l ++ m) := by unfold ivs; rw [List.map_append]
theorem ivs_one (l : List Int) : ∀ u ∈ ivs l, u.oneCell' = true := fun u hu => by
  unfold ivs at hu
  rw [List.mem_map] at hu
  obtain ⟨x, _, rfl⟩ := hu
  rfl
/-- A row of whole numbers of the call's own. -/
def OwnI (W : World) (base : Nat) (v : Value) (l : List Int) : Prop := W.ownsRow base 3 1 v l.length (ivs l)
theorem OwnI.kept {W W' : World} {base : Nat} {v : Value} {l : List Int} (h : OwnI W base v l) (hg : W.grownBy W' none) : OwnI W' base v l := own_kept h hg
theorem OwnI.nil (W : World) (base : Nat) : OwnI W base (.slice none 0 0) [] := ⟨rfl, Or.inl ⟨rfl, rfl⟩⟩
/-- A slice of whole numbers that reads so. -/
def InSl (W : World) (s : Option Addr) (l : List Int) : Prop := ∀ i (h : i < l.length), ∃ a, s = some a ∧ W.cell? (a.add i) = some (.int .i64 l[i])
theorem InSl.kept {W W' : World} {s : Option Addr} {l : List Int} (h : InSl W s l) (hg : W.grownBy W' none) : InSl W' s l := fun i hi => by
  obtain ⟨a, e, hc⟩ := h i hi
  exact ⟨a, e, hg.cell hc (by simp)⟩
theorem OwnI.shape {W : World} {base : Nat} {v : Value} {l : List Int} (h : OwnI W base v l) : ∃ s c, v = .slice s l.length c ∧ InSl W s l ∧ l.length ≤ c ∧ c ≤ 9223372036854775807 := by
  obtain ⟨h1, ⟨rfl, h2⟩ | ⟨g, cap, cur, rfl, hb, hh, hc, hm, hs, ht⟩⟩ := id h
  · obtain rfl : l = [] := List.length_eq_zero_iff.1 h2
    exact ⟨none, 0, rfl, fun i hi => by simp at hi, Nat.le_refl _, by omega⟩
  · refine ⟨_, cap, rfl, fun i hi => ⟨_, rfl, ?_⟩, hc, by unfold maxLen at hm; exact hm⟩
    have h' : W.ownsRow base 3 1 (.slice (some ⟨g, 0, none⟩) l.length cap) l.length (ivs l) := h
    exact h'.cells rfl _ _ (by unfold ivs; rw [List.getElem?_map, List.getElem?_eq_getElem hi]; rfl)
theorem OwnI.of {W : World} {base nm : Nat} {v : Value} {l : List Int} {z : Int} (h : W.ownsRow base 3 1 v nm (ivs l ++ [.int .i64 z])) (hn : l.length + 1 = nm) : OwnI W base v (l ++ [z]) := by
  subst hn
  unfold OwnI
  rw [List.length_append, ← ivs_append]
  exact h
theorem info_partsI : ∃ i, Try.prog.info? 3 = some i ∧ i.zero = some (.int .i64 0) ∧ i.size = 1 ∧ i.bytes = 8 := by
  have h : (Try.prog.info? 3).map (fun i => (i.zero, i.size, i.bytes)) = some (some (.int .i64 0), 1, 8) := by kernel_rfl
  obtain ⟨i, hi, he⟩ := Option.map_eq_some_iff.1 h
  exact ⟨i, hi, congrArg Prod.fst he, congrArg (fun x => x.2.1) he, congrArg (fun x => x.2.2) he⟩
theorem news_int (W : World) (z : Int) : ∀ j u, ([.int .i64 z] : List Value)[j]? = some u → (W.alloc (.cells #[.int .i64 z] 3)).cell? ((⟨W.heap.size, 0, none⟩ : Addr).add j) = some u :=
  World.news_of_block (cs := #[.int .i64 z]) (heap_new W (.cells #[.int .i64 z] 3) W.heap.size rfl)
def RetNums (w : World) (x : Nat × List Int) (e : Ending) (w' : World) : Prop :=
  ∃ v, e = .returned (.tuple #[v, .int .i64 (x.1 : Int)]) ∧ OwnI w' w.heap.size v x.2 ∧ w.grownBy w' none
set_option maxHeartbeats 32000000 in
theorem Numbers_2 (w : World) (s : Option Addr) (n cap : Nat) (l : List Nat) (hn : l.length = n) (hl : BySl w s l) (hc : n ≤ cap) (hm : cap ≤ 9223372036854775807) (h4 : n ≤ 4000) :
    Calls Try.prog 36 #[.slice s n cap, .int .i64 2] w (RetNums w (numsD 2 l)) := by
  obtain ⟨i1, hi, hz0, hz1, hz2⟩ := info_partsI
  have q1 := tmod_nat n 2
  have q2 : ((n : Int) % 2) = ((n % 2 : Nat) : Int) := by omega
  by_cases hodd : n % 2 = 0
  · have f2 : (((n % 2 : Nat) : Int) != 0) = false := by rw [hodd]; rfl
    rw [numsD_ok (by rw [hn]; exact hodd)]
    obtain ⟨q, hq⟩ : ∃ q, n / 2 = q := ⟨_, rfl⟩
    have hqn : n = q * 2 := by omega
    have HQL : Hid ((numsL 2 l).length = q) := Lib.hid (by rw [numsL_len, hn, hq])
    have HNT : Hid (∀ k, k < q → (numsL 2 l).take (k + 1) = (numsL 2 l).take k ++ [sgN ((l.drop (k * 2)).take 2)]) := Lib.hid (fun k hk => nums_take 2 l k (by rw [hn, hq]; exact hk))
    have HQ : Hid (∀ W v, OwnI W w.heap.size v (numsL 2 l) → w.grownBy W none → RetNums w (0, numsL 2 l) (.returned (.tuple #[v, .int .i64 0])) W) := Lib.hid (fun W v h1 h2 => ⟨v, rfl, h1, h2⟩)
    obtain ⟨ZS, hZS⟩ : ∃ ZS, numsL 2 l = ZS := ⟨_, rfl⟩
    rw [hZS] at HQL HNT HQ ⊢
    obtain ⟨P, hP⟩ : ∃ P, RetNums w (0, ZS) = P := ⟨_, rfl⟩
    rw [hP] at HQ ⊢
    have HL := Lib.hid hl
    have HN := Lib.hid hn
    have HQN := Lib.hid hqn
    have hqb : q ≤ 4000 := by omega
    have d1 : (n : Int) / 2 = (q : Int) := by omega
    obtain ⟨R, hR⟩ : ∃ R, n % 2 = R := ⟨_, rfl⟩
    rw [hR] at q1 q2 f2
    clear hR hodd hP hZS hl hn hq hqn
    go_enter Try.func36, Try.ntmps36
    go_wp2_with (at_make; refine wpList_make_own _ rfl _ _ 45 rfl w.heap.size 3 i1 (.int .i64 0) 1 Try.underlying45 hi hz0 hz1 .i64 .i64 _ q rfl rfl (by first | rfl | omega | (unfold wrap64; omega)) (by rw [hz2]; omega) (by unfold maxLen; omega) (Nat.le_refl _) ?_)
    intro w0 hown0 hg0
    have hO : OwnI w0 w.heap.size (.slice (some ⟨w.heap.size, 0, none⟩) 0 q) [] := hown0
    clear hown0 q1 q2 f2 d1
    go_wp2_with fail
    go_loopg [0, 6] n (fun gh b v wr => ∃ (k r c : Nat) (s' : Option Addr), k ≤ q ∧ r ≤ gh ∧ b = .slice s' r c ∧ r ≤ c ∧ c ≤ 9223372036854775807 ∧ Hid (k * 2 + r = n) ∧ Hid (BySl w s' (l.drop (k * 2))) ∧ OwnI wr w.heap.size v (ZS.take k) ∧ w.grownBy wr none)
    case atStart => exact ⟨0, n, cap, s, Nat.zero_le _, Nat.le_refl _, rfl, hc, hm, Lib.hid (by omega), Lib.hid (by rw [Nat.zero_mul]; exact HL.out), hO, hg0⟩
    case round =>
      clear hO hg0
      obtain ⟨k, r, c, s', hk, hgh, rfl, hrc, hcm, HKR, HB, hO, hG⟩ := hrel
      by_cases hr0 : 0 < r
      · have f1 : decide ((0 : Int) < (r : Int)) = true := decide_eq_true (by omega)
        have hkq : k < q := by have := HKR.out; have := HQN.out; omega
        obtain ⟨r1, hr1⟩ : ∃ r1, r = r1 + 2 := ⟨r - 2, by have := HKR.out; have := HQN.out; omega⟩
        subst hr1
        have hll : (l.drop (k * 2)).length = r1 + 2 := by rw [List.length_drop, HN.out]; have := HKR.out; omega
        obtain ⟨a, rfl⟩ : ∃ a, s' = some a := by
          rcases HB.out.1 with e | ⟨a, e, _⟩
          · rw [e] at hll; simp at hll
          · exact ⟨a, e⟩
        have hTK := HB.out.take 2
        have hDR := HB.out.drop 2
        rw [List.drop_drop] at hDR
        have hlt : ((l.drop (k * 2)).take 2).length = 2 := by rw [List.length_take, hll]; omega
        obtain ⟨p, hp, hpl⟩ : ∃ pp : Addr, (if c = 2 then some a else some ⟨a.block, a.off + 2, none⟩) = some pp ∧ BySl w (some pp) (l.drop (k * 2 + 2)) := cut_some hDR (fun e => List.drop_eq_nil_of_le (by rw [HN.out]; have := HKR.out; omega))
        have HPL : Hid (BySl w (some p) (l.drop ((k + 1) * 2))) := Lib.hid (by rw [Nat.add_mul, Nat.one_mul]; exact hpl)
        have HNM := Lib.hid (fun W (h : w.grownBy W none) => Number_any W a 2 c _ hlt (hTK.kept h) (by omega) (by omega) (by omega) hcm)
        have HTE := Lib.hid (HNT.out k hkq)
        obtain ⟨zz, hzz⟩ : ∃ zz, sgN ((l.drop (k * 2)).take 2) = zz := ⟨_, rfl⟩
        rw [hzz] at HNM HTE
        have HG := Lib.hid hG
        have hlk : (ZS.take k).length = k := by rw [List.length_take, HQL.out]; omega
        obtain ⟨L, hL⟩ : ∃ L, ZS.take k = L := ⟨_, rfl⟩
        rw [hL] at HTE hO hlk
        obtain ⟨s0, c0, rfl, _, _, _⟩ := hO.shape
        rw [hlk]
        have HO := Lib.hid hO
        have HLK := Lib.hid hlk
        have i1' : (2 : Int) ≤ (c : Int) := by omega
        have i2' : (2 : Int) ≤ ((r1 + 2 : Nat) : Int) := by omega
        clear hzz hL hO hG hlk hll hTK hDR hlt hpl
        go_wp2_with fail
        refine (HNM.out _ HG.out).mono ?_
        rintro e w1 ⟨rfl, hw1⟩
        subst w1
        have gA := World.grownBy_alloc wr (.cells #[.int .i64 zz] 3) none
        have HNW := Lib.hid (news_int wr zz)
        have HOWN : Hid ((wr.alloc (.cells #[.int .i64 zz] 3)).ownsRow w.heap.size 3 1 (.slice s0 k c0) k (ivs L)) := Lib.hid (by
          have h := HO.out.kept gA
          unfold OwnI at h
          rwa [HLK.out] at h)
        have HGA := Lib.hid (grown_trans HG.out gA)
        have HBS := Lib.hid HGA.out.size
        have HM1 : Hid (k + 1 ≤ maxLen) := Lib.hid (by unfold maxLen; omega)
        clear gA
        go_wp2_with (at_builtin; refine wpList_own_some rfl (.tmp 23) (.tmp 28) 45 rfl w.heap.size 3 i1 (.int .i64 0) 1 8 Try.underlying45 hi hz0 hz1 hz2 rfl (by decide) (.slice s0 k c0) k (ivs L) rfl HOWN.out ⟨wr.heap.size, 0, none⟩ 1 1 [.int .i64 zz] rfl rfl HNW.out (by simp [Value.oneCell']) HM1.out (by omega) HBS.out (Or.inr (by decide)) _ rfl ?_)
        intro g2 c2 w2 hown2 hgrow2 hgb2 hcb2 hmb2
        have HG2 := Lib.hid (grown_own HGA.out HOWN.out hgrow2 (Nat.le_refl _))
        have HO2 := Lib.hid (OwnI.of hown2 (by rw [HLK.out]))
        clear hown2 hgrow2 HOWN HNW
        go_wp2_with fail
        go_roundg r1
        case measure => omega
        case rel => exact ⟨k + 1, r1, c - 2, some p, by omega, Nat.le_refl _, by go_num, by omega, by omega, Lib.hid (by have := HKR.out; omega), HPL, by rw [HTE.out]; exact HO2.out, HG2.out⟩
      · have f1 : decide ((0 : Int) < (r : Int)) = false := decide_eq_false (by omega)
        have hkq : k = q := by have := HKR.out; have := HQN.out; omega
        have hT : Hid (ZS.take k = ZS) := Lib.hid (by rw [hkq, ← HQL.out, List.take_length])
        rw [hT.out] at hO
        obtain ⟨s0, c0, rfl, _, _, _⟩ := hO.shape
        have HO := Lib.hid hO
        have HG := Lib.hid hG
        clear hO hG hkq
        go_wp2_with fail
        exact HQ.out _ _ HO.out HG.out
  · have f2 : (((n % 2 : Nat) : Int) != 0) = true := bne_iff_ne.2 (by omega)
    rw [numsD_bad (by rw [hn]; exact hodd)]
    obtain ⟨R, hR⟩ : ∃ R, n % 2 = R := ⟨_, rfl⟩
    rw [hR] at q1 q2 f2
    have hF : Hid (RetNums w (3, []) (.returned (.tuple #[.slice none 0 0, .int .i64 3])) w) := Lib.hid ⟨_, rfl, OwnI.nil _ _, grown_refl _ _⟩
    obtain ⟨P, hP⟩ : ∃ P, RetNums w (3, []) = P := ⟨_, rfl⟩
    rw [hP] at hF ⊢
    clear hR hodd hl hn hP
    go_enter Try.func36, Try.ntmps36
    go_wp2_with fail
    exact hF.out
set_option maxHeartbeats 32000000 in
theorem Numbers_4 (w : World) (s : Option Addr) (n cap : Nat) (l : List Nat) (hn : l.length = n) (hl : BySl w s l) (hc : n ≤ cap) (hm : cap ≤ 9223372036854775807) (h4 : n ≤ 4000) :
    Calls Try.prog 36 #[.slice s n cap, .int .i64 4] w (RetNums w (numsD 4 l)) := by
  obtain ⟨i1, hi, hz0, hz1, hz2⟩ := info_partsI
  have q1 := tmod_nat n 4
  have q2 : ((n : Int) % 4) = ((n % 4 : Nat) : Int) := by omega
  by_cases hodd : n % 4 = 0
  · have f2 : (((n % 4 : Nat) : Int) != 0) = false := by rw [hodd]; rfl
    rw [numsD_ok (by rw [hn]; exact hodd)]
    obtain ⟨q, hq⟩ : ∃ q, n / 4 = q := ⟨_, rfl⟩
    have hqn : n = q * 4 := by omega
    have HQL : Hid ((numsL 4 l).length = q) := Lib.hid (by rw [numsL_len, hn, hq])
    have HNT : Hid (∀ k, k < q → (numsL 4 l).take (k + 1) = (numsL 4 l).take k ++ [sgN ((l.drop (k * 4)).take 4)]) := Lib.hid (fun k hk => nums_take 4 l k (by rw [hn, hq]; exact hk))
    have HQ : Hid (∀ W v, OwnI W w.heap.size v (numsL 4 l) → w.grownBy W none → RetNums w (0, numsL 4 l) (.returned (.tuple #[v, .int .i64 0])) W) := Lib.hid (fun W v h1 h2 => ⟨v, rfl, h1, h2⟩)
    obtain ⟨ZS, hZS⟩ : ∃ ZS, numsL 4 l = ZS := ⟨_, rfl⟩
    rw [hZS] at HQL HNT HQ ⊢
    obtain ⟨P, hP⟩ : ∃ P, RetNums w (0, ZS) = P := ⟨_, rfl⟩
    rw [hP] at HQ ⊢
    have HL := Lib.hid hl
    have HN := Lib.hid hn
    have HQN := Lib.hid hqn
    have hqb : q ≤ 4000 := by omega
    have d1 : (n : Int) / 4 = (q : Int) := by omega
    obtain ⟨R, hR⟩ : ∃ R, n % 4 = R := ⟨_, rfl⟩
    rw [hR] at q1 q2 f2
    clear hR hodd hP hZS hl hn hq hqn
    go_enter Try.func36, Try.ntmps36
    go_wp2_with (at_make; refine wpList_make_own _ rfl _ _ 45 rfl w.heap.size 3 i1 (.int .i64 0) 1 Try.underlying45 hi hz0 hz1 .i64 .i64 _ q rfl rfl (by first | rfl | omega | (unfold wrap64; omega)) (by rw [hz2]; omega) (by unfold maxLen; omega) (Nat.le_refl _) ?_)
    intro w0 hown0 hg0
    have hO : OwnI w0 w.heap.size (.slice (some ⟨w.heap.size, 0, none⟩) 0 q) [] := hown0
    clear hown0 q1 q2 f2 d1
    go_wp2_with fail
    go_loopg [0, 6] n (fun gh b v wr => ∃ (k r c : Nat) (s' : Option Addr), k ≤ q ∧ r ≤ gh ∧ b = .slice s' r c ∧ r ≤ c ∧ c ≤ 9223372036854775807 ∧ Hid (k * 4 + r = n) ∧ Hid (BySl w s' (l.drop (k * 4))) ∧ OwnI wr w.heap.size v (ZS.take k) ∧ w.grownBy wr none)
    case atStart => exact ⟨0, n, cap, s, Nat.zero_le _, Nat.le_refl _, rfl, hc, hm, Lib.hid (by omega), Lib.hid (by rw [Nat.zero_mul]; exact HL.out), hO, hg0⟩
    case round =>
      clear hO hg0
      obtain ⟨k, r, c, s', hk, hgh, rfl, hrc, hcm, HKR, HB, hO, hG⟩ := hrel
      by_cases hr0 : 0 < r
      · have f1 : decide ((0 : Int) < (r : Int)) = true := decide_eq_true (by omega)
        have hkq : k < q := by have := HKR.out; have := HQN.out; omega
        obtain ⟨r1, hr1⟩ : ∃ r1, r = r1 + 4 := ⟨r - 4, by have := HKR.out; have := HQN.out; omega⟩
        subst hr1
        have hll : (l.drop (k * 4)).length = r1 + 4 := by rw [List.length_drop, HN.out]; have := HKR.out; omega
        obtain ⟨a, rfl⟩ : ∃ a, s' = some a := by
          rcases HB.out.1 with e | ⟨a, e, _⟩
          · rw [e] at hll; simp at hll
          · exact ⟨a, e⟩
        have hTK := HB.out.take 4
        have hDR := HB.out.drop 4
        rw [List.drop_drop] at hDR
        have hlt : ((l.drop (k * 4)).take 4).length = 4 := by rw [List.length_take, hll]; omega
        obtain ⟨p, hp, hpl⟩ : ∃ pp : Addr, (if c = 4 then some a else some ⟨a.block, a.off + 4, none⟩) = some pp ∧ BySl w (some pp) (l.drop (k * 4 + 4)) := cut_some hDR (fun e => List.drop_eq_nil_of_le (by rw [HN.out]; have := HKR.out; omega))
        have HPL : Hid (BySl w (some p) (l.drop ((k + 1) * 4))) := Lib.hid (by rw [Nat.add_mul, Nat.one_mul]; exact hpl)
        have HNM := Lib.hid (fun W (h : w.grownBy W none) => Number_any W a 4 c _ hlt (hTK.kept h) (by omega) (by omega) (by omega) hcm)
        have HTE := Lib.hid (HNT.out k hkq)
        obtain ⟨zz, hzz⟩ : ∃ zz, sgN ((l.drop (k * 4)).take 4) = zz := ⟨_, rfl⟩
        rw [hzz] at HNM HTE
        have HG := Lib.hid hG
        have hlk : (ZS.take k).length = k := by rw [List.length_take, HQL.out]; omega
        obtain ⟨L, hL⟩ : ∃ L, ZS.take k = L := ⟨_, rfl⟩
        rw [hL] at HTE hO hlk
        obtain ⟨s0, c0, rfl, _, _, _⟩ := hO.shape
        rw [hlk]
        have HO := Lib.hid hO
        have HLK := Lib.hid hlk
        have i1' : (4 : Int) ≤ (c : Int) := by omega
        have i2' : (4 : Int) ≤ ((r1 + 4 : Nat) : Int) := by omega
        clear hzz hL hO hG hlk hll hTK hDR hlt hpl
        go_wp2_with fail
        refine (HNM.out _ HG.out).mono ?_
        rintro e w1 ⟨rfl, hw1⟩
        subst w1
        have gA := World.grownBy_alloc wr (.cells #[.int .i64 zz] 3) none
        have HNW := Lib.hid (news_int wr zz)
        have HOWN : Hid ((wr.alloc (.cells #[.int .i64 zz] 3)).ownsRow w.heap.size 3 1 (.slice s0 k c0) k (ivs L)) := Lib.hid (by
          have h := HO.out.kept gA
          unfold OwnI at h
          rwa [HLK.out] at h)
        have HGA := Lib.hid (grown_trans HG.out gA)
        have HBS := Lib.hid HGA.out.size
        have HM1 : Hid (k + 1 ≤ maxLen) := Lib.hid (by unfold maxLen; omega)
        clear gA
        go_wp2_with (at_builtin; refine wpList_own_some rfl (.tmp 23) (.tmp 28) 45 rfl w.heap.size 3 i1 (.int .i64 0) 1 8 Try.underlying45 hi hz0 hz1 hz2 rfl (by decide) (.slice s0 k c0) k (ivs L) rfl HOWN.out ⟨wr.heap.size, 0, none⟩ 1 1 [.int .i64 zz] rfl rfl HNW.out (by simp [Value.oneCell']) HM1.out (by omega) HBS.out (Or.inr (by decide)) _ rfl ?_)
        intro g2 c2 w2 hown2 hgrow2 hgb2 hcb2 hmb2
        have HG2 := Lib.hid (grown_own HGA.out HOWN.out hgrow2 (Nat.le_refl _))
        have HO2 := Lib.hid (OwnI.of hown2 (by rw [HLK.out]))
        clear hown2 hgrow2 HOWN HNW
        go_wp2_with fail
        go_roundg r1
        case measure => omega
        case rel => exact ⟨k + 1, r1, c - 4, some p, by omega, Nat.le_refl _, by go_num, by omega, by omega, Lib.hid (by have := HKR.out; omega), HPL, by rw [HTE.out]; exact HO2.out, HG2.out⟩
      · have f1 : decide ((0 : Int) < (r : Int)) = false := decide_eq_false (by omega)
        have hkq : k = q := by have := HKR.out; have := HQN.out; omega
        have hT : Hid (ZS.take k = ZS) := Lib.hid (by rw [hkq, ← HQL.out, List.take_length])
        rw [hT.out] at hO
        obtain ⟨s0, c0, rfl, _, _, _⟩ := hO.shape
        have HO := Lib.hid hO
        have HG := Lib.hid hG
        clear hO hG hkq
        go_wp2_with fail
        exact HQ.out _ _ HO.out HG.out
  · have f2 : (((n % 4 : Nat) : Int) != 0) = true := bne_iff_ne.2 (by omega)
    rw [numsD_bad (by rw [hn]; exact hodd)]
    obtain ⟨R, hR⟩ : ∃ R, n % 4 = R := ⟨_, rfl⟩
    rw [hR] at q1 q2 f2
    have hF : Hid (RetNums w (3, []) (.returned (.tuple #[.slice none 0 0, .int .i64 3])) w) := Lib.hid ⟨_, rfl, OwnI.nil _ _, grown_refl _ _⟩
    obtain ⟨P, hP⟩ : ∃ P, RetNums w (3, []) = P := ⟨_, rfl⟩
    rw [hP] at hF ⊢
    clear hR hodd hl hn hP
    go_enter Try.func36, Try.ntmps36
    go_wp2_with fail
    exact hF.out
end Go.Proofs.Yteienakimdpfhaa
