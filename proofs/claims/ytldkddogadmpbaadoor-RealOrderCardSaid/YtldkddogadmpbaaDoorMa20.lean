/- What the laws lean on, part 20. -/
import Derived.Deep.RegionHeld3
import Derived.LoopN
import Derived.Laws.Bits128
import Derived.Test.YtldkddogadmpbaaDoorMa19
import Derived.Test.YtldkddogadmpbaaDoorMa5
import Derived.Test.YtldkddogadmpbaaDoorMa17
namespace Go.Proofs.YtldkddogadmpbaaDoor
open Go.RowKit Mat
set_option maxRecDepth 100000
set_option linter.unusedVariables false
set_option linter.unusedSimpArgs false
def ex0 (U : Nat) : Nat := (nb U - 56 + 3) / 4
theorem ex0_lo {U e : Nat} (h : e < ex0 U) : 2 ^ 56 * 2 ^ (4 * e) ≤ U := by
  unfold ex0 at h
  have hU : 0 < U := by
    rcases Nat.eq_zero_or_pos U with h0 | h0
    · rw [h0, nb_zero] at h; omega
    · exact h0
  have h1 := nb_pos hU
  rw [← Nat.pow_add]
  exact Nat.le_trans (Nat.pow_le_pow_right (by omega) (by omega)) h1.1
theorem ex0_hi (U : Nat) : U < 2 ^ 56 * 2 ^ (4 * ex0 U) := by
  rw [← Nat.pow_add]
  rcases Nat.eq_zero_or_pos U with h0 | h0
  · rw [h0]; exact Nat.pow_pos (by omega)
  · have h1 := nb_pos h0
    refine Nat.lt_of_lt_of_le h1.2.1 (Nat.pow_le_pow_right (by omega) ?_)
    unfold ex0; omega
def LeastE (U : Nat) (x y : Int) (b : Bool) : Prop :=
  (b = true ∧ ex0 U < 128 ∧ U % 2 ^ (4 * ex0 U) = 0 ∧ x = (ex0 U : Int) ∧ y = ((U / 2 ^ (4 * ex0 U) : Nat) : Int)) ∨ (b = false ∧ ¬ (ex0 U < 128 ∧ U % 2 ^ (4 * ex0 U) = 0))
def RetLeast (w : World) (U : Nat) (e : Ending) (w' : World) : Prop := ∃ x y b, e = .returned (.tuple #[.int .i64 x, .int .u64 y, .bool b]) ∧ LeastE U x y b ∧ w.grownBy w' none
def Units (r : Rat) (U : Nat) (b : Bool) : Prop :=
  (b = true ∧ ∃ sh, sh ≤ 312 ∧ r.den = 2 ^ sh ∧ r.num.natAbs * 2 ^ (312 - sh) = U) ∨ (b = false ∧ ∀ s, s ≤ 312 → r.den ≠ 2 ^ s)
def RetUnits (w : World) (r : Rat) (e : Ending) (w' : World) : Prop := ∃ v U b, e = .returned (.tuple #[v, .bool b]) ∧ NatV w' v U ∧ Units r U b ∧ w.grownBy w' none
theorem Down_of (w : World) (va : Value) (a K : Nat) (ha : NatV w va a) (k : Int) (k' : Nat) (e : k = (k' : Int)) (hk : k' ≤ 65536) (hK : K ≤ 1073741824) (la : a < B ^ K) :
    Calls Tryd.prog 67 #[va, .int .i64 k] w (RetNatE w (a / 2 ^ k') 0) := by subst e; exact Down_some w va a K ha k' hk hK la
theorem Word_lt (w : World) (va : Value) (a K : Nat) (ha : NatV w va a) (hK : K ≤ 1073741824) (la : a < B ^ K) (hB : a < B) :
    Calls Tryd.prog 68 #[va] w (fun e w' => e = .returned (.tuple #[.int .u64 (a : Int), .bool true]) ∧ w.grownBy w' none) := by
  refine (Word_any w va a K ha hK la).mono ?_
  rintro e w' ⟨⟨x, rfl, h1, _⟩, hg⟩
  rw [h1 hB, decide_eq_true hB]
  exact ⟨rfl, hg⟩
set_option maxHeartbeats 16000000 in
theorem Least_any (w : World) (va : Value) (U K : Nat) (Ha : NatV w va U) (hK : K ≤ 400000) (la : U < B ^ K) :
    Calls Tryd.prog 38 #[va] w (RetLeast w U) := by
  have Hla := Lib.hid la
  clear la
  obtain ⟨k, hk⟩ : ∃ k, nb U = k := ⟨_, rfl⟩
  obtain ⟨x, hx⟩ : ∃ x, ex0 U = x := ⟨_, rfl⟩
  have hxk : x = (k - 56 + 3) / 4 := by rw [← hx, ← hk]; rfl
  obtain ⟨P, hP⟩ : ∃ P, RetLeast w U = P := ⟨_, rfl⟩
  have no : ∀ W, w.grownBy W none → Hid (¬ (x < 128 ∧ U % 2 ^ (4 * x) = 0)) → P (.returned (.tuple #[.int .i64 0, .int .u64 0, .bool false])) W := fun W hg h => by
    rw [← hP]; exact ⟨0, 0, false, rfl, Or.inr ⟨rfl, by rw [hx]; exact h.out⟩, hg⟩
  have yes : ∀ W x', w.grownBy W none → x' = (x : Int) → Hid (x < 128 ∧ U % 2 ^ (4 * x) = 0) → P (.returned (.tuple #[.int .i64 x', .int .u64 ((U / 2 ^ (4 * x) : Nat) : Int), .bool true])) W := fun W x' hg e h => by
    rw [← hP, e]; exact ⟨_, _, true, rfl, Or.inl ⟨rfl, by rw [hx]; exact h.out.1, by rw [hx]; exact h.out.2, by rw [hx], by rw [hx]⟩, hg⟩
  have hhi : U < 2 ^ 56 * 2 ^ (4 * x) := by have := ex0_hi U; rw [hx] at this; exact this
  have hm : U / 2 ^ (4 * x) < 2 ^ 56 := Nat.div_lt_of_lt_mul (by rw [Nat.mul_comm]; exact hhi)
  have HM : Hid (U / 2 ^ (4 * x) < 2 ^ 56) := Lib.hid hm
  have HNO := Lib.hid no
  have HYES := Lib.hid yes
  have HK := Lib.hid hk
  have HXK := Lib.hid hxk
  rw [hP]
  clear hP hx no yes hhi hm hk hxk
  have hB : 2 ^ 56 < B := by unfold B; decide
  have hk9 : k ≤ 25600000 := by
    rcases Nat.eq_zero_or_pos U with h0 | h0
    · rw [← HK.out, h0, nb_zero]; omega
    · have h1 := nb_pos h0
      have h2 : U < 2 ^ (64 * K) := by rw [Nat.pow_mul]; exact Hla.out
      have h3 : 2 ^ (nb U - 1) < 2 ^ (64 * K) := Nat.lt_of_le_of_lt h1.1 h2
      have h4 := (Nat.pow_lt_pow_iff_right (by omega : 1 < 2)).1 h3
      rw [HK.out] at h4
      omega
  obtain ⟨sa, xa, rfl, ha, va⟩ := Ha
  have hG : w.grownBy (w.alloc (.cells #[.slice sa xa.length xa.length] 26)) none := (World.grownBy_alloc _ _ _)
  have Ba := (heap_new w (.cells #[.slice sa xa.length xa.length] 26) (w.heap.size) rfl)
  have na : NatV (w.alloc (.cells #[.slice sa xa.length xa.length] 26)) (.agg #[.slice sa xa.length xa.length]) (U) := ⟨sa, xa, rfl, ha.kept hG, va⟩
  have oa : NatV w (.agg #[.slice sa xa.length xa.length]) (U) := ⟨sa, xa, rfl, ha, va⟩
  clear ha va
  go_enter Tryd.func38, Tryd.ntmps38
  obtain ⟨Ca0, Fa0⟩ := box_cell Ba
  go_wp2_with fail
  generalize (w.alloc (.cells #[.slice sa xa.length xa.length] 26)) = w0 at *
  clear Ca0 Fa0
  refine (Bits_any w0 _ U K na (by omega) Hla.out).mono ?_
  rintro e w1 ⟨rfl, gw1⟩
  rw [HK.out]
  replace Ba := heap_kept gw1 Ba
  replace na := na.kept gw1
  replace hG := grown_trans hG gw1
  clear gw1
  obtain ⟨Ca0, Fa0⟩ := box_cell Ba
  by_cases h56 : 56 < k
  · skip
    have fx : ((k : Int) - 56 + 4 - 1) / 4 = (x : Int) := by have := HXK.out; omega
    by_cases h127 : 127 < x
    · skip
      go_wp2_with fail
      go_ret3
      exact HNO.out _ hG (Lib.hid (fun h => by omega))
    · skip
      go_wp2_with fail
      clear Ca0 Fa0
      refine (Down_of w1 _ U K na _ (4 * x) (by omega) (by omega) (by omega) Hla.out).mono ?_
      rintro e u1yw2 ⟨_, rfl, ⟨sd, xd, rfl, hd, vd⟩, gu1yw2⟩
      have nd : NatV u1yw2 (.agg #[.slice sd xd.length xd.length]) (U / 2 ^ (4 * x)) := ⟨sd, xd, rfl, hd, vd⟩
      replace Ba := heap_kept gu1yw2 Ba
      replace na := na.kept gu1yw2
      replace hG := grown_trans hG gu1yw2
      clear gu1yw2
      clear hd vd
      obtain ⟨Ca0, Fa0⟩ := box_cell Ba
      have gbu1yw2 := (World.grownBy_alloc u1yw2 (.cells #[.slice sd xd.length xd.length] 26) none)
      have Bd := (heap_new u1yw2 (.cells #[.slice sd xd.length xd.length] 26) (u1yw2.heap.size) rfl)
      have hzu1yw2 : Hid (w.heap.size ≤ u1yw2.heap.size) := Lib.hid hG.size
      have hlau1yw2 : Hid (w.heap.size < u1yw2.heap.size) := Lib.hid (Array.getElem?_eq_some_iff.1 Ba).1
      clear Ca0 Fa0
      replace Ba := heap_kept gbu1yw2 Ba
      replace na := na.kept gbu1yw2
      replace nd := nd.kept gbu1yw2
      replace hG := grown_trans hG gbu1yw2
      clear gbu1yw2
      obtain ⟨Ca0, Fa0⟩ := box_cell Ba
      obtain ⟨Cd0, Fd0⟩ := box_cell Bd
      go_wp2_with fail
      have ld : U / 2 ^ (4 * x) < B ^ K := Nat.lt_of_le_of_lt (Nat.div_le_self _ _) Hla.out
      generalize (u1yw2.alloc (.cells #[.slice sd xd.length xd.length] 26)) = u1yw3 at *
      generalize u1yw2.heap.size = au1yw2 at *
      replace hzu1yw2 := hzu1yw2.out
      replace hlau1yw2 := hlau1yw2.out
      clear Ca0 Fa0 Cd0 Fd0
      refine (Up_of u1yw3 _ (U / 2 ^ (4 * x)) K nd _ (4 * x) (by omega) (by omega) (by omega) ld).mono ?_
      rintro e u1yw4 ⟨_, rfl, ⟨st, xt, rfl, ht, vt⟩, gu1yw4⟩
      have nt : NatV u1yw4 (.agg #[.slice st xt.length xt.length]) (U / 2 ^ (4 * x) * 2 ^ (4 * x)) := ⟨st, xt, rfl, ht, vt⟩
      replace Ba := heap_kept gu1yw4 Ba
      replace Bd := heap_kept gu1yw4 Bd
      replace na := na.kept gu1yw4
      replace nd := nd.kept gu1yw4
      replace hG := grown_trans hG gu1yw4
      clear gu1yw4
      clear ht vt
      obtain ⟨Ca0, Fa0⟩ := box_cell Ba
      obtain ⟨Cd0, Fd0⟩ := box_cell Bd
      have gbu1yw4 := (World.grownBy_alloc u1yw4 (.cells #[.slice st xt.length xt.length] 26) none)
      have Bt := (heap_new u1yw4 (.cells #[.slice st xt.length xt.length] 26) (u1yw4.heap.size) rfl)
      have hzu1yw4 : Hid (w.heap.size ≤ u1yw4.heap.size) := Lib.hid hG.size
      have hlau1yw4 : Hid (w.heap.size < u1yw4.heap.size) := Lib.hid (Array.getElem?_eq_some_iff.1 Ba).1
      have hldu1yw4 : Hid (au1yw2 < u1yw4.heap.size) := Lib.hid (Array.getElem?_eq_some_iff.1 Bd).1
      clear Ca0 Fa0 Cd0 Fd0
      replace Ba := heap_kept gbu1yw4 Ba
      replace Bd := heap_kept gbu1yw4 Bd
      replace na := na.kept gbu1yw4
      replace nd := nd.kept gbu1yw4
      replace nt := nt.kept gbu1yw4
      replace hG := grown_trans hG gbu1yw4
      clear gbu1yw4
      obtain ⟨Ca0, Fa0⟩ := box_cell Ba
      obtain ⟨Cd0, Fd0⟩ := box_cell Bd
      obtain ⟨Ct0, Ft0⟩ := box_cell Bt
      go_wp2_with fail
      have lt9 : U / 2 ^ (4 * x) * 2 ^ (4 * x) < B ^ K := Nat.lt_of_le_of_lt (Nat.div_mul_le_self _ _) Hla.out
      generalize (u1yw4.alloc (.cells #[.slice st xt.length xt.length] 26)) = u1yw5 at *
      generalize u1yw4.heap.size = au1yw4 at *
      replace hzu1yw4 := hzu1yw4.out
      replace hlau1yw4 := hlau1yw4.out
      replace hldu1yw4 := hldu1yw4.out
      clear Ca0 Fa0 Cd0 Fd0 Ct0 Ft0
      refine (Cmp_any u1yw5 _ _ (U / 2 ^ (4 * x) * 2 ^ (4 * x)) U K nt na (by omega) lt9 Hla.out).mono ?_
      rintro e u1yw6 ⟨rfl, gu1yw6⟩
      replace Ba := heap_kept gu1yw6 Ba
      replace Bd := heap_kept gu1yw6 Bd
      replace Bt := heap_kept gu1yw6 Bt
      replace na := na.kept gu1yw6
      replace nd := nd.kept gu1yw6
      replace nt := nt.kept gu1yw6
      replace hG := grown_trans hG gu1yw6
      clear gu1yw6
      obtain ⟨Ca0, Fa0⟩ := box_cell Ba
      obtain ⟨Cd0, Fd0⟩ := box_cell Bd
      obtain ⟨Ct0, Ft0⟩ := box_cell Bt
      by_cases hdv : U % 2 ^ (4 * x) = 0
      · skip
        rw [cmpInt_eq (Nat.div_mul_cancel (Nat.dvd_of_mod_eq_zero hdv))]
        have HDV := Lib.hid hdv; clear hdv lt9
        go_wp2_with fail
        clear Ca0 Fa0 Cd0 Fd0 Ct0 Ft0
        refine (Word_lt u1yw6 _ (U / 2 ^ (4 * x)) K nd (by omega) ld (Nat.lt_trans HM.out hB)).mono ?_
        rintro e u1ypw7 ⟨rfl, gu1ypw7⟩
        replace Ba := heap_kept gu1ypw7 Ba
        replace Bd := heap_kept gu1ypw7 Bd
        replace Bt := heap_kept gu1ypw7 Bt
        replace na := na.kept gu1ypw7
        replace nd := nd.kept gu1ypw7
        replace nt := nt.kept gu1ypw7
        replace hG := grown_trans hG gu1ypw7
        clear gu1ypw7
        obtain ⟨Ca0, Fa0⟩ := box_cell Ba
        obtain ⟨Cd0, Fd0⟩ := box_cell Bd
        obtain ⟨Ct0, Ft0⟩ := box_cell Bt
        go_wp2_with fail
        go_ret3
        refine HYES.out _ _ hG ?_ (Lib.hid ⟨by omega, HDV.out⟩)
        first | rfl | omega
      · skip
        have hne : U / 2 ^ (4 * x) * 2 ^ (4 * x) < U := by
          have h1 := Nat.div_add_mod' U (2 ^ (4 * x))
          omega
        rw [cmpInt_lt hne]
        have HDV := Lib.hid hdv; clear hdv lt9 hne
        go_wp2_with fail
        go_ret3
        exact HNO.out _ hG (Lib.hid (fun h => HDV.out h.2))
  · skip
    obtain rfl : x = 0 := by have := HXK.out; omega
    go_wp2_with fail
    clear Ca0 Fa0
    refine (Down_of w1 _ U K na _ (4 * 0) (by omega) (by omega) (by omega) Hla.out).mono ?_
    rintro e u0w2 ⟨_, rfl, ⟨sd, xd, rfl, hd, vd⟩, gu0w2⟩
    have nd : NatV u0w2 (.agg #[.slice sd xd.length xd.length]) (U / 2 ^ (4 * 0)) := ⟨sd, xd, rfl, hd, vd⟩
    replace Ba := heap_kept gu0w2 Ba
    replace na := na.kept gu0w2
    replace hG := grown_trans hG gu0w2
    clear gu0w2
    clear hd vd
    obtain ⟨Ca0, Fa0⟩ := box_cell Ba
    have gbu0w2 := (World.grownBy_alloc u0w2 (.cells #[.slice sd xd.length xd.length] 26) none)
    have Bd := (heap_new u0w2 (.cells #[.slice sd xd.length xd.length] 26) (u0w2.heap.size) rfl)
    have hzu0w2 : Hid (w.heap.size ≤ u0w2.heap.size) := Lib.hid hG.size
    have hlau0w2 : Hid (w.heap.size < u0w2.heap.size) := Lib.hid (Array.getElem?_eq_some_iff.1 Ba).1
    clear Ca0 Fa0
    replace Ba := heap_kept gbu0w2 Ba
    replace na := na.kept gbu0w2
    replace nd := nd.kept gbu0w2
    replace hG := grown_trans hG gbu0w2
    clear gbu0w2
    obtain ⟨Ca0, Fa0⟩ := box_cell Ba
    obtain ⟨Cd0, Fd0⟩ := box_cell Bd
    go_wp2_with fail
    have ld : U / 2 ^ (4 * 0) < B ^ K := Nat.lt_of_le_of_lt (Nat.div_le_self _ _) Hla.out
    generalize (u0w2.alloc (.cells #[.slice sd xd.length xd.length] 26)) = u0w3 at *
    generalize u0w2.heap.size = au0w2 at *
    replace hzu0w2 := hzu0w2.out
    replace hlau0w2 := hlau0w2.out
    clear Ca0 Fa0 Cd0 Fd0
    refine (Up_of u0w3 _ (U / 2 ^ (4 * 0)) K nd _ (4 * 0) (by omega) (by omega) (by omega) ld).mono ?_
    rintro e u0w4 ⟨_, rfl, ⟨st, xt, rfl, ht, vt⟩, gu0w4⟩
    have nt : NatV u0w4 (.agg #[.slice st xt.length xt.length]) (U / 2 ^ (4 * 0) * 2 ^ (4 * 0)) := ⟨st, xt, rfl, ht, vt⟩
    replace Ba := heap_kept gu0w4 Ba
    replace Bd := heap_kept gu0w4 Bd
    replace na := na.kept gu0w4
    replace nd := nd.kept gu0w4
    replace hG := grown_trans hG gu0w4
    clear gu0w4
    clear ht vt
    obtain ⟨Ca0, Fa0⟩ := box_cell Ba
    obtain ⟨Cd0, Fd0⟩ := box_cell Bd
    have gbu0w4 := (World.grownBy_alloc u0w4 (.cells #[.slice st xt.length xt.length] 26) none)
    have Bt := (heap_new u0w4 (.cells #[.slice st xt.length xt.length] 26) (u0w4.heap.size) rfl)
    have hzu0w4 : Hid (w.heap.size ≤ u0w4.heap.size) := Lib.hid hG.size
    have hlau0w4 : Hid (w.heap.size < u0w4.heap.size) := Lib.hid (Array.getElem?_eq_some_iff.1 Ba).1
    have hldu0w4 : Hid (au0w2 < u0w4.heap.size) := Lib.hid (Array.getElem?_eq_some_iff.1 Bd).1
    clear Ca0 Fa0 Cd0 Fd0
    replace Ba := heap_kept gbu0w4 Ba
    replace Bd := heap_kept gbu0w4 Bd
    replace na := na.kept gbu0w4
    replace nd := nd.kept gbu0w4
    replace nt := nt.kept gbu0w4
    replace hG := grown_trans hG gbu0w4
    clear gbu0w4
    obtain ⟨Ca0, Fa0⟩ := box_cell Ba
    obtain ⟨Cd0, Fd0⟩ := box_cell Bd
    obtain ⟨Ct0, Ft0⟩ := box_cell Bt
    go_wp2_with fail
    have lt9 : U / 2 ^ (4 * 0) * 2 ^ (4 * 0) < B ^ K := Nat.lt_of_le_of_lt (Nat.div_mul_le_self _ _) Hla.out
    generalize (u0w4.alloc (.cells #[.slice st xt.length xt.length] 26)) = u0w5 at *
    generalize u0w4.heap.size = au0w4 at *
    replace hzu0w4 := hzu0w4.out
    replace hlau0w4 := hlau0w4.out
    replace hldu0w4 := hldu0w4.out
    clear Ca0 Fa0 Cd0 Fd0 Ct0 Ft0
    refine (Cmp_any u0w5 _ _ (U / 2 ^ (4 * 0) * 2 ^ (4 * 0)) U K nt na (by omega) lt9 Hla.out).mono ?_
    rintro e u0w6 ⟨rfl, gu0w6⟩
    replace Ba := heap_kept gu0w6 Ba
    replace Bd := heap_kept gu0w6 Bd
    replace Bt := heap_kept gu0w6 Bt
    replace na := na.kept gu0w6
    replace nd := nd.kept gu0w6
    replace nt := nt.kept gu0w6
    replace hG := grown_trans hG gu0w6
    clear gu0w6
    obtain ⟨Ca0, Fa0⟩ := box_cell Ba
    obtain ⟨Cd0, Fd0⟩ := box_cell Bd
    obtain ⟨Ct0, Ft0⟩ := box_cell Bt
    by_cases hdv : U % 2 ^ (4 * 0) = 0
    · skip
      rw [cmpInt_eq (Nat.div_mul_cancel (Nat.dvd_of_mod_eq_zero hdv))]
      have HDV := Lib.hid hdv; clear hdv lt9
      go_wp2_with fail
      clear Ca0 Fa0 Cd0 Fd0 Ct0 Ft0
      refine (Word_lt u0w6 _ (U / 2 ^ (4 * 0)) K nd (by omega) ld (Nat.lt_trans HM.out hB)).mono ?_
      rintro e u0pw7 ⟨rfl, gu0pw7⟩
      replace Ba := heap_kept gu0pw7 Ba
      replace Bd := heap_kept gu0pw7 Bd
      replace Bt := heap_kept gu0pw7 Bt
      replace na := na.kept gu0pw7
      replace nd := nd.kept gu0pw7
      replace nt := nt.kept gu0pw7
      replace hG := grown_trans hG gu0pw7
      clear gu0pw7
      obtain ⟨Ca0, Fa0⟩ := box_cell Ba
      obtain ⟨Cd0, Fd0⟩ := box_cell Bd
      obtain ⟨Ct0, Ft0⟩ := box_cell Bt
      go_wp2_with fail
      go_ret3
      have h := HYES.out _ 0 hG rfl (Lib.hid ⟨by omega, HDV.out⟩)
      simp only [Nat.mul_zero, Nat.pow_zero, Nat.div_one] at h
      exact h
    · skip
      have hne : U / 2 ^ (4 * 0) * 2 ^ (4 * 0) < U := by
        have h1 := Nat.div_add_mod' U (2 ^ (4 * 0))
        omega
      rw [cmpInt_lt hne]
      have HDV := Lib.hid hdv; clear hdv lt9 hne
      go_wp2_with fail
      go_ret3
      exact HNO.out _ hG (Lib.hid (fun h => HDV.out h.2))
set_option maxHeartbeats 16000000 in
theorem Units_any (w : World) (va : Value) (r : Rat) (K : Nat) (Ha : RatV w va r) (hK : K ≤ 400000) (ln : r.num.natAbs < B ^ K) (ld : r.den < B ^ K) :
    Calls Tryd.prog 37 #[va] w (RetUnits w r) := by
  have Hln := Lib.hid ln
  have Hld := Lib.hid ld
  clear ln ld
  have hdp : (r.den : Int).natAbs = r.den := Int.natAbs_natCast _
  obtain ⟨d, hd⟩ : ∃ d, r.den = d := ⟨_, rfl⟩
  obtain ⟨k, hk⟩ : ∃ k, nb d = k := ⟨_, rfl⟩
  have hd0 : 0 < d := by rw [← hd]; exact r.den_pos
  have hk0 := nb_pos hd0
  rw [hk] at hk0
  obtain ⟨P, hP⟩ : ∃ P, RetUnits w r = P := ⟨_, rfl⟩
  have no : ∀ W, w.grownBy W none → Hid (∀ s, s ≤ 312 → d ≠ 2 ^ s) → P (.returned (.tuple #[.agg #[.slice none 0 0], .bool false])) W := fun W hg h => by
    rw [← hP]; exact ⟨_, 0, false, rfl, NatV.zero _, Or.inr ⟨rfl, by rw [hd]; exact h.out⟩, hg⟩
  have yes : ∀ W v, w.grownBy W none → NatV W v (r.num.natAbs * 2 ^ (312 - (k - 1))) → Hid (k - 1 ≤ 312 ∧ d = 2 ^ (k - 1)) → P (.returned (.tuple #[v, .bool true])) W := fun W v hg hv h => by
    rw [← hP]; exact ⟨_, _, true, rfl, hv, Or.inl ⟨rfl, k - 1, h.out.1, by rw [hd]; exact h.out.2, rfl⟩, hg⟩
  have Hld2 : Hid (d < B ^ K) := Lib.hid (by rw [← hd]; exact Hld.out)
  have HDE : Hid ((r.den : Int).natAbs = d) := Lib.hid (by rw [hdp, hd])
  have HD0 := Lib.hid hk0
  have hk9 : k ≤ 25600000 := by
    have h2 : d < 2 ^ (64 * K) := by rw [Nat.pow_mul]; exact Hld2.out
    have h3 : 2 ^ (k - 1) < 2 ^ (64 * K) := Nat.lt_of_le_of_lt hk0.1 h2
    have h4 := (Nat.pow_lt_pow_iff_right (by omega : 1 < 2)).1 h3
    omega
  have hk1 : 1 ≤ k := hk0.2.2
  have HNO := Lib.hid no
  have HYES := Lib.hid yes
  have HK := Lib.hid hk
  rw [hP]
  clear hP no yes hdp hd hk hk0
  obtain ⟨sa, xa, ba, sa', xa', ba', rfl, ha, ha'⟩ := Ha
  have hG : w.grownBy ((w.alloc (.cells #[.slice sa xa.length xa.length, .bool ba, .slice sa' xa'.length xa'.length, .bool ba'] 30)).alloc (.cells #[.slice none 0 0] 26)) none := (grown_alloc (World.grownBy_alloc _ _ _) _)
  have Ba := heap_kept (World.grownBy_alloc _ (.cells #[.slice none 0 0] 26) none) (heap_new w (.cells #[.slice sa xa.length xa.length, .bool ba, .slice sa' xa'.length xa'.length, .bool ba'] 30) (w.heap.size) rfl)
  have Bq := (heap_new (w.alloc (.cells #[.slice sa xa.length xa.length, .bool ba, .slice sa' xa'.length xa'.length, .bool ba'] 30)) (.cells #[.slice none 0 0] 26) (w.heap.size + 1) (by simp))
  have qa : RatV ((w.alloc (.cells #[.slice sa xa.length xa.length, .bool ba, .slice sa' xa'.length xa'.length, .bool ba'] 30)).alloc (.cells #[.slice none 0 0] 26)) (.agg #[.slice sa xa.length xa.length, .bool ba, .slice sa' xa'.length xa'.length, .bool ba']) (r) := ⟨sa, xa, ba, sa', xa', ba', rfl, ha.kept hG, ha'.kept hG⟩
  have oa : RatV w (.agg #[.slice sa xa.length xa.length, .bool ba, .slice sa' xa'.length xa'.length, .bool ba']) (r) := ⟨sa, xa, ba, sa', xa', ba', rfl, ha, ha'⟩
  clear ha ha'
  go_enter Tryd.func37, Tryd.ntmps37
  obtain ⟨Ca0, Ca1, Ca2, Ca3, Fa0, Fa1, Fa2, Fa3⟩ := box_cells4 Ba
  obtain ⟨Cq0, Fq0⟩ := box_cell Bq
  go_wp2_with fail
  generalize ((w.alloc (.cells #[.slice sa xa.length xa.length, .bool ba, .slice sa' xa'.length xa'.length, .bool ba'] 30)).alloc (.cells #[.slice none 0 0] 26)) = w0 at *
  clear Ca0 Ca1 Ca2 Ca3 Fa0 Fa1 Fa2 Fa3 Cq0 Fq0
  refine (FDen_any w0 _ r K qa (by omega) Hld.out).mono ?_
  rintro e w1 ⟨_, rfl, ⟨se, xe, be, rfl, he, ve, te⟩, gw1⟩
  have ie : IntV w1 (.agg #[.slice se xe.length xe.length, .bool be]) ((r.den : Int)) := ⟨se, xe, be, rfl, he, ve, te⟩
  replace Ba := heap_kept gw1 Ba
  replace Bq := heap_kept gw1 Bq
  replace qa := qa.kept gw1
  replace hG := grown_trans hG gw1
  clear gw1
  clear he ve te
  obtain ⟨Ca0, Ca1, Ca2, Ca3, Fa0, Fa1, Fa2, Fa3⟩ := box_cells4 Ba
  obtain ⟨Cq0, Fq0⟩ := box_cell Bq
  go_wp2_with fail
  clear Ca0 Ca1 Ca2 Ca3 Fa0 Fa1 Fa2 Fa3 Cq0 Fq0
  refine (Abs_any w1 _ (r.den : Int) K ie (by omega) (by rw [HDE.out]; exact Hld2.out)).mono ?_
  rintro e w2 ⟨_, rfl, ⟨sd, xd, rfl, hd, vd⟩, gw2⟩
  rw [HDE.out] at vd
  have nd : NatV w2 (.agg #[.slice sd xd.length xd.length]) (d) := ⟨sd, xd, rfl, hd, vd⟩
  replace Ba := heap_kept gw2 Ba
  replace Bq := heap_kept gw2 Bq
  replace qa := qa.kept gw2
  replace ie := ie.kept gw2
  replace hG := grown_trans hG gw2
  clear gw2
  clear hd vd
  obtain ⟨Ca0, Ca1, Ca2, Ca3, Fa0, Fa1, Fa2, Fa3⟩ := box_cells4 Ba
  obtain ⟨Cq0, Fq0⟩ := box_cell Bq
  have gbw2 := (World.grownBy_alloc w2 (.cells #[.slice sd xd.length xd.length] 26) none)
  have Bd := (heap_new w2 (.cells #[.slice sd xd.length xd.length] 26) (w2.heap.size) rfl)
  have hzw2 : Hid (w.heap.size ≤ w2.heap.size) := Lib.hid hG.size
  have hlaw2 : Hid (w.heap.size < w2.heap.size) := Lib.hid (Array.getElem?_eq_some_iff.1 Ba).1
  have hlqw2 : Hid (w.heap.size + 1 < w2.heap.size) := Lib.hid (Array.getElem?_eq_some_iff.1 Bq).1
  clear Ca0 Ca1 Ca2 Ca3 Fa0 Fa1 Fa2 Fa3 Cq0 Fq0
  replace Ba := heap_kept gbw2 Ba
  replace Bq := heap_kept gbw2 Bq
  replace qa := qa.kept gbw2
  replace ie := ie.kept gbw2
  replace nd := nd.kept gbw2
  replace hG := grown_trans hG gbw2
  clear gbw2
  obtain ⟨Ca0, Ca1, Ca2, Ca3, Fa0, Fa1, Fa2, Fa3⟩ := box_cells4 Ba
  obtain ⟨Cq0, Fq0⟩ := box_cell Bq
  obtain ⟨Cd0, Fd0⟩ := box_cell Bd
  go_wp2_with fail
  generalize (w2.alloc (.cells #[.slice sd xd.length xd.length] 26)) = w3 at *
  generalize w2.heap.size = aw2 at *
  replace hzw2 := hzw2.out
  replace hlaw2 := hlaw2.out
  replace hlqw2 := hlqw2.out
  clear Ca0 Ca1 Ca2 Ca3 Fa0 Fa1 Fa2 Fa3 Cq0 Fq0 Cd0 Fd0
  refine (Bits_any w3 _ d K nd (by omega) Hld2.out).mono ?_
  rintro e w4 ⟨rfl, gw4⟩
  rw [HK.out]
  replace Ba := heap_kept gw4 Ba
  replace Bq := heap_kept gw4 Bq
  replace Bd := heap_kept gw4 Bd
  replace qa := qa.kept gw4
  replace ie := ie.kept gw4
  replace nd := nd.kept gw4
  replace hG := grown_trans hG gw4
  clear gw4
  obtain ⟨Ca0, Ca1, Ca2, Ca3, Fa0, Fa1, Fa2, Fa3⟩ := box_cells4 Ba
  obtain ⟨Cq0, Fq0⟩ := box_cell Bq
  obtain ⟨Cd0, Fd0⟩ := box_cell Bd
  by_cases h312 : 313 < k
  · skip
    have f1 : decide (312 < (k : Int) - 1) = true := decide_eq_true (by omega)
    clear Ca0 Ca1 Ca2 Ca3 Fa0 Fa1 Fa2 Fa3 Cq0 Fq0 Cd0 Fd0
    obtain ⟨k90, k91⟩ := box_cell Bq
    obtain ⟨q90, q91⟩ := box_cell (heap_set Bq (.slice none 0 0))
    have hF := Lib.hid (HNO.out _ (grown_set1 (g := w.heap.size + 1) hG (by omega) (.slice none 0 0)) (Lib.hid (fun s hs e => by
      have h1 := HD0.out.1
      rw [e] at h1
      have h2 := (Nat.pow_le_pow_iff_right (by omega : 1 < 2)).1 h1
      omega)))
    go_wp2_with fail
    exact bodyPost_ret (v := .tuple #[.agg #[.slice none 0 0], .bool false]) (by simp [results, Tryd.results37, go_sem, q90]) rfl hF.out
  · skip
    go_wp2_with fail
    clear Ca0 Ca1 Ca2 Ca3 Fa0 Fa1 Fa2 Fa3 Cq0 Fq0 Cd0 Fd0
    refine (Of_one w4).mono ?_
    rintro e yw5 ⟨_, rfl, ⟨so, xo, rfl, ho, vo⟩, gyw5⟩
    have no : NatV yw5 (.agg #[.slice so xo.length xo.length]) (1) := ⟨so, xo, rfl, ho, vo⟩
    replace Ba := heap_kept gyw5 Ba
    replace Bq := heap_kept gyw5 Bq
    replace Bd := heap_kept gyw5 Bd
    replace qa := qa.kept gyw5
    replace ie := ie.kept gyw5
    replace nd := nd.kept gyw5
    replace hG := grown_trans hG gyw5
    clear gyw5
    clear ho vo
    obtain ⟨Ca0, Ca1, Ca2, Ca3, Fa0, Fa1, Fa2, Fa3⟩ := box_cells4 Ba
    obtain ⟨Cq0, Fq0⟩ := box_cell Bq
    obtain ⟨Cd0, Fd0⟩ := box_cell Bd
    go_wp2_with fail
    clear Ca0 Ca1 Ca2 Ca3 Fa0 Fa1 Fa2 Fa3 Cq0 Fq0 Cd0 Fd0
    refine (Up_of yw5 _ 1 1 no _ (k - 1) (by omega) (by omega) (by omega) (by unfold B; decide)).mono ?_
    rintro e yw6 ⟨_, rfl, ⟨sp, xp, rfl, hp, vp⟩, gyw6⟩
    have np : NatV yw6 (.agg #[.slice sp xp.length xp.length]) (1 * 2 ^ (k - 1)) := ⟨sp, xp, rfl, hp, vp⟩
    replace Ba := heap_kept gyw6 Ba
    replace Bq := heap_kept gyw6 Bq
    replace Bd := heap_kept gyw6 Bd
    replace qa := qa.kept gyw6
    replace ie := ie.kept gyw6
    replace nd := nd.kept gyw6
    replace no := no.kept gyw6
    replace hG := grown_trans hG gyw6
    clear gyw6
    clear hp vp
    obtain ⟨Ca0, Ca1, Ca2, Ca3, Fa0, Fa1, Fa2, Fa3⟩ := box_cells4 Ba
    obtain ⟨Cq0, Fq0⟩ := box_cell Bq
    obtain ⟨Cd0, Fd0⟩ := box_cell Bd
    have gbyw6 := (World.grownBy_alloc yw6 (.cells #[.slice sp xp.length xp.length] 26) none)
    have Bp := (heap_new yw6 (.cells #[.slice sp xp.length xp.length] 26) (yw6.heap.size) rfl)
    have hzyw6 : Hid (w.heap.size ≤ yw6.heap.size) := Lib.hid hG.size
    have hlayw6 : Hid (w.heap.size < yw6.heap.size) := Lib.hid (Array.getElem?_eq_some_iff.1 Ba).1
    have hlqyw6 : Hid (w.heap.size + 1 < yw6.heap.size) := Lib.hid (Array.getElem?_eq_some_iff.1 Bq).1
    have hldyw6 : Hid (aw2 < yw6.heap.size) := Lib.hid (Array.getElem?_eq_some_iff.1 Bd).1
    clear Ca0 Ca1 Ca2 Ca3 Fa0 Fa1 Fa2 Fa3 Cq0 Fq0 Cd0 Fd0
    replace Ba := heap_kept gbyw6 Ba
    replace Bq := heap_kept gbyw6 Bq
    replace Bd := heap_kept gbyw6 Bd
    replace qa := qa.kept gbyw6
    replace ie := ie.kept gbyw6
    replace nd := nd.kept gbyw6
    replace no := no.kept gbyw6
    replace np := np.kept gbyw6
    replace hG := grown_trans hG gbyw6
    clear gbyw6
    obtain ⟨Ca0, Ca1, Ca2, Ca3, Fa0, Fa1, Fa2, Fa3⟩ := box_cells4 Ba
    obtain ⟨Cq0, Fq0⟩ := box_cell Bq
    obtain ⟨Cd0, Fd0⟩ := box_cell Bd
    obtain ⟨Cp0, Fp0⟩ := box_cell Bp
    go_wp2_with fail
    have lp : 1 * 2 ^ (k - 1) < B ^ K := by rw [Nat.one_mul]; exact Nat.lt_of_le_of_lt HD0.out.1 Hld2.out
    generalize (yw6.alloc (.cells #[.slice sp xp.length xp.length] 26)) = yw7 at *
    generalize yw6.heap.size = ayw6 at *
    replace hzyw6 := hzyw6.out
    replace hlayw6 := hlayw6.out
    replace hlqyw6 := hlqyw6.out
    replace hldyw6 := hldyw6.out
    clear Ca0 Ca1 Ca2 Ca3 Fa0 Fa1 Fa2 Fa3 Cq0 Fq0 Cd0 Fd0 Cp0 Fp0
    refine (Cmp_any yw7 _ _ (1 * 2 ^ (k - 1)) d K np nd (by omega) lp Hld2.out).mono ?_
    rintro e yw8 ⟨rfl, gyw8⟩
    replace Ba := heap_kept gyw8 Ba
    replace Bq := heap_kept gyw8 Bq
    replace Bd := heap_kept gyw8 Bd
    replace Bp := heap_kept gyw8 Bp
    replace qa := qa.kept gyw8
    replace ie := ie.kept gyw8
    replace nd := nd.kept gyw8
    replace no := no.kept gyw8
    replace np := np.kept gyw8
    replace hG := grown_trans hG gyw8
    clear gyw8
    obtain ⟨Ca0, Ca1, Ca2, Ca3, Fa0, Fa1, Fa2, Fa3⟩ := box_cells4 Ba
    obtain ⟨Cq0, Fq0⟩ := box_cell Bq
    obtain ⟨Cd0, Fd0⟩ := box_cell Bd
    obtain ⟨Cp0, Fp0⟩ := box_cell Bp
    by_cases hp : d = 2 ^ (k - 1)
    · skip
      rw [cmpInt_eq (by rw [Nat.one_mul]; exact hp.symm)]
      have HPW := Lib.hid hp; clear hp lp
      go_wp2_with fail
      clear Ca0 Ca1 Ca2 Ca3 Fa0 Fa1 Fa2 Fa3 Cq0 Fq0 Cd0 Fd0 Cp0 Fp0
      refine (FNum_any yw8 _ r K qa (by omega) Hln.out).mono ?_
      rintro e yew9 ⟨_, rfl, ⟨sj, xj, bj, rfl, hj, vj, tj⟩, gyew9⟩
      have ij : IntV yew9 (.agg #[.slice sj xj.length xj.length, .bool bj]) (r.num) := ⟨sj, xj, bj, rfl, hj, vj, tj⟩
      replace Ba := heap_kept gyew9 Ba
      replace Bq := heap_kept gyew9 Bq
      replace Bd := heap_kept gyew9 Bd
      replace Bp := heap_kept gyew9 Bp
      replace qa := qa.kept gyew9
      replace ie := ie.kept gyew9
      replace nd := nd.kept gyew9
      replace no := no.kept gyew9
      replace np := np.kept gyew9
      replace hG := grown_trans hG gyew9
      clear gyew9
      clear hj vj tj
      obtain ⟨Ca0, Ca1, Ca2, Ca3, Fa0, Fa1, Fa2, Fa3⟩ := box_cells4 Ba
      obtain ⟨Cq0, Fq0⟩ := box_cell Bq
      obtain ⟨Cd0, Fd0⟩ := box_cell Bd
      obtain ⟨Cp0, Fp0⟩ := box_cell Bp
      go_wp2_with fail
      clear Ca0 Ca1 Ca2 Ca3 Fa0 Fa1 Fa2 Fa3 Cq0 Fq0 Cd0 Fd0 Cp0 Fp0
      refine (Abs_any yew9 _ r.num K ij (by omega) Hln.out).mono ?_
      rintro e yew10 ⟨_, rfl, ⟨sb, xb, rfl, hb, vb⟩, gyew10⟩
      have nb : NatV yew10 (.agg #[.slice sb xb.length xb.length]) (r.num.natAbs) := ⟨sb, xb, rfl, hb, vb⟩
      replace Ba := heap_kept gyew10 Ba
      replace Bq := heap_kept gyew10 Bq
      replace Bd := heap_kept gyew10 Bd
      replace Bp := heap_kept gyew10 Bp
      replace qa := qa.kept gyew10
      replace ie := ie.kept gyew10
      replace nd := nd.kept gyew10
      replace no := no.kept gyew10
      replace np := np.kept gyew10
      replace ij := ij.kept gyew10
      replace hG := grown_trans hG gyew10
      clear gyew10
      clear hb vb
      obtain ⟨Ca0, Ca1, Ca2, Ca3, Fa0, Fa1, Fa2, Fa3⟩ := box_cells4 Ba
      obtain ⟨Cq0, Fq0⟩ := box_cell Bq
      obtain ⟨Cd0, Fd0⟩ := box_cell Bd
      obtain ⟨Cp0, Fp0⟩ := box_cell Bp
      go_wp2_with fail
      clear Ca0 Ca1 Ca2 Ca3 Fa0 Fa1 Fa2 Fa3 Cq0 Fq0 Cd0 Fd0 Cp0 Fp0
      refine (Up_of yew10 _ r.num.natAbs K nb _ (312 - (k - 1)) (by omega) (by omega) (by omega) Hln.out).mono ?_
      rintro e yew11 ⟨_, rfl, ⟨su, xu, rfl, hu, vu⟩, gyew11⟩
      have nu : NatV yew11 (.agg #[.slice su xu.length xu.length]) (r.num.natAbs * 2 ^ (312 - (k - 1))) := ⟨su, xu, rfl, hu, vu⟩
      replace Ba := heap_kept gyew11 Ba
      replace Bq := heap_kept gyew11 Bq
      replace Bd := heap_kept gyew11 Bd
      replace Bp := heap_kept gyew11 Bp
      replace qa := qa.kept gyew11
      replace ie := ie.kept gyew11
      replace nd := nd.kept gyew11
      replace no := no.kept gyew11
      replace np := np.kept gyew11
      replace ij := ij.kept gyew11
      replace nb := nb.kept gyew11
      replace hG := grown_trans hG gyew11
      clear gyew11
      clear hu vu
      obtain ⟨Ca0, Ca1, Ca2, Ca3, Fa0, Fa1, Fa2, Fa3⟩ := box_cells4 Ba
      obtain ⟨Cq0, Fq0⟩ := box_cell Bq
      obtain ⟨Cd0, Fd0⟩ := box_cell Bd
      obtain ⟨Cp0, Fp0⟩ := box_cell Bp
      have gbyew11 := (World.grownBy_alloc yew11 (.cells #[.slice su xu.length xu.length] 26) none)
      have Bu := (heap_new yew11 (.cells #[.slice su xu.length xu.length] 26) (yew11.heap.size) rfl)
      have hzyew11 : Hid (w.heap.size ≤ yew11.heap.size) := Lib.hid hG.size
      have hlayew11 : Hid (w.heap.size < yew11.heap.size) := Lib.hid (Array.getElem?_eq_some_iff.1 Ba).1
      have hlqyew11 : Hid (w.heap.size + 1 < yew11.heap.size) := Lib.hid (Array.getElem?_eq_some_iff.1 Bq).1
      have hldyew11 : Hid (aw2 < yew11.heap.size) := Lib.hid (Array.getElem?_eq_some_iff.1 Bd).1
      have hlpyew11 : Hid (ayw6 < yew11.heap.size) := Lib.hid (Array.getElem?_eq_some_iff.1 Bp).1
      clear Ca0 Ca1 Ca2 Ca3 Fa0 Fa1 Fa2 Fa3 Cq0 Fq0 Cd0 Fd0 Cp0 Fp0
      replace Ba := heap_kept gbyew11 Ba
      replace Bq := heap_kept gbyew11 Bq
      replace Bd := heap_kept gbyew11 Bd
      replace Bp := heap_kept gbyew11 Bp
      replace qa := qa.kept gbyew11
      replace ie := ie.kept gbyew11
      replace nd := nd.kept gbyew11
      replace no := no.kept gbyew11
      replace np := np.kept gbyew11
      replace ij := ij.kept gbyew11
      replace nb := nb.kept gbyew11
      replace nu := nu.kept gbyew11
      replace hG := grown_trans hG gbyew11
      clear gbyew11
      obtain ⟨Ca0, Ca1, Ca2, Ca3, Fa0, Fa1, Fa2, Fa3⟩ := box_cells4 Ba
      obtain ⟨Cq0, Fq0⟩ := box_cell Bq
      obtain ⟨Cd0, Fd0⟩ := box_cell Bd
      obtain ⟨Cp0, Fp0⟩ := box_cell Bp
      obtain ⟨Cu0, Fu0⟩ := box_cell Bu
      clear Ca0 Ca1 Ca2 Ca3 Fa0 Fa1 Fa2 Fa3 Cq0 Fq0 Cd0 Fd0 Cp0 Fp0 Cu0 Fu0
      obtain ⟨k90, k91⟩ := box_cell Bq
      obtain ⟨q90, q91⟩ := box_cell (heap_set Bq (.slice su xu.length xu.length))
      obtain ⟨Cu0, Fu0⟩ := box_cell Bu
      have hF := Lib.hid (HYES.out _ _ (grown_set1 (g := w.heap.size + 1) hG (by omega) (.slice su xu.length xu.length)) (nu.set1 Bq (.slice su xu.length xu.length)) (Lib.hid ⟨by omega, HPW.out⟩))
      go_wp2_with fail
      exact bodyPost_ret (v := .tuple #[.agg #[.slice su xu.length xu.length], .bool true]) (by simp [results, Tryd.results37, go_sem, q90]) rfl hF.out
    · skip
      rw [cmpInt_lt (show 1 * 2 ^ (k - 1) < d by have := HD0.out.1; omega)]
      have HPW := Lib.hid hp; clear hp lp
      clear Ca0 Ca1 Ca2 Ca3 Fa0 Fa1 Fa2 Fa3 Cq0 Fq0 Cd0 Fd0 Cp0 Fp0
      obtain ⟨k90, k91⟩ := box_cell Bq
      obtain ⟨q90, q91⟩ := box_cell (heap_set Bq (.slice none 0 0))
      have hF := Lib.hid (HNO.out _ (grown_set1 (g := w.heap.size + 1) hG (by omega) (.slice none 0 0)) (Lib.hid (fun s hs e => HPW.out (by
        have h1 := HD0.out.1
        have h2 := HD0.out.2.1
        rw [e] at h1 h2
        have h3 := (Nat.pow_le_pow_iff_right (by omega : 1 < 2)).1 h1
        have h4 := (Nat.pow_lt_pow_iff_right (by omega : 1 < 2)).1 h2
        rw [e, show s = k - 1 by omega]))))
      go_wp2_with fail
      exact bodyPost_ret (v := .tuple #[.agg #[.slice none 0 0], .bool false]) (by simp [results, Tryd.results37, go_sem, q90]) rfl hF.out
end Go.Proofs.YtldkddogadmpbaaDoor
namespace Go.Proofs.YtldkddogadmpbaaDoor
open Go.RowKit Mat
set_option maxRecDepth 100000
set_option linter.unusedVariables false
set_option linter.unusedSimpArgs false
def RetLaid (w : World) (l : List Nat) (e : Ending) (w' : World) : Prop := ∃ g, e = .returned (.slice (some ⟨g, 0, none⟩) 8 8) ∧ BySl w' (some ⟨g, 0, none⟩) l ∧ w.heap.size ≤ g ∧ w.grownBy w' none
theorem by_new (w : World) (T : TypeId) (x0 x1 x2 x3 x4 x5 x6 x7 : Nat) (hd : ∀ x ∈ [x0, x1, x2, x3, x4, x5, x6, x7], x < 256) :
    BySl (w.alloc (.cells #[.int .u8 (x0 : Int), .int .u8 (x1 : Int), .int .u8 (x2 : Int), .int .u8 (x3 : Int), .int .u8 (x4 : Int), .int .u8 (x5 : Int), .int .u8 (x6 : Int), .int .u8 (x7 : Int)] T)) (some ⟨w.heap.size, 0, none⟩) [x0, x1, x2, x3, x4, x5, x6, x7] := by
  refine ⟨Or.inr ⟨_, rfl, fun i hi => ?_⟩, hd⟩
  have hb := heap_new w (.cells #[.int .u8 (x0 : Int), .int .u8 (x1 : Int), .int .u8 (x2 : Int), .int .u8 (x3 : Int), .int .u8 (x4 : Int), .int .u8 (x5 : Int), .int .u8 (x6 : Int), .int .u8 (x7 : Int)] T) w.heap.size rfl
  have key : ∀ a : Addr, a.block = w.heap.size → a.spot = none → a.off = i → (w.alloc (.cells #[.int .u8 (x0 : Int), .int .u8 (x1 : Int), .int .u8 (x2 : Int), .int .u8 (x3 : Int), .int .u8 (x4 : Int), .int .u8 (x5 : Int), .int .u8 (x6 : Int), .int .u8 (x7 : Int)] T)).cell? a = some (.int .u8 (([x0, x1, x2, x3, x4, x5, x6, x7][i] : Nat) : Int)) := by
    intro a h1 h2 h3
    obtain ⟨ab, ao, ap⟩ := a
    simp only at h1 h2 h3
    subst h1 h2 h3
    simp only [World.cell?, hb]
    have : ao = 0 ∨ ao = 1 ∨ ao = 2 ∨ ao = 3 ∨ ao = 4 ∨ ao = 5 ∨ ao = 6 ∨ ao = 7 := by simp at hi; omega
    rcases this with rfl | rfl | rfl | rfl | rfl | rfl | rfl | rfl <;> rfl
  refine key _ ?_ ?_ ?_
  all_goals (unfold Addr.add; split <;> simp_all)
set_option maxHeartbeats 16000000 in
theorem laid_f (w : World) (e m : Nat) (he : e < 128) (hm : m < 2 ^ 56) :
    Calls Tryd.prog 39 #[.bool false, .int .i64 (e : Int), .int .u64 (m : Int)] w (RetLaid w (lay8 false e m)) := by
  have hd := lay_dig false e m he
  unfold lay8 at hd ⊢
  have h8 : m < 72057594037927936 := hm
  obtain ⟨y0, hy0⟩ : ∃ y, e + (if false = true then 128 else 0) = y := ⟨_, rfl⟩
  obtain ⟨y1, hy1⟩ : ∃ y, m / 2 ^ 48 % 256 = y := ⟨_, rfl⟩
  obtain ⟨y2, hy2⟩ : ∃ y, m / 2 ^ 40 % 256 = y := ⟨_, rfl⟩
  obtain ⟨y3, hy3⟩ : ∃ y, m / 2 ^ 32 % 256 = y := ⟨_, rfl⟩
  obtain ⟨y4, hy4⟩ : ∃ y, m / 2 ^ 24 % 256 = y := ⟨_, rfl⟩
  obtain ⟨y5, hy5⟩ : ∃ y, m / 2 ^ 16 % 256 = y := ⟨_, rfl⟩
  obtain ⟨y6, hy6⟩ : ∃ y, m / 2 ^ 8 % 256 = y := ⟨_, rfl⟩
  obtain ⟨y7, hy7⟩ : ∃ y, m % 256 = y := ⟨_, rfl⟩
  rw [hy0, hy1, hy2, hy3, hy4, hy5, hy6, hy7] at hd ⊢
  have z0 : (e : Int) + 0 = (y0 : Int) := by simp at hy0; omega
  have z1 : (m : Int) / 281474976710656 = (y1 : Int) := by omega
  have z2 : (m : Int) / 1099511627776 % 256 = (y2 : Int) := by omega
  have z3 : (m : Int) / 4294967296 % 256 = (y3 : Int) := by omega
  have z4 : (m : Int) / 16777216 % 256 = (y4 : Int) := by omega
  have z5 : (m : Int) / 65536 % 256 = (y5 : Int) := by omega
  have z6 : (m : Int) / 256 % 256 = (y6 : Int) := by omega
  have z7 : (m : Int) % 256 = (y7 : Int) := by omega
  have HN := Lib.hid (by_new w 99 y0 y1 y2 y3 y4 y5 y6 y7 hd)
  have HZ : Hid ((e : Int) + 0 = (y0 : Int) ∧ (m : Int) / 281474976710656 = (y1 : Int) ∧ (m : Int) / 1099511627776 % 256 = (y2 : Int) ∧ (m : Int) / 4294967296 % 256 = (y3 : Int) ∧ (m : Int) / 16777216 % 256 = (y4 : Int) ∧ (m : Int) / 65536 % 256 = (y5 : Int) ∧ (m : Int) / 256 % 256 = (y6 : Int) ∧ (m : Int) % 256 = (y7 : Int)) := ⟨z0, z1, z2, z3, z4, z5, z6, z7⟩
  clear hy0 hy1 hy2 hy3 hy4 hy5 hy6 hy7 z0 z1 z2 z3 z4 z5 z6 z7 hd
  go_enter Tryd.func39, Tryd.ntmps39
  go_wp2_with fail
  refine wp_loop_rounds 8 ?_
  rw [rounds_succ]; go_wp2_with fail
  rw [rounds_succ]; go_wp2_with fail
  rw [rounds_succ]; go_wp2_with fail
  rw [rounds_succ]; go_wp2_with fail
  rw [rounds_succ]; go_wp2_with fail
  rw [rounds_succ]; go_wp2_with fail
  rw [rounds_succ]; go_wp2_with fail
  rw [rounds_succ]; go_wp2_with fail
  go_ret
  obtain ⟨z0, z1, z2, z3, z4, z5, z6, z7⟩ := HZ.out
  rw [Int.add_zero] at z0
  rw [z0, z1, z2, z3, z4, z5, z6, z7]
  exact ⟨w.heap.size, rfl, HN.out, Nat.le_refl _, World.grownBy_alloc _ _ _⟩
set_option maxHeartbeats 16000000 in
theorem laid_t (w : World) (e m : Nat) (he : e < 128) (hm : m < 2 ^ 56) :
    Calls Tryd.prog 39 #[.bool true, .int .i64 (e : Int), .int .u64 (m : Int)] w (RetLaid w (lay8 true e m)) := by
  have hd := lay_dig true e m he
  unfold lay8 at hd ⊢
  have h8 : m < 72057594037927936 := hm
  obtain ⟨y0, hy0⟩ : ∃ y, e + (if true = true then 128 else 0) = y := ⟨_, rfl⟩
  obtain ⟨y1, hy1⟩ : ∃ y, m / 2 ^ 48 % 256 = y := ⟨_, rfl⟩
  obtain ⟨y2, hy2⟩ : ∃ y, m / 2 ^ 40 % 256 = y := ⟨_, rfl⟩
  obtain ⟨y3, hy3⟩ : ∃ y, m / 2 ^ 32 % 256 = y := ⟨_, rfl⟩
  obtain ⟨y4, hy4⟩ : ∃ y, m / 2 ^ 24 % 256 = y := ⟨_, rfl⟩
  obtain ⟨y5, hy5⟩ : ∃ y, m / 2 ^ 16 % 256 = y := ⟨_, rfl⟩
  obtain ⟨y6, hy6⟩ : ∃ y, m / 2 ^ 8 % 256 = y := ⟨_, rfl⟩
  obtain ⟨y7, hy7⟩ : ∃ y, m % 256 = y := ⟨_, rfl⟩
  rw [hy0, hy1, hy2, hy3, hy4, hy5, hy6, hy7] at hd ⊢
  have z0 : (e : Int) + 128 = (y0 : Int) := by simp at hy0; omega
  have z1 : (m : Int) / 281474976710656 = (y1 : Int) := by omega
  have z2 : (m : Int) / 1099511627776 % 256 = (y2 : Int) := by omega
  have z3 : (m : Int) / 4294967296 % 256 = (y3 : Int) := by omega
  have z4 : (m : Int) / 16777216 % 256 = (y4 : Int) := by omega
  have z5 : (m : Int) / 65536 % 256 = (y5 : Int) := by omega
  have z6 : (m : Int) / 256 % 256 = (y6 : Int) := by omega
  have z7 : (m : Int) % 256 = (y7 : Int) := by omega
  have HN := Lib.hid (by_new w 99 y0 y1 y2 y3 y4 y5 y6 y7 hd)
  have HZ : Hid ((e : Int) + 128 = (y0 : Int) ∧ (m : Int) / 281474976710656 = (y1 : Int) ∧ (m : Int) / 1099511627776 % 256 = (y2 : Int) ∧ (m : Int) / 4294967296 % 256 = (y3 : Int) ∧ (m : Int) / 16777216 % 256 = (y4 : Int) ∧ (m : Int) / 65536 % 256 = (y5 : Int) ∧ (m : Int) / 256 % 256 = (y6 : Int) ∧ (m : Int) % 256 = (y7 : Int)) := ⟨z0, z1, z2, z3, z4, z5, z6, z7⟩
  clear hy0 hy1 hy2 hy3 hy4 hy5 hy6 hy7 z0 z1 z2 z3 z4 z5 z6 z7 hd
  have g0 : bits .or .u8 (e : Int) 128 = (e : Int) + 128 := u8_or128_right _ (by omega) (by omega)
  go_enter Tryd.func39, Tryd.ntmps39
  go_wp2_with fail
  refine wp_loop_rounds 8 ?_
  rw [rounds_succ]; go_wp2_with fail
  rw [rounds_succ]; go_wp2_with fail
  rw [rounds_succ]; go_wp2_with fail
  rw [rounds_succ]; go_wp2_with fail
  rw [rounds_succ]; go_wp2_with fail
  rw [rounds_succ]; go_wp2_with fail
  rw [rounds_succ]; go_wp2_with fail
  rw [rounds_succ]; go_wp2_with fail
  go_ret
  obtain ⟨z0, z1, z2, z3, z4, z5, z6, z7⟩ := HZ.out
  rw [z0, z1, z2, z3, z4, z5, z6, z7]
  exact ⟨w.heap.size, rfl, HN.out, Nat.le_refl _, World.grownBy_alloc _ _ _⟩
theorem laid_any (w : World) (b : Bool) (e m : Nat) (he : e < 128) (hm : m < 2 ^ 56) :
    Calls Tryd.prog 39 #[.bool b, .int .i64 (e : Int), .int .u64 (m : Int)] w (RetLaid w (lay8 b e m)) := by
  cases b
  · exact laid_f w e m he hm
  · exact laid_t w e m he hm
end Go.Proofs.YtldkddogadmpbaaDoor
