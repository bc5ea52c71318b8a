/- RecordNumbers: the law's walk. -/
import Derived.Test.YteienakimdpfhaaKLaid
import Derived.Test.YteienakimdpfhaaKKnown
import Derived.Deep.AppendLies
namespace Go.Proofs.Yteienakimdpfhaa
open Go.RowKit
set_option maxRecDepth 100000
set_option linter.unusedVariables false
set_option linter.unusedSimpArgs false

theorem own_off {W W' : World} {base n size : Nat} {e : TypeId} {v : Value} {xs : List Value} {row : Option Nat} (h : W.ownsRow base e size v n xs) (hg : W.grownBy W' row) (hne : ∀ b, v.ownBlock = some b → some b ≠ row) : W'.ownsRow base e size v n xs := by
  obtain ⟨h1, h2 | ⟨g, cap', cur, rfl, hg', hb, hr⟩⟩ := h
  · exact ⟨h1, Or.inl h2⟩
  · exact ⟨h1, Or.inr ⟨g, cap', cur, rfl, hg', heap_off hg hb (hne g rfl), hr⟩⟩
theorem OwnB.off {W W' : World} {base : Nat} {v : Value} {l : List Nat} {row : Option Nat} (h : OwnB W base v l) (hg : W.grownBy W' row) (hne : ∀ b, v.ownBlock = some b → some b ≠ row) : OwnB W' base v l := ⟨own_off h.1 hg hne, h.2⟩
theorem OwnB.lt {W : World} {base : Nat} {v : Value} {l : List Nat} (h : OwnB W base v l) : ∀ b, v.ownBlock = some b → b < W.heap.size := fun b e => by
  obtain ⟨_, ⟨rfl, _⟩ | ⟨g, cap', cur, rfl, hg', hb, hr⟩⟩ := h.1
  · cases e
  · have e2 : g = b := Option.some.inj e
    subst e2
    exact heap_lt hb
/-- Two rows of the call's own that lie apart. -/
def Apart (v u : Value) : Prop := ∀ b, v.ownBlock = some b → u.ownBlock ≠ some b
def I64 (l : List Int) : Prop := ∀ x ∈ l, -9223372036854775808 ≤ x ∧ x ≤ 9223372036854775807
theorem step_conv {P : Program} {ops : Array Oper} {o : Oper} {a : Act} {w : World} {K : Act → World → Prop} {Q : Exit → Act → World → Prop} {E : Prop} (hw : Region.wanted o (yielded ops a.tmps) = true) (s d : TypeId) (x : Operand) (hop : o.op = .convert s d x) (v : Value) (hx : a.eval x = v) (r : Value) (hrun : (convert s d v).run P w = .ok r w) (hK : K (a.put o.dst r) w) :
    if Region.wanted o (yielded ops a.tmps) = true then Oper.wp P o a w K Q else E := by
  rw [if_pos hw]
  unfold Oper.wp
  simp [execOp, hop, hx, hrun, Result.andThen]
  exact hK
set_option maxHeartbeats 64000000 in
theorem rn_00 (w : World) (s : Option Addr) (n0 n cap : Nat) (l : List Nat) (si : Option Addr) (m0 m ci : Nat) (zs : List Int) (hb : ¬ 4000 < n0) (hbn : n0 = n) (hib : ¬ 500 < m0) (him : m0 = m) (hn : l.length = n) (hl : BySl w s l) (hz : s = none → n0 = 0) (hc : n ≤ cap) (hc0 : n0 ≤ cap) (hm : cap ≤ 9223372036854775807) (hn4 : n ≤ 4000)
    (hm2 : zs.length = m) (hi : InSl w si zs) (hzi : si = none → m0 = 0) (hI : I64 zs) (hm5 : m ≤ 500) (hci0 : m0 ≤ ci) (hcm : ci ≤ 9223372036854775807) :
    Calls Try.prog 7 #[.slice s n0 cap, .slice si m0 ci] w (RetYes w) := by
  obtain ⟨i1, hi1, hz0, hz1, hz2⟩ := info_partsU
  subst hbn
  have q1 : decide ((4000 : Int) < (n0 : Int)) = false := decide_eq_false (by omega)
  subst him
  have q2 : decide ((500 : Int) < (m0 : Int)) = false := decide_eq_false (by omega)
  have HL := Lib.hid hl
  have HN := Lib.hid hn
  have HI := Lib.hid hi
  have HM := Lib.hid hm2
  have HB := Lib.hid hI
  clear hl hn hi hm2 hI hz hzi
  go_enter Try.func7, Try.ntmps7
  go_wp2_with fail
  refine (Shorts_any w s n0 cap l HN.out HL.out hc hm hn4).mono ?_
  obtain ⟨⟨c2, z2⟩, hx⟩ : ∃ x, numsD 2 l = x := ⟨_, rfl⟩
  rw [hx]
  have HX2 := Lib.hid hx
  clear hx
  rintro e w1 ⟨v, rfl, hO, hg⟩
  dsimp only at hO
  obtain ⟨s5, k5, rfl, hr5, _, _⟩ := hO.shape
  have HI5 := Lib.hid hr5
  have HG := Lib.hid hg
  clear hO hr5 hg
  go_wp2_with fail
  refine (RNumbers_2 w1 s n0 cap l HN.out (HL.out.kept HG.out) hc hm hn4).mono ?_
  rw [HX2.out]
  rintro e w2 ⟨v, rfl, hO, hg⟩
  dsimp only at hO
  obtain ⟨s7, k7, rfl, hr7, _, _⟩ := hO.shape
  have HI7 := Lib.hid hr7
  replace HI5 := Lib.hid (HI5.out.kept hg)
  replace HG := Lib.hid (grown_trans HG.out hg)
  clear hO hr7 hg
  go_wp2_with fail
  refine (Longs_any w2 s n0 cap l HN.out (HL.out.kept HG.out) hc hm hn4).mono ?_
  obtain ⟨⟨c4, z4⟩, hx⟩ : ∃ x, numsD 4 l = x := ⟨_, rfl⟩
  rw [hx]
  have HX4 := Lib.hid hx
  clear hx
  rintro e w3 ⟨v, rfl, hO, hg⟩
  dsimp only at hO
  obtain ⟨s9, k9, rfl, hr9, _, _⟩ := hO.shape
  have HI9 := Lib.hid hr9
  replace HI5 := Lib.hid (HI5.out.kept hg)
  replace HI7 := Lib.hid (HI7.out.kept hg)
  replace HG := Lib.hid (grown_trans HG.out hg)
  clear hO hr9 hg
  go_wp2_with fail
  refine (RNumbers_4 w3 s n0 cap l HN.out (HL.out.kept HG.out) hc hm hn4).mono ?_
  rw [HX4.out]
  rintro e w4 ⟨v, rfl, hO, hg⟩
  dsimp only at hO
  obtain ⟨s11, k11, rfl, hr11, _, _⟩ := hO.shape
  have HI11 := Lib.hid hr11
  replace HI5 := Lib.hid (HI5.out.kept hg)
  replace HI7 := Lib.hid (HI7.out.kept hg)
  replace HI9 := Lib.hid (HI9.out.kept hg)
  replace HG := Lib.hid (grown_trans HG.out hg)
  clear hO hr11 hg
  obtain ⟨m2, hm2⟩ : ∃ m2, z2.length = m2 := ⟨_, rfl⟩
  obtain ⟨m4, hm4⟩ : ∃ m4, z4.length = m4 := ⟨_, rfl⟩
  rw [hm2, hm4]
  have HMm2 := Lib.hid hm2
  have HMm4 := Lib.hid hm4
  have hmb2 : m2 ≤ 4000 := by
    have h := HX2.out
    unfold numsD at h
    split at h
    · cases h; rw [← hm2, numsL_len, HN.out]; omega
    · cases h; rw [← hm2]; simp
  have hmb4 : m4 ≤ 4000 := by
    have h := HX4.out
    unfold numsD at h
    split at h
    · cases h; rw [← hm4, numsL_len, HN.out]; omega
    · cases h; rw [← hm4]; simp
  clear hm2 hm4
  go_wp2_with fail
  refine (Known_any w4).mono ?_
  rintro e w5 ⟨rfl, hg⟩
  replace HI5 := Lib.hid (HI5.out.kept hg)
  replace HI7 := Lib.hid (HI7.out.kept hg)
  replace HI9 := Lib.hid (HI9.out.kept hg)
  replace HI11 := Lib.hid (HI11.out.kept hg)
  replace HG := Lib.hid (grown_trans HG.out hg)
  have HG5 := HG
  have hG : w5.grownBy w5 none := grown_refl _ _
  have HII := Lib.hid (HI.out.kept HG5.out)
  clear hg HG
  have u1 : ((c2 : Int) != (c2 : Int)) = false := by simp
  have u2 : ((c4 : Int) != (c4 : Int)) = false := by simp
  have u3 : ((m2 : Int) != (m2 : Int)) = false := by simp
  have u4 : ((m4 : Int) != (m4 : Int)) = false := by simp
  go_wp2_with fail
  go_loopg [13] m2 (fun gh i wr => ∃ k : Nat, k ≤ m2 ∧ m2 - k ≤ gh ∧ i = .int .i64 (k : Int) ∧ w5.grownBy wr none)
  case atStart => exact ⟨0, Nat.zero_le _, Nat.le_refl _, rfl, hG⟩
  case round =>
    clear hG
    obtain ⟨k, hk, hgh, rfl, hG⟩ := hrel
    by_cases hlt : k < m2
    · have f1 : decide ((k : Int) < (m2 : Int)) = true := decide_eq_true (by omega)
      have hkz : k < z2.length := by rw [HMm2.out]; exact hlt
      obtain ⟨a, rfl, hc1⟩ := HI5.out k hkz
      obtain ⟨a', rfl, hc2⟩ := HI7.out k hkz
      obtain ⟨x, hx⟩ : ∃ x, z2[k] = x := ⟨_, rfl⟩
      rw [hx] at hc1 hc2
      replace hc1 := hG.cell hc1 (by simp)
      replace hc2 := hG.cell hc2 (by simp)
      have t1 : (x != x) = false := by simp
      have HG := Lib.hid hG
      clear hx hG hkz
      go_wp2_with fail
      go_quiet (fail)
      go_wp2_with fail
      go_roundg (m2 - (k + 1))
      case measure => omega
      case rel => exact ⟨k + 1, by omega, Nat.le_refl _, by go_num, grown_trans HG.out (grown_drewN _ _ _)⟩
    · have f1 : decide ((k : Int) < (m2 : Int)) = false := decide_eq_false (by omega)
      have f1b : decide (k < m2) = false := decide_eq_false hlt
      clear hk hgh hlt
      go_wp2_with fail
      go_loopg [14] m4 (fun gh i wr => ∃ k : Nat, k ≤ m4 ∧ m4 - k ≤ gh ∧ i = .int .i64 (k : Int) ∧ w5.grownBy wr none)
      case atStart => exact ⟨0, Nat.zero_le _, Nat.le_refl _, rfl, hG⟩
      case round =>
        clear hG
        obtain ⟨k, hk, hgh, rfl, hG⟩ := hrel
        by_cases hlt : k < m4
        · have f1 : decide ((k : Int) < (m4 : Int)) = true := decide_eq_true (by omega)
          have hkz : k < z4.length := by rw [HMm4.out]; exact hlt
          obtain ⟨a, rfl, hc1⟩ := HI9.out k hkz
          obtain ⟨a', rfl, hc2⟩ := HI11.out k hkz
          obtain ⟨x, hx⟩ : ∃ x, z4[k] = x := ⟨_, rfl⟩
          rw [hx] at hc1 hc2
          replace hc1 := hG.cell hc1 (by simp)
          replace hc2 := hG.cell hc2 (by simp)
          have t1 : (x != x) = false := by simp
          have HG := Lib.hid hG
          clear hx hG hkz
          go_wp2_with fail
          go_quiet (fail)
          go_wp2_with fail
          go_roundg (m4 - (k + 1))
          case measure => omega
          case rel => exact ⟨k + 1, by omega, Nat.le_refl _, by go_num, grown_trans HG.out (grown_drewN _ _ _)⟩
        · have f1 : decide ((k : Int) < (m4 : Int)) = false := decide_eq_false (by omega)
          have f1b : decide (k < m4) = false := decide_eq_false hlt
          clear hk hgh hlt
          go_wp2_with fail
          have hOx : OwnB wr w5.heap.size (.slice none 0 0) (laidL 2 (zs.take 0)) := OwnB.nil _ _
          have hOy : OwnB wr w5.heap.size (.slice none 0 0) (laidL 4 (zs.take 0)) := OwnB.nil _ _
          have hap : Apart (.slice none 0 0) (.slice none 0 0) := fun b e => by cases e
          go_loopg [15, 16, 17] m0 (fun gh vx vy i wr2 => ∃ k : Nat, k ≤ m0 ∧ m0 - k ≤ gh ∧ i = .int .i64 (k : Int) ∧ OwnB wr2 w5.heap.size vx (laidL 2 (zs.take k)) ∧ OwnB wr2 w5.heap.size vy (laidL 4 (zs.take k)) ∧ Apart vy vx ∧ w5.grownBy wr2 none)
          case atStart => exact ⟨0, Nat.zero_le _, Nat.le_refl _, rfl, hOx, hOy, hap, hG⟩
          case round =>
            clear hOx hOy hap hG
            obtain ⟨k, hk, hgh, rfl, hOx, hOy, hap, hG⟩ := hrel
            by_cases hlt : k < m0
            · have f1 : decide ((k : Int) < (m0 : Int)) = true := decide_eq_true (by omega)
              have hkz : k < zs.length := by rw [HM.out]; exact hlt
              obtain ⟨a, ha, hc1⟩ := HII.out k hkz
              subst ha
              have hxb := HB.out _ (List.getElem_mem hkz)
              have hT2 := laidL_take 2 zs k hkz
              have hT4 := laidL_take 4 zs k hkz
              obtain ⟨x, hx⟩ : ∃ x, zs[k] = x := ⟨_, rfl⟩
              rw [hx] at hc1 hxb hT2 hT4
              have HT2 := Lib.hid hT2
              have HT4 := Lib.hid hT4
              obtain ⟨hx1, hx2⟩ := hxb
              have HC1 := Lib.hid hc1
              replace hc1 := hG.cell hc1 (by simp)
              have hlx : (laidL 2 (zs.take k)).length ≤ 1000 := by rw [laidL_len, List.length_take]; omega
              have hly : (laidL 4 (zs.take k)).length ≤ 2000 := by rw [laidL_len, List.length_take]; omega
              obtain ⟨LX, hLX⟩ : ∃ L, laidL 2 (zs.take k) = L := ⟨_, rfl⟩
              obtain ⟨LY, hLY⟩ : ∃ L, laidL 4 (zs.take k) = L := ⟨_, rfl⟩
              rw [hLX] at hOx hlx HT2
              rw [hLY] at hOy hly HT4
              obtain ⟨sx, cx, rfl, _, _, _, _⟩ := hOx.shape
              obtain ⟨sy, cy, rfl, _, _, _, _⟩ := hOy.shape
              have HOX := Lib.hid hOx
              have HOY := Lib.hid hOy
              have HAP := Lib.hid hap
              have HG := Lib.hid hG
              clear hx hT2 hT4 hLX hLY hOx hOy hap hG hkz
              go_wp2_with fail
              refine (Bytes_2 wr x hx1 hx2).mono ?_
              rintro e wa ⟨v, rfl, hO, hg⟩
              obtain ⟨s0, c0, rfl, hy, _, _, _⟩ := hO.shape
              rw [bytesN_len] at *
              have hOXa := HOX.out.kept hg
              have HOYa := Lib.hid (HOY.out.kept hg)
              have HGa := Lib.hid (grown_trans HG.out hg)
              obtain ⟨a0, rfl⟩ : ∃ a, s0 = some a := by
                rcases hy.1 with e | ⟨a, e, _⟩
                · have := bytesN_len 2 x; rw [e] at this; cases this
                · exact ⟨a, e⟩
              have HNW := Lib.hid hy.news
              have HL8 := Lib.hid hy.2
              have HX8 := Lib.hid hOXa.2
              have HOWN := Lib.hid hOXa.1
              have HBL : Hid ((bvs (bytesN 2 x)).length = 2 * 1) := Lib.hid (by rw [bvs_len, bytesN_len])
              have HBS := Lib.hid HGa.out.size
              have HMX : Hid (LX.length + 2 ≤ maxLen) := Lib.hid (by unfold maxLen; omega)
              clear hO hy hg hOXa
              go_wp2_with (at_builtin; refine wpList_append_lies _ rfl (.tmp 110) (.tmp 115) 22 rfl w5.heap.size 5 i1 (.int .u8 0) 1 1 Try.underlying22 hi1 hz0 hz1 hz2 rfl (by decide) (.slice sx LX.length cx) LX.length (bvs LX) rfl HOWN.out a0 2 c0 (bvs (bytesN 2 x)) rfl HBL.out HNW.out (bvs_one _) (by decide) HMX.out (by omega) HBS.out _ rfl ?_)
              intro gx cx2 wb hownx hgrowx hatx hltx
              have HGb := Lib.hid (grown_own HGa.out HOWN.out hgrowx (Nat.le_refl _))
              have HOXb := Lib.hid (OwnB.of (l := LX) (m := bytesN 2 x) hownx (by rw [bytesN_len]) HX8.out HL8.out)
              have HOYb := Lib.hid (HOYa.out.off hgrowx (fun b e => by intro e2; exact HAP.out b e e2.symm))
              have HAPb : Hid (∀ b, (Value.slice sy LY.length cy).ownBlock = some b → b ≠ gx) := Lib.hid (fun b e => by
                rintro rfl
                rcases hatx with h | h
                · exact HAP.out b e h
                · have := HOYa.out.lt b e; omega)
              have hc1 := HGb.out.cell HC1.out (by simp)
              clear hownx hgrowx hatx HOWN HNW HBL HBS HMX
              go_wp2_with fail
              refine (Bytes_4 wb x hx1 hx2).mono ?_
              rintro e wc ⟨v, rfl, hO, hg⟩
              obtain ⟨s0, c9, rfl, hy, _, _, _⟩ := hO.shape
              rw [bytesN_len] at *
              have hOYc := HOYb.out.kept hg
              have HOXc := Lib.hid (HOXb.out.kept hg)
              have HGc := Lib.hid (grown_trans HGb.out hg)
              obtain ⟨a9, rfl⟩ : ∃ a, s0 = some a := by
                rcases hy.1 with e | ⟨a, e, _⟩
                · have := bytesN_len 4 x; rw [e] at this; cases this
                · exact ⟨a, e⟩
              have HNW := Lib.hid hy.news
              have HL9 := Lib.hid hy.2
              have HY8 := Lib.hid hOYc.2
              have HOWN := Lib.hid hOYc.1
              have HBL : Hid ((bvs (bytesN 4 x)).length = 4 * 1) := Lib.hid (by rw [bvs_len, bytesN_len])
              have HBS := Lib.hid HGc.out.size
              have HMX : Hid (LY.length + 4 ≤ maxLen) := Lib.hid (by unfold maxLen; omega)
              clear hO hy hg hOYc
              go_wp2_with (at_builtin; refine wpList_append_lies _ rfl (.tmp 117) (.tmp 122) 22 rfl w5.heap.size 5 i1 (.int .u8 0) 1 1 Try.underlying22 hi1 hz0 hz1 hz2 rfl (by decide) (.slice sy LY.length cy) LY.length (bvs LY) rfl HOWN.out a9 4 c9 (bvs (bytesN 4 x)) rfl HBL.out HNW.out (bvs_one _) (by decide) HMX.out (by omega) HBS.out _ rfl ?_)
              intro gy cy2 wd howny hgrowy haty hlty
              have HGd := Lib.hid (grown_own HGc.out HOWN.out hgrowy (Nat.le_refl _))
              have HOYd := Lib.hid (OwnB.of (l := LY) (m := bytesN 4 x) howny (by rw [bytesN_len]) HY8.out HL9.out)
              have HOXd := Lib.hid (HOXc.out.off hgrowy (fun b e => by
                have e3 : gx = b := Option.some.inj e
                subst e3
                intro e2; exact HAPb.out gx e2.symm rfl))
              have HAPd : Hid (Apart (.slice (some ⟨gy, 0, none⟩) (LY.length + 4) cy2) (.slice (some ⟨gx, 0, none⟩) (LX.length + 2) cx2)) := Lib.hid (fun b e e2 => by
                have e3 : gy = b := Option.some.inj e
                have e4 : gx = b := Option.some.inj e2
                subst e3; subst e4
                rcases haty with h | h
                · exact HAPb.out gx h rfl
                · have := HOXc.out.lt gx rfl; omega)
              clear howny hgrowy haty HOWN HNW HBL HBS HMX
              go_wp2_with fail
              go_roundg (m0 - (k + 1))
              case measure => omega
              case rel => exact ⟨k + 1, by omega, Nat.le_refl _, by go_num, by rw [HT2.out]; exact HOXd.out, by rw [HT4.out]; exact HOYd.out, HAPd.out, HGd.out⟩
            · have f1 : decide ((k : Int) < (m0 : Int)) = false := decide_eq_false (by omega)
              have f1b : decide (k < m0) = false := decide_eq_false hlt
              have hkn : k = m0 := by omega
              have hT2 : Hid (laidL 2 (zs.take k) = laidL 2 zs) := Lib.hid (by rw [hkn, ← HM.out, List.take_length])
              have hT4 : Hid (laidL 4 (zs.take k) = laidL 4 zs) := Lib.hid (by rw [hkn, ← HM.out, List.take_length])
              rw [hT2.out] at hOx
              rw [hT4.out] at hOy
              obtain ⟨sx, cx, rfl, hyx, _, _, _⟩ := hOx.shape
              obtain ⟨sy, cy, rfl, hyy, _, _, _⟩ := hOy.shape
              have HYX := Lib.hid hyx
              have HYY := Lib.hid hyy
              have HG := Lib.hid hG
              have HIN := Lib.hid (HII.out.kept hG)
              clear hOx hOy hyx hyy hG hkn hap
              obtain ⟨L2, hL2⟩ : ∃ L, laidL 2 zs = L := ⟨_, rfl⟩
              obtain ⟨L4, hL4⟩ : ∃ L, laidL 4 zs = L := ⟨_, rfl⟩
              have HS2 := Lib.hid (fun W (h : wr.grownBy W none) => OfShorts_any W si m0 ci zs HM.out (HIN.out.kept h) HB.out (by omega))
              have HS4 := Lib.hid (fun W (h : wr.grownBy W none) => OfLongs_any W si m0 ci zs HM.out (HIN.out.kept h) HB.out (by omega))
              rw [hL2] at HYX HS2 ⊢
              rw [hL4] at HYY HS4 ⊢
              clear hL2 hL4 hT2 hT4
              have HKX := Lib.hid (fun W (h : wr.grownBy W none) => conv_by W sx L2.length cx L2 rfl (HYX.out.kept h))
              have HKY := Lib.hid (fun W (h : wr.grownBy W none) => conv_by W sy L4.length cy L4 rfl (HYY.out.kept h))
              obtain ⟨T2, hT2⟩ : ∃ T, strOf L2 = T := ⟨_, rfl⟩
              obtain ⟨T4, hT4⟩ : ∃ T, strOf L4 = T := ⟨_, rfl⟩
              rw [hT2] at HKX
              rw [hT4] at HKY
              have HTE2 := Lib.hid hT2
              have HTE4 := Lib.hid hT4
              clear hT2 hT4
              have kx := HKX.out wr.drew (grown_drew (grown_refl _ none))
              have ky := HKY.out wr.drew (grown_drew (grown_refl _ none))
              go_wp2_with fail
              refine wp_region_held_drew (S := fun w' => (convert 22 9 (.slice sx L2.length cx)).run Try.prog w' = .ok (.string T2) w' ∧ (convert 22 9 (.slice sy L4.length cy)).run Try.prog w' = .ok (.string T4) w') (by kernel_rfl) (by exact ⟨kx, ky⟩) (fun hHeld => ?_)
              refine wpAnyH_take (i := 0) (v := ?_) rfl (by kernel_rfl) (by kernel_rfl) (by kernel_rfl) (fun _ _ _ h => h) (Or.inl ⟨by rfl, ?_⟩) (by assumption) ?_
              rotate_left
              · (intro w hSw; (try dsimp only at hSw); go_simp; (try with_reducible rfl))
              try simp only [Act.put, List.getElem_toArray, List.getElem_cons_zero, List.getElem_cons_succ, List.setIfInBounds_toArray, List.set_cons_zero, List.set_cons_succ]
              refine wpAnyH_take (i := 3) (v := ?_) rfl (by kernel_rfl) (by kernel_rfl) (by kernel_rfl) (fun _ _ _ h => h) (Or.inl ⟨by rfl, ?_⟩) (by assumption) ?_
              rotate_left
              · (intro w hSw; (try dsimp only at hSw); go_simp; (try with_reducible rfl))
              try simp only [Act.put, List.getElem_toArray, List.getElem_cons_zero, List.getElem_cons_succ, List.setIfInBounds_toArray, List.set_cons_zero, List.set_cons_succ]
              refine wpAnyH_take (i := 4) (v := ?_) rfl (by kernel_rfl) (by kernel_rfl) (by kernel_rfl) (fun _ _ _ h => h) (Or.inl ⟨by rfl, ?_⟩) (by assumption) ?_
              rotate_left
              · (intro w hSw; (try dsimp only at hSw); go_simp; (try with_reducible rfl))
              try simp only [Act.put, List.getElem_toArray, List.getElem_cons_zero, List.getElem_cons_succ, List.setIfInBounds_toArray, List.set_cons_zero, List.set_cons_succ]
              refine wpAnyH_ready (rs := [1]) (by kernel_rfl) (by simp) ?_
              refine AllReadyH.cons rfl (fun K hK => ?_) AllReadyH.nil
              go_simp
              (go_at_call 23; (with_reducible refine (HS2.out _ (grown_drew (grown_refl _ none))).mono ?_); rintro e w8 ⟨v, rfl, hO, hg8⟩; have HG8 := Lib.hid (grown_trans (grown_drew (grown_refl _ none)) hg8); obtain ⟨s8, c8, rfl, hy8, _, _, _⟩ := hO.shape; have k8 := conv_by w8 s8 L2.length c8 L2 rfl hy8; rw [HTE2.out] at k8; have hS8 := And.intro (HKX.out _ HG8.out) (HKY.out _ HG8.out); clear hO hy8 hg8)
              (try go_wp2_with fail)
              refine hK.out _ _ (by exact hS8) (fun hHeld => ?_)
              clear hK K
              try simp only [Act.put, List.getElem_toArray, List.getElem_cons_zero, List.getElem_cons_succ, List.setIfInBounds_toArray, List.set_cons_zero, List.set_cons_succ]
              refine wpAnyH_ready (rs := [2]) (by kernel_rfl) (by simp) ?_
              refine AllReadyH.cons rfl (fun K hK => ?_) AllReadyH.nil
              refine step_conv (by first | rfl | kernel_rfl) _ _ (.tmp 125) rfl _ rfl _ k8 ?_
              refine hK.out _ _ (by exact hS8) (fun hHeld => ?_)
              clear hK K
              try simp only [Act.put, List.getElem_toArray, List.getElem_cons_zero, List.getElem_cons_succ, List.setIfInBounds_toArray, List.set_cons_zero, List.set_cons_succ]
              refine wpAnyH_take (i := 5) (v := ?_) rfl (by kernel_rfl) (by kernel_rfl) (by kernel_rfl) (fun _ _ _ h => h) (Or.inl ⟨by rfl, ?_⟩) (by assumption) ?_
              rotate_left
              · (intro w hSw; (try dsimp only at hSw); go_simp; (try with_reducible rfl))
              try simp only [Act.put, List.getElem_toArray, List.getElem_cons_zero, List.getElem_cons_succ, List.setIfInBounds_toArray, List.set_cons_zero, List.set_cons_succ]
              refine wpAnyH_take (i := 6) (v := ?_) rfl (by kernel_rfl) (by kernel_rfl) (by kernel_rfl) (fun _ _ _ h => h) (Or.inl ⟨by rfl, ?_⟩) (by assumption) ?_
              rotate_left
              · (intro w hSw; (try dsimp only at hSw); go_simp; (try with_reducible rfl))
              try simp only [Act.put, List.getElem_toArray, List.getElem_cons_zero, List.getElem_cons_succ, List.setIfInBounds_toArray, List.set_cons_zero, List.set_cons_succ]
              refine wpAnyH_take (i := 7) (v := ?_) rfl (by kernel_rfl) (by kernel_rfl) (by kernel_rfl) (fun _ _ _ h => h) (Or.inl ⟨by rfl, ?_⟩) (by assumption) ?_
              rotate_left
              · (intro w hSw; (try dsimp only at hSw); go_simp; (try with_reducible rfl))
              try simp only [Act.put, List.getElem_toArray, List.getElem_cons_zero, List.getElem_cons_succ, List.setIfInBounds_toArray, List.set_cons_zero, List.set_cons_succ]
              refine wpAnyH_take (i := 10) (v := ?_) rfl (by kernel_rfl) (by kernel_rfl) (by kernel_rfl) (fun _ _ _ h => h) (Or.inl ⟨by rfl, ?_⟩) (by assumption) ?_
              rotate_left
              · (intro w hSw; (try dsimp only at hSw); go_simp; (try with_reducible rfl))
              try simp only [Act.put, List.getElem_toArray, List.getElem_cons_zero, List.getElem_cons_succ, List.setIfInBounds_toArray, List.set_cons_zero, List.set_cons_succ]
              refine wpAnyH_take (i := 11) (v := ?_) rfl (by kernel_rfl) (by kernel_rfl) (by kernel_rfl) (fun _ _ _ h => h) (Or.inl ⟨by rfl, ?_⟩) (by assumption) ?_
              rotate_left
              · (intro w hSw; (try dsimp only at hSw); go_simp; (try with_reducible rfl))
              try simp only [Act.put, List.getElem_toArray, List.getElem_cons_zero, List.getElem_cons_succ, List.setIfInBounds_toArray, List.set_cons_zero, List.set_cons_succ]
              refine wpAnyH_ready (rs := [8]) (by kernel_rfl) (by simp) ?_
              refine AllReadyH.cons rfl (fun K hK => ?_) AllReadyH.nil
              go_simp
              (go_at_call 24; (with_reducible refine (HS4.out _ HG8.out).mono ?_); rintro e w9 ⟨v, rfl, hO, hg9⟩; have HG9 := Lib.hid (grown_trans HG8.out hg9); obtain ⟨s9', c9, rfl, hy9, _, _, _⟩ := hO.shape; have k9 := conv_by w9 s9' L4.length c9 L4 rfl hy9; rw [HTE4.out] at k9; have hS9 := And.intro (HKX.out _ HG9.out) (HKY.out _ HG9.out); clear hO hy9 hg9)
              (try go_wp2_with fail)
              refine hK.out _ _ (by exact hS9) (fun hHeld => ?_)
              clear hK K
              try simp only [Act.put, List.getElem_toArray, List.getElem_cons_zero, List.getElem_cons_succ, List.setIfInBounds_toArray, List.set_cons_zero, List.set_cons_succ]
              refine wpAnyH_ready (rs := [9]) (by kernel_rfl) (by simp) ?_
              refine AllReadyH.cons rfl (fun K hK => ?_) AllReadyH.nil
              refine step_conv (by first | rfl | kernel_rfl) _ _ (.tmp 132) rfl _ rfl _ k9 ?_
              refine hK.out _ _ (by exact hS9) (fun hHeld => ?_)
              clear hK K
              try simp only [Act.put, List.getElem_toArray, List.getElem_cons_zero, List.getElem_cons_succ, List.setIfInBounds_toArray, List.set_cons_zero, List.set_cons_succ]
              refine wpAnyH_take (i := 12) (v := ?_) rfl (by kernel_rfl) (by kernel_rfl) (by kernel_rfl) (fun _ _ _ h => h) (Or.inl ⟨by rfl, ?_⟩) (by assumption) ?_
              rotate_left
              · (intro w hSw; (try dsimp only at hSw); go_simp; (try with_reducible rfl))
              try simp only [Act.put, List.getElem_toArray, List.getElem_cons_zero, List.getElem_cons_succ, List.setIfInBounds_toArray, List.set_cons_zero, List.set_cons_succ]
              refine wpAnyH_take (i := 13) (v := ?_) rfl (by kernel_rfl) (by kernel_rfl) (by kernel_rfl) (fun _ _ _ h => h) (Or.inl ⟨by rfl, ?_⟩) (by assumption) ?_
              rotate_left
              · (intro w hSw; (try dsimp only at hSw); go_simp; (try with_reducible rfl))
              try simp only [Act.put, List.getElem_toArray, List.getElem_cons_zero, List.getElem_cons_succ, List.setIfInBounds_toArray, List.set_cons_zero, List.set_cons_succ]
              refine wpAnyH_take (i := 14) (v := ?_) rfl (by kernel_rfl) (by kernel_rfl) (by kernel_rfl) (fun _ _ _ h => h) (Or.inl ⟨by rfl, ?_⟩) (by assumption) ?_
              rotate_left
              · (intro w hSw; (try dsimp only at hSw); go_simp; (try with_reducible rfl))
              try simp only [Act.put, List.getElem_toArray, List.getElem_cons_zero, List.getElem_cons_succ, List.setIfInBounds_toArray, List.set_cons_zero, List.set_cons_succ]
              refine wpAnyH_done (by kernel_rfl) ?_ _
              go_wp2_with fail
              go_ret
              exact ⟨by simp, grown_trans (grown_trans HG5.out HG.out) HG9.out⟩
set_option maxHeartbeats 64000000 in
theorem rn_01 (w : World) (s : Option Addr) (n0 n cap : Nat) (l : List Nat) (si : Option Addr) (m0 m ci : Nat) (zs : List Int) (hb : ¬ 4000 < n0) (hbn : n0 = n) (hib : 500 < m0) (him : m = 500) (hn : l.length = n) (hl : BySl w s l) (hz : s = none → n0 = 0) (hc : n ≤ cap) (hc0 : n0 ≤ cap) (hm : cap ≤ 9223372036854775807) (hn4 : n ≤ 4000)
    (hm2 : zs.length = m) (hi : InSl w si zs) (hzi : si = none → m0 = 0) (hI : I64 zs) (hm5 : m ≤ 500) (hci0 : m0 ≤ ci) (hcm : ci ≤ 9223372036854775807) :
    Calls Try.prog 7 #[.slice s n0 cap, .slice si m0 ci] w (RetYes w) := by
  obtain ⟨i1, hi1, hz0, hz1, hz2⟩ := info_partsU
  subst hbn
  have q1 : decide ((4000 : Int) < (n0 : Int)) = false := decide_eq_false (by omega)
  have q2 : decide ((500 : Int) < (m0 : Int)) = true := decide_eq_true (by omega)
  subst him
  obtain ⟨ai, rfl⟩ : ∃ a, si = some a := by
    cases si with
    | none => have := hzi rfl; omega
    | some a => exact ⟨a, rfl⟩
  have j2 : (500 : Int) ≤ (ci : Int) := by omega
  have HL := Lib.hid hl
  have HN := Lib.hid hn
  have HI := Lib.hid hi
  have HM := Lib.hid hm2
  have HB := Lib.hid hI
  clear hl hn hi hm2 hI hz hzi
  go_enter Try.func7, Try.ntmps7
  go_wp2_with fail
  refine (Shorts_any w s n0 cap l HN.out HL.out hc hm hn4).mono ?_
  obtain ⟨⟨c2, z2⟩, hx⟩ : ∃ x, numsD 2 l = x := ⟨_, rfl⟩
  rw [hx]
  have HX2 := Lib.hid hx
  clear hx
  rintro e w1 ⟨v, rfl, hO, hg⟩
  dsimp only at hO
  obtain ⟨s5, k5, rfl, hr5, _, _⟩ := hO.shape
  have HI5 := Lib.hid hr5
  have HG := Lib.hid hg
  clear hO hr5 hg
  go_wp2_with fail
  refine (RNumbers_2 w1 s n0 cap l HN.out (HL.out.kept HG.out) hc hm hn4).mono ?_
  rw [HX2.out]
  rintro e w2 ⟨v, rfl, hO, hg⟩
  dsimp only at hO
  obtain ⟨s7, k7, rfl, hr7, _, _⟩ := hO.shape
  have HI7 := Lib.hid hr7
  replace HI5 := Lib.hid (HI5.out.kept hg)
  replace HG := Lib.hid (grown_trans HG.out hg)
  clear hO hr7 hg
  go_wp2_with fail
  refine (Longs_any w2 s n0 cap l HN.out (HL.out.kept HG.out) hc hm hn4).mono ?_
  obtain ⟨⟨c4, z4⟩, hx⟩ : ∃ x, numsD 4 l = x := ⟨_, rfl⟩
  rw [hx]
  have HX4 := Lib.hid hx
  clear hx
  rintro e w3 ⟨v, rfl, hO, hg⟩
  dsimp only at hO
  obtain ⟨s9, k9, rfl, hr9, _, _⟩ := hO.shape
  have HI9 := Lib.hid hr9
  replace HI5 := Lib.hid (HI5.out.kept hg)
  replace HI7 := Lib.hid (HI7.out.kept hg)
  replace HG := Lib.hid (grown_trans HG.out hg)
  clear hO hr9 hg
  go_wp2_with fail
  refine (RNumbers_4 w3 s n0 cap l HN.out (HL.out.kept HG.out) hc hm hn4).mono ?_
  rw [HX4.out]
  rintro e w4 ⟨v, rfl, hO, hg⟩
  dsimp only at hO
  obtain ⟨s11, k11, rfl, hr11, _, _⟩ := hO.shape
  have HI11 := Lib.hid hr11
  replace HI5 := Lib.hid (HI5.out.kept hg)
  replace HI7 := Lib.hid (HI7.out.kept hg)
  replace HI9 := Lib.hid (HI9.out.kept hg)
  replace HG := Lib.hid (grown_trans HG.out hg)
  clear hO hr11 hg
  obtain ⟨m2, hm2⟩ : ∃ m2, z2.length = m2 := ⟨_, rfl⟩
  obtain ⟨m4, hm4⟩ : ∃ m4, z4.length = m4 := ⟨_, rfl⟩
  rw [hm2, hm4]
  have HMm2 := Lib.hid hm2
  have HMm4 := Lib.hid hm4
  have hmb2 : m2 ≤ 4000 := by
    have h := HX2.out
    unfold numsD at h
    split at h
    · cases h; rw [← hm2, numsL_len, HN.out]; omega
    · cases h; rw [← hm2]; simp
  have hmb4 : m4 ≤ 4000 := by
    have h := HX4.out
    unfold numsD at h
    split at h
    · cases h; rw [← hm4, numsL_len, HN.out]; omega
    · cases h; rw [← hm4]; simp
  clear hm2 hm4
  go_wp2_with fail
  refine (Known_any w4).mono ?_
  rintro e w5 ⟨rfl, hg⟩
  replace HI5 := Lib.hid (HI5.out.kept hg)
  replace HI7 := Lib.hid (HI7.out.kept hg)
  replace HI9 := Lib.hid (HI9.out.kept hg)
  replace HI11 := Lib.hid (HI11.out.kept hg)
  replace HG := Lib.hid (grown_trans HG.out hg)
  have HG5 := HG
  have hG : w5.grownBy w5 none := grown_refl _ _
  have HII := Lib.hid (HI.out.kept HG5.out)
  clear hg HG
  have u1 : ((c2 : Int) != (c2 : Int)) = false := by simp
  have u2 : ((c4 : Int) != (c4 : Int)) = false := by simp
  have u3 : ((m2 : Int) != (m2 : Int)) = false := by simp
  have u4 : ((m4 : Int) != (m4 : Int)) = false := by simp
  go_wp2_with fail
  go_loopg [13] m2 (fun gh i wr => ∃ k : Nat, k ≤ m2 ∧ m2 - k ≤ gh ∧ i = .int .i64 (k : Int) ∧ w5.grownBy wr none)
  case atStart => exact ⟨0, Nat.zero_le _, Nat.le_refl _, rfl, hG⟩
  case round =>
    clear hG
    obtain ⟨k, hk, hgh, rfl, hG⟩ := hrel
    by_cases hlt : k < m2
    · have f1 : decide ((k : Int) < (m2 : Int)) = true := decide_eq_true (by omega)
      have hkz : k < z2.length := by rw [HMm2.out]; exact hlt
      obtain ⟨a, rfl, hc1⟩ := HI5.out k hkz
      obtain ⟨a', rfl, hc2⟩ := HI7.out k hkz
      obtain ⟨x, hx⟩ : ∃ x, z2[k] = x := ⟨_, rfl⟩
      rw [hx] at hc1 hc2
      replace hc1 := hG.cell hc1 (by simp)
      replace hc2 := hG.cell hc2 (by simp)
      have t1 : (x != x) = false := by simp
      have HG := Lib.hid hG
      clear hx hG hkz
      go_wp2_with fail
      go_quiet (fail)
      go_wp2_with fail
      go_roundg (m2 - (k + 1))
      case measure => omega
      case rel => exact ⟨k + 1, by omega, Nat.le_refl _, by go_num, grown_trans HG.out (grown_drewN _ _ _)⟩
    · have f1 : decide ((k : Int) < (m2 : Int)) = false := decide_eq_false (by omega)
      have f1b : decide (k < m2) = false := decide_eq_false hlt
      clear hk hgh hlt
      go_wp2_with fail
      go_loopg [14] m4 (fun gh i wr => ∃ k : Nat, k ≤ m4 ∧ m4 - k ≤ gh ∧ i = .int .i64 (k : Int) ∧ w5.grownBy wr none)
      case atStart => exact ⟨0, Nat.zero_le _, Nat.le_refl _, rfl, hG⟩
      case round =>
        clear hG
        obtain ⟨k, hk, hgh, rfl, hG⟩ := hrel
        by_cases hlt : k < m4
        · have f1 : decide ((k : Int) < (m4 : Int)) = true := decide_eq_true (by omega)
          have hkz : k < z4.length := by rw [HMm4.out]; exact hlt
          obtain ⟨a, rfl, hc1⟩ := HI9.out k hkz
          obtain ⟨a', rfl, hc2⟩ := HI11.out k hkz
          obtain ⟨x, hx⟩ : ∃ x, z4[k] = x := ⟨_, rfl⟩
          rw [hx] at hc1 hc2
          replace hc1 := hG.cell hc1 (by simp)
          replace hc2 := hG.cell hc2 (by simp)
          have t1 : (x != x) = false := by simp
          have HG := Lib.hid hG
          clear hx hG hkz
          go_wp2_with fail
          go_quiet (fail)
          go_wp2_with fail
          go_roundg (m4 - (k + 1))
          case measure => omega
          case rel => exact ⟨k + 1, by omega, Nat.le_refl _, by go_num, grown_trans HG.out (grown_drewN _ _ _)⟩
        · have f1 : decide ((k : Int) < (m4 : Int)) = false := decide_eq_false (by omega)
          have f1b : decide (k < m4) = false := decide_eq_false hlt
          clear hk hgh hlt
          go_wp2_with fail
          have hOx : OwnB wr w5.heap.size (.slice none 0 0) (laidL 2 (zs.take 0)) := OwnB.nil _ _
          have hOy : OwnB wr w5.heap.size (.slice none 0 0) (laidL 4 (zs.take 0)) := OwnB.nil _ _
          have hap : Apart (.slice none 0 0) (.slice none 0 0) := fun b e => by cases e
          go_loopg [15, 16, 17] 500 (fun gh vx vy i wr2 => ∃ k : Nat, k ≤ 500 ∧ 500 - k ≤ gh ∧ i = .int .i64 (k : Int) ∧ OwnB wr2 w5.heap.size vx (laidL 2 (zs.take k)) ∧ OwnB wr2 w5.heap.size vy (laidL 4 (zs.take k)) ∧ Apart vy vx ∧ w5.grownBy wr2 none)
          case atStart => exact ⟨0, Nat.zero_le _, Nat.le_refl _, rfl, hOx, hOy, hap, hG⟩
          case round =>
            clear hOx hOy hap hG
            obtain ⟨k, hk, hgh, rfl, hOx, hOy, hap, hG⟩ := hrel
            by_cases hlt : k < 500
            · have f1 : decide ((k : Int) < (500 : Int)) = true := decide_eq_true (by omega)
              have hkz : k < zs.length := by rw [HM.out]; exact hlt
              obtain ⟨a, ha, hc1⟩ := HII.out k hkz
              cases ha
              have hxb := HB.out _ (List.getElem_mem hkz)
              have hT2 := laidL_take 2 zs k hkz
              have hT4 := laidL_take 4 zs k hkz
              obtain ⟨x, hx⟩ : ∃ x, zs[k] = x := ⟨_, rfl⟩
              rw [hx] at hc1 hxb hT2 hT4
              have HT2 := Lib.hid hT2
              have HT4 := Lib.hid hT4
              obtain ⟨hx1, hx2⟩ := hxb
              have HC1 := Lib.hid hc1
              replace hc1 := hG.cell hc1 (by simp)
              have hlx : (laidL 2 (zs.take k)).length ≤ 1000 := by rw [laidL_len, List.length_take]; omega
              have hly : (laidL 4 (zs.take k)).length ≤ 2000 := by rw [laidL_len, List.length_take]; omega
              obtain ⟨LX, hLX⟩ : ∃ L, laidL 2 (zs.take k) = L := ⟨_, rfl⟩
              obtain ⟨LY, hLY⟩ : ∃ L, laidL 4 (zs.take k) = L := ⟨_, rfl⟩
              rw [hLX] at hOx hlx HT2
              rw [hLY] at hOy hly HT4
              obtain ⟨sx, cx, rfl, _, _, _, _⟩ := hOx.shape
              obtain ⟨sy, cy, rfl, _, _, _, _⟩ := hOy.shape
              have HOX := Lib.hid hOx
              have HOY := Lib.hid hOy
              have HAP := Lib.hid hap
              have HG := Lib.hid hG
              clear hx hT2 hT4 hLX hLY hOx hOy hap hG hkz
              go_wp2_with fail
              refine (Bytes_2 wr x hx1 hx2).mono ?_
              rintro e wa ⟨v, rfl, hO, hg⟩
              obtain ⟨s0, c0, rfl, hy, _, _, _⟩ := hO.shape
              rw [bytesN_len] at *
              have hOXa := HOX.out.kept hg
              have HOYa := Lib.hid (HOY.out.kept hg)
              have HGa := Lib.hid (grown_trans HG.out hg)
              obtain ⟨a0, rfl⟩ : ∃ a, s0 = some a := by
                rcases hy.1 with e | ⟨a, e, _⟩
                · have := bytesN_len 2 x; rw [e] at this; cases this
                · exact ⟨a, e⟩
              have HNW := Lib.hid hy.news
              have HL8 := Lib.hid hy.2
              have HX8 := Lib.hid hOXa.2
              have HOWN := Lib.hid hOXa.1
              have HBL : Hid ((bvs (bytesN 2 x)).length = 2 * 1) := Lib.hid (by rw [bvs_len, bytesN_len])
              have HBS := Lib.hid HGa.out.size
              have HMX : Hid (LX.length + 2 ≤ maxLen) := Lib.hid (by unfold maxLen; omega)
              clear hO hy hg hOXa
              go_wp2_with (at_builtin; refine wpList_append_lies _ rfl (.tmp 110) (.tmp 115) 22 rfl w5.heap.size 5 i1 (.int .u8 0) 1 1 Try.underlying22 hi1 hz0 hz1 hz2 rfl (by decide) (.slice sx LX.length cx) LX.length (bvs LX) rfl HOWN.out a0 2 c0 (bvs (bytesN 2 x)) rfl HBL.out HNW.out (bvs_one _) (by decide) HMX.out (by omega) HBS.out _ rfl ?_)
              intro gx cx2 wb hownx hgrowx hatx hltx
              have HGb := Lib.hid (grown_own HGa.out HOWN.out hgrowx (Nat.le_refl _))
              have HOXb := Lib.hid (OwnB.of (l := LX) (m := bytesN 2 x) hownx (by rw [bytesN_len]) HX8.out HL8.out)
              have HOYb := Lib.hid (HOYa.out.off hgrowx (fun b e => by intro e2; exact HAP.out b e e2.symm))
              have HAPb : Hid (∀ b, (Value.slice sy LY.length cy).ownBlock = some b → b ≠ gx) := Lib.hid (fun b e => by
                rintro rfl
                rcases hatx with h | h
                · exact HAP.out b e h
                · have := HOYa.out.lt b e; omega)
              have hc1 := HGb.out.cell HC1.out (by simp)
              clear hownx hgrowx hatx HOWN HNW HBL HBS HMX
              go_wp2_with fail
              refine (Bytes_4 wb x hx1 hx2).mono ?_
              rintro e wc ⟨v, rfl, hO, hg⟩
              obtain ⟨s0, c9, rfl, hy, _, _, _⟩ := hO.shape
              rw [bytesN_len] at *
              have hOYc := HOYb.out.kept hg
              have HOXc := Lib.hid (HOXb.out.kept hg)
              have HGc := Lib.hid (grown_trans HGb.out hg)
              obtain ⟨a9, rfl⟩ : ∃ a, s0 = some a := by
                rcases hy.1 with e | ⟨a, e, _⟩
                · have := bytesN_len 4 x; rw [e] at this; cases this
                · exact ⟨a, e⟩
              have HNW := Lib.hid hy.news
              have HL9 := Lib.hid hy.2
              have HY8 := Lib.hid hOYc.2
              have HOWN := Lib.hid hOYc.1
              have HBL : Hid ((bvs (bytesN 4 x)).length = 4 * 1) := Lib.hid (by rw [bvs_len, bytesN_len])
              have HBS := Lib.hid HGc.out.size
              have HMX : Hid (LY.length + 4 ≤ maxLen) := Lib.hid (by unfold maxLen; omega)
              clear hO hy hg hOYc
              go_wp2_with (at_builtin; refine wpList_append_lies _ rfl (.tmp 117) (.tmp 122) 22 rfl w5.heap.size 5 i1 (.int .u8 0) 1 1 Try.underlying22 hi1 hz0 hz1 hz2 rfl (by decide) (.slice sy LY.length cy) LY.length (bvs LY) rfl HOWN.out a9 4 c9 (bvs (bytesN 4 x)) rfl HBL.out HNW.out (bvs_one _) (by decide) HMX.out (by omega) HBS.out _ rfl ?_)
              intro gy cy2 wd howny hgrowy haty hlty
              have HGd := Lib.hid (grown_own HGc.out HOWN.out hgrowy (Nat.le_refl _))
              have HOYd := Lib.hid (OwnB.of (l := LY) (m := bytesN 4 x) howny (by rw [bytesN_len]) HY8.out HL9.out)
              have HOXd := Lib.hid (HOXc.out.off hgrowy (fun b e => by
                have e3 : gx = b := Option.some.inj e
                subst e3
                intro e2; exact HAPb.out gx e2.symm rfl))
              have HAPd : Hid (Apart (.slice (some ⟨gy, 0, none⟩) (LY.length + 4) cy2) (.slice (some ⟨gx, 0, none⟩) (LX.length + 2) cx2)) := Lib.hid (fun b e e2 => by
                have e3 : gy = b := Option.some.inj e
                have e4 : gx = b := Option.some.inj e2
                subst e3; subst e4
                rcases haty with h | h
                · exact HAPb.out gx h rfl
                · have := HOXc.out.lt gx rfl; omega)
              clear howny hgrowy haty HOWN HNW HBL HBS HMX
              go_wp2_with fail
              go_roundg (500 - (k + 1))
              case measure => omega
              case rel => exact ⟨k + 1, by omega, Nat.le_refl _, by go_num, by rw [HT2.out]; exact HOXd.out, by rw [HT4.out]; exact HOYd.out, HAPd.out, HGd.out⟩
            · have f1 : decide ((k : Int) < (500 : Int)) = false := decide_eq_false (by omega)
              have f1b : decide (k < 500) = false := decide_eq_false hlt
              have hkn : k = 500 := by omega
              have hT2 : Hid (laidL 2 (zs.take k) = laidL 2 zs) := Lib.hid (by rw [hkn, ← HM.out, List.take_length])
              have hT4 : Hid (laidL 4 (zs.take k) = laidL 4 zs) := Lib.hid (by rw [hkn, ← HM.out, List.take_length])
              rw [hT2.out] at hOx
              rw [hT4.out] at hOy
              obtain ⟨sx, cx, rfl, hyx, _, _, _⟩ := hOx.shape
              obtain ⟨sy, cy, rfl, hyy, _, _, _⟩ := hOy.shape
              have HYX := Lib.hid hyx
              have HYY := Lib.hid hyy
              have HG := Lib.hid hG
              have HIN := Lib.hid (HII.out.kept hG)
              clear hOx hOy hyx hyy hG hkn hap
              obtain ⟨L2, hL2⟩ : ∃ L, laidL 2 zs = L := ⟨_, rfl⟩
              obtain ⟨L4, hL4⟩ : ∃ L, laidL 4 zs = L := ⟨_, rfl⟩
              have HS2 := Lib.hid (fun W (h : wr.grownBy W none) => OfShorts_any W (some ai) 500 ci zs HM.out (HIN.out.kept h) HB.out (by omega))
              have HS4 := Lib.hid (fun W (h : wr.grownBy W none) => OfLongs_any W (some ai) 500 ci zs HM.out (HIN.out.kept h) HB.out (by omega))
              rw [hL2] at HYX HS2 ⊢
              rw [hL4] at HYY HS4 ⊢
              clear hL2 hL4 hT2 hT4
              have HKX := Lib.hid (fun W (h : wr.grownBy W none) => conv_by W sx L2.length cx L2 rfl (HYX.out.kept h))
              have HKY := Lib.hid (fun W (h : wr.grownBy W none) => conv_by W sy L4.length cy L4 rfl (HYY.out.kept h))
              obtain ⟨T2, hT2⟩ : ∃ T, strOf L2 = T := ⟨_, rfl⟩
              obtain ⟨T4, hT4⟩ : ∃ T, strOf L4 = T := ⟨_, rfl⟩
              rw [hT2] at HKX
              rw [hT4] at HKY
              have HTE2 := Lib.hid hT2
              have HTE4 := Lib.hid hT4
              clear hT2 hT4
              have kx := HKX.out wr.drew (grown_drew (grown_refl _ none))
              have ky := HKY.out wr.drew (grown_drew (grown_refl _ none))
              go_wp2_with fail
              refine wp_region_held_drew (S := fun w' => (convert 22 9 (.slice sx L2.length cx)).run Try.prog w' = .ok (.string T2) w' ∧ (convert 22 9 (.slice sy L4.length cy)).run Try.prog w' = .ok (.string T4) w') (by kernel_rfl) (by exact ⟨kx, ky⟩) (fun hHeld => ?_)
              refine wpAnyH_take (i := 0) (v := ?_) rfl (by kernel_rfl) (by kernel_rfl) (by kernel_rfl) (fun _ _ _ h => h) (Or.inl ⟨by rfl, ?_⟩) (by assumption) ?_
              rotate_left
              · (intro w hSw; (try dsimp only at hSw); go_simp; (try with_reducible rfl))
              try simp only [Act.put, List.getElem_toArray, List.getElem_cons_zero, List.getElem_cons_succ, List.setIfInBounds_toArray, List.set_cons_zero, List.set_cons_succ]
              refine wpAnyH_take (i := 3) (v := ?_) rfl (by kernel_rfl) (by kernel_rfl) (by kernel_rfl) (fun _ _ _ h => h) (Or.inl ⟨by rfl, ?_⟩) (by assumption) ?_
              rotate_left
              · (intro w hSw; (try dsimp only at hSw); go_simp; (try with_reducible rfl))
              try simp only [Act.put, List.getElem_toArray, List.getElem_cons_zero, List.getElem_cons_succ, List.setIfInBounds_toArray, List.set_cons_zero, List.set_cons_succ]
              refine wpAnyH_take (i := 4) (v := ?_) rfl (by kernel_rfl) (by kernel_rfl) (by kernel_rfl) (fun _ _ _ h => h) (Or.inl ⟨by rfl, ?_⟩) (by assumption) ?_
              rotate_left
              · (intro w hSw; (try dsimp only at hSw); go_simp; (try with_reducible rfl))
              try simp only [Act.put, List.getElem_toArray, List.getElem_cons_zero, List.getElem_cons_succ, List.setIfInBounds_toArray, List.set_cons_zero, List.set_cons_succ]
              refine wpAnyH_ready (rs := [1]) (by kernel_rfl) (by simp) ?_
              refine AllReadyH.cons rfl (fun K hK => ?_) AllReadyH.nil
              go_simp
              (go_at_call 23; (with_reducible refine (HS2.out _ (grown_drew (grown_refl _ none))).mono ?_); rintro e w8 ⟨v, rfl, hO, hg8⟩; have HG8 := Lib.hid (grown_trans (grown_drew (grown_refl _ none)) hg8); obtain ⟨s8, c8, rfl, hy8, _, _, _⟩ := hO.shape; have k8 := conv_by w8 s8 L2.length c8 L2 rfl hy8; rw [HTE2.out] at k8; have hS8 := And.intro (HKX.out _ HG8.out) (HKY.out _ HG8.out); clear hO hy8 hg8)
              (try go_wp2_with fail)
              refine hK.out _ _ (by exact hS8) (fun hHeld => ?_)
              clear hK K
              try simp only [Act.put, List.getElem_toArray, List.getElem_cons_zero, List.getElem_cons_succ, List.setIfInBounds_toArray, List.set_cons_zero, List.set_cons_succ]
              refine wpAnyH_ready (rs := [2]) (by kernel_rfl) (by simp) ?_
              refine AllReadyH.cons rfl (fun K hK => ?_) AllReadyH.nil
              refine step_conv (by first | rfl | kernel_rfl) _ _ (.tmp 125) rfl _ rfl _ k8 ?_
              refine hK.out _ _ (by exact hS8) (fun hHeld => ?_)
              clear hK K
              try simp only [Act.put, List.getElem_toArray, List.getElem_cons_zero, List.getElem_cons_succ, List.setIfInBounds_toArray, List.set_cons_zero, List.set_cons_succ]
              refine wpAnyH_take (i := 5) (v := ?_) rfl (by kernel_rfl) (by kernel_rfl) (by kernel_rfl) (fun _ _ _ h => h) (Or.inl ⟨by rfl, ?_⟩) (by assumption) ?_
              rotate_left
              · (intro w hSw; (try dsimp only at hSw); go_simp; (try with_reducible rfl))
              try simp only [Act.put, List.getElem_toArray, List.getElem_cons_zero, List.getElem_cons_succ, List.setIfInBounds_toArray, List.set_cons_zero, List.set_cons_succ]
              refine wpAnyH_take (i := 6) (v := ?_) rfl (by kernel_rfl) (by kernel_rfl) (by kernel_rfl) (fun _ _ _ h => h) (Or.inl ⟨by rfl, ?_⟩) (by assumption) ?_
              rotate_left
              · (intro w hSw; (try dsimp only at hSw); go_simp; (try with_reducible rfl))
              try simp only [Act.put, List.getElem_toArray, List.getElem_cons_zero, List.getElem_cons_succ, List.setIfInBounds_toArray, List.set_cons_zero, List.set_cons_succ]
              refine wpAnyH_take (i := 7) (v := ?_) rfl (by kernel_rfl) (by kernel_rfl) (by kernel_rfl) (fun _ _ _ h => h) (Or.inl ⟨by rfl, ?_⟩) (by assumption) ?_
              rotate_left
              · (intro w hSw; (try dsimp only at hSw); go_simp; (try with_reducible rfl))
              try simp only [Act.put, List.getElem_toArray, List.getElem_cons_zero, List.getElem_cons_succ, List.setIfInBounds_toArray, List.set_cons_zero, List.set_cons_succ]
              refine wpAnyH_take (i := 10) (v := ?_) rfl (by kernel_rfl) (by kernel_rfl) (by kernel_rfl) (fun _ _ _ h => h) (Or.inl ⟨by rfl, ?_⟩) (by assumption) ?_
              rotate_left
              · (intro w hSw; (try dsimp only at hSw); go_simp; (try with_reducible rfl))
              try simp only [Act.put, List.getElem_toArray, List.getElem_cons_zero, List.getElem_cons_succ, List.setIfInBounds_toArray, List.set_cons_zero, List.set_cons_succ]
              refine wpAnyH_take (i := 11) (v := ?_) rfl (by kernel_rfl) (by kernel_rfl) (by kernel_rfl) (fun _ _ _ h => h) (Or.inl ⟨by rfl, ?_⟩) (by assumption) ?_
              rotate_left
              · (intro w hSw; (try dsimp only at hSw); go_simp; (try with_reducible rfl))
              try simp only [Act.put, List.getElem_toArray, List.getElem_cons_zero, List.getElem_cons_succ, List.setIfInBounds_toArray, List.set_cons_zero, List.set_cons_succ]
              refine wpAnyH_ready (rs := [8]) (by kernel_rfl) (by simp) ?_
              refine AllReadyH.cons rfl (fun K hK => ?_) AllReadyH.nil
              go_simp
              (go_at_call 24; (with_reducible refine (HS4.out _ HG8.out).mono ?_); rintro e w9 ⟨v, rfl, hO, hg9⟩; have HG9 := Lib.hid (grown_trans HG8.out hg9); obtain ⟨s9', c9, rfl, hy9, _, _, _⟩ := hO.shape; have k9 := conv_by w9 s9' L4.length c9 L4 rfl hy9; rw [HTE4.out] at k9; have hS9 := And.intro (HKX.out _ HG9.out) (HKY.out _ HG9.out); clear hO hy9 hg9)
              (try go_wp2_with fail)
              refine hK.out _ _ (by exact hS9) (fun hHeld => ?_)
              clear hK K
              try simp only [Act.put, List.getElem_toArray, List.getElem_cons_zero, List.getElem_cons_succ, List.setIfInBounds_toArray, List.set_cons_zero, List.set_cons_succ]
              refine wpAnyH_ready (rs := [9]) (by kernel_rfl) (by simp) ?_
              refine AllReadyH.cons rfl (fun K hK => ?_) AllReadyH.nil
              refine step_conv (by first | rfl | kernel_rfl) _ _ (.tmp 132) rfl _ rfl _ k9 ?_
              refine hK.out _ _ (by exact hS9) (fun hHeld => ?_)
              clear hK K
              try simp only [Act.put, List.getElem_toArray, List.getElem_cons_zero, List.getElem_cons_succ, List.setIfInBounds_toArray, List.set_cons_zero, List.set_cons_succ]
              refine wpAnyH_take (i := 12) (v := ?_) rfl (by kernel_rfl) (by kernel_rfl) (by kernel_rfl) (fun _ _ _ h => h) (Or.inl ⟨by rfl, ?_⟩) (by assumption) ?_
              rotate_left
              · (intro w hSw; (try dsimp only at hSw); go_simp; (try with_reducible rfl))
              try simp only [Act.put, List.getElem_toArray, List.getElem_cons_zero, List.getElem_cons_succ, List.setIfInBounds_toArray, List.set_cons_zero, List.set_cons_succ]
              refine wpAnyH_take (i := 13) (v := ?_) rfl (by kernel_rfl) (by kernel_rfl) (by kernel_rfl) (fun _ _ _ h => h) (Or.inl ⟨by rfl, ?_⟩) (by assumption) ?_
              rotate_left
              · (intro w hSw; (try dsimp only at hSw); go_simp; (try with_reducible rfl))
              try simp only [Act.put, List.getElem_toArray, List.getElem_cons_zero, List.getElem_cons_succ, List.setIfInBounds_toArray, List.set_cons_zero, List.set_cons_succ]
              refine wpAnyH_take (i := 14) (v := ?_) rfl (by kernel_rfl) (by kernel_rfl) (by kernel_rfl) (fun _ _ _ h => h) (Or.inl ⟨by rfl, ?_⟩) (by assumption) ?_
              rotate_left
              · (intro w hSw; (try dsimp only at hSw); go_simp; (try with_reducible rfl))
              try simp only [Act.put, List.getElem_toArray, List.getElem_cons_zero, List.getElem_cons_succ, List.setIfInBounds_toArray, List.set_cons_zero, List.set_cons_succ]
              refine wpAnyH_done (by kernel_rfl) ?_ _
              go_wp2_with fail
              go_ret
              exact ⟨by simp, grown_trans (grown_trans HG5.out HG.out) HG9.out⟩
set_option maxHeartbeats 64000000 in
theorem rn_10 (w : World) (s : Option Addr) (n0 n cap : Nat) (l : List Nat) (si : Option Addr) (m0 m ci : Nat) (zs : List Int) (hb : 4000 < n0) (hbn : n = 4000) (hib : ¬ 500 < m0) (him : m0 = m) (hn : l.length = n) (hl : BySl w s l) (hz : s = none → n0 = 0) (hc : n ≤ cap) (hc0 : n0 ≤ cap) (hm : cap ≤ 9223372036854775807) (hn4 : n ≤ 4000)
    (hm2 : zs.length = m) (hi : InSl w si zs) (hzi : si = none → m0 = 0) (hI : I64 zs) (hm5 : m ≤ 500) (hci0 : m0 ≤ ci) (hcm : ci ≤ 9223372036854775807) :
    Calls Try.prog 7 #[.slice s n0 cap, .slice si m0 ci] w (RetYes w) := by
  obtain ⟨i1, hi1, hz0, hz1, hz2⟩ := info_partsU
  have q1 : decide ((4000 : Int) < (n0 : Int)) = true := decide_eq_true (by omega)
  subst hbn
  obtain ⟨ab, rfl⟩ : ∃ a, s = some a := by
    cases s with
    | none => have := hz rfl; omega
    | some a => exact ⟨a, rfl⟩
  have j1 : (4000 : Int) ≤ (cap : Int) := by omega
  subst him
  have q2 : decide ((500 : Int) < (m0 : Int)) = false := decide_eq_false (by omega)
  have HL := Lib.hid hl
  have HN := Lib.hid hn
  have HI := Lib.hid hi
  have HM := Lib.hid hm2
  have HB := Lib.hid hI
  clear hl hn hi hm2 hI hz hzi
  go_enter Try.func7, Try.ntmps7
  go_wp2_with fail
  refine (Shorts_any w (some ab) 4000 cap l HN.out HL.out hc hm hn4).mono ?_
  obtain ⟨⟨c2, z2⟩, hx⟩ : ∃ x, numsD 2 l = x := ⟨_, rfl⟩
  rw [hx]
  have HX2 := Lib.hid hx
  clear hx
  rintro e w1 ⟨v, rfl, hO, hg⟩
  dsimp only at hO
  obtain ⟨s5, k5, rfl, hr5, _, _⟩ := hO.shape
  have HI5 := Lib.hid hr5
  have HG := Lib.hid hg
  clear hO hr5 hg
  go_wp2_with fail
  refine (RNumbers_2 w1 (some ab) 4000 cap l HN.out (HL.out.kept HG.out) hc hm hn4).mono ?_
  rw [HX2.out]
  rintro e w2 ⟨v, rfl, hO, hg⟩
  dsimp only at hO
  obtain ⟨s7, k7, rfl, hr7, _, _⟩ := hO.shape
  have HI7 := Lib.hid hr7
  replace HI5 := Lib.hid (HI5.out.kept hg)
  replace HG := Lib.hid (grown_trans HG.out hg)
  clear hO hr7 hg
  go_wp2_with fail
  refine (Longs_any w2 (some ab) 4000 cap l HN.out (HL.out.kept HG.out) hc hm hn4).mono ?_
  obtain ⟨⟨c4, z4⟩, hx⟩ : ∃ x, numsD 4 l = x := ⟨_, rfl⟩
  rw [hx]
  have HX4 := Lib.hid hx
  clear hx
  rintro e w3 ⟨v, rfl, hO, hg⟩
  dsimp only at hO
  obtain ⟨s9, k9, rfl, hr9, _, _⟩ := hO.shape
  have HI9 := Lib.hid hr9
  replace HI5 := Lib.hid (HI5.out.kept hg)
  replace HI7 := Lib.hid (HI7.out.kept hg)
  replace HG := Lib.hid (grown_trans HG.out hg)
  clear hO hr9 hg
  go_wp2_with fail
  refine (RNumbers_4 w3 (some ab) 4000 cap l HN.out (HL.out.kept HG.out) hc hm hn4).mono ?_
  rw [HX4.out]
  rintro e w4 ⟨v, rfl, hO, hg⟩
  dsimp only at hO
  obtain ⟨s11, k11, rfl, hr11, _, _⟩ := hO.shape
  have HI11 := Lib.hid hr11
  replace HI5 := Lib.hid (HI5.out.kept hg)
  replace HI7 := Lib.hid (HI7.out.kept hg)
  replace HI9 := Lib.hid (HI9.out.kept hg)
  replace HG := Lib.hid (grown_trans HG.out hg)
  clear hO hr11 hg
  obtain ⟨m2, hm2⟩ : ∃ m2, z2.length = m2 := ⟨_, rfl⟩
  obtain ⟨m4, hm4⟩ : ∃ m4, z4.length = m4 := ⟨_, rfl⟩
  rw [hm2, hm4]
  have HMm2 := Lib.hid hm2
  have HMm4 := Lib.hid hm4
  have hmb2 : m2 ≤ 4000 := by
    have h := HX2.out
    unfold numsD at h
    split at h
    · cases h; rw [← hm2, numsL_len, HN.out]; omega
    · cases h; rw [← hm2]; simp
  have hmb4 : m4 ≤ 4000 := by
    have h := HX4.out
    unfold numsD at h
    split at h
    · cases h; rw [← hm4, numsL_len, HN.out]; omega
    · cases h; rw [← hm4]; simp
  clear hm2 hm4
  go_wp2_with fail
  refine (Known_any w4).mono ?_
  rintro e w5 ⟨rfl, hg⟩
  replace HI5 := Lib.hid (HI5.out.kept hg)
  replace HI7 := Lib.hid (HI7.out.kept hg)
  replace HI9 := Lib.hid (HI9.out.kept hg)
  replace HI11 := Lib.hid (HI11.out.kept hg)
  replace HG := Lib.hid (grown_trans HG.out hg)
  have HG5 := HG
  have hG : w5.grownBy w5 none := grown_refl _ _
  have HII := Lib.hid (HI.out.kept HG5.out)
  clear hg HG
  have u1 : ((c2 : Int) != (c2 : Int)) = false := by simp
  have u2 : ((c4 : Int) != (c4 : Int)) = false := by simp
  have u3 : ((m2 : Int) != (m2 : Int)) = false := by simp
  have u4 : ((m4 : Int) != (m4 : Int)) = false := by simp
  go_wp2_with fail
  go_loopg [13] m2 (fun gh i wr => ∃ k : Nat, k ≤ m2 ∧ m2 - k ≤ gh ∧ i = .int .i64 (k : Int) ∧ w5.grownBy wr none)
  case atStart => exact ⟨0, Nat.zero_le _, Nat.le_refl _, rfl, hG⟩
  case round =>
    clear hG
    obtain ⟨k, hk, hgh, rfl, hG⟩ := hrel
    by_cases hlt : k < m2
    · have f1 : decide ((k : Int) < (m2 : Int)) = true := decide_eq_true (by omega)
      have hkz : k < z2.length := by rw [HMm2.out]; exact hlt
      obtain ⟨a, rfl, hc1⟩ := HI5.out k hkz
      obtain ⟨a', rfl, hc2⟩ := HI7.out k hkz
      obtain ⟨x, hx⟩ : ∃ x, z2[k] = x := ⟨_, rfl⟩
      rw [hx] at hc1 hc2
      replace hc1 := hG.cell hc1 (by simp)
      replace hc2 := hG.cell hc2 (by simp)
      have t1 : (x != x) = false := by simp
      have HG := Lib.hid hG
      clear hx hG hkz
      go_wp2_with fail
      go_quiet (fail)
      go_wp2_with fail
      go_roundg (m2 - (k + 1))
      case measure => omega
      case rel => exact ⟨k + 1, by omega, Nat.le_refl _, by go_num, grown_trans HG.out (grown_drewN _ _ _)⟩
    · have f1 : decide ((k : Int) < (m2 : Int)) = false := decide_eq_false (by omega)
      have f1b : decide (k < m2) = false := decide_eq_false hlt
      clear hk hgh hlt
      go_wp2_with fail
      go_loopg [14] m4 (fun gh i wr => ∃ k : Nat, k ≤ m4 ∧ m4 - k ≤ gh ∧ i = .int .i64 (k : Int) ∧ w5.grownBy wr none)
      case atStart => exact ⟨0, Nat.zero_le _, Nat.le_refl _, rfl, hG⟩
      case round =>
        clear hG
        obtain ⟨k, hk, hgh, rfl, hG⟩ := hrel
        by_cases hlt : k < m4
        · have f1 : decide ((k : Int) < (m4 : Int)) = true := decide_eq_true (by omega)
          have hkz : k < z4.length := by rw [HMm4.out]; exact hlt
          obtain ⟨a, rfl, hc1⟩ := HI9.out k hkz
          obtain ⟨a', rfl, hc2⟩ := HI11.out k hkz
          obtain ⟨x, hx⟩ : ∃ x, z4[k] = x := ⟨_, rfl⟩
          rw [hx] at hc1 hc2
          replace hc1 := hG.cell hc1 (by simp)
          replace hc2 := hG.cell hc2 (by simp)
          have t1 : (x != x) = false := by simp
          have HG := Lib.hid hG
          clear hx hG hkz
          go_wp2_with fail
          go_quiet (fail)
          go_wp2_with fail
          go_roundg (m4 - (k + 1))
          case measure => omega
          case rel => exact ⟨k + 1, by omega, Nat.le_refl _, by go_num, grown_trans HG.out (grown_drewN _ _ _)⟩
        · have f1 : decide ((k : Int) < (m4 : Int)) = false := decide_eq_false (by omega)
          have f1b : decide (k < m4) = false := decide_eq_false hlt
          clear hk hgh hlt
          go_wp2_with fail
          have hOx : OwnB wr w5.heap.size (.slice none 0 0) (laidL 2 (zs.take 0)) := OwnB.nil _ _
          have hOy : OwnB wr w5.heap.size (.slice none 0 0) (laidL 4 (zs.take 0)) := OwnB.nil _ _
          have hap : Apart (.slice none 0 0) (.slice none 0 0) := fun b e => by cases e
          go_loopg [15, 16, 17] m0 (fun gh vx vy i wr2 => ∃ k : Nat, k ≤ m0 ∧ m0 - k ≤ gh ∧ i = .int .i64 (k : Int) ∧ OwnB wr2 w5.heap.size vx (laidL 2 (zs.take k)) ∧ OwnB wr2 w5.heap.size vy (laidL 4 (zs.take k)) ∧ Apart vy vx ∧ w5.grownBy wr2 none)
          case atStart => exact ⟨0, Nat.zero_le _, Nat.le_refl _, rfl, hOx, hOy, hap, hG⟩
          case round =>
            clear hOx hOy hap hG
            obtain ⟨k, hk, hgh, rfl, hOx, hOy, hap, hG⟩ := hrel
            by_cases hlt : k < m0
            · have f1 : decide ((k : Int) < (m0 : Int)) = true := decide_eq_true (by omega)
              have hkz : k < zs.length := by rw [HM.out]; exact hlt
              obtain ⟨a, ha, hc1⟩ := HII.out k hkz
              subst ha
              have hxb := HB.out _ (List.getElem_mem hkz)
              have hT2 := laidL_take 2 zs k hkz
              have hT4 := laidL_take 4 zs k hkz
              obtain ⟨x, hx⟩ : ∃ x, zs[k] = x := ⟨_, rfl⟩
              rw [hx] at hc1 hxb hT2 hT4
              have HT2 := Lib.hid hT2
              have HT4 := Lib.hid hT4
              obtain ⟨hx1, hx2⟩ := hxb
              have HC1 := Lib.hid hc1
              replace hc1 := hG.cell hc1 (by simp)
              have hlx : (laidL 2 (zs.take k)).length ≤ 1000 := by rw [laidL_len, List.length_take]; omega
              have hly : (laidL 4 (zs.take k)).length ≤ 2000 := by rw [laidL_len, List.length_take]; omega
              obtain ⟨LX, hLX⟩ : ∃ L, laidL 2 (zs.take k) = L := ⟨_, rfl⟩
              obtain ⟨LY, hLY⟩ : ∃ L, laidL 4 (zs.take k) = L := ⟨_, rfl⟩
              rw [hLX] at hOx hlx HT2
              rw [hLY] at hOy hly HT4
              obtain ⟨sx, cx, rfl, _, _, _, _⟩ := hOx.shape
              obtain ⟨sy, cy, rfl, _, _, _, _⟩ := hOy.shape
              have HOX := Lib.hid hOx
              have HOY := Lib.hid hOy
              have HAP := Lib.hid hap
              have HG := Lib.hid hG
              clear hx hT2 hT4 hLX hLY hOx hOy hap hG hkz
              go_wp2_with fail
              refine (Bytes_2 wr x hx1 hx2).mono ?_
              rintro e wa ⟨v, rfl, hO, hg⟩
              obtain ⟨s0, c0, rfl, hy, _, _, _⟩ := hO.shape
              rw [bytesN_len] at *
              have hOXa := HOX.out.kept hg
              have HOYa := Lib.hid (HOY.out.kept hg)
              have HGa := Lib.hid (grown_trans HG.out hg)
              obtain ⟨a0, rfl⟩ : ∃ a, s0 = some a := by
                rcases hy.1 with e | ⟨a, e, _⟩
                · have := bytesN_len 2 x; rw [e] at this; cases this
                · exact ⟨a, e⟩
              have HNW := Lib.hid hy.news
              have HL8 := Lib.hid hy.2
              have HX8 := Lib.hid hOXa.2
              have HOWN := Lib.hid hOXa.1
              have HBL : Hid ((bvs (bytesN 2 x)).length = 2 * 1) := Lib.hid (by rw [bvs_len, bytesN_len])
              have HBS := Lib.hid HGa.out.size
              have HMX : Hid (LX.length + 2 ≤ maxLen) := Lib.hid (by unfold maxLen; omega)
              clear hO hy hg hOXa
              go_wp2_with (at_builtin; refine wpList_append_lies _ rfl (.tmp 110) (.tmp 115) 22 rfl w5.heap.size 5 i1 (.int .u8 0) 1 1 Try.underlying22 hi1 hz0 hz1 hz2 rfl (by decide) (.slice sx LX.length cx) LX.length (bvs LX) rfl HOWN.out a0 2 c0 (bvs (bytesN 2 x)) rfl HBL.out HNW.out (bvs_one _) (by decide) HMX.out (by omega) HBS.out _ rfl ?_)
              intro gx cx2 wb hownx hgrowx hatx hltx
              have HGb := Lib.hid (grown_own HGa.out HOWN.out hgrowx (Nat.le_refl _))
              have HOXb := Lib.hid (OwnB.of (l := LX) (m := bytesN 2 x) hownx (by rw [bytesN_len]) HX8.out HL8.out)
              have HOYb := Lib.hid (HOYa.out.off hgrowx (fun b e => by intro e2; exact HAP.out b e e2.symm))
              have HAPb : Hid (∀ b, (Value.slice sy LY.length cy).ownBlock = some b → b ≠ gx) := Lib.hid (fun b e => by
                rintro rfl
                rcases hatx with h | h
                · exact HAP.out b e h
                · have := HOYa.out.lt b e; omega)
              have hc1 := HGb.out.cell HC1.out (by simp)
              clear hownx hgrowx hatx HOWN HNW HBL HBS HMX
              go_wp2_with fail
              refine (Bytes_4 wb x hx1 hx2).mono ?_
              rintro e wc ⟨v, rfl, hO, hg⟩
              obtain ⟨s0, c9, rfl, hy, _, _, _⟩ := hO.shape
              rw [bytesN_len] at *
              have hOYc := HOYb.out.kept hg
              have HOXc := Lib.hid (HOXb.out.kept hg)
              have HGc := Lib.hid (grown_trans HGb.out hg)
              obtain ⟨a9, rfl⟩ : ∃ a, s0 = some a := by
                rcases hy.1 with e | ⟨a, e, _⟩
                · have := bytesN_len 4 x; rw [e] at this; cases this
                · exact ⟨a, e⟩
              have HNW := Lib.hid hy.news
              have HL9 := Lib.hid hy.2
              have HY8 := Lib.hid hOYc.2
              have HOWN := Lib.hid hOYc.1
              have HBL : Hid ((bvs (bytesN 4 x)).length = 4 * 1) := Lib.hid (by rw [bvs_len, bytesN_len])
              have HBS := Lib.hid HGc.out.size
              have HMX : Hid (LY.length + 4 ≤ maxLen) := Lib.hid (by unfold maxLen; omega)
              clear hO hy hg hOYc
              go_wp2_with (at_builtin; refine wpList_append_lies _ rfl (.tmp 117) (.tmp 122) 22 rfl w5.heap.size 5 i1 (.int .u8 0) 1 1 Try.underlying22 hi1 hz0 hz1 hz2 rfl (by decide) (.slice sy LY.length cy) LY.length (bvs LY) rfl HOWN.out a9 4 c9 (bvs (bytesN 4 x)) rfl HBL.out HNW.out (bvs_one _) (by decide) HMX.out (by omega) HBS.out _ rfl ?_)
              intro gy cy2 wd howny hgrowy haty hlty
              have HGd := Lib.hid (grown_own HGc.out HOWN.out hgrowy (Nat.le_refl _))
              have HOYd := Lib.hid (OwnB.of (l := LY) (m := bytesN 4 x) howny (by rw [bytesN_len]) HY8.out HL9.out)
              have HOXd := Lib.hid (HOXc.out.off hgrowy (fun b e => by
                have e3 : gx = b := Option.some.inj e
                subst e3
                intro e2; exact HAPb.out gx e2.symm rfl))
              have HAPd : Hid (Apart (.slice (some ⟨gy, 0, none⟩) (LY.length + 4) cy2) (.slice (some ⟨gx, 0, none⟩) (LX.length + 2) cx2)) := Lib.hid (fun b e e2 => by
                have e3 : gy = b := Option.some.inj e
                have e4 : gx = b := Option.some.inj e2
                subst e3; subst e4
                rcases haty with h | h
                · exact HAPb.out gx h rfl
                · have := HOXc.out.lt gx rfl; omega)
              clear howny hgrowy haty HOWN HNW HBL HBS HMX
              go_wp2_with fail
              go_roundg (m0 - (k + 1))
              case measure => omega
              case rel => exact ⟨k + 1, by omega, Nat.le_refl _, by go_num, by rw [HT2.out]; exact HOXd.out, by rw [HT4.out]; exact HOYd.out, HAPd.out, HGd.out⟩
            · have f1 : decide ((k : Int) < (m0 : Int)) = false := decide_eq_false (by omega)
              have f1b : decide (k < m0) = false := decide_eq_false hlt
              have hkn : k = m0 := by omega
              have hT2 : Hid (laidL 2 (zs.take k) = laidL 2 zs) := Lib.hid (by rw [hkn, ← HM.out, List.take_length])
              have hT4 : Hid (laidL 4 (zs.take k) = laidL 4 zs) := Lib.hid (by rw [hkn, ← HM.out, List.take_length])
              rw [hT2.out] at hOx
              rw [hT4.out] at hOy
              obtain ⟨sx, cx, rfl, hyx, _, _, _⟩ := hOx.shape
              obtain ⟨sy, cy, rfl, hyy, _, _, _⟩ := hOy.shape
              have HYX := Lib.hid hyx
              have HYY := Lib.hid hyy
              have HG := Lib.hid hG
              have HIN := Lib.hid (HII.out.kept hG)
              clear hOx hOy hyx hyy hG hkn hap
              obtain ⟨L2, hL2⟩ : ∃ L, laidL 2 zs = L := ⟨_, rfl⟩
              obtain ⟨L4, hL4⟩ : ∃ L, laidL 4 zs = L := ⟨_, rfl⟩
              have HS2 := Lib.hid (fun W (h : wr.grownBy W none) => OfShorts_any W si m0 ci zs HM.out (HIN.out.kept h) HB.out (by omega))
              have HS4 := Lib.hid (fun W (h : wr.grownBy W none) => OfLongs_any W si m0 ci zs HM.out (HIN.out.kept h) HB.out (by omega))
              rw [hL2] at HYX HS2 ⊢
              rw [hL4] at HYY HS4 ⊢
              clear hL2 hL4 hT2 hT4
              have HKX := Lib.hid (fun W (h : wr.grownBy W none) => conv_by W sx L2.length cx L2 rfl (HYX.out.kept h))
              have HKY := Lib.hid (fun W (h : wr.grownBy W none) => conv_by W sy L4.length cy L4 rfl (HYY.out.kept h))
              obtain ⟨T2, hT2⟩ : ∃ T, strOf L2 = T := ⟨_, rfl⟩
              obtain ⟨T4, hT4⟩ : ∃ T, strOf L4 = T := ⟨_, rfl⟩
              rw [hT2] at HKX
              rw [hT4] at HKY
              have HTE2 := Lib.hid hT2
              have HTE4 := Lib.hid hT4
              clear hT2 hT4
              have kx := HKX.out wr.drew (grown_drew (grown_refl _ none))
              have ky := HKY.out wr.drew (grown_drew (grown_refl _ none))
              go_wp2_with fail
              refine wp_region_held_drew (S := fun w' => (convert 22 9 (.slice sx L2.length cx)).run Try.prog w' = .ok (.string T2) w' ∧ (convert 22 9 (.slice sy L4.length cy)).run Try.prog w' = .ok (.string T4) w') (by kernel_rfl) (by exact ⟨kx, ky⟩) (fun hHeld => ?_)
              refine wpAnyH_take (i := 0) (v := ?_) rfl (by kernel_rfl) (by kernel_rfl) (by kernel_rfl) (fun _ _ _ h => h) (Or.inl ⟨by rfl, ?_⟩) (by assumption) ?_
              rotate_left
              · (intro w hSw; (try dsimp only at hSw); go_simp; (try with_reducible rfl))
              try simp only [Act.put, List.getElem_toArray, List.getElem_cons_zero, List.getElem_cons_succ, List.setIfInBounds_toArray, List.set_cons_zero, List.set_cons_succ]
              refine wpAnyH_take (i := 3) (v := ?_) rfl (by kernel_rfl) (by kernel_rfl) (by kernel_rfl) (fun _ _ _ h => h) (Or.inl ⟨by rfl, ?_⟩) (by assumption) ?_
              rotate_left
              · (intro w hSw; (try dsimp only at hSw); go_simp; (try with_reducible rfl))
              try simp only [Act.put, List.getElem_toArray, List.getElem_cons_zero, List.getElem_cons_succ, List.setIfInBounds_toArray, List.set_cons_zero, List.set_cons_succ]
              refine wpAnyH_take (i := 4) (v := ?_) rfl (by kernel_rfl) (by kernel_rfl) (by kernel_rfl) (fun _ _ _ h => h) (Or.inl ⟨by rfl, ?_⟩) (by assumption) ?_
              rotate_left
              · (intro w hSw; (try dsimp only at hSw); go_simp; (try with_reducible rfl))
              try simp only [Act.put, List.getElem_toArray, List.getElem_cons_zero, List.getElem_cons_succ, List.setIfInBounds_toArray, List.set_cons_zero, List.set_cons_succ]
              refine wpAnyH_ready (rs := [1]) (by kernel_rfl) (by simp) ?_
              refine AllReadyH.cons rfl (fun K hK => ?_) AllReadyH.nil
              go_simp
              (go_at_call 23; (with_reducible refine (HS2.out _ (grown_drew (grown_refl _ none))).mono ?_); rintro e w8 ⟨v, rfl, hO, hg8⟩; have HG8 := Lib.hid (grown_trans (grown_drew (grown_refl _ none)) hg8); obtain ⟨s8, c8, rfl, hy8, _, _, _⟩ := hO.shape; have k8 := conv_by w8 s8 L2.length c8 L2 rfl hy8; rw [HTE2.out] at k8; have hS8 := And.intro (HKX.out _ HG8.out) (HKY.out _ HG8.out); clear hO hy8 hg8)
              (try go_wp2_with fail)
              refine hK.out _ _ (by exact hS8) (fun hHeld => ?_)
              clear hK K
              try simp only [Act.put, List.getElem_toArray, List.getElem_cons_zero, List.getElem_cons_succ, List.setIfInBounds_toArray, List.set_cons_zero, List.set_cons_succ]
              refine wpAnyH_ready (rs := [2]) (by kernel_rfl) (by simp) ?_
              refine AllReadyH.cons rfl (fun K hK => ?_) AllReadyH.nil
              refine step_conv (by first | rfl | kernel_rfl) _ _ (.tmp 125) rfl _ rfl _ k8 ?_
              refine hK.out _ _ (by exact hS8) (fun hHeld => ?_)
              clear hK K
              try simp only [Act.put, List.getElem_toArray, List.getElem_cons_zero, List.getElem_cons_succ, List.setIfInBounds_toArray, List.set_cons_zero, List.set_cons_succ]
              refine wpAnyH_take (i := 5) (v := ?_) rfl (by kernel_rfl) (by kernel_rfl) (by kernel_rfl) (fun _ _ _ h => h) (Or.inl ⟨by rfl, ?_⟩) (by assumption) ?_
              rotate_left
              · (intro w hSw; (try dsimp only at hSw); go_simp; (try with_reducible rfl))
              try simp only [Act.put, List.getElem_toArray, List.getElem_cons_zero, List.getElem_cons_succ, List.setIfInBounds_toArray, List.set_cons_zero, List.set_cons_succ]
              refine wpAnyH_take (i := 6) (v := ?_) rfl (by kernel_rfl) (by kernel_rfl) (by kernel_rfl) (fun _ _ _ h => h) (Or.inl ⟨by rfl, ?_⟩) (by assumption) ?_
              rotate_left
              · (intro w hSw; (try dsimp only at hSw); go_simp; (try with_reducible rfl))
              try simp only [Act.put, List.getElem_toArray, List.getElem_cons_zero, List.getElem_cons_succ, List.setIfInBounds_toArray, List.set_cons_zero, List.set_cons_succ]
              refine wpAnyH_take (i := 7) (v := ?_) rfl (by kernel_rfl) (by kernel_rfl) (by kernel_rfl) (fun _ _ _ h => h) (Or.inl ⟨by rfl, ?_⟩) (by assumption) ?_
              rotate_left
              · (intro w hSw; (try dsimp only at hSw); go_simp; (try with_reducible rfl))
              try simp only [Act.put, List.getElem_toArray, List.getElem_cons_zero, List.getElem_cons_succ, List.setIfInBounds_toArray, List.set_cons_zero, List.set_cons_succ]
              refine wpAnyH_take (i := 10) (v := ?_) rfl (by kernel_rfl) (by kernel_rfl) (by kernel_rfl) (fun _ _ _ h => h) (Or.inl ⟨by rfl, ?_⟩) (by assumption) ?_
              rotate_left
              · (intro w hSw; (try dsimp only at hSw); go_simp; (try with_reducible rfl))
              try simp only [Act.put, List.getElem_toArray, List.getElem_cons_zero, List.getElem_cons_succ, List.setIfInBounds_toArray, List.set_cons_zero, List.set_cons_succ]
              refine wpAnyH_take (i := 11) (v := ?_) rfl (by kernel_rfl) (by kernel_rfl) (by kernel_rfl) (fun _ _ _ h => h) (Or.inl ⟨by rfl, ?_⟩) (by assumption) ?_
              rotate_left
              · (intro w hSw; (try dsimp only at hSw); go_simp; (try with_reducible rfl))
              try simp only [Act.put, List.getElem_toArray, List.getElem_cons_zero, List.getElem_cons_succ, List.setIfInBounds_toArray, List.set_cons_zero, List.set_cons_succ]
              refine wpAnyH_ready (rs := [8]) (by kernel_rfl) (by simp) ?_
              refine AllReadyH.cons rfl (fun K hK => ?_) AllReadyH.nil
              go_simp
              (go_at_call 24; (with_reducible refine (HS4.out _ HG8.out).mono ?_); rintro e w9 ⟨v, rfl, hO, hg9⟩; have HG9 := Lib.hid (grown_trans HG8.out hg9); obtain ⟨s9', c9, rfl, hy9, _, _, _⟩ := hO.shape; have k9 := conv_by w9 s9' L4.length c9 L4 rfl hy9; rw [HTE4.out] at k9; have hS9 := And.intro (HKX.out _ HG9.out) (HKY.out _ HG9.out); clear hO hy9 hg9)
              (try go_wp2_with fail)
              refine hK.out _ _ (by exact hS9) (fun hHeld => ?_)
              clear hK K
              try simp only [Act.put, List.getElem_toArray, List.getElem_cons_zero, List.getElem_cons_succ, List.setIfInBounds_toArray, List.set_cons_zero, List.set_cons_succ]
              refine wpAnyH_ready (rs := [9]) (by kernel_rfl) (by simp) ?_
              refine AllReadyH.cons rfl (fun K hK => ?_) AllReadyH.nil
              refine step_conv (by first | rfl | kernel_rfl) _ _ (.tmp 132) rfl _ rfl _ k9 ?_
              refine hK.out _ _ (by exact hS9) (fun hHeld => ?_)
              clear hK K
              try simp only [Act.put, List.getElem_toArray, List.getElem_cons_zero, List.getElem_cons_succ, List.setIfInBounds_toArray, List.set_cons_zero, List.set_cons_succ]
              refine wpAnyH_take (i := 12) (v := ?_) rfl (by kernel_rfl) (by kernel_rfl) (by kernel_rfl) (fun _ _ _ h => h) (Or.inl ⟨by rfl, ?_⟩) (by assumption) ?_
              rotate_left
              · (intro w hSw; (try dsimp only at hSw); go_simp; (try with_reducible rfl))
              try simp only [Act.put, List.getElem_toArray, List.getElem_cons_zero, List.getElem_cons_succ, List.setIfInBounds_toArray, List.set_cons_zero, List.set_cons_succ]
              refine wpAnyH_take (i := 13) (v := ?_) rfl (by kernel_rfl) (by kernel_rfl) (by kernel_rfl) (fun _ _ _ h => h) (Or.inl ⟨by rfl, ?_⟩) (by assumption) ?_
              rotate_left
              · (intro w hSw; (try dsimp only at hSw); go_simp; (try with_reducible rfl))
              try simp only [Act.put, List.getElem_toArray, List.getElem_cons_zero, List.getElem_cons_succ, List.setIfInBounds_toArray, List.set_cons_zero, List.set_cons_succ]
              refine wpAnyH_take (i := 14) (v := ?_) rfl (by kernel_rfl) (by kernel_rfl) (by kernel_rfl) (fun _ _ _ h => h) (Or.inl ⟨by rfl, ?_⟩) (by assumption) ?_
              rotate_left
              · (intro w hSw; (try dsimp only at hSw); go_simp; (try with_reducible rfl))
              try simp only [Act.put, List.getElem_toArray, List.getElem_cons_zero, List.getElem_cons_succ, List.setIfInBounds_toArray, List.set_cons_zero, List.set_cons_succ]
              refine wpAnyH_done (by kernel_rfl) ?_ _
              go_wp2_with fail
              go_ret
              exact ⟨by simp, grown_trans (grown_trans HG5.out HG.out) HG9.out⟩
set_option maxHeartbeats 64000000 in
theorem rn_11 (w : World) (s : Option Addr) (n0 n cap : Nat) (l : List Nat) (si : Option Addr) (m0 m ci : Nat) (zs : List Int) (hb : 4000 < n0) (hbn : n = 4000) (hib : 500 < m0) (him : m = 500) (hn : l.length = n) (hl : BySl w s l) (hz : s = none → n0 = 0) (hc : n ≤ cap) (hc0 : n0 ≤ cap) (hm : cap ≤ 9223372036854775807) (hn4 : n ≤ 4000)
    (hm2 : zs.length = m) (hi : InSl w si zs) (hzi : si = none → m0 = 0) (hI : I64 zs) (hm5 : m ≤ 500) (hci0 : m0 ≤ ci) (hcm : ci ≤ 9223372036854775807) :
    Calls Try.prog 7 #[.slice s n0 cap, .slice si m0 ci] w (RetYes w) := by
  obtain ⟨i1, hi1, hz0, hz1, hz2⟩ := info_partsU
  have q1 : decide ((4000 : Int) < (n0 : Int)) = true := decide_eq_true (by omega)
  subst hbn
  obtain ⟨ab, rfl⟩ : ∃ a, s = some a := by
    cases s with
    | none => have := hz rfl; omega
    | some a => exact ⟨a, rfl⟩
  have j1 : (4000 : Int) ≤ (cap : Int) := by omega
  have q2 : decide ((500 : Int) < (m0 : Int)) = true := decide_eq_true (by omega)
  subst him
  obtain ⟨ai, rfl⟩ : ∃ a, si = some a := by
    cases si with
    | none => have := hzi rfl; omega
    | some a => exact ⟨a, rfl⟩
  have j2 : (500 : Int) ≤ (ci : Int) := by omega
  have HL := Lib.hid hl
  have HN := Lib.hid hn
  have HI := Lib.hid hi
  have HM := Lib.hid hm2
  have HB := Lib.hid hI
  clear hl hn hi hm2 hI hz hzi
  go_enter Try.func7, Try.ntmps7
  go_wp2_with fail
  refine (Shorts_any w (some ab) 4000 cap l HN.out HL.out hc hm hn4).mono ?_
  obtain ⟨⟨c2, z2⟩, hx⟩ : ∃ x, numsD 2 l = x := ⟨_, rfl⟩
  rw [hx]
  have HX2 := Lib.hid hx
  clear hx
  rintro e w1 ⟨v, rfl, hO, hg⟩
  dsimp only at hO
  obtain ⟨s5, k5, rfl, hr5, _, _⟩ := hO.shape
  have HI5 := Lib.hid hr5
  have HG := Lib.hid hg
  clear hO hr5 hg
  go_wp2_with fail
  refine (RNumbers_2 w1 (some ab) 4000 cap l HN.out (HL.out.kept HG.out) hc hm hn4).mono ?_
  rw [HX2.out]
  rintro e w2 ⟨v, rfl, hO, hg⟩
  dsimp only at hO
  obtain ⟨s7, k7, rfl, hr7, _, _⟩ := hO.shape
  have HI7 := Lib.hid hr7
  replace HI5 := Lib.hid (HI5.out.kept hg)
  replace HG := Lib.hid (grown_trans HG.out hg)
  clear hO hr7 hg
  go_wp2_with fail
  refine (Longs_any w2 (some ab) 4000 cap l HN.out (HL.out.kept HG.out) hc hm hn4).mono ?_
  obtain ⟨⟨c4, z4⟩, hx⟩ : ∃ x, numsD 4 l = x := ⟨_, rfl⟩
  rw [hx]
  have HX4 := Lib.hid hx
  clear hx
  rintro e w3 ⟨v, rfl, hO, hg⟩
  dsimp only at hO
  obtain ⟨s9, k9, rfl, hr9, _, _⟩ := hO.shape
  have HI9 := Lib.hid hr9
  replace HI5 := Lib.hid (HI5.out.kept hg)
  replace HI7 := Lib.hid (HI7.out.kept hg)
  replace HG := Lib.hid (grown_trans HG.out hg)
  clear hO hr9 hg
  go_wp2_with fail
  refine (RNumbers_4 w3 (some ab) 4000 cap l HN.out (HL.out.kept HG.out) hc hm hn4).mono ?_
  rw [HX4.out]
  rintro e w4 ⟨v, rfl, hO, hg⟩
  dsimp only at hO
  obtain ⟨s11, k11, rfl, hr11, _, _⟩ := hO.shape
  have HI11 := Lib.hid hr11
  replace HI5 := Lib.hid (HI5.out.kept hg)
  replace HI7 := Lib.hid (HI7.out.kept hg)
  replace HI9 := Lib.hid (HI9.out.kept hg)
  replace HG := Lib.hid (grown_trans HG.out hg)
  clear hO hr11 hg
  obtain ⟨m2, hm2⟩ : ∃ m2, z2.length = m2 := ⟨_, rfl⟩
  obtain ⟨m4, hm4⟩ : ∃ m4, z4.length = m4 := ⟨_, rfl⟩
  rw [hm2, hm4]
  have HMm2 := Lib.hid hm2
  have HMm4 := Lib.hid hm4
  have hmb2 : m2 ≤ 4000 := by
    have h := HX2.out
    unfold numsD at h
    split at h
    · cases h; rw [← hm2, numsL_len, HN.out]; omega
    · cases h; rw [← hm2]; simp
  have hmb4 : m4 ≤ 4000 := by
    have h := HX4.out
    unfold numsD at h
    split at h
    · cases h; rw [← hm4, numsL_len, HN.out]; omega
    · cases h; rw [← hm4]; simp
  clear hm2 hm4
  go_wp2_with fail
  refine (Known_any w4).mono ?_
  rintro e w5 ⟨rfl, hg⟩
  replace HI5 := Lib.hid (HI5.out.kept hg)
  replace HI7 := Lib.hid (HI7.out.kept hg)
  replace HI9 := Lib.hid (HI9.out.kept hg)
  replace HI11 := Lib.hid (HI11.out.kept hg)
  replace HG := Lib.hid (grown_trans HG.out hg)
  have HG5 := HG
  have hG : w5.grownBy w5 none := grown_refl _ _
  have HII := Lib.hid (HI.out.kept HG5.out)
  clear hg HG
  have u1 : ((c2 : Int) != (c2 : Int)) = false := by simp
  have u2 : ((c4 : Int) != (c4 : Int)) = false := by simp
  have u3 : ((m2 : Int) != (m2 : Int)) = false := by simp
  have u4 : ((m4 : Int) != (m4 : Int)) = false := by simp
  go_wp2_with fail
  go_loopg [13] m2 (fun gh i wr => ∃ k : Nat, k ≤ m2 ∧ m2 - k ≤ gh ∧ i = .int .i64 (k : Int) ∧ w5.grownBy wr none)
  case atStart => exact ⟨0, Nat.zero_le _, Nat.le_refl _, rfl, hG⟩
  case round =>
    clear hG
    obtain ⟨k, hk, hgh, rfl, hG⟩ := hrel
    by_cases hlt : k < m2
    · have f1 : decide ((k : Int) < (m2 : Int)) = true := decide_eq_true (by omega)
      have hkz : k < z2.length := by rw [HMm2.out]; exact hlt
      obtain ⟨a, rfl, hc1⟩ := HI5.out k hkz
      obtain ⟨a', rfl, hc2⟩ := HI7.out k hkz
      obtain ⟨x, hx⟩ : ∃ x, z2[k] = x := ⟨_, rfl⟩
      rw [hx] at hc1 hc2
      replace hc1 := hG.cell hc1 (by simp)
      replace hc2 := hG.cell hc2 (by simp)
      have t1 : (x != x) = false := by simp
      have HG := Lib.hid hG
      clear hx hG hkz
      go_wp2_with fail
      go_quiet (fail)
      go_wp2_with fail
      go_roundg (m2 - (k + 1))
      case measure => omega
      case rel => exact ⟨k + 1, by omega, Nat.le_refl _, by go_num, grown_trans HG.out (grown_drewN _ _ _)⟩
    · have f1 : decide ((k : Int) < (m2 : Int)) = false := decide_eq_false (by omega)
      have f1b : decide (k < m2) = false := decide_eq_false hlt
      clear hk hgh hlt
      go_wp2_with fail
      go_loopg [14] m4 (fun gh i wr => ∃ k : Nat, k ≤ m4 ∧ m4 - k ≤ gh ∧ i = .int .i64 (k : Int) ∧ w5.grownBy wr none)
      case atStart => exact ⟨0, Nat.zero_le _, Nat.le_refl _, rfl, hG⟩
      case round =>
        clear hG
        obtain ⟨k, hk, hgh, rfl, hG⟩ := hrel
        by_cases hlt : k < m4
        · have f1 : decide ((k : Int) < (m4 : Int)) = true := decide_eq_true (by omega)
          have hkz : k < z4.length := by rw [HMm4.out]; exact hlt
          obtain ⟨a, rfl, hc1⟩ := HI9.out k hkz
          obtain ⟨a', rfl, hc2⟩ := HI11.out k hkz
          obtain ⟨x, hx⟩ : ∃ x, z4[k] = x := ⟨_, rfl⟩
          rw [hx] at hc1 hc2
          replace hc1 := hG.cell hc1 (by simp)
          replace hc2 := hG.cell hc2 (by simp)
          have t1 : (x != x) = false := by simp
          have HG := Lib.hid hG
          clear hx hG hkz
          go_wp2_with fail
          go_quiet (fail)
          go_wp2_with fail
          go_roundg (m4 - (k + 1))
          case measure => omega
          case rel => exact ⟨k + 1, by omega, Nat.le_refl _, by go_num, grown_trans HG.out (grown_drewN _ _ _)⟩
        · have f1 : decide ((k : Int) < (m4 : Int)) = false := decide_eq_false (by omega)
          have f1b : decide (k < m4) = false := decide_eq_false hlt
          clear hk hgh hlt
          go_wp2_with fail
          have hOx : OwnB wr w5.heap.size (.slice none 0 0) (laidL 2 (zs.take 0)) := OwnB.nil _ _
          have hOy : OwnB wr w5.heap.size (.slice none 0 0) (laidL 4 (zs.take 0)) := OwnB.nil _ _
          have hap : Apart (.slice none 0 0) (.slice none 0 0) := fun b e => by cases e
          go_loopg [15, 16, 17] 500 (fun gh vx vy i wr2 => ∃ k : Nat, k ≤ 500 ∧ 500 - k ≤ gh ∧ i = .int .i64 (k : Int) ∧ OwnB wr2 w5.heap.size vx (laidL 2 (zs.take k)) ∧ OwnB wr2 w5.heap.size vy (laidL 4 (zs.take k)) ∧ Apart vy vx ∧ w5.grownBy wr2 none)
          case atStart => exact ⟨0, Nat.zero_le _, Nat.le_refl _, rfl, hOx, hOy, hap, hG⟩
          case round =>
            clear hOx hOy hap hG
            obtain ⟨k, hk, hgh, rfl, hOx, hOy, hap, hG⟩ := hrel
            by_cases hlt : k < 500
            · have f1 : decide ((k : Int) < (500 : Int)) = true := decide_eq_true (by omega)
              have hkz : k < zs.length := by rw [HM.out]; exact hlt
              obtain ⟨a, ha, hc1⟩ := HII.out k hkz
              cases ha
              have hxb := HB.out _ (List.getElem_mem hkz)
              have hT2 := laidL_take 2 zs k hkz
              have hT4 := laidL_take 4 zs k hkz
              obtain ⟨x, hx⟩ : ∃ x, zs[k] = x := ⟨_, rfl⟩
              rw [hx] at hc1 hxb hT2 hT4
              have HT2 := Lib.hid hT2
              have HT4 := Lib.hid hT4
              obtain ⟨hx1, hx2⟩ := hxb
              have HC1 := Lib.hid hc1
              replace hc1 := hG.cell hc1 (by simp)
              have hlx : (laidL 2 (zs.take k)).length ≤ 1000 := by rw [laidL_len, List.length_take]; omega
              have hly : (laidL 4 (zs.take k)).length ≤ 2000 := by rw [laidL_len, List.length_take]; omega
              obtain ⟨LX, hLX⟩ : ∃ L, laidL 2 (zs.take k) = L := ⟨_, rfl⟩
              obtain ⟨LY, hLY⟩ : ∃ L, laidL 4 (zs.take k) = L := ⟨_, rfl⟩
              rw [hLX] at hOx hlx HT2
              rw [hLY] at hOy hly HT4
              obtain ⟨sx, cx, rfl, _, _, _, _⟩ := hOx.shape
              obtain ⟨sy, cy, rfl, _, _, _, _⟩ := hOy.shape
              have HOX := Lib.hid hOx
              have HOY := Lib.hid hOy
              have HAP := Lib.hid hap
              have HG := Lib.hid hG
              clear hx hT2 hT4 hLX hLY hOx hOy hap hG hkz
              go_wp2_with fail
              refine (Bytes_2 wr x hx1 hx2).mono ?_
              rintro e wa ⟨v, rfl, hO, hg⟩
              obtain ⟨s0, c0, rfl, hy, _, _, _⟩ := hO.shape
              rw [bytesN_len] at *
              have hOXa := HOX.out.kept hg
              have HOYa := Lib.hid (HOY.out.kept hg)
              have HGa := Lib.hid (grown_trans HG.out hg)
              obtain ⟨a0, rfl⟩ : ∃ a, s0 = some a := by
                rcases hy.1 with e | ⟨a, e, _⟩
                · have := bytesN_len 2 x; rw [e] at this; cases this
                · exact ⟨a, e⟩
              have HNW := Lib.hid hy.news
              have HL8 := Lib.hid hy.2
              have HX8 := Lib.hid hOXa.2
              have HOWN := Lib.hid hOXa.1
              have HBL : Hid ((bvs (bytesN 2 x)).length = 2 * 1) := Lib.hid (by rw [bvs_len, bytesN_len])
              have HBS := Lib.hid HGa.out.size
              have HMX : Hid (LX.length + 2 ≤ maxLen) := Lib.hid (by unfold maxLen; omega)
              clear hO hy hg hOXa
              go_wp2_with (at_builtin; refine wpList_append_lies _ rfl (.tmp 110) (.tmp 115) 22 rfl w5.heap.size 5 i1 (.int .u8 0) 1 1 Try.underlying22 hi1 hz0 hz1 hz2 rfl (by decide) (.slice sx LX.length cx) LX.length (bvs LX) rfl HOWN.out a0 2 c0 (bvs (bytesN 2 x)) rfl HBL.out HNW.out (bvs_one _) (by decide) HMX.out (by omega) HBS.out _ rfl ?_)
              intro gx cx2 wb hownx hgrowx hatx hltx
              have HGb := Lib.hid (grown_own HGa.out HOWN.out hgrowx (Nat.le_refl _))
              have HOXb := Lib.hid (OwnB.of (l := LX) (m := bytesN 2 x) hownx (by rw [bytesN_len]) HX8.out HL8.out)
              have HOYb := Lib.hid (HOYa.out.off hgrowx (fun b e => by intro e2; exact HAP.out b e e2.symm))
              have HAPb : Hid (∀ b, (Value.slice sy LY.length cy).ownBlock = some b → b ≠ gx) := Lib.hid (fun b e => by
                rintro rfl
                rcases hatx with h | h
                · exact HAP.out b e h
                · have := HOYa.out.lt b e; omega)
              have hc1 := HGb.out.cell HC1.out (by simp)
              clear hownx hgrowx hatx HOWN HNW HBL HBS HMX
              go_wp2_with fail
              refine (Bytes_4 wb x hx1 hx2).mono ?_
              rintro e wc ⟨v, rfl, hO, hg⟩
              obtain ⟨s0, c9, rfl, hy, _, _, _⟩ := hO.shape
              rw [bytesN_len] at *
              have hOYc := HOYb.out.kept hg
              have HOXc := Lib.hid (HOXb.out.kept hg)
              have HGc := Lib.hid (grown_trans HGb.out hg)
              obtain ⟨a9, rfl⟩ : ∃ a, s0 = some a := by
                rcases hy.1 with e | ⟨a, e, _⟩
                · have := bytesN_len 4 x; rw [e] at this; cases this
                · exact ⟨a, e⟩
              have HNW := Lib.hid hy.news
              have HL9 := Lib.hid hy.2
              have HY8 := Lib.hid hOYc.2
              have HOWN := Lib.hid hOYc.1
              have HBL : Hid ((bvs (bytesN 4 x)).length = 4 * 1) := Lib.hid (by rw [bvs_len, bytesN_len])
              have HBS := Lib.hid HGc.out.size
              have HMX : Hid (LY.length + 4 ≤ maxLen) := Lib.hid (by unfold maxLen; omega)
              clear hO hy hg hOYc
              go_wp2_with (at_builtin; refine wpList_append_lies _ rfl (.tmp 117) (.tmp 122) 22 rfl w5.heap.size 5 i1 (.int .u8 0) 1 1 Try.underlying22 hi1 hz0 hz1 hz2 rfl (by decide) (.slice sy LY.length cy) LY.length (bvs LY) rfl HOWN.out a9 4 c9 (bvs (bytesN 4 x)) rfl HBL.out HNW.out (bvs_one _) (by decide) HMX.out (by omega) HBS.out _ rfl ?_)
              intro gy cy2 wd howny hgrowy haty hlty
              have HGd := Lib.hid (grown_own HGc.out HOWN.out hgrowy (Nat.le_refl _))
              have HOYd := Lib.hid (OwnB.of (l := LY) (m := bytesN 4 x) howny (by rw [bytesN_len]) HY8.out HL9.out)
              have HOXd := Lib.hid (HOXc.out.off hgrowy (fun b e => by
                have e3 : gx = b := Option.some.inj e
                subst e3
                intro e2; exact HAPb.out gx e2.symm rfl))
              have HAPd : Hid (Apart (.slice (some ⟨gy, 0, none⟩) (LY.length + 4) cy2) (.slice (some ⟨gx, 0, none⟩) (LX.length + 2) cx2)) := Lib.hid (fun b e e2 => by
                have e3 : gy = b := Option.some.inj e
                have e4 : gx = b := Option.some.inj e2
                subst e3; subst e4
                rcases haty with h | h
                · exact HAPb.out gx h rfl
                · have := HOXc.out.lt gx rfl; omega)
              clear howny hgrowy haty HOWN HNW HBL HBS HMX
              go_wp2_with fail
              go_roundg (500 - (k + 1))
              case measure => omega
              case rel => exact ⟨k + 1, by omega, Nat.le_refl _, by go_num, by rw [HT2.out]; exact HOXd.out, by rw [HT4.out]; exact HOYd.out, HAPd.out, HGd.out⟩
            · have f1 : decide ((k : Int) < (500 : Int)) = false := decide_eq_false (by omega)
              have f1b : decide (k < 500) = false := decide_eq_false hlt
              have hkn : k = 500 := by omega
              have hT2 : Hid (laidL 2 (zs.take k) = laidL 2 zs) := Lib.hid (by rw [hkn, ← HM.out, List.take_length])
              have hT4 : Hid (laidL 4 (zs.take k) = laidL 4 zs) := Lib.hid (by rw [hkn, ← HM.out, List.take_length])
              rw [hT2.out] at hOx
              rw [hT4.out] at hOy
              obtain ⟨sx, cx, rfl, hyx, _, _, _⟩ := hOx.shape
              obtain ⟨sy, cy, rfl, hyy, _, _, _⟩ := hOy.shape
              have HYX := Lib.hid hyx
              have HYY := Lib.hid hyy
              have HG := Lib.hid hG
              have HIN := Lib.hid (HII.out.kept hG)
              clear hOx hOy hyx hyy hG hkn hap
              obtain ⟨L2, hL2⟩ : ∃ L, laidL 2 zs = L := ⟨_, rfl⟩
              obtain ⟨L4, hL4⟩ : ∃ L, laidL 4 zs = L := ⟨_, rfl⟩
              have HS2 := Lib.hid (fun W (h : wr.grownBy W none) => OfShorts_any W (some ai) 500 ci zs HM.out (HIN.out.kept h) HB.out (by omega))
              have HS4 := Lib.hid (fun W (h : wr.grownBy W none) => OfLongs_any W (some ai) 500 ci zs HM.out (HIN.out.kept h) HB.out (by omega))
              rw [hL2] at HYX HS2 ⊢
              rw [hL4] at HYY HS4 ⊢
              clear hL2 hL4 hT2 hT4
              have HKX := Lib.hid (fun W (h : wr.grownBy W none) => conv_by W sx L2.length cx L2 rfl (HYX.out.kept h))
              have HKY := Lib.hid (fun W (h : wr.grownBy W none) => conv_by W sy L4.length cy L4 rfl (HYY.out.kept h))
              obtain ⟨T2, hT2⟩ : ∃ T, strOf L2 = T := ⟨_, rfl⟩
              obtain ⟨T4, hT4⟩ : ∃ T, strOf L4 = T := ⟨_, rfl⟩
              rw [hT2] at HKX
              rw [hT4] at HKY
              have HTE2 := Lib.hid hT2
              have HTE4 := Lib.hid hT4
              clear hT2 hT4
              have kx := HKX.out wr.drew (grown_drew (grown_refl _ none))
              have ky := HKY.out wr.drew (grown_drew (grown_refl _ none))
              go_wp2_with fail
              refine wp_region_held_drew (S := fun w' => (convert 22 9 (.slice sx L2.length cx)).run Try.prog w' = .ok (.string T2) w' ∧ (convert 22 9 (.slice sy L4.length cy)).run Try.prog w' = .ok (.string T4) w') (by kernel_rfl) (by exact ⟨kx, ky⟩) (fun hHeld => ?_)
              refine wpAnyH_take (i := 0) (v := ?_) rfl (by kernel_rfl) (by kernel_rfl) (by kernel_rfl) (fun _ _ _ h => h) (Or.inl ⟨by rfl, ?_⟩) (by assumption) ?_
              rotate_left
              · (intro w hSw; (try dsimp only at hSw); go_simp; (try with_reducible rfl))
              try simp only [Act.put, List.getElem_toArray, List.getElem_cons_zero, List.getElem_cons_succ, List.setIfInBounds_toArray, List.set_cons_zero, List.set_cons_succ]
              refine wpAnyH_take (i := 3) (v := ?_) rfl (by kernel_rfl) (by kernel_rfl) (by kernel_rfl) (fun _ _ _ h => h) (Or.inl ⟨by rfl, ?_⟩) (by assumption) ?_
              rotate_left
              · (intro w hSw; (try dsimp only at hSw); go_simp; (try with_reducible rfl))
              try simp only [Act.put, List.getElem_toArray, List.getElem_cons_zero, List.getElem_cons_succ, List.setIfInBounds_toArray, List.set_cons_zero, List.set_cons_succ]
              refine wpAnyH_take (i := 4) (v := ?_) rfl (by kernel_rfl) (by kernel_rfl) (by kernel_rfl) (fun _ _ _ h => h) (Or.inl ⟨by rfl, ?_⟩) (by assumption) ?_
              rotate_left
              · (intro w hSw; (try dsimp only at hSw); go_simp; (try with_reducible rfl))
              try simp only [Act.put, List.getElem_toArray, List.getElem_cons_zero, List.getElem_cons_succ, List.setIfInBounds_toArray, List.set_cons_zero, List.set_cons_succ]
              refine wpAnyH_ready (rs := [1]) (by kernel_rfl) (by simp) ?_
              refine AllReadyH.cons rfl (fun K hK => ?_) AllReadyH.nil
              go_simp
              (go_at_call 23; (with_reducible refine (HS2.out _ (grown_drew (grown_refl _ none))).mono ?_); rintro e w8 ⟨v, rfl, hO, hg8⟩; have HG8 := Lib.hid (grown_trans (grown_drew (grown_refl _ none)) hg8); obtain ⟨s8, c8, rfl, hy8, _, _, _⟩ := hO.shape; have k8 := conv_by w8 s8 L2.length c8 L2 rfl hy8; rw [HTE2.out] at k8; have hS8 := And.intro (HKX.out _ HG8.out) (HKY.out _ HG8.out); clear hO hy8 hg8)
              (try go_wp2_with fail)
              refine hK.out _ _ (by exact hS8) (fun hHeld => ?_)
              clear hK K
              try simp only [Act.put, List.getElem_toArray, List.getElem_cons_zero, List.getElem_cons_succ, List.setIfInBounds_toArray, List.set_cons_zero, List.set_cons_succ]
              refine wpAnyH_ready (rs := [2]) (by kernel_rfl) (by simp) ?_
              refine AllReadyH.cons rfl (fun K hK => ?_) AllReadyH.nil
              refine step_conv (by first | rfl | kernel_rfl) _ _ (.tmp 125) rfl _ rfl _ k8 ?_
              refine hK.out _ _ (by exact hS8) (fun hHeld => ?_)
              clear hK K
              try simp only [Act.put, List.getElem_toArray, List.getElem_cons_zero, List.getElem_cons_succ, List.setIfInBounds_toArray, List.set_cons_zero, List.set_cons_succ]
              refine wpAnyH_take (i := 5) (v := ?_) rfl (by kernel_rfl) (by kernel_rfl) (by kernel_rfl) (fun _ _ _ h => h) (Or.inl ⟨by rfl, ?_⟩) (by assumption) ?_
              rotate_left
              · (intro w hSw; (try dsimp only at hSw); go_simp; (try with_reducible rfl))
              try simp only [Act.put, List.getElem_toArray, List.getElem_cons_zero, List.getElem_cons_succ, List.setIfInBounds_toArray, List.set_cons_zero, List.set_cons_succ]
              refine wpAnyH_take (i := 6) (v := ?_) rfl (by kernel_rfl) (by kernel_rfl) (by kernel_rfl) (fun _ _ _ h => h) (Or.inl ⟨by rfl, ?_⟩) (by assumption) ?_
              rotate_left
              · (intro w hSw; (try dsimp only at hSw); go_simp; (try with_reducible rfl))
              try simp only [Act.put, List.getElem_toArray, List.getElem_cons_zero, List.getElem_cons_succ, List.setIfInBounds_toArray, List.set_cons_zero, List.set_cons_succ]
              refine wpAnyH_take (i := 7) (v := ?_) rfl (by kernel_rfl) (by kernel_rfl) (by kernel_rfl) (fun _ _ _ h => h) (Or.inl ⟨by rfl, ?_⟩) (by assumption) ?_
              rotate_left
              · (intro w hSw; (try dsimp only at hSw); go_simp; (try with_reducible rfl))
              try simp only [Act.put, List.getElem_toArray, List.getElem_cons_zero, List.getElem_cons_succ, List.setIfInBounds_toArray, List.set_cons_zero, List.set_cons_succ]
              refine wpAnyH_take (i := 10) (v := ?_) rfl (by kernel_rfl) (by kernel_rfl) (by kernel_rfl) (fun _ _ _ h => h) (Or.inl ⟨by rfl, ?_⟩) (by assumption) ?_
              rotate_left
              · (intro w hSw; (try dsimp only at hSw); go_simp; (try with_reducible rfl))
              try simp only [Act.put, List.getElem_toArray, List.getElem_cons_zero, List.getElem_cons_succ, List.setIfInBounds_toArray, List.set_cons_zero, List.set_cons_succ]
              refine wpAnyH_take (i := 11) (v := ?_) rfl (by kernel_rfl) (by kernel_rfl) (by kernel_rfl) (fun _ _ _ h => h) (Or.inl ⟨by rfl, ?_⟩) (by assumption) ?_
              rotate_left
              · (intro w hSw; (try dsimp only at hSw); go_simp; (try with_reducible rfl))
              try simp only [Act.put, List.getElem_toArray, List.getElem_cons_zero, List.getElem_cons_succ, List.setIfInBounds_toArray, List.set_cons_zero, List.set_cons_succ]
              refine wpAnyH_ready (rs := [8]) (by kernel_rfl) (by simp) ?_
              refine AllReadyH.cons rfl (fun K hK => ?_) AllReadyH.nil
              go_simp
              (go_at_call 24; (with_reducible refine (HS4.out _ HG8.out).mono ?_); rintro e w9 ⟨v, rfl, hO, hg9⟩; have HG9 := Lib.hid (grown_trans HG8.out hg9); obtain ⟨s9', c9, rfl, hy9, _, _, _⟩ := hO.shape; have k9 := conv_by w9 s9' L4.length c9 L4 rfl hy9; rw [HTE4.out] at k9; have hS9 := And.intro (HKX.out _ HG9.out) (HKY.out _ HG9.out); clear hO hy9 hg9)
              (try go_wp2_with fail)
              refine hK.out _ _ (by exact hS9) (fun hHeld => ?_)
              clear hK K
              try simp only [Act.put, List.getElem_toArray, List.getElem_cons_zero, List.getElem_cons_succ, List.setIfInBounds_toArray, List.set_cons_zero, List.set_cons_succ]
              refine wpAnyH_ready (rs := [9]) (by kernel_rfl) (by simp) ?_
              refine AllReadyH.cons rfl (fun K hK => ?_) AllReadyH.nil
              refine step_conv (by first | rfl | kernel_rfl) _ _ (.tmp 132) rfl _ rfl _ k9 ?_
              refine hK.out _ _ (by exact hS9) (fun hHeld => ?_)
              clear hK K
              try simp only [Act.put, List.getElem_toArray, List.getElem_cons_zero, List.getElem_cons_succ, List.setIfInBounds_toArray, List.set_cons_zero, List.set_cons_succ]
              refine wpAnyH_take (i := 12) (v := ?_) rfl (by kernel_rfl) (by kernel_rfl) (by kernel_rfl) (fun _ _ _ h => h) (Or.inl ⟨by rfl, ?_⟩) (by assumption) ?_
              rotate_left
              · (intro w hSw; (try dsimp only at hSw); go_simp; (try with_reducible rfl))
              try simp only [Act.put, List.getElem_toArray, List.getElem_cons_zero, List.getElem_cons_succ, List.setIfInBounds_toArray, List.set_cons_zero, List.set_cons_succ]
              refine wpAnyH_take (i := 13) (v := ?_) rfl (by kernel_rfl) (by kernel_rfl) (by kernel_rfl) (fun _ _ _ h => h) (Or.inl ⟨by rfl, ?_⟩) (by assumption) ?_
              rotate_left
              · (intro w hSw; (try dsimp only at hSw); go_simp; (try with_reducible rfl))
              try simp only [Act.put, List.getElem_toArray, List.getElem_cons_zero, List.getElem_cons_succ, List.setIfInBounds_toArray, List.set_cons_zero, List.set_cons_succ]
              refine wpAnyH_take (i := 14) (v := ?_) rfl (by kernel_rfl) (by kernel_rfl) (by kernel_rfl) (fun _ _ _ h => h) (Or.inl ⟨by rfl, ?_⟩) (by assumption) ?_
              rotate_left
              · (intro w hSw; (try dsimp only at hSw); go_simp; (try with_reducible rfl))
              try simp only [Act.put, List.getElem_toArray, List.getElem_cons_zero, List.getElem_cons_succ, List.setIfInBounds_toArray, List.set_cons_zero, List.set_cons_succ]
              refine wpAnyH_done (by kernel_rfl) ?_ _
              go_wp2_with fail
              go_ret
              exact ⟨by simp, grown_trans (grown_trans HG5.out HG.out) HG9.out⟩
theorem recordNumbers_walk (w : World) (s : Option Addr) (n cap : Nat) (l : List Nat) (hn : l.length = n) (hl : BySl w s l) (hz : s = none → n = 0 ∧ cap = 0) (hc : n ≤ cap) (hm : cap ≤ 9223372036854775807)
    (si : Option Addr) (m ci : Nat) (zs : List Int) (hm2 : zs.length = m) (hi : InSl w si zs ∧ I64 zs) (hzi : si = none → m = 0 ∧ ci = 0) (hci : m ≤ ci) (hcm : ci ≤ 9223372036854775807) :
    Calls Try.prog 7 #[.slice s n cap, .slice si m ci] w (RetYes w) := by
  obtain ⟨hi, hI⟩ := hi
  have ht : InSl w si (zs.take 500) := fun i h => by
    rw [List.length_take] at h
    obtain ⟨a, e, hc⟩ := hi i (by omega)
    exact ⟨a, e, by rw [List.getElem_take]; exact hc⟩
  have hT : I64 (zs.take 500) := fun x hx => hI x (List.mem_of_mem_take hx)
  by_cases h1 : 4000 < n
  · by_cases h2 : 500 < m
    · exact rn_11 w s n 4000 cap (l.take 4000) si m 500 ci (zs.take 500) h1 rfl h2 rfl (by rw [List.length_take]; omega) (hl.take _) (fun e => (hz e).1) (by omega) hc hm (Nat.le_refl _) (by rw [List.length_take]; omega) ht (fun e => (hzi e).1) hT (Nat.le_refl _) hci hcm
    · exact rn_10 w s n 4000 cap (l.take 4000) si m m ci zs h1 rfl h2 rfl (by rw [List.length_take]; omega) (hl.take _) (fun e => (hz e).1) (by omega) hc hm (Nat.le_refl _) hm2 hi (fun e => (hzi e).1) hI (by omega) hci hcm
  · by_cases h2 : 500 < m
    · exact rn_01 w s n n cap l si m 500 ci (zs.take 500) h1 rfl h2 rfl hn hl (fun e => (hz e).1) hc hc hm (by omega) (by rw [List.length_take]; omega) ht (fun e => (hzi e).1) hT (Nat.le_refl _) hci hcm
    · exact rn_00 w s n n cap l si m m ci zs h1 rfl h2 rfl hn hl (fun e => (hz e).1) hc hc hm (by omega) hm2 hi (fun e => (hzi e).1) hI (by omega) hci hcm
end Go.Proofs.Yteienakimdpfhaa
