/- FracEnds: the least and the greatest of some numbers are among them, and none is beyond them. -/
import Derived.Deep.RegionHeld3
import Derived.Deep.LoopGhost
import Derived.Deep.CutRange
import Derived.Deep.AppendLies
import Derived.Laws.AppendOwnNone
import Derived.OwnWalk
import Derived.Test.YtgbbdgioohaknaaGreatDoorPb1
import Derived.Test.YtgbbdgioohaknaaGreatDoorPb10
import Derived.Test.YtgbbdgioohaknaaGreatDoorPb11
import Derived.Test.YtgbbdgioohaknaaGreatDoorPb12
import Derived.Test.YtgbbdgioohaknaaGreatDoorPb14
import Derived.Test.YtgbbdgioohaknaaGreatDoorPb17
import Derived.Test.YtgbbdgioohaknaaGreatDoorPb18
import Derived.Test.YtgbbdgioohaknaaGreatDoorPb2
import Derived.Test.YtgbbdgioohaknaaGreatDoorPb3
import Derived.Test.YtgbbdgioohaknaaGreatDoorPb30
import Derived.Test.YtgbbdgioohaknaaGreatDoorPb34
import Derived.Test.YtgbbdgioohaknaaGreatDoorPb36
import Derived.Test.YtgbbdgioohaknaaGreatDoorPb4
import Derived.Test.YtgbbdgioohaknaaGreatDoorPb5
import Derived.Test.YtgbbdgioohaknaaGreatDoorPb51
import Derived.Test.YtgbbdgioohaknaaGreatDoorPb6
import Derived.Test.YtgbbdgioohaknaaGreatDoorPb8
import Derived.Test.YtgbbdgioohaknaaGreatDoorEbQEnds
namespace Go.Proofs.YtgbbdgioohaknaaGreatDoor
open Go.RowKit Mat
set_option maxRecDepth 100000
set_option linter.unusedVariables false
set_option linter.unusedSimpArgs false

set_option maxHeartbeats 32000000 in
theorem fracEnds_walk (w : World) (sl : Option Addr) (len cap : Nat) (ss : Nat → ByteArray) (hlen : len ≤ maxLen) (hcs : len = 0 ∨ ∃ a, sl = some a ∧ ∀ i, i < len → w.cell? (a.add i) = some (.string (ss i))) (hTab : Tab w) :
    Calls Tryz.prog 7 #[.slice sl len cap] w (fun e w' => e = .returned (.bool true) ∧ w.grownBy w' none) := by
  have HTB : Hid (∀ W, w.grownBy W none → Tab W) := fun W hW => hTab.kept hW (by simp)
  clear hTab
  unfold maxLen at hlen
  obtain ⟨i1, hi, hz0, hz1, hz2⟩ := info_partsQ
  have HCS : Hid (len = 0 ∨ ∃ a, sl = some a ∧ ∀ i, i < len → w.cell? (a.add i) = some (.string (ss i))) := hcs
  clear hcs
  go_enter Tryz.func7, Tryz.ntmps7
  go_wp2_with fail
  go_loopg [3, 4] len (fun gh va i wr => ∃ (k : Nat) (rs : List Rat), k ≤ len ∧ k ≤ 30 ∧ len - k ≤ gh ∧ i = .int .i64 (k : Int) ∧ OwnQ wr w.heap.size va k rs ∧ Hid (Small5 rs) ∧ w.grownBy wr none)
  case atStart => exact ⟨0, [], Nat.zero_le _, by omega, by omega, rfl, OwnQ.nil _ _, (fun z hz => by cases hz), h_ _ _⟩
  case round =>
    obtain ⟨k, rs, hk, hk4, hgh, rfl, Ia, HLS, hG⟩ := hrel
    have hzl : rs.length = k := by obtain ⟨xs, _, h, _⟩ := Ia; exact h
    have HZL := H_ hzl
    clear hzl
    by_cases hlt : k < len ∧ k < 30
    · skip
      obtain ⟨hl1, hl2⟩ := hlt
      obtain ⟨a, rfl, hc⟩ := HCS.out.resolve_left (by omega)
      have f1 : decide (k < len) = true := decide_eq_true hl1
      have f2 : decide ((k : Int) < 30) = true := decide_eq_true (by omega)
      have f3 : decide ((k : Int) < (len : Int)) = true := decide_eq_true (by omega)
      have HC := H_ (hc k hl1)
      clear hc
      obtain ⟨s, hs⟩ : ∃ s, ss k = s := ⟨_, rfl⟩
      rw [hs] at HC
      clear hs
      obtain ⟨A1, o1, lA1, p1⟩ := bP_ s
      have P1 := H_ p1
      have L1 := H_ lA1
      clear p1 lA1
      have cs0 := hG.cell HC.out (by simp)
      go_wp2_with fail
      clear cs0
      refine (P1.out wr (HTB.out _ hG)).mono ?_
      rintro e rw1 ⟨_, _, rfl, ⟨sa, xa, ba, sa', xa', ba', rfl, ha, ha'⟩, ⟨gx, sx, lx, cx, gx', sx', lx', cx', nx, dx, rfl, hx, hx', ux⟩, grw1⟩
      have qa : RatV rw1 (.agg #[.slice sa xa.length xa.length, .bool ba, .slice sa' xa'.length xa'.length, .bool ba']) (A1) := ⟨sa, xa, ba, sa', xa', ba', rfl, ha, ha'⟩
      have yx : RQ rw1 (.agg #[.int .i64 gx, .slice sx lx cx, .int .i64 gx', .slice sx' lx' cx']) A1 20 := ⟨gx, sx, lx, cx, gx', sx', lx', cx', nx, dx, rfl, hx, hx', ux⟩
      replace Ia := Ia.kept grw1
      replace hG := d_ hG grw1
      clear grw1
      clear ha ha'
      clear hx hx'
      clear yx
      have gbrw1 := (l_ (wg_ rw1 (.cells #[.slice sa xa.length xa.length, .bool ba, .slice sa' xa'.length xa'.length, .bool ba'] 28) none) (.cells #[.int .i64 gx, .slice sx lx cx, .int .i64 gx', .slice sx' lx' cx'] 38))
      have Ba := a_ (wg_ _ (.cells #[.int .i64 gx, .slice sx lx cx, .int .i64 gx', .slice sx' lx' cx'] 38) none) (f_ rw1 (.cells #[.slice sa xa.length xa.length, .bool ba, .slice sa' xa'.length xa'.length, .bool ba'] 28) (rw1.heap.size) rfl)
      have Bx := (f_ (rw1.alloc (.cells #[.slice sa xa.length xa.length, .bool ba, .slice sa' xa'.length xa'.length, .bool ba'] 28)) (.cells #[.int .i64 gx, .slice sx lx cx, .int .i64 gx', .slice sx' lx' cx'] 38) (rw1.heap.size + 1) (by simp))
      have hzrw1 : Hid (w.heap.size ≤ rw1.heap.size) := H_ hG.size
      replace Ia := Ia.kept gbrw1
      replace qa := qa.kept gbrw1
      replace hG := d_ hG gbrw1
      clear gbrw1
      obtain ⟨Ca0, Ca1, Ca2, Ca3, Fa0, Fa1, Fa2, Fa3⟩ := b_ Ba
      obtain ⟨Cx0, Cx1, Cx2, Cx3, Fx0, Fx1, Fx2, Fx3⟩ := b_ Bx
      have cs0 := hG.cell HC.out (by simp)
      cases o1
      · skip
        go_wp2_with fail
        generalize ((rw1.alloc (.cells #[.slice sa xa.length xa.length, .bool ba, .slice sa' xa'.length xa'.length, .bool ba'] 28)).alloc (.cells #[.int .i64 gx, .slice sx lx cx, .int .i64 gx', .slice sx' lx' cx'] 38)) = rw2 at *
        generalize rw1.heap.size = arw1 at *
        replace hzrw1 := hzrw1.out
        clear Ca0 Fa0 Ca1 Fa1 Ca2 Fa2 Ca3 Fa3 Cx0 Fx0 Cx1 Fx1 Cx2 Fx2 Cx3 Fx3
        refine (A_ rw2 (HTB.out _ hG)).mono ?_
        rintro e rnw3 ⟨rfl, grnw3⟩
        replace Ba := a_ grnw3 Ba
        replace Bx := a_ grnw3 Bx
        replace Ia := Ia.kept grnw3
        replace qa := qa.kept grnw3
        replace hG := d_ hG grnw3
        clear grnw3
        obtain ⟨Ca0, Ca1, Ca2, Ca3, Fa0, Fa1, Fa2, Fa3⟩ := b_ Ba
        obtain ⟨Cx0, Cx1, Cx2, Cx3, Fx0, Fx1, Fx2, Fx3⟩ := b_ Bx
        try clear cs0
        have cs0 := hG.cell HC.out (by simp)
        go_wp2_with fail
        clear Ca0 Fa0 Ca1 Fa1 Ca2 Fa2 Ca3 Fa3 Cx0 Fx0 Cx1 Fx1 Cx2 Fx2 Cx3 Fx3
        refine (ce_ rnw3 s (HTB.out _ hG)).mono ?_
        rintro e rnw4 ⟨rfl, grnw4⟩
        replace Ba := a_ grnw4 Ba
        replace Bx := a_ grnw4 Bx
        replace Ia := Ia.kept grnw4
        replace qa := qa.kept grnw4
        replace hG := d_ hG grnw4
        clear grnw4
        obtain ⟨Ca0, Ca1, Ca2, Ca3, Fa0, Fa1, Fa2, Fa3⟩ := b_ Ba
        obtain ⟨Cx0, Cx1, Cx2, Cx3, Fx0, Fx1, Fx2, Fx3⟩ := b_ Bx
        go_wp2_with fail
        go_ret
        exact ⟨by first | rfl | simp, hG⟩
      · skip
        clear cs0
        obtain ⟨xs, hown, hxl, hx1, hxe⟩ := Ia
        have hxs := hown.1
        have gL := wg_ ((rw1.alloc (.cells #[.slice sa xa.length xa.length, .bool ba, .slice sa' xa'.length xa'.length, .bool ba'] 28)).alloc (.cells #[.int .i64 gx, .slice sx lx cx, .int .i64 gx', .slice sx' lx' cx'] 38)) (.cells #[.slice sa xa.length xa.length, .bool ba, .slice sa' xa'.length xa'.length, .bool ba'] 28) none
        have hown1 := ownsQ_kept hown gL
        have hnews : ∀ j u, ([.slice sa xa.length xa.length, .bool ba, .slice sa' xa'.length xa'.length, .bool ba'] : List Value)[j]? = some u → (((rw1.alloc (.cells #[.slice sa xa.length xa.length, .bool ba, .slice sa' xa'.length xa'.length, .bool ba'] 28)).alloc (.cells #[.int .i64 gx, .slice sx lx cx, .int .i64 gx', .slice sx' lx' cx'] 38)).alloc (.cells #[.slice sa xa.length xa.length, .bool ba, .slice sa' xa'.length xa'.length, .bool ba'] 28)).cell? ((⟨((rw1.alloc (.cells #[.slice sa xa.length xa.length, .bool ba, .slice sa' xa'.length xa'.length, .bool ba'] 28)).alloc (.cells #[.int .i64 gx, .slice sx lx cx, .int .i64 gx', .slice sx' lx' cx'] 38)).heap.size, 0, none⟩ : Addr).add j) = some u := World.news_of_block (heap_alloc_new ((rw1.alloc (.cells #[.slice sa xa.length xa.length, .bool ba, .slice sa' xa'.length xa'.length, .bool ba'] 28)).alloc (.cells #[.int .i64 gx, .slice sx lx cx, .int .i64 gx', .slice sx' lx' cx'] 38)) _)
        have hsE : ((rw1.alloc (.cells #[.slice sa xa.length xa.length, .bool ba, .slice sa' xa'.length xa'.length, .bool ba'] 28)).alloc (.cells #[.int .i64 gx, .slice sx lx cx, .int .i64 gx', .slice sx' lx' cx'] 38)).heap.size = rw1.heap.size + 1 + 1 := by simp
        rw [hsE] at hnews
        clear hsE
        have HOR := H_ (one_cellsQ qa)
        have HXE := H_ hxe
        have HXS := H_ hxs
        have HXL := H_ hxl
        have HX1 := H_ hx1
        replace qa := qa.kept gL
        have HGL := H_ gL
        replace hG := d_ hG gL
        have hbase : w.heap.size ≤ (((rw1.alloc (.cells #[.slice sa xa.length xa.length, .bool ba, .slice sa' xa'.length xa'.length, .bool ba'] 28)).alloc (.cells #[.int .i64 gx, .slice sx lx cx, .int .i64 gx', .slice sx' lx' cx'] 38)).alloc (.cells #[.slice sa xa.length xa.length, .bool ba, .slice sa' xa'.length xa'.length, .bool ba'] 28)).heap.size := hG.size
        clear gL hown hxe hxs hxl hx1
        go_wp2_with (at_builtin; refine wpList_append_lies _ rfl _ _ _ rfl w.heap.size 28 i1 (.agg #[.slice none 0 0, .bool false, .slice none 0 0, .bool false]) 4 64 Tryz.underlying69 hi hz0 hz1 hz2 rfl (by omega) u3 k xs rfl hown1 ⟨rw1.heap.size + 1 + 1, 0, none⟩ 1 1 [.slice sa xa.length xa.length, .bool ba, .slice sa' xa'.length xa'.length, .bool ba'] rfl rfl hnews HOR.out (by omega) (by unfold maxLen; omega) (by omega) hbase (rw1.heap.size + 1 + 1 + 1) (by simp) ?_; intro g2 cap2 w5 hown5 hgrow hat9 hlt9)
        have qa5 := qa.ownQ hown1 hgrow
        have hG5 := grown_ownQ hG hown1 hgrow (Nat.le_refl _)
        have Ia5 : OwnQ w5 w.heap.size (.slice (some ⟨g2, 0, none⟩) (k + 1) cap2) (k + 1) (rs ++ [A1]) := by
          refine OwnQ.snoc hown5 (by rw [HXS.out, HXL.out]) HXL.out HX1.out HOR.out (fun i h => ?_) qa5
          obtain ⟨v0, v1, v2, v3, b1, b2, b3, b4, b5⟩ := HXE.out i h
          exact ⟨v0, v1, v2, v3, b1, b2, b3, b4, (b5.kept HGL.out).ownQ hown1 hgrow⟩
        have HIA := H_ Ia5
        have HG5 := H_ hG5
        clear hown1 hgrow hown5 hat9 hlt9 Ba Bx qa hG hnews hbase HGL HXE HXS HX1 HOR HXL Ia5 hG5 qa5
        try clear Ca0 Fa0 Ca1 Fa1 Ca2 Fa2 Ca3 Fa3 Cx0 Fx0 Cx1 Fx1 Cx2 Fx2 Cx3 Fx3
        go_roundg (len - (k + 1))
        case measure => omega
        case rel => exact ⟨k + 1, rs ++ [A1], by omega, by omega, Nat.le_refl _, by go_num, HIA.out, HLS.out.snoc L1.out, HG5.out⟩
    · skip
      obtain ⟨s1, c1, rfl, hc1, isl⟩ := Ia.shape
      clear Ia
      obtain ⟨lo, hlo⟩ : ∃ r, cv_ (-1) rs = r := ⟨_, rfl⟩
      obtain ⟨hh, hhh⟩ : ∃ r, cv_ 1 rs = r := ⟨_, rfl⟩
      have HLO : Hid (lo.num.natAbs < B ^ 5 ∧ lo.den < B ^ 5) := hlo ▸ Small5.out HLS.out (-1)
      have HHI : Hid (hh.num.natAbs < B ^ 5 ∧ hh.den < B ^ 5) := hhh ▸ Small5.out HLS.out 1
      have FB : Hid (∀ i (h : i < rs.length), 0 ≤ bT_ rs[i] lo) := fun i h => hlo ▸ rout_low rs i h
      have FT : Hid (∀ i (h : i < rs.length), bT_ rs[i] hh ≤ 0) := fun i h => hhh ▸ rout_high rs i h
      have FM : Hid (0 < rs.length → ∃ i, ∃ h : i < rs.length, bT_ rs[i] lo = 0) := fun h => hlo ▸ rout_any (-1) rs h
      have FN : Hid (0 < rs.length → ∃ i, ∃ h : i < rs.length, bT_ rs[i] hh = 0) := fun h => hhh ▸ rout_any 1 rs h
      have FZ : Hid (k = 0 → lo.num.sign = 0 ∧ hh.num.sign = 0) := fun h => by
        obtain rfl : rs = [] := List.length_eq_zero_iff.1 (by rw [HZL.out]; exact h)
        rw [← hlo, ← hhh]; exact ⟨rfl, rfl⟩
      have PL : Hid (∀ W, QSl W s1 k rs → Calls Tryz.prog 46 #[.slice s1 k c1] W (aa_ W lo)) := fun W h => hlo ▸ hR_ W s1 k c1 rs 5 h hc1 (by omega) (by omega) HLS.out
      have PM : Hid (∀ W, QSl W s1 k rs → Calls Tryz.prog 47 #[.slice s1 k c1] W (aa_ W hh)) := fun W h => hhh ▸ jp_ W s1 k c1 rs 5 h hc1 (by omega) (by omega) HLS.out
      have HES : Hid (∀ z (i : Nat) (h : i < rs.length), rs[i] = z → z.num.natAbs < B ^ 5 ∧ z.den < B ^ 5) := fun z i h e => HLS.out z (e ▸ List.getElem_mem h)
      clear hlo hhh hc1 HLS HCS
      have hex : (decide (k < len) = false ∧ decide ((k : Int) < (len : Int)) = false) ∨ (decide (k < len) = true ∧ decide ((k : Int) < (len : Int)) = true ∧ decide ((k : Int) < 30) = false) := by
        by_cases h : k < len
        · right; exact ⟨decide_eq_true h, decide_eq_true (by omega), decide_eq_false (by omega)⟩
        · left; exact ⟨decide_eq_false h, decide_eq_false (by omega)⟩
      clear hlt
      rcases hex with ⟨f1, f3⟩ | ⟨f1, f3, f2⟩
      · skip
        go_wp2_with fail
        refine (PL.out wr isl).mono ?_
        rintro e ex0w1 ⟨_, rfl, ⟨sb, xb, bb, sb', xb', bb', rfl, hb, hb'⟩, gex0w1⟩
        have qb : RatV ex0w1 (.agg #[.slice sb xb.length xb.length, .bool bb, .slice sb' xb'.length xb'.length, .bool bb']) (lo) := ⟨sb, xb, bb, sb', xb', bb', rfl, hb, hb'⟩
        replace isl := isl.kept gex0w1
        replace hG := d_ hG gex0w1
        clear gex0w1
        clear hb hb'
        go_wp2_with fail
        refine (PM.out ex0w1 isl).mono ?_
        rintro e ex0w2 ⟨_, rfl, ⟨sd, xd, bd, sd', xd', bd', rfl, hd, hd'⟩, gex0w2⟩
        have qd : RatV ex0w2 (.agg #[.slice sd xd.length xd.length, .bool bd, .slice sd' xd'.length xd'.length, .bool bd']) (hh) := ⟨sd, xd, bd, sd', xd', bd', rfl, hd, hd'⟩
        replace isl := isl.kept gex0w2
        replace qb := qb.kept gex0w2
        replace hG := d_ hG gex0w2
        clear gex0w2
        clear hd hd'
        have gbex0w2 := (l_ (wg_ ex0w2 (.cells #[.slice sb xb.length xb.length, .bool bb, .slice sb' xb'.length xb'.length, .bool bb'] 28) none) (.cells #[.slice sd xd.length xd.length, .bool bd, .slice sd' xd'.length xd'.length, .bool bd'] 28))
        have Bb := a_ (wg_ _ (.cells #[.slice sd xd.length xd.length, .bool bd, .slice sd' xd'.length xd'.length, .bool bd'] 28) none) (f_ ex0w2 (.cells #[.slice sb xb.length xb.length, .bool bb, .slice sb' xb'.length xb'.length, .bool bb'] 28) (ex0w2.heap.size) rfl)
        have Bd := (f_ (ex0w2.alloc (.cells #[.slice sb xb.length xb.length, .bool bb, .slice sb' xb'.length xb'.length, .bool bb'] 28)) (.cells #[.slice sd xd.length xd.length, .bool bd, .slice sd' xd'.length xd'.length, .bool bd'] 28) (ex0w2.heap.size + 1) (by simp))
        have hzex0w2 : Hid (w.heap.size ≤ ex0w2.heap.size) := H_ hG.size
        replace isl := isl.kept gbex0w2
        replace qb := qb.kept gbex0w2
        replace qd := qd.kept gbex0w2
        replace hG := d_ hG gbex0w2
        clear gbex0w2
        obtain ⟨Cb0, Cb1, Cb2, Cb3, Fb0, Fb1, Fb2, Fb3⟩ := b_ Bb
        obtain ⟨Cd0, Cd1, Cd2, Cd3, Fd0, Fd1, Fd2, Fd3⟩ := b_ Bd
        clear f1 f3
        rcases Nat.eq_zero_or_pos k with hk0 | hk0
        · skip
          subst hk0
          obtain ⟨hz1, hz2⟩ := FZ.out rfl
          have HZ1 := H_ hz1
          have HZ2 := H_ hz2
          clear hz1 hz2
          go_wp2_with fail
          generalize ((ex0w2.alloc (.cells #[.slice sb xb.length xb.length, .bool bb, .slice sb' xb'.length xb'.length, .bool bb'] 28)).alloc (.cells #[.slice sd xd.length xd.length, .bool bd, .slice sd' xd'.length xd'.length, .bool bd'] 28)) = ex0w3 at *
          generalize ex0w2.heap.size = aex0w2 at *
          replace hzex0w2 := hzex0w2.out
          clear Cb0 Fb0 Cb1 Fb1 Cb2 Fb2 Cb3 Fb3 Cd0 Fd0 Cd1 Fd1 Cd2 Fd2 Cd3 Fd3
          refine (S_ ex0w3 _ lo 5 qb (by omega) HLO.out.1).mono ?_
          rintro e ex0zw4 ⟨rfl, gex0zw4⟩
          rw [HZ1.out]
          replace Bb := a_ gex0zw4 Bb
          replace Bd := a_ gex0zw4 Bd
          replace isl := isl.kept gex0zw4
          replace qb := qb.kept gex0zw4
          replace qd := qd.kept gex0zw4
          replace hG := d_ hG gex0zw4
          clear gex0zw4
          obtain ⟨Cb0, Cb1, Cb2, Cb3, Fb0, Fb1, Fb2, Fb3⟩ := b_ Bb
          obtain ⟨Cd0, Cd1, Cd2, Cd3, Fd0, Fd1, Fd2, Fd3⟩ := b_ Bd
          go_wp2_with fail
          clear Cb0 Fb0 Cb1 Fb1 Cb2 Fb2 Cb3 Fb3 Cd0 Fd0 Cd1 Fd1 Cd2 Fd2 Cd3 Fd3
          refine (S_ ex0zw4 _ hh 5 qd (by omega) HHI.out.1).mono ?_
          rintro e ex0zw5 ⟨rfl, gex0zw5⟩
          rw [HZ2.out]
          replace Bb := a_ gex0zw5 Bb
          replace Bd := a_ gex0zw5 Bd
          replace isl := isl.kept gex0zw5
          replace qb := qb.kept gex0zw5
          replace qd := qd.kept gex0zw5
          replace hG := d_ hG gex0zw5
          clear gex0zw5
          obtain ⟨Cb0, Cb1, Cb2, Cb3, Fb0, Fb1, Fb2, Fb3⟩ := b_ Bb
          obtain ⟨Cd0, Cd1, Cd2, Cd3, Fd0, Fd1, Fd2, Fd3⟩ := b_ Bd
          go_wp2_with fail
          go_loopw [10, 11, 12] (fun p q i wr => p = .bool true ∧ q = .bool true ∧ i = .int .i64 0 ∧ w.grownBy wr none) (fun _ _ _ _ => 0)
          case atStart => exact ⟨rfl, rfl, rfl, hG⟩
          case round =>
            clear Cb0 Fb0 Cb1 Fb1 Cb2 Fb2 Cb3 Fb3 Cd0 Fd0 Cd1 Fd1 Cd2 Fd2 Cd3 Fd3
            clear hG Bb Bd isl qb qd
            obtain ⟨rfl, rfl, rfl, hG⟩ := hrel
            go_wp2_with fail
            refine (A_ wr (HTB.out _ hG)).mono ?_
            rintro e ex0zw6 ⟨rfl, gex0zw6⟩
            replace hG := d_ hG gex0zw6
            clear gex0zw6
            go_wp2_with fail
            go_ret
            exact ⟨by first | rfl | simp, hG⟩
        · skip
          obtain ⟨b, rfl⟩ : ∃ b, s1 = some ⟨b, 0, none⟩ := by
            rcases isl.2 with h | ⟨b, cs, e, _⟩
            · omega
            · exact ⟨b, e⟩
          have fk1 : (k == 0) = false := by simp; omega
          have fk2 : ((k : Int) == 0) = false := by simp; omega
          have fk3 : decide ((k : Int) = 0) = false := decide_eq_false (by omega)
          have fk4 : decide (k = 0) = false := decide_eq_false (by omega)
          have fk5 : ¬ k = 0 := by omega
          go_wp2_with fail
          generalize ((ex0w2.alloc (.cells #[.slice sb xb.length xb.length, .bool bb, .slice sb' xb'.length xb'.length, .bool bb'] 28)).alloc (.cells #[.slice sd xd.length xd.length, .bool bd, .slice sd' xd'.length xd'.length, .bool bd'] 28)) = ex0w3 at *
          generalize ex0w2.heap.size = aex0w2 at *
          replace hzex0w2 := hzex0w2.out
          clear Cb0 Fb0 Cb1 Fb1 Cb2 Fb2 Cb3 Fb3 Cd0 Fd0 Cd1 Fd1 Cd2 Fd2 Cd3 Fd3
          clear fk1 fk2 fk3 fk4 fk5
          have HBb := H_ Bb
          have HBd := H_ Bd
          have HQb := H_ qb
          have HQd := H_ qd
          have HIS := H_ isl
          have HGG := H_ hG
          go_loopw [10, 11, 12] (fun p q i wr => ∃ (j : Nat) (am ab : Bool), j ≤ k ∧ p = .bool am ∧ q = .bool ab ∧ i = .int .i64 (j : Int) ∧ Hid (∀ i (h : i < rs.length), i < j → bT_ rs[i] lo = 0 → am = true) ∧ Hid (∀ i (h : i < rs.length), i < j → bT_ rs[i] hh = 0 → ab = true) ∧ ex0w3.grownBy wr none) (fun _ _ i _ => k - (intOf i).toNat)
          case atStart => exact ⟨0, false, false, Nat.zero_le _, rfl, rfl, rfl, (fun i h hj => absurd hj (Nat.not_lt_zero _)), (fun i h hj => absurd hj (Nat.not_lt_zero _)), h_ _ _⟩
          case round =>
            clear hG isl qb qd Bb Bd
            obtain ⟨j, am, ab, hj, rfl, rfl, rfl, HAM, HAB, hT⟩ := hrel
            have hG := d_ HGG.out hT
            have Bb := a_ hT HBb.out
            have Bd := a_ hT HBd.out
            have qb := HQb.out.kept hT
            have qd := HQd.out.kept hT
            by_cases hjk : j < k
            · skip
              have hjl : j < rs.length := by rw [HZL.out]; exact hjk
              obtain ⟨se, xe, be, se', xe', be', Ce0, Ce1, Ce2, Ce3, qe⟩ := (HIS.out.kept hT).at j hjl
              obtain ⟨z, hz⟩ : ∃ z, rs[j] = z := ⟨_, rfl⟩
              have hm1 := FB.out j hjl
              have hm2 := FT.out j hjl
              have hes := HES.out z j hjl hz
              rw [hz] at qe hm1 hm2
              obtain ⟨d1, hd1⟩ : ∃ c, bT_ z lo = c := ⟨_, rfl⟩
              obtain ⟨d2, hd2⟩ : ∃ c, bT_ z hh = c := ⟨_, rfl⟩
              rw [hd1] at hm1
              rw [hd2] at hm2
              have P5 : Hid (∀ W v u, RatV W v z → RatV W u lo → Calls Tryz.prog 28 #[v, u] W (fun e w' => e = .returned (.int .i64 d1) ∧ W.grownBy w' none)) := fun W v u h1 h2 => hd1 ▸ D_ W v u z lo 5 h1 h2 (by omega) hes.1 hes.2 HLO.out.1 HLO.out.2
              have P6 : Hid (∀ W v u, RatV W v z → RatV W u hh → Calls Tryz.prog 28 #[v, u] W (fun e w' => e = .returned (.int .i64 d2) ∧ W.grownBy w' none)) := fun W v u h1 h2 => hd2 ▸ D_ W v u z hh 5 h1 h2 (by omega) hes.1 hes.2 HHI.out.1 HHI.out.2
              have fa : decide (d1 < 0) = false := decide_eq_false (by omega)
              have fb : decide (0 < d2) = false := decide_eq_false (by omega)
              have fj : decide (j < k) = true := decide_eq_true hjk
              have fj2 : decide ((j : Int) < (k : Int)) = true := decide_eq_true (by omega)
              have HA1 : Hid (∀ i (h : i < rs.length), i < j + 1 → bT_ rs[i] lo = 0 → (am || (d1 == 0)) = true) := fun i h hi e => by
                rcases Nat.lt_succ_iff_lt_or_eq.1 hi with h1 | h1
                · rw [HAM.out i h h1 e]; rfl
                · subst h1; rw [hz, hd1] at e; rw [e]; simp
              have HB1 : Hid (∀ i (h : i < rs.length), i < j + 1 → bT_ rs[i] hh = 0 → (ab || (d2 == 0)) = true) := fun i h hi e => by
                rcases Nat.lt_succ_iff_lt_or_eq.1 hi with h1 | h1
                · rw [HAB.out i h h1 e]; rfl
                · subst h1; rw [hz, hd2] at e; rw [e]; simp
              clear hz hd1 hd2 hes hm1 hm2 hjl HAM HAB
              obtain ⟨Cb0, Cb1, Cb2, Cb3, Fb0, Fb1, Fb2, Fb3⟩ := b_ Bb
              obtain ⟨Cd0, Cd1, Cd2, Cd3, Fd0, Fd1, Fd2, Fd3⟩ := b_ Bd
              go_wp2_with fail
              go_region_held3 (fun w' => w'.cell? ⟨b, j * 4, none⟩ = some (.slice se xe.length xe.length) ∧ w'.cell? ⟨b, j * 4 + 1, none⟩ = some (.bool be) ∧ w'.cell? ⟨b, j * 4 + 2, none⟩ = some (.slice se' xe'.length xe'.length) ∧ w'.cell? ⟨b, j * 4 + 3, none⟩ = some (.bool be') ∧ w'.cell? ⟨aex0w2, 0, none⟩ = some (.slice sb xb.length xb.length) ∧ w'.cell? ⟨aex0w2, 1, none⟩ = some (.bool bb) ∧ w'.cell? ⟨aex0w2, 2, none⟩ = some (.slice sb' xb'.length xb'.length) ∧ w'.cell? ⟨aex0w2, 3, none⟩ = some (.bool bb') ∧ w'.cell? ⟨aex0w2 + 1, 0, none⟩ = some (.slice sd xd.length xd.length) ∧ w'.cell? ⟨aex0w2 + 1, 1, none⟩ = some (.bool bd) ∧ w'.cell? ⟨aex0w2 + 1, 2, none⟩ = some (.slice sd' xd'.length xd'.length) ∧ w'.cell? ⟨aex0w2 + 1, 3, none⟩ = some (.bool bd'))
                (first | assumption | exact ⟨Ce0, Ce1, Ce2, Ce3, Cb0, Cb1, Cb2, Cb3, Cd0, Cd1, Cd2, Cd3⟩ | go_keep)
                (first
                  | (go_at_call 28; (with_reducible refine (P5.out wr.drew _ _ (qe.kept (k_ (h_ _ _))) (qb.kept (k_ (h_ _ _)))).mono ?_); rintro e ex0prw4_1 ⟨rfl, gex0prw4_1⟩; have hGex0prw4_1 := o_ wr gex0prw4_1 rfl rfl rfl rfl; have hSex0prw4_1 := (n_ (hGex0prw4_1.cell Ce0 (by simp)) (n_ (hGex0prw4_1.cell Ce1 (by simp)) (n_ (hGex0prw4_1.cell Ce2 (by simp)) (n_ (hGex0prw4_1.cell Ce3 (by simp)) (n_ (hGex0prw4_1.cell Cb0 (by simp)) (n_ (hGex0prw4_1.cell Cb1 (by simp)) (n_ (hGex0prw4_1.cell Cb2 (by simp)) (n_ (hGex0prw4_1.cell Cb3 (by simp)) (n_ (hGex0prw4_1.cell Cd0 (by simp)) (n_ (hGex0prw4_1.cell Cd1 (by simp)) (n_ (hGex0prw4_1.cell Cd2 (by simp)) (hGex0prw4_1.cell Cd3 (by simp))))))))))))); clear gex0prw4_1)
                  | (go_at_call 28; (with_reducible refine (P6.out ex0prw4_1 _ _ (qe.kept hGex0prw4_1) (qd.kept hGex0prw4_1)).mono ?_); rintro e ex0prw4_2 ⟨rfl, gex0prw4_2⟩; have hGex0prw4_2 := d_ hGex0prw4_1 gex0prw4_2; have hSex0prw4_2 := (n_ (hGex0prw4_2.cell Ce0 (by simp)) (n_ (hGex0prw4_2.cell Ce1 (by simp)) (n_ (hGex0prw4_2.cell Ce2 (by simp)) (n_ (hGex0prw4_2.cell Ce3 (by simp)) (n_ (hGex0prw4_2.cell Cb0 (by simp)) (n_ (hGex0prw4_2.cell Cb1 (by simp)) (n_ (hGex0prw4_2.cell Cb2 (by simp)) (n_ (hGex0prw4_2.cell Cb3 (by simp)) (n_ (hGex0prw4_2.cell Cd0 (by simp)) (n_ (hGex0prw4_2.cell Cd1 (by simp)) (n_ (hGex0prw4_2.cell Cd2 (by simp)) (hGex0prw4_2.cell Cd3 (by simp))))))))))))); clear gex0prw4_2))
              replace Bb := a_ hGex0prw4_2 Bb
              replace Bd := a_ hGex0prw4_2 Bd
              replace qb := qb.kept hGex0prw4_2
              replace qd := qd.kept hGex0prw4_2
              replace qe := qe.kept hGex0prw4_2
              replace hG := d_ hG hGex0prw4_2
              clear Cb0 Fb0 Cb1 Fb1 Cb2 Fb2 Cb3 Fb3 Cd0 Fd0 Cd1 Fd1 Cd2 Fd2 Cd3 Fd3
              replace Ce0 := hGex0prw4_2.cell Ce0 (by simp)
              replace Ce1 := hGex0prw4_2.cell Ce1 (by simp)
              replace Ce2 := hGex0prw4_2.cell Ce2 (by simp)
              replace Ce3 := hGex0prw4_2.cell Ce3 (by simp)
              replace hT := d_ hT hGex0prw4_2
              obtain ⟨Cb0, Cb1, Cb2, Cb3, Fb0, Fb1, Fb2, Fb3⟩ := b_ Bb
              obtain ⟨Cd0, Cd1, Cd2, Cd3, Fd0, Fd1, Fd2, Fd3⟩ := b_ Bd
              go_wp2_with fail
              cases am
              · skip
                go_region_held3 (fun w' => w'.cell? ⟨b, j * 4, none⟩ = some (.slice se xe.length xe.length) ∧ w'.cell? ⟨b, j * 4 + 1, none⟩ = some (.bool be) ∧ w'.cell? ⟨b, j * 4 + 2, none⟩ = some (.slice se' xe'.length xe'.length) ∧ w'.cell? ⟨b, j * 4 + 3, none⟩ = some (.bool be') ∧ w'.cell? ⟨aex0w2, 0, none⟩ = some (.slice sb xb.length xb.length) ∧ w'.cell? ⟨aex0w2, 1, none⟩ = some (.bool bb) ∧ w'.cell? ⟨aex0w2, 2, none⟩ = some (.slice sb' xb'.length xb'.length) ∧ w'.cell? ⟨aex0w2, 3, none⟩ = some (.bool bb'))
                  (first | assumption | exact ⟨Ce0, Ce1, Ce2, Ce3, Cb0, Cb1, Cb2, Cb3⟩ | go_keep)
                  (first
                    | (go_at_call 28; (with_reducible refine (P5.out ex0prw4_2.drew _ _ (qe.kept (k_ (h_ _ _))) (qb.kept (k_ (h_ _ _)))).mono ?_); rintro e ex0prfw5_1 ⟨rfl, gex0prfw5_1⟩; have hGex0prfw5_1 := o_ ex0prw4_2 gex0prfw5_1 rfl rfl rfl rfl; have hSex0prfw5_1 := (n_ (hGex0prfw5_1.cell Ce0 (by simp)) (n_ (hGex0prfw5_1.cell Ce1 (by simp)) (n_ (hGex0prfw5_1.cell Ce2 (by simp)) (n_ (hGex0prfw5_1.cell Ce3 (by simp)) (n_ (hGex0prfw5_1.cell Cb0 (by simp)) (n_ (hGex0prfw5_1.cell Cb1 (by simp)) (n_ (hGex0prfw5_1.cell Cb2 (by simp)) (hGex0prfw5_1.cell Cb3 (by simp))))))))); clear gex0prfw5_1))
                replace Bb := a_ hGex0prfw5_1 Bb
                replace Bd := a_ hGex0prfw5_1 Bd
                replace qb := qb.kept hGex0prfw5_1
                replace qd := qd.kept hGex0prfw5_1
                replace qe := qe.kept hGex0prfw5_1
                replace hG := d_ hG hGex0prfw5_1
                clear Cb0 Fb0 Cb1 Fb1 Cb2 Fb2 Cb3 Fb3 Cd0 Fd0 Cd1 Fd1 Cd2 Fd2 Cd3 Fd3
                replace Ce0 := hGex0prfw5_1.cell Ce0 (by simp)
                replace Ce1 := hGex0prfw5_1.cell Ce1 (by simp)
                replace Ce2 := hGex0prfw5_1.cell Ce2 (by simp)
                replace Ce3 := hGex0prfw5_1.cell Ce3 (by simp)
                replace hT := d_ hT hGex0prfw5_1
                obtain ⟨Cb0, Cb1, Cb2, Cb3, Fb0, Fb1, Fb2, Fb3⟩ := b_ Bb
                obtain ⟨Cd0, Cd1, Cd2, Cd3, Fd0, Fd1, Fd2, Fd3⟩ := b_ Bd
                go_wp2_with fail
                cases ab
                · skip
                  go_region_held3 (fun w' => w'.cell? ⟨b, j * 4, none⟩ = some (.slice se xe.length xe.length) ∧ w'.cell? ⟨b, j * 4 + 1, none⟩ = some (.bool be) ∧ w'.cell? ⟨b, j * 4 + 2, none⟩ = some (.slice se' xe'.length xe'.length) ∧ w'.cell? ⟨b, j * 4 + 3, none⟩ = some (.bool be') ∧ w'.cell? ⟨aex0w2 + 1, 0, none⟩ = some (.slice sd xd.length xd.length) ∧ w'.cell? ⟨aex0w2 + 1, 1, none⟩ = some (.bool bd) ∧ w'.cell? ⟨aex0w2 + 1, 2, none⟩ = some (.slice sd' xd'.length xd'.length) ∧ w'.cell? ⟨aex0w2 + 1, 3, none⟩ = some (.bool bd'))
                    (first | assumption | exact ⟨Ce0, Ce1, Ce2, Ce3, Cd0, Cd1, Cd2, Cd3⟩ | go_keep)
                    (first
                      | (go_at_call 28; (with_reducible refine (P6.out ex0prfw5_1.drew _ _ (qe.kept (k_ (h_ _ _))) (qd.kept (k_ (h_ _ _)))).mono ?_); rintro e ex0prffw6_1 ⟨rfl, gex0prffw6_1⟩; have hGex0prffw6_1 := o_ ex0prfw5_1 gex0prffw6_1 rfl rfl rfl rfl; have hSex0prffw6_1 := (n_ (hGex0prffw6_1.cell Ce0 (by simp)) (n_ (hGex0prffw6_1.cell Ce1 (by simp)) (n_ (hGex0prffw6_1.cell Ce2 (by simp)) (n_ (hGex0prffw6_1.cell Ce3 (by simp)) (n_ (hGex0prffw6_1.cell Cd0 (by simp)) (n_ (hGex0prffw6_1.cell Cd1 (by simp)) (n_ (hGex0prffw6_1.cell Cd2 (by simp)) (hGex0prffw6_1.cell Cd3 (by simp))))))))); clear gex0prffw6_1))
                  replace Bb := a_ hGex0prffw6_1 Bb
                  replace Bd := a_ hGex0prffw6_1 Bd
                  replace qb := qb.kept hGex0prffw6_1
                  replace qd := qd.kept hGex0prffw6_1
                  replace qe := qe.kept hGex0prffw6_1
                  replace hG := d_ hG hGex0prffw6_1
                  clear Cb0 Fb0 Cb1 Fb1 Cb2 Fb2 Cb3 Fb3 Cd0 Fd0 Cd1 Fd1 Cd2 Fd2 Cd3 Fd3
                  replace Ce0 := hGex0prffw6_1.cell Ce0 (by simp)
                  replace Ce1 := hGex0prffw6_1.cell Ce1 (by simp)
                  replace Ce2 := hGex0prffw6_1.cell Ce2 (by simp)
                  replace Ce3 := hGex0prffw6_1.cell Ce3 (by simp)
                  replace hT := d_ hT hGex0prffw6_1
                  obtain ⟨Cb0, Cb1, Cb2, Cb3, Fb0, Fb1, Fb2, Fb3⟩ := b_ Bb
                  obtain ⟨Cd0, Cd1, Cd2, Cd3, Fd0, Fd1, Fd2, Fd3⟩ := b_ Bd
                  go_wp2_with fail
                  go_roundw
                  case rel => exact ⟨j + 1, (d1 == 0), (d2 == 0), by omega, rfl, rfl, by go_num, HA1.out, HB1.out, hT⟩
                  case measure => simp [intOf]; omega
                · skip
                  refine wp_region_held_drew (S := fun w' => True) (by kernel_rfl) trivial (fun hHeld => ?_)
                  refine tk_ 0 ?_ rfl ?_ ?_
                  rotate_left
                  · (intro w hSw; (try dsimp only at hSw); go_simp; (try with_reducible rfl))
                  try simp only [ly_]
                  refine tk_ 1 ?_ rfl ?_ ?_
                  rotate_left
                  · (intro w hSw; (try dsimp only at hSw); go_simp; (try with_reducible rfl))
                  try simp only [ly_]
                  refine wpAnyH_take (i := 2) (v := undef) rfl (by kernel_rfl) (by kernel_rfl) (by kernel_rfl) (fun _ _ _ h => h) (Or.inr ⟨by rfl, rfl⟩) (by assumption) ?_
                  try simp only [ly_]
                  refine wpAnyH_take (i := 3) (v := undef) rfl (by kernel_rfl) (by kernel_rfl) (by kernel_rfl) (fun _ _ _ h => h) (Or.inr ⟨by rfl, rfl⟩) (by assumption) ?_
                  try simp only [ly_]
                  refine wpAnyH_take (i := 4) (v := undef) rfl (by kernel_rfl) (by kernel_rfl) (by kernel_rfl) (fun _ _ _ h => h) (Or.inr ⟨by rfl, rfl⟩) (by assumption) ?_
                  try simp only [ly_]
                  refine wpAnyH_take (i := 5) (v := undef) rfl (by kernel_rfl) (by kernel_rfl) (by kernel_rfl) (fun _ _ _ h => h) (Or.inr ⟨by rfl, rfl⟩) (by assumption) ?_
                  try simp only [ly_]
                  refine wpAnyH_take (i := 6) (v := undef) rfl (by kernel_rfl) (by kernel_rfl) (by kernel_rfl) (fun _ _ _ h => h) (Or.inr ⟨by rfl, rfl⟩) (by assumption) ?_
                  try simp only [ly_]
                  refine wpAnyH_take (i := 7) (v := undef) rfl (by kernel_rfl) (by kernel_rfl) (by kernel_rfl) (fun _ _ _ h => h) (Or.inr ⟨by rfl, rfl⟩) (by assumption) ?_
                  try simp only [ly_]
                  refine wpAnyH_take (i := 8) (v := undef) rfl (by kernel_rfl) (by kernel_rfl) (by kernel_rfl) (fun _ _ _ h => h) (Or.inr ⟨by rfl, rfl⟩) (by assumption) ?_
                  try simp only [ly_]
                  refine tk_ 9 ?_ rfl ?_ ?_
                  rotate_left
                  · (intro w hSw; (try dsimp only at hSw); go_simp; (try with_reducible rfl))
                  try simp only [ly_]
                  refine tk_ 10 ?_ rfl ?_ ?_
                  rotate_left
                  · (intro w hSw; (try dsimp only at hSw); go_simp; (try with_reducible rfl))
                  try simp only [ly_]
                  refine wpAnyH_done (by kernel_rfl) ?_ _
                  have gex0prftw6 : ex0prfw5_1.grownBy ex0prfw5_1.drew none := k_ (h_ _ _)
                  replace Ce0 := gex0prftw6.cell Ce0 (by simp)
                  replace Ce1 := gex0prftw6.cell Ce1 (by simp)
                  replace Ce2 := gex0prftw6.cell Ce2 (by simp)
                  replace Ce3 := gex0prftw6.cell Ce3 (by simp)
                  replace hT := d_ hT gex0prftw6
                  clear Cb0 Fb0 Cb1 Fb1 Cb2 Fb2 Cb3 Fb3 Cd0 Fd0 Cd1 Fd1 Cd2 Fd2 Cd3 Fd3
                  replace Bb := a_ gex0prftw6 Bb
                  replace Bd := a_ gex0prftw6 Bd
                  replace qb := qb.kept gex0prftw6
                  replace qd := qd.kept gex0prftw6
                  replace qe := qe.kept gex0prftw6
                  replace hG := d_ hG gex0prftw6
                  clear gex0prftw6 hHeld
                  generalize ex0prfw5_1.drew = ex0prftw6 at *
                  obtain ⟨Cb0, Cb1, Cb2, Cb3, Fb0, Fb1, Fb2, Fb3⟩ := b_ Bb
                  obtain ⟨Cd0, Cd1, Cd2, Cd3, Fd0, Fd1, Fd2, Fd3⟩ := b_ Bd
                  go_wp2_with fail
                  go_roundw
                  case rel => exact ⟨j + 1, (d1 == 0), true, by omega, rfl, rfl, by go_num, HA1.out, HB1.out, hT⟩
                  case measure => simp [intOf]; omega
              · skip
                refine wp_region_held_drew (S := fun w' => True) (by kernel_rfl) trivial (fun hHeld => ?_)
                refine tk_ 0 ?_ rfl ?_ ?_
                rotate_left
                · (intro w hSw; (try dsimp only at hSw); go_simp; (try with_reducible rfl))
                try simp only [ly_]
                refine tk_ 1 ?_ rfl ?_ ?_
                rotate_left
                · (intro w hSw; (try dsimp only at hSw); go_simp; (try with_reducible rfl))
                try simp only [ly_]
                refine wpAnyH_take (i := 2) (v := undef) rfl (by kernel_rfl) (by kernel_rfl) (by kernel_rfl) (fun _ _ _ h => h) (Or.inr ⟨by rfl, rfl⟩) (by assumption) ?_
                try simp only [ly_]
                refine wpAnyH_take (i := 3) (v := undef) rfl (by kernel_rfl) (by kernel_rfl) (by kernel_rfl) (fun _ _ _ h => h) (Or.inr ⟨by rfl, rfl⟩) (by assumption) ?_
                try simp only [ly_]
                refine wpAnyH_take (i := 4) (v := undef) rfl (by kernel_rfl) (by kernel_rfl) (by kernel_rfl) (fun _ _ _ h => h) (Or.inr ⟨by rfl, rfl⟩) (by assumption) ?_
                try simp only [ly_]
                refine wpAnyH_take (i := 5) (v := undef) rfl (by kernel_rfl) (by kernel_rfl) (by kernel_rfl) (fun _ _ _ h => h) (Or.inr ⟨by rfl, rfl⟩) (by assumption) ?_
                try simp only [ly_]
                refine wpAnyH_take (i := 6) (v := undef) rfl (by kernel_rfl) (by kernel_rfl) (by kernel_rfl) (fun _ _ _ h => h) (Or.inr ⟨by rfl, rfl⟩) (by assumption) ?_
                try simp only [ly_]
                refine wpAnyH_take (i := 7) (v := undef) rfl (by kernel_rfl) (by kernel_rfl) (by kernel_rfl) (fun _ _ _ h => h) (Or.inr ⟨by rfl, rfl⟩) (by assumption) ?_
                try simp only [ly_]
                refine wpAnyH_take (i := 8) (v := undef) rfl (by kernel_rfl) (by kernel_rfl) (by kernel_rfl) (fun _ _ _ h => h) (Or.inr ⟨by rfl, rfl⟩) (by assumption) ?_
                try simp only [ly_]
                refine tk_ 9 ?_ rfl ?_ ?_
                rotate_left
                · (intro w hSw; (try dsimp only at hSw); go_simp; (try with_reducible rfl))
                try simp only [ly_]
                refine tk_ 10 ?_ rfl ?_ ?_
                rotate_left
                · (intro w hSw; (try dsimp only at hSw); go_simp; (try with_reducible rfl))
                try simp only [ly_]
                refine wpAnyH_done (by kernel_rfl) ?_ _
                have gex0prtw5 : ex0prw4_2.grownBy ex0prw4_2.drew none := k_ (h_ _ _)
                replace Ce0 := gex0prtw5.cell Ce0 (by simp)
                replace Ce1 := gex0prtw5.cell Ce1 (by simp)
                replace Ce2 := gex0prtw5.cell Ce2 (by simp)
                replace Ce3 := gex0prtw5.cell Ce3 (by simp)
                replace hT := d_ hT gex0prtw5
                clear Cb0 Fb0 Cb1 Fb1 Cb2 Fb2 Cb3 Fb3 Cd0 Fd0 Cd1 Fd1 Cd2 Fd2 Cd3 Fd3
                replace Bb := a_ gex0prtw5 Bb
                replace Bd := a_ gex0prtw5 Bd
                replace qb := qb.kept gex0prtw5
                replace qd := qd.kept gex0prtw5
                replace qe := qe.kept gex0prtw5
                replace hG := d_ hG gex0prtw5
                clear gex0prtw5 hHeld
                generalize ex0prw4_2.drew = ex0prtw5 at *
                obtain ⟨Cb0, Cb1, Cb2, Cb3, Fb0, Fb1, Fb2, Fb3⟩ := b_ Bb
                obtain ⟨Cd0, Cd1, Cd2, Cd3, Fd0, Fd1, Fd2, Fd3⟩ := b_ Bd
                go_wp2_with fail
                cases ab
                · skip
                  go_region_held3 (fun w' => w'.cell? ⟨b, j * 4, none⟩ = some (.slice se xe.length xe.length) ∧ w'.cell? ⟨b, j * 4 + 1, none⟩ = some (.bool be) ∧ w'.cell? ⟨b, j * 4 + 2, none⟩ = some (.slice se' xe'.length xe'.length) ∧ w'.cell? ⟨b, j * 4 + 3, none⟩ = some (.bool be') ∧ w'.cell? ⟨aex0w2 + 1, 0, none⟩ = some (.slice sd xd.length xd.length) ∧ w'.cell? ⟨aex0w2 + 1, 1, none⟩ = some (.bool bd) ∧ w'.cell? ⟨aex0w2 + 1, 2, none⟩ = some (.slice sd' xd'.length xd'.length) ∧ w'.cell? ⟨aex0w2 + 1, 3, none⟩ = some (.bool bd'))
                    (first | assumption | exact ⟨Ce0, Ce1, Ce2, Ce3, Cd0, Cd1, Cd2, Cd3⟩ | go_keep)
                    (first
                      | (go_at_call 28; (with_reducible refine (P6.out ex0prtw5.drew _ _ (qe.kept (k_ (h_ _ _))) (qd.kept (k_ (h_ _ _)))).mono ?_); rintro e ex0prtfw6_1 ⟨rfl, gex0prtfw6_1⟩; have hGex0prtfw6_1 := o_ ex0prtw5 gex0prtfw6_1 rfl rfl rfl rfl; have hSex0prtfw6_1 := (n_ (hGex0prtfw6_1.cell Ce0 (by simp)) (n_ (hGex0prtfw6_1.cell Ce1 (by simp)) (n_ (hGex0prtfw6_1.cell Ce2 (by simp)) (n_ (hGex0prtfw6_1.cell Ce3 (by simp)) (n_ (hGex0prtfw6_1.cell Cd0 (by simp)) (n_ (hGex0prtfw6_1.cell Cd1 (by simp)) (n_ (hGex0prtfw6_1.cell Cd2 (by simp)) (hGex0prtfw6_1.cell Cd3 (by simp))))))))); clear gex0prtfw6_1))
                  replace Bb := a_ hGex0prtfw6_1 Bb
                  replace Bd := a_ hGex0prtfw6_1 Bd
                  replace qb := qb.kept hGex0prtfw6_1
                  replace qd := qd.kept hGex0prtfw6_1
                  replace qe := qe.kept hGex0prtfw6_1
                  replace hG := d_ hG hGex0prtfw6_1
                  clear Cb0 Fb0 Cb1 Fb1 Cb2 Fb2 Cb3 Fb3 Cd0 Fd0 Cd1 Fd1 Cd2 Fd2 Cd3 Fd3
                  replace Ce0 := hGex0prtfw6_1.cell Ce0 (by simp)
                  replace Ce1 := hGex0prtfw6_1.cell Ce1 (by simp)
                  replace Ce2 := hGex0prtfw6_1.cell Ce2 (by simp)
                  replace Ce3 := hGex0prtfw6_1.cell Ce3 (by simp)
                  replace hT := d_ hT hGex0prtfw6_1
                  obtain ⟨Cb0, Cb1, Cb2, Cb3, Fb0, Fb1, Fb2, Fb3⟩ := b_ Bb
                  obtain ⟨Cd0, Cd1, Cd2, Cd3, Fd0, Fd1, Fd2, Fd3⟩ := b_ Bd
                  go_wp2_with fail
                  go_roundw
                  case rel => exact ⟨j + 1, true, (d2 == 0), by omega, rfl, rfl, by go_num, HA1.out, HB1.out, hT⟩
                  case measure => simp [intOf]; omega
                · skip
                  refine wp_region_held_drew (S := fun w' => True) (by kernel_rfl) trivial (fun hHeld => ?_)
                  refine tk_ 0 ?_ rfl ?_ ?_
                  rotate_left
                  · (intro w hSw; (try dsimp only at hSw); go_simp; (try with_reducible rfl))
                  try simp only [ly_]
                  refine tk_ 1 ?_ rfl ?_ ?_
                  rotate_left
                  · (intro w hSw; (try dsimp only at hSw); go_simp; (try with_reducible rfl))
                  try simp only [ly_]
                  refine wpAnyH_take (i := 2) (v := undef) rfl (by kernel_rfl) (by kernel_rfl) (by kernel_rfl) (fun _ _ _ h => h) (Or.inr ⟨by rfl, rfl⟩) (by assumption) ?_
                  try simp only [ly_]
                  refine wpAnyH_take (i := 3) (v := undef) rfl (by kernel_rfl) (by kernel_rfl) (by kernel_rfl) (fun _ _ _ h => h) (Or.inr ⟨by rfl, rfl⟩) (by assumption) ?_
                  try simp only [ly_]
                  refine wpAnyH_take (i := 4) (v := undef) rfl (by kernel_rfl) (by kernel_rfl) (by kernel_rfl) (fun _ _ _ h => h) (Or.inr ⟨by rfl, rfl⟩) (by assumption) ?_
                  try simp only [ly_]
                  refine wpAnyH_take (i := 5) (v := undef) rfl (by kernel_rfl) (by kernel_rfl) (by kernel_rfl) (fun _ _ _ h => h) (Or.inr ⟨by rfl, rfl⟩) (by assumption) ?_
                  try simp only [ly_]
                  refine wpAnyH_take (i := 6) (v := undef) rfl (by kernel_rfl) (by kernel_rfl) (by kernel_rfl) (fun _ _ _ h => h) (Or.inr ⟨by rfl, rfl⟩) (by assumption) ?_
                  try simp only [ly_]
                  refine wpAnyH_take (i := 7) (v := undef) rfl (by kernel_rfl) (by kernel_rfl) (by kernel_rfl) (fun _ _ _ h => h) (Or.inr ⟨by rfl, rfl⟩) (by assumption) ?_
                  try simp only [ly_]
                  refine wpAnyH_take (i := 8) (v := undef) rfl (by kernel_rfl) (by kernel_rfl) (by kernel_rfl) (fun _ _ _ h => h) (Or.inr ⟨by rfl, rfl⟩) (by assumption) ?_
                  try simp only [ly_]
                  refine tk_ 9 ?_ rfl ?_ ?_
                  rotate_left
                  · (intro w hSw; (try dsimp only at hSw); go_simp; (try with_reducible rfl))
                  try simp only [ly_]
                  refine tk_ 10 ?_ rfl ?_ ?_
                  rotate_left
                  · (intro w hSw; (try dsimp only at hSw); go_simp; (try with_reducible rfl))
                  try simp only [ly_]
                  refine wpAnyH_done (by kernel_rfl) ?_ _
                  have gex0prttw6 : ex0prtw5.grownBy ex0prtw5.drew none := k_ (h_ _ _)
                  replace Ce0 := gex0prttw6.cell Ce0 (by simp)
                  replace Ce1 := gex0prttw6.cell Ce1 (by simp)
                  replace Ce2 := gex0prttw6.cell Ce2 (by simp)
                  replace Ce3 := gex0prttw6.cell Ce3 (by simp)
                  replace hT := d_ hT gex0prttw6
                  clear Cb0 Fb0 Cb1 Fb1 Cb2 Fb2 Cb3 Fb3 Cd0 Fd0 Cd1 Fd1 Cd2 Fd2 Cd3 Fd3
                  replace Bb := a_ gex0prttw6 Bb
                  replace Bd := a_ gex0prttw6 Bd
                  replace qb := qb.kept gex0prttw6
                  replace qd := qd.kept gex0prttw6
                  replace qe := qe.kept gex0prttw6
                  replace hG := d_ hG gex0prttw6
                  clear gex0prttw6 hHeld
                  generalize ex0prtw5.drew = ex0prttw6 at *
                  obtain ⟨Cb0, Cb1, Cb2, Cb3, Fb0, Fb1, Fb2, Fb3⟩ := b_ Bb
                  obtain ⟨Cd0, Cd1, Cd2, Cd3, Fd0, Fd1, Fd2, Fd3⟩ := b_ Bd
                  go_wp2_with fail
                  go_roundw
                  case rel => exact ⟨j + 1, true, true, by omega, rfl, rfl, by go_num, HA1.out, HB1.out, hT⟩
                  case measure => simp [intOf]; omega
            · skip
              have fj : decide (j < k) = false := decide_eq_false (by omega)
              have fj2 : decide ((j : Int) < (k : Int)) = false := decide_eq_false (by omega)
              obtain rfl : am = true := by
                obtain ⟨i, h, e⟩ := FM.out (by rw [HZL.out]; exact hk0)
                exact HAM.out i h (by have := HZL.out; omega) e
              obtain rfl : ab = true := by
                obtain ⟨i, h, e⟩ := FN.out (by rw [HZL.out]; exact hk0)
                exact HAB.out i h (by have := HZL.out; omega) e
              clear qb qd Bb Bd
              go_wp2_with fail
              refine (A_ wr (HTB.out _ hG)).mono ?_
              rintro e ex0pxw4 ⟨rfl, gex0pxw4⟩
              replace hG := d_ hG gex0pxw4
              clear gex0pxw4
              go_wp2_with fail
              go_ret
              exact ⟨by first | rfl | simp, hG⟩
      · skip
        go_wp2_with fail
        refine (PL.out wr isl).mono ?_
        rintro e ex1w1 ⟨_, rfl, ⟨sb, xb, bb, sb', xb', bb', rfl, hb, hb'⟩, gex1w1⟩
        have qb : RatV ex1w1 (.agg #[.slice sb xb.length xb.length, .bool bb, .slice sb' xb'.length xb'.length, .bool bb']) (lo) := ⟨sb, xb, bb, sb', xb', bb', rfl, hb, hb'⟩
        replace isl := isl.kept gex1w1
        replace hG := d_ hG gex1w1
        clear gex1w1
        clear hb hb'
        go_wp2_with fail
        refine (PM.out ex1w1 isl).mono ?_
        rintro e ex1w2 ⟨_, rfl, ⟨sd, xd, bd, sd', xd', bd', rfl, hd, hd'⟩, gex1w2⟩
        have qd : RatV ex1w2 (.agg #[.slice sd xd.length xd.length, .bool bd, .slice sd' xd'.length xd'.length, .bool bd']) (hh) := ⟨sd, xd, bd, sd', xd', bd', rfl, hd, hd'⟩
        replace isl := isl.kept gex1w2
        replace qb := qb.kept gex1w2
        replace hG := d_ hG gex1w2
        clear gex1w2
        clear hd hd'
        have gbex1w2 := (l_ (wg_ ex1w2 (.cells #[.slice sb xb.length xb.length, .bool bb, .slice sb' xb'.length xb'.length, .bool bb'] 28) none) (.cells #[.slice sd xd.length xd.length, .bool bd, .slice sd' xd'.length xd'.length, .bool bd'] 28))
        have Bb := a_ (wg_ _ (.cells #[.slice sd xd.length xd.length, .bool bd, .slice sd' xd'.length xd'.length, .bool bd'] 28) none) (f_ ex1w2 (.cells #[.slice sb xb.length xb.length, .bool bb, .slice sb' xb'.length xb'.length, .bool bb'] 28) (ex1w2.heap.size) rfl)
        have Bd := (f_ (ex1w2.alloc (.cells #[.slice sb xb.length xb.length, .bool bb, .slice sb' xb'.length xb'.length, .bool bb'] 28)) (.cells #[.slice sd xd.length xd.length, .bool bd, .slice sd' xd'.length xd'.length, .bool bd'] 28) (ex1w2.heap.size + 1) (by simp))
        have hzex1w2 : Hid (w.heap.size ≤ ex1w2.heap.size) := H_ hG.size
        replace isl := isl.kept gbex1w2
        replace qb := qb.kept gbex1w2
        replace qd := qd.kept gbex1w2
        replace hG := d_ hG gbex1w2
        clear gbex1w2
        obtain ⟨Cb0, Cb1, Cb2, Cb3, Fb0, Fb1, Fb2, Fb3⟩ := b_ Bb
        obtain ⟨Cd0, Cd1, Cd2, Cd3, Fd0, Fd1, Fd2, Fd3⟩ := b_ Bd
        clear f1 f3 f2
        rcases Nat.eq_zero_or_pos k with hk0 | hk0
        · skip
          subst hk0
          obtain ⟨hz1, hz2⟩ := FZ.out rfl
          have HZ1 := H_ hz1
          have HZ2 := H_ hz2
          clear hz1 hz2
          go_wp2_with fail
          generalize ((ex1w2.alloc (.cells #[.slice sb xb.length xb.length, .bool bb, .slice sb' xb'.length xb'.length, .bool bb'] 28)).alloc (.cells #[.slice sd xd.length xd.length, .bool bd, .slice sd' xd'.length xd'.length, .bool bd'] 28)) = ex1w3 at *
          generalize ex1w2.heap.size = aex1w2 at *
          replace hzex1w2 := hzex1w2.out
          clear Cb0 Fb0 Cb1 Fb1 Cb2 Fb2 Cb3 Fb3 Cd0 Fd0 Cd1 Fd1 Cd2 Fd2 Cd3 Fd3
          refine (S_ ex1w3 _ lo 5 qb (by omega) HLO.out.1).mono ?_
          rintro e ex1zw4 ⟨rfl, gex1zw4⟩
          rw [HZ1.out]
          replace Bb := a_ gex1zw4 Bb
          replace Bd := a_ gex1zw4 Bd
          replace isl := isl.kept gex1zw4
          replace qb := qb.kept gex1zw4
          replace qd := qd.kept gex1zw4
          replace hG := d_ hG gex1zw4
          clear gex1zw4
          obtain ⟨Cb0, Cb1, Cb2, Cb3, Fb0, Fb1, Fb2, Fb3⟩ := b_ Bb
          obtain ⟨Cd0, Cd1, Cd2, Cd3, Fd0, Fd1, Fd2, Fd3⟩ := b_ Bd
          go_wp2_with fail
          clear Cb0 Fb0 Cb1 Fb1 Cb2 Fb2 Cb3 Fb3 Cd0 Fd0 Cd1 Fd1 Cd2 Fd2 Cd3 Fd3
          refine (S_ ex1zw4 _ hh 5 qd (by omega) HHI.out.1).mono ?_
          rintro e ex1zw5 ⟨rfl, gex1zw5⟩
          rw [HZ2.out]
          replace Bb := a_ gex1zw5 Bb
          replace Bd := a_ gex1zw5 Bd
          replace isl := isl.kept gex1zw5
          replace qb := qb.kept gex1zw5
          replace qd := qd.kept gex1zw5
          replace hG := d_ hG gex1zw5
          clear gex1zw5
          obtain ⟨Cb0, Cb1, Cb2, Cb3, Fb0, Fb1, Fb2, Fb3⟩ := b_ Bb
          obtain ⟨Cd0, Cd1, Cd2, Cd3, Fd0, Fd1, Fd2, Fd3⟩ := b_ Bd
          go_wp2_with fail
          go_loopw [10, 11, 12] (fun p q i wr => p = .bool true ∧ q = .bool true ∧ i = .int .i64 0 ∧ w.grownBy wr none) (fun _ _ _ _ => 0)
          case atStart => exact ⟨rfl, rfl, rfl, hG⟩
          case round =>
            clear Cb0 Fb0 Cb1 Fb1 Cb2 Fb2 Cb3 Fb3 Cd0 Fd0 Cd1 Fd1 Cd2 Fd2 Cd3 Fd3
            clear hG Bb Bd isl qb qd
            obtain ⟨rfl, rfl, rfl, hG⟩ := hrel
            go_wp2_with fail
            refine (A_ wr (HTB.out _ hG)).mono ?_
            rintro e ex1zw6 ⟨rfl, gex1zw6⟩
            replace hG := d_ hG gex1zw6
            clear gex1zw6
            go_wp2_with fail
            go_ret
            exact ⟨by first | rfl | simp, hG⟩
        · skip
          obtain ⟨b, rfl⟩ : ∃ b, s1 = some ⟨b, 0, none⟩ := by
            rcases isl.2 with h | ⟨b, cs, e, _⟩
            · omega
            · exact ⟨b, e⟩
          have fk1 : (k == 0) = false := by simp; omega
          have fk2 : ((k : Int) == 0) = false := by simp; omega
          have fk3 : decide ((k : Int) = 0) = false := decide_eq_false (by omega)
          have fk4 : decide (k = 0) = false := decide_eq_false (by omega)
          have fk5 : ¬ k = 0 := by omega
          go_wp2_with fail
          generalize ((ex1w2.alloc (.cells #[.slice sb xb.length xb.length, .bool bb, .slice sb' xb'.length xb'.length, .bool bb'] 28)).alloc (.cells #[.slice sd xd.length xd.length, .bool bd, .slice sd' xd'.length xd'.length, .bool bd'] 28)) = ex1w3 at *
          generalize ex1w2.heap.size = aex1w2 at *
          replace hzex1w2 := hzex1w2.out
          clear Cb0 Fb0 Cb1 Fb1 Cb2 Fb2 Cb3 Fb3 Cd0 Fd0 Cd1 Fd1 Cd2 Fd2 Cd3 Fd3
          clear fk1 fk2 fk3 fk4 fk5
          have HBb := H_ Bb
          have HBd := H_ Bd
          have HQb := H_ qb
          have HQd := H_ qd
          have HIS := H_ isl
          have HGG := H_ hG
          go_loopw [10, 11, 12] (fun p q i wr => ∃ (j : Nat) (am ab : Bool), j ≤ k ∧ p = .bool am ∧ q = .bool ab ∧ i = .int .i64 (j : Int) ∧ Hid (∀ i (h : i < rs.length), i < j → bT_ rs[i] lo = 0 → am = true) ∧ Hid (∀ i (h : i < rs.length), i < j → bT_ rs[i] hh = 0 → ab = true) ∧ ex1w3.grownBy wr none) (fun _ _ i _ => k - (intOf i).toNat)
          case atStart => exact ⟨0, false, false, Nat.zero_le _, rfl, rfl, rfl, (fun i h hj => absurd hj (Nat.not_lt_zero _)), (fun i h hj => absurd hj (Nat.not_lt_zero _)), h_ _ _⟩
          case round =>
            clear hG isl qb qd Bb Bd
            obtain ⟨j, am, ab, hj, rfl, rfl, rfl, HAM, HAB, hT⟩ := hrel
            have hG := d_ HGG.out hT
            have Bb := a_ hT HBb.out
            have Bd := a_ hT HBd.out
            have qb := HQb.out.kept hT
            have qd := HQd.out.kept hT
            by_cases hjk : j < k
            · skip
              have hjl : j < rs.length := by rw [HZL.out]; exact hjk
              obtain ⟨se, xe, be, se', xe', be', Ce0, Ce1, Ce2, Ce3, qe⟩ := (HIS.out.kept hT).at j hjl
              obtain ⟨z, hz⟩ : ∃ z, rs[j] = z := ⟨_, rfl⟩
              have hm1 := FB.out j hjl
              have hm2 := FT.out j hjl
              have hes := HES.out z j hjl hz
              rw [hz] at qe hm1 hm2
              obtain ⟨d1, hd1⟩ : ∃ c, bT_ z lo = c := ⟨_, rfl⟩
              obtain ⟨d2, hd2⟩ : ∃ c, bT_ z hh = c := ⟨_, rfl⟩
              rw [hd1] at hm1
              rw [hd2] at hm2
              have P5 : Hid (∀ W v u, RatV W v z → RatV W u lo → Calls Tryz.prog 28 #[v, u] W (fun e w' => e = .returned (.int .i64 d1) ∧ W.grownBy w' none)) := fun W v u h1 h2 => hd1 ▸ D_ W v u z lo 5 h1 h2 (by omega) hes.1 hes.2 HLO.out.1 HLO.out.2
              have P6 : Hid (∀ W v u, RatV W v z → RatV W u hh → Calls Tryz.prog 28 #[v, u] W (fun e w' => e = .returned (.int .i64 d2) ∧ W.grownBy w' none)) := fun W v u h1 h2 => hd2 ▸ D_ W v u z hh 5 h1 h2 (by omega) hes.1 hes.2 HHI.out.1 HHI.out.2
              have fa : decide (d1 < 0) = false := decide_eq_false (by omega)
              have fb : decide (0 < d2) = false := decide_eq_false (by omega)
              have fj : decide (j < k) = true := decide_eq_true hjk
              have fj2 : decide ((j : Int) < (k : Int)) = true := decide_eq_true (by omega)
              have HA1 : Hid (∀ i (h : i < rs.length), i < j + 1 → bT_ rs[i] lo = 0 → (am || (d1 == 0)) = true) := fun i h hi e => by
                rcases Nat.lt_succ_iff_lt_or_eq.1 hi with h1 | h1
                · rw [HAM.out i h h1 e]; rfl
                · subst h1; rw [hz, hd1] at e; rw [e]; simp
              have HB1 : Hid (∀ i (h : i < rs.length), i < j + 1 → bT_ rs[i] hh = 0 → (ab || (d2 == 0)) = true) := fun i h hi e => by
                rcases Nat.lt_succ_iff_lt_or_eq.1 hi with h1 | h1
                · rw [HAB.out i h h1 e]; rfl
                · subst h1; rw [hz, hd2] at e; rw [e]; simp
              clear hz hd1 hd2 hes hm1 hm2 hjl HAM HAB
              obtain ⟨Cb0, Cb1, Cb2, Cb3, Fb0, Fb1, Fb2, Fb3⟩ := b_ Bb
              obtain ⟨Cd0, Cd1, Cd2, Cd3, Fd0, Fd1, Fd2, Fd3⟩ := b_ Bd
              go_wp2_with fail
              go_region_held3 (fun w' => w'.cell? ⟨b, j * 4, none⟩ = some (.slice se xe.length xe.length) ∧ w'.cell? ⟨b, j * 4 + 1, none⟩ = some (.bool be) ∧ w'.cell? ⟨b, j * 4 + 2, none⟩ = some (.slice se' xe'.length xe'.length) ∧ w'.cell? ⟨b, j * 4 + 3, none⟩ = some (.bool be') ∧ w'.cell? ⟨aex1w2, 0, none⟩ = some (.slice sb xb.length xb.length) ∧ w'.cell? ⟨aex1w2, 1, none⟩ = some (.bool bb) ∧ w'.cell? ⟨aex1w2, 2, none⟩ = some (.slice sb' xb'.length xb'.length) ∧ w'.cell? ⟨aex1w2, 3, none⟩ = some (.bool bb') ∧ w'.cell? ⟨aex1w2 + 1, 0, none⟩ = some (.slice sd xd.length xd.length) ∧ w'.cell? ⟨aex1w2 + 1, 1, none⟩ = some (.bool bd) ∧ w'.cell? ⟨aex1w2 + 1, 2, none⟩ = some (.slice sd' xd'.length xd'.length) ∧ w'.cell? ⟨aex1w2 + 1, 3, none⟩ = some (.bool bd'))
                (first | assumption | exact ⟨Ce0, Ce1, Ce2, Ce3, Cb0, Cb1, Cb2, Cb3, Cd0, Cd1, Cd2, Cd3⟩ | go_keep)
                (first
                  | (go_at_call 28; (with_reducible refine (P5.out wr.drew _ _ (qe.kept (k_ (h_ _ _))) (qb.kept (k_ (h_ _ _)))).mono ?_); rintro e ex1prw4_1 ⟨rfl, gex1prw4_1⟩; have hGex1prw4_1 := o_ wr gex1prw4_1 rfl rfl rfl rfl; have hSex1prw4_1 := (n_ (hGex1prw4_1.cell Ce0 (by simp)) (n_ (hGex1prw4_1.cell Ce1 (by simp)) (n_ (hGex1prw4_1.cell Ce2 (by simp)) (n_ (hGex1prw4_1.cell Ce3 (by simp)) (n_ (hGex1prw4_1.cell Cb0 (by simp)) (n_ (hGex1prw4_1.cell Cb1 (by simp)) (n_ (hGex1prw4_1.cell Cb2 (by simp)) (n_ (hGex1prw4_1.cell Cb3 (by simp)) (n_ (hGex1prw4_1.cell Cd0 (by simp)) (n_ (hGex1prw4_1.cell Cd1 (by simp)) (n_ (hGex1prw4_1.cell Cd2 (by simp)) (hGex1prw4_1.cell Cd3 (by simp))))))))))))); clear gex1prw4_1)
                  | (go_at_call 28; (with_reducible refine (P6.out ex1prw4_1 _ _ (qe.kept hGex1prw4_1) (qd.kept hGex1prw4_1)).mono ?_); rintro e ex1prw4_2 ⟨rfl, gex1prw4_2⟩; have hGex1prw4_2 := d_ hGex1prw4_1 gex1prw4_2; have hSex1prw4_2 := (n_ (hGex1prw4_2.cell Ce0 (by simp)) (n_ (hGex1prw4_2.cell Ce1 (by simp)) (n_ (hGex1prw4_2.cell Ce2 (by simp)) (n_ (hGex1prw4_2.cell Ce3 (by simp)) (n_ (hGex1prw4_2.cell Cb0 (by simp)) (n_ (hGex1prw4_2.cell Cb1 (by simp)) (n_ (hGex1prw4_2.cell Cb2 (by simp)) (n_ (hGex1prw4_2.cell Cb3 (by simp)) (n_ (hGex1prw4_2.cell Cd0 (by simp)) (n_ (hGex1prw4_2.cell Cd1 (by simp)) (n_ (hGex1prw4_2.cell Cd2 (by simp)) (hGex1prw4_2.cell Cd3 (by simp))))))))))))); clear gex1prw4_2))
              replace Bb := a_ hGex1prw4_2 Bb
              replace Bd := a_ hGex1prw4_2 Bd
              replace qb := qb.kept hGex1prw4_2
              replace qd := qd.kept hGex1prw4_2
              replace qe := qe.kept hGex1prw4_2
              replace hG := d_ hG hGex1prw4_2
              clear Cb0 Fb0 Cb1 Fb1 Cb2 Fb2 Cb3 Fb3 Cd0 Fd0 Cd1 Fd1 Cd2 Fd2 Cd3 Fd3
              replace Ce0 := hGex1prw4_2.cell Ce0 (by simp)
              replace Ce1 := hGex1prw4_2.cell Ce1 (by simp)
              replace Ce2 := hGex1prw4_2.cell Ce2 (by simp)
              replace Ce3 := hGex1prw4_2.cell Ce3 (by simp)
              replace hT := d_ hT hGex1prw4_2
              obtain ⟨Cb0, Cb1, Cb2, Cb3, Fb0, Fb1, Fb2, Fb3⟩ := b_ Bb
              obtain ⟨Cd0, Cd1, Cd2, Cd3, Fd0, Fd1, Fd2, Fd3⟩ := b_ Bd
              go_wp2_with fail
              cases am
              · skip
                go_region_held3 (fun w' => w'.cell? ⟨b, j * 4, none⟩ = some (.slice se xe.length xe.length) ∧ w'.cell? ⟨b, j * 4 + 1, none⟩ = some (.bool be) ∧ w'.cell? ⟨b, j * 4 + 2, none⟩ = some (.slice se' xe'.length xe'.length) ∧ w'.cell? ⟨b, j * 4 + 3, none⟩ = some (.bool be') ∧ w'.cell? ⟨aex1w2, 0, none⟩ = some (.slice sb xb.length xb.length) ∧ w'.cell? ⟨aex1w2, 1, none⟩ = some (.bool bb) ∧ w'.cell? ⟨aex1w2, 2, none⟩ = some (.slice sb' xb'.length xb'.length) ∧ w'.cell? ⟨aex1w2, 3, none⟩ = some (.bool bb'))
                  (first | assumption | exact ⟨Ce0, Ce1, Ce2, Ce3, Cb0, Cb1, Cb2, Cb3⟩ | go_keep)
                  (first
                    | (go_at_call 28; (with_reducible refine (P5.out ex1prw4_2.drew _ _ (qe.kept (k_ (h_ _ _))) (qb.kept (k_ (h_ _ _)))).mono ?_); rintro e ex1prfw5_1 ⟨rfl, gex1prfw5_1⟩; have hGex1prfw5_1 := o_ ex1prw4_2 gex1prfw5_1 rfl rfl rfl rfl; have hSex1prfw5_1 := (n_ (hGex1prfw5_1.cell Ce0 (by simp)) (n_ (hGex1prfw5_1.cell Ce1 (by simp)) (n_ (hGex1prfw5_1.cell Ce2 (by simp)) (n_ (hGex1prfw5_1.cell Ce3 (by simp)) (n_ (hGex1prfw5_1.cell Cb0 (by simp)) (n_ (hGex1prfw5_1.cell Cb1 (by simp)) (n_ (hGex1prfw5_1.cell Cb2 (by simp)) (hGex1prfw5_1.cell Cb3 (by simp))))))))); clear gex1prfw5_1))
                replace Bb := a_ hGex1prfw5_1 Bb
                replace Bd := a_ hGex1prfw5_1 Bd
                replace qb := qb.kept hGex1prfw5_1
                replace qd := qd.kept hGex1prfw5_1
                replace qe := qe.kept hGex1prfw5_1
                replace hG := d_ hG hGex1prfw5_1
                clear Cb0 Fb0 Cb1 Fb1 Cb2 Fb2 Cb3 Fb3 Cd0 Fd0 Cd1 Fd1 Cd2 Fd2 Cd3 Fd3
                replace Ce0 := hGex1prfw5_1.cell Ce0 (by simp)
                replace Ce1 := hGex1prfw5_1.cell Ce1 (by simp)
                replace Ce2 := hGex1prfw5_1.cell Ce2 (by simp)
                replace Ce3 := hGex1prfw5_1.cell Ce3 (by simp)
                replace hT := d_ hT hGex1prfw5_1
                obtain ⟨Cb0, Cb1, Cb2, Cb3, Fb0, Fb1, Fb2, Fb3⟩ := b_ Bb
                obtain ⟨Cd0, Cd1, Cd2, Cd3, Fd0, Fd1, Fd2, Fd3⟩ := b_ Bd
                go_wp2_with fail
                cases ab
                · skip
                  go_region_held3 (fun w' => w'.cell? ⟨b, j * 4, none⟩ = some (.slice se xe.length xe.length) ∧ w'.cell? ⟨b, j * 4 + 1, none⟩ = some (.bool be) ∧ w'.cell? ⟨b, j * 4 + 2, none⟩ = some (.slice se' xe'.length xe'.length) ∧ w'.cell? ⟨b, j * 4 + 3, none⟩ = some (.bool be') ∧ w'.cell? ⟨aex1w2 + 1, 0, none⟩ = some (.slice sd xd.length xd.length) ∧ w'.cell? ⟨aex1w2 + 1, 1, none⟩ = some (.bool bd) ∧ w'.cell? ⟨aex1w2 + 1, 2, none⟩ = some (.slice sd' xd'.length xd'.length) ∧ w'.cell? ⟨aex1w2 + 1, 3, none⟩ = some (.bool bd'))
                    (first | assumption | exact ⟨Ce0, Ce1, Ce2, Ce3, Cd0, Cd1, Cd2, Cd3⟩ | go_keep)
                    (first
                      | (go_at_call 28; (with_reducible refine (P6.out ex1prfw5_1.drew _ _ (qe.kept (k_ (h_ _ _))) (qd.kept (k_ (h_ _ _)))).mono ?_); rintro e ex1prffw6_1 ⟨rfl, gex1prffw6_1⟩; have hGex1prffw6_1 := o_ ex1prfw5_1 gex1prffw6_1 rfl rfl rfl rfl; have hSex1prffw6_1 := (n_ (hGex1prffw6_1.cell Ce0 (by simp)) (n_ (hGex1prffw6_1.cell Ce1 (by simp)) (n_ (hGex1prffw6_1.cell Ce2 (by simp)) (n_ (hGex1prffw6_1.cell Ce3 (by simp)) (n_ (hGex1prffw6_1.cell Cd0 (by simp)) (n_ (hGex1prffw6_1.cell Cd1 (by simp)) (n_ (hGex1prffw6_1.cell Cd2 (by simp)) (hGex1prffw6_1.cell Cd3 (by simp))))))))); clear gex1prffw6_1))
                  replace Bb := a_ hGex1prffw6_1 Bb
                  replace Bd := a_ hGex1prffw6_1 Bd
                  replace qb := qb.kept hGex1prffw6_1
                  replace qd := qd.kept hGex1prffw6_1
                  replace qe := qe.kept hGex1prffw6_1
                  replace hG := d_ hG hGex1prffw6_1
                  clear Cb0 Fb0 Cb1 Fb1 Cb2 Fb2 Cb3 Fb3 Cd0 Fd0 Cd1 Fd1 Cd2 Fd2 Cd3 Fd3
                  replace Ce0 := hGex1prffw6_1.cell Ce0 (by simp)
                  replace Ce1 := hGex1prffw6_1.cell Ce1 (by simp)
                  replace Ce2 := hGex1prffw6_1.cell Ce2 (by simp)
                  replace Ce3 := hGex1prffw6_1.cell Ce3 (by simp)
                  replace hT := d_ hT hGex1prffw6_1
                  obtain ⟨Cb0, Cb1, Cb2, Cb3, Fb0, Fb1, Fb2, Fb3⟩ := b_ Bb
                  obtain ⟨Cd0, Cd1, Cd2, Cd3, Fd0, Fd1, Fd2, Fd3⟩ := b_ Bd
                  go_wp2_with fail
                  go_roundw
                  case rel => exact ⟨j + 1, (d1 == 0), (d2 == 0), by omega, rfl, rfl, by go_num, HA1.out, HB1.out, hT⟩
                  case measure => simp [intOf]; omega
                · skip
                  refine wp_region_held_drew (S := fun w' => True) (by kernel_rfl) trivial (fun hHeld => ?_)
                  refine tk_ 0 ?_ rfl ?_ ?_
                  rotate_left
                  · (intro w hSw; (try dsimp only at hSw); go_simp; (try with_reducible rfl))
                  try simp only [ly_]
                  refine tk_ 1 ?_ rfl ?_ ?_
                  rotate_left
                  · (intro w hSw; (try dsimp only at hSw); go_simp; (try with_reducible rfl))
                  try simp only [ly_]
                  refine wpAnyH_take (i := 2) (v := undef) rfl (by kernel_rfl) (by kernel_rfl) (by kernel_rfl) (fun _ _ _ h => h) (Or.inr ⟨by rfl, rfl⟩) (by assumption) ?_
                  try simp only [ly_]
                  refine wpAnyH_take (i := 3) (v := undef) rfl (by kernel_rfl) (by kernel_rfl) (by kernel_rfl) (fun _ _ _ h => h) (Or.inr ⟨by rfl, rfl⟩) (by assumption) ?_
                  try simp only [ly_]
                  refine wpAnyH_take (i := 4) (v := undef) rfl (by kernel_rfl) (by kernel_rfl) (by kernel_rfl) (fun _ _ _ h => h) (Or.inr ⟨by rfl, rfl⟩) (by assumption) ?_
                  try simp only [ly_]
                  refine wpAnyH_take (i := 5) (v := undef) rfl (by kernel_rfl) (by kernel_rfl) (by kernel_rfl) (fun _ _ _ h => h) (Or.inr ⟨by rfl, rfl⟩) (by assumption) ?_
                  try simp only [ly_]
                  refine wpAnyH_take (i := 6) (v := undef) rfl (by kernel_rfl) (by kernel_rfl) (by kernel_rfl) (fun _ _ _ h => h) (Or.inr ⟨by rfl, rfl⟩) (by assumption) ?_
                  try simp only [ly_]
                  refine wpAnyH_take (i := 7) (v := undef) rfl (by kernel_rfl) (by kernel_rfl) (by kernel_rfl) (fun _ _ _ h => h) (Or.inr ⟨by rfl, rfl⟩) (by assumption) ?_
                  try simp only [ly_]
                  refine wpAnyH_take (i := 8) (v := undef) rfl (by kernel_rfl) (by kernel_rfl) (by kernel_rfl) (fun _ _ _ h => h) (Or.inr ⟨by rfl, rfl⟩) (by assumption) ?_
                  try simp only [ly_]
                  refine tk_ 9 ?_ rfl ?_ ?_
                  rotate_left
                  · (intro w hSw; (try dsimp only at hSw); go_simp; (try with_reducible rfl))
                  try simp only [ly_]
                  refine tk_ 10 ?_ rfl ?_ ?_
                  rotate_left
                  · (intro w hSw; (try dsimp only at hSw); go_simp; (try with_reducible rfl))
                  try simp only [ly_]
                  refine wpAnyH_done (by kernel_rfl) ?_ _
                  have gex1prftw6 : ex1prfw5_1.grownBy ex1prfw5_1.drew none := k_ (h_ _ _)
                  replace Ce0 := gex1prftw6.cell Ce0 (by simp)
                  replace Ce1 := gex1prftw6.cell Ce1 (by simp)
                  replace Ce2 := gex1prftw6.cell Ce2 (by simp)
                  replace Ce3 := gex1prftw6.cell Ce3 (by simp)
                  replace hT := d_ hT gex1prftw6
                  clear Cb0 Fb0 Cb1 Fb1 Cb2 Fb2 Cb3 Fb3 Cd0 Fd0 Cd1 Fd1 Cd2 Fd2 Cd3 Fd3
                  replace Bb := a_ gex1prftw6 Bb
                  replace Bd := a_ gex1prftw6 Bd
                  replace qb := qb.kept gex1prftw6
                  replace qd := qd.kept gex1prftw6
                  replace qe := qe.kept gex1prftw6
                  replace hG := d_ hG gex1prftw6
                  clear gex1prftw6 hHeld
                  generalize ex1prfw5_1.drew = ex1prftw6 at *
                  obtain ⟨Cb0, Cb1, Cb2, Cb3, Fb0, Fb1, Fb2, Fb3⟩ := b_ Bb
                  obtain ⟨Cd0, Cd1, Cd2, Cd3, Fd0, Fd1, Fd2, Fd3⟩ := b_ Bd
                  go_wp2_with fail
                  go_roundw
                  case rel => exact ⟨j + 1, (d1 == 0), true, by omega, rfl, rfl, by go_num, HA1.out, HB1.out, hT⟩
                  case measure => simp [intOf]; omega
              · skip
                refine wp_region_held_drew (S := fun w' => True) (by kernel_rfl) trivial (fun hHeld => ?_)
                refine tk_ 0 ?_ rfl ?_ ?_
                rotate_left
                · (intro w hSw; (try dsimp only at hSw); go_simp; (try with_reducible rfl))
                try simp only [ly_]
                refine tk_ 1 ?_ rfl ?_ ?_
                rotate_left
                · (intro w hSw; (try dsimp only at hSw); go_simp; (try with_reducible rfl))
                try simp only [ly_]
                refine wpAnyH_take (i := 2) (v := undef) rfl (by kernel_rfl) (by kernel_rfl) (by kernel_rfl) (fun _ _ _ h => h) (Or.inr ⟨by rfl, rfl⟩) (by assumption) ?_
                try simp only [ly_]
                refine wpAnyH_take (i := 3) (v := undef) rfl (by kernel_rfl) (by kernel_rfl) (by kernel_rfl) (fun _ _ _ h => h) (Or.inr ⟨by rfl, rfl⟩) (by assumption) ?_
                try simp only [ly_]
                refine wpAnyH_take (i := 4) (v := undef) rfl (by kernel_rfl) (by kernel_rfl) (by kernel_rfl) (fun _ _ _ h => h) (Or.inr ⟨by rfl, rfl⟩) (by assumption) ?_
                try simp only [ly_]
                refine wpAnyH_take (i := 5) (v := undef) rfl (by kernel_rfl) (by kernel_rfl) (by kernel_rfl) (fun _ _ _ h => h) (Or.inr ⟨by rfl, rfl⟩) (by assumption) ?_
                try simp only [ly_]
                refine wpAnyH_take (i := 6) (v := undef) rfl (by kernel_rfl) (by kernel_rfl) (by kernel_rfl) (fun _ _ _ h => h) (Or.inr ⟨by rfl, rfl⟩) (by assumption) ?_
                try simp only [ly_]
                refine wpAnyH_take (i := 7) (v := undef) rfl (by kernel_rfl) (by kernel_rfl) (by kernel_rfl) (fun _ _ _ h => h) (Or.inr ⟨by rfl, rfl⟩) (by assumption) ?_
                try simp only [ly_]
                refine wpAnyH_take (i := 8) (v := undef) rfl (by kernel_rfl) (by kernel_rfl) (by kernel_rfl) (fun _ _ _ h => h) (Or.inr ⟨by rfl, rfl⟩) (by assumption) ?_
                try simp only [ly_]
                refine tk_ 9 ?_ rfl ?_ ?_
                rotate_left
                · (intro w hSw; (try dsimp only at hSw); go_simp; (try with_reducible rfl))
                try simp only [ly_]
                refine tk_ 10 ?_ rfl ?_ ?_
                rotate_left
                · (intro w hSw; (try dsimp only at hSw); go_simp; (try with_reducible rfl))
                try simp only [ly_]
                refine wpAnyH_done (by kernel_rfl) ?_ _
                have gex1prtw5 : ex1prw4_2.grownBy ex1prw4_2.drew none := k_ (h_ _ _)
                replace Ce0 := gex1prtw5.cell Ce0 (by simp)
                replace Ce1 := gex1prtw5.cell Ce1 (by simp)
                replace Ce2 := gex1prtw5.cell Ce2 (by simp)
                replace Ce3 := gex1prtw5.cell Ce3 (by simp)
                replace hT := d_ hT gex1prtw5
                clear Cb0 Fb0 Cb1 Fb1 Cb2 Fb2 Cb3 Fb3 Cd0 Fd0 Cd1 Fd1 Cd2 Fd2 Cd3 Fd3
                replace Bb := a_ gex1prtw5 Bb
                replace Bd := a_ gex1prtw5 Bd
                replace qb := qb.kept gex1prtw5
                replace qd := qd.kept gex1prtw5
                replace qe := qe.kept gex1prtw5
                replace hG := d_ hG gex1prtw5
                clear gex1prtw5 hHeld
                generalize ex1prw4_2.drew = ex1prtw5 at *
                obtain ⟨Cb0, Cb1, Cb2, Cb3, Fb0, Fb1, Fb2, Fb3⟩ := b_ Bb
                obtain ⟨Cd0, Cd1, Cd2, Cd3, Fd0, Fd1, Fd2, Fd3⟩ := b_ Bd
                go_wp2_with fail
                cases ab
                · skip
                  go_region_held3 (fun w' => w'.cell? ⟨b, j * 4, none⟩ = some (.slice se xe.length xe.length) ∧ w'.cell? ⟨b, j * 4 + 1, none⟩ = some (.bool be) ∧ w'.cell? ⟨b, j * 4 + 2, none⟩ = some (.slice se' xe'.length xe'.length) ∧ w'.cell? ⟨b, j * 4 + 3, none⟩ = some (.bool be') ∧ w'.cell? ⟨aex1w2 + 1, 0, none⟩ = some (.slice sd xd.length xd.length) ∧ w'.cell? ⟨aex1w2 + 1, 1, none⟩ = some (.bool bd) ∧ w'.cell? ⟨aex1w2 + 1, 2, none⟩ = some (.slice sd' xd'.length xd'.length) ∧ w'.cell? ⟨aex1w2 + 1, 3, none⟩ = some (.bool bd'))
                    (first | assumption | exact ⟨Ce0, Ce1, Ce2, Ce3, Cd0, Cd1, Cd2, Cd3⟩ | go_keep)
                    (first
                      | (go_at_call 28; (with_reducible refine (P6.out ex1prtw5.drew _ _ (qe.kept (k_ (h_ _ _))) (qd.kept (k_ (h_ _ _)))).mono ?_); rintro e ex1prtfw6_1 ⟨rfl, gex1prtfw6_1⟩; have hGex1prtfw6_1 := o_ ex1prtw5 gex1prtfw6_1 rfl rfl rfl rfl; have hSex1prtfw6_1 := (n_ (hGex1prtfw6_1.cell Ce0 (by simp)) (n_ (hGex1prtfw6_1.cell Ce1 (by simp)) (n_ (hGex1prtfw6_1.cell Ce2 (by simp)) (n_ (hGex1prtfw6_1.cell Ce3 (by simp)) (n_ (hGex1prtfw6_1.cell Cd0 (by simp)) (n_ (hGex1prtfw6_1.cell Cd1 (by simp)) (n_ (hGex1prtfw6_1.cell Cd2 (by simp)) (hGex1prtfw6_1.cell Cd3 (by simp))))))))); clear gex1prtfw6_1))
                  replace Bb := a_ hGex1prtfw6_1 Bb
                  replace Bd := a_ hGex1prtfw6_1 Bd
                  replace qb := qb.kept hGex1prtfw6_1
                  replace qd := qd.kept hGex1prtfw6_1
                  replace qe := qe.kept hGex1prtfw6_1
                  replace hG := d_ hG hGex1prtfw6_1
                  clear Cb0 Fb0 Cb1 Fb1 Cb2 Fb2 Cb3 Fb3 Cd0 Fd0 Cd1 Fd1 Cd2 Fd2 Cd3 Fd3
                  replace Ce0 := hGex1prtfw6_1.cell Ce0 (by simp)
                  replace Ce1 := hGex1prtfw6_1.cell Ce1 (by simp)
                  replace Ce2 := hGex1prtfw6_1.cell Ce2 (by simp)
                  replace Ce3 := hGex1prtfw6_1.cell Ce3 (by simp)
                  replace hT := d_ hT hGex1prtfw6_1
                  obtain ⟨Cb0, Cb1, Cb2, Cb3, Fb0, Fb1, Fb2, Fb3⟩ := b_ Bb
                  obtain ⟨Cd0, Cd1, Cd2, Cd3, Fd0, Fd1, Fd2, Fd3⟩ := b_ Bd
                  go_wp2_with fail
                  go_roundw
                  case rel => exact ⟨j + 1, true, (d2 == 0), by omega, rfl, rfl, by go_num, HA1.out, HB1.out, hT⟩
                  case measure => simp [intOf]; omega
                · skip
                  refine wp_region_held_drew (S := fun w' => True) (by kernel_rfl) trivial (fun hHeld => ?_)
                  refine tk_ 0 ?_ rfl ?_ ?_
                  rotate_left
                  · (intro w hSw; (try dsimp only at hSw); go_simp; (try with_reducible rfl))
                  try simp only [ly_]
                  refine tk_ 1 ?_ rfl ?_ ?_
                  rotate_left
                  · (intro w hSw; (try dsimp only at hSw); go_simp; (try with_reducible rfl))
                  try simp only [ly_]
                  refine wpAnyH_take (i := 2) (v := undef) rfl (by kernel_rfl) (by kernel_rfl) (by kernel_rfl) (fun _ _ _ h => h) (Or.inr ⟨by rfl, rfl⟩) (by assumption) ?_
                  try simp only [ly_]
                  refine wpAnyH_take (i := 3) (v := undef) rfl (by kernel_rfl) (by kernel_rfl) (by kernel_rfl) (fun _ _ _ h => h) (Or.inr ⟨by rfl, rfl⟩) (by assumption) ?_
                  try simp only [ly_]
                  refine wpAnyH_take (i := 4) (v := undef) rfl (by kernel_rfl) (by kernel_rfl) (by kernel_rfl) (fun _ _ _ h => h) (Or.inr ⟨by rfl, rfl⟩) (by assumption) ?_
                  try simp only [ly_]
                  refine wpAnyH_take (i := 5) (v := undef) rfl (by kernel_rfl) (by kernel_rfl) (by kernel_rfl) (fun _ _ _ h => h) (Or.inr ⟨by rfl, rfl⟩) (by assumption) ?_
                  try simp only [ly_]
                  refine wpAnyH_take (i := 6) (v := undef) rfl (by kernel_rfl) (by kernel_rfl) (by kernel_rfl) (fun _ _ _ h => h) (Or.inr ⟨by rfl, rfl⟩) (by assumption) ?_
                  try simp only [ly_]
                  refine wpAnyH_take (i := 7) (v := undef) rfl (by kernel_rfl) (by kernel_rfl) (by kernel_rfl) (fun _ _ _ h => h) (Or.inr ⟨by rfl, rfl⟩) (by assumption) ?_
                  try simp only [ly_]
                  refine wpAnyH_take (i := 8) (v := undef) rfl (by kernel_rfl) (by kernel_rfl) (by kernel_rfl) (fun _ _ _ h => h) (Or.inr ⟨by rfl, rfl⟩) (by assumption) ?_
                  try simp only [ly_]
                  refine tk_ 9 ?_ rfl ?_ ?_
                  rotate_left
                  · (intro w hSw; (try dsimp only at hSw); go_simp; (try with_reducible rfl))
                  try simp only [ly_]
                  refine tk_ 10 ?_ rfl ?_ ?_
                  rotate_left
                  · (intro w hSw; (try dsimp only at hSw); go_simp; (try with_reducible rfl))
                  try simp only [ly_]
                  refine wpAnyH_done (by kernel_rfl) ?_ _
                  have gex1prttw6 : ex1prtw5.grownBy ex1prtw5.drew none := k_ (h_ _ _)
                  replace Ce0 := gex1prttw6.cell Ce0 (by simp)
                  replace Ce1 := gex1prttw6.cell Ce1 (by simp)
                  replace Ce2 := gex1prttw6.cell Ce2 (by simp)
                  replace Ce3 := gex1prttw6.cell Ce3 (by simp)
                  replace hT := d_ hT gex1prttw6
                  clear Cb0 Fb0 Cb1 Fb1 Cb2 Fb2 Cb3 Fb3 Cd0 Fd0 Cd1 Fd1 Cd2 Fd2 Cd3 Fd3
                  replace Bb := a_ gex1prttw6 Bb
                  replace Bd := a_ gex1prttw6 Bd
                  replace qb := qb.kept gex1prttw6
                  replace qd := qd.kept gex1prttw6
                  replace qe := qe.kept gex1prttw6
                  replace hG := d_ hG gex1prttw6
                  clear gex1prttw6 hHeld
                  generalize ex1prtw5.drew = ex1prttw6 at *
                  obtain ⟨Cb0, Cb1, Cb2, Cb3, Fb0, Fb1, Fb2, Fb3⟩ := b_ Bb
                  obtain ⟨Cd0, Cd1, Cd2, Cd3, Fd0, Fd1, Fd2, Fd3⟩ := b_ Bd
                  go_wp2_with fail
                  go_roundw
                  case rel => exact ⟨j + 1, true, true, by omega, rfl, rfl, by go_num, HA1.out, HB1.out, hT⟩
                  case measure => simp [intOf]; omega
            · skip
              have fj : decide (j < k) = false := decide_eq_false (by omega)
              have fj2 : decide ((j : Int) < (k : Int)) = false := decide_eq_false (by omega)
              obtain rfl : am = true := by
                obtain ⟨i, h, e⟩ := FM.out (by rw [HZL.out]; exact hk0)
                exact HAM.out i h (by have := HZL.out; omega) e
              obtain rfl : ab = true := by
                obtain ⟨i, h, e⟩ := FN.out (by rw [HZL.out]; exact hk0)
                exact HAB.out i h (by have := HZL.out; omega) e
              clear qb qd Bb Bd
              go_wp2_with fail
              refine (A_ wr (HTB.out _ hG)).mono ?_
              rintro e ex1pxw4 ⟨rfl, gex1pxw4⟩
              replace hG := d_ hG gex1pxw4
              clear gex1pxw4
              go_wp2_with fail
              go_ret
              exact ⟨by first | rfl | simp, hG⟩
end Go.Proofs.YtgbbdgioohaknaaGreatDoor
