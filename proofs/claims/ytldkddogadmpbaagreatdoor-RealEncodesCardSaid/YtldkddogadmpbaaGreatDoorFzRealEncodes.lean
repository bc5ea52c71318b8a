/- RealEncodes: whatever the text, of the number that it names the bytes that mean it, or that there are none, are the document's: the law returns true and leaves its argument. No condition. -/
import Derived.Deep.RegionHeld3
import Derived.Test.YtldkddogadmpbaaGreatDoorMz6
import Derived.Test.YtldkddogadmpbaaGreatDoorMz9
import Derived.Test.YtldkddogadmpbaaGreatDoorMz10
import Derived.Test.YtldkddogadmpbaaGreatDoorMz1
namespace Go.Proofs.YtldkddogadmpbaaGreatDoor
open Go.RowKit Mat
set_option maxRecDepth 100000
set_option linter.unusedVariables false
set_option linter.unusedSimpArgs false
set_option maxHeartbeats 16000000 in
theorem realEncodes_walk (w : World) (s : ByteArray) (hTab : Tab w) :
    Calls Tryz.prog 3 #[.string s] w (fun e w' => e = .returned (.bool true) ∧ w.grownBy w' none) := by
  have HTB : Hid (∀ W, w.grownBy W none → Tab W) := fun W hW => hTab.kept hW (by simp)
  clear hTab
  have hG : w.grownBy w none := grown_refl _ _
  by_cases h60 : 60 < s.size
  · skip
    have hsz : (s.extract 0 60).size ≤ 60 := by rw [ByteArray.size_extract]; omega
    obtain ⟨r, hr⟩ : ∃ r, fval (s.extract 0 60) = r := ⟨_, rfl⟩
    obtain ⟨c9, hc9⟩ : ∃ c, fcod (s.extract 0 60) = c := ⟨_, rfl⟩
    have bn : r.num.natAbs < B ^ 5 := by rw [← hr]; exact fval_nb _ hsz (by omega)
    have bd : r.den < B ^ 5 := by rw [← hr]; exact fval_db _ hsz (by omega) (by omega)
    have CP : Hid (∀ W, Tab W → Calls Tryz.prog 4 #[.string (s.extract 0 60)] W (RetRatE W r c9)) := fun W hT => by have h := FParse_any W (s.extract 0 60) (by omega) hT; rw [hr, hc9] at h; exact h
    have CR : Hid (∀ W, Calls Tryz.prog 5 #[.string (s.extract 0 60)] W (RetRQE W r 20 c9)) := fun W => by have h := rQParse_any W (s.extract 0 60) 20 (by omega) (by omega) (by omega); rw [hr, hc9] at h; exact h
    have EA : Hid (∀ W v, RatV W v r → Calls Tryz.prog 7 #[v] W (RetEnc W r)) := fun W v h => Enc_any W v r 5 h (by omega) bn bd
    have EB : Hid (∀ W v, RQ W v r 20 → Calls Tryz.prog 8 #[v] W (RetEnc W r)) := fun W v h => rEnc_any W v r 20 h (by omega)
    have hcc : c9 = 0 ∨ Hid ((c9 != 0) = true ∧ (c9 == 0) = false) := by
      by_cases h : c9 = 0
      · exact Or.inl h
      · exact Or.inr ⟨bne_iff_ne.2 h, beq_eq_false_iff_ne.2 h⟩
    clear bn bd hr hc9
    generalize hT9 : s.extract 0 60 = t9 at *
    replace hT9 := Lib.hid hT9
    have fT : s.extract 0 60 = t9 := hT9.out
    go_enter Tryz.func3, Tryz.ntmps3
    go_wp2_with fail
    refine (CP.out w (HTB.out _ hG)).mono ?_
    rintro e bw1 ⟨_, rfl, ⟨sa, xa, ba, sa', xa', ba', rfl, ha, ha'⟩, gbw1⟩
    have qa : RatV bw1 (.agg #[.slice sa xa.length xa.length, .bool ba, .slice sa' xa'.length xa'.length, .bool ba']) (r) := ⟨sa, xa, ba, sa', xa', ba', rfl, ha, ha'⟩
    replace hG := grown_trans hG gbw1
    clear gbw1
    clear ha ha'
    have gbbw1 := (World.grownBy_alloc bw1 (.cells #[.slice sa xa.length xa.length, .bool ba, .slice sa' xa'.length xa'.length, .bool ba'] 28) none)
    have Ba := (heap_new bw1 (.cells #[.slice sa xa.length xa.length, .bool ba, .slice sa' xa'.length xa'.length, .bool ba'] 28) (bw1.heap.size) rfl)
    have hzbw1 : Hid (w.heap.size ≤ bw1.heap.size) := Lib.hid hG.size
    replace qa := qa.kept gbbw1
    replace hG := grown_trans hG gbbw1
    clear gbbw1
    obtain ⟨Ca0, Ca1, Ca2, Ca3, Fa0, Fa1, Fa2, Fa3⟩ := box_cells4 Ba
    go_wp2_with fail
    generalize (bw1.alloc (.cells #[.slice sa xa.length xa.length, .bool ba, .slice sa' xa'.length xa'.length, .bool ba'] 28)) = bw2 at *
    generalize bw1.heap.size = abw1 at *
    replace hzbw1 := hzbw1.out
    clear Ca0 Ca1 Ca2 Ca3 Fa0 Fa1 Fa2 Fa3
    refine (CR.out bw2).mono ?_
    rintro e bw3 ⟨_, rfl, ⟨gx, sx, lx, cx, gx', sx', lx', cx', nx, dx, rfl, hx, hx', ux⟩, gbw3⟩
    have yx : RQ bw3 (.agg #[.int .i64 gx, .slice sx lx cx, .int .i64 gx', .slice sx' lx' cx']) r 20 := ⟨gx, sx, lx, cx, gx', sx', lx', cx', nx, dx, rfl, hx, hx', ux⟩
    replace Ba := heap_kept gbw3 Ba
    replace qa := qa.kept gbw3
    replace hG := grown_trans hG gbw3
    clear gbw3
    clear hx hx'
    obtain ⟨Ca0, Ca1, Ca2, Ca3, Fa0, Fa1, Fa2, Fa3⟩ := box_cells4 Ba
    have gbbw3 := (World.grownBy_alloc bw3 (.cells #[.int .i64 gx, .slice sx lx cx, .int .i64 gx', .slice sx' lx' cx'] 38) none)
    have Bx := (heap_new bw3 (.cells #[.int .i64 gx, .slice sx lx cx, .int .i64 gx', .slice sx' lx' cx'] 38) (bw3.heap.size) rfl)
    have hzbw3 : Hid (w.heap.size ≤ bw3.heap.size) := Lib.hid hG.size
    have hlabw3 : Hid (abw1 < bw3.heap.size) := Lib.hid (Array.getElem?_eq_some_iff.1 Ba).1
    clear Ca0 Ca1 Ca2 Ca3 Fa0 Fa1 Fa2 Fa3
    replace Ba := heap_kept gbbw3 Ba
    replace qa := qa.kept gbbw3
    replace yx := yx.kept gbbw3
    replace hG := grown_trans hG gbbw3
    clear gbbw3
    obtain ⟨Ca0, Ca1, Ca2, Ca3, Fa0, Fa1, Fa2, Fa3⟩ := box_cells4 Ba
    obtain ⟨Cx0, Cx1, Cx2, Cx3, Fx0, Fx1, Fx2, Fx3⟩ := box_cells4 Bx
    go_wp2_with fail
    generalize (bw3.alloc (.cells #[.int .i64 gx, .slice sx lx cx, .int .i64 gx', .slice sx' lx' cx'] 38)) = bw4 at *
    generalize bw3.heap.size = abw3 at *
    replace hzbw3 := hzbw3.out
    replace hlabw3 := hlabw3.out
    clear Ca0 Ca1 Ca2 Ca3 Fa0 Fa1 Fa2 Fa3 Cx0 Cx1 Cx2 Cx3 Fx0 Fx1 Fx2 Fx3
    refine (known_any bw4 (HTB.out _ hG)).mono ?_
    rintro e bw5 ⟨rfl, gbw5⟩
    replace Ba := heap_kept gbw5 Ba
    replace Bx := heap_kept gbw5 Bx
    replace qa := qa.kept gbw5
    replace yx := yx.kept gbw5
    replace hG := grown_trans hG gbw5
    clear gbw5
    obtain ⟨Ca0, Ca1, Ca2, Ca3, Fa0, Fa1, Fa2, Fa3⟩ := box_cells4 Ba
    obtain ⟨Cx0, Cx1, Cx2, Cx3, Fx0, Fx1, Fx2, Fx3⟩ := box_cells4 Bx
    rcases hcc with rfl | hne
    · skip
      go_wp2_with fail
      clear Ca0 Ca1 Ca2 Ca3 Fa0 Fa1 Fa2 Fa3 Cx0 Cx1 Cx2 Cx3 Fx0 Fx1 Fx2 Fx3
      refine (EA.out bw5 _ qa).mono ?_
      rintro e bow6 ⟨o1, s1, n1, k1, rfl, ho1, hn1, hb1, hc1, hd1, gbow6⟩
      have HO1 := Lib.hid ho1; have HN1 := Lib.hid hn1; clear ho1 hn1 hc1 hd1
      replace Ba := heap_kept gbow6 Ba
      replace Bx := heap_kept gbow6 Bx
      replace qa := qa.kept gbow6
      replace yx := yx.kept gbow6
      replace hG := grown_trans hG gbow6
      clear gbow6
      obtain ⟨Ca0, Ca1, Ca2, Ca3, Fa0, Fa1, Fa2, Fa3⟩ := box_cells4 Ba
      obtain ⟨Cx0, Cx1, Cx2, Cx3, Fx0, Fx1, Fx2, Fx3⟩ := box_cells4 Bx
      go_wp2_with fail
      clear Ca0 Ca1 Ca2 Ca3 Fa0 Fa1 Fa2 Fa3 Cx0 Cx1 Cx2 Cx3 Fx0 Fx1 Fx2 Fx3
      refine (EB.out bow6 _ yx).mono ?_
      rintro e bow7 ⟨o2, s2, n2, k2, rfl, ho2, hn2, hb2, hc2, hd2, gbow7⟩
      obtain rfl := ho2.uniq HO1.out
      have HN2 := Lib.hid hn2; clear ho2 hn2 hc2 hd2
      replace Ba := heap_kept gbow7 Ba
      replace Bx := heap_kept gbow7 Bx
      replace qa := qa.kept gbow7
      replace yx := yx.kept gbow7
      replace hb1 := hb1.kept gbow7
      replace hG := grown_trans hG gbow7
      clear gbow7
      obtain ⟨Ca0, Ca1, Ca2, Ca3, Fa0, Fa1, Fa2, Fa3⟩ := box_cells4 Ba
      obtain ⟨Cx0, Cx1, Cx2, Cx3, Fx0, Fx1, Fx2, Fx3⟩ := box_cells4 Bx
      generalize encC o2 = c8 at *
      go_wp2_with fail
      refine (same_any bow7 s1 s2 n1 n2 k1 k2 _ HN1.out.symm HN2.out.symm hb1 hb2).mono ?_
      rintro e9 w9 ⟨rfl, rfl⟩
      go_wp2_with fail
      go_ret
      exact ⟨by first | rfl | simp, hG⟩
    · skip
      obtain ⟨f1, f2⟩ := hne.out
      go_wp2_with fail
      clear Ca0 Ca1 Ca2 Ca3 Fa0 Fa1 Fa2 Fa3 Cx0 Cx1 Cx2 Cx3 Fx0 Fx1 Fx2 Fx3
      refine (known_any bw5 (HTB.out _ hG)).mono ?_
      rintro e bpw6 ⟨rfl, gbpw6⟩
      replace Ba := heap_kept gbpw6 Ba
      replace Bx := heap_kept gbpw6 Bx
      replace qa := qa.kept gbpw6
      replace yx := yx.kept gbpw6
      replace hG := grown_trans hG gbpw6
      clear gbpw6
      obtain ⟨Ca0, Ca1, Ca2, Ca3, Fa0, Fa1, Fa2, Fa3⟩ := box_cells4 Ba
      obtain ⟨Cx0, Cx1, Cx2, Cx3, Fx0, Fx1, Fx2, Fx3⟩ := box_cells4 Bx
      go_wp2_with fail
      go_ret
      exact ⟨by first | rfl | simp, hG⟩
  · skip
    have hsz : s.size ≤ 60 := by omega
    obtain ⟨r, hr⟩ : ∃ r, fval s = r := ⟨_, rfl⟩
    obtain ⟨c9, hc9⟩ : ∃ c, fcod s = c := ⟨_, rfl⟩
    have bn : r.num.natAbs < B ^ 5 := by rw [← hr]; exact fval_nb _ hsz (by omega)
    have bd : r.den < B ^ 5 := by rw [← hr]; exact fval_db _ hsz (by omega) (by omega)
    have CP : Hid (∀ W, Tab W → Calls Tryz.prog 4 #[.string s] W (RetRatE W r c9)) := fun W hT => by have h := FParse_any W s (by omega) hT; rw [hr, hc9] at h; exact h
    have CR : Hid (∀ W, Calls Tryz.prog 5 #[.string s] W (RetRQE W r 20 c9)) := fun W => by have h := rQParse_any W s 20 (by omega) (by omega) (by omega); rw [hr, hc9] at h; exact h
    have EA : Hid (∀ W v, RatV W v r → Calls Tryz.prog 7 #[v] W (RetEnc W r)) := fun W v h => Enc_any W v r 5 h (by omega) bn bd
    have EB : Hid (∀ W v, RQ W v r 20 → Calls Tryz.prog 8 #[v] W (RetEnc W r)) := fun W v h => rEnc_any W v r 20 h (by omega)
    have hcc : c9 = 0 ∨ Hid ((c9 != 0) = true ∧ (c9 == 0) = false) := by
      by_cases h : c9 = 0
      · exact Or.inl h
      · exact Or.inr ⟨bne_iff_ne.2 h, beq_eq_false_iff_ne.2 h⟩
    clear bn bd hr hc9
    go_enter Tryz.func3, Tryz.ntmps3
    go_wp2_with fail
    refine (CP.out w (HTB.out _ hG)).mono ?_
    rintro e aw1 ⟨_, rfl, ⟨sa, xa, ba, sa', xa', ba', rfl, ha, ha'⟩, gaw1⟩
    have qa : RatV aw1 (.agg #[.slice sa xa.length xa.length, .bool ba, .slice sa' xa'.length xa'.length, .bool ba']) (r) := ⟨sa, xa, ba, sa', xa', ba', rfl, ha, ha'⟩
    replace hG := grown_trans hG gaw1
    clear gaw1
    clear ha ha'
    have gbaw1 := (World.grownBy_alloc aw1 (.cells #[.slice sa xa.length xa.length, .bool ba, .slice sa' xa'.length xa'.length, .bool ba'] 28) none)
    have Ba := (heap_new aw1 (.cells #[.slice sa xa.length xa.length, .bool ba, .slice sa' xa'.length xa'.length, .bool ba'] 28) (aw1.heap.size) rfl)
    have hzaw1 : Hid (w.heap.size ≤ aw1.heap.size) := Lib.hid hG.size
    replace qa := qa.kept gbaw1
    replace hG := grown_trans hG gbaw1
    clear gbaw1
    obtain ⟨Ca0, Ca1, Ca2, Ca3, Fa0, Fa1, Fa2, Fa3⟩ := box_cells4 Ba
    go_wp2_with fail
    generalize (aw1.alloc (.cells #[.slice sa xa.length xa.length, .bool ba, .slice sa' xa'.length xa'.length, .bool ba'] 28)) = aw2 at *
    generalize aw1.heap.size = aaw1 at *
    replace hzaw1 := hzaw1.out
    clear Ca0 Ca1 Ca2 Ca3 Fa0 Fa1 Fa2 Fa3
    refine (CR.out aw2).mono ?_
    rintro e aw3 ⟨_, rfl, ⟨gx, sx, lx, cx, gx', sx', lx', cx', nx, dx, rfl, hx, hx', ux⟩, gaw3⟩
    have yx : RQ aw3 (.agg #[.int .i64 gx, .slice sx lx cx, .int .i64 gx', .slice sx' lx' cx']) r 20 := ⟨gx, sx, lx, cx, gx', sx', lx', cx', nx, dx, rfl, hx, hx', ux⟩
    replace Ba := heap_kept gaw3 Ba
    replace qa := qa.kept gaw3
    replace hG := grown_trans hG gaw3
    clear gaw3
    clear hx hx'
    obtain ⟨Ca0, Ca1, Ca2, Ca3, Fa0, Fa1, Fa2, Fa3⟩ := box_cells4 Ba
    have gbaw3 := (World.grownBy_alloc aw3 (.cells #[.int .i64 gx, .slice sx lx cx, .int .i64 gx', .slice sx' lx' cx'] 38) none)
    have Bx := (heap_new aw3 (.cells #[.int .i64 gx, .slice sx lx cx, .int .i64 gx', .slice sx' lx' cx'] 38) (aw3.heap.size) rfl)
    have hzaw3 : Hid (w.heap.size ≤ aw3.heap.size) := Lib.hid hG.size
    have hlaaw3 : Hid (aaw1 < aw3.heap.size) := Lib.hid (Array.getElem?_eq_some_iff.1 Ba).1
    clear Ca0 Ca1 Ca2 Ca3 Fa0 Fa1 Fa2 Fa3
    replace Ba := heap_kept gbaw3 Ba
    replace qa := qa.kept gbaw3
    replace yx := yx.kept gbaw3
    replace hG := grown_trans hG gbaw3
    clear gbaw3
    obtain ⟨Ca0, Ca1, Ca2, Ca3, Fa0, Fa1, Fa2, Fa3⟩ := box_cells4 Ba
    obtain ⟨Cx0, Cx1, Cx2, Cx3, Fx0, Fx1, Fx2, Fx3⟩ := box_cells4 Bx
    go_wp2_with fail
    generalize (aw3.alloc (.cells #[.int .i64 gx, .slice sx lx cx, .int .i64 gx', .slice sx' lx' cx'] 38)) = aw4 at *
    generalize aw3.heap.size = aaw3 at *
    replace hzaw3 := hzaw3.out
    replace hlaaw3 := hlaaw3.out
    clear Ca0 Ca1 Ca2 Ca3 Fa0 Fa1 Fa2 Fa3 Cx0 Cx1 Cx2 Cx3 Fx0 Fx1 Fx2 Fx3
    refine (known_any aw4 (HTB.out _ hG)).mono ?_
    rintro e aw5 ⟨rfl, gaw5⟩
    replace Ba := heap_kept gaw5 Ba
    replace Bx := heap_kept gaw5 Bx
    replace qa := qa.kept gaw5
    replace yx := yx.kept gaw5
    replace hG := grown_trans hG gaw5
    clear gaw5
    obtain ⟨Ca0, Ca1, Ca2, Ca3, Fa0, Fa1, Fa2, Fa3⟩ := box_cells4 Ba
    obtain ⟨Cx0, Cx1, Cx2, Cx3, Fx0, Fx1, Fx2, Fx3⟩ := box_cells4 Bx
    rcases hcc with rfl | hne
    · skip
      go_wp2_with fail
      clear Ca0 Ca1 Ca2 Ca3 Fa0 Fa1 Fa2 Fa3 Cx0 Cx1 Cx2 Cx3 Fx0 Fx1 Fx2 Fx3
      refine (EA.out aw5 _ qa).mono ?_
      rintro e aow6 ⟨o1, s1, n1, k1, rfl, ho1, hn1, hb1, hc1, hd1, gaow6⟩
      have HO1 := Lib.hid ho1; have HN1 := Lib.hid hn1; clear ho1 hn1 hc1 hd1
      replace Ba := heap_kept gaow6 Ba
      replace Bx := heap_kept gaow6 Bx
      replace qa := qa.kept gaow6
      replace yx := yx.kept gaow6
      replace hG := grown_trans hG gaow6
      clear gaow6
      obtain ⟨Ca0, Ca1, Ca2, Ca3, Fa0, Fa1, Fa2, Fa3⟩ := box_cells4 Ba
      obtain ⟨Cx0, Cx1, Cx2, Cx3, Fx0, Fx1, Fx2, Fx3⟩ := box_cells4 Bx
      go_wp2_with fail
      clear Ca0 Ca1 Ca2 Ca3 Fa0 Fa1 Fa2 Fa3 Cx0 Cx1 Cx2 Cx3 Fx0 Fx1 Fx2 Fx3
      refine (EB.out aow6 _ yx).mono ?_
      rintro e aow7 ⟨o2, s2, n2, k2, rfl, ho2, hn2, hb2, hc2, hd2, gaow7⟩
      obtain rfl := ho2.uniq HO1.out
      have HN2 := Lib.hid hn2; clear ho2 hn2 hc2 hd2
      replace Ba := heap_kept gaow7 Ba
      replace Bx := heap_kept gaow7 Bx
      replace qa := qa.kept gaow7
      replace yx := yx.kept gaow7
      replace hb1 := hb1.kept gaow7
      replace hG := grown_trans hG gaow7
      clear gaow7
      obtain ⟨Ca0, Ca1, Ca2, Ca3, Fa0, Fa1, Fa2, Fa3⟩ := box_cells4 Ba
      obtain ⟨Cx0, Cx1, Cx2, Cx3, Fx0, Fx1, Fx2, Fx3⟩ := box_cells4 Bx
      generalize encC o2 = c8 at *
      go_wp2_with fail
      refine (same_any aow7 s1 s2 n1 n2 k1 k2 _ HN1.out.symm HN2.out.symm hb1 hb2).mono ?_
      rintro e9 w9 ⟨rfl, rfl⟩
      go_wp2_with fail
      go_ret
      exact ⟨by first | rfl | simp, hG⟩
    · skip
      obtain ⟨f1, f2⟩ := hne.out
      go_wp2_with fail
      clear Ca0 Ca1 Ca2 Ca3 Fa0 Fa1 Fa2 Fa3 Cx0 Cx1 Cx2 Cx3 Fx0 Fx1 Fx2 Fx3
      refine (known_any aw5 (HTB.out _ hG)).mono ?_
      rintro e apw6 ⟨rfl, gapw6⟩
      replace Ba := heap_kept gapw6 Ba
      replace Bx := heap_kept gapw6 Bx
      replace qa := qa.kept gapw6
      replace yx := yx.kept gapw6
      replace hG := grown_trans hG gapw6
      clear gapw6
      obtain ⟨Ca0, Ca1, Ca2, Ca3, Fa0, Fa1, Fa2, Fa3⟩ := box_cells4 Ba
      obtain ⟨Cx0, Cx1, Cx2, Cx3, Fx0, Fx1, Fx2, Fx3⟩ := box_cells4 Bx
      go_wp2_with fail
      go_ret
      exact ⟨by first | rfl | simp, hG⟩
end Go.Proofs.YtldkddogadmpbaaGreatDoor
namespace Go.Proofs.YtldkddogadmpbaaGreatDoor.RealEncodes
open Go.ChangeShapes Go.WideShapes Go.ChangeAt Go.RowKit Go.ChangeMaps
set_option linter.unusedVariables false
set_option linter.unusedSimpArgs false
set_option maxRecDepth 100000
theorem contract (H : Type) (enc : TypeId × Value → H) (W : World) (base : Nat) (args : Array Value) (ds gs : List (DataW H)) (before : List MemPlace)
    (hval : ∀ (j : Nat) t v, Tryz.f3.params[j]? = some t → args[j]? = some v → Value.okWide Tryz.prog W .any base t v)
    (hW : DataW.Whole enc Tryz.prog Tryz.f3.params.toList Rows.realEncodesSpec.vars false W args.toList ds gs before) (hL : laidMetH Tryz.prog Rows.realEncodesRow.laid W) :
    Calls Tryz.prog 3 args W fun e W' => ∃ v, e = .returned v ∧ Rows.realEncodesSpec.post enc Tryz.prog Tryz.f3 false true false false W args v W' := by
  have hW' := hW
  obtain ⟨p, q, hA0, hV, rfl, hfz, hnd⟩ := hW
  have hA : DataW.TrodAll enc Tryz.prog W 0 (fun _ => true) true Tryz.f3.params.toList args.toList ds p := hA0
  rw [Tryz.params3] at hA hval
  obtain ⟨v0, vs0, d0, ds0, p0, q0, hargs, rfl, rfl, h0, r0⟩ := trodAll_cons hA
  obtain ⟨rfl, rfl, rfl⟩ := trodAll_nil r0
  obtain rfl : args = #[v0] := by cases args; simp_all
  obtain ⟨rfl, rfl⟩ := trodVars_none hV
  obtain ⟨s0, rfl, rfl, rfl, z0⟩ := open_string Tryz.underlying9 (hval 0 9 v0 rfl rfl) h0
  clear hA0
  simp only [List.append_nil] at hW'
  refine (realEncodes_walk W s0 (tab_of hL)).mono fun e W' ⟨he, hg⟩ => ?_
  subst he
  exact ⟨_, rfl, post_plain hW' (fun _ _ _ => trodAll_cons_mk (shut_bool Tryz.underlying4 _) trodAll_mk0) (fun _ => (trodAll_cons_mk (shut_string Tryz.underlying9 z0) trodAll_mk0)) (fun _ => rfl) hg (ok_one (by kernel_rfl) rfl (okWide_bool_mk Tryz.underlying4 _))⟩
theorem laid_met (os : Os) : laidMet Tryz.prog Rows.realEncodesRow.laid ((laidWorld os).forCall (fun _ _ => 0) ⟨#[], #[.string { data := #[] }], []⟩).memory :=
  laidMet_of_run' 80 (by kernel_rfl) (by kernel_rfl)
theorem reads (os : Os) {H : Type} (enc : TypeId × Value → H) : ∃ places, DataW.whole enc Tryz.prog ((laidWorld os).forCall (fun _ _ => 0) ⟨#[], #[.string { data := #[] }], []⟩).memory Tryz.f3.params.toList Rows.realEncodesSpec.vars false #[Value.string { data := #[] }].toList 8 = some ([.lit (.string [])], [], places) :=
  ⟨[], by kernel_rfl⟩
set_option maxRecDepth 100000 in
theorem lifted (os : Os) (started : os.Started) (H : Type) (enc : TypeId × Value → H) (F : Stop.Interp) :
    ReturnsInHanded {} Tryz.checked os 3 .any ((OpenSpec.ofChange Rows.realEncodesSpec).preRow enc Tryz.prog Tryz.f3 Rows.realEncodesRow.domain false Rows.realEncodesRow.laid) (((OpenSpec.ofChange Rows.realEncodesSpec).at F).post enc Tryz.prog Tryz.f3 false true false false) := by
  obtain ⟨places, hx⟩ := reads os enc
  refine returnsInHanded_of_row (C := Tryz.checked) (s := OpenSpec.ofChange Rows.realEncodesSpec) law_own started (by kernel_rfl) Tryz.func3
    (witness_row_at (enc := enc) (C := Tryz.checked) false (laidWorld os) #[.string { data := #[] }] rfl (by kernel_rfl) (by kernel_rfl) (by kernel_rfl)
      (OpenSpec.preRow_of_cond 8 hx (by kernel_rfl) (fun k hk => by cases hk) (by kernel_rfl) (laid_met os))) ?_
  intro W base args ds gs before hval hW _ _ _ hL _ _
  exact contract H enc W base args ds gs before hval hW hL
theorem said : Rows.RealEncodesSaid :=
  OpenClaim.holds_of_cond 3 Tryz.f3 rfl rfl rfl rfl rfl rfl rfl ⟨rfl, rfl, rfl, rfl, rfl⟩ rfl rfl rfl rfl rfl (by kernel_rfl) Tryz.func3 (by kernel_rfl)
    (of_decide_eq_true (by kernel_rfl)) (by unfold Func.isWrapper; first | (rw [if_pos (by decide +kernel)]; kernel_rfl) | (rw [if_neg (by decide +kernel)]; exact ⟨rfl, rfl⟩))
    (fun os started H enc _ F => by rw [OpenClaim.pre_eq_preRow]; exact lifted os started H enc F)
theorem plain (f : FuncId) (fn : Func) (hf : Tryz.pinned.checked.prog.funcNamed "pellicle/pelliclelaw05.RealEncodes" = some f) (hfn : Tryz.pinned.checked.prog.funcs[f]? = some fn) :
    false = Tryz.pinned.checked.prog.looks [] ∧ ∀ (j : Nat) t, fn.params[j]? = some t → Tryz.pinned.checked.prog.wantsStandIn t = false := by
  obtain rfl : f = 3 := Option.some.inj ((show Tryz.prog.funcNamed "pellicle/pelliclelaw05.RealEncodes" = some 3 by kernel_rfl).symm.trans hf) |>.symm
  obtain rfl : fn = Tryz.f3 := (Option.some.inj (Tryz.func3.symm.trans hfn)).symm
  refine ⟨by kernel_rfl, fun j t ht => ?_⟩
  rw [Tryz.params3] at ht
  have ht2 := Array.mem_of_getElem? ht
  simp at ht2
  first | (rcases ht2 with rfl | rfl | rfl) | (rcases ht2 with rfl | rfl) | subst ht2
  all_goals exact (show Tryz.prog.wantsStandIn _ = false by kernel_rfl)
theorem card : Rows.RealEncodesCardSaid :=
  Claim7.holds_tied_plain_at .later [] _ _ _ _ said (fun _ h => by cases h) (by kernel_rfl) (fun _ h => by cases h) realEncodes_row_tie rfl ⟨rfl, rfl⟩ (by kernel_rfl) rfl plain (by kernel_rfl)
end Go.Proofs.YtldkddogadmpbaaGreatDoor.RealEncodes
