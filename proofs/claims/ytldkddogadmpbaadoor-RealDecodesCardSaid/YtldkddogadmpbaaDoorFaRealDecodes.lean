/- RealDecodes: whatever the bytes, the number that they mean, or the error, is the document's: the law returns true and leaves its argument. No condition. -/
import Derived.Deep.RegionHeld3
import Derived.Test.YtldkddogadmpbaaDoorMa22
import Derived.Test.YtldkddogadmpbaaDoorMa25
import Derived.Test.YtldkddogadmpbaaDoorMa26
import Derived.Test.YtldkddogadmpbaaDoorMa14
namespace Go.Proofs.YtldkddogadmpbaaDoor
open Go.RowKit Mat
set_option maxRecDepth 100000
set_option linter.unusedVariables false
set_option linter.unusedSimpArgs false
set_option maxHeartbeats 16000000 in
theorem realDecodes_walk (w : World) (s : Option Addr) (n cap : Nat) (l : List Nat) (hn : l.length = n) (hb : BySl w s l) (hz : s = none → n = 0 ∧ cap = 0) (hr : n ≤ cap) (hc : cap ≤ 9223372036854775807) (hTab : Tab w) :
    Calls Tryd.prog 3 #[.slice s n cap] w (fun e w' => e = .returned (.bool true) ∧ w.grownBy w' none) := by
  have HTB : Hid (∀ W, w.grownBy W none → Tab W) := fun W hW => hTab.kept hW (by simp)
  clear hTab
  have hin : (¬ 64 < n ∧ BIn w s n cap l) ∨ (64 < n ∧ BIn w s 64 cap (l.take 64) ∧ s ≠ none) := by
    by_cases h : 64 < n
    · exact Or.inr ⟨h, BIn.take hn hb hz hr hc 64 (by omega) (by omega), fun e => by have := hz e; omega⟩
    · exact Or.inl ⟨h, hn, hb, hz, by omega, hr, hc⟩
  have hG : w.grownBy w none := grown_refl _ _
  clear hn hb hz
  rcases hin with ⟨h64, HI⟩ | ⟨h64, HI, hs⟩
  · skip
    have hbd := bval_bd HI.by'.2
    obtain ⟨R0, hR0⟩ : ∃ R, bval l = R := ⟨_, rfl⟩
    obtain ⟨c9, hc9⟩ : ∃ c, bcod l = c := ⟨_, rfl⟩
    rw [hR0] at hbd
    have CD : Hid (∀ W g cap', BIn W (some ⟨g, 0, none⟩) n cap' l → Tab W → Calls Tryd.prog 8 #[.slice (some ⟨g, 0, none⟩) n cap'] W (RetRatE W R0 c9)) := fun W g cap' h hT => by have h2 := dec_in W _ _ _ _ h hT; rw [hR0, hc9] at h2; exact h2
    have CR : Hid (∀ W, w.grownBy W none → Calls Tryd.prog 9 #[.slice s n cap] W (RetRQE W R0 60 c9)) := fun W hW => by have h2 := rDec_any W _ _ cap _ HI.len (HI.by'.kept hW) HI.room HI.cap; rw [hR0, hc9] at h2; exact h2
    have CC : Hid (∀ W, w.grownBy W none → Calls Tryd.prog 7 #[.slice s n cap] W (RetCopy W n l)) := fun W hW => copied_in W _ _ cap _ (HI.kept hW)
    have SM : Hid (∀ W g cap', w.grownBy W none → BIn W (some ⟨g, 0, none⟩) n cap' l → Calls Tryd.prog 11 #[.slice s n cap, .slice (some ⟨g, 0, none⟩) n cap'] W (fun e w' => e = .returned (.bool true) ∧ W.grownBy w' none)) := fun W g cap' hW h => same_in W _ _ _ cap cap' _ (HI.kept hW) h
    have HBD := Lib.hid hbd
    clear hbd hR0 hc9
    replace HI := Lib.hid HI
    go_enter Tryd.func3, Tryd.ntmps3
    go_wp2_with fail
    refine (CC.out w hG).mono ?_
    rintro e aw1 ⟨gc, cc, rfl, bc, hgc, gaw1⟩
    replace hG := grown_trans hG gaw1
    clear gaw1
    go_wp2_with fail
    refine (CD.out aw1 _ _ bc (HTB.out _ hG)).mono ?_
    rintro e aw2 ⟨_, rfl, ⟨sa, xa, ba, sa', xa', ba', rfl, ha, ha'⟩, gaw2⟩
    have qa : RatV aw2 (.agg #[.slice sa xa.length xa.length, .bool ba, .slice sa' xa'.length xa'.length, .bool ba']) (R0) := ⟨sa, xa, ba, sa', xa', ba', rfl, ha, ha'⟩
    replace bc := bc.kept gaw2
    replace hG := grown_trans hG gaw2
    clear gaw2
    clear ha ha'
    have gbaw2 := (World.grownBy_alloc aw2 (.cells #[.slice sa xa.length xa.length, .bool ba, .slice sa' xa'.length xa'.length, .bool ba'] 30) none)
    have Ba := (heap_new aw2 (.cells #[.slice sa xa.length xa.length, .bool ba, .slice sa' xa'.length xa'.length, .bool ba'] 30) (aw2.heap.size) rfl)
    have hzaw2 : Hid (w.heap.size ≤ aw2.heap.size) := Lib.hid hG.size
    replace bc := bc.kept gbaw2
    replace qa := qa.kept gbaw2
    replace hG := grown_trans hG gbaw2
    clear gbaw2
    obtain ⟨Ca0, Ca1, Ca2, Ca3, Fa0, Fa1, Fa2, Fa3⟩ := box_cells4 Ba
    go_wp2_with fail
    generalize (aw2.alloc (.cells #[.slice sa xa.length xa.length, .bool ba, .slice sa' xa'.length xa'.length, .bool ba'] 30)) = aw3 at *
    generalize aw2.heap.size = aaw2 at *
    replace hzaw2 := hzaw2.out
    clear Ca0 Ca1 Ca2 Ca3 Fa0 Fa1 Fa2 Fa3
    refine (CR.out aw3 hG).mono ?_
    rintro e aw4 ⟨_, rfl, ⟨gx, sx, lx, cx, gx', sx', lx', cx', nx, dx, rfl, hx, hx', ux⟩, gaw4⟩
    have yx : RQ aw4 (.agg #[.int .i64 gx, .slice sx lx cx, .int .i64 gx', .slice sx' lx' cx']) R0 60 := ⟨gx, sx, lx, cx, gx', sx', lx', cx', nx, dx, rfl, hx, hx', ux⟩
    replace Ba := heap_kept gaw4 Ba
    replace bc := bc.kept gaw4
    replace qa := qa.kept gaw4
    replace hG := grown_trans hG gaw4
    clear gaw4
    clear hx hx'
    obtain ⟨Ca0, Ca1, Ca2, Ca3, Fa0, Fa1, Fa2, Fa3⟩ := box_cells4 Ba
    have gbaw4 := (World.grownBy_alloc aw4 (.cells #[.int .i64 gx, .slice sx lx cx, .int .i64 gx', .slice sx' lx' cx'] 40) none)
    have Bx := (heap_new aw4 (.cells #[.int .i64 gx, .slice sx lx cx, .int .i64 gx', .slice sx' lx' cx'] 40) (aw4.heap.size) rfl)
    have hzaw4 : Hid (w.heap.size ≤ aw4.heap.size) := Lib.hid hG.size
    have hlaaw4 : Hid (aaw2 < aw4.heap.size) := Lib.hid (Array.getElem?_eq_some_iff.1 Ba).1
    clear Ca0 Ca1 Ca2 Ca3 Fa0 Fa1 Fa2 Fa3
    replace Ba := heap_kept gbaw4 Ba
    replace bc := bc.kept gbaw4
    replace qa := qa.kept gbaw4
    replace yx := yx.kept gbaw4
    replace hG := grown_trans hG gbaw4
    clear gbaw4
    obtain ⟨Ca0, Ca1, Ca2, Ca3, Fa0, Fa1, Fa2, Fa3⟩ := box_cells4 Ba
    obtain ⟨Cx0, Cx1, Cx2, Cx3, Fx0, Fx1, Fx2, Fx3⟩ := box_cells4 Bx
    go_wp2_with fail
    generalize (aw4.alloc (.cells #[.int .i64 gx, .slice sx lx cx, .int .i64 gx', .slice sx' lx' cx'] 40)) = aw5 at *
    generalize aw4.heap.size = aaw4 at *
    replace hzaw4 := hzaw4.out
    replace hlaaw4 := hlaaw4.out
    have HTr : Hid (∀ W, aw5.grownBy W none → Tab W) := fun W hW => HTB.out _ (grown_trans hG hW)
    go_region_held3 (fun w' => w'.cell? ⟨aaw2, 0, none⟩ = some (.slice sa xa.length xa.length) ∧ w'.cell? ⟨aaw2, 1, none⟩ = some (.bool ba) ∧ w'.cell? ⟨aaw2, 2, none⟩ = some (.slice sa' xa'.length xa'.length) ∧ w'.cell? ⟨aaw2, 3, none⟩ = some (.bool ba') ∧ w'.cell? ⟨aaw4, 0, none⟩ = some (.int .i64 gx) ∧ w'.cell? ⟨aaw4, 1, none⟩ = some (.slice sx lx cx) ∧ w'.cell? ⟨aaw4, 2, none⟩ = some (.int .i64 gx') ∧ w'.cell? ⟨aaw4, 3, none⟩ = some (.slice sx' lx' cx'))
      (first | assumption | exact ⟨Ca0, Ca1, Ca2, Ca3, Cx0, Cx1, Cx2, Cx3⟩ | go_keep)
      (first
        | (go_at_call 10; (with_reducible refine (known_any aw5.drew (HTr.out _ (grown_drew (grown_refl _ _)))).mono ?_); rintro e aw6_1 ⟨rfl, gaw6_1⟩; have hGaw6_1 := grown_pre aw5 gaw6_1 rfl rfl rfl rfl; have hSaw6_1 := (And.intro (hGaw6_1.cell Ca0 (by simp)) (And.intro (hGaw6_1.cell Ca1 (by simp)) (And.intro (hGaw6_1.cell Ca2 (by simp)) (And.intro (hGaw6_1.cell Ca3 (by simp)) (And.intro (hGaw6_1.cell Cx0 (by simp)) (And.intro (hGaw6_1.cell Cx1 (by simp)) (And.intro (hGaw6_1.cell Cx2 (by simp)) (hGaw6_1.cell Cx3 (by simp))))))))); clear gaw6_1)
        | (go_at_call 11; (with_reducible refine (SM.out aw6_1 _ _ (grown_trans hG hGaw6_1) (bc.kept hGaw6_1)).mono ?_); rintro e aw6_2 ⟨rfl, gaw6_2⟩; have hGaw6_2 := grown_trans hGaw6_1 gaw6_2; have hSaw6_2 := (And.intro (hGaw6_2.cell Ca0 (by simp)) (And.intro (hGaw6_2.cell Ca1 (by simp)) (And.intro (hGaw6_2.cell Ca2 (by simp)) (And.intro (hGaw6_2.cell Ca3 (by simp)) (And.intro (hGaw6_2.cell Cx0 (by simp)) (And.intro (hGaw6_2.cell Cx1 (by simp)) (And.intro (hGaw6_2.cell Cx2 (by simp)) (hGaw6_2.cell Cx3 (by simp))))))))); clear gaw6_2)
        | (go_at_call 12; (with_reducible refine (FText_any aw6_2 _ R0 5 (qa.kept hGaw6_2) (by omega) HBD.out.1 HBD.out.2).mono ?_); rintro e aw6_3 ⟨x1, rfl, hx1, gaw6_3⟩; have hGaw6_3 := grown_trans hGaw6_2 gaw6_3; have hSaw6_3 := (And.intro (hGaw6_3.cell Ca0 (by simp)) (And.intro (hGaw6_3.cell Ca1 (by simp)) (And.intro (hGaw6_3.cell Ca2 (by simp)) (And.intro (hGaw6_3.cell Ca3 (by simp)) (And.intro (hGaw6_3.cell Cx0 (by simp)) (And.intro (hGaw6_3.cell Cx1 (by simp)) (And.intro (hGaw6_3.cell Cx2 (by simp)) (hGaw6_3.cell Cx3 (by simp))))))))); clear gaw6_3)
        | (go_at_call 13; (with_reducible refine (rQText_any aw6_3 _ R0 60 (yx.kept hGaw6_3) (by omega)).mono ?_); rintro e aw6_4 ⟨x2, rfl, hx2, gaw6_4⟩; obtain rfl := rtext_uniq hx2 hx1; have hGaw6_4 := grown_trans hGaw6_3 gaw6_4; have hSaw6_4 := (And.intro (hGaw6_4.cell Ca0 (by simp)) (And.intro (hGaw6_4.cell Ca1 (by simp)) (And.intro (hGaw6_4.cell Ca2 (by simp)) (And.intro (hGaw6_4.cell Ca3 (by simp)) (And.intro (hGaw6_4.cell Cx0 (by simp)) (And.intro (hGaw6_4.cell Cx1 (by simp)) (And.intro (hGaw6_4.cell Cx2 (by simp)) (hGaw6_4.cell Cx3 (by simp))))))))); clear gaw6_4))
    replace Ba := heap_kept hGaw6_4 Ba
    replace Bx := heap_kept hGaw6_4 Bx
    replace bc := bc.kept hGaw6_4
    replace qa := qa.kept hGaw6_4
    replace yx := yx.kept hGaw6_4
    replace hG := grown_trans hG hGaw6_4
    clear Ca0 Ca1 Ca2 Ca3 Fa0 Fa1 Fa2 Fa3 Cx0 Cx1 Cx2 Cx3 Fx0 Fx1 Fx2 Fx3
    go_wp2_with fail
    go_ret
    exact ⟨by first | rfl | simp, hG⟩
  · skip
    obtain ⟨a0, rfl⟩ := Option.ne_none_iff_exists'.1 hs
    clear hs
    have hbd := bval_bd HI.by'.2
    obtain ⟨R0, hR0⟩ : ∃ R, bval (l.take 64) = R := ⟨_, rfl⟩
    obtain ⟨c9, hc9⟩ : ∃ c, bcod (l.take 64) = c := ⟨_, rfl⟩
    rw [hR0] at hbd
    have CD : Hid (∀ W g cap', BIn W (some ⟨g, 0, none⟩) 64 cap' (l.take 64) → Tab W → Calls Tryd.prog 8 #[.slice (some ⟨g, 0, none⟩) 64 cap'] W (RetRatE W R0 c9)) := fun W g cap' h hT => by have h2 := dec_in W _ _ _ _ h hT; rw [hR0, hc9] at h2; exact h2
    have CR : Hid (∀ W, w.grownBy W none → Calls Tryd.prog 9 #[.slice (some a0) 64 cap] W (RetRQE W R0 60 c9)) := fun W hW => by have h2 := rDec_any W _ _ cap _ HI.len (HI.by'.kept hW) HI.room HI.cap; rw [hR0, hc9] at h2; exact h2
    have CC : Hid (∀ W, w.grownBy W none → Calls Tryd.prog 7 #[.slice (some a0) 64 cap] W (RetCopy W 64 (l.take 64))) := fun W hW => copied_in W _ _ cap _ (HI.kept hW)
    have SM : Hid (∀ W g cap', w.grownBy W none → BIn W (some ⟨g, 0, none⟩) 64 cap' (l.take 64) → Calls Tryd.prog 11 #[.slice (some a0) 64 cap, .slice (some ⟨g, 0, none⟩) 64 cap'] W (fun e w' => e = .returned (.bool true) ∧ W.grownBy w' none)) := fun W g cap' hW h => same_in W _ _ _ cap cap' _ (HI.kept hW) h
    have HBD := Lib.hid hbd
    clear hbd hR0 hc9
    replace HI := Lib.hid HI
    generalize hL9 : l.take 64 = l9 at *
    clear hL9
    go_enter Tryd.func3, Tryd.ntmps3
    go_wp2_with fail
    refine (CC.out w hG).mono ?_
    rintro e bw1 ⟨gc, cc, rfl, bc, hgc, gbw1⟩
    replace hG := grown_trans hG gbw1
    clear gbw1
    go_wp2_with fail
    refine (CD.out bw1 _ _ bc (HTB.out _ hG)).mono ?_
    rintro e bw2 ⟨_, rfl, ⟨sa, xa, ba, sa', xa', ba', rfl, ha, ha'⟩, gbw2⟩
    have qa : RatV bw2 (.agg #[.slice sa xa.length xa.length, .bool ba, .slice sa' xa'.length xa'.length, .bool ba']) (R0) := ⟨sa, xa, ba, sa', xa', ba', rfl, ha, ha'⟩
    replace bc := bc.kept gbw2
    replace hG := grown_trans hG gbw2
    clear gbw2
    clear ha ha'
    have gbbw2 := (World.grownBy_alloc bw2 (.cells #[.slice sa xa.length xa.length, .bool ba, .slice sa' xa'.length xa'.length, .bool ba'] 30) none)
    have Ba := (heap_new bw2 (.cells #[.slice sa xa.length xa.length, .bool ba, .slice sa' xa'.length xa'.length, .bool ba'] 30) (bw2.heap.size) rfl)
    have hzbw2 : Hid (w.heap.size ≤ bw2.heap.size) := Lib.hid hG.size
    replace bc := bc.kept gbbw2
    replace qa := qa.kept gbbw2
    replace hG := grown_trans hG gbbw2
    clear gbbw2
    obtain ⟨Ca0, Ca1, Ca2, Ca3, Fa0, Fa1, Fa2, Fa3⟩ := box_cells4 Ba
    go_wp2_with fail
    generalize (bw2.alloc (.cells #[.slice sa xa.length xa.length, .bool ba, .slice sa' xa'.length xa'.length, .bool ba'] 30)) = bw3 at *
    generalize bw2.heap.size = abw2 at *
    replace hzbw2 := hzbw2.out
    clear Ca0 Ca1 Ca2 Ca3 Fa0 Fa1 Fa2 Fa3
    refine (CR.out bw3 hG).mono ?_
    rintro e bw4 ⟨_, rfl, ⟨gx, sx, lx, cx, gx', sx', lx', cx', nx, dx, rfl, hx, hx', ux⟩, gbw4⟩
    have yx : RQ bw4 (.agg #[.int .i64 gx, .slice sx lx cx, .int .i64 gx', .slice sx' lx' cx']) R0 60 := ⟨gx, sx, lx, cx, gx', sx', lx', cx', nx, dx, rfl, hx, hx', ux⟩
    replace Ba := heap_kept gbw4 Ba
    replace bc := bc.kept gbw4
    replace qa := qa.kept gbw4
    replace hG := grown_trans hG gbw4
    clear gbw4
    clear hx hx'
    obtain ⟨Ca0, Ca1, Ca2, Ca3, Fa0, Fa1, Fa2, Fa3⟩ := box_cells4 Ba
    have gbbw4 := (World.grownBy_alloc bw4 (.cells #[.int .i64 gx, .slice sx lx cx, .int .i64 gx', .slice sx' lx' cx'] 40) none)
    have Bx := (heap_new bw4 (.cells #[.int .i64 gx, .slice sx lx cx, .int .i64 gx', .slice sx' lx' cx'] 40) (bw4.heap.size) rfl)
    have hzbw4 : Hid (w.heap.size ≤ bw4.heap.size) := Lib.hid hG.size
    have hlabw4 : Hid (abw2 < bw4.heap.size) := Lib.hid (Array.getElem?_eq_some_iff.1 Ba).1
    clear Ca0 Ca1 Ca2 Ca3 Fa0 Fa1 Fa2 Fa3
    replace Ba := heap_kept gbbw4 Ba
    replace bc := bc.kept gbbw4
    replace qa := qa.kept gbbw4
    replace yx := yx.kept gbbw4
    replace hG := grown_trans hG gbbw4
    clear gbbw4
    obtain ⟨Ca0, Ca1, Ca2, Ca3, Fa0, Fa1, Fa2, Fa3⟩ := box_cells4 Ba
    obtain ⟨Cx0, Cx1, Cx2, Cx3, Fx0, Fx1, Fx2, Fx3⟩ := box_cells4 Bx
    go_wp2_with fail
    generalize (bw4.alloc (.cells #[.int .i64 gx, .slice sx lx cx, .int .i64 gx', .slice sx' lx' cx'] 40)) = bw5 at *
    generalize bw4.heap.size = abw4 at *
    replace hzbw4 := hzbw4.out
    replace hlabw4 := hlabw4.out
    have HTr : Hid (∀ W, bw5.grownBy W none → Tab W) := fun W hW => HTB.out _ (grown_trans hG hW)
    go_region_held3 (fun w' => w'.cell? ⟨abw2, 0, none⟩ = some (.slice sa xa.length xa.length) ∧ w'.cell? ⟨abw2, 1, none⟩ = some (.bool ba) ∧ w'.cell? ⟨abw2, 2, none⟩ = some (.slice sa' xa'.length xa'.length) ∧ w'.cell? ⟨abw2, 3, none⟩ = some (.bool ba') ∧ w'.cell? ⟨abw4, 0, none⟩ = some (.int .i64 gx) ∧ w'.cell? ⟨abw4, 1, none⟩ = some (.slice sx lx cx) ∧ w'.cell? ⟨abw4, 2, none⟩ = some (.int .i64 gx') ∧ w'.cell? ⟨abw4, 3, none⟩ = some (.slice sx' lx' cx'))
      (first | assumption | exact ⟨Ca0, Ca1, Ca2, Ca3, Cx0, Cx1, Cx2, Cx3⟩ | go_keep)
      (first
        | (go_at_call 10; (with_reducible refine (known_any bw5.drew (HTr.out _ (grown_drew (grown_refl _ _)))).mono ?_); rintro e bw6_1 ⟨rfl, gbw6_1⟩; have hGbw6_1 := grown_pre bw5 gbw6_1 rfl rfl rfl rfl; have hSbw6_1 := (And.intro (hGbw6_1.cell Ca0 (by simp)) (And.intro (hGbw6_1.cell Ca1 (by simp)) (And.intro (hGbw6_1.cell Ca2 (by simp)) (And.intro (hGbw6_1.cell Ca3 (by simp)) (And.intro (hGbw6_1.cell Cx0 (by simp)) (And.intro (hGbw6_1.cell Cx1 (by simp)) (And.intro (hGbw6_1.cell Cx2 (by simp)) (hGbw6_1.cell Cx3 (by simp))))))))); clear gbw6_1)
        | (go_at_call 11; (with_reducible refine (SM.out bw6_1 _ _ (grown_trans hG hGbw6_1) (bc.kept hGbw6_1)).mono ?_); rintro e bw6_2 ⟨rfl, gbw6_2⟩; have hGbw6_2 := grown_trans hGbw6_1 gbw6_2; have hSbw6_2 := (And.intro (hGbw6_2.cell Ca0 (by simp)) (And.intro (hGbw6_2.cell Ca1 (by simp)) (And.intro (hGbw6_2.cell Ca2 (by simp)) (And.intro (hGbw6_2.cell Ca3 (by simp)) (And.intro (hGbw6_2.cell Cx0 (by simp)) (And.intro (hGbw6_2.cell Cx1 (by simp)) (And.intro (hGbw6_2.cell Cx2 (by simp)) (hGbw6_2.cell Cx3 (by simp))))))))); clear gbw6_2)
        | (go_at_call 12; (with_reducible refine (FText_any bw6_2 _ R0 5 (qa.kept hGbw6_2) (by omega) HBD.out.1 HBD.out.2).mono ?_); rintro e bw6_3 ⟨x1, rfl, hx1, gbw6_3⟩; have hGbw6_3 := grown_trans hGbw6_2 gbw6_3; have hSbw6_3 := (And.intro (hGbw6_3.cell Ca0 (by simp)) (And.intro (hGbw6_3.cell Ca1 (by simp)) (And.intro (hGbw6_3.cell Ca2 (by simp)) (And.intro (hGbw6_3.cell Ca3 (by simp)) (And.intro (hGbw6_3.cell Cx0 (by simp)) (And.intro (hGbw6_3.cell Cx1 (by simp)) (And.intro (hGbw6_3.cell Cx2 (by simp)) (hGbw6_3.cell Cx3 (by simp))))))))); clear gbw6_3)
        | (go_at_call 13; (with_reducible refine (rQText_any bw6_3 _ R0 60 (yx.kept hGbw6_3) (by omega)).mono ?_); rintro e bw6_4 ⟨x2, rfl, hx2, gbw6_4⟩; obtain rfl := rtext_uniq hx2 hx1; have hGbw6_4 := grown_trans hGbw6_3 gbw6_4; have hSbw6_4 := (And.intro (hGbw6_4.cell Ca0 (by simp)) (And.intro (hGbw6_4.cell Ca1 (by simp)) (And.intro (hGbw6_4.cell Ca2 (by simp)) (And.intro (hGbw6_4.cell Ca3 (by simp)) (And.intro (hGbw6_4.cell Cx0 (by simp)) (And.intro (hGbw6_4.cell Cx1 (by simp)) (And.intro (hGbw6_4.cell Cx2 (by simp)) (hGbw6_4.cell Cx3 (by simp))))))))); clear gbw6_4))
    replace Ba := heap_kept hGbw6_4 Ba
    replace Bx := heap_kept hGbw6_4 Bx
    replace bc := bc.kept hGbw6_4
    replace qa := qa.kept hGbw6_4
    replace yx := yx.kept hGbw6_4
    replace hG := grown_trans hG hGbw6_4
    clear Ca0 Ca1 Ca2 Ca3 Fa0 Fa1 Fa2 Fa3 Cx0 Cx1 Cx2 Cx3 Fx0 Fx1 Fx2 Fx3
    go_wp2_with fail
    go_ret
    exact ⟨by first | rfl | simp, hG⟩
end Go.Proofs.YtldkddogadmpbaaDoor
namespace Go.Proofs.YtldkddogadmpbaaDoor.RealDecodes
open Go.ChangeShapes Go.WideShapes Go.ChangeAt Go.RowKit Go.ChangeMaps Go.Deep
set_option linter.unusedVariables false
set_option linter.unusedSimpArgs false
set_option maxRecDepth 100000
theorem contract (H : Type) (enc : TypeId × Value → H) (W : World) (base : Nat) (args : Array Value) (ds gs : List (DataW H)) (before : List MemPlace)
    (hval : ∀ (j : Nat) t v, Tryd.f3.params[j]? = some t → args[j]? = some v → Value.okWide Tryd.prog W .any base t v)
    (hW : DataW.Whole enc Tryd.prog Tryd.f3.params.toList Rows.realDecodesSpec.vars false W args.toList ds gs before) (hL : laidMetH Tryd.prog Rows.realDecodesRow.laid W) :
    Calls Tryd.prog 3 args W fun e W' => ∃ v, e = .returned v ∧ Rows.realDecodesSpec.post enc Tryd.prog Tryd.f3 false true false false W args v W' := by
  have hW' := hW
  obtain ⟨p, q, hA0, hV, rfl, hfz, hnd⟩ := hW
  have hA : DataW.TrodAll enc Tryd.prog W 0 (fun _ => true) true Tryd.f3.params.toList args.toList ds p := hA0
  rw [Tryd.params3] at hA hval
  obtain ⟨v0, vs0, d0, ds0, p0, q0, hargs, rfl, rfl, h0, r0⟩ := trodAll_cons hA
  obtain ⟨rfl, rfl, rfl⟩ := trodAll_nil r0
  obtain rfl : args = #[v0] := by cases args; simp_all
  obtain ⟨rfl, rfl⟩ := trodVars_none hV
  simp only [List.append_nil] at hW' hfz
  have hlt : ∀ p ∈ p0, p.block < W.heap.size := fun p hp => by
    have := DataW.TrodAll.lt hA p (by simp [hp])
    exact this
  obtain ⟨a0, len, cap, rfl⟩ := okWide_slice Tryd.underlying22 (hval 0 22 v0 rfl rfl)
  obtain ⟨l, hl1, hl2, hl3, hl4, hl5⟩ := open_by h0
  clear hA0
  refine (realDecodes_walk W a0 len cap l hl1 hl2 hl3 hl4 hl5 (tab_of hL)).mono fun e W' ⟨he, hg⟩ => ?_
  subst he
  have hstay : ∀ sp : Nat → Bool, (∀ p ∈ p0, sp p.block = true) → DataW.Trod enc Tryd.prog W' 0 sp true 22 (.slice a0 len cap) d0 p0 := fun sp hsp =>
    Go.WideElems.Trod_stays (by kernel_rfl) (by kernel_rfl) (of_decide_eq_true (by kernel_rfl)) h0 (fun p hp => grown_same hg (hlt p hp)) hsp
  exact ⟨_, rfl, post_places hW' hlt (fun _ _ _ => trodAll_cons_mk (shut_bool Tryd.underlying4 _) trodAll_mk0) (fun sp hsp => by
    have := trodAll_cons_mk (hstay sp hsp) trodAll_mk0
    rw [List.append_nil] at this
    exact this) (fun _ => rfl) hg (ok_one (by kernel_rfl) rfl (okWide_bool_mk Tryd.underlying4 _))⟩
theorem laid_met (os : Os) : laidMet Tryd.prog Rows.realDecodesRow.laid ((laidWorld os).forCall (fun _ _ => 0) ⟨#[], #[.slice none 0 0], []⟩).memory :=
  laidMet_of_run' 80 (by kernel_rfl) (by kernel_rfl)
theorem reads (os : Os) {H : Type} (enc : TypeId × Value → H) : ∃ places, DataW.whole enc Tryd.prog ((laidWorld os).forCall (fun _ _ => 0) ⟨#[], #[.slice none 0 0], []⟩).memory Tryd.f3.params.toList Rows.realDecodesSpec.vars false #[Value.slice none 0 0].toList 8 = some ([.nil], [], places) :=
  ⟨[], by kernel_rfl⟩
set_option maxRecDepth 100000 in
theorem lifted (os : Os) (started : os.Started) (H : Type) (enc : TypeId × Value → H) (F : Stop.Interp) :
    ReturnsInHanded {} Tryd.checked os 3 .any ((OpenSpec.ofChange Rows.realDecodesSpec).preRow enc Tryd.prog Tryd.f3 Rows.realDecodesRow.domain false Rows.realDecodesRow.laid) (((OpenSpec.ofChange Rows.realDecodesSpec).at F).post enc Tryd.prog Tryd.f3 false true false false) := by
  obtain ⟨places, hx⟩ := reads os enc
  refine returnsInHanded_of_row (C := Tryd.checked) (s := OpenSpec.ofChange Rows.realDecodesSpec) law_own started (by kernel_rfl) Tryd.func3
    (witness_row_at (enc := enc) (C := Tryd.checked) false (laidWorld os) #[.slice none 0 0] rfl (by kernel_rfl) (by kernel_rfl) (by kernel_rfl)
      (OpenSpec.preRow_of_cond 8 hx (by kernel_rfl) (fun k hk => by cases hk) (by kernel_rfl) (laid_met os))) ?_
  intro W base args ds gs before hval hW _ _ _ hL _ _
  exact contract H enc W base args ds gs before hval hW hL
theorem said : Rows.RealDecodesSaid :=
  OpenClaim.holds_of_cond 3 Tryd.f3 rfl rfl rfl rfl rfl rfl rfl ⟨rfl, rfl, rfl, rfl, rfl⟩ rfl rfl rfl rfl rfl (by kernel_rfl) Tryd.func3 (by kernel_rfl)
    (of_decide_eq_true (by kernel_rfl)) (by unfold Func.isWrapper; first | (rw [if_pos (by decide +kernel)]; kernel_rfl) | (rw [if_neg (by decide +kernel)]; exact ⟨rfl, rfl⟩))
    (fun os started H enc _ F => by rw [OpenClaim.pre_eq_preRow]; exact lifted os started H enc F)
theorem plain (f : FuncId) (fn : Func) (hf : Tryd.pinned.checked.prog.funcNamed "pellicle/pelliclelaw05.RealDecodes" = some f) (hfn : Tryd.pinned.checked.prog.funcs[f]? = some fn) :
    false = Tryd.pinned.checked.prog.looks [] ∧ ∀ (j : Nat) t, fn.params[j]? = some t → Tryd.pinned.checked.prog.wantsStandIn t = false := by
  obtain rfl : f = 3 := Option.some.inj ((show Tryd.prog.funcNamed "pellicle/pelliclelaw05.RealDecodes" = some 3 by kernel_rfl).symm.trans hf) |>.symm
  obtain rfl : fn = Tryd.f3 := (Option.some.inj (Tryd.func3.symm.trans hfn)).symm
  refine ⟨by kernel_rfl, fun j t ht => ?_⟩
  rw [Tryd.params3] at ht
  have ht2 := Array.mem_of_getElem? ht
  simp at ht2
  first | (rcases ht2 with rfl | rfl | rfl) | (rcases ht2 with rfl | rfl) | subst ht2
  all_goals exact (show Tryd.prog.wantsStandIn _ = false by kernel_rfl)
theorem card : Rows.RealDecodesCardSaid :=
  Claim7.holds_tied_plain_at .later [] _ _ _ _ said (fun _ h => by cases h) (by kernel_rfl) (fun _ h => by cases h) realDecodes_row_tie rfl ⟨rfl, rfl⟩ (by kernel_rfl) rfl plain (by kernel_rfl)
end Go.Proofs.YtldkddogadmpbaaDoor.RealDecodes
