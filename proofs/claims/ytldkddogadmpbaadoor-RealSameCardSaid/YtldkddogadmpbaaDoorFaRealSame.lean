/- RealSame: whatever the two rows of bytes, whether they mean the same is what the document says: the law returns true and leaves its arguments. No condition. -/
import Derived.Deep.RegionHeld3
import Derived.Test.YtldkddogadmpbaaDoorMa22
import Derived.Test.YtldkddogadmpbaaDoorMa25
import Derived.Test.YtldkddogadmpbaaDoorMa14
import Derived.Test.YtldkddogadmpbaaDoorMa26
namespace Go.Proofs.YtldkddogadmpbaaDoor
open Go.RowKit Mat
set_option maxRecDepth 100000
set_option linter.unusedVariables false
set_option linter.unusedSimpArgs false
theorem sameB_of {l k : List Nat} : (bcod l = 0 ∧ bcod k = 0 ∧ rcmp (bval l) (bval k) = 0 ∧ sameB l k = true) ∨ (bcod l = 0 ∧ bcod k = 0 ∧ Hid (rcmp (bval l) (bval k) ≠ 0) ∧ sameB l k = false) ∨ (bcod l = 0 ∧ bcod k = 3 ∧ sameB l k = false) ∨ (bcod l = 3 ∧ sameB l k = false) := by
  unfold bcod sameB
  by_cases h1 : l.length = 8
  · by_cases h2 : k.length = 8
    · by_cases h3 : rcmp (bval l) (bval k) = 0
      · left; simp [h1, h2, h3]
      · right; left; exact ⟨by simp [h1], by simp [h2], h3, by simp [h1, h2, h3]⟩
    · right; right; left; simp [h1, h2]
  · right; right; right; simp [h1]
set_option maxHeartbeats 16000000 in
theorem realSame_walk (w : World) (s t : Option Addr) (n m cap cap' : Nat) (l k : List Nat) (hn : l.length = n) (hb : BySl w s l) (hz : s = none → n = 0 ∧ cap = 0) (hr : n ≤ cap) (hc : cap ≤ 9223372036854775807) (hm : k.length = m) (kb : BySl w t k) (kz : t = none → m = 0 ∧ cap' = 0) (kr : m ≤ cap') (kc : cap' ≤ 9223372036854775807) (hTab : Tab w) :
    Calls Tryd.prog 5 #[.slice s n cap, .slice t m cap'] w (fun e w' => e = .returned (.bool true) ∧ w.grownBy w' none) := by
  have HTB : Hid (∀ W, w.grownBy W none → Tab W) := fun W hW => hTab.kept hW (by simp)
  clear hTab
  have hin : (¬ 64 < n ∧ BIn w s n cap l) ∨ (64 < n ∧ BIn w s 64 cap (l.take 64) ∧ s ≠ none) := by
    by_cases h : 64 < n
    · exact Or.inr ⟨h, BIn.take hn hb hz hr hc 64 (by omega) (by omega), fun e => by have := hz e; omega⟩
    · exact Or.inl ⟨h, hn, hb, hz, by omega, hr, hc⟩
  have kin : (¬ 64 < m ∧ BIn w t m cap' k) ∨ (64 < m ∧ BIn w t 64 cap' (k.take 64) ∧ t ≠ none) := by
    by_cases h : 64 < m
    · exact Or.inr ⟨h, BIn.take hm kb kz kr kc 64 (by omega) (by omega), fun e => by have := kz e; omega⟩
    · exact Or.inl ⟨h, hm, kb, kz, by omega, kr, kc⟩
  have hG : w.grownBy w none := grown_refl _ _
  clear hn hb hz hm kb kz
  rcases hin with ⟨h64, HI⟩ | ⟨h64, HI, hs⟩
  · skip
    rcases kin with ⟨k64, KI⟩ | ⟨k64, KI, kt⟩
    · skip
      have hcc := @sameB_of l k
      have hb1 := bval_bd HI.by'.2; have hb2 := bval_bd KI.by'.2
      obtain ⟨x, hx⟩ : ∃ x, bval l = x := ⟨_, rfl⟩; obtain ⟨y, hy⟩ : ∃ y, bval k = y := ⟨_, rfl⟩; obtain ⟨cx, hcx⟩ : ∃ c, bcod l = c := ⟨_, rfl⟩; obtain ⟨cy, hcy⟩ : ∃ c, bcod k = c := ⟨_, rfl⟩; obtain ⟨b0, hb0⟩ : ∃ b, sameB l k = b := ⟨_, rfl⟩
      obtain ⟨q, hq⟩ : ∃ q, rcmp x y = q := ⟨_, rfl⟩
      rw [hx, hy, hcx, hcy, hb0, hq] at hcc
      have CX : Hid (∀ W, w.grownBy W none → Calls Tryd.prog 9 #[.slice s n cap] W (RetRQE W x 60 cx)) := fun W hW => by have h2 := rDec_any W _ _ cap _ HI.len (HI.by'.kept hW) HI.room HI.cap; rw [hx, hcx] at h2; exact h2
      have CY : Hid (∀ W, w.grownBy W none → Calls Tryd.prog 9 #[.slice t m cap'] W (RetRQE W y 60 cy)) := fun W hW => by have h2 := rDec_any W _ _ cap' _ KI.len (KI.by'.kept hW) KI.room KI.cap; rw [hy, hcy] at h2; exact h2
      have SM : Hid (∀ W, w.grownBy W none → Calls Tryd.prog 17 #[.slice s n cap, .slice t m cap'] W (RetB W b0)) := fun W hW => by have h2 := Same_any W _ _ _ _ cap cap' _ _ HI.len KI.len (HI.by'.kept hW) (KI.by'.kept hW) HI.room HI.cap KI.room KI.cap (HTB.out W hW); rw [hb0] at h2; exact h2
      have QC : Hid (∀ W v u, RQ W v x 60 → RQ W u y 60 → Calls Tryd.prog 18 #[v, u] W (fun e w' => e = .returned (.int .i64 q) ∧ W.grownBy w' none)) := fun W v u h1 h2 => by have h := rQCmp_any W v u x y 60 60 h1 h2 (by omega); rw [hq] at h; exact h
      have HCC := Lib.hid hcc
      clear hcc hb1 hb2 hx hy hcx hcy hb0 hq
      replace HI := Lib.hid HI; replace KI := Lib.hid KI
      go_enter Tryd.func5, Tryd.ntmps5
      go_wp2_with fail
      refine (CX.out w hG).mono ?_
      rintro e acw1 ⟨_, rfl, ⟨ga, sa, la, ca, ga', sa', la', ca', na, da, rfl, ha, ha', ua⟩, gacw1⟩
      have ya : RQ acw1 (.agg #[.int .i64 ga, .slice sa la ca, .int .i64 ga', .slice sa' la' ca']) x 60 := ⟨ga, sa, la, ca, ga', sa', la', ca', na, da, rfl, ha, ha', ua⟩
      replace hG := grown_trans hG gacw1
      clear gacw1
      clear ha ha'
      have gbacw1 := (World.grownBy_alloc acw1 (.cells #[.int .i64 ga, .slice sa la ca, .int .i64 ga', .slice sa' la' ca'] 40) none)
      have Ba := (heap_new acw1 (.cells #[.int .i64 ga, .slice sa la ca, .int .i64 ga', .slice sa' la' ca'] 40) (acw1.heap.size) rfl)
      have hzacw1 : Hid (w.heap.size ≤ acw1.heap.size) := Lib.hid hG.size
      replace ya := ya.kept gbacw1
      replace hG := grown_trans hG gbacw1
      clear gbacw1
      obtain ⟨Ca0, Ca1, Ca2, Ca3, Fa0, Fa1, Fa2, Fa3⟩ := box_cells4 Ba
      go_wp2_with fail
      generalize (acw1.alloc (.cells #[.int .i64 ga, .slice sa la ca, .int .i64 ga', .slice sa' la' ca'] 40)) = acw2 at *
      generalize acw1.heap.size = aacw1 at *
      replace hzacw1 := hzacw1.out
      clear Ca0 Ca1 Ca2 Ca3 Fa0 Fa1 Fa2 Fa3
      refine (CY.out acw2 hG).mono ?_
      rintro e acw3 ⟨_, rfl, ⟨gb, sb, lb, cb, gb', sb', lb', cb', nb, db, rfl, hb, hb', ub⟩, gacw3⟩
      have yb : RQ acw3 (.agg #[.int .i64 gb, .slice sb lb cb, .int .i64 gb', .slice sb' lb' cb']) y 60 := ⟨gb, sb, lb, cb, gb', sb', lb', cb', nb, db, rfl, hb, hb', ub⟩
      replace Ba := heap_kept gacw3 Ba
      replace ya := ya.kept gacw3
      replace hG := grown_trans hG gacw3
      clear gacw3
      clear hb hb'
      obtain ⟨Ca0, Ca1, Ca2, Ca3, Fa0, Fa1, Fa2, Fa3⟩ := box_cells4 Ba
      have gbacw3 := (World.grownBy_alloc acw3 (.cells #[.int .i64 gb, .slice sb lb cb, .int .i64 gb', .slice sb' lb' cb'] 40) none)
      have Bb := (heap_new acw3 (.cells #[.int .i64 gb, .slice sb lb cb, .int .i64 gb', .slice sb' lb' cb'] 40) (acw3.heap.size) rfl)
      have hzacw3 : Hid (w.heap.size ≤ acw3.heap.size) := Lib.hid hG.size
      have hlaacw3 : Hid (aacw1 < acw3.heap.size) := Lib.hid (Array.getElem?_eq_some_iff.1 Ba).1
      clear Ca0 Ca1 Ca2 Ca3 Fa0 Fa1 Fa2 Fa3
      replace Ba := heap_kept gbacw3 Ba
      replace ya := ya.kept gbacw3
      replace yb := yb.kept gbacw3
      replace hG := grown_trans hG gbacw3
      clear gbacw3
      obtain ⟨Ca0, Ca1, Ca2, Ca3, Fa0, Fa1, Fa2, Fa3⟩ := box_cells4 Ba
      obtain ⟨Cb0, Cb1, Cb2, Cb3, Fb0, Fb1, Fb2, Fb3⟩ := box_cells4 Bb
      go_wp2_with fail
      generalize (acw3.alloc (.cells #[.int .i64 gb, .slice sb lb cb, .int .i64 gb', .slice sb' lb' cb'] 40)) = acw4 at *
      generalize acw3.heap.size = aacw3 at *
      replace hzacw3 := hzacw3.out
      replace hlaacw3 := hlaacw3.out
      clear Ca0 Ca1 Ca2 Ca3 Fa0 Fa1 Fa2 Fa3 Cb0 Cb1 Cb2 Cb3 Fb0 Fb1 Fb2 Fb3
      refine (known_any acw4 (HTB.out _ hG)).mono ?_
      rintro e acw5 ⟨rfl, gacw5⟩
      replace Ba := heap_kept gacw5 Ba
      replace Bb := heap_kept gacw5 Bb
      replace ya := ya.kept gacw5
      replace yb := yb.kept gacw5
      replace hG := grown_trans hG gacw5
      clear gacw5
      obtain ⟨Ca0, Ca1, Ca2, Ca3, Fa0, Fa1, Fa2, Fa3⟩ := box_cells4 Ba
      obtain ⟨Cb0, Cb1, Cb2, Cb3, Fb0, Fb1, Fb2, Fb3⟩ := box_cells4 Bb
      go_wp2_with fail
      clear Ca0 Ca1 Ca2 Ca3 Fa0 Fa1 Fa2 Fa3 Cb0 Cb1 Cb2 Cb3 Fb0 Fb1 Fb2 Fb3
      refine (SM.out acw5 hG).mono ?_
      rintro e acw6 ⟨rfl, gacw6⟩
      replace Ba := heap_kept gacw6 Ba
      replace Bb := heap_kept gacw6 Bb
      replace ya := ya.kept gacw6
      replace yb := yb.kept gacw6
      replace hG := grown_trans hG gacw6
      clear gacw6
      obtain ⟨Ca0, Ca1, Ca2, Ca3, Fa0, Fa1, Fa2, Fa3⟩ := box_cells4 Ba
      obtain ⟨Cb0, Cb1, Cb2, Cb3, Fb0, Fb1, Fb2, Fb3⟩ := box_cells4 Bb
      rcases HCC.out with ⟨rfl, rfl, rfl, rfl⟩ | ⟨rfl, rfl, hq, rfl⟩ | ⟨rfl, rfl, rfl⟩ | ⟨rfl, rfl⟩
      · skip
        clear HCC
        go_wp2_with fail
        clear Ca0 Ca1 Ca2 Ca3 Fa0 Fa1 Fa2 Fa3 Cb0 Cb1 Cb2 Cb3 Fb0 Fb1 Fb2 Fb3
        refine (QC.out acw6 _ _ ya yb).mono ?_
        rintro e acww7 ⟨rfl, gacww7⟩
        replace Ba := heap_kept gacww7 Ba
        replace Bb := heap_kept gacww7 Bb
        replace ya := ya.kept gacww7
        replace yb := yb.kept gacww7
        replace hG := grown_trans hG gacww7
        clear gacww7
        obtain ⟨Ca0, Ca1, Ca2, Ca3, Fa0, Fa1, Fa2, Fa3⟩ := box_cells4 Ba
        obtain ⟨Cb0, Cb1, Cb2, Cb3, Fb0, Fb1, Fb2, Fb3⟩ := box_cells4 Bb
        go_wp2_with fail
        go_ret
        exact ⟨by first | rfl | simp, hG⟩
      · skip
        clear HCC
        go_wp2_with fail
        clear Ca0 Ca1 Ca2 Ca3 Fa0 Fa1 Fa2 Fa3 Cb0 Cb1 Cb2 Cb3 Fb0 Fb1 Fb2 Fb3
        refine (QC.out acw6 _ _ ya yb).mono ?_
        rintro e acxw7 ⟨rfl, gacxw7⟩
        replace Ba := heap_kept gacxw7 Ba
        replace Bb := heap_kept gacxw7 Bb
        replace ya := ya.kept gacxw7
        replace yb := yb.kept gacxw7
        replace hG := grown_trans hG gacxw7
        clear gacxw7
        obtain ⟨Ca0, Ca1, Ca2, Ca3, Fa0, Fa1, Fa2, Fa3⟩ := box_cells4 Ba
        obtain ⟨Cb0, Cb1, Cb2, Cb3, Fb0, Fb1, Fb2, Fb3⟩ := box_cells4 Bb
        have f1 : (q == 0) = false := beq_eq_false_iff_ne.2 hq.out
        go_wp2_with fail
        go_ret
        exact ⟨by first | rfl | simp, hG⟩
      · skip
        clear HCC
        go_wp2_with fail
        go_ret
        exact ⟨by first | rfl | simp, hG⟩
      · skip
        clear HCC
        go_wp2_with fail
        go_ret
        exact ⟨by first | rfl | simp, hG⟩
    · skip
      obtain ⟨a1, rfl⟩ := Option.ne_none_iff_exists'.1 kt
      clear kt
      have hcc := @sameB_of l (k.take 64)
      have hb1 := bval_bd HI.by'.2; have hb2 := bval_bd KI.by'.2
      obtain ⟨x, hx⟩ : ∃ x, bval l = x := ⟨_, rfl⟩; obtain ⟨y, hy⟩ : ∃ y, bval (k.take 64) = y := ⟨_, rfl⟩; obtain ⟨cx, hcx⟩ : ∃ c, bcod l = c := ⟨_, rfl⟩; obtain ⟨cy, hcy⟩ : ∃ c, bcod (k.take 64) = c := ⟨_, rfl⟩; obtain ⟨b0, hb0⟩ : ∃ b, sameB l (k.take 64) = b := ⟨_, rfl⟩
      obtain ⟨q, hq⟩ : ∃ q, rcmp x y = q := ⟨_, rfl⟩
      rw [hx, hy, hcx, hcy, hb0, hq] at hcc
      have CX : Hid (∀ W, w.grownBy W none → Calls Tryd.prog 9 #[.slice s n cap] W (RetRQE W x 60 cx)) := fun W hW => by have h2 := rDec_any W _ _ cap _ HI.len (HI.by'.kept hW) HI.room HI.cap; rw [hx, hcx] at h2; exact h2
      have CY : Hid (∀ W, w.grownBy W none → Calls Tryd.prog 9 #[.slice (some a1) 64 cap'] W (RetRQE W y 60 cy)) := fun W hW => by have h2 := rDec_any W _ _ cap' _ KI.len (KI.by'.kept hW) KI.room KI.cap; rw [hy, hcy] at h2; exact h2
      have SM : Hid (∀ W, w.grownBy W none → Calls Tryd.prog 17 #[.slice s n cap, .slice (some a1) 64 cap'] W (RetB W b0)) := fun W hW => by have h2 := Same_any W _ _ _ _ cap cap' _ _ HI.len KI.len (HI.by'.kept hW) (KI.by'.kept hW) HI.room HI.cap KI.room KI.cap (HTB.out W hW); rw [hb0] at h2; exact h2
      have QC : Hid (∀ W v u, RQ W v x 60 → RQ W u y 60 → Calls Tryd.prog 18 #[v, u] W (fun e w' => e = .returned (.int .i64 q) ∧ W.grownBy w' none)) := fun W v u h1 h2 => by have h := rQCmp_any W v u x y 60 60 h1 h2 (by omega); rw [hq] at h; exact h
      have HCC := Lib.hid hcc
      clear hcc hb1 hb2 hx hy hcx hcy hb0 hq
      replace HI := Lib.hid HI; replace KI := Lib.hid KI
      go_enter Tryd.func5, Tryd.ntmps5
      go_wp2_with fail
      refine (CX.out w hG).mono ?_
      rintro e adw1 ⟨_, rfl, ⟨ga, sa, la, ca, ga', sa', la', ca', na, da, rfl, ha, ha', ua⟩, gadw1⟩
      have ya : RQ adw1 (.agg #[.int .i64 ga, .slice sa la ca, .int .i64 ga', .slice sa' la' ca']) x 60 := ⟨ga, sa, la, ca, ga', sa', la', ca', na, da, rfl, ha, ha', ua⟩
      replace hG := grown_trans hG gadw1
      clear gadw1
      clear ha ha'
      have gbadw1 := (World.grownBy_alloc adw1 (.cells #[.int .i64 ga, .slice sa la ca, .int .i64 ga', .slice sa' la' ca'] 40) none)
      have Ba := (heap_new adw1 (.cells #[.int .i64 ga, .slice sa la ca, .int .i64 ga', .slice sa' la' ca'] 40) (adw1.heap.size) rfl)
      have hzadw1 : Hid (w.heap.size ≤ adw1.heap.size) := Lib.hid hG.size
      replace ya := ya.kept gbadw1
      replace hG := grown_trans hG gbadw1
      clear gbadw1
      obtain ⟨Ca0, Ca1, Ca2, Ca3, Fa0, Fa1, Fa2, Fa3⟩ := box_cells4 Ba
      go_wp2_with fail
      generalize (adw1.alloc (.cells #[.int .i64 ga, .slice sa la ca, .int .i64 ga', .slice sa' la' ca'] 40)) = adw2 at *
      generalize adw1.heap.size = aadw1 at *
      replace hzadw1 := hzadw1.out
      clear Ca0 Ca1 Ca2 Ca3 Fa0 Fa1 Fa2 Fa3
      refine (CY.out adw2 hG).mono ?_
      rintro e adw3 ⟨_, rfl, ⟨gb, sb, lb, cb, gb', sb', lb', cb', nb, db, rfl, hb, hb', ub⟩, gadw3⟩
      have yb : RQ adw3 (.agg #[.int .i64 gb, .slice sb lb cb, .int .i64 gb', .slice sb' lb' cb']) y 60 := ⟨gb, sb, lb, cb, gb', sb', lb', cb', nb, db, rfl, hb, hb', ub⟩
      replace Ba := heap_kept gadw3 Ba
      replace ya := ya.kept gadw3
      replace hG := grown_trans hG gadw3
      clear gadw3
      clear hb hb'
      obtain ⟨Ca0, Ca1, Ca2, Ca3, Fa0, Fa1, Fa2, Fa3⟩ := box_cells4 Ba
      have gbadw3 := (World.grownBy_alloc adw3 (.cells #[.int .i64 gb, .slice sb lb cb, .int .i64 gb', .slice sb' lb' cb'] 40) none)
      have Bb := (heap_new adw3 (.cells #[.int .i64 gb, .slice sb lb cb, .int .i64 gb', .slice sb' lb' cb'] 40) (adw3.heap.size) rfl)
      have hzadw3 : Hid (w.heap.size ≤ adw3.heap.size) := Lib.hid hG.size
      have hlaadw3 : Hid (aadw1 < adw3.heap.size) := Lib.hid (Array.getElem?_eq_some_iff.1 Ba).1
      clear Ca0 Ca1 Ca2 Ca3 Fa0 Fa1 Fa2 Fa3
      replace Ba := heap_kept gbadw3 Ba
      replace ya := ya.kept gbadw3
      replace yb := yb.kept gbadw3
      replace hG := grown_trans hG gbadw3
      clear gbadw3
      obtain ⟨Ca0, Ca1, Ca2, Ca3, Fa0, Fa1, Fa2, Fa3⟩ := box_cells4 Ba
      obtain ⟨Cb0, Cb1, Cb2, Cb3, Fb0, Fb1, Fb2, Fb3⟩ := box_cells4 Bb
      go_wp2_with fail
      generalize (adw3.alloc (.cells #[.int .i64 gb, .slice sb lb cb, .int .i64 gb', .slice sb' lb' cb'] 40)) = adw4 at *
      generalize adw3.heap.size = aadw3 at *
      replace hzadw3 := hzadw3.out
      replace hlaadw3 := hlaadw3.out
      clear Ca0 Ca1 Ca2 Ca3 Fa0 Fa1 Fa2 Fa3 Cb0 Cb1 Cb2 Cb3 Fb0 Fb1 Fb2 Fb3
      refine (known_any adw4 (HTB.out _ hG)).mono ?_
      rintro e adw5 ⟨rfl, gadw5⟩
      replace Ba := heap_kept gadw5 Ba
      replace Bb := heap_kept gadw5 Bb
      replace ya := ya.kept gadw5
      replace yb := yb.kept gadw5
      replace hG := grown_trans hG gadw5
      clear gadw5
      obtain ⟨Ca0, Ca1, Ca2, Ca3, Fa0, Fa1, Fa2, Fa3⟩ := box_cells4 Ba
      obtain ⟨Cb0, Cb1, Cb2, Cb3, Fb0, Fb1, Fb2, Fb3⟩ := box_cells4 Bb
      go_wp2_with fail
      clear Ca0 Ca1 Ca2 Ca3 Fa0 Fa1 Fa2 Fa3 Cb0 Cb1 Cb2 Cb3 Fb0 Fb1 Fb2 Fb3
      refine (SM.out adw5 hG).mono ?_
      rintro e adw6 ⟨rfl, gadw6⟩
      replace Ba := heap_kept gadw6 Ba
      replace Bb := heap_kept gadw6 Bb
      replace ya := ya.kept gadw6
      replace yb := yb.kept gadw6
      replace hG := grown_trans hG gadw6
      clear gadw6
      obtain ⟨Ca0, Ca1, Ca2, Ca3, Fa0, Fa1, Fa2, Fa3⟩ := box_cells4 Ba
      obtain ⟨Cb0, Cb1, Cb2, Cb3, Fb0, Fb1, Fb2, Fb3⟩ := box_cells4 Bb
      rcases HCC.out with ⟨rfl, rfl, rfl, rfl⟩ | ⟨rfl, rfl, hq, rfl⟩ | ⟨rfl, rfl, rfl⟩ | ⟨rfl, rfl⟩
      · skip
        clear HCC
        go_wp2_with fail
        clear Ca0 Ca1 Ca2 Ca3 Fa0 Fa1 Fa2 Fa3 Cb0 Cb1 Cb2 Cb3 Fb0 Fb1 Fb2 Fb3
        refine (QC.out adw6 _ _ ya yb).mono ?_
        rintro e adww7 ⟨rfl, gadww7⟩
        replace Ba := heap_kept gadww7 Ba
        replace Bb := heap_kept gadww7 Bb
        replace ya := ya.kept gadww7
        replace yb := yb.kept gadww7
        replace hG := grown_trans hG gadww7
        clear gadww7
        obtain ⟨Ca0, Ca1, Ca2, Ca3, Fa0, Fa1, Fa2, Fa3⟩ := box_cells4 Ba
        obtain ⟨Cb0, Cb1, Cb2, Cb3, Fb0, Fb1, Fb2, Fb3⟩ := box_cells4 Bb
        go_wp2_with fail
        go_ret
        exact ⟨by first | rfl | simp, hG⟩
      · skip
        clear HCC
        go_wp2_with fail
        clear Ca0 Ca1 Ca2 Ca3 Fa0 Fa1 Fa2 Fa3 Cb0 Cb1 Cb2 Cb3 Fb0 Fb1 Fb2 Fb3
        refine (QC.out adw6 _ _ ya yb).mono ?_
        rintro e adxw7 ⟨rfl, gadxw7⟩
        replace Ba := heap_kept gadxw7 Ba
        replace Bb := heap_kept gadxw7 Bb
        replace ya := ya.kept gadxw7
        replace yb := yb.kept gadxw7
        replace hG := grown_trans hG gadxw7
        clear gadxw7
        obtain ⟨Ca0, Ca1, Ca2, Ca3, Fa0, Fa1, Fa2, Fa3⟩ := box_cells4 Ba
        obtain ⟨Cb0, Cb1, Cb2, Cb3, Fb0, Fb1, Fb2, Fb3⟩ := box_cells4 Bb
        have f1 : (q == 0) = false := beq_eq_false_iff_ne.2 hq.out
        go_wp2_with fail
        go_ret
        exact ⟨by first | rfl | simp, hG⟩
      · skip
        clear HCC
        go_wp2_with fail
        go_ret
        exact ⟨by first | rfl | simp, hG⟩
      · skip
        clear HCC
        go_wp2_with fail
        go_ret
        exact ⟨by first | rfl | simp, hG⟩
  · skip
    obtain ⟨a0, rfl⟩ := Option.ne_none_iff_exists'.1 hs
    clear hs
    rcases kin with ⟨k64, KI⟩ | ⟨k64, KI, kt⟩
    · skip
      have hcc := @sameB_of (l.take 64) k
      have hb1 := bval_bd HI.by'.2; have hb2 := bval_bd KI.by'.2
      obtain ⟨x, hx⟩ : ∃ x, bval (l.take 64) = x := ⟨_, rfl⟩; obtain ⟨y, hy⟩ : ∃ y, bval k = y := ⟨_, rfl⟩; obtain ⟨cx, hcx⟩ : ∃ c, bcod (l.take 64) = c := ⟨_, rfl⟩; obtain ⟨cy, hcy⟩ : ∃ c, bcod k = c := ⟨_, rfl⟩; obtain ⟨b0, hb0⟩ : ∃ b, sameB (l.take 64) k = b := ⟨_, rfl⟩
      obtain ⟨q, hq⟩ : ∃ q, rcmp x y = q := ⟨_, rfl⟩
      rw [hx, hy, hcx, hcy, hb0, hq] at hcc
      have CX : Hid (∀ W, w.grownBy W none → Calls Tryd.prog 9 #[.slice (some a0) 64 cap] W (RetRQE W x 60 cx)) := fun W hW => by have h2 := rDec_any W _ _ cap _ HI.len (HI.by'.kept hW) HI.room HI.cap; rw [hx, hcx] at h2; exact h2
      have CY : Hid (∀ W, w.grownBy W none → Calls Tryd.prog 9 #[.slice t m cap'] W (RetRQE W y 60 cy)) := fun W hW => by have h2 := rDec_any W _ _ cap' _ KI.len (KI.by'.kept hW) KI.room KI.cap; rw [hy, hcy] at h2; exact h2
      have SM : Hid (∀ W, w.grownBy W none → Calls Tryd.prog 17 #[.slice (some a0) 64 cap, .slice t m cap'] W (RetB W b0)) := fun W hW => by have h2 := Same_any W _ _ _ _ cap cap' _ _ HI.len KI.len (HI.by'.kept hW) (KI.by'.kept hW) HI.room HI.cap KI.room KI.cap (HTB.out W hW); rw [hb0] at h2; exact h2
      have QC : Hid (∀ W v u, RQ W v x 60 → RQ W u y 60 → Calls Tryd.prog 18 #[v, u] W (fun e w' => e = .returned (.int .i64 q) ∧ W.grownBy w' none)) := fun W v u h1 h2 => by have h := rQCmp_any W v u x y 60 60 h1 h2 (by omega); rw [hq] at h; exact h
      have HCC := Lib.hid hcc
      clear hcc hb1 hb2 hx hy hcx hcy hb0 hq
      replace HI := Lib.hid HI; replace KI := Lib.hid KI
      go_enter Tryd.func5, Tryd.ntmps5
      go_wp2_with fail
      refine (CX.out w hG).mono ?_
      rintro e bcw1 ⟨_, rfl, ⟨ga, sa, la, ca, ga', sa', la', ca', na, da, rfl, ha, ha', ua⟩, gbcw1⟩
      have ya : RQ bcw1 (.agg #[.int .i64 ga, .slice sa la ca, .int .i64 ga', .slice sa' la' ca']) x 60 := ⟨ga, sa, la, ca, ga', sa', la', ca', na, da, rfl, ha, ha', ua⟩
      replace hG := grown_trans hG gbcw1
      clear gbcw1
      clear ha ha'
      have gbbcw1 := (World.grownBy_alloc bcw1 (.cells #[.int .i64 ga, .slice sa la ca, .int .i64 ga', .slice sa' la' ca'] 40) none)
      have Ba := (heap_new bcw1 (.cells #[.int .i64 ga, .slice sa la ca, .int .i64 ga', .slice sa' la' ca'] 40) (bcw1.heap.size) rfl)
      have hzbcw1 : Hid (w.heap.size ≤ bcw1.heap.size) := Lib.hid hG.size
      replace ya := ya.kept gbbcw1
      replace hG := grown_trans hG gbbcw1
      clear gbbcw1
      obtain ⟨Ca0, Ca1, Ca2, Ca3, Fa0, Fa1, Fa2, Fa3⟩ := box_cells4 Ba
      go_wp2_with fail
      generalize (bcw1.alloc (.cells #[.int .i64 ga, .slice sa la ca, .int .i64 ga', .slice sa' la' ca'] 40)) = bcw2 at *
      generalize bcw1.heap.size = abcw1 at *
      replace hzbcw1 := hzbcw1.out
      clear Ca0 Ca1 Ca2 Ca3 Fa0 Fa1 Fa2 Fa3
      refine (CY.out bcw2 hG).mono ?_
      rintro e bcw3 ⟨_, rfl, ⟨gb, sb, lb, cb, gb', sb', lb', cb', nb, db, rfl, hb, hb', ub⟩, gbcw3⟩
      have yb : RQ bcw3 (.agg #[.int .i64 gb, .slice sb lb cb, .int .i64 gb', .slice sb' lb' cb']) y 60 := ⟨gb, sb, lb, cb, gb', sb', lb', cb', nb, db, rfl, hb, hb', ub⟩
      replace Ba := heap_kept gbcw3 Ba
      replace ya := ya.kept gbcw3
      replace hG := grown_trans hG gbcw3
      clear gbcw3
      clear hb hb'
      obtain ⟨Ca0, Ca1, Ca2, Ca3, Fa0, Fa1, Fa2, Fa3⟩ := box_cells4 Ba
      have gbbcw3 := (World.grownBy_alloc bcw3 (.cells #[.int .i64 gb, .slice sb lb cb, .int .i64 gb', .slice sb' lb' cb'] 40) none)
      have Bb := (heap_new bcw3 (.cells #[.int .i64 gb, .slice sb lb cb, .int .i64 gb', .slice sb' lb' cb'] 40) (bcw3.heap.size) rfl)
      have hzbcw3 : Hid (w.heap.size ≤ bcw3.heap.size) := Lib.hid hG.size
      have hlabcw3 : Hid (abcw1 < bcw3.heap.size) := Lib.hid (Array.getElem?_eq_some_iff.1 Ba).1
      clear Ca0 Ca1 Ca2 Ca3 Fa0 Fa1 Fa2 Fa3
      replace Ba := heap_kept gbbcw3 Ba
      replace ya := ya.kept gbbcw3
      replace yb := yb.kept gbbcw3
      replace hG := grown_trans hG gbbcw3
      clear gbbcw3
      obtain ⟨Ca0, Ca1, Ca2, Ca3, Fa0, Fa1, Fa2, Fa3⟩ := box_cells4 Ba
      obtain ⟨Cb0, Cb1, Cb2, Cb3, Fb0, Fb1, Fb2, Fb3⟩ := box_cells4 Bb
      go_wp2_with fail
      generalize (bcw3.alloc (.cells #[.int .i64 gb, .slice sb lb cb, .int .i64 gb', .slice sb' lb' cb'] 40)) = bcw4 at *
      generalize bcw3.heap.size = abcw3 at *
      replace hzbcw3 := hzbcw3.out
      replace hlabcw3 := hlabcw3.out
      clear Ca0 Ca1 Ca2 Ca3 Fa0 Fa1 Fa2 Fa3 Cb0 Cb1 Cb2 Cb3 Fb0 Fb1 Fb2 Fb3
      refine (known_any bcw4 (HTB.out _ hG)).mono ?_
      rintro e bcw5 ⟨rfl, gbcw5⟩
      replace Ba := heap_kept gbcw5 Ba
      replace Bb := heap_kept gbcw5 Bb
      replace ya := ya.kept gbcw5
      replace yb := yb.kept gbcw5
      replace hG := grown_trans hG gbcw5
      clear gbcw5
      obtain ⟨Ca0, Ca1, Ca2, Ca3, Fa0, Fa1, Fa2, Fa3⟩ := box_cells4 Ba
      obtain ⟨Cb0, Cb1, Cb2, Cb3, Fb0, Fb1, Fb2, Fb3⟩ := box_cells4 Bb
      go_wp2_with fail
      clear Ca0 Ca1 Ca2 Ca3 Fa0 Fa1 Fa2 Fa3 Cb0 Cb1 Cb2 Cb3 Fb0 Fb1 Fb2 Fb3
      refine (SM.out bcw5 hG).mono ?_
      rintro e bcw6 ⟨rfl, gbcw6⟩
      replace Ba := heap_kept gbcw6 Ba
      replace Bb := heap_kept gbcw6 Bb
      replace ya := ya.kept gbcw6
      replace yb := yb.kept gbcw6
      replace hG := grown_trans hG gbcw6
      clear gbcw6
      obtain ⟨Ca0, Ca1, Ca2, Ca3, Fa0, Fa1, Fa2, Fa3⟩ := box_cells4 Ba
      obtain ⟨Cb0, Cb1, Cb2, Cb3, Fb0, Fb1, Fb2, Fb3⟩ := box_cells4 Bb
      rcases HCC.out with ⟨rfl, rfl, rfl, rfl⟩ | ⟨rfl, rfl, hq, rfl⟩ | ⟨rfl, rfl, rfl⟩ | ⟨rfl, rfl⟩
      · skip
        clear HCC
        go_wp2_with fail
        clear Ca0 Ca1 Ca2 Ca3 Fa0 Fa1 Fa2 Fa3 Cb0 Cb1 Cb2 Cb3 Fb0 Fb1 Fb2 Fb3
        refine (QC.out bcw6 _ _ ya yb).mono ?_
        rintro e bcww7 ⟨rfl, gbcww7⟩
        replace Ba := heap_kept gbcww7 Ba
        replace Bb := heap_kept gbcww7 Bb
        replace ya := ya.kept gbcww7
        replace yb := yb.kept gbcww7
        replace hG := grown_trans hG gbcww7
        clear gbcww7
        obtain ⟨Ca0, Ca1, Ca2, Ca3, Fa0, Fa1, Fa2, Fa3⟩ := box_cells4 Ba
        obtain ⟨Cb0, Cb1, Cb2, Cb3, Fb0, Fb1, Fb2, Fb3⟩ := box_cells4 Bb
        go_wp2_with fail
        go_ret
        exact ⟨by first | rfl | simp, hG⟩
      · skip
        clear HCC
        go_wp2_with fail
        clear Ca0 Ca1 Ca2 Ca3 Fa0 Fa1 Fa2 Fa3 Cb0 Cb1 Cb2 Cb3 Fb0 Fb1 Fb2 Fb3
        refine (QC.out bcw6 _ _ ya yb).mono ?_
        rintro e bcxw7 ⟨rfl, gbcxw7⟩
        replace Ba := heap_kept gbcxw7 Ba
        replace Bb := heap_kept gbcxw7 Bb
        replace ya := ya.kept gbcxw7
        replace yb := yb.kept gbcxw7
        replace hG := grown_trans hG gbcxw7
        clear gbcxw7
        obtain ⟨Ca0, Ca1, Ca2, Ca3, Fa0, Fa1, Fa2, Fa3⟩ := box_cells4 Ba
        obtain ⟨Cb0, Cb1, Cb2, Cb3, Fb0, Fb1, Fb2, Fb3⟩ := box_cells4 Bb
        have f1 : (q == 0) = false := beq_eq_false_iff_ne.2 hq.out
        go_wp2_with fail
        go_ret
        exact ⟨by first | rfl | simp, hG⟩
      · skip
        clear HCC
        go_wp2_with fail
        go_ret
        exact ⟨by first | rfl | simp, hG⟩
      · skip
        clear HCC
        go_wp2_with fail
        go_ret
        exact ⟨by first | rfl | simp, hG⟩
    · skip
      obtain ⟨a1, rfl⟩ := Option.ne_none_iff_exists'.1 kt
      clear kt
      have hcc := @sameB_of (l.take 64) (k.take 64)
      have hb1 := bval_bd HI.by'.2; have hb2 := bval_bd KI.by'.2
      obtain ⟨x, hx⟩ : ∃ x, bval (l.take 64) = x := ⟨_, rfl⟩; obtain ⟨y, hy⟩ : ∃ y, bval (k.take 64) = y := ⟨_, rfl⟩; obtain ⟨cx, hcx⟩ : ∃ c, bcod (l.take 64) = c := ⟨_, rfl⟩; obtain ⟨cy, hcy⟩ : ∃ c, bcod (k.take 64) = c := ⟨_, rfl⟩; obtain ⟨b0, hb0⟩ : ∃ b, sameB (l.take 64) (k.take 64) = b := ⟨_, rfl⟩
      obtain ⟨q, hq⟩ : ∃ q, rcmp x y = q := ⟨_, rfl⟩
      rw [hx, hy, hcx, hcy, hb0, hq] at hcc
      have CX : Hid (∀ W, w.grownBy W none → Calls Tryd.prog 9 #[.slice (some a0) 64 cap] W (RetRQE W x 60 cx)) := fun W hW => by have h2 := rDec_any W _ _ cap _ HI.len (HI.by'.kept hW) HI.room HI.cap; rw [hx, hcx] at h2; exact h2
      have CY : Hid (∀ W, w.grownBy W none → Calls Tryd.prog 9 #[.slice (some a1) 64 cap'] W (RetRQE W y 60 cy)) := fun W hW => by have h2 := rDec_any W _ _ cap' _ KI.len (KI.by'.kept hW) KI.room KI.cap; rw [hy, hcy] at h2; exact h2
      have SM : Hid (∀ W, w.grownBy W none → Calls Tryd.prog 17 #[.slice (some a0) 64 cap, .slice (some a1) 64 cap'] W (RetB W b0)) := fun W hW => by have h2 := Same_any W _ _ _ _ cap cap' _ _ HI.len KI.len (HI.by'.kept hW) (KI.by'.kept hW) HI.room HI.cap KI.room KI.cap (HTB.out W hW); rw [hb0] at h2; exact h2
      have QC : Hid (∀ W v u, RQ W v x 60 → RQ W u y 60 → Calls Tryd.prog 18 #[v, u] W (fun e w' => e = .returned (.int .i64 q) ∧ W.grownBy w' none)) := fun W v u h1 h2 => by have h := rQCmp_any W v u x y 60 60 h1 h2 (by omega); rw [hq] at h; exact h
      have HCC := Lib.hid hcc
      clear hcc hb1 hb2 hx hy hcx hcy hb0 hq
      replace HI := Lib.hid HI; replace KI := Lib.hid KI
      go_enter Tryd.func5, Tryd.ntmps5
      go_wp2_with fail
      refine (CX.out w hG).mono ?_
      rintro e bdw1 ⟨_, rfl, ⟨ga, sa, la, ca, ga', sa', la', ca', na, da, rfl, ha, ha', ua⟩, gbdw1⟩
      have ya : RQ bdw1 (.agg #[.int .i64 ga, .slice sa la ca, .int .i64 ga', .slice sa' la' ca']) x 60 := ⟨ga, sa, la, ca, ga', sa', la', ca', na, da, rfl, ha, ha', ua⟩
      replace hG := grown_trans hG gbdw1
      clear gbdw1
      clear ha ha'
      have gbbdw1 := (World.grownBy_alloc bdw1 (.cells #[.int .i64 ga, .slice sa la ca, .int .i64 ga', .slice sa' la' ca'] 40) none)
      have Ba := (heap_new bdw1 (.cells #[.int .i64 ga, .slice sa la ca, .int .i64 ga', .slice sa' la' ca'] 40) (bdw1.heap.size) rfl)
      have hzbdw1 : Hid (w.heap.size ≤ bdw1.heap.size) := Lib.hid hG.size
      replace ya := ya.kept gbbdw1
      replace hG := grown_trans hG gbbdw1
      clear gbbdw1
      obtain ⟨Ca0, Ca1, Ca2, Ca3, Fa0, Fa1, Fa2, Fa3⟩ := box_cells4 Ba
      go_wp2_with fail
      generalize (bdw1.alloc (.cells #[.int .i64 ga, .slice sa la ca, .int .i64 ga', .slice sa' la' ca'] 40)) = bdw2 at *
      generalize bdw1.heap.size = abdw1 at *
      replace hzbdw1 := hzbdw1.out
      clear Ca0 Ca1 Ca2 Ca3 Fa0 Fa1 Fa2 Fa3
      refine (CY.out bdw2 hG).mono ?_
      rintro e bdw3 ⟨_, rfl, ⟨gb, sb, lb, cb, gb', sb', lb', cb', nb, db, rfl, hb, hb', ub⟩, gbdw3⟩
      have yb : RQ bdw3 (.agg #[.int .i64 gb, .slice sb lb cb, .int .i64 gb', .slice sb' lb' cb']) y 60 := ⟨gb, sb, lb, cb, gb', sb', lb', cb', nb, db, rfl, hb, hb', ub⟩
      replace Ba := heap_kept gbdw3 Ba
      replace ya := ya.kept gbdw3
      replace hG := grown_trans hG gbdw3
      clear gbdw3
      clear hb hb'
      obtain ⟨Ca0, Ca1, Ca2, Ca3, Fa0, Fa1, Fa2, Fa3⟩ := box_cells4 Ba
      have gbbdw3 := (World.grownBy_alloc bdw3 (.cells #[.int .i64 gb, .slice sb lb cb, .int .i64 gb', .slice sb' lb' cb'] 40) none)
      have Bb := (heap_new bdw3 (.cells #[.int .i64 gb, .slice sb lb cb, .int .i64 gb', .slice sb' lb' cb'] 40) (bdw3.heap.size) rfl)
      have hzbdw3 : Hid (w.heap.size ≤ bdw3.heap.size) := Lib.hid hG.size
      have hlabdw3 : Hid (abdw1 < bdw3.heap.size) := Lib.hid (Array.getElem?_eq_some_iff.1 Ba).1
      clear Ca0 Ca1 Ca2 Ca3 Fa0 Fa1 Fa2 Fa3
      replace Ba := heap_kept gbbdw3 Ba
      replace ya := ya.kept gbbdw3
      replace yb := yb.kept gbbdw3
      replace hG := grown_trans hG gbbdw3
      clear gbbdw3
      obtain ⟨Ca0, Ca1, Ca2, Ca3, Fa0, Fa1, Fa2, Fa3⟩ := box_cells4 Ba
      obtain ⟨Cb0, Cb1, Cb2, Cb3, Fb0, Fb1, Fb2, Fb3⟩ := box_cells4 Bb
      go_wp2_with fail
      generalize (bdw3.alloc (.cells #[.int .i64 gb, .slice sb lb cb, .int .i64 gb', .slice sb' lb' cb'] 40)) = bdw4 at *
      generalize bdw3.heap.size = abdw3 at *
      replace hzbdw3 := hzbdw3.out
      replace hlabdw3 := hlabdw3.out
      clear Ca0 Ca1 Ca2 Ca3 Fa0 Fa1 Fa2 Fa3 Cb0 Cb1 Cb2 Cb3 Fb0 Fb1 Fb2 Fb3
      refine (known_any bdw4 (HTB.out _ hG)).mono ?_
      rintro e bdw5 ⟨rfl, gbdw5⟩
      replace Ba := heap_kept gbdw5 Ba
      replace Bb := heap_kept gbdw5 Bb
      replace ya := ya.kept gbdw5
      replace yb := yb.kept gbdw5
      replace hG := grown_trans hG gbdw5
      clear gbdw5
      obtain ⟨Ca0, Ca1, Ca2, Ca3, Fa0, Fa1, Fa2, Fa3⟩ := box_cells4 Ba
      obtain ⟨Cb0, Cb1, Cb2, Cb3, Fb0, Fb1, Fb2, Fb3⟩ := box_cells4 Bb
      go_wp2_with fail
      clear Ca0 Ca1 Ca2 Ca3 Fa0 Fa1 Fa2 Fa3 Cb0 Cb1 Cb2 Cb3 Fb0 Fb1 Fb2 Fb3
      refine (SM.out bdw5 hG).mono ?_
      rintro e bdw6 ⟨rfl, gbdw6⟩
      replace Ba := heap_kept gbdw6 Ba
      replace Bb := heap_kept gbdw6 Bb
      replace ya := ya.kept gbdw6
      replace yb := yb.kept gbdw6
      replace hG := grown_trans hG gbdw6
      clear gbdw6
      obtain ⟨Ca0, Ca1, Ca2, Ca3, Fa0, Fa1, Fa2, Fa3⟩ := box_cells4 Ba
      obtain ⟨Cb0, Cb1, Cb2, Cb3, Fb0, Fb1, Fb2, Fb3⟩ := box_cells4 Bb
      rcases HCC.out with ⟨rfl, rfl, rfl, rfl⟩ | ⟨rfl, rfl, hq, rfl⟩ | ⟨rfl, rfl, rfl⟩ | ⟨rfl, rfl⟩
      · skip
        clear HCC
        go_wp2_with fail
        clear Ca0 Ca1 Ca2 Ca3 Fa0 Fa1 Fa2 Fa3 Cb0 Cb1 Cb2 Cb3 Fb0 Fb1 Fb2 Fb3
        refine (QC.out bdw6 _ _ ya yb).mono ?_
        rintro e bdww7 ⟨rfl, gbdww7⟩
        replace Ba := heap_kept gbdww7 Ba
        replace Bb := heap_kept gbdww7 Bb
        replace ya := ya.kept gbdww7
        replace yb := yb.kept gbdww7
        replace hG := grown_trans hG gbdww7
        clear gbdww7
        obtain ⟨Ca0, Ca1, Ca2, Ca3, Fa0, Fa1, Fa2, Fa3⟩ := box_cells4 Ba
        obtain ⟨Cb0, Cb1, Cb2, Cb3, Fb0, Fb1, Fb2, Fb3⟩ := box_cells4 Bb
        go_wp2_with fail
        go_ret
        exact ⟨by first | rfl | simp, hG⟩
      · skip
        clear HCC
        go_wp2_with fail
        clear Ca0 Ca1 Ca2 Ca3 Fa0 Fa1 Fa2 Fa3 Cb0 Cb1 Cb2 Cb3 Fb0 Fb1 Fb2 Fb3
        refine (QC.out bdw6 _ _ ya yb).mono ?_
        rintro e bdxw7 ⟨rfl, gbdxw7⟩
        replace Ba := heap_kept gbdxw7 Ba
        replace Bb := heap_kept gbdxw7 Bb
        replace ya := ya.kept gbdxw7
        replace yb := yb.kept gbdxw7
        replace hG := grown_trans hG gbdxw7
        clear gbdxw7
        obtain ⟨Ca0, Ca1, Ca2, Ca3, Fa0, Fa1, Fa2, Fa3⟩ := box_cells4 Ba
        obtain ⟨Cb0, Cb1, Cb2, Cb3, Fb0, Fb1, Fb2, Fb3⟩ := box_cells4 Bb
        have f1 : (q == 0) = false := beq_eq_false_iff_ne.2 hq.out
        go_wp2_with fail
        go_ret
        exact ⟨by first | rfl | simp, hG⟩
      · skip
        clear HCC
        go_wp2_with fail
        go_ret
        exact ⟨by first | rfl | simp, hG⟩
      · skip
        clear HCC
        go_wp2_with fail
        go_ret
        exact ⟨by first | rfl | simp, hG⟩
end Go.Proofs.YtldkddogadmpbaaDoor
namespace Go.Proofs.YtldkddogadmpbaaDoor.RealSame
open Go.ChangeShapes Go.WideShapes Go.ChangeAt Go.RowKit Go.ChangeMaps Go.Deep
set_option linter.unusedVariables false
set_option linter.unusedSimpArgs false
set_option maxRecDepth 100000
theorem contract (H : Type) (enc : TypeId × Value → H) (W : World) (base : Nat) (args : Array Value) (ds gs : List (DataW H)) (before : List MemPlace)
    (hval : ∀ (j : Nat) t v, Tryd.f5.params[j]? = some t → args[j]? = some v → Value.okWide Tryd.prog W .any base t v)
    (hW : DataW.Whole enc Tryd.prog Tryd.f5.params.toList Rows.realSameSpec.vars false W args.toList ds gs before) (hL : laidMetH Tryd.prog Rows.realSameRow.laid W) :
    Calls Tryd.prog 5 args W fun e W' => ∃ v, e = .returned v ∧ Rows.realSameSpec.post enc Tryd.prog Tryd.f5 false true false false W args v W' := by
  have hW' := hW
  obtain ⟨p, q, hA0, hV, rfl, hfz, hnd⟩ := hW
  have hA : DataW.TrodAll enc Tryd.prog W 0 (fun _ => true) true Tryd.f5.params.toList args.toList ds p := hA0
  rw [Tryd.params5] at hA hval
  obtain ⟨v0, vs0, d0, ds0, p0, q0, hargs, rfl, rfl, h0, r0⟩ := trodAll_cons hA
  obtain ⟨v1, vs1, d1, ds1, p1, q1, hargs1, rfl, rfl, h1, r1⟩ := trodAll_cons r0
  obtain ⟨rfl, rfl, rfl⟩ := trodAll_nil r1
  obtain rfl : args = #[v0, v1] := by cases args; simp_all
  obtain ⟨rfl, rfl⟩ := trodVars_none hV
  simp only [List.append_nil] at hW' hfz
  have hlt : ∀ p ∈ p0 ++ p1, p.block < W.heap.size := fun p hp => by
    have := DataW.TrodAll.lt hA p (by simpa using hp)
    exact this
  obtain ⟨a0, len, cap, rfl⟩ := okWide_slice Tryd.underlying22 (hval 0 22 v0 rfl rfl)
  obtain ⟨a1, len', cap', rfl⟩ := okWide_slice Tryd.underlying22 (hval 1 22 v1 rfl rfl)
  obtain ⟨l, hl1, hl2, hl3, hl4, hl5⟩ := open_by h0
  obtain ⟨k, hk1, hk2, hk3, hk4, hk5⟩ := open_by h1
  clear hA0
  refine (realSame_walk W a0 a1 len len' cap cap' l k hl1 hl2 hl3 hl4 hl5 hk1 hk2 hk3 hk4 hk5 (tab_of hL)).mono fun e W' ⟨he, hg⟩ => ?_
  subst he
  have hstay0 : ∀ sp : Nat → Bool, (∀ p ∈ p0, sp p.block = true) → DataW.Trod enc Tryd.prog W' 0 sp true 22 (.slice a0 len cap) d0 p0 := fun sp hsp =>
    Go.WideElems.Trod_stays (by kernel_rfl) (by kernel_rfl) (of_decide_eq_true (by kernel_rfl)) h0 (fun p hp => grown_same hg (hlt p (by simp [hp]))) hsp
  have hstay1 : ∀ sp : Nat → Bool, (∀ p ∈ p1, sp p.block = true) → DataW.Trod enc Tryd.prog W' 0 sp true 22 (.slice a1 len' cap') d1 p1 := fun sp hsp =>
    Go.WideElems.Trod_stays (by kernel_rfl) (by kernel_rfl) (of_decide_eq_true (by kernel_rfl)) h1 (fun p hp => grown_same hg (hlt p (by simp [hp]))) hsp
  exact ⟨_, rfl, post_places hW' hlt (fun _ _ _ => trodAll_cons_mk (shut_bool Tryd.underlying4 _) trodAll_mk0) (fun sp hsp => by
    have := trodAll_cons_mk (hstay0 sp (fun p hp => hsp p (by simp [hp]))) (trodAll_cons_mk (hstay1 sp (fun p hp => hsp p (by simp [hp]))) trodAll_mk0)
    rw [List.append_nil] at this
    exact this) (fun _ => rfl) hg (ok_one (by kernel_rfl) rfl (okWide_bool_mk Tryd.underlying4 _))⟩
theorem laid_met (os : Os) : laidMet Tryd.prog Rows.realSameRow.laid ((laidWorld os).forCall (fun _ _ => 0) ⟨#[], #[.slice none 0 0, .slice none 0 0], []⟩).memory :=
  laidMet_of_run' 80 (by kernel_rfl) (by kernel_rfl)
theorem reads (os : Os) {H : Type} (enc : TypeId × Value → H) : ∃ places, DataW.whole enc Tryd.prog ((laidWorld os).forCall (fun _ _ => 0) ⟨#[], #[.slice none 0 0, .slice none 0 0], []⟩).memory Tryd.f5.params.toList Rows.realSameSpec.vars false #[Value.slice none 0 0, .slice none 0 0].toList 8 = some ([.nil, .nil], [], places) :=
  ⟨[], by kernel_rfl⟩
set_option maxRecDepth 100000 in
theorem lifted (os : Os) (started : os.Started) (H : Type) (enc : TypeId × Value → H) (F : Stop.Interp) :
    ReturnsInHanded {} Tryd.checked os 5 .any ((OpenSpec.ofChange Rows.realSameSpec).preRow enc Tryd.prog Tryd.f5 Rows.realSameRow.domain false Rows.realSameRow.laid) (((OpenSpec.ofChange Rows.realSameSpec).at F).post enc Tryd.prog Tryd.f5 false true false false) := by
  obtain ⟨places, hx⟩ := reads os enc
  refine returnsInHanded_of_row (C := Tryd.checked) (s := OpenSpec.ofChange Rows.realSameSpec) law_own started (by kernel_rfl) Tryd.func5
    (witness_row_at (enc := enc) (C := Tryd.checked) false (laidWorld os) #[.slice none 0 0, .slice none 0 0] rfl (by kernel_rfl) (by kernel_rfl) (by kernel_rfl)
      (OpenSpec.preRow_of_cond 8 hx (by kernel_rfl) (fun k hk => by cases hk) (by kernel_rfl) (laid_met os))) ?_
  intro W base args ds gs before hval hW _ _ _ hL _ _
  exact contract H enc W base args ds gs before hval hW hL
theorem said : Rows.RealSameSaid :=
  OpenClaim.holds_of_cond 5 Tryd.f5 rfl rfl rfl rfl rfl rfl rfl ⟨rfl, rfl, rfl, rfl, rfl⟩ rfl rfl rfl rfl rfl (by kernel_rfl) Tryd.func5 (by kernel_rfl)
    (of_decide_eq_true (by kernel_rfl)) (by unfold Func.isWrapper; first | (rw [if_pos (by decide +kernel)]; kernel_rfl) | (rw [if_neg (by decide +kernel)]; exact ⟨rfl, rfl⟩))
    (fun os started H enc _ F => by rw [OpenClaim.pre_eq_preRow]; exact lifted os started H enc F)
theorem plain (f : FuncId) (fn : Func) (hf : Tryd.pinned.checked.prog.funcNamed "pellicle/pelliclelaw05.RealSame" = some f) (hfn : Tryd.pinned.checked.prog.funcs[f]? = some fn) :
    false = Tryd.pinned.checked.prog.looks [] ∧ ∀ (j : Nat) t, fn.params[j]? = some t → Tryd.pinned.checked.prog.wantsStandIn t = false := by
  obtain rfl : f = 5 := Option.some.inj ((show Tryd.prog.funcNamed "pellicle/pelliclelaw05.RealSame" = some 5 by kernel_rfl).symm.trans hf) |>.symm
  obtain rfl : fn = Tryd.f5 := (Option.some.inj (Tryd.func5.symm.trans hfn)).symm
  refine ⟨by kernel_rfl, fun j t ht => ?_⟩
  rw [Tryd.params5] at ht
  have ht2 := Array.mem_of_getElem? ht
  simp at ht2
  first | (rcases ht2 with rfl | rfl | rfl) | (rcases ht2 with rfl | rfl) | subst ht2
  all_goals exact (show Tryd.prog.wantsStandIn _ = false by kernel_rfl)
theorem card : Rows.RealSameCardSaid :=
  Claim7.holds_tied_plain_at .later [] _ _ _ _ said (fun _ h => by cases h) (by kernel_rfl) (fun _ h => by cases h) realSame_row_tie rfl ⟨rfl, rfl⟩ (by kernel_rfl) rfl plain (by kernel_rfl)
end Go.Proofs.YtldkddogadmpbaaDoor.RealSame
