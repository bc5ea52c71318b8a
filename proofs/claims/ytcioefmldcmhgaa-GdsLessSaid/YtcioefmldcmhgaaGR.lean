/- Streams as trees: the rules of rows. -/
import Derived.Test.YtcioefmldcmhgaaGQ
namespace Go.Proofs.Ytcioefmldcmhgaa
open Go.RowKit
set_option maxRecDepth 100000
set_option linter.unusedVariables false
set_option linter.unusedSimpArgs false

theorem seq_none {a b : Ru} {l : List KRec} (h : run a l = none) : run (.seq a b) l = none := by simp [run, h]
theorem seq_some {a b : Ru} {l t : List KRec} (h : run a l = some t) : run (.seq a b) l = run b t := by simp [run, h]
theorem tk_none {k : Nat} {y n : Ru} {l : List KRec} (h : tkR k l = none) : run (.tk k y n) l = none := by simp [run, h]
theorem tk_not {k : Nat} {y n : Ru} {l : List KRec} (h : tkR k l = some none) : run (.tk k y n) l = run n l := by simp [run, h]
theorem tk_take {k : Nat} {y n : Ru} {l t : List KRec} (h : tkR k l = some (some t)) : run (.tk k y n) l = run y t := by simp [run, h]
theorem kinds_new (W : World) (ks : List Nat) (g : Nat) (hg : g < W.heap.size) (h : ∀ x ∈ ks, x < 256) : Hid (∀ W2, (W.alloc (.cells (bvs ks).toArray 5)).grownBy W2 (some g) → BySl W2 (some ⟨W.heap.size, 0, none⟩) ks) := Lib.hid fun W2 h2 => by
  have hb : ByBlk (W.alloc (.cells (bvs ks).toArray 5)) W.heap.size ks := ⟨⟨_, heap_new W _ _ rfl, fun i hi => by simp [bvs, List.getElem?_eq_getElem hi]⟩, h⟩
  exact (hb.off h2 (fun e => by have := Option.some.inj e; omega)).sl
theorem RetRu.from {c : Lst} {g : Nat} {w w1 w' : World} {x : Option (List KRec)} {e : Ending} (hg : w.grownBy w1 (some g)) (h : RetRu c g w1 x e w') : RetRu c g w x e w' :=
  h.imp (fun ⟨a, b, k⟩ => ⟨a, b, grown_sg hg k⟩) (fun ⟨t, a, b, k, p⟩ => ⟨t, a, b, grown_sg hg k, p⟩)
theorem Ps.lt {c : Lst} {g : Nat} {W : World} {l : List KRec} (h : Ps c g W l) : g < W.heap.size := heap_lt h.2.2.2.2
theorem Must_new (c : Lst) (hc : c.ok) (W : World) (g n : Nat) (ks : List Nat) (l : List KRec) (hp : Ps c g W l) (hn : ks.length = n) (hb : n ≤ 1000) (hk : ∀ x ∈ ks, x < 256) :
    Calls Try.prog 52 #[.pointer (some ⟨g, 0, none⟩), .slice (some ⟨W.heap.size, 0, none⟩) n n] (W.alloc (.cells (bvs ks).toArray 5)) (RetRu c g W (run (musts ks) l)) :=
  (Must_any c hc _ g n n _ ks l (hp.kept (World.grownBy_alloc W _ none)) hn hb (kinds_new W ks g hp.lt hk)).mono fun _ _ h => h.from (World.grownBy_alloc W _ _)
theorem May_new (c : Lst) (hc : c.ok) (W : World) (g n : Nat) (ks : List Nat) (l : List KRec) (hp : Ps c g W l) (hn : ks.length = n) (hb : n ≤ 1000) (hk : ∀ x ∈ ks, x < 256) :
    Calls Try.prog 67 #[.pointer (some ⟨g, 0, none⟩), .slice (some ⟨W.heap.size, 0, none⟩) n n] (W.alloc (.cells (bvs ks).toArray 5)) (RetRu c g W (run (mays ks) l)) :=
  (May_any c hc _ g n n _ ks l (hp.kept (World.grownBy_alloc W _ none)) hn hb (kinds_new W ks g hp.lt hk)).mono fun _ _ h => h.from (World.grownBy_alloc W _ _)
set_option maxHeartbeats 16000000 in
theorem Trans_any (c : Lst) (hc : c.ok) (w : World) (g : Nat) (l : List KRec) (hp : Ps c g w l) :
    Calls Try.prog 77 #[.pointer (some ⟨g, 0, none⟩)] w (RetRu c g w (run transRu l)) := by
  obtain ⟨x, hx⟩ : ∃ x, run transRu l = x := ⟨_, rfl⟩
  rw [hx]
  have HX := Lib.hid hx
  have HP := Lib.hid hp
  have HC := Lib.hid hc
  have HG : Hid (w.grownBy w (some g)) := Lib.hid (grown_refl _ _)
  clear hc hp hx
  go_enter Try.func77, Try.ntmps77
  go_wp2_with fail
  refine (Takes_any c HC.out w g 26 l HP.out).mono ?_
  rintro e w1 (⟨hT, rfl, hg1⟩ | ⟨hT, rfl, hg1, hp1⟩ | ⟨t1, hT, rfl, hg1, hp1⟩)
  · skip
    have hF : Hid (RetRu c g w x mis w1) := Lib.hid (Or.inl ⟨by rw [← HX.out]; exact tk_none hT, rfl, grown_sg HG.out hg1⟩)
    clear hT hg1
    go_wp2_with fail
    exact ⟨rfl, hF.out⟩
  · skip
    have HX1 := Lib.hid ((tk_not hT).symm.trans HX.out)
    have HP1 := Lib.hid hp1
    have HG1 := Lib.hid (grown_sg HG.out hg1)
    clear hT hg1 hp1
    have hF : Hid (RetRu c g w x (.returned (.tuple #[])) w1) := Lib.hid (Or.inr ⟨l, by rw [← HX1.out]; rfl, rfl, HG1.out, HP1.out⟩)
    go_wp2_with fail
    refine bodyPost_ret (results_none rfl _ _ _) rfl ?_
    exact hF.out
  · skip
    have HX1 := Lib.hid ((tk_take hT).symm.trans HX.out)
    have HP1 := Lib.hid hp1
    have HG1 := Lib.hid (grown_sg HG.out hg1)
    clear hT hg1 hp1
    go_wp2_with fail
    refine (May_new c HC.out w1 g 2 [27, 28] t1 HP1.out rfl (by decide) (by simp)).mono ?_
    rintro e w2 (⟨hT, rfl, hg1⟩ | ⟨t2, hT, rfl, hg1, hp1⟩)
    · skip
      have hF : Hid (RetRu c g w x mis w2) := Lib.hid (Or.inl ⟨by rw [← HX1.out]; exact hT, rfl, grown_sg HG1.out hg1⟩)
      clear hT hg1
      go_wp2_with fail
      exact ⟨rfl, hF.out⟩
    · skip
      have hF : Hid (RetRu c g w x (.returned (.tuple #[])) w2) := Lib.hid (Or.inr ⟨t2, by rw [← HX1.out]; exact hT, rfl, grown_sg HG1.out hg1, hp1⟩)
      clear hT hg1 hp1
      go_wp2_with fail
      refine bodyPost_ret (results_none rfl _ _ _) rfl ?_
      exact hF.out
set_option maxHeartbeats 16000000 in
theorem Drawn_any (c : Lst) (hc : c.ok) (w : World) (g : Nat) (kd : Nat) (hkd : kd < 256) (l : List KRec) (hp : Ps c g w l) :
    Calls Try.prog 75 #[.pointer (some ⟨g, 0, none⟩), .int .u8 (kd : Int)] w (RetRu c g w (run (drawnRu kd) l)) := by
  obtain ⟨x, hx⟩ : ∃ x, run (drawnRu kd) l = x := ⟨_, rfl⟩
  rw [hx]
  have HX := Lib.hid hx
  have HP := Lib.hid hp
  have HC := Lib.hid hc
  have HG : Hid (w.grownBy w (some g)) := Lib.hid (grown_refl _ _)
  clear hc hp hx
  go_enter Try.func75, Try.ntmps75
  go_wp2_with fail
  refine (May_new c HC.out w g 2 [38, 47] l HP.out rfl (by decide) (by simp)).mono ?_
  rintro e w3 (⟨hT, rfl, hg1⟩ | ⟨t3, hT, rfl, hg1, hp1⟩)
  · skip
    have hF : Hid (RetRu c g w x mis w3) := Lib.hid (Or.inl ⟨by rw [← HX.out]; exact seq_none hT, rfl, grown_sg HG.out hg1⟩)
    clear hT hg1
    go_wp2_with fail
    exact ⟨rfl, hF.out⟩
  · skip
    have HX3 := Lib.hid ((seq_some hT).symm.trans HX.out)
    have HP3 := Lib.hid hp1
    have HG3 := Lib.hid (grown_sg HG.out hg1)
    clear hT hg1 hp1
    go_wp2_with fail
    refine (Must_new c HC.out w3 g 2 [13, kd] t3 HP3.out rfl (by decide) (by simp <;> omega)).mono ?_
    rintro e w4 (⟨hT, rfl, hg1⟩ | ⟨t4, hT, rfl, hg1, hp1⟩)
    · skip
      have hF : Hid (RetRu c g w x mis w4) := Lib.hid (Or.inl ⟨by rw [← HX3.out]; exact hT, rfl, grown_sg HG3.out hg1⟩)
      clear hT hg1
      go_wp2_with fail
      exact ⟨rfl, hF.out⟩
    · skip
      have hF : Hid (RetRu c g w x (.returned (.tuple #[])) w4) := Lib.hid (Or.inr ⟨t4, by rw [← HX3.out]; exact hT, rfl, grown_sg HG3.out hg1, hp1⟩)
      clear hT hg1 hp1
      go_wp2_with fail
      refine bodyPost_ret (results_none rfl _ _ _) rfl ?_
      exact hF.out
set_option maxHeartbeats 16000000 in
theorem Referred_any (c : Lst) (hc : c.ok) (w : World) (g : Nat) (l : List KRec) (hp : Ps c g w l) :
    Calls Try.prog 76 #[.pointer (some ⟨g, 0, none⟩)] w (RetRu c g w (run referredRu l)) := by
  obtain ⟨x, hx⟩ : ∃ x, run referredRu l = x := ⟨_, rfl⟩
  rw [hx]
  have HX := Lib.hid hx
  have HP := Lib.hid hp
  have HC := Lib.hid hc
  have HG : Hid (w.grownBy w (some g)) := Lib.hid (grown_refl _ _)
  clear hc hp hx
  go_enter Try.func76, Try.ntmps76
  go_wp2_with fail
  refine (May_new c HC.out w g 2 [38, 47] l HP.out rfl (by decide) (by simp)).mono ?_
  rintro e w5 (⟨hT, rfl, hg1⟩ | ⟨t5, hT, rfl, hg1, hp1⟩)
  · skip
    have hF : Hid (RetRu c g w x mis w5) := Lib.hid (Or.inl ⟨by rw [← HX.out]; exact seq_none hT, rfl, grown_sg HG.out hg1⟩)
    clear hT hg1
    go_wp2_with fail
    exact ⟨rfl, hF.out⟩
  · skip
    have HX5 := Lib.hid ((seq_some hT).symm.trans HX.out)
    have HP5 := Lib.hid hp1
    have HG5 := Lib.hid (grown_sg HG.out hg1)
    clear hT hg1 hp1
    go_wp2_with fail
    refine (Must_new c HC.out w5 g 1 [18] t5 HP5.out rfl (by decide) (by simp)).mono ?_
    rintro e w6 (⟨hT, rfl, hg1⟩ | ⟨t6, hT, rfl, hg1, hp1⟩)
    · skip
      have hF : Hid (RetRu c g w x mis w6) := Lib.hid (Or.inl ⟨by rw [← HX5.out]; exact seq_none hT, rfl, grown_sg HG5.out hg1⟩)
      clear hT hg1
      go_wp2_with fail
      exact ⟨rfl, hF.out⟩
    · skip
      have HX6 := Lib.hid ((seq_some hT).symm.trans HX5.out)
      have HP6 := Lib.hid hp1
      have HG6 := Lib.hid (grown_sg HG5.out hg1)
      clear hT hg1 hp1
      go_wp2_with fail
      refine (Trans_any c HC.out w6 g t6 HP6.out).mono ?_
      rintro e w7 (⟨hT, rfl, hg1⟩ | ⟨t7, hT, rfl, hg1, hp1⟩)
      · skip
        have hF : Hid (RetRu c g w x mis w7) := Lib.hid (Or.inl ⟨by rw [← HX6.out]; exact hT, rfl, grown_sg HG6.out hg1⟩)
        clear hT hg1
        go_wp2_with fail
        exact ⟨rfl, hF.out⟩
      · skip
        have hF : Hid (RetRu c g w x (.returned (.tuple #[])) w7) := Lib.hid (Or.inr ⟨t7, by rw [← HX6.out]; exact hT, rfl, grown_sg HG6.out hg1, hp1⟩)
        clear hT hg1 hp1
        go_wp2_with fail
        refine bodyPost_ret (results_none rfl _ _ _) rfl ?_
        exact hF.out
set_option maxHeartbeats 16000000 in
theorem Title_any (c : Lst) (hc : c.ok) (w : World) (g : Nat) (l : List KRec) (hp : Ps c g w l) :
    Calls Try.prog 60 #[.pointer (some ⟨g, 0, none⟩)] w (RetRu c g w (run titleRu l)) := by
  obtain ⟨x, hx⟩ : ∃ x, run titleRu l = x := ⟨_, rfl⟩
  rw [hx]
  have HX := Lib.hid hx
  have HP := Lib.hid hp
  have HC := Lib.hid hc
  have HG : Hid (w.grownBy w (some g)) := Lib.hid (grown_refl _ _)
  clear hc hp hx
  go_enter Try.func60, Try.ntmps60
  go_wp2_with fail
  refine (Must_new c HC.out w g 2 [5, 6] l HP.out rfl (by decide) (by simp)).mono ?_
  rintro e w8 (⟨hT, rfl, hg1⟩ | ⟨t8, hT, rfl, hg1, hp1⟩)
  · skip
    have hF : Hid (RetRu c g w x mis w8) := Lib.hid (Or.inl ⟨by rw [← HX.out]; exact seq_none hT, rfl, grown_sg HG.out hg1⟩)
    clear hT hg1
    go_wp2_with fail
    exact ⟨rfl, hF.out⟩
  · skip
    have HX8 := Lib.hid ((seq_some hT).symm.trans HX.out)
    have HP8 := Lib.hid hp1
    have HG8 := Lib.hid (grown_sg HG.out hg1)
    clear hT hg1 hp1
    go_wp2_with fail
    refine (May_new c HC.out w8 g 1 [52] t8 HP8.out rfl (by decide) (by simp)).mono ?_
    rintro e w9 (⟨hT, rfl, hg1⟩ | ⟨t9, hT, rfl, hg1, hp1⟩)
    · skip
      have hF : Hid (RetRu c g w x mis w9) := Lib.hid (Or.inl ⟨by rw [← HX8.out]; exact hT, rfl, grown_sg HG8.out hg1⟩)
      clear hT hg1
      go_wp2_with fail
      exact ⟨rfl, hF.out⟩
    · skip
      have hF : Hid (RetRu c g w x (.returned (.tuple #[])) w9) := Lib.hid (Or.inr ⟨t9, by rw [← HX8.out]; exact hT, rfl, grown_sg HG8.out hg1, hp1⟩)
      clear hT hg1 hp1
      go_wp2_with fail
      refine bodyPost_ret (results_none rfl _ _ _) rfl ?_
      exact hF.out
end Go.Proofs.Ytcioefmldcmhgaa
