/- Streams as trees: rules: must, may, many. -/
import Derived.Test.YtcioefmldcmhgaaGP
import Derived.Test.YtcioefmldcmhgaaGM2
namespace Go.Proofs.Ytcioefmldcmhgaa
open Go.RowKit
set_option maxRecDepth 100000
set_option linter.unusedVariables false
set_option linter.unusedSimpArgs false

/-- What a rule answers: a misfit, or the parser stands behind what it lets go by. -/
def RetRu (c : Lst) (g : Nat) (w : World) (x : Option (List KRec)) (e : Ending) (w' : World) : Prop :=
  (x = none ∧ e = mis ∧ w.grownBy w' (some g)) ∨ (∃ t, x = some t ∧ e = .returned (.tuple #[]) ∧ w.grownBy w' (some g) ∧ Ps c g w' t)
theorem musts_misfit {k : Nat} {ks : List Nat} {m : List KRec} (h : ∀ t, tkR k m ≠ some (some t)) : run (musts (k :: ks)) m = none := by
  cases hT : tkR k m with
  | none => simp [musts, run, hT]
  | some o =>
    cases o with
    | none => simp [musts, run, hT]
    | some u => exact absurd hT (h u)
theorem musts_more {k : Nat} {ks : List Nat} {m t : List KRec} (h : tkR k m = some (some t)) : run (musts (k :: ks)) m = run (musts ks) t := by simp [musts, run, h]
theorem mays_misfit {k : Nat} {ks : List Nat} {m : List KRec} (h : tkR k m = none) : run (mays (k :: ks)) m = none := by simp [mays, run, h]
theorem mays_more {k : Nat} {ks : List Nat} {m t : List KRec} (h : tkR k m = some (some t)) : run (mays (k :: ks)) m = run (mays ks) t := by simp [mays, run, h]
theorem mays_not {k : Nat} {ks : List Nat} {m : List KRec} (h : tkR k m = some none) : run (mays (k :: ks)) m = run (mays ks) m := by simp [mays, run, h]
theorem grown_sg {a b c : World} {g : Nat} (h : a.grownBy b (some g)) (k : b.grownBy c (some g)) : a.grownBy c (some g) := grown_trans h k
theorem drop_at {l : List Nat} {j : Nat} (h : j < l.length) : l.drop j = l.getD j 0 :: l.drop (j + 1) := by
  rw [List.drop_eq_getElem_cons h, List.getD_eq_getElem?_getD, List.getElem?_eq_getElem h]; rfl
set_option maxHeartbeats 16000000 in
theorem Must_any (c : Lst) (hc : c.ok) (w : World) (g n cap : Nat) (a : Addr) (ks : List Nat) (l : List KRec) (hp : Ps c g w l) (hn : ks.length = n) (hb : n ≤ 1000) (HK : Hid (∀ W, w.grownBy W (some g) → BySl W (some a) ks)) :
    Calls Try.prog 52 #[.pointer (some ⟨g, 0, none⟩), .slice (some a) n cap] w (RetRu c g w (run (musts ks) l)) := by
  obtain ⟨x, hx⟩ : ∃ x, run (musts ks) l = x := ⟨_, rfl⟩
  rw [hx]
  have HP := Lib.hid hp
  have HC := Lib.hid hc
  have HN := Lib.hid hn
  have hG : w.grownBy w (some g) := grown_refl _ _
  clear hc hp hn
  go_enter Try.func52, Try.ntmps52
  go_wp2_with fail
  go_loopg [8] n (fun gh i wr => ∃ (j : Nat) (m : List KRec), j ≤ n ∧ n - j ≤ gh ∧ i = .int .i64 (j : Int) ∧ Hid (run (musts (ks.drop j)) m = x) ∧ Hid (Ps c g wr m) ∧ w.grownBy wr (some g))
  case atStart => exact ⟨0, l, Nat.zero_le _, Nat.le_refl _, rfl, Lib.hid hx, HP, hG⟩
  case round =>
    clear hG HP hx
    obtain ⟨j, m, hj, hgh, rfl, HX, HP, hG⟩ := hrel
    by_cases hlt : j < n
    · have f1 : decide ((j : Int) < (n : Int)) = true := decide_eq_true (by omega)
      have hjl : j < ks.length := by rw [HN.out]; exact hlt
      have hcell := (HK.out _ hG).get j hjl
      have HD := Lib.hid (drop_at hjl)
      obtain ⟨y, hy⟩ : ∃ y, ks.getD j 0 = y := ⟨_, rfl⟩
      rw [hy] at hcell HD
      have HG := Lib.hid hG
      clear hy hjl hG
      go_wp2_with fail
      refine (Takes_any c HC.out wr g y m HP.out).mono ?_
      rintro e w1 (⟨hT, rfl, hg1⟩ | ⟨hT, rfl, hg1, hp1⟩ | ⟨t, hT, rfl, hg1, hp1⟩)
      · have hF : Hid (RetRu c g w x mis w1) := Lib.hid (Or.inl ⟨by rw [← HX.out, HD.out]; exact musts_misfit (fun t h => by rw [hT] at h; cases h), rfl, grown_sg HG.out hg1⟩)
        clear hT hg1
        go_wp2_with fail
        exact ⟨rfl, hF.out⟩
      · have hF : Hid (RetRu c g w x mis w1) := Lib.hid (Or.inl ⟨by rw [← HX.out, HD.out]; exact musts_misfit (fun t h => by rw [hT] at h; cases h), rfl, grown_sg HG.out hg1⟩)
        clear hT hg1 hp1
        go_wp2_with fail
        exact ⟨rfl, hF.out⟩
      · have HX2 := Lib.hid (show run (musts (ks.drop (j + 1))) t = x by rw [← HX.out, HD.out]; exact (musts_more hT).symm)
        have HP2 := Lib.hid hp1
        have HG2 := Lib.hid (grown_sg HG.out hg1)
        clear hT hg1 hp1
        go_wp2_with fail
        go_roundg (n - (j + 1))
        case measure => omega
        case rel => exact ⟨j + 1, t, by omega, Nat.le_refl _, by go_num, HX2, HP2, HG2.out⟩
    · have f1 : decide ((j : Int) < (n : Int)) = false := decide_eq_false (by omega)
      have hF : Hid (RetRu c g w x (.returned (.tuple #[])) wr) := Lib.hid (Or.inr ⟨m, by rw [← HX.out, List.drop_eq_nil_of_le (by have := HN.out; omega)]; rfl, rfl, hG, HP.out⟩)
      clear hG
      go_wp2_with fail
      refine bodyPost_ret (results_none rfl _ _ _) rfl ?_
      exact hF.out
set_option maxHeartbeats 16000000 in
theorem May_any (c : Lst) (hc : c.ok) (w : World) (g n cap : Nat) (a : Addr) (ks : List Nat) (l : List KRec) (hp : Ps c g w l) (hn : ks.length = n) (hb : n ≤ 1000) (HK : Hid (∀ W, w.grownBy W (some g) → BySl W (some a) ks)) :
    Calls Try.prog 67 #[.pointer (some ⟨g, 0, none⟩), .slice (some a) n cap] w (RetRu c g w (run (mays ks) l)) := by
  obtain ⟨x, hx⟩ : ∃ x, run (mays ks) l = x := ⟨_, rfl⟩
  rw [hx]
  have HP := Lib.hid hp
  have HC := Lib.hid hc
  have HN := Lib.hid hn
  have hG : w.grownBy w (some g) := grown_refl _ _
  clear hc hp hn
  go_enter Try.func67, Try.ntmps67
  go_wp2_with fail
  go_loopg [8] n (fun gh i wr => ∃ (j : Nat) (m : List KRec), j ≤ n ∧ n - j ≤ gh ∧ i = .int .i64 (j : Int) ∧ Hid (run (mays (ks.drop j)) m = x) ∧ Hid (Ps c g wr m) ∧ w.grownBy wr (some g))
  case atStart => exact ⟨0, l, Nat.zero_le _, Nat.le_refl _, rfl, Lib.hid hx, HP, hG⟩
  case round =>
    clear hG HP hx
    obtain ⟨j, m, hj, hgh, rfl, HX, HP, hG⟩ := hrel
    by_cases hlt : j < n
    · have f1 : decide ((j : Int) < (n : Int)) = true := decide_eq_true (by omega)
      have hjl : j < ks.length := by rw [HN.out]; exact hlt
      have hcell := (HK.out _ hG).get j hjl
      have HD := Lib.hid (drop_at hjl)
      obtain ⟨y, hy⟩ : ∃ y, ks.getD j 0 = y := ⟨_, rfl⟩
      rw [hy] at hcell HD
      have HG := Lib.hid hG
      clear hy hjl hG
      go_wp2_with fail
      refine (Takes_any c HC.out wr g y m HP.out).mono ?_
      rintro e w1 (⟨hT, rfl, hg1⟩ | ⟨hT, rfl, hg1, hp1⟩ | ⟨t, hT, rfl, hg1, hp1⟩)
      · have hF : Hid (RetRu c g w x mis w1) := Lib.hid (Or.inl ⟨by rw [← HX.out, HD.out]; exact mays_misfit hT, rfl, grown_sg HG.out hg1⟩)
        clear hT hg1
        go_wp2_with fail
        exact ⟨rfl, hF.out⟩
      · have HX2 := Lib.hid (show run (mays (ks.drop (j + 1))) m = x by rw [← HX.out, HD.out]; exact (mays_not hT).symm)
        have HP2 := Lib.hid hp1
        have HG2 := Lib.hid (grown_sg HG.out hg1)
        clear hT hg1 hp1
        go_wp2_with fail
        go_roundg (n - (j + 1))
        case measure => omega
        case rel => exact ⟨j + 1, m, by omega, Nat.le_refl _, by go_num, HX2, HP2, HG2.out⟩
      · have HX2 := Lib.hid (show run (mays (ks.drop (j + 1))) t = x by rw [← HX.out, HD.out]; exact (mays_more hT).symm)
        have HP2 := Lib.hid hp1
        have HG2 := Lib.hid (grown_sg HG.out hg1)
        clear hT hg1 hp1
        go_wp2_with fail
        go_roundg (n - (j + 1))
        case measure => omega
        case rel => exact ⟨j + 1, t, by omega, Nat.le_refl _, by go_num, HX2, HP2, HG2.out⟩
    · have f1 : decide ((j : Int) < (n : Int)) = false := decide_eq_false (by omega)
      have hF : Hid (RetRu c g w x (.returned (.tuple #[])) wr) := Lib.hid (Or.inr ⟨m, by rw [← HX.out, List.drop_eq_nil_of_le (by have := HN.out; omega)]; rfl, rfl, hG, HP.out⟩)
      clear hG
      go_wp2_with fail
      refine bodyPost_ret (results_none rfl _ _ _) rfl ?_
      exact hF.out
/-- What many answers. -/
def RetMany (c : Lst) (g : Nat) (w : World) (k : Nat) (l : List KRec) (e : Ending) (w' : World) : Prop :=
  (manyR k l = none ∧ e = mis ∧ w.grownBy w' (some g)) ∨ (∃ t b, manyR k l = some t ∧ e = .returned (.bool b) ∧ (b = true ↔ ∃ u, tkR k l = some (some u)) ∧ w.grownBy w' (some g) ∧ Ps c g w' t)
theorem many_misfit {k : Nat} {m : List KRec} (h : tkR k m = none) : manyR k m = none := by
  cases m with
  | nil => cases h
  | cons r t =>
    simp only [tkR] at h
    split at h
    · split at h
      · cases h
      · rename_i h1 h2; simp [manyR, h1, h2]
    · cases h
theorem many_more {k : Nat} {m t : List KRec} (h : tkR k m = some (some t)) : manyR k m = manyR k t := by
  obtain ⟨r, rfl, rfl, h2⟩ := tk_some h
  simp [manyR, h2]
theorem many_not {k : Nat} {m : List KRec} (h : tkR k m = some none) : manyR k m = some m := by
  cases m with
  | nil => rfl
  | cons r t =>
    simp only [tkR] at h
    split at h
    · split at h <;> cases h
    · rename_i h1; simp [manyR, h1]
theorem tk_len {k : Nat} {m t : List KRec} (h : tkR k m = some (some t)) : m.length = t.length + 1 := by
  obtain ⟨r, rfl, _⟩ := tk_some h
  rfl
def ManyInv (kd : Nat) (l : List KRec) (b : Bool) (m : List KRec) : Prop := manyR kd m = manyR kd l ∧ (b = true → ∃ u, tkR kd l = some (some u)) ∧ (b = false → m = l)
set_option maxHeartbeats 16000000 in
theorem Many_any (c : Lst) (hc : c.ok) (w : World) (g kd : Nat) (l : List KRec) (hp : Ps c g w l) :
    Calls Try.prog 69 #[.pointer (some ⟨g, 0, none⟩), .int .u8 (kd : Int)] w (RetMany c g w kd l) := by
  have HP := Lib.hid hp
  have HC := Lib.hid hc
  have hG : w.grownBy w (some g) := grown_refl _ _
  clear hc hp
  go_enter Try.func69, Try.ntmps69
  go_wp2_with fail
  have HX0 : Hid (ManyInv kd l false l) := Lib.hid ⟨rfl, (fun h => by cases h), fun _ => rfl⟩
  go_loopg [5] l.length (fun gh i wr => ∃ (b : Bool) (m : List KRec), m.length ≤ gh ∧ i = .bool b ∧ Hid (ManyInv kd l b m) ∧ Hid (Ps c g wr m) ∧ w.grownBy wr (some g))
  case atStart => exact ⟨false, l, Nat.le_refl _, rfl, HX0, HP, hG⟩
  case round =>
    clear hG HP
    obtain ⟨b, m, hgh, rfl, HX, HP, hG⟩ := hrel
    have HG := Lib.hid hG
    have HGH := Lib.hid hgh
    clear hG hgh
    go_wp2_with fail
    refine (Takes_any c HC.out wr g kd m HP.out).mono ?_
    rintro e w1 (⟨hT, rfl, hg1⟩ | ⟨hT, rfl, hg1, hp1⟩ | ⟨t, hT, rfl, hg1, hp1⟩)
    · have hF : Hid (RetMany c g w kd l mis w1) := Lib.hid (Or.inl ⟨by rw [← HX.out.1]; exact many_misfit hT, rfl, grown_sg HG.out hg1⟩)
      clear hT hg1
      go_wp2_with fail
      exact ⟨rfl, hF.out⟩
    · have hF : Hid (RetMany c g w kd l (.returned (.bool b)) w1) := Lib.hid (Or.inr ⟨m, b, by rw [← HX.out.1]; exact many_not hT, rfl, ⟨HX.out.2.1, fun ⟨u, hu⟩ => by
        cases b with
        | true => rfl
        | false => rw [HX.out.2.2 rfl, hu] at hT; cases hT⟩, grown_sg HG.out hg1, hp1⟩)
      clear hT hg1 hp1
      go_wp2_with fail
      go_ret
      exact hF.out
    · have HX2 : Hid (ManyInv kd l true t) := Lib.hid ⟨by rw [← HX.out.1]; exact (many_more hT).symm, fun _ => by
        cases b with
        | true => exact HX.out.2.1 rfl
        | false => rw [← HX.out.2.2 rfl]; exact ⟨t, hT⟩, fun h => by cases h⟩
      have HP2 := Lib.hid hp1
      have HG2 := Lib.hid (grown_sg HG.out hg1)
      have HL := Lib.hid (tk_len hT)
      clear hT hg1 hp1
      go_wp2_with fail
      go_roundg t.length
      case measure => have := HL.out; have := HGH.out; omega
      case rel => exact ⟨true, t, Nat.le_refl _, rfl, HX2, HP2, HG2.out⟩
end Go.Proofs.Ytcioefmldcmhgaa
