/- Texts never part where they are read. -/
import Derived.Test.YtooeonjkpgbdpaaDoorTwo
namespace Go.Proofs.YtooeonjkpgbdpaaDoor
open Go.RowKit Mat
set_option maxRecDepth 100000
set_option linter.unusedVariables false
set_option linter.unusedSimpArgs false

set_option maxHeartbeats 4000000 in
theorem odd_any (w : World) (s t : ByteArray) :
    Calls Tryd.prog 28 #[.string s, .string t] w (fun e w' => e = .returned (.bool false) ∧ w.grownBy w' none) := by
  obtain ⟨p, hp⟩ : ∃ p, fewB s 200 = p := ⟨_, rfl⟩
  obtain ⟨q, hq⟩ : ∃ q, fewB t 200 = q := ⟨_, rfl⟩
  have F1 : Hid (∀ W, Calls Tryd.prog 41 #[.string s, .int .i64 200] W (fun e w' => e = .returned (.string p) ∧ W = w')) := fun W => by rw [← hp]; exact few_any W s 200 (by omega)
  have F2 : Hid (∀ W, Calls Tryd.prog 41 #[.string t, .int .i64 200] W (fun e w' => e = .returned (.string q) ∧ W = w')) := fun W => by rw [← hq]; exact few_any W t 200 (by omega)
  have sp : p.size ≤ 4096 := by rw [← hp]; have := fewB_size s 200; omega
  have sq : q.size ≤ 4096 := by rw [← hq]; have := fewB_size t 200; omega
  obtain ⟨e1, h1⟩ : ∃ c, cod p = c := ⟨_, rfl⟩
  obtain ⟨e2, h2⟩ : ∃ c, cod q = c := ⟨_, rfl⟩
  obtain ⟨n1, m1⟩ : ∃ c, num p = c := ⟨_, rfl⟩
  obtain ⟨n2, m2⟩ : ∃ c, num q = c := ⟨_, rfl⟩
  have P1 : Hid (∀ W, Calls Tryd.prog 14 #[.string p] W (RetNatE W n1 e1)) := fun W => by rw [← h1, ← m1]; exact Parse_num W p sp
  have P2 : Hid (∀ W, Calls Tryd.prog 14 #[.string q] W (RetNatE W n2 e2)) := fun W => by rw [← h2, ← m2]; exact Parse_num W q sq
  have P3 : Hid (∀ W, Calls Tryd.prog 15 #[.string p] W (RetRefE W n1 e1)) := fun W => by rw [← h1, ← m1]; exact rParse_num W p sp
  have P4 : Hid (∀ W, Calls Tryd.prog 15 #[.string q] W (RetRefE W n2 e2)) := fun W => by rw [← h2, ← m2]; exact rParse_num W q sq
  have t1 : ((e1 : Int) == e1) = true := by simp
  have t2 : ((e2 : Int) == e2) = true := by simp
  clear hp hq sp sq h1 h2 m1 m2
  go_enter Tryd.func28, Tryd.ntmps28
  go_wp2_with fail
  refine (F1.out _).mono ?_
  rintro e w1' ⟨rfl, rfl⟩
  go_wp2_with fail
  refine (P1.out _).mono ?_
  rintro e w1 ⟨v, rfl, ⟨s1, x1, rfl, -, -⟩, g1⟩
  go_wp2_with fail
  refine (F2.out _).mono ?_
  rintro e w2' ⟨rfl, rfl⟩
  go_wp2_with fail
  refine (P2.out _).mono ?_
  rintro e w2 ⟨v, rfl, ⟨s2, x2, rfl, -, -⟩, g2⟩
  go_wp2_with fail
  refine (F1.out _).mono ?_
  rintro e w3' ⟨rfl, rfl⟩
  go_wp2_with fail
  refine (P3.out _).mono ?_
  rintro e w3 ⟨v, rfl, ⟨s3, l3, c3, x3, rfl, -⟩, g3⟩
  go_wp2_with fail
  refine (F2.out _).mono ?_
  rintro e w4' ⟨rfl, rfl⟩
  go_wp2_with fail
  refine (P4.out _).mono ?_
  rintro e w4 ⟨v, rfl, ⟨s4, l4, c4, x4, rfl, -⟩, g4⟩
  have hG := grown_alloc (grown_trans (grown_alloc (grown_trans (grown_alloc (grown_trans (grown_alloc g1 (.cells #[.slice s1 x1.length x1.length] 24)) g2) (.cells #[.slice s2 x2.length x2.length] 24)) g3) (.cells #[.slice s3 l3 c3] 30)) g4) (.cells #[.slice s4 l4 c4] 30)
  clear g1 g2 g3 g4
  go_wp2_with fail
  go_ret
  exact ⟨rfl, hG⟩
end Go.Proofs.YtooeonjkpgbdpaaDoor
