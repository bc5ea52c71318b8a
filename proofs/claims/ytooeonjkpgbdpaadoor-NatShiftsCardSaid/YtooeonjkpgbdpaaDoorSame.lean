/- Whether a number is the document's: it is, where both are one number. -/
import Derived.Test.YtooeonjkpgbdpaaDoorRefText
import Derived.Deep.RegionHeld3
namespace Go.Proofs.YtooeonjkpgbdpaaDoor
open Go.RowKit Mat
set_option maxRecDepth 100000
set_option linter.unusedVariables false
set_option linter.unusedSimpArgs false

theorem Text_any (w : World) (va : Value) (a K : Nat) (ha : NatV w va a) (hK : K ≤ 1000000) (la : a < B ^ K) :
    Calls Tryd.prog 17 #[va] w (RetText w a) := by
  rcases Nat.eq_zero_or_pos a with h | h
  · subst h; exact Text_zero w va ha
  · exact Text_some w va a K ha h hK la
theorem rText_any (w : World) (va : Value) (a : Nat) (ha : RefV w va a) (ba : a < D ^ 1000000) :
    Calls Tryd.prog 52 #[va] w (RetText w a) := by
  rcases Nat.eq_zero_or_pos a with h | h
  · subst h; exact rText_zero w va ha
  · exact rText_some w va a ha h ba
def RetB (w : World) (b : Bool) (e : Ending) (w' : World) : Prop := e = .returned (.bool b) ∧ w.grownBy w' none

set_option maxHeartbeats 4000000 in
theorem same_any (w : World) (va vx : Value) (a K : Nat) (ha : NatV w va a) (hx : RefV w vx a) (hK : K ≤ 1000000) (la : a < B ^ K) (ba : a < D ^ 1000000) :
    Calls Tryd.prog 21 #[va, vx] w (RetB w true) := by
  obtain ⟨sa, xs, rfl, h1, v1⟩ := ha
  obtain ⟨sx, lx, cx, zs, rfl, h2⟩ := hx
  have hgw0 : w.grownBy ((w.alloc (.cells #[.slice sa xs.length xs.length] 24)).alloc (.cells #[.slice sx lx cx] 30)) none := grown_alloc (World.grownBy_alloc _ _ _) _
  have hboxb := heap_new (w.alloc (.cells #[.slice sa xs.length xs.length] 24)) (.cells #[.slice sx lx cx] 30) (w.heap.size + 1) (by simp)
  have hboxa := (Below.heap_alloc _ (.cells #[.slice sx lx cx] 30) w.heap.size (by simp)).trans (heap_new w (.cells #[.slice sa xs.length xs.length] 24) w.heap.size rfl)
  have na : NatV w (.agg #[.slice sa xs.length xs.length]) a := ⟨sa, xs, rfl, h1, v1⟩
  have nx : RefV w (.agg #[.slice sx lx cx]) a := ⟨sx, lx, cx, zs, rfl, h2⟩
  replace na := na.kept hgw0
  replace nx := nx.kept hgw0
  have Hla := Lib.hid la
  have Hba := Lib.hid ba
  clear h1 v1 h2 la ba
  go_enter Tryd.func21, Tryd.ntmps21
  go_wp2_with fail
  generalize ((w.alloc (.cells #[.slice sa xs.length xs.length] 24)).alloc (.cells #[.slice sx lx cx] 30)) = w0 at *
  obtain ⟨ca, fa⟩ := box_cell hboxa
  obtain ⟨cb, fb⟩ := box_cell hboxb
  go_region_held3 (fun w' => w'.cell? ⟨w.heap.size, 0, none⟩ = some (.slice sa xs.length xs.length) ∧ w'.cell? ⟨w.heap.size + 1, 0, none⟩ = some (.slice sx lx cx))
    (first | assumption | exact ⟨ca, cb⟩ | go_keep)
    (first
      | (go_at_call 17; (with_reducible refine (Text_any w0.drew _ a K (na.kept (grown_drew (grown_refl _ _))) hK Hla.out).mono ?_); rintro e w1 ⟨z1, rfl, dz1, vz1, g1⟩; have hG1 := grown_pre w0 g1 rfl rfl rfl rfl; have hS1 := And.intro (hG1.cell ca (by simp)) (hG1.cell cb (by simp)))
      | (go_at_call 52; (with_reducible refine (rText_any w1 _ a (nx.kept hG1) Hba.out).mono ?_); rintro e w2 ⟨z2, rfl, dz2, vz2, g2⟩; (obtain rfl : z2 = z1 := dec_uniq dz2 dz1 (vz2.trans vz1.symm)); have hG2 := grown_trans hG1 g2; have hS2 := And.intro (hG2.cell ca (by simp)) (hG2.cell cb (by simp))))
  go_wp2_with fail
  go_ret
  exact ⟨rfl, grown_trans hgw0 hG2⟩
end Go.Proofs.YtooeonjkpgbdpaaDoor
