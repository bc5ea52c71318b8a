/- What the laws lean on, part 17. -/
import Derived.Below
import Derived.BigCall
import Derived.BigQuiet
import Derived.BigRegion
import Derived.Deep.AppendLies
import Derived.Deep.CutBlock
import Derived.Deep.CutRange
import Derived.Deep.DeepCutAuto
import Derived.Deep.DeepHandedRow
import Derived.Deep.LoopGhost
import Derived.Deep.MidRow
import Derived.Deep.QuietTactic
import Derived.Deep.RegionHeld3
import Derived.Deep.RegionLaw
import Derived.Deep.WholeRow
import Derived.Laws.AppendOwn
import Derived.Laws.Concat
import Derived.Laws.CopyOwn
import Derived.Laws.Externs
import Derived.Laws.IdiomStrings
import Derived.Lib.BitFns
import Derived.Lib.Bytealg
import Derived.Lib.Hide
import Derived.Lib.Slices
import Derived.Lib.Small
import Derived.Lib.Strings
import Derived.Lib.Walk
import Derived.LoopN
import Derived.Maps.AppendAt
import Derived.OpenShut
import Derived.OrdersHeld
import Derived.Outline
import Derived.OwnWalk
import Derived.ProofKit
import Derived.Shelf.Bits.Mul64
import Derived.Shelf.Spec.TrailingZeros
import Derived.StillTailTactics
import Derived.WalkKit
import Derived.WalkLawsBesides
import Derived.WalkSpells
import Derived.Test.YtoaepibannfbdaaGreatDoorProg
import Derived.Test.YtoaepibannfbdaaGreatDoorRows
import Derived.Test.YtoaepibannfbdaaGreatDoorMr16
namespace Go.Proofs.YtoaepibannfbdaaGreatDoor.PM
set_option linter.unusedVariables false
set_option linter.unusedSimpArgs false
def sq (p q : Pq) : Rat := (q.1 - p.1) * (q.1 - p.1) + (q.2 - p.2) * (q.2 - p.2)
theorem sq_nonneg' (p q : Pq) : 0 ≤ sq p q := by have := sq_nonneg (q.1 - p.1); have := sq_nonneg (q.2 - p.2); unfold sq; grind
theorem sq_comm (p q : Pq) : sq p q = sq q p := by unfold sq; grind
theorem sq_zero {p q : Pq} (h : sq p q = 0) : p = q := by
  have h1 := sq_nonneg (q.1 - p.1); have h2 := sq_nonneg (q.2 - p.2)
  have e1 : (q.1 - p.1) = 0 := Classical.byContradiction fun h3 => by have := sq_pos h3; unfold sq at h; grind
  have e2 : (q.2 - p.2) = 0 := Classical.byContradiction fun h3 => by have := sq_pos h3; unfold sq at h; grind
  exact Prod.ext (by grind) (by grind)
theorem sq_self (p : Pq) : sq p p = 0 := by unfold sq; grind
theorem pdot_sq (a b : Pq) : pdot a b b = sq a b := rfl
theorem sq_pat (a b p : Pq) (t : Rat) : sq (pat a b t) p = sq a p - 2 * t * pdot a b p + t * t * sq a b := by unfold sq pdot pat; grind
theorem sq_mix (a b p : Pq) (t : Rat) : sq (pat a b t) p = (1 - t) * sq a p + t * sq b p - t * (1 - t) * sq a b := by unfold sq pat; grind
def toP (a b p : Pq) : Rat :=
  if sq a b = 0 then sq a p
  else if pdot a b p / sq a b ≤ 0 then sq a p
  else if 1 ≤ pdot a b p / sq a b then sq b p
  else sq a p - pdot a b p / sq a b * (pdot a b p / sq a b) * sq a b
theorem pat_0 (a b : Pq) : pat a b 0 = a := by unfold pat; exact Prod.ext (by simp; grind) (by simp; grind)
theorem pat_1 (a b : Pq) : pat a b 1 = b := by unfold pat; exact Prod.ext (by simp; grind) (by simp; grind)
theorem toP_has (a b p : Pq) : ∃ q, InS a b q ∧ sq q p = toP a b p := by
  unfold toP
  split
  · exact ⟨a, ins_left _ _, rfl⟩
  · rename_i h0
    split
    · exact ⟨a, ins_left _ _, rfl⟩
    · rename_i h1
      split
      · exact ⟨b, ins_right _ _, rfl⟩
      · rename_i h2
        refine ⟨_, ⟨pdot a b p / sq a b, by grind, by grind, rfl⟩, ?_⟩
        rw [sq_pat]
        have e : pdot a b p / sq a b * sq a b = pdot a b p := Rat.div_mul_cancel h0
        generalize pdot a b p / sq a b = t at *
        grind
theorem toP_le (a b p q : Pq) (h : InS a b q) : toP a b p ≤ sq q p := by
  obtain ⟨t, t0, t1, rfl⟩ := h
  unfold toP
  split
  · rename_i h0
    have e := sq_zero h0
    subst e
    have : pat a a t = a := by unfold pat; exact Prod.ext (by simp; grind) (by simp; grind)
    rw [this]; exact Rat.le_refl
  · rename_i h0
    have hl : 0 < sq a b := by have := sq_nonneg' a b; grind
    have e : pdot a b p / sq a b * sq a b = pdot a b p := Rat.div_mul_cancel h0
    rw [sq_pat]
    have e2 : sq b p = sq a p - 2 * pdot a b p + sq a b := by have := sq_pat a b p 1; rw [pat_1] at this; grind
    generalize pdot a b p / sq a b = k at *
    generalize pdot a b p = d at *
    generalize sq a b = L at *
    generalize sq a p = A at *
    subst e
    split
    · rename_i h1
      have h3 := Rat.mul_nonneg t0 (Rat.mul_nonneg (show 0 ≤ -k by grind) (Rat.le_of_lt hl))
      have h4 := Rat.mul_nonneg (Rat.mul_nonneg t0 t0) (Rat.le_of_lt hl)
      grind
    · split
      · rename_i h1 h2
        rw [e2]
        have h3 := Rat.mul_nonneg (show 0 ≤ 1 - t by grind) (Rat.mul_nonneg (show 0 ≤ k - 1 by grind) (Rat.le_of_lt hl))
        have h4 := Rat.mul_nonneg (Rat.mul_nonneg (show 0 ≤ 1 - t by grind) (show 0 ≤ 1 - t by grind)) (Rat.le_of_lt hl)
        grind
      · have h4 := Rat.mul_nonneg (sq_nonneg (t - k)) (Rat.le_of_lt hl)
        grind
def IsLeast2 (a b c d : Pq) (m : Rat) : Prop := (∃ p q, InS a b p ∧ InS c d q ∧ sq p q = m) ∧ ∀ p q, InS a b p → InS c d q → m ≤ sq p q
theorem isLeast_uniq {a b c d : Pq} {m m' : Rat} (h : IsLeast2 a b c d m) (h' : IsLeast2 a b c d m') : m = m' := by
  obtain ⟨⟨p, q, h1, h2, h3⟩, h4⟩ := h
  obtain ⟨⟨p', q', h1', h2', h3'⟩, h4'⟩ := h'
  have := h4 p' q' h1' h2'
  have := h4' p q h1 h2
  grind
theorem one_out {t α : Rat} (h0 : 0 ≤ t) (h1 : t ≤ 1) (ha : α ≠ 0) : ∃ τ, 0 ≤ τ ∧ (t + τ * α = 0 ∨ t + τ * α = 1) ∧ (∀ σ, 0 ≤ σ → σ ≤ τ → 0 ≤ t + σ * α ∧ t + σ * α ≤ 1) ∧ (¬ (0 ≤ t + α ∧ t + α ≤ 1) → τ ≤ 1) := by
  rcases (show α < 0 ∨ 0 < α by grind) with h | h
  · have e : t / (-α) * (-α) = t := Rat.div_mul_cancel (by grind)
    generalize t / (-α) = τ at *
    have hp : 0 ≤ τ := Classical.byContradiction fun z => by
      have := Rat.mul_pos (show 0 < -τ by grind) (show 0 < -α by grind)
      grind
    refine ⟨τ, hp, .inl (by grind), fun σ s0 s1 => ?_, fun hn => ?_⟩
    · have := Rat.mul_nonneg s0 (show 0 ≤ -α by grind)
      have := Rat.mul_nonneg (show 0 ≤ τ - σ by grind) (show 0 ≤ -α by grind)
      constructor <;> grind
    · refine Classical.byContradiction fun h2 => hn ?_
      have := Rat.mul_pos (show 0 < τ - 1 by grind) (show 0 < -α by grind)
      constructor <;> grind
  · have e : (1 - t) / α * α = 1 - t := Rat.div_mul_cancel (by grind)
    generalize (1 - t) / α = τ at *
    have hp : 0 ≤ τ := Classical.byContradiction fun z => by
      have := Rat.mul_pos (show 0 < -τ by grind) h
      grind
    refine ⟨τ, hp, .inr (by grind), fun σ s0 s1 => ?_, fun hn => ?_⟩
    · have := Rat.mul_nonneg s0 (Rat.le_of_lt h)
      have := Rat.mul_nonneg (show 0 ≤ τ - σ by grind) (Rat.le_of_lt h)
      constructor <;> grind
    · refine Classical.byContradiction fun h2 => hn ?_
      have := Rat.mul_pos (show 0 < τ - 1 by grind) h
      constructor <;> grind
theorem two_out {t u α β : Rat} (t0 : 0 ≤ t) (t1 : t ≤ 1) (u0 : 0 ≤ u) (u1 : u ≤ 1) (hab : α ≠ 0 ∨ β ≠ 0) :
    ∃ τ, 0 ≤ τ ∧ 0 ≤ t + τ * α ∧ t + τ * α ≤ 1 ∧ 0 ≤ u + τ * β ∧ u + τ * β ≤ 1 ∧ (t + τ * α = 0 ∨ t + τ * α = 1 ∨ u + τ * β = 0 ∨ u + τ * β = 1) ∧
      (¬ (0 ≤ t + α ∧ t + α ≤ 1 ∧ 0 ≤ u + β ∧ u + β ≤ 1) → τ ≤ 1) := by
  by_cases ha : α = 0
  · subst ha
    obtain ⟨τ, h1, h2, h3, h4⟩ := one_out u0 u1 (hab.resolve_left (fun h => h rfl))
    have := h3 τ h1 Rat.le_refl
    exact ⟨τ, h1, by grind, by grind, this.1, this.2, by grind, fun hn => h4 fun h => hn (by grind)⟩
  · by_cases hb : β = 0
    · subst hb
      obtain ⟨τ, h1, h2, h3, h4⟩ := one_out t0 t1 ha
      have := h3 τ h1 Rat.le_refl
      exact ⟨τ, h1, this.1, this.2, by grind, by grind, by grind, fun hn => h4 fun h => hn (by grind)⟩
    · obtain ⟨τ, h1, h2, h3, h4⟩ := one_out t0 t1 ha
      obtain ⟨σ, k1, k2, k3, k4⟩ := one_out u0 u1 hb
      rcases (show τ ≤ σ ∨ σ ≤ τ by grind) with h | h
      · have a1 := h3 τ h1 Rat.le_refl
        have a2 := k3 τ h1 h
        refine ⟨τ, h1, a1.1, a1.2, a2.1, a2.2, by grind, fun hn => ?_⟩
        by_cases hq : 0 ≤ t + α ∧ t + α ≤ 1
        · have := k4 fun z => hn ⟨hq.1, hq.2, z.1, z.2⟩; grind
        · exact h4 hq
      · have a1 := h3 σ k1 h
        have a2 := k3 σ k1 Rat.le_refl
        refine ⟨σ, k1, a1.1, a1.2, a2.1, a2.2, by grind, fun hn => ?_⟩
        by_cases hq : 0 ≤ t + α ∧ t + α ≤ 1
        · exact k4 fun z => hn ⟨hq.1, hq.2, z.1, z.2⟩
        · have := h4 hq; grind
theorem to_ends {a b c d p q : Pq} (hp : InS a b p) (hq : InS c d q) (hn : ∀ x, ¬ (InS a b x ∧ InS c d x)) :
    ∃ p' q', InS a b p' ∧ InS c d q' ∧ sq p' q' ≤ sq p q ∧ (p' = a ∨ p' = b ∨ q' = c ∨ q' = d) := by
  obtain ⟨t, t0, t1, rfl⟩ := hp
  obtain ⟨u, u0, u1, rfl⟩ := hq
  by_cases hab : a = b
  · subst hab
    exact ⟨_, _, ⟨t, t0, t1, rfl⟩, ⟨u, u0, u1, rfl⟩, Rat.le_refl, .inl (by unfold pat; exact Prod.ext (by simp; grind) (by simp; grind))⟩
  by_cases hcd : c = d
  · subst hcd
    exact ⟨_, _, ⟨t, t0, t1, rfl⟩, ⟨u, u0, u1, rfl⟩, Rat.le_refl, .inr (.inr (.inl (by unfold pat; exact Prod.ext (by simp; grind) (by simp; grind))))⟩
  have fin : ∀ (τ α β : Rat), 0 ≤ t + τ * α → t + τ * α ≤ 1 → 0 ≤ u + τ * β → u + τ * β ≤ 1 → (t + τ * α = 0 ∨ t + τ * α = 1 ∨ u + τ * β = 0 ∨ u + τ * β = 1) → sq (pat a b (t + τ * α)) (pat c d (u + τ * β)) ≤ sq (pat a b t) (pat c d u) →
      ∃ p' q', InS a b p' ∧ InS c d q' ∧ sq p' q' ≤ sq (pat a b t) (pat c d u) ∧ (p' = a ∨ p' = b ∨ q' = c ∨ q' = d) := by
    intro τ α β h1 h2 h3 h4 h5 h6
    refine ⟨_, _, ⟨_, h1, h2, rfl⟩, ⟨_, h3, h4, rfl⟩, h6, ?_⟩
    rcases h5 with h | h | h | h
    · rw [h, pat_0]; exact .inl rfl
    · rw [h, pat_1]; exact .inr (.inl rfl)
    · rw [h, pat_0]; exact .inr (.inr (.inl rfl))
    · rw [h, pat_1]; exact .inr (.inr (.inr rfl))
  obtain ⟨a1, a2⟩ := a; obtain ⟨b1, b2⟩ := b; obtain ⟨c1, c2⟩ := c; obtain ⟨d1, d2⟩ := d
  by_cases hx : (b1 - a1) * (d2 - c2) - (b2 - a2) * (d1 - c1) = 0
  · -- parallel: both go on alike
    have hcd' : d1 - c1 ≠ 0 ∨ d2 - c2 ≠ 0 := Classical.byContradiction fun h => hcd (Prod.ext (by simp; grind) (by simp; grind))
    have hab' : b1 - a1 ≠ 0 ∨ b2 - a2 ≠ 0 := Classical.byContradiction fun h => hab (Prod.ext (by simp; grind) (by simp; grind))
    have key : ∃ α β : Rat, (α ≠ 0 ∨ β ≠ 0) ∧ (b1 - a1) * α = (d1 - c1) * β ∧ (b2 - a2) * α = (d2 - c2) * β := by
      rcases hcd' with h | h
      · refine ⟨d1 - c1, b1 - a1, .inl h, by grind, by grind⟩
      · refine ⟨d2 - c2, b2 - a2, .inl h, by grind, by grind⟩
    obtain ⟨α, β, hne, e1, e2⟩ := key
    obtain ⟨τ, h0, h1, h2, h3, h4, h5, _⟩ := two_out t0 t1 u0 u1 hne
    refine fin τ α β h1 h2 h3 h4 h5 ?_
    simp only [sq, pat]
    have f1 : (c1 + (d1 - c1) * (u + τ * β) - (a1 + (b1 - a1) * (t + τ * α))) = c1 + (d1 - c1) * u - (a1 + (b1 - a1) * t) := by grind
    have f2 : (c2 + (d2 - c2) * (u + τ * β) - (a2 + (b2 - a2) * (t + τ * α))) = c2 + (d2 - c2) * u - (a2 + (b2 - a2) * t) := by grind
    rw [f1, f2]; exact Rat.le_refl
  · -- toward the crossing
    generalize hX : (b1 - a1) * (d2 - c2) - (b2 - a2) * (d1 - c1) = X at *
    generalize hw1 : c1 + (d1 - c1) * u - (a1 + (b1 - a1) * t) = w1
    generalize hw2 : c2 + (d2 - c2) * u - (a2 + (b2 - a2) * t) = w2
    have hα : (w1 * (d2 - c2) - w2 * (d1 - c1)) / X * X = w1 * (d2 - c2) - w2 * (d1 - c1) := Rat.div_mul_cancel hx
    have hβ : (w1 * (b2 - a2) - w2 * (b1 - a1)) / X * X = w1 * (b2 - a2) - w2 * (b1 - a1) := Rat.div_mul_cancel hx
    generalize (w1 * (d2 - c2) - w2 * (d1 - c1)) / X = α at *
    generalize (w1 * (b2 - a2) - w2 * (b1 - a1)) / X = β at *
    have g1 : ((b1 - a1) * α - (d1 - c1) * β - w1) * X = 0 := by grind
    have g2 : ((b2 - a2) * α - (d2 - c2) * β - w2) * X = 0 := by grind
    have g1 : (b1 - a1) * α - (d1 - c1) * β = w1 := by
      rcases Rat.mul_eq_zero.1 g1 with h | h
      · grind
      · exact absurd h hx
    have g2 : (b2 - a2) * α - (d2 - c2) * β = w2 := by
      rcases Rat.mul_eq_zero.1 g2 with h | h
      · grind
      · exact absurd h hx
    have hout : ¬ (0 ≤ t + α ∧ t + α ≤ 1 ∧ 0 ≤ u + β ∧ u + β ≤ 1) := by
      rintro ⟨z1, z2, z3, z4⟩
      refine hn (pat (a1, a2) (b1, b2) (t + α)) ⟨⟨_, z1, z2, rfl⟩, u + β, z3, z4, ?_⟩
      simp only [pat]
      exact Prod.ext (by simp only; grind) (by simp only; grind)
    by_cases hne : α ≠ 0 ∨ β ≠ 0
    · obtain ⟨τ, h0, h1, h2, h3, h4, h5, h6⟩ := two_out t0 t1 u0 u1 hne
      have h6 := h6 hout
      refine fin τ α β h1 h2 h3 h4 h5 ?_
      simp only [sq, pat]
      have f1 : (c1 + (d1 - c1) * (u + τ * β) - (a1 + (b1 - a1) * (t + τ * α))) = (1 - τ) * w1 := by grind
      have f2 : (c2 + (d2 - c2) * (u + τ * β) - (a2 + (b2 - a2) * (t + τ * α))) = (1 - τ) * w2 := by grind
      rw [f1, f2, hw1, hw2]
      have s1 := sq_nonneg w1
      have s2 := sq_nonneg w2
      have := Rat.mul_nonneg (show 0 ≤ τ * (2 - τ) from Rat.mul_nonneg h0 (by grind)) (show 0 ≤ w1 * w1 + w2 * w2 by grind)
      grind
    · exact absurd ⟨by grind, by grind, by grind, by grind⟩ hout
def min4 (x y z w : Rat) : Rat := min (min x y) (min z w)
theorem min_or (x y : Rat) : (min x y = x ∧ x ≤ y) ∨ (min x y = y ∧ y ≤ x) := by
  rcases (show x ≤ y ∨ y ≤ x by grind) with h | h
  · exact .inl ⟨by grind, h⟩
  · exact .inr ⟨by grind, h⟩
theorem min4_le (x y z w : Rat) : min4 x y z w ≤ x ∧ min4 x y z w ≤ y ∧ min4 x y z w ≤ z ∧ min4 x y z w ≤ w := by unfold min4; grind
theorem min4_one (x y z w : Rat) : min4 x y z w = x ∨ min4 x y z w = y ∨ min4 x y z w = z ∨ min4 x y z w = w := by unfold min4; grind
theorem least_meet {a b c d x : Pq} (h1 : InS a b x) (h2 : InS c d x) : IsLeast2 a b c d 0 := ⟨⟨x, x, h1, h2, sq_self x⟩, fun p q _ _ => sq_nonneg' p q⟩
theorem least_four {a b c d : Pq} (hn : ∀ x, ¬ (InS a b x ∧ InS c d x)) : IsLeast2 a b c d (min4 (toP a b c) (toP a b d) (toP c d a) (toP c d b)) := by
  constructor
  · obtain ⟨p1, i1, e1⟩ := toP_has a b c
    obtain ⟨p2, i2, e2⟩ := toP_has a b d
    obtain ⟨p3, i3, e3⟩ := toP_has c d a
    obtain ⟨p4, i4, e4⟩ := toP_has c d b
    rcases min4_one (toP a b c) (toP a b d) (toP c d a) (toP c d b) with h | h | h | h
    · exact ⟨p1, c, i1, ins_left _ _, by rw [h]; exact e1⟩
    · exact ⟨p2, d, i2, ins_right _ _, by rw [h]; exact e2⟩
    · exact ⟨a, p3, ins_left _ _, i3, by rw [h, sq_comm]; exact e3⟩
    · exact ⟨b, p4, ins_right _ _, i4, by rw [h, sq_comm]; exact e4⟩
  · intro p q hp hq
    obtain ⟨h1, h2, h3, h4⟩ := min4_le (toP a b c) (toP a b d) (toP c d a) (toP c d b)
    obtain ⟨p', q', hp', hq', hle, he⟩ := to_ends hp hq hn
    rcases he with rfl | rfl | rfl | rfl
    · have := toP_le c d p' q' hq'; rw [sq_comm] at this; grind
    · have := toP_le c d p' q' hq'; rw [sq_comm] at this; grind
    · have := toP_le a b q' p' hp'; grind
    · have := toP_le a b q' p' hp'; grind
theorem least_zero {a b c d : Pq} {m : Rat} (h : IsLeast2 a b c d m) : m = 0 ↔ ∃ x, InS a b x ∧ InS c d x := by
  constructor
  · intro h0
    obtain ⟨⟨p, q, h1, h2, e⟩, _⟩ := h
    have := sq_zero (e.trans h0)
    subst this
    exact ⟨p, h1, h2⟩
  · rintro ⟨x, h1, h2⟩
    exact isLeast_uniq h (least_meet h1 h2)
theorem ins_one {a p : Pq} : InS a a p ↔ p = a := by
  constructor
  · rintro ⟨t, _, _, rfl⟩; unfold pat; exact Prod.ext (by simp; grind) (by simp; grind)
  · rintro rfl; exact ins_left _ _
def IsMost2 (a b c d : Pq) (m : Rat) : Prop := (∃ p q, InS a b p ∧ InS c d q ∧ sq p q = m) ∧ ∀ p q, InS a b p → InS c d q → sq p q ≤ m
def max4 (x y z w : Rat) : Rat := max (max x y) (max z w)
theorem max4_ge (x y z w : Rat) : x ≤ max4 x y z w ∧ y ≤ max4 x y z w ∧ z ≤ max4 x y z w ∧ w ≤ max4 x y z w := by unfold max4; grind
theorem max4_one (x y z w : Rat) : max4 x y z w = x ∨ max4 x y z w = y ∨ max4 x y z w = z ∨ max4 x y z w = w := by unfold max4; grind
theorem sq_end {a b p q : Pq} {m : Rat} (h : InS a b p) (h1 : sq a q ≤ m) (h2 : sq b q ≤ m) : sq p q ≤ m := by
  obtain ⟨t, t0, t1, rfl⟩ := h
  rw [sq_mix]
  have e1 := Rat.mul_nonneg (show 0 ≤ 1 - t by grind) (show 0 ≤ m - sq a q by grind)
  have e2 := Rat.mul_nonneg t0 (show 0 ≤ m - sq b q by grind)
  have e3 := Rat.mul_nonneg (Rat.mul_nonneg t0 (show 0 ≤ 1 - t by grind)) (sq_nonneg' a b)
  generalize sq a q = x at *
  generalize sq b q = y at *
  generalize sq a b = z at *
  grind
theorem most_four (a b c d : Pq) : IsMost2 a b c d (max4 (sq a c) (sq a d) (sq b c) (sq b d)) := by
  obtain ⟨h1, h2, h3, h4⟩ := max4_ge (sq a c) (sq a d) (sq b c) (sq b d)
  constructor
  · rcases max4_one (sq a c) (sq a d) (sq b c) (sq b d) with h | h | h | h
    · exact ⟨a, c, ins_left _ _, ins_left _ _, h.symm⟩
    · exact ⟨a, d, ins_left _ _, ins_right _ _, h.symm⟩
    · exact ⟨b, c, ins_right _ _, ins_left _ _, h.symm⟩
    · exact ⟨b, d, ins_right _ _, ins_right _ _, h.symm⟩
  · intro p q hp hq
    refine sq_end hp ?_ ?_
    · rw [sq_comm]; exact sq_end hq (by rw [sq_comm]; exact h1) (by rw [sq_comm]; exact h2)
    · rw [sq_comm]; exact sq_end hq (by rw [sq_comm]; exact h3) (by rw [sq_comm]; exact h4)
structure Like (f : Pq → Pq) (k : Rat) : Prop where
  pos : 0 ≤ k
  at_ : ∀ a b t, f (pat a b t) = pat (f a) (f b) t
  sq : ∀ p q, sq (f p) (f q) = k * PM.sq p q
theorem Like.ins {f : Pq → Pq} {k : Rat} (h : Like f k) {a b p : Pq} : InS (f a) (f b) p ↔ ∃ x, InS a b x ∧ p = f x := by
  constructor
  · rintro ⟨t, t0, t1, rfl⟩; exact ⟨_, ⟨t, t0, t1, rfl⟩, (h.at_ a b t).symm⟩
  · rintro ⟨x, ⟨t, t0, t1, rfl⟩, rfl⟩; exact ⟨t, t0, t1, h.at_ a b t⟩
theorem Like.least {f : Pq → Pq} {k m : Rat} (h : Like f k) {a b c d : Pq} (hm : IsLeast2 a b c d m) : IsLeast2 (f a) (f b) (f c) (f d) (m * k) := by
  obtain ⟨⟨p, q, h1, h2, e⟩, h3⟩ := hm
  refine ⟨⟨f p, f q, h.ins.2 ⟨p, h1, rfl⟩, h.ins.2 ⟨q, h2, rfl⟩, by rw [h.sq, e]; grind⟩, fun p' q' hp hq => ?_⟩
  obtain ⟨x, hx, rfl⟩ := h.ins.1 hp
  obtain ⟨y, hy, rfl⟩ := h.ins.1 hq
  rw [h.sq]
  have := Rat.mul_nonneg h.pos (show 0 ≤ PM.sq x y - m by have := h3 x y hx hy; grind)
  grind
theorem Like.most {f : Pq → Pq} {k m : Rat} (h : Like f k) {a b c d : Pq} (hm : IsMost2 a b c d m) : IsMost2 (f a) (f b) (f c) (f d) (m * k) := by
  obtain ⟨⟨p, q, h1, h2, e⟩, h3⟩ := hm
  refine ⟨⟨f p, f q, h.ins.2 ⟨p, h1, rfl⟩, h.ins.2 ⟨q, h2, rfl⟩, by rw [h.sq, e]; grind⟩, fun p' q' hp hq => ?_⟩
  obtain ⟨x, hx, rfl⟩ := h.ins.1 hp
  obtain ⟨y, hy, rfl⟩ := h.ins.1 hq
  rw [h.sq]
  have := Rat.mul_nonneg h.pos (show 0 ≤ m - PM.sq x y by have := h3 x y hx hy; grind)
  grind
theorem told_nil {S : Pq → Prop} {l : List Pq} (h : Told l S) : l = [] ↔ ∀ x, ¬ S x := by
  cases h with
  | none h => exact ⟨fun _ => h, fun _ => rfl⟩
  | one p h => exact ⟨(fun e => nomatch e), fun h2 => absurd ((h p).2 rfl) (h2 p)⟩
  | two p q _ h => exact ⟨(fun e => nomatch e), fun h2 => absurd ((h p).2 (ins_left _ _)) (h2 p)⟩
noncomputable def leastP (a b c d : Pq) : Rat := if meetP a b c d = [] then min4 (toP a b c) (toP a b d) (toP c d a) (toP c d b) else 0
theorem leastP_is (a b c d : Pq) : IsLeast2 a b c d (leastP a b c d) := by
  have h := told_nil (meetP_told a b c d)
  unfold leastP
  split
  · rename_i e; exact least_four (h.1 e)
  · rename_i e
    obtain ⟨x, hx⟩ : ∃ x, InS a b x ∧ InS c d x := Classical.byContradiction fun z => e (h.2 fun x hx => z ⟨x, hx⟩)
    exact least_meet hx.1 hx.2
def mostP (a b c d : Pq) : Rat := max4 (sq a c) (sq a d) (sq b c) (sq b d)
theorem mostP_is (a b c d : Pq) : IsMost2 a b c d (mostP a b c d) := most_four a b c d
def CloserP (a b c d : Pq) (n : Int) : Prop := 0 < n ∧ ∃ p q, InS a b p ∧ InS c d q ∧ p ≠ q ∧ sq p q < (n : Rat) * n
theorem near_one {a b x : Pq} (h : a ≠ b) (hx : InS a b x) : ∃ p, InS a b p ∧ p ≠ x ∧ sq p x < 1 := by
  obtain ⟨t, t0, t1, rfl⟩ := hx
  have hL : 0 < sq a b := by
    have := sq_nonneg' a b
    have : sq a b ≠ 0 := fun z => h (sq_zero z)
    grind
  have key : ∀ t' : Rat, sq (pat a b t') (pat a b t) = (t - t') * (t - t') * sq a b := fun t' => by unfold sq pat; grind
  have hε : 1 / (2 + sq a b) * (2 + sq a b) = 1 := Rat.div_mul_cancel (by grind)
  generalize 1 / (2 + sq a b) = ε at *
  have e0 : 0 < ε := Classical.byContradiction fun z => by
    have := Rat.mul_nonneg (show 0 ≤ -ε by grind) (show 0 ≤ 2 + sq a b by grind)
    grind
  have e1 : ε * 2 ≤ 1 := by have := Rat.mul_pos e0 hL; grind
  have e2 : ε * ε * sq a b < 1 := by
    have h1 := Rat.mul_pos e0 hL
    have h2 := Rat.mul_pos e0 e0
    have h3 := Rat.mul_nonneg (show 0 ≤ 1 - ε by grind) (show 0 ≤ ε * sq a b by grind)
    grind
  have go : ∀ t', 0 ≤ t' → t' ≤ 1 → (t - t') * (t - t') = ε * ε → ∃ p, InS a b p ∧ p ≠ pat a b t ∧ sq p (pat a b t) < 1 := fun t' h0 h1 h2 => by
    refine ⟨_, ⟨t', h0, h1, rfl⟩, fun z => ?_, by rw [key, h2]; exact e2⟩
    have h3 := key t'
    rw [z, sq_self, h2] at h3
    have := Rat.mul_pos (Rat.mul_pos e0 e0) hL
    grind
  rcases (show t * 2 ≤ 1 ∨ 1 ≤ t * 2 by grind) with h3 | h3
  · exact go (t + ε) (by grind) (by grind) (by grind)
  · exact go (t - ε) (by grind) (by grind) (by grind)
theorem closer_iff {a b c d : Pq} {n : Int} {m : Rat} (hm : IsLeast2 a b c d m) : CloserP a b c d n ↔ 0 < n ∧ ¬ (a = b ∧ c = d ∧ m = 0) ∧ m < (n : Rat) * n := by
  constructor
  · rintro ⟨h0, p, q, hp, hq, hne, hlt⟩
    refine ⟨h0, ?_, ?_⟩
    · rintro ⟨rfl, rfl, hz⟩
      obtain ⟨x, h1, h2⟩ := (least_zero hm).1 hz
      rw [ins_one] at h1 h2 hp hq
      exact hne (by rw [hp, hq, ← h1, ← h2])
    · have := hm.2 p q hp hq; grind
  · rintro ⟨h0, hno, hlt⟩
    refine ⟨h0, ?_⟩
    have hn1 : (1 : Rat) ≤ (n : Rat) * n := by
      have : (1 : Int) ≤ n * n := by
        have := Int.mul_le_mul (show (1 : Int) ≤ n by omega) (show (1 : Int) ≤ n by omega) (by omega) (by omega)
        omega
      have h2 : ((1 : Int) : Rat) ≤ ((n * n : Int) : Rat) := by exact_mod_cast this
      rw [Rat.intCast_mul] at h2; exact h2
    by_cases hz : m = 0
    · obtain ⟨x, h1, h2⟩ := (least_zero hm).1 hz
      by_cases hab : a = b
      · have hcd : c ≠ d := fun z => hno ⟨hab, z, hz⟩
        obtain ⟨p, hp, hne, hl⟩ := near_one hcd h2
        exact ⟨x, p, h1, hp, fun z => hne z.symm, by rw [sq_comm]; grind⟩
      · obtain ⟨p, hp, hne, hl⟩ := near_one hab h1
        exact ⟨p, x, hp, h2, hne, by grind⟩
    · obtain ⟨⟨p, q, hp, hq, e⟩, _⟩ := hm
      exact ⟨p, q, hp, hq, fun z => hz (by rw [← e, z, sq_self]), by rw [e]; exact hlt⟩
end Go.Proofs.YtoaepibannfbdaaGreatDoor.PM
namespace Go.Proofs.YtoaepibannfbdaaGreatDoor.PM
open Go.RowKit Mat Ex
set_option linter.unusedVariables false
set_option linter.unusedSimpArgs false
theorem pdot_back (a b p : Pq) : pdot b a p = sq a b - pdot a b p := by unfold sq pdot; grind
theorem pcross_sq (a b p : Pq) : pcross a b p * pcross a b p = sq a b * sq a p - pdot a b p * pdot a b p := by unfold sq pdot pcross; grind
theorem sq_pos' {a b : Pq} (h : sq a b ≠ 0) : 0 < sq a b := by have := sq_nonneg' a b; grind
theorem toP_1 {a b p : Pq} (h : pdot a b p ≤ 0) : toP a b p = sq a p := by
  unfold toP
  split
  · rfl
  · rename_i h0
    have hl := sq_pos' h0
    have e : pdot a b p / sq a b * sq a b = pdot a b p := Rat.div_mul_cancel h0
    generalize pdot a b p / sq a b = t at *
    have ht : t ≤ 0 := Classical.byContradiction fun z => by
      have := Rat.mul_pos (show 0 < t by grind) hl
      grind
    rw [if_pos ht]
theorem toP_2 {a b p : Pq} (h : 0 < pdot a b p) (h2 : pdot b a p ≤ 0) : toP a b p = sq b p := by
  rw [pdot_back] at h2
  have h0 : sq a b ≠ 0 := by intro z; rw [z] at h2; have e := sq_zero z; subst e; unfold pdot at h; grind
  have hl := sq_pos' h0
  unfold toP
  rw [if_neg h0]
  have e : pdot a b p / sq a b * sq a b = pdot a b p := Rat.div_mul_cancel h0
  generalize pdot a b p / sq a b = t at *
  have ht : ¬ t ≤ 0 := fun z => by
    have := Rat.mul_nonneg (show 0 ≤ -t by grind) (Rat.le_of_lt hl)
    grind
  have ht1 : 1 ≤ t := Classical.byContradiction fun z => by
    have := Rat.mul_pos (show 0 < 1 - t by grind) hl
    grind
  rw [if_neg ht, if_pos ht1]
theorem toP_3 {a b p : Pq} (h : 0 < pdot a b p) (h2 : 0 < pdot b a p) : sq a b ≠ 0 ∧ toP a b p = pcross a b p * pcross a b p / sq a b := by
  rw [pdot_back] at h2
  have h0 : sq a b ≠ 0 := by intro z; rw [z] at h2; grind
  have hl := sq_pos' h0
  refine ⟨h0, ?_⟩
  have hc := pcross_sq a b p
  have e2 : pcross a b p * pcross a b p / sq a b * sq a b = pcross a b p * pcross a b p := Rat.div_mul_cancel h0
  unfold toP
  rw [if_neg h0]
  have e : pdot a b p / sq a b * sq a b = pdot a b p := Rat.div_mul_cancel h0
  generalize pdot a b p / sq a b = t at *
  have ht : ¬ t ≤ 0 := fun z => by
    have := Rat.mul_nonneg (show 0 ≤ -t by grind) (Rat.le_of_lt hl)
    grind
  have ht1 : ¬ 1 ≤ t := fun z => by
    have := Rat.mul_nonneg (show 0 ≤ t - 1 by grind) (Rat.le_of_lt hl)
    grind
  rw [if_neg ht, if_neg ht1]
  generalize pcross a b p * pcross a b p / sq a b = y at *
  have : (y - (sq a p - t * t * sq a b)) * sq a b = 0 := by grind
  rcases Rat.mul_eq_zero.1 this with h | h
  · grind
  · exact absurd h h0
theorem rmin_or (x y : Rat) : min x y = x ∨ min x y = y := (min_or x y).imp (fun h => h.1) (fun h => h.1)
theorem rmax_or (x y : Rat) : max x y = x ∨ max x y = y := by
  rcases (show x ≤ y ∨ y ≤ x by grind) with h | h
  · exact .inr (by grind)
  · exact .inl (by grind)
theorem min_row (x y z w : Rat) : min (min (min z w) x) y = min4 x y z w := by unfold min4; grind
theorem max_row (x y z w : Rat) : max (max (max x y) z) w = max4 x y z w := by unfold max4; grind
theorem mostP_zero {a b c d : Pq} : 0 < mostP a b c d ↔ ¬ (a = b ∧ c = d ∧ leastP a b c d = 0) := by
  have hl := leastP_is a b c d
  have hm := mostP_is a b c d
  have h0 : 0 ≤ mostP a b c d := by
    have := hm.2 a c (ins_left _ _) (ins_left _ _)
    have := sq_nonneg' a c
    grind
  constructor
  · rintro h ⟨rfl, rfl, hz⟩
    obtain ⟨x, h1, h2⟩ := (least_zero hl).1 hz
    rw [ins_one] at h1 h2
    subst h1; subst h2
    have : mostP x x x x = 0 := by unfold mostP max4; rw [sq_self]; grind
    grind
  · intro h
    refine Classical.byContradiction fun hn => h ?_
    have hz : mostP a b c d = 0 := by grind
    have q : ∀ x y, InS a b x → InS c d y → x = y := fun x y hx hy => sq_zero (by have := hm.2 x y hx hy; have := sq_nonneg' x y; grind)
    have e1 := q a c (ins_left _ _) (ins_left _ _)
    have e2 := q b c (ins_right _ _) (ins_left _ _)
    have e3 := q a d (ins_left _ _) (ins_right _ _)
    exact ⟨e1.trans e2.symm, e1.symm.trans e3, (least_zero hl).2 ⟨a, ins_left _ _, e1 ▸ ins_left _ _⟩⟩
theorem closer_prog {a b c d : Pq} {n : Int} : CloserP a b c d n ↔ 0 < n ∧ leastP a b c d < (n : Rat) * n ∧ 0 < mostP a b c d := by
  rw [closer_iff (leastP_is a b c d), mostP_zero]
  constructor
  · rintro ⟨h1, h2, h3⟩; exact ⟨h1, h3, h2⟩
  · rintro ⟨h1, h2, h3⟩; exact ⟨h1, h3, h2⟩
end Go.Proofs.YtoaepibannfbdaaGreatDoor.PM
namespace Go.Proofs.YtoaepibannfbdaaGreatDoor
open Go.RowKit Mat Ex PM
set_option linter.unusedVariables false
set_option linter.unusedSimpArgs false
theorem Bp.sq {K : Nat} {a b : Pq} (ha : Bp K a) (hb : Bp K b) : Bn (8 * K + 5) (sq a b) := pdot_sq a b ▸ ha.dot hb hb
theorem Bp.to {K : Nat} {a b p : Pq} (ha : Bp K a) (hb : Bp K b) (hp : Bp K p) : Bn (32 * K + 20) (toP a b p) := by
  rcases (show pdot a b p ≤ 0 ∨ 0 < pdot a b p by grind) with h | h
  · rw [toP_1 h]; exact (ha.sq hp).mono (by omega)
  · rcases (show pdot b a p ≤ 0 ∨ 0 < pdot b a p by grind) with h2 | h2
    · rw [toP_2 h h2]; exact (hb.sq hp).mono (by omega)
    · rw [(toP_3 h h2).2]
      exact (((ha.cross hb hp).mul (ha.cross hb hp)).div ((ha.sq hb).mono (by omega)) (by omega)).mono (by omega)
theorem Bn.min {K : Nat} {x y : Rat} (h : Bn K x) (h' : Bn K y) : Bn K (min x y) := by rcases rmin_or x y with e | e <;> rw [e] <;> assumption
theorem Bn.max {K : Nat} {x y : Rat} (h : Bn K x) (h' : Bn K y) : Bn K (max x y) := by rcases rmax_or x y with e | e <;> rw [e] <;> assumption
theorem Bp.least {K : Nat} {a b c d : Pq} (ha : Bp K a) (hb : Bp K b) (hc : Bp K c) (hd : Bp K d) : Bn (32 * K + 20) (leastP a b c d) := by
  unfold leastP
  split
  · exact ((ha.to hb hc).min (ha.to hb hd)).min ((hc.to hd ha).min (hc.to hd hb))
  · exact .zero (by omega)
theorem Bp.most {K : Nat} {a b c d : Pq} (ha : Bp K a) (hb : Bp K b) (hc : Bp K c) (hd : Bp K d) : Bn (8 * K + 5) (mostP a b c d) := by
  unfold mostP max4
  exact ((ha.sq hc).max (ha.sq hd)).max ((hb.sq hc).max (hb.sq hd))
end Go.Proofs.YtoaepibannfbdaaGreatDoor
namespace Go.Proofs.YtoaepibannfbdaaGreatDoor
open Go.RowKit Mat Ex PM
set_option linter.unusedVariables false
set_option linter.unusedSimpArgs false
set_option maxRecDepth 100000
def QtAt (w : World) (cs : Array Value) (o : Nat) (p : Rat) : Prop := ∃ a b c d : Value, cs[o]? = some a ∧ cs[o + 1]? = some b ∧ cs[o + 2]? = some c ∧ cs[o + 3]? = some d ∧ RatV w (.agg #[a, b, c, d]) p
def RsV (w : World) (v : Value) (l : List Rat) : Prop := ∃ s n c, v = .slice s n c ∧ l.length = n ∧ n ≤ c ∧ (l = [] ∨ ∃ b off cs, s = some ⟨b, off, none⟩ ∧ w.heap[b]? = some (.cells cs 31 (0, 0)) ∧ ∀ i (h : i < l.length), QtAt w cs (off + 4 * i) l[i])
theorem QtAt.keeps {W W' : World} {cs : Array Value} {o : Nat} {p : Rat} (h : QtAt W cs o p) (k : Keeps limbT W W') : QtAt W' cs o p := by
  obtain ⟨a, b, c, d, h1, h2, h3, h4, h9⟩ := h
  exact ⟨a, b, c, d, h1, h2, h3, h4, h9.keeps k⟩
theorem RsV.keeps {W W' : World} {v : Value} {l : List Rat} (h : RsV W v l) (k : Keeps limbT W W') (hq : ∀ q, fpS v q → W'.heap[q]? = W.heap[q]?) : RsV W' v l := by
  obtain ⟨s, n, c, rfl, hl, hn, h⟩ := h
  refine ⟨s, n, c, rfl, hl, hn, ?_⟩
  by_cases h0 : l = []
  · exact .inl h0
  · obtain ⟨b, off, cs, rfl, hb, hc⟩ := h.resolve_left h0
    obtain ⟨m, rfl⟩ : ∃ m, n = m + 1 := ⟨n - 1, by have := List.length_pos_iff.2 h0; omega⟩
    exact .inr ⟨b, off, cs, rfl, by rw [hq b ⟨off, m, c, rfl⟩]; exact hb, fun i hi => (hc i hi).keeps k⟩
theorem RsV.inb {W : World} {v : Value} {l : List Rat} (h : RsV W v l) (q : Nat) (hq : fpS v q) : q < W.heap.size := by
  obtain ⟨s, n, c, rfl, hl, hn, h⟩ := h
  obtain ⟨off, m, c', e⟩ := hq
  cases e
  rcases h with h | ⟨b, off', cs, e, hb, _⟩
  · rw [h] at hl; simp at hl
  · cases e; exact (Array.getElem?_eq_some_iff.1 hb).1
def sRs (l : List Rat) : Sp where
  sh := .one
  F v W := RsV W v l
  fits v W h := by obtain ⟨s, n, c, rfl, _⟩ := h; exact ⟨fun _ => .slice s n c, fun _ => rfl, rfl⟩
  row := true
  fp v _ q := fpS v q
  lasts v W W' k hq h := ⟨h.keeps k hq, fun _ h => h⟩
  inb v W h q hq := h.inb q hq
  flat h := by cases h
def RaV (w : World) (v : Value) (p : Rat) : Prop := ∃ b off cs, v = .pointer (some ⟨b, off, none⟩) ∧ w.heap[b]? = some (.cells cs 31 (0, 0)) ∧ QtAt w cs off p
def sRa (p : Rat) : Sp where
  sh := .one
  F v W := RaV W v p
  fits v W h := by obtain ⟨b, off, cs, rfl, _⟩ := h; exact ⟨fun _ => .pointer (some ⟨b, off, none⟩), fun _ => rfl, rfl⟩
  row := true
  fp v _ q := fpP v q
  lasts v W W' k hq h := by
    obtain ⟨b, off, cs, rfl, hb, hc⟩ := h
    exact ⟨⟨b, off, cs, rfl, by rw [hq b ⟨off, rfl⟩]; exact hb, hc.keeps k⟩, fun _ h => h⟩
  inb v W h q hq := by
    obtain ⟨b, off, cs, rfl, hb, hc⟩ := h
    obtain ⟨o, e⟩ := hq
    cases e; exact (Array.getElem?_eq_some_iff.1 hb).1
  flat h := by cases h
section
variable {ρ : Operand → Value} {o : Oper} {W : World}
theorem rs_len {t : TypeId} {x : Operand} {v : Value} {l : List Rat} (h : RsV W v l) (ho : o.op = .call ⟨.builtin .len, #[x], #[t]⟩) (hx : ρ x = v) (hu : ∃ el, Tryz.prog.underlying t = some (.slice el)) :
    (execOp ρ o).run Tryz.prog W = .ok (.value (.int .i64 l.length)) W := by
  obtain ⟨s, n, c, rfl, hl, hn, h⟩ := h
  obtain ⟨el, hu⟩ := hu
  simp [execOp, ho, resolve, invoke, builtin, Builtin.len_, run_underlying hu W, hx, goInt, hl]
theorem rs_at {x y : Operand} {v : Value} {l : List Rat} (h : RsV W v l) (ho : o.op = .indexAddr 107 x y) (hx : ρ x = v) (k : Nat) (hk : k < l.length) (hy : ρ y = .int .i64 k) :
    ∃ u, (execOp ρ o).run Tryz.prog W = .ok (.value u) W ∧ RaV W u l[k] ∧ ∀ q, fpP u q → fpS v q := by
  obtain ⟨s, n, c, rfl, hl, hn, h⟩ := h
  obtain ⟨b, off, cs, rfl, hb, hc⟩ := h.resolve_left (fun e => by rw [e] at hk; simp at hk)
  have hu : Tryz.prog.underlying 107 = some (.slice 31) := by kernel_rfl
  have hz : sizeT Tryz.prog 31 = some 4 := by kernel_rfl
  obtain ⟨m, rfl⟩ : ∃ m, n = m + 1 := ⟨n - 1, by omega⟩
  have hk' : (0 : Int) ≤ (k : Int) ∧ (k : Int) < ((m + 1 : Nat) : Int) := by omega
  refine ⟨.pointer (some ⟨b, off + 4 * k, none⟩), ?_, ⟨b, off + 4 * k, cs, rfl, hb, hc k hk⟩, fun q ⟨o', e⟩ => by cases e; exact ⟨off, m, c, rfl⟩⟩
  simp only [execOp, ho, hx, hy, Instr.indexAt, asIntOf, Sem.run_bind, Sem.run_pure, run_underlying hu W, Result.andThen_ok, hk', and_self, if_true, sizeT_run Tryz.prog hz W, Instr.sureAddr, Addr.add_mid]
  rw [show (k : Int).toNat * 4 = 4 * k by omega]
theorem rs_load {x : Operand} {v : Value} {p : Rat} (h : RaV W v p) (ho : o.op = .load 31 x) (hx : ρ x = v) :
    ∃ u, (execOp ρ o).run Tryz.prog W = .ok (.value u) W ∧ RatV W u p := by
  obtain ⟨q, off, cs, rfl, hb, a, b, c, d, h1, h2, h3, h4, hp⟩ := h
  refine ⟨_, ?_, hp⟩
  have ha : aggT Tryz.prog 31 = some true := by kernel_rfl
  have hz : sizeT Tryz.prog 31 = some 4 := by kernel_rfl
  have hl : (loadCells ⟨q, off, none⟩ [a, b, c, d].length).run Tryz.prog W = .ok [a, b, c, d].toArray W :=
    run_loadCells_list (P := Tryz.prog) W ⟨q, off, none⟩ _ fun j v hv => by
      rw [Addr.add_mid]
      simp only [World.cell?, hb]
      match j, hv with
      | 0, hv => cases hv; simpa using h1
      | 1, hv => cases hv; simpa using h2
      | 2, hv => cases hv; simpa using h3
      | 3, hv => cases hv; simpa using h4
      | n + 4, hv => simp at hv
  simp only [execOp, ho, hx, Instr.loadAt, Instr.sureAddr, loadVar, Sem.run_bind, Sem.run_pure, Result.andThen_ok, aggT_run Tryz.prog ha W, sizeT_run Tryz.prog hz W, if_true]
  simp only [List.length_cons, List.length_nil] at hl
  rw [hl]; rfl
theorem rs_tail {x y : Operand} {v : Value} {l : List Rat} (h : RsV W v l) (ho : o.op = .slice 107 x (some y) none none) (hx : ρ x = v) (hy : ρ y = .int .i64 1) (h0 : 0 < l.length) :
    ∃ u, (execOp ρ o).run Tryz.prog W = .ok (.value u) W ∧ RsV W u l.tail ∧ ∀ q, fpS u q → fpS v q := by
  obtain ⟨s, n, c, rfl, hl, hn, h⟩ := h
  obtain ⟨b, off, cs, rfl, hb, hc⟩ := h.resolve_left (fun e => by rw [e] at h0; simp at h0)
  have hu : Tryz.prog.underlying 107 = some (.slice 31) := by kernel_rfl
  have he : Tryz.prog.elem 107 = 31 := by kernel_rfl
  have hz : sizeT Tryz.prog 31 = some 4 := by kernel_rfl
  obtain ⟨m, rfl⟩ : ∃ m, n = m + 1 := ⟨n - 1, by omega⟩
  have hr : (Instr.slice 107 (.slice (some ⟨b, off, none⟩) (m + 1) c) (some (.int .i64 1)) none none).run Tryz.prog W = .ok (sliced (some ⟨b, off, none⟩) 1 (m + 1) c 4) W := by
    rw [run_slice_l _ _ _ _ _ (by rw [he]; exact hu) .i64 1 (by omega) (by omega), he, sizeT_run Tryz.prog hz W]; rfl
  refine ⟨sliced (some ⟨b, off, none⟩) 1 (m + 1) c 4, ?_, ?_, ?_⟩
  · simp only [execOp, ho, hx, Option.map_some, Option.map_none, hy, Sem.run_bind, Sem.run_pure, run_sliceAt_slice _ _ _ _ _ _ (show Tryz.prog.underlying 107 = some (.slice (Tryz.prog.elem 107)) by rw [he]; exact hu), hr, Result.andThen_ok]
  · refine ⟨_, _, _, rfl, by simp [hl], by omega, ?_⟩
    by_cases hm : l.tail = []
    · exact .inl hm
    · have hlen : 0 < l.tail.length := List.length_pos_iff.2 hm
      rw [List.length_tail] at hlen
      refine .inr ⟨b, off + 4, cs, ?_, hb, fun i hi => ?_⟩
      · rw [if_neg (by omega)]; rfl
      · have := hc (i + 1) (by simp at hi; omega)
        rw [List.getElem_tail, show off + 4 + 4 * i = off + 4 * (i + 1) by omega]
        exact this
  · rintro q ⟨o', n', c', e⟩
    simp only [sliced, Value.slice.injEq] at e
    obtain ⟨e1, _, _⟩ := e
    split at e1
    · cases e1; exact ⟨off, m, c, rfl⟩
    · cases e1; exact ⟨off, m, c, rfl⟩
end
def kRat : Kind Rat := ⟨31, 4, fun w cs p => RatV w (.agg cs.toArray) p, fun h k => h.keeps k, by kernel_rfl⟩
theorem OwV.rs {base : Nat} {W : World} {v : Value} {l : List Rat} (h : OwV kRat base W v l) : RsV W v l := by
  obtain ⟨xs, ⟨hl, h2⟩, hA⟩ := h
  rcases h2 with ⟨rfl, h0⟩ | ⟨g, cap, cur, rfl, hbg, hg, hnc, hcm, hcs, htk⟩
  · exact ⟨none, 0, 0, rfl, h0, Nat.le_refl _, .inl (List.eq_nil_of_length_eq_zero h0)⟩
  · refine ⟨_, _, _, rfl, rfl, hnc, .inr ⟨g, 0, cur, rfl, hg, fun i hi => ?_⟩⟩
    have hx : ∀ j, j < 4 → cur[0 + 4 * i + j]? = ((xs.drop (4 * i)).take 4)[j]? := fun j hj => by
      have hlt : 4 * i + j < l.length * 4 := by omega
      rw [List.getElem?_take_of_lt hj, List.getElem?_drop, ← htk, List.getElem?_take_of_lt (show 4 * i + j < l.length * kRat.z from hlt)]
      simp
    obtain ⟨s, ys, b, s', ys', b', e1, h1⟩ := hA i hi
    have e2 : (xs.drop (4 * i)).take 4 = [.slice s ys.length ys.length, .bool b, .slice s' ys'.length ys'.length, .bool b'] := by
      have := congrArg (fun v => match v with | Value.agg x => x.toList | _ => []) e1
      exact (show (xs.drop (kRat.z * i)).take kRat.z = _ by simpa using this)
    rw [e2] at hx
    exact ⟨_, _, _, _, hx 0 (by omega), hx 1 (by omega), hx 2 (by omega), hx 3 (by omega), s, ys, b, s', ys', b', rfl, h1⟩
end Go.Proofs.YtoaepibannfbdaaGreatDoor
namespace Go.Proofs.YtoaepibannfbdaaGreatDoor
open Go.RowKit Mat Ex PM
set_option linter.unusedVariables false
set_option linter.unusedSimpArgs false
set_option maxRecDepth 100000
def sBd (b : Bool) : Sp := sC (.bool b) rfl
theorem vb {v : Value} {a b : Bool} (h : v = .bool a) (h2 : v = .bool b) : a = b := by rw [h] at h2; exact Value.bool.inj h2
theorem dec_of' {p : Prop} [Decidable p] : decide p = dec p := by
  by_cases h : p
  · rw [dec_t h, decide_eq_true h]
  · rw [dec_f h, decide_eq_false h]
theorem dec_congr {p q : Prop} (h : p ↔ q) : dec p = dec q := by rw [show p = q from propext h]
noncomputable def hmin (x m : H3) : H3 := open Classical in if plt (rp x) (rp m) then x else m
noncomputable def nx (P : Prop) (u v : H3) : H3 := open Classical in if P then u else v
end Go.Proofs.YtoaepibannfbdaaGreatDoor
namespace Go.Proofs.YtoaepibannfbdaaGreatDoor
open Go.RowKit Mat Ex PM
set_option linter.unusedVariables false
set_option linter.unusedSimpArgs false
set_option maxRecDepth 100000
theorem RSquare_any (w : World) (va vb : Value) (p q : Pq) (K : Nat) (Ha : PtV w va p) (Hb : PtV w vb q) (hK : K ≤ 10000) (ba : Bp K p) (bb : Bp K q) (hTab : Tab w) :
    Calls Tryz.prog 19 #[va, vb] w (RetRat w (sq p q)) := by
  refine exec_calls mixed Tryz.func19 [sPt p, sPt q] [sQ (sq p q)] (.cons Ha (.cons Hb .nil)) (rs := [cl 2 62 [ag 8 0, ag 8 1, ag 8 1]]) (out := ag 4 2) (nc := 3) (by kernel_rfl)
      ⟨fun σ W g h hb => PDot_any W _ _ _ p q q K (h 0 rfl) (h 1 rfl) (h 1 rfl) hK ba bb bb (hTab.kept g (by simp)),
      trivial⟩ fun τ W g h => ⟨_, rfl, h 2 rfl, g⟩
theorem RToLine_any (w : World) (va vb : Value) (a b p : Pq) (K : Nat) (Ha : SgV w va a b) (Hb : PtV w vb p) (hK : 1 ≤ K ∧ K ≤ 1000) (ba : Bp K a) (bb : Bp K b) (bp : Bp K p) (hTab : Tab w) (h0 : sq a b ≠ 0) :
    Calls Tryz.prog 64 #[va, vb] w (RetRat w (pcross a b p * pcross a b p / sq a b)) := by
  have b1 := ba.cross bb bp
  have b2 : Bn (16 * K + 10) (pcross a b p * pcross a b p) := (b1.mul b1).mono (by omega)
  have b3 : Bn (16 * K + 10) (sq a b) := (ba.sq bb).mono (by omega)
  refine exec_calls mixed Tryz.func64 [sSg a b, sPt p] [sQ (pcross a b p), sQ (pcross a b p * pcross a b p), sQ (sq a b), sQE (pcross a b p * pcross a b p / sq a b) 0] (.cons Ha (.cons Hb .nil)) (rs := [cl 2 109 [ag 8 0, .v true [.an 0 8, .an 0 9, .an 0 10, .an 0 11, .an 0 12, .an 0 13, .an 0 14, .an 0 15], ag 8 1], cl 3 34 [ag 4 2, ag 4 2], cl 4 19 [ag 8 0, .v true [.an 0 8, .an 0 9, .an 0 10, .an 0 11, .an 0 12, .an 0 13, .an 0 14, .an 0 15]], cl 5 49 [ag 4 3, ag 4 4]]) (out := ag 4 5) (nc := 6) (by kernel_rfl)
      ⟨fun σ W g h hb => PCross_any W _ _ _ a b p K (sg1 (h 0 rfl)) (sg2 (h 0 rfl)) (h 1 rfl) (by omega) ba bb bp (hTab.kept g (by simp)),
      fun σ W g h hb => FMul_any W _ _ _ _ (8 * K + 5) (h 2 rfl) (h 2 rfl) (by omega) b1.1 b1.2 b1.1 b1.2 (hTab.kept g (by simp)),
      fun σ W g h hb => RSquare_any W _ _ a b K (sg1 (h 0 rfl)) (sg2 (h 0 rfl)) (by omega) ba bb (hTab.kept g (by simp)),
      fun σ W g h hb => toQE (FDiv_any W _ _ _ _ (16 * K + 10) (h 3 rfl) (h 4 rfl) (by omega) b2.1 b2.2 b3.1 b3.2 (hTab.kept g (by simp))) (by rw [if_neg h0]),
      trivial⟩ fun τ W g h => ⟨_, rfl, qE (h 5 rfl), g⟩
theorem RTo_any (w : World) (va vb : Value) (a b p : Pq) (K : Nat) (Ha : SgV w va a b) (Hb : PtV w vb p) (hK : 1 ≤ K ∧ K ≤ 1000) (ba : Bp K a) (bb : Bp K b) (bp : Bp K p) (hTab : Tab w) :
    Calls Tryz.prog 21 #[va, vb] w (RetRat w (toP a b p)) := by
  rcases (show pdot a b p ≤ 0 ∨ (0 < pdot a b p ∧ pdot b a p ≤ 0) ∨ (0 < pdot a b p ∧ 0 < pdot b a p) by grind) with h1 | ⟨h1, h2⟩ | ⟨h1, h2⟩
  · skip
    rw [toP_1 h1]
    refine exec_calls mixed Tryz.func21 [sSg a b, sPt p] [sQ (pdot a b p), sZ (rsg (pdot a b p)), sV (.bool true), sQ (sq a p)] (.cons Ha (.cons Hb .nil)) (rs := [cl 2 62 [ag 8 0, .v true [.an 0 8, .an 0 9, .an 0 10, .an 0 11, .an 0 12, .an 0 13, .an 0 14, .an 0 15], ag 8 1], cl 3 35 [ag 4 2], co 4 (.binOp .leq 3 (.tmp 23) (.const (.int .i64 0)) 3) 4 [on 3, .v false [.lit (.int .i64 0)]] [0, 1, 2, 3] [], cl 5 19 [ag 8 0, ag 8 1]]) (out := ag 4 5) (nc := 6) (by kernel_rfl)
        ⟨fun σ W g h hb => PDot_any W _ _ _ a b p K (sg1 (h 0 rfl)) (sg2 (h 0 rfl)) (h 1 rfl) (by omega) ba bb bp (hTab.kept g (by simp)),
        fun σ W g h hb => toZ (FSign_any W _ _ (8 * K + 5) (h 2 rfl) (by omega) (ba.dot bb bp).1) rfl,
        fun σ W g h hb => fun ρ o ho _ hv => ⟨_, le_told true ho ((two_vals hv).1.trans (h 3 rfl)) (two_vals hv).2 (decide_eq_true (rsg_le.2 h1)), rfl⟩,
        fun σ W g h hb => RSquare_any W _ _ a p K (sg1 (h 0 rfl)) (h 1 rfl) (by omega) ba bp (hTab.kept g (by simp)),
        trivial⟩ fun τ W g h => ⟨_, rfl, h 5 rfl, g⟩
  · skip
    rw [toP_2 h1 h2]
    refine exec_calls mixed Tryz.func21 [sSg a b, sPt p] [sQ (pdot a b p), sZ (rsg (pdot a b p)), sV (.bool false), sQ (pdot b a p), sZ (rsg (pdot b a p)), sV (.bool true), sQ (sq b p)] (.cons Ha (.cons Hb .nil)) (rs := [cl 2 62 [ag 8 0, .v true [.an 0 8, .an 0 9, .an 0 10, .an 0 11, .an 0 12, .an 0 13, .an 0 14, .an 0 15], ag 8 1], cl 3 35 [ag 4 2], co 4 (.binOp .leq 3 (.tmp 23) (.const (.int .i64 0)) 3) 4 [on 3, .v false [.lit (.int .i64 0)]] [0, 1, 2, 3] [], cl 5 62 [.v true [.an 0 8, .an 0 9, .an 0 10, .an 0 11, .an 0 12, .an 0 13, .an 0 14, .an 0 15], ag 8 0, ag 8 1], cl 6 35 [ag 4 5], co 7 (.binOp .leq 3 (.tmp 23) (.const (.int .i64 0)) 3) 4 [on 6, .v false [.lit (.int .i64 0)]] [0, 1, 2, 3, 4, 5, 6] [], cl 8 19 [.v true [.an 0 8, .an 0 9, .an 0 10, .an 0 11, .an 0 12, .an 0 13, .an 0 14, .an 0 15], ag 8 1]]) (out := ag 4 8) (nc := 9) (by kernel_rfl)
        ⟨fun σ W g h hb => PDot_any W _ _ _ a b p K (sg1 (h 0 rfl)) (sg2 (h 0 rfl)) (h 1 rfl) (by omega) ba bb bp (hTab.kept g (by simp)),
        fun σ W g h hb => toZ (FSign_any W _ _ (8 * K + 5) (h 2 rfl) (by omega) (ba.dot bb bp).1) rfl,
        fun σ W g h hb => fun ρ o ho _ hv => ⟨_, le_told false ho ((two_vals hv).1.trans (h 3 rfl)) (two_vals hv).2 (decide_eq_false (fun z => absurd (rsg_le.1 z) (by grind))), rfl⟩,
        fun σ W g h hb => PDot_any W _ _ _ b a p K (sg2 (h 0 rfl)) (sg1 (h 0 rfl)) (h 1 rfl) (by omega) bb ba bp (hTab.kept g (by simp)),
        fun σ W g h hb => toZ (FSign_any W _ _ (8 * K + 5) (h 5 rfl) (by omega) (bb.dot ba bp).1) rfl,
        fun σ W g h hb => fun ρ o ho _ hv => ⟨_, le_told true ho ((two_vals hv).1.trans (h 6 rfl)) (two_vals hv).2 (decide_eq_true (rsg_le.2 h2)), rfl⟩,
        fun σ W g h hb => RSquare_any W _ _ b p K (sg2 (h 0 rfl)) (h 1 rfl) (by omega) bb bp (hTab.kept g (by simp)),
        trivial⟩ fun τ W g h => ⟨_, rfl, h 8 rfl, g⟩
  · skip
    rw [(toP_3 h1 h2).2]
    refine exec_calls mixed Tryz.func21 [sSg a b, sPt p] [sQ (pdot a b p), sZ (rsg (pdot a b p)), sV (.bool false), sQ (pdot b a p), sZ (rsg (pdot b a p)), sV (.bool false), sQ (pcross a b p * pcross a b p / sq a b)] (.cons Ha (.cons Hb .nil)) (rs := [cl 2 62 [ag 8 0, .v true [.an 0 8, .an 0 9, .an 0 10, .an 0 11, .an 0 12, .an 0 13, .an 0 14, .an 0 15], ag 8 1], cl 3 35 [ag 4 2], co 4 (.binOp .leq 3 (.tmp 23) (.const (.int .i64 0)) 3) 4 [on 3, .v false [.lit (.int .i64 0)]] [0, 1, 2, 3] [], cl 5 62 [.v true [.an 0 8, .an 0 9, .an 0 10, .an 0 11, .an 0 12, .an 0 13, .an 0 14, .an 0 15], ag 8 0, ag 8 1], cl 6 35 [ag 4 5], co 7 (.binOp .leq 3 (.tmp 23) (.const (.int .i64 0)) 3) 4 [on 6, .v false [.lit (.int .i64 0)]] [0, 1, 2, 3, 4, 5, 6] [], cl 8 64 [ag 16 0, ag 8 1]]) (out := ag 4 8) (nc := 9) (by kernel_rfl)
        ⟨fun σ W g h hb => PDot_any W _ _ _ a b p K (sg1 (h 0 rfl)) (sg2 (h 0 rfl)) (h 1 rfl) (by omega) ba bb bp (hTab.kept g (by simp)),
        fun σ W g h hb => toZ (FSign_any W _ _ (8 * K + 5) (h 2 rfl) (by omega) (ba.dot bb bp).1) rfl,
        fun σ W g h hb => fun ρ o ho _ hv => ⟨_, le_told false ho ((two_vals hv).1.trans (h 3 rfl)) (two_vals hv).2 (decide_eq_false (fun z => absurd (rsg_le.1 z) (by grind))), rfl⟩,
        fun σ W g h hb => PDot_any W _ _ _ b a p K (sg2 (h 0 rfl)) (sg1 (h 0 rfl)) (h 1 rfl) (by omega) bb ba bp (hTab.kept g (by simp)),
        fun σ W g h hb => toZ (FSign_any W _ _ (8 * K + 5) (h 5 rfl) (by omega) (bb.dot ba bp).1) rfl,
        fun σ W g h hb => fun ρ o ho _ hv => ⟨_, le_told false ho ((two_vals hv).1.trans (h 6 rfl)) (two_vals hv).2 (decide_eq_false (fun z => absurd (rsg_le.1 z) (by grind))), rfl⟩,
        fun σ W g h hb => RToLine_any W _ _ a b p K (h 0 rfl) (h 1 rfl) hK ba bb bp (hTab.kept g (by simp)) (toP_3 h1 h2).1,
        trivial⟩ fun τ W g h => ⟨_, rfl, h 8 rfl, g⟩
end Go.Proofs.YtoaepibannfbdaaGreatDoor
