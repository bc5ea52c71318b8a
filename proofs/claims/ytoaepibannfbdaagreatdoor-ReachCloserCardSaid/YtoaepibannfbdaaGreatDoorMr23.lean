/- What the laws lean on, part 23. -/
import Derived.Below
import Derived.BigCall
import Derived.BigQuiet
import Derived.BigRegion
import Derived.Deep.AppendLies
import Derived.Deep.CutBlock
import Derived.Deep.CutRange
import Derived.Deep.DeepCutAuto
import Derived.Deep.DeepHandedRow
import Derived.Deep.LoopGhost
import Derived.Deep.MidRow
import Derived.Deep.QuietTactic
import Derived.Deep.RegionHeld3
import Derived.Deep.RegionLaw
import Derived.Deep.WholeRow
import Derived.Laws.AppendOwn
import Derived.Laws.Concat
import Derived.Laws.CopyOwn
import Derived.Laws.Externs
import Derived.Laws.IdiomStrings
import Derived.Lib.BitFns
import Derived.Lib.Bytealg
import Derived.Lib.Hide
import Derived.Lib.Slices
import Derived.Lib.Small
import Derived.Lib.Strings
import Derived.Lib.Walk
import Derived.LoopN
import Derived.OpenShut
import Derived.OrdersHeld
import Derived.Outline
import Derived.OwnWalk
import Derived.ProofKit
import Derived.Shelf.Bits.Mul64
import Derived.Shelf.Spec.TrailingZeros
import Derived.StillTailTactics
import Derived.WalkKit
import Derived.WalkLawsBesides
import Derived.WalkSpells
import Derived.Test.YtoaepibannfbdaaGreatDoorProg
import Derived.Test.YtoaepibannfbdaaGreatDoorRows
import Derived.Test.YtoaepibannfbdaaGreatDoorMr21
namespace Go.Proofs.YtoaepibannfbdaaGreatDoor.PM
set_option linter.unusedVariables false
set_option linter.unusedSimpArgs false
theorem dot_at (a b : Pq) (t : Rat) : pdot (pat a b t) a b = (t * t - t) * ((b.1 - a.1) * (b.1 - a.1) + (b.2 - a.2) * (b.2 - a.2)) := by simp only [pdot, pat]; grind
theorem unit_of {t : Rat} (h : t * t - t ≤ 0) : 0 ≤ t ∧ t ≤ 1 := by
  constructor
  · rcases (show t < 0 ∨ 0 ≤ t by grind) with h1 | h1
    · have := Rat.mul_pos (show 0 < -t by grind) (show 0 < -t by grind); grind
    · exact h1
  · rcases (show 1 < t ∨ t ≤ 1 by grind) with h1 | h1
    · have := Rat.mul_pos (show 0 < t by grind) (show 0 < t - 1 by grind); grind
    · exact h1
theorem of_unit {t : Rat} (h : 0 ≤ t) (h1 : t ≤ 1) : t * t - t ≤ 0 := by
  have := Rat.mul_nonneg h (show 0 ≤ 1 - t by grind); grind
theorem ins_doc {a b p : Pq} : InS a b p ↔ pcross a b p = 0 ∧ pdot p a b ≤ 0 := by
  constructor
  · rintro ⟨t, h0, h1, rfl⟩
    refine ⟨cross_at _ _ _, ?_⟩
    rw [dot_at]
    have h2 := of_unit h0 h1
    have h3 : 0 ≤ (b.1 - a.1) * (b.1 - a.1) + (b.2 - a.2) * (b.2 - a.2) := by
      have := sq_nonneg (b.1 - a.1); have := sq_nonneg (b.2 - a.2); grind
    have := Rat.mul_nonneg (show 0 ≤ -(t * t - t) by grind) h3
    grind
  · rintro ⟨hc, hd⟩
    by_cases h : a = b
    · subst h
      rw [ins_self]
      by_cases hp : p = a
      · exact hp
      · have := norm_pos hp
        simp only [pdot] at hd; grind
    · obtain ⟨t, rfl⟩ := col_at h hc
      rw [dot_at] at hd
      have hn := norm_pos h
      have : t * t - t ≤ 0 := by
        rcases (show t * t - t ≤ 0 ∨ 0 < t * t - t by grind) with h1 | h1
        · exact h1
        · have := Rat.mul_pos h1 hn; grind
      exact ⟨t, (unit_of this).1, (unit_of this).2, rfl⟩
theorem plt_ple {p q : Pq} (h : plt p q) : ple p q := by simp only [plt, ple] at *; grind
theorem plt_ne {p q : Pq} (h : plt p q) : p ≠ q := by rintro rfl; simp only [plt] at h; grind
theorem told_uniq {l m : List Pq} {S : Pq → Prop} (h : Told l S) (h' : Told m S) : l = m := by
  cases h with
  | none h =>
    cases h' with
    | none _ => rfl
    | one p h1 => exact absurd ((h1 p).2 rfl) (h p)
    | two p q _ h1 => exact absurd ((h1 p).2 (ins_left p q)) (h p)
  | one p h =>
    cases h' with
    | none h1 => exact absurd ((h p).2 rfl) (h1 p)
    | one q h1 => rw [(h1 p).1 ((h p).2 rfl)]
    | two q r hl h1 =>
      have e1 := (h q).1 ((h1 q).2 (ins_left q r))
      have e2 := (h r).1 ((h1 r).2 (ins_right q r))
      exact absurd (e1.trans e2.symm) (plt_ne hl)
  | two p q hl h =>
    cases h' with
    | none h1 => exact absurd ((h p).2 (ins_left p q)) (h1 p)
    | one r h1 =>
      have e1 := (h1 p).1 ((h p).2 (ins_left p q))
      have e2 := (h1 q).1 ((h q).2 (ins_right p q))
      exact absurd (e1.trans e2.symm) (plt_ne hl)
    | two p' q' hl' h1 =>
      have a1 := (ins_lex (plt_ple hl')).1 ((h1 p).1 ((h p).2 (ins_left p q)))
      have a2 := (ins_lex (plt_ple hl')).1 ((h1 q).1 ((h q).2 (ins_right p q)))
      have b1 := (ins_lex (plt_ple hl)).1 ((h p').1 ((h1 p').2 (ins_left p' q')))
      have b2 := (ins_lex (plt_ple hl)).1 ((h q').1 ((h1 q').2 (ins_right p' q')))
      rw [ple_antisymm b1.1 a1.1, ple_antisymm a2.2.1 b2.2.1]
noncomputable def dstep (S : Pq → Prop) (o : Option (Pq × Pq)) (x : Pq) : Option (Pq × Pq) := open Classical in
  if S x then match o with
    | none => some (x, x)
    | some (m, M) => some (if plt x m then x else m, if plt M x then x else M)
  else o
def Ends (S : Pq → Prop) (l : List Pq) : Option (Pq × Pq) → Prop
  | none => ∀ x ∈ l, ¬ S x
  | some (m, M) => S m ∧ S M ∧ ∀ x ∈ l, S x → ple m x ∧ ple x M
theorem dstep_ends {S : Pq → Prop} {l : List Pq} {o : Option (Pq × Pq)} (h : Ends S l o) (x : Pq) : Ends S (l ++ [x]) (dstep S o x) := by
  unfold dstep
  by_cases hx : S x
  · rw [if_pos hx]
    match o, h with
    | none, h =>
      refine ⟨hx, hx, fun y hy hs => ?_⟩
      rcases List.mem_append.1 hy with hy | hy
      · exact absurd hs (h y hy)
      · have : y = x := by simpa using hy
        subst this; exact ⟨ple_refl _, ple_refl _⟩
    | some (m, M), ⟨h1, h2, h3⟩ =>
      have hm : S (open Classical in if plt x m then x else m) ∧ ple (open Classical in if plt x m then x else m) m ∧ ple (open Classical in if plt x m then x else m) x := by
        by_cases h : plt x m
        · rw [if_pos h]; exact ⟨hx, plt_ple h, ple_refl _⟩
        · rw [if_neg h]; exact ⟨h1, ple_refl _, Classical.byContradiction fun hn => h (plt_iff.2 hn)⟩
      have hM : S (open Classical in if plt M x then x else M) ∧ ple M (open Classical in if plt M x then x else M) ∧ ple x (open Classical in if plt M x then x else M) := by
        by_cases h : plt M x
        · rw [if_pos h]; exact ⟨hx, plt_ple h, ple_refl _⟩
        · rw [if_neg h]; exact ⟨h2, ple_refl _, Classical.byContradiction fun hn => h (plt_iff.2 hn)⟩
      refine ⟨hm.1, hM.1, fun y hy hs => ?_⟩
      rcases List.mem_append.1 hy with hy | hy
      · obtain ⟨a, b⟩ := h3 y hy hs
        exact ⟨ple_trans hm.2.1 a, ple_trans b hM.2.1⟩
      · have : y = x := by simpa using hy
        subst this; exact ⟨hm.2.2, hM.2.2⟩
  · rw [if_neg hx]
    match o, h with
    | none, h =>
      intro y hy hs
      rcases List.mem_append.1 hy with hy | hy
      · exact h y hy hs
      · have : y = x := by simpa using hy
        subst this; exact hx hs
    | some (m, M), ⟨h1, h2, h3⟩ =>
      refine ⟨h1, h2, fun y hy hs => ?_⟩
      rcases List.mem_append.1 hy with hy | hy
      · exact h3 y hy hs
      · have : y = x := by simpa using hy
        subst this; exact absurd hs hx
noncomputable def told2 : Option (Pq × Pq) → List Pq
  | none => []
  | some (m, M) => btw m M
def Both (a b c d p : Pq) : Prop := InS a b p ∧ InS c d p
noncomputable def dout (a b c d : Pq) : Option (Pq × Pq) := dstep (Both a b c d) (dstep (Both a b c d) (dstep (Both a b c d) (dstep (Both a b c d) none a) b) c) d
noncomputable def meetD (a b c d : Pq) : List Pq := open Classical in
  if pcross c d a = pcross c d b then told2 (dout a b c d)
  else if Both a b c d (pat a b (pcross c d a / (pcross c d a - pcross c d b))) then [pat a b (pcross c d a / (pcross c d a - pcross c d b))] else []
theorem meetD_told (a b c d : Pq) : Told (meetD a b c d) (Both a b c d) := by
  unfold meetD
  by_cases hp : pcross c d a = pcross c d b
  · rw [if_pos hp]
    have he : Ends (Both a b c d) [a, b, c, d] (dout a b c d) := dstep_ends (l := [a, b, c]) (dstep_ends (l := [a, b]) (dstep_ends (l := [a]) (dstep_ends (l := []) (o := none) (fun x hx => by cases hx) a) b) c) d
    have hp2 : pcross a b c = pcross a b d := by
      have h2 : pcross a b c - pcross a b d = -(pcross c d a - pcross c d b) := by simp only [pcross]; grind
      grind
    have line : ∀ r, Both a b c d r → ∃ f t, (f ∈ [a, b, c, d] ∧ t ∈ [a, b, c, d]) ∧ ple f t ∧ ∀ p, Both a b c d p ↔ InS f t p := fun r hr => by
      have h3 : pcross c d a = 0 := by
        obtain ⟨⟨t, _, _, rfl⟩, h⟩ := hr
        have := (ins_prog.1 h).2.2
        rw [cross_pat, hp] at this; rw [hp]; grind
      have h1 : pcross a b c = 0 := by
        obtain ⟨h, t, _, _, rfl⟩ := hr
        have := (ins_prog.1 h).2.2
        rw [cross_pat, hp2] at this; rw [hp2]; grind
      have hm : ple (pmax (lo a b) (lo c d)) (pmin (hi a b) (hi c d)) := by
        have h1 := ins_prog.1 hr.1
        have h2 := ins_prog.1 hr.2
        exact ple_trans (pmax_le.2 ⟨h1.1, h2.1⟩) (le_pmin.2 ⟨h1.2.1, h2.2.1⟩)
      refine ⟨_, _, ⟨?_, ?_⟩, hm, fun p => meet_line h1 (hp2 ▸ h1) h3 (hp ▸ h3) hm p⟩
      · rcases pmax_or (lo a b) (lo c d) with e | e <;> rw [e]
        · rcases lo_or a b with e | e <;> simp [e]
        · rcases lo_or c d with e | e <;> simp [e]
      · rcases pmin_or (hi a b) (hi c d) with e | e <;> rw [e]
        · rcases hi_or a b with e | e <;> simp [e]
        · rcases hi_or c d with e | e <;> simp [e]
    generalize dout a b c d = o at he
    match o, he with
    | none, he =>
      refine .none fun r hr => ?_
      obtain ⟨f, t, ⟨h1, _⟩, _, h3⟩ := line r hr
      exact he f h1 ((h3 f).2 (ins_left f t))
    | some (m, M), ⟨hm, hM, hall⟩ =>
      obtain ⟨f, t, ⟨h1, h2⟩, hle, h3⟩ := line m hm
      have ef := hall f h1 ((h3 f).2 (ins_left f t))
      have et := hall t h2 ((h3 t).2 (ins_right f t))
      have em := (ins_lex hle).1 ((h3 m).1 hm)
      have eM := (ins_lex hle).1 ((h3 M).1 hM)
      have e1 := ple_antisymm ef.1 em.1
      have e2 := ple_antisymm eM.2.1 et.2
      subst e1; subst e2
      exact told_btw hle h3
  · rw [if_neg hp]
    by_cases hb : Both a b c d (pat a b (pcross c d a / (pcross c d a - pcross c d b)))
    · rw [if_pos hb]
      exact .one _ fun q => ⟨fun h => cross_only hp h, fun h => by rw [h]; exact hb⟩
    · rw [if_neg hb]
      exact .none fun q hq => hb (by rw [← cross_only hp hq]; exact hq)
theorem meet_same (a b c d : Pq) : meetP a b c d = meetD a b c d := told_uniq (meetP_told a b c d) (meetD_told a b c d)
end Go.Proofs.YtoaepibannfbdaaGreatDoor.PM
namespace Go.Proofs.YtoaepibannfbdaaGreatDoor
open Go.RowKit Mat Ex PM
set_option linter.unusedVariables false
set_option linter.unusedSimpArgs false
def sRRR (n m k : Int) : Sp := .of (.tup [(none, 3), (none, 3), (none, 3)]) (fun v W => ∃ u t s, v = .tuple #[u, t, s] ∧ RIntV W u n ∧ RIntV W t m ∧ RIntV W s k) (fun v W h => by
  obtain ⟨u, t, s, rfl, ⟨g, a, b, c, rfl, _⟩, ⟨g', a', b', c', rfl, _⟩, g2, a2, b2, c2, rfl, _⟩ := h
  exact fits2 (u := .bool true) (cs := [.int .i64 g, .slice a b c, .int .i64 g', .slice a' b' c', .int .i64 g2, .slice a2 b2 c2]) (by simp [Value.oneCell']) rfl) (fun v W W' k h => by obtain ⟨u, t, s, e, h1, h2, h3⟩ := h; exact ⟨u, t, s, e, h1.keeps k, h2.keeps k, h3.keeps k⟩)
theorem rrr1 {n m k : Int} {a b c : Value} {W : World} : (sRRR n m k).F (.tuple #[a, b, c]) W → RIntV W a n := by rintro ⟨u, t, s, e, h1, h2, h3⟩; cases e; exact h1
theorem rrr2 {n m k : Int} {a b c : Value} {W : World} : (sRRR n m k).F (.tuple #[a, b, c]) W → RIntV W b m := by rintro ⟨u, t, s, e, h1, h2, h3⟩; cases e; exact h2
theorem rrr3 {n m k : Int} {a b c : Value} {W : World} : (sRRR n m k).F (.tuple #[a, b, c]) W → RIntV W c k := by rintro ⟨u, t, s, e, h1, h2, h3⟩; cases e; exact h3
def RetHr (w : World) (l : List H3) (e : Ending) (w' : World) : Prop := ∃ v, e = .returned v ∧ HrV w' v l ∧ w.grownBy w' none ∧ ∀ q, fpS v q → w.heap.size ≤ q
section
variable {P : Program} {ρ : Operand → Value} {o : Oper} {W : World}
theorem hr_len {t : TypeId} {x : Operand} {v : Value} {l : List H3} (h : HrV W v l) (ho : o.op = .call ⟨.builtin .len, #[x], #[t]⟩) (hx : ρ x = v) (hu : ∃ el, Tryz.prog.underlying t = some (.slice el)) :
    (execOp ρ o).run Tryz.prog W = .ok (.value (.int .i64 l.length)) W := by
  obtain ⟨s, n, c, rfl, hl, hn, h⟩ := h
  obtain ⟨el, hu⟩ := hu
  simp [execOp, ho, resolve, invoke, builtin, Builtin.len_, run_underlying hu W, hx, goInt, hl]
end
theorem hr_one {w : World} {b n c : Nat} {cs : Array Value} {a0 a1 a2 a3 a4 a5 : Value} {p : H3} (hb : w.heap[b]? = some (.cells cs 43 (0, 0))) (hn : n = 1) (hc : n ≤ c) (h0 : cs[0]? = some a0) (h1 : cs[1]? = some a1) (h2 : cs[2]? = some a2) (h3 : cs[3]? = some a3) (h4 : cs[4]? = some a4) (h5 : cs[5]? = some a5) (hp : HV w (.agg #[a0, a1, a2, a3, a4, a5]) p) : HrV w (.slice (some ⟨b, 0, none⟩) n c) [p] := by
  refine ⟨_, _, _, rfl, hn.symm, hc, .inr ⟨b, 0, _, rfl, hb, fun i hi => ?_⟩⟩
  obtain rfl : i = 0 := by simpa using hi
  exact ⟨_, _, _, _, _, _, h0, h1, h2, h3, h4, h5, hp⟩
theorem hr_two {w : World} {b : Nat} {a0 a1 a2 a3 a4 a5 c0 c1 c2 c3 c4 c5 : Value} {p q : H3} (hb : w.heap[b]? = some (.cells #[a0, a1, a2, a3, a4, a5, c0, c1, c2, c3, c4, c5] 43 (0, 0))) (hp : HV w (.agg #[a0, a1, a2, a3, a4, a5]) p) (hq : HV w (.agg #[c0, c1, c2, c3, c4, c5]) q) : HrV w (.slice (some ⟨b, 0, none⟩) 2 2) [p, q] := by
  refine ⟨_, _, _, rfl, rfl, Nat.le_refl _, .inr ⟨b, 0, _, rfl, hb, fun i hi => ?_⟩⟩
  match i, hi with
  | 0, _ => exact ⟨_, _, _, _, _, _, rfl, rfl, rfl, rfl, rfl, rfl, hp⟩
  | 1, _ => exact ⟨_, _, _, _, _, _, rfl, rfl, rfl, rfl, rfl, rfl, hq⟩
  | n + 2, hi => exact absurd hi (by simp)
theorem hr_nil (w : World) : HrV w (.slice none 0 0) [] := ⟨none, 0, 0, rfl, rfl, Nat.le_refl _, .inl rfl⟩
theorem rp_cross {a b c : H3} (ha : 0 < a.z) (hb : 0 < b.z) (hc : 0 < c.z) : Rat.divInt (hcr a b c) (hdn a b c) = pcross (rp a) (rp b) (rp c) := by
  have h1 := hz ha; have h2 := hz hb; have h3 := hz hc
  unfold hcr hdn hlx hly pcross rp
  simp only [q_of, Rat.intCast_mul, Rat.intCast_sub]
  generalize (a.z : Rat) = az at *; generalize (b.z : Rat) = bz at *; generalize (c.z : Rat) = cz at *
  generalize (a.x : Rat) = ax; generalize (b.x : Rat) = bx; generalize (c.x : Rat) = cx
  generalize (a.y : Rat) = ay; generalize (b.y : Rat) = byy; generalize (c.y : Rat) = cy
  grind
theorem hcr_sign {a b c : H3} (ha : 0 < a.z) (hb : 0 < b.z) (hc : 0 < c.z) : (hcr a b c).sign = rsg (pcross (rp a) (rp b) (rp c)) := by
  rw [← rp_cross ha hb hc, rsg_divInt (hdn_pos ha hb hc)]
theorem hdt_sign {a b c : H3} (ha : 0 < a.z) (hb : 0 < b.z) (hc : 0 < c.z) : (hdt a b c).sign = rsg (pdot (rp a) (rp b) (rp c)) := by
  rw [← rp_dot ha hb hc, rsg_divInt (hdn_pos ha hb hc)]
theorem hcmp {a b : H3} (ha : 0 < a.z) (hb : 0 < b.z) : zcmp (a.x * b.z) (b.x * a.z) = rcmp (rp a).1 (rp b).1 ∧ zcmp (a.y * b.z) (b.y * a.z) = rcmp (rp a).2 (rp b).2 := ⟨(rcmp_divInt ha hb).symm, (rcmp_divInt ha hb).symm⟩
end Go.Proofs.YtoaepibannfbdaaGreatDoor
namespace Go.Proofs.YtoaepibannfbdaaGreatDoor
open Go.RowKit Mat Ex PM
set_option linter.unusedVariables false
set_option linter.unusedSimpArgs false
set_option maxRecDepth 100000
def RetRRR (w : World) (n m k : Int) (e : Ending) (w' : World) : Prop := ∃ v u t, e = .returned (.tuple #[v, u, t]) ∧ RIntV w' v n ∧ RIntV w' u m ∧ RIntV w' t k ∧ w.grownBy w' none
theorem toRRR {P : Program} {f : FuncId} {args : Array Value} {W : World} {n m k : Int} (h : Calls P f args W (RetRRR W n m k)) : Calls P f args W (Ret W (sRRR n m k).F) :=
  h.mono fun _ _ ⟨v, u, t, a, h1, h2, h3, g⟩ => ⟨_, a, ⟨v, u, t, rfl, h1, h2, h3⟩, g⟩
theorem rHCmp_any (w : World) (va vb : Value) (a b : H3) (E : Nat) (Ha : HV w va a) (Hb : HV w vb b) (hE : E ≤ 10000) (ba : HB E a) (bb : HB E b) (za : 0 < a.z) (zb : 0 < b.z) :
    Calls Tryz.prog 74 #[va, vb] w (fun e w' => e = .returned (.int .i64 (pcmp (rp a) (rp b))) ∧ w.grownBy w' none) := by
  by_cases h1 : rcmp (rp a).1 (rp b).1 = 0
  · skip
    unfold pcmp
    rw [if_pos h1]
    refine exec_calls mixed Tryz.func74 [sH a, sH b] [sR (a.x * b.z), sR (b.x * a.z), sZ (rcmp (rp a).1 (rp b).1), sV (.bool false), sR (a.y * b.z), sR (b.y * a.z), sZ (rcmp (rp a).2 (rp b).2)] (.cons Ha (.cons Hb .nil)) (rs := [cl 2 106 [ag 2 0, .v true [.an 1 4, .an 1 5]], cl 3 106 [ag 2 1, .v true [.an 0 4, .an 0 5]], cl 4 55 [ag 2 2, ag 2 3], co 5 (.binOp .neq 3 (.tmp 17) (.const (.int .i64 0)) 3) 4 [on 4, .v false [.lit (.int .i64 0)]] [0, 1, 2, 3, 4] [], cl 6 106 [.v true [.an 0 2, .an 0 3], .v true [.an 1 4, .an 1 5]], cl 7 106 [.v true [.an 1 2, .an 1 3], .v true [.an 0 4, .an 0 5]], cl 8 55 [ag 2 6, ag 2 7]]) (out := on 8) (nc := 9) (by kernel_rfl)
        ⟨fun σ W g h hb => rHmul_any W _ _ _ _ E (h31 (h 0 rfl)) (h33 (h 1 rfl)) (by omega) ba.1 bb.2.2,
        fun σ W g h hb => rHmul_any W _ _ _ _ E (h31 (h 1 rfl)) (h33 (h 0 rfl)) (by omega) bb.1 ba.2.2,
        fun σ W g h hb => toZ (rZCmp_any W _ _ _ _ (h 2 rfl) (h 3 rfl) (dp6 (dmul_bd ba.1 bb.2.2) (by omega)) (dp6 (dmul_bd bb.1 ba.2.2) (by omega))) (hcmp za zb).1,
        fun σ W g h hb => fun ρ o ho _ hv => ⟨_, ne_told false ho ((two_vals hv).1.trans (h 4 rfl)) (two_vals hv).2 (decide_eq_true h1), rfl⟩,
        fun σ W g h hb => rHmul_any W _ _ _ _ E (h32 (h 0 rfl)) (h33 (h 1 rfl)) (by omega) ba.2.1 bb.2.2,
        fun σ W g h hb => rHmul_any W _ _ _ _ E (h32 (h 1 rfl)) (h33 (h 0 rfl)) (by omega) bb.2.1 ba.2.2,
        fun σ W g h hb => toZ (rZCmp_any W _ _ _ _ (h 6 rfl) (h 7 rfl) (dp6 (dmul_bd ba.2.1 bb.2.2) (by omega)) (dp6 (dmul_bd bb.2.1 ba.2.2) (by omega))) (hcmp za zb).2,
        trivial⟩ fun τ W g h => ⟨congrArg Ending.returned (h 8 rfl), g⟩
  · skip
    unfold pcmp
    rw [if_neg h1]
    refine exec_calls mixed Tryz.func74 [sH a, sH b] [sR (a.x * b.z), sR (b.x * a.z), sZ (rcmp (rp a).1 (rp b).1), sV (.bool true)] (.cons Ha (.cons Hb .nil)) (rs := [cl 2 106 [ag 2 0, .v true [.an 1 4, .an 1 5]], cl 3 106 [ag 2 1, .v true [.an 0 4, .an 0 5]], cl 4 55 [ag 2 2, ag 2 3], co 5 (.binOp .neq 3 (.tmp 17) (.const (.int .i64 0)) 3) 4 [on 4, .v false [.lit (.int .i64 0)]] [0, 1, 2, 3, 4] []]) (out := on 4) (nc := 6) (by kernel_rfl)
        ⟨fun σ W g h hb => rHmul_any W _ _ _ _ E (h31 (h 0 rfl)) (h33 (h 1 rfl)) (by omega) ba.1 bb.2.2,
        fun σ W g h hb => rHmul_any W _ _ _ _ E (h31 (h 1 rfl)) (h33 (h 0 rfl)) (by omega) bb.1 ba.2.2,
        fun σ W g h hb => toZ (rZCmp_any W _ _ _ _ (h 2 rfl) (h 3 rfl) (dp6 (dmul_bd ba.1 bb.2.2) (by omega)) (dp6 (dmul_bd bb.1 ba.2.2) (by omega))) (hcmp za zb).1,
        fun σ W g h hb => fun ρ o ho _ hv => ⟨_, ne_told true ho ((two_vals hv).1.trans (h 4 rfl)) (two_vals hv).2 (decide_eq_false h1), rfl⟩,
        trivial⟩ fun τ W g h => ⟨congrArg Ending.returned (h 4 rfl), g⟩
theorem rHSide_any (w : World) (va vb vc : Value) (a b c : H3) (E : Nat) (Ha : HV w va a) (Hb : HV w vb b) (Hc : HV w vc c) (hE : E ≤ 10000) (ba : HB E a) (bb : HB E b) (bc : HB E c) (za : 0 < a.z) (zb : 0 < b.z) (zc : 0 < c.z) :
    Calls Tryz.prog 141 #[va, vb, vc] w (fun e w' => e = .returned (.int .i64 (rsg (pcross (rp a) (rp b) (rp c)))) ∧ w.grownBy w' none) := by
  have l1 := ba.less bb
  have l2 := ba.less bc
  refine exec_calls mixed Tryz.func141 [sH a, sH b, sH c] [sRR (hlx a b) (hly a b), sRR (hlx a c) (hly a c), sR (hlx a b * hly a c), sR (hly a b * hlx a c), sZ (rsg (pcross (rp a) (rp b) (rp c)))] (.cons Ha (.cons Hb (.cons Hc .nil))) (rs := [cl 3 104 [ag 6 0, ag 6 1], cl 4 104 [ag 6 0, ag 6 2], cl 5 106 [ag 2 3, .v true [.an 4 2, .an 4 3]], cl 6 106 [.v true [.an 3 2, .an 3 3], ag 2 4], cl 7 55 [ag 2 5, ag 2 6]]) (out := on 7) (nc := 8) (by kernel_rfl)
      ⟨fun σ W g h hb => toRR (rHless_any W _ _ a b E (h 0 rfl) (h 1 rfl) hE ba bb),
      fun σ W g h hb => toRR (rHless_any W _ _ a c E (h 0 rfl) (h 2 rfl) hE ba bc),
      fun σ W g h hb => rHmul_any W _ _ _ _ (E + E + 1) (rr1 (h 3 rfl)) (rr2 (h 4 rfl)) (by omega) l1.1 l2.2,
      fun σ W g h hb => rHmul_any W _ _ _ _ (E + E + 1) (rr2 (h 3 rfl)) (rr1 (h 4 rfl)) (by omega) l1.2 l2.1,
      fun σ W g h hb => toZ (rZCmp_any W _ _ _ _ (h 5 rfl) (h 6 rfl) (dp6 (dmul_bd l1.1 l2.2) (by omega)) (dp6 (dmul_bd l1.2 l2.1) (by omega))) (by rw [← hcr_sign za zb zc, ← zcmp_subE]; rfl),
      trivial⟩ fun τ W g h => ⟨congrArg Ending.returned (h 7 rfl), g⟩
theorem rHOn_any (w : World) (va vb : Value) (a b c : H3) (E : Nat) (Ha : HsV w va a b) (Hb : HV w vb c) (hE : E ≤ 10000) (ba : HB E a) (bb : HB E b) (bc : HB E c) (za : 0 < a.z) (zb : 0 < b.z) (zc : 0 < c.z) :
    Calls Tryz.prog 114 #[va, vb] w (RetB w (dec (InS (rp a) (rp b) (rp c)))) := by
  rcases (show pcross (rp a) (rp b) (rp c) ≠ 0 ∨ (pcross (rp a) (rp b) (rp c) = 0 ∧ ¬ pdot (rp c) (rp a) (rp b) ≤ 0) ∨ (pcross (rp a) (rp b) (rp c) = 0 ∧ pdot (rp c) (rp a) (rp b) ≤ 0) by grind) with h1 | ⟨h1, h2⟩ | ⟨h1, h2⟩
  · skip
    rw [dec_f (fun q => h1 (ins_doc.1 q).1)]
    refine exec_calls mixed Tryz.func114 [sHs a b, sH c] [sZ (rsg (pcross (rp a) (rp b) (rp c))), sV (.bool false)] (.cons Ha (.cons Hb .nil)) (rs := [cl 2 141 [ag 6 0, .v true [.an 0 6, .an 0 7, .an 0 8, .an 0 9, .an 0 10, .an 0 11], ag 6 1], co 3 (.binOp .eql 3 (.tmp 10) (.const (.int .i64 0)) 3) 4 [on 2, .v false [.lit (.int .i64 0)]] [0, 1, 2] []]) (out := .v false [.lit (.bool false)]) (nc := 4) (by kernel_rfl)
        ⟨fun σ W g h hb => toZ (rHSide_any W _ _ _ a b c E (hs1 (h 0 rfl)) (hs2 (h 0 rfl)) (h 1 rfl) hE ba bb bc za zb zc) rfl,
        fun σ W g h hb => fun ρ o ho _ hv => ⟨_, eq_told false ho ((two_vals hv).1.trans (h 2 rfl)) (two_vals hv).2 (decide_eq_false (fun q => h1 (rsg_zero.1 q))), rfl⟩,
        trivial⟩ fun τ W g h => ⟨rfl, g⟩
  · skip
    rw [dec_f (fun q => h2 (ins_doc.1 q).2)]
    refine exec_calls mixed Tryz.func114 [sHs a b, sH c] [sZ (rsg (pcross (rp a) (rp b) (rp c))), sV (.bool true), sRF (hdt c a b) (hdn c a b), sV (.bool false)] (.cons Ha (.cons Hb .nil)) (rs := [cl 2 141 [ag 6 0, .v true [.an 0 6, .an 0 7, .an 0 8, .an 0 9, .an 0 10, .an 0 11], ag 6 1], co 3 (.binOp .eql 3 (.tmp 10) (.const (.int .i64 0)) 3) 4 [on 2, .v false [.lit (.int .i64 0)]] [0, 1, 2] [], cl 4 63 [ag 6 1, ag 6 0, .v true [.an 0 6, .an 0 7, .an 0 8, .an 0 9, .an 0 10, .an 0 11]], co 5 (.binOp .leq 3 (.tmp 20) (.const (.int .i64 0)) 3) 4 [on 4, .v false [.lit (.int .i64 0)]] [0, 1, 2, 3, 4] []]) (out := .v false [.lit (.bool false)]) (nc := 6) (by kernel_rfl)
        ⟨fun σ W g h hb => toZ (rHSide_any W _ _ _ a b c E (hs1 (h 0 rfl)) (hs2 (h 0 rfl)) (h 1 rfl) hE ba bb bc za zb zc) rfl,
        fun σ W g h hb => fun ρ o ho _ hv => ⟨_, eq_told true ho ((two_vals hv).1.trans (h 2 rfl)) (two_vals hv).2 (decide_eq_true (rsg_zero.2 h1)), rfl⟩,
        fun σ W g h hb => rHTimes_any W _ _ _ c a b E (h 1 rfl) (hs1 (h 0 rfl)) (hs2 (h 0 rfl)) hE bc ba bb,
        fun σ W g h hb => fun ρ o ho _ hv => ⟨_, le_told false ho ((two_vals hv).1.trans (rs1 (rn (h 4 rfl)))) (two_vals hv).2 (decide_eq_false (by rw [hdt_sign zc za zb]; exact fun q => h2 (rsg_le.1 q))), rfl⟩,
        trivial⟩ fun τ W g h => ⟨rfl, g⟩
  · skip
    rw [dec_t (ins_doc.2 ⟨h1, h2⟩)]
    refine exec_calls mixed Tryz.func114 [sHs a b, sH c] [sZ (rsg (pcross (rp a) (rp b) (rp c))), sV (.bool true), sRF (hdt c a b) (hdn c a b), sV (.bool true)] (.cons Ha (.cons Hb .nil)) (rs := [cl 2 141 [ag 6 0, .v true [.an 0 6, .an 0 7, .an 0 8, .an 0 9, .an 0 10, .an 0 11], ag 6 1], co 3 (.binOp .eql 3 (.tmp 10) (.const (.int .i64 0)) 3) 4 [on 2, .v false [.lit (.int .i64 0)]] [0, 1, 2] [], cl 4 63 [ag 6 1, ag 6 0, .v true [.an 0 6, .an 0 7, .an 0 8, .an 0 9, .an 0 10, .an 0 11]], co 5 (.binOp .leq 3 (.tmp 20) (.const (.int .i64 0)) 3) 4 [on 4, .v false [.lit (.int .i64 0)]] [0, 1, 2, 3, 4] []]) (out := .v false [.lit (.bool true)]) (nc := 6) (by kernel_rfl)
        ⟨fun σ W g h hb => toZ (rHSide_any W _ _ _ a b c E (hs1 (h 0 rfl)) (hs2 (h 0 rfl)) (h 1 rfl) hE ba bb bc za zb zc) rfl,
        fun σ W g h hb => fun ρ o ho _ hv => ⟨_, eq_told true ho ((two_vals hv).1.trans (h 2 rfl)) (two_vals hv).2 (decide_eq_true (rsg_zero.2 h1)), rfl⟩,
        fun σ W g h hb => rHTimes_any W _ _ _ c a b E (h 1 rfl) (hs1 (h 0 rfl)) (hs2 (h 0 rfl)) hE bc ba bb,
        fun σ W g h hb => fun ρ o ho _ hv => ⟨_, le_told true ho ((two_vals hv).1.trans (rs1 (rn (h 4 rfl)))) (two_vals hv).2 (decide_eq_true (by rw [hdt_sign zc za zb]; exact rsg_le.2 h2)), rfl⟩,
        trivial⟩ fun τ W g h => ⟨rfl, g⟩
end Go.Proofs.YtoaepibannfbdaaGreatDoor
namespace Go.Proofs.YtoaepibannfbdaaGreatDoor
open Go.RowKit Mat Ex PM
set_option linter.unusedVariables false
set_option linter.unusedSimpArgs false
def lna (a b : H3) : Int := a.y * b.z - b.y * a.z
def lnb (a b : H3) : Int := b.x * a.z - a.x * b.z
def lnc (a b : H3) : Int := b.x * a.y - a.x * b.y
def crw (a b c d : H3) : Int := lna a b * lnb c d - lnb a b * lna c d
def crx (a b c d : H3) : Int := lnc a b * lnb c d - lnb a b * lnc c d
def cry (a b c d : H3) : Int := lna a b * lnc c d - lnc a b * lna c d
def crp (a b c d : H3) : H3 := if crw a b c d < 0 then ⟨-crx a b c d, -cry a b c d, -crw a b c d⟩ else ⟨crx a b c d, cry a b c d, crw a b c d⟩
theorem HB.line {E : Nat} {a b : H3} (ha : HB E a) (hb : HB E b) : (lna a b).natAbs < D ^ (E + E + 1) ∧ (lnb a b).natAbs < D ^ (E + E + 1) ∧ (lnc a b).natAbs < D ^ (E + E + 1) := by
  unfold lna lnb lnc
  refine ⟨?_, ?_, ?_⟩ <;> rw [Int.sub_eq_add_neg]
  · exact dadd_bd (dmul_bd ha.2.1 hb.2.2) (dneg_bd (dmul_bd hb.2.1 ha.2.2))
  · exact dadd_bd (dmul_bd hb.1 ha.2.2) (dneg_bd (dmul_bd ha.1 hb.2.2))
  · exact dadd_bd (dmul_bd hb.1 ha.2.1) (dneg_bd (dmul_bd ha.1 hb.2.1))
theorem HB.crw {E : Nat} {a b c d : H3} (ha : HB E a) (hb : HB E b) (hc : HB E c) (hd : HB E d) : (crw a b c d).natAbs < D ^ (4 * E + 3) ∧ (crx a b c d).natAbs < D ^ (4 * E + 3) ∧ (cry a b c d).natAbs < D ^ (4 * E + 3) := by
  have h1 := ha.line hb
  have h2 := hc.line hd
  unfold Proofs.YtoaepibannfbdaaGreatDoor.crw crx cry
  refine ⟨?_, ?_, ?_⟩ <;> rw [Int.sub_eq_add_neg]
  · exact dpw (dadd_bd (dmul_bd h1.1 h2.2.1) (dneg_bd (dmul_bd h1.2.1 h2.1))) (by omega)
  · exact dpw (dadd_bd (dmul_bd h1.2.2 h2.2.1) (dneg_bd (dmul_bd h1.2.1 h2.2.2))) (by omega)
  · exact dpw (dadd_bd (dmul_bd h1.1 h2.2.2) (dneg_bd (dmul_bd h1.2.2 h2.1))) (by omega)
theorem HB.crp {E : Nat} {a b c d : H3} (ha : HB E a) (hb : HB E b) (hc : HB E c) (hd : HB E d) : HB (4 * E + 3) (crp a b c d) := by
  obtain ⟨h1, h2, h3⟩ := ha.crw hb hc hd
  unfold Proofs.YtoaepibannfbdaaGreatDoor.crp
  split
  · exact ⟨dneg_bd h2, dneg_bd h3, dneg_bd h1⟩
  · exact ⟨h2, h3, h1⟩
theorem rq_mk {n d : Int} (h : 0 < d) : (n : Rat) = Rat.divInt n d * (d : Rat) := by
  rw [q_of]; exact (Rat.div_mul_cancel (hz h)).symm
theorem crw_eq {a b c d : H3} (za : 0 < a.z) (zb : 0 < b.z) (zc : 0 < c.z) (zd : 0 < d.z) :
    (crw a b c d : Rat) = (a.z : Rat) * b.z * c.z * d.z * (pcross (rp c) (rp d) (rp a) - pcross (rp c) (rp d) (rp b)) ∧
    (crx a b c d : Rat) = (a.z : Rat) * b.z * c.z * d.z * ((rp a).1 * (pcross (rp c) (rp d) (rp a) - pcross (rp c) (rp d) (rp b)) + ((rp b).1 - (rp a).1) * pcross (rp c) (rp d) (rp a)) ∧
    (cry a b c d : Rat) = (a.z : Rat) * b.z * c.z * d.z * ((rp a).2 * (pcross (rp c) (rp d) (rp a) - pcross (rp c) (rp d) (rp b)) + ((rp b).2 - (rp a).2) * pcross (rp c) (rp d) (rp a)) := by
  unfold crw crx cry lna lnb lnc pcross rp
  simp only [Rat.intCast_mul, Rat.intCast_sub]
  rw [rq_mk (n := a.x) za, rq_mk (n := a.y) za, rq_mk (n := b.x) zb, rq_mk (n := b.y) zb, rq_mk (n := c.x) zc, rq_mk (n := c.y) zc, rq_mk (n := d.x) zd, rq_mk (n := d.y) zd]
  generalize (a.z : Rat) = az at *; generalize (b.z : Rat) = bz at *; generalize (c.z : Rat) = cz at *; generalize (d.z : Rat) = dz at *
  generalize Rat.divInt a.x a.z = ax; generalize Rat.divInt b.x b.z = bx; generalize Rat.divInt c.x c.z = cx; generalize Rat.divInt d.x d.z = dx
  generalize Rat.divInt a.y a.z = ay; generalize Rat.divInt b.y b.z = b2; generalize Rat.divInt c.y c.z = cy; generalize Rat.divInt d.y d.z = dy
  refine ⟨by grind, by grind, by grind⟩
theorem crw_zero {a b c d : H3} (za : 0 < a.z) (zb : 0 < b.z) (zc : 0 < c.z) (zd : 0 < d.z) : crw a b c d = 0 ↔ pcross (rp c) (rp d) (rp a) = pcross (rp c) (rp d) (rp b) := by
  have h := (crw_eq za zb zc zd).1
  have hn := hz4 za zb zc zd
  constructor
  · intro e
    rw [e] at h
    rcases Rat.mul_eq_zero.1 h.symm with e2 | e2
    · exact absurd e2 hn
    · grind
  · intro e
    rw [e, Rat.sub_self, Rat.mul_zero] at h
    exact_mod_cast h
theorem crp_pos {a b c d : H3} (h : crw a b c d ≠ 0) : 0 < (crp a b c d).z := by
  unfold crp; split
  · show 0 < -crw a b c d; omega
  · show 0 < crw a b c d; omega
theorem div_neg2 (x y : Rat) : -x / -y = x / y := by
  by_cases h : y = 0
  · subst h; simp [Rat.div_def, Rat.inv_zero]
  · have : -y ≠ 0 := by grind
    grind
theorem cut_div {K N p q u : Rat} (hK : K ≠ 0) (hN : N ≠ 0) : K * (p * N + (q - p) * u) / (K * N) = p + (q - p) * (u / N) := by
  have hKN : K * N ≠ 0 := fun e => (Rat.mul_eq_zero.1 e).elim hK hN
  have e1 := Rat.div_mul_cancel (a := K * (p * N + (q - p) * u)) hKN
  have e2 := Rat.div_mul_cancel (a := u) hN
  generalize K * (p * N + (q - p) * u) / (K * N) = y at *
  generalize u / N = z at *
  have : (y - (p + (q - p) * z)) * (K * N) = 0 := by grind
  rcases Rat.mul_eq_zero.1 this with h | h
  · grind
  · exact absurd h hKN
theorem crp_is {a b c d : H3} (za : 0 < a.z) (zb : 0 < b.z) (zc : 0 < c.z) (zd : 0 < d.z) (h : crw a b c d ≠ 0) :
    rp (crp a b c d) = pat (rp a) (rp b) (pcross (rp c) (rp d) (rp a) / (pcross (rp c) (rp d) (rp a) - pcross (rp c) (rp d) (rp b))) := by
  have e : rp (crp a b c d) = ((crx a b c d : Rat) / (crw a b c d : Rat), (cry a b c d : Rat) / (crw a b c d : Rat)) := by
    unfold crp rp
    split
    · simp only [q_of, Rat.intCast_neg, div_neg2]
    · simp only [q_of]
  obtain ⟨h1, h2, h3⟩ := crw_eq za zb zc zd
  have hne : pcross (rp c) (rp d) (rp a) - pcross (rp c) (rp d) (rp b) ≠ 0 := fun q => h ((crw_zero za zb zc zd).2 (by grind))
  have hK := hz4 za zb zc zd
  rw [e, h1, h2, h3]
  generalize (a.z : Rat) * b.z * c.z * d.z = K at *
  generalize hu : pcross (rp c) (rp d) (rp a) = u at *
  generalize hv : pcross (rp c) (rp d) (rp b) = v at *
  simp only [pat]
  generalize hN : u - v = N at *
  refine Prod.ext ?_ ?_
  · show K * ((rp a).1 * N + ((rp b).1 - (rp a).1) * u) / (K * N) = (rp a).1 + ((rp b).1 - (rp a).1) * (u / N)
    exact cut_div hK hne
  · show K * ((rp a).2 * N + ((rp b).2 - (rp a).2) * u) / (K * N) = (rp a).2 + ((rp b).2 - (rp a).2) * (u / N)
    exact cut_div hK hne
end Go.Proofs.YtoaepibannfbdaaGreatDoor
namespace Go.Proofs.YtoaepibannfbdaaGreatDoor
open Go.RowKit Mat Ex PM
set_option linter.unusedVariables false
set_option linter.unusedSimpArgs false
set_option maxRecDepth 100000
theorem rHLine_any (w : World) (va : Value) (a b : H3) (E : Nat) (Ha : HsV w va a b) (hE : E ≤ 10000) (ba : HB E a) (bb : HB E b) :
    Calls Tryz.prog 140 #[va] w (RetRRR w (lna a b) (lnb a b) (lnc a b)) := by
  refine exec_calls mixed Tryz.func140 [sHs a b] [sR (a.y * b.z), sR (b.y * a.z), sR (lna a b), sR (b.x * a.z), sR (a.x * b.z), sR (lnb a b), sR (b.x * a.y), sR (a.x * b.y), sR (lnc a b)] (.cons Ha .nil) (rs := [cl 1 106 [.v true [.an 0 2, .an 0 3], .v true [.an 0 10, .an 0 11]], cl 2 106 [.v true [.an 0 8, .an 0 9], .v true [.an 0 4, .an 0 5]], cl 3 105 [ag 2 1, ag 2 2], cl 4 106 [.v true [.an 0 6, .an 0 7], .v true [.an 0 4, .an 0 5]], cl 5 106 [ag 2 0, .v true [.an 0 10, .an 0 11]], cl 6 105 [ag 2 4, ag 2 5], cl 7 106 [.v true [.an 0 6, .an 0 7], .v true [.an 0 2, .an 0 3]], cl 8 106 [ag 2 0, .v true [.an 0 8, .an 0 9]], cl 9 105 [ag 2 7, ag 2 8]]) (out := .tup [(true, [.an 3 0, .an 3 1]), (true, [.an 6 0, .an 6 1]), (true, [.an 9 0, .an 9 1])]) (nc := 10) (by kernel_rfl)
      ⟨fun σ W g h hb => rHmul_any W _ _ _ _ E (h32 (hs1 (h 0 rfl))) (h33 (hs2 (h 0 rfl))) (by omega) ba.2.1 bb.2.2,
      fun σ W g h hb => rHmul_any W _ _ _ _ E (h32 (hs2 (h 0 rfl))) (h33 (hs1 (h 0 rfl))) (by omega) bb.2.1 ba.2.2,
      fun σ W g h hb => rHsub_any W _ _ _ _ (E + E) (h 1 rfl) (h 2 rfl) (by omega) (dmul_bd ba.2.1 bb.2.2) (dmul_bd bb.2.1 ba.2.2),
      fun σ W g h hb => rHmul_any W _ _ _ _ E (h31 (hs2 (h 0 rfl))) (h33 (hs1 (h 0 rfl))) (by omega) bb.1 ba.2.2,
      fun σ W g h hb => rHmul_any W _ _ _ _ E (h31 (hs1 (h 0 rfl))) (h33 (hs2 (h 0 rfl))) (by omega) ba.1 bb.2.2,
      fun σ W g h hb => rHsub_any W _ _ _ _ (E + E) (h 4 rfl) (h 5 rfl) (by omega) (dmul_bd bb.1 ba.2.2) (dmul_bd ba.1 bb.2.2),
      fun σ W g h hb => rHmul_any W _ _ _ _ E (h31 (hs2 (h 0 rfl))) (h32 (hs1 (h 0 rfl))) (by omega) bb.1 ba.2.1,
      fun σ W g h hb => rHmul_any W _ _ _ _ E (h31 (hs1 (h 0 rfl))) (h32 (hs2 (h 0 rfl))) (by omega) ba.1 bb.2.1,
      fun σ W g h hb => rHsub_any W _ _ _ _ (E + E) (h 7 rfl) (h 8 rfl) (by omega) (dmul_bd bb.1 ba.2.1) (dmul_bd ba.1 bb.2.1),
      trivial⟩ fun τ W g h => ⟨_, _, _, rfl, h 3 rfl, h 6 rfl, h 9 rfl, g⟩
theorem crw_cmp (a b c d : H3) : zcmp (lna a b * lnb c d) (lnb a b * lna c d) = 0 ↔ crw a b c d = 0 := by
  unfold crw
  constructor
  · intro h
    exact Classical.byContradiction fun h2 => zcmp_ne (fun e => h2 (by omega)) h
  · intro h; exact zcmp_same (by omega)
theorem rHParallel_any (w : World) (va vb : Value) (a b c d : H3) (E : Nat) (Ha : HsV w va a b) (Hb : HsV w vb c d) (hE : 1 ≤ E ∧ E ≤ 100) (ba : HB E a) (bb : HB E b) (bc : HB E c) (bd : HB E d) :
    Calls Tryz.prog 112 #[va, vb] w (RetB w (dec (crw a b c d = 0))) := by
  have l1 := ba.line bb
  have l2 := bc.line bd
  by_cases h1 : crw a b c d = 0
  · skip
    rw [dec_t h1]
    refine exec_calls mixed Tryz.func112 [sHs a b, sHs c d] [sRRR (lna a b) (lnb a b) (lnc a b), sRRR (lna c d) (lnb c d) (lnc c d), sR (lna a b * lnb c d), sR (lnb a b * lna c d), sZ (zcmp (lna a b * lnb c d) (lnb a b * lna c d)), sV (.bool true)] (.cons Ha (.cons Hb .nil)) (rs := [cl 2 140 [ag 12 0], cl 3 140 [ag 12 1], cl 4 106 [ag 2 2, .v true [.an 3 2, .an 3 3]], cl 5 106 [.v true [.an 2 2, .an 2 3], ag 2 3], cl 6 55 [ag 2 4, ag 2 5], co 7 (.binOp .eql 3 (.tmp 29) (.const (.int .i64 0)) 3) 4 [on 6, .v false [.lit (.int .i64 0)]] [0, 1, 2, 3, 4, 5, 6] []]) (out := .v false [.lit (.bool true)]) (nc := 8) (by kernel_rfl)
        ⟨fun σ W g h hb => toRRR (rHLine_any W _ a b E (h 0 rfl) (by omega) ba bb),
        fun σ W g h hb => toRRR (rHLine_any W _ c d E (h 1 rfl) (by omega) bc bd),
        fun σ W g h hb => rHmul_any W _ _ _ _ (E + E + 1) (rrr1 (h 2 rfl)) (rrr2 (h 3 rfl)) (by omega) l1.1 l2.2.1,
        fun σ W g h hb => rHmul_any W _ _ _ _ (E + E + 1) (rrr2 (h 2 rfl)) (rrr1 (h 3 rfl)) (by omega) l1.2.1 l2.1,
        fun σ W g h hb => toZ (rZCmp_any W _ _ _ _ (h 4 rfl) (h 5 rfl) (dp6 (dmul_bd l1.1 l2.2.1) (by omega)) (dp6 (dmul_bd l1.2.1 l2.1) (by omega))) rfl,
        fun σ W g h hb => fun ρ o ho _ hv => ⟨_, eq_told true ho ((two_vals hv).1.trans (h 6 rfl)) (two_vals hv).2 (decide_eq_true ((crw_cmp a b c d).2 h1)), rfl⟩,
        trivial⟩ fun τ W g h => ⟨rfl, g⟩
  · skip
    rw [dec_f h1]
    refine exec_calls mixed Tryz.func112 [sHs a b, sHs c d] [sRRR (lna a b) (lnb a b) (lnc a b), sRRR (lna c d) (lnb c d) (lnc c d), sR (lna a b * lnb c d), sR (lnb a b * lna c d), sZ (zcmp (lna a b * lnb c d) (lnb a b * lna c d)), sV (.bool false)] (.cons Ha (.cons Hb .nil)) (rs := [cl 2 140 [ag 12 0], cl 3 140 [ag 12 1], cl 4 106 [ag 2 2, .v true [.an 3 2, .an 3 3]], cl 5 106 [.v true [.an 2 2, .an 2 3], ag 2 3], cl 6 55 [ag 2 4, ag 2 5], co 7 (.binOp .eql 3 (.tmp 29) (.const (.int .i64 0)) 3) 4 [on 6, .v false [.lit (.int .i64 0)]] [0, 1, 2, 3, 4, 5, 6] []]) (out := .v false [.lit (.bool false)]) (nc := 8) (by kernel_rfl)
        ⟨fun σ W g h hb => toRRR (rHLine_any W _ a b E (h 0 rfl) (by omega) ba bb),
        fun σ W g h hb => toRRR (rHLine_any W _ c d E (h 1 rfl) (by omega) bc bd),
        fun σ W g h hb => rHmul_any W _ _ _ _ (E + E + 1) (rrr1 (h 2 rfl)) (rrr2 (h 3 rfl)) (by omega) l1.1 l2.2.1,
        fun σ W g h hb => rHmul_any W _ _ _ _ (E + E + 1) (rrr2 (h 2 rfl)) (rrr1 (h 3 rfl)) (by omega) l1.2.1 l2.1,
        fun σ W g h hb => toZ (rZCmp_any W _ _ _ _ (h 4 rfl) (h 5 rfl) (dp6 (dmul_bd l1.1 l2.2.1) (by omega)) (dp6 (dmul_bd l1.2.1 l2.1) (by omega))) rfl,
        fun σ W g h hb => fun ρ o ho _ hv => ⟨_, eq_told false ho ((two_vals hv).1.trans (h 6 rfl)) (two_vals hv).2 (decide_eq_false (fun q => h1 ((crw_cmp a b c d).1 q))), rfl⟩,
        trivial⟩ fun τ W g h => ⟨rfl, g⟩
theorem rHCrossing_any (w : World) (va vb : Value) (a b c d : H3) (E : Nat) (Ha : HsV w va a b) (Hb : HsV w vb c d) (hE : 1 ≤ E ∧ E ≤ 100) (ba : HB E a) (bb : HB E b) (bc : HB E c) (bd : HB E d) :
    Calls Tryz.prog 113 #[va, vb] w (RetH w (crp a b c d)) := by
  have l1 := ba.line bb
  have l2 := bc.line bd
  by_cases h1 : crw a b c d < 0
  · skip
    unfold crp
    rw [if_pos h1]
    refine exec_calls mixed Tryz.func113 [sHs a b, sHs c d] [sRRR (lna a b) (lnb a b) (lnc a b), sRRR (lna c d) (lnb c d) (lnc c d), sR (lna a b * lnb c d), sR (lnb a b * lna c d), sR (crw a b c d), sR (lnc a b * lnb c d), sR (lnb a b * lnc c d), sR (crx a b c d), sR (lna a b * lnc c d), sR (lnc a b * lna c d), sR (cry a b c d), sV (.bool true), sR (-crx a b c d), sR (-cry a b c d), sR (-crw a b c d)] (.cons Ha (.cons Hb .nil)) (rs := [cl 2 140 [ag 12 0], cl 3 140 [ag 12 1], cl 4 106 [ag 2 2, .v true [.an 3 2, .an 3 3]], cl 5 106 [.v true [.an 2 2, .an 2 3], ag 2 3], cl 6 105 [ag 2 4, ag 2 5], cl 7 106 [.v true [.an 2 4, .an 2 5], .v true [.an 3 2, .an 3 3]], cl 8 106 [.v true [.an 2 2, .an 2 3], .v true [.an 3 4, .an 3 5]], cl 9 105 [ag 2 7, ag 2 8], cl 10 106 [ag 2 2, .v true [.an 3 4, .an 3 5]], cl 11 106 [.v true [.an 2 4, .an 2 5], ag 2 3], cl 12 105 [ag 2 10, ag 2 11], co 13 (.binOp .lss 3 (.tmp 48) (.const (.int .i64 0)) 3) 4 [on 6, .v false [.lit (.int .i64 0)]] [0, 1, 2, 3, 4, 5, 6, 7, 8, 9, 10, 11, 12] [], cl 14 115 [ag 2 9], cl 15 115 [ag 2 12], cl 16 115 [ag 2 6]]) (out := .v true [.an 14 0, .an 14 1, .an 15 0, .an 15 1, .an 16 0, .an 16 1]) (nc := 17) (by kernel_rfl)
        ⟨fun σ W g h hb => toRRR (rHLine_any W _ a b E (h 0 rfl) (by omega) ba bb),
        fun σ W g h hb => toRRR (rHLine_any W _ c d E (h 1 rfl) (by omega) bc bd),
        fun σ W g h hb => rHmul_any W _ _ _ _ (E + E + 1) (rrr1 (h 2 rfl)) (rrr2 (h 3 rfl)) (by omega) l1.1 l2.2.1,
        fun σ W g h hb => rHmul_any W _ _ _ _ (E + E + 1) (rrr2 (h 2 rfl)) (rrr1 (h 3 rfl)) (by omega) l1.2.1 l2.1,
        fun σ W g h hb => rHsub_any W _ _ _ _ (E + E + 1 + (E + E + 1)) (h 4 rfl) (h 5 rfl) (by omega) (dmul_bd l1.1 l2.2.1) (dmul_bd l1.2.1 l2.1),
        fun σ W g h hb => rHmul_any W _ _ _ _ (E + E + 1) (rrr3 (h 2 rfl)) (rrr2 (h 3 rfl)) (by omega) l1.2.2 l2.2.1,
        fun σ W g h hb => rHmul_any W _ _ _ _ (E + E + 1) (rrr2 (h 2 rfl)) (rrr3 (h 3 rfl)) (by omega) l1.2.1 l2.2.2,
        fun σ W g h hb => rHsub_any W _ _ _ _ (E + E + 1 + (E + E + 1)) (h 7 rfl) (h 8 rfl) (by omega) (dmul_bd l1.2.2 l2.2.1) (dmul_bd l1.2.1 l2.2.2),
        fun σ W g h hb => rHmul_any W _ _ _ _ (E + E + 1) (rrr1 (h 2 rfl)) (rrr3 (h 3 rfl)) (by omega) l1.1 l2.2.2,
        fun σ W g h hb => rHmul_any W _ _ _ _ (E + E + 1) (rrr3 (h 2 rfl)) (rrr1 (h 3 rfl)) (by omega) l1.2.2 l2.1,
        fun σ W g h hb => rHsub_any W _ _ _ _ (E + E + 1 + (E + E + 1)) (h 10 rfl) (h 11 rfl) (by omega) (dmul_bd l1.1 l2.2.2) (dmul_bd l1.2.2 l2.1),
        fun σ W g h hb => fun ρ o ho _ hv => ⟨_, lt_told true ho ((two_vals hv).1.trans (rs1 (h 6 rfl))) (two_vals hv).2 (decide_eq_true (sgn_lt.2 h1)), rfl⟩,
        fun σ W g h hb => rNeg_any W _ _ (h 9 rfl),
        fun σ W g h hb => rNeg_any W _ _ (h 12 rfl),
        fun σ W g h hb => rNeg_any W _ _ (h 6 rfl),
        trivial⟩ fun τ W g h => ⟨_, rfl, mkh (h 14 rfl) (h 15 rfl) (h 16 rfl), g⟩
  · skip
    unfold crp
    rw [if_neg h1]
    refine exec_calls mixed Tryz.func113 [sHs a b, sHs c d] [sRRR (lna a b) (lnb a b) (lnc a b), sRRR (lna c d) (lnb c d) (lnc c d), sR (lna a b * lnb c d), sR (lnb a b * lna c d), sR (crw a b c d), sR (lnc a b * lnb c d), sR (lnb a b * lnc c d), sR (crx a b c d), sR (lna a b * lnc c d), sR (lnc a b * lna c d), sR (cry a b c d), sV (.bool false)] (.cons Ha (.cons Hb .nil)) (rs := [cl 2 140 [ag 12 0], cl 3 140 [ag 12 1], cl 4 106 [ag 2 2, .v true [.an 3 2, .an 3 3]], cl 5 106 [.v true [.an 2 2, .an 2 3], ag 2 3], cl 6 105 [ag 2 4, ag 2 5], cl 7 106 [.v true [.an 2 4, .an 2 5], .v true [.an 3 2, .an 3 3]], cl 8 106 [.v true [.an 2 2, .an 2 3], .v true [.an 3 4, .an 3 5]], cl 9 105 [ag 2 7, ag 2 8], cl 10 106 [ag 2 2, .v true [.an 3 4, .an 3 5]], cl 11 106 [.v true [.an 2 4, .an 2 5], ag 2 3], cl 12 105 [ag 2 10, ag 2 11], co 13 (.binOp .lss 3 (.tmp 48) (.const (.int .i64 0)) 3) 4 [on 6, .v false [.lit (.int .i64 0)]] [0, 1, 2, 3, 4, 5, 6, 7, 8, 9, 10, 11, 12] []]) (out := .v true [.an 9 0, .an 9 1, .an 12 0, .an 12 1, .an 6 0, .an 6 1]) (nc := 14) (by kernel_rfl)
        ⟨fun σ W g h hb => toRRR (rHLine_any W _ a b E (h 0 rfl) (by omega) ba bb),
        fun σ W g h hb => toRRR (rHLine_any W _ c d E (h 1 rfl) (by omega) bc bd),
        fun σ W g h hb => rHmul_any W _ _ _ _ (E + E + 1) (rrr1 (h 2 rfl)) (rrr2 (h 3 rfl)) (by omega) l1.1 l2.2.1,
        fun σ W g h hb => rHmul_any W _ _ _ _ (E + E + 1) (rrr2 (h 2 rfl)) (rrr1 (h 3 rfl)) (by omega) l1.2.1 l2.1,
        fun σ W g h hb => rHsub_any W _ _ _ _ (E + E + 1 + (E + E + 1)) (h 4 rfl) (h 5 rfl) (by omega) (dmul_bd l1.1 l2.2.1) (dmul_bd l1.2.1 l2.1),
        fun σ W g h hb => rHmul_any W _ _ _ _ (E + E + 1) (rrr3 (h 2 rfl)) (rrr2 (h 3 rfl)) (by omega) l1.2.2 l2.2.1,
        fun σ W g h hb => rHmul_any W _ _ _ _ (E + E + 1) (rrr2 (h 2 rfl)) (rrr3 (h 3 rfl)) (by omega) l1.2.1 l2.2.2,
        fun σ W g h hb => rHsub_any W _ _ _ _ (E + E + 1 + (E + E + 1)) (h 7 rfl) (h 8 rfl) (by omega) (dmul_bd l1.2.2 l2.2.1) (dmul_bd l1.2.1 l2.2.2),
        fun σ W g h hb => rHmul_any W _ _ _ _ (E + E + 1) (rrr1 (h 2 rfl)) (rrr3 (h 3 rfl)) (by omega) l1.1 l2.2.2,
        fun σ W g h hb => rHmul_any W _ _ _ _ (E + E + 1) (rrr3 (h 2 rfl)) (rrr1 (h 3 rfl)) (by omega) l1.2.2 l2.1,
        fun σ W g h hb => rHsub_any W _ _ _ _ (E + E + 1 + (E + E + 1)) (h 10 rfl) (h 11 rfl) (by omega) (dmul_bd l1.1 l2.2.2) (dmul_bd l1.2.2 l2.1),
        fun σ W g h hb => fun ρ o ho _ hv => ⟨_, lt_told false ho ((two_vals hv).1.trans (rs1 (h 6 rfl))) (two_vals hv).2 (decide_eq_false (fun q => h1 (sgn_lt.1 q))), rfl⟩,
        trivial⟩ fun τ W g h => ⟨_, rfl, mkh (h 9 rfl) (h 12 rfl) (h 6 rfl), g⟩
def RetHl (w : World) (E : Nat) (L : List Pq) (e : Ending) (w' : World) : Prop := ∃ l : List H3, RetHr w l e w' ∧ l.map rp = L ∧ ∀ p ∈ l, HB E p ∧ 0 < p.z
theorem hl_nil {w w' : World} {E : Nat} (g : w.grownBy w' none) : RetHl w E [] (.returned (.slice none 0 0)) w' := ⟨[], ⟨_, rfl, hr_nil _, g, fp_nil⟩, rfl, fun p hp => by cases hp⟩
theorem hl_one {w w' : World} {E b n c : Nat} {cs : Array Value} {a0 a1 a2 a3 a4 a5 : Value} {p : H3} {q : Pq} (hl : w.heap.size ≤ b) (g : w.grownBy w' none) (hb : w'.heap[b]? = some (.cells cs 43 (0, 0))) (hn : n = 1) (hc : n ≤ c) (h0 : cs[0]? = some a0) (h1 : cs[1]? = some a1) (h2 : cs[2]? = some a2) (h3 : cs[3]? = some a3) (h4 : cs[4]? = some a4) (h5 : cs[5]? = some a5)
    (hp : HV w' (.agg #[a0, a1, a2, a3, a4, a5]) p) (he : rp p = q) (hB : HB E p) (hz : 0 < p.z) : RetHl w E [q] (.returned (.slice (some ⟨b, 0, none⟩) n c)) w' :=
  ⟨[p], ⟨_, rfl, hr_one hb hn hc h0 h1 h2 h3 h4 h5 hp, g, fp_new hl⟩, by rw [← he]; rfl, fun x hx => by
    obtain rfl : x = p := by simpa using hx
    exact ⟨hB, hz⟩⟩
theorem hl_two {w w' : World} {E b : Nat} {a0 a1 a2 a3 a4 a5 c0 c1 c2 c3 c4 c5 : Value} {p q : H3} {P Q : Pq} (hl : w.heap.size ≤ b) (g : w.grownBy w' none) (hb : w'.heap[b]? = some (.cells #[a0, a1, a2, a3, a4, a5, c0, c1, c2, c3, c4, c5] 43 (0, 0))) (hp : HV w' (.agg #[a0, a1, a2, a3, a4, a5]) p) (hq : HV w' (.agg #[c0, c1, c2, c3, c4, c5]) q)
    (hP : rp p = P) (hQ : rp q = Q) (bp : HB E p) (bq : HB E q) (zp : 0 < p.z) (zq : 0 < q.z) : RetHl w E [P, Q] (.returned (.slice (some ⟨b, 0, none⟩) 2 2)) w' :=
  ⟨[p, q], ⟨_, rfl, hr_two hb hp hq, g, fp_new hl⟩, by rw [← hP, ← hQ]; rfl, fun x hx => by
    rcases List.mem_cons.1 hx with rfl | hx
    · exact ⟨bp, zp⟩
    · obtain rfl : x = q := by simpa using hx
      exact ⟨bq, zq⟩⟩
end Go.Proofs.YtoaepibannfbdaaGreatDoor
