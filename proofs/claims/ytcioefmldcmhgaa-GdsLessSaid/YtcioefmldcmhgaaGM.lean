/- Streams as trees: the mathematics: rules of records, what they let go by, trees. -/
import Derived.Test.YtcioefmldcmhgaaKMath
import Derived.Test.YtcioefmldcmhgaaKTab
namespace Go.Proofs.Ytcioefmldcmhgaa
open Go.RowKit
set_option maxRecDepth 100000
set_option linter.unusedVariables false
set_option linter.unusedSimpArgs false

def rt (r : KRec) : Bool := rightB r.1 r.2.1 r.2.2
/-- A record of a kind: none: there, but not right; some none: not there; else what is behind it. -/
def tkR (k : Nat) (l : List KRec) : Option (Option (List KRec)) :=
  match l with
  | [] => some none
  | r :: t => if r.1 = k then (if rt r = true then some (some t) else none) else some none
/-- As many of a kind as there are. -/
def manyR (k : Nat) : List KRec → Option (List KRec)
  | [] => some []
  | r :: t => if r.1 = k then (if rt r = true then manyR k t else none) else some (r :: t)
/-- Properties: pairs of two kinds. -/
def propsR : List KRec → Option (List KRec)
  | [] => some []
  | [r] => if r.1 = 43 then none else some [r]
  | r :: v :: t => if r.1 = 43 then (if rt r = true ∧ v.1 = 44 ∧ rt v = true then propsR t else none) else some (r :: v :: t)
inductive Ru where
  | nop
  | bad
  | one (k : Nat)
  | opt (k : Nat)
  | seq (a b : Ru)
  | tk (k : Nat) (y n : Ru)
  | many (k : Nat)
  | props
def run : Ru → List KRec → Option (List KRec)
  | .nop, l => some l
  | .bad, _ => none
  | .one k, l => match tkR k l with | some (some t) => some t | _ => none
  | .opt k, l => match tkR k l with | some (some t) => some t | some none => some l | none => none
  | .seq a b, l => match run a l with | some m => run b m | none => none
  | .tk k y n, l => match tkR k l with | some (some t) => run y t | some none => run n l | none => none
  | .many k, l => manyR k l
  | .props, l => propsR l
/-- The kinds that a rule may let stand where it ends. -/
def ends : Ru → List Nat
  | .nop => []
  | .bad => []
  | .one _ => []
  | .opt k => [k]
  | .seq a b => ends a ++ ends b
  | .tk k y n => k :: (ends y ++ ends n)
  | .many k => [k]
  | .props => [43]
def Off (ks : List Nat) (x : List KRec) : Prop := ∀ r t, x = r :: t → r.1 ∉ ks
theorem Off.nil (ks : List Nat) : Off ks [] := fun r t e => by cases e
theorem Off.left {a b : List Nat} {x : List KRec} (h : Off (a ++ b) x) : Off a x := fun r t e hm => h r t e (List.mem_append_left _ hm)
theorem Off.right {a b : List Nat} {x : List KRec} (h : Off (a ++ b) x) : Off b x := fun r t e hm => h r t e (List.mem_append_right _ hm)
theorem Off.head {k : Nat} {b : List Nat} {x : List KRec} (h : Off (k :: b) x) : Off [k] x := fun r t e hm => h r t e (by simp at hm; simp [hm])
theorem Off.tail {k : Nat} {b : List Nat} {x : List KRec} (h : Off (k :: b) x) : Off b x := fun r t e hm => h r t e (by simp [hm])
theorem tk_app {k : Nat} {l x : List KRec} {m : Option (List KRec)} (h : tkR k l = some m) (ho : Off [k] x) : tkR k (l ++ x) = some (m.map (· ++ x)) := by
  cases l with
  | nil =>
    simp [tkR] at h; subst h
    cases x with
    | nil => rfl
    | cons r t => have := ho r t rfl; simp at this; simp [tkR, this]
  | cons r t =>
    simp only [tkR, List.cons_append] at h ⊢
    split at h
    · split at h
      · cases h; rename_i h1 h2; rw [if_pos h1, if_pos h2]; rfl
      · cases h
    · cases h; rename_i h1; rw [if_neg h1]; rfl
theorem tk_some {k : Nat} {l t : List KRec} (h : tkR k l = some (some t)) : ∃ r, l = r :: t ∧ r.1 = k ∧ rt r = true := by
  cases l with
  | nil => simp [tkR] at h
  | cons r s =>
    simp only [tkR] at h
    split at h
    · split at h
      · cases h; exact ⟨r, rfl, by assumption, by assumption⟩
      · cases h
    · cases h
theorem tk_yes {r : KRec} {t : List KRec} (h : rt r = true) : tkR r.1 (r :: t) = some (some t) := by simp [tkR, h]
theorem many_app {k : Nat} {x : List KRec} (ho : Off [k] x) : ∀ {l m : List KRec}, manyR k l = some m → manyR k (l ++ x) = some (m ++ x) := by
  intro l
  induction l with
  | nil =>
    intro m h
    simp [manyR] at h; subst h
    cases x with
    | nil => rfl
    | cons r t => have := ho r t rfl; simp at this; simp [manyR, this]
  | cons r t ih =>
    intro m h
    simp only [manyR, List.cons_append] at h ⊢
    split at h
    · split at h
      · rename_i h1 h2; rw [if_pos h1, if_pos h2]; exact ih h
      · cases h
    · cases h; rename_i h1; rw [if_neg h1]; rfl
theorem props_app {x : List KRec} (ho : Off [43] x) : ∀ (n : Nat) {l m : List KRec}, l.length ≤ n → propsR l = some m → propsR (l ++ x) = some (m ++ x) := by
  intro n
  induction n with
  | zero =>
    intro l m hn h
    have : l = [] := List.length_eq_zero_iff.1 (by omega)
    subst this
    simp [propsR] at h; subst h
    match x, ho with
    | [], _ => rfl
    | [r], ho => have := ho r [] rfl; simp at this; simp [propsR, this]
    | r :: v :: t, ho => have := ho r (v :: t) rfl; simp at this; simp [propsR, this]
  | succ n ih =>
    intro l m hn h
    match l, hn, h with
    | [], _, h =>
      simp [propsR] at h; subst h
      match x, ho with
      | [], _ => rfl
      | [r], ho => have := ho r [] rfl; simp at this; simp [propsR, this]
      | r :: v :: t, ho => have := ho r (v :: t) rfl; simp at this; simp [propsR, this]
    | [r], _, h =>
      simp only [propsR] at h
      split at h
      · cases h
      · cases h; rename_i h1
        match x with
        | [] => simp [propsR, h1]
        | v :: t => simp [propsR, h1]
    | r :: v :: t, hn, h =>
      simp only [propsR, List.cons_append] at h ⊢
      split at h
      · split at h
        · rename_i h1 h2; rw [if_pos h1, if_pos h2]; exact ih (by simp at hn; omega) h
        · cases h
      · cases h; rename_i h1; rw [if_neg h1]; rfl
theorem run_app (a : Ru) : ∀ {l m x : List KRec}, run a l = some m → Off (ends a) x → run a (l ++ x) = some (m ++ x) := by
  induction a with
  | nop => intro l m x h _; simp [run] at h ⊢; rw [h]
  | bad => intro l m x h _; simp [run] at h
  | one k =>
    intro l m x h _
    simp only [run] at h ⊢
    split at h
    · rename_i t ht
      obtain ⟨r, rfl, h1, h2⟩ := tk_some ht
      cases h
      subst h1
      rw [List.cons_append, tk_yes h2]
    · cases h
  | opt k =>
    intro l m x h ho
    simp only [run] at h ⊢
    split at h
    · rename_i t ht; cases h; rw [tk_app ht ho]; rfl
    · rename_i ht; cases h; rw [tk_app ht ho]; rfl
    · cases h
  | seq a b iha ihb =>
    intro l m x h ho
    simp only [run] at h ⊢
    split at h
    · rename_i t ht; rw [iha ht ho.left]; exact ihb h ho.right
    · cases h
  | tk k y n ihy ihn =>
    intro l m x h ho
    simp only [run] at h ⊢
    split at h
    · rename_i t ht; rw [tk_app ht ho.head]; exact ihy h ho.tail.left
    · rename_i ht; rw [tk_app ht ho.head]; exact ihn h ho.tail.right
    · cases h
  | many k => intro l m x h ho; exact many_app ho h
  | props => intro l m x h ho; exact props_app ho _ (Nat.le_refl _) h
theorem many_suf {k : Nat} : ∀ {l m : List KRec}, manyR k l = some m → ∃ p, l = p ++ m ∧ manyR k p = some [] := by
  intro l
  induction l with
  | nil => intro m h; simp [manyR] at h; subst h; exact ⟨[], rfl, rfl⟩
  | cons r t ih =>
    intro m h
    simp only [manyR] at h
    split at h
    · split at h
      · rename_i h1 h2
        obtain ⟨p, rfl, hp⟩ := ih h
        exact ⟨r :: p, rfl, by simp [manyR, h1, h2, hp]⟩
      · cases h
    · cases h; exact ⟨[], rfl, rfl⟩
theorem props_suf : ∀ (n : Nat) {l m : List KRec}, l.length ≤ n → propsR l = some m → ∃ p, l = p ++ m ∧ propsR p = some [] := by
  intro n
  induction n with
  | zero =>
    intro l m hn h
    have : l = [] := List.length_eq_zero_iff.1 (by omega)
    subst this
    simp [propsR] at h; subst h; exact ⟨[], rfl, rfl⟩
  | succ n ih =>
    intro l m hn h
    match l, hn, h with
    | [], _, h => simp [propsR] at h; subst h; exact ⟨[], rfl, rfl⟩
    | [r], _, h =>
      simp only [propsR] at h
      split at h
      · cases h
      · cases h; exact ⟨[], rfl, rfl⟩
    | r :: v :: t, hn, h =>
      simp only [propsR] at h
      split at h
      · split at h
        · rename_i h1 h2
          obtain ⟨p, rfl, hp⟩ := ih (by simp at hn; omega) h
          exact ⟨r :: v :: p, rfl, by simp [propsR, h1, h2, hp]⟩
        · cases h
      · cases h; exact ⟨[], rfl, rfl⟩
/-- What is behind what a rule lets go by; and the rule upon that alone. -/
theorem run_suf (a : Ru) : ∀ {l m : List KRec}, run a l = some m → ∃ p, l = p ++ m ∧ ∀ x, (∃ s, m = x ++ s) → run a (p ++ x) = some x := by
  induction a with
  | nop => intro l m h; simp [run] at h; subst h; exact ⟨[], rfl, fun x _ => rfl⟩
  | bad => intro l m h; simp [run] at h
  | one k =>
    intro l m h
    simp only [run] at h
    split at h
    · rename_i t ht
      obtain ⟨r, rfl, rfl, h2⟩ := tk_some ht
      cases h
      exact ⟨[r], rfl, fun x _ => by simp only [run, List.cons_append, List.nil_append]; rw [tk_yes h2]⟩
    · cases h
  | opt k =>
    intro l m h
    simp only [run] at h
    split at h
    · rename_i t ht
      obtain ⟨r, rfl, rfl, h2⟩ := tk_some ht
      cases h
      exact ⟨[r], rfl, fun x _ => by simp only [run, List.cons_append, List.nil_append]; rw [tk_yes h2]⟩
    · rename_i ht
      cases h
      refine ⟨[], rfl, fun x ⟨s, hs⟩ => ?_⟩
      subst hs
      cases x with
      | nil => rfl
      | cons r x =>
        simp only [tkR, List.cons_append] at ht
        split at ht
        · split at ht <;> cases ht
        · rename_i h1; simp [run, tkR, h1]
    · cases h
  | seq a b iha ihb =>
    intro l m h
    simp only [run] at h
    split at h
    · rename_i t ht
      obtain ⟨p, rfl, hp⟩ := iha ht
      obtain ⟨q, rfl, hq⟩ := ihb h
      refine ⟨p ++ q, by simp, fun x ⟨s, hs⟩ => ?_⟩
      subst hs
      simp only [run]
      rw [List.append_assoc, hp (q ++ x) ⟨s, by simp⟩]
      exact hq x ⟨s, rfl⟩
    · cases h
  | tk k y n ihy ihn =>
    intro l m h
    simp only [run] at h
    split at h
    · rename_i t ht
      obtain ⟨r, rfl, rfl, h2⟩ := tk_some ht
      obtain ⟨q, rfl, hq⟩ := ihy h
      exact ⟨r :: q, by simp, fun x hx => by simp only [run, List.cons_append]; rw [tk_yes h2]; exact hq x hx⟩
    · rename_i ht
      obtain ⟨q, rfl, hq⟩ := ihn h
      refine ⟨q, rfl, fun x hx => ?_⟩
      have h0 : tkR k (q ++ x) = some none := by
        obtain ⟨s, rfl⟩ := hx
        cases hqx : q ++ x with
        | nil => rfl
        | cons r u =>
          rw [← List.append_assoc, hqx] at ht
          simp only [tkR, List.cons_append] at ht ⊢
          split at ht
          · split at ht <;> cases ht
          · rename_i h1; rw [if_neg h1]
      simp only [run, h0]
      exact hq x hx
    · cases h
  | many k =>
    intro l m h
    simp only [run] at h ⊢
    obtain ⟨p, rfl, hp⟩ := many_suf h
    refine ⟨p, rfl, fun x ⟨s, hs⟩ => ?_⟩
    subst hs
    clear hp
    induction p with
    | nil =>
      cases x with
      | nil => rfl
      | cons r u =>
        simp only [manyR, List.cons_append, List.nil_append] at h ⊢
        split at h
        · split at h
          · obtain ⟨p, e, _⟩ := many_suf h
            exact absurd (congrArg List.length e) (by simp; omega)
          · cases h
        · rename_i h1; rw [if_neg h1]
    | cons r p ih =>
      simp only [manyR, List.cons_append] at h ⊢
      split at h
      · split at h
        · rename_i h1 h2; rw [if_pos h1, if_pos h2]; exact ih h
        · cases h
      · exact absurd (congrArg (fun o => o.map List.length) h) (by simp; omega)
  | props =>
    intro l m h
    simp only [run] at h ⊢
    obtain ⟨p, rfl, hp⟩ := props_suf _ (Nat.le_refl _) h
    refine ⟨p, rfl, fun x ⟨s, hs⟩ => ?_⟩
    subst hs
    have hx : Off [43] x := fun r t e hm => by
      subst e
      simp at hm
      -- the rest of the run begins with a property: then the rule would have gone on
      have key : ∀ (n : Nat) (p : List KRec), p.length ≤ n → propsR (p ++ (r :: t ++ s)) = some (r :: t ++ s) → False := by
        intro n
        induction n with
        | zero =>
          intro p hn h
          have : p = [] := List.length_eq_zero_iff.1 (by omega)
          subst this
          simp only [List.nil_append, List.cons_append] at h
          match hts : t ++ s, h with
          | [], h => simp [propsR, hm] at h
          | v :: u, h =>
            simp only [propsR, if_pos hm] at h
            split at h
            · obtain ⟨p, e, _⟩ := props_suf _ (Nat.le_refl _) h
              exact absurd (congrArg List.length e) (by simp; omega)
            · cases h
        | succ n ih =>
          intro p hn h
          match p, hn, h with
          | [], _, h =>
            simp only [List.nil_append, List.cons_append] at h
            match hts : t ++ s, h with
            | [], h => simp [propsR, hm] at h
            | v :: u, h =>
              simp only [propsR, if_pos hm] at h
              split at h
              · obtain ⟨p, e, _⟩ := props_suf _ (Nat.le_refl _) h
                exact absurd (congrArg List.length e) (by simp; omega)
              · cases h
          | [a], _, h =>
            simp only [List.cons_append, List.nil_append, propsR] at h
            split at h
            · split at h
              · obtain ⟨p, e, _⟩ := props_suf _ (Nat.le_refl _) h
                exact absurd (congrArg List.length e) (by simp; omega)
              · cases h
            · exact absurd (congrArg (fun o => o.map List.length) h) (by simp)
          | a :: b :: p, hn, h =>
            simp only [List.cons_append, propsR] at h
            split at h
            · split at h
              · exact ih p (by simp at hn; omega) (by simpa using h)
              · cases h
            · exact absurd (congrArg (fun o => o.map List.length) h) (by simp; omega)
      exact key _ p (Nat.le_refl _) (by simpa using h)
    exact props_app hx _ (Nat.le_refl _) hp
theorem run_pre {a : Ru} {l m : List KRec} (h : run a l = some m) : ∃ p, l = p ++ m ∧ run a p = some [] := by
  obtain ⟨p, e, hp⟩ := run_suf a h
  exact ⟨p, e, by simpa using hp [] ⟨m, rfl⟩⟩
end Go.Proofs.Ytcioefmldcmhgaa
