/- What the laws lean on, part 29. -/
import Derived.Below
import Derived.BigCall
import Derived.BigQuiet
import Derived.BigRegion
import Derived.Deep.AppendLies
import Derived.Deep.CutBlock
import Derived.Deep.CutRange
import Derived.Deep.DeepCutAuto
import Derived.Deep.DeepHandedRow
import Derived.Deep.LoopGhost
import Derived.Deep.MidRow
import Derived.Deep.QuietTactic
import Derived.Deep.RegionHeld3
import Derived.Deep.RegionLaw
import Derived.Deep.WholeRow
import Derived.Laws.AppendOwn
import Derived.Laws.Concat
import Derived.Laws.CopyOwn
import Derived.Laws.Externs
import Derived.Laws.IdiomStrings
import Derived.Lib.BitFns
import Derived.Lib.Bytealg
import Derived.Lib.Hide
import Derived.Lib.Slices
import Derived.Lib.Small
import Derived.Lib.Strings
import Derived.Lib.Walk
import Derived.LoopN
import Derived.Maps.AppendAt
import Derived.OpenShut
import Derived.OrdersHeld
import Derived.Outline
import Derived.OwnWalk
import Derived.ProofKit
import Derived.Shelf.Bits.Mul64
import Derived.Shelf.Spec.TrailingZeros
import Derived.StillTailTactics
import Derived.WalkKit
import Derived.WalkLawsBesides
import Derived.WalkSpells
import Derived.Test.YtoaepibannfbdaaGreatDoorProg
import Derived.Test.YtoaepibannfbdaaGreatDoorRows
import Derived.Test.YtoaepibannfbdaaGreatDoorMr19
namespace Go.Proofs.YtoaepibannfbdaaGreatDoor
open Go.RowKit Mat
set_option maxRecDepth 100000
set_option linter.unusedVariables false
set_option linter.unusedSimpArgs false
theorem dn_neg (r : Rat) : dn (-r) = dn r := by unfold dn; rw [Rat.neg_den]
theorem rcmp_eq {a b : Rat} (h : a = b) : rcmp a b = 0 := by rw [h]; exact rcmp_self b
end Go.Proofs.YtoaepibannfbdaaGreatDoor
namespace Go.Proofs.YtoaepibannfbdaaGreatDoor
open Go.RowKit Mat Ex
set_option linter.unusedVariables false
set_option linter.unusedSimpArgs false
set_option maxRecDepth 100000
theorem FNeg_any (w : World) (va : Value) (r : Rat) (K : Nat) (Ha : RatV w va r) (hK : K ≤ 800000) (ln : r.num.natAbs < B ^ K) (ld : r.den < B ^ K) :
    Calls Tryz.prog 38 #[va] w (RetRat w (-r)) := by
  refine exec_calls mixed Tryz.func38 [sQ r] [sI (-r.num), sI (dn r)] (.cons Ha .nil) (rs := [cl 1 86 [ag 2 0], cl 2 76 [.v true [.an 0 2, .an 0 3]]]) (out := .v true [.an 1 0, .an 1 1, .an 2 0, .an 2 1]) (nc := 3) (by kernel_rfl)
      ⟨fun σ W g h hb => ZNeg_any W _ _ K (qn (h 0 rfl)) (by omega) ln,
      fun σ W g h hb => FFresh_any W _ _ K (qd (h 0 rfl)) hK (dn_bd ld),
      trivial⟩ fun τ W g h => ⟨_, rfl, mkq (show IntV W _ (-r.num) from h 1 rfl) (by rw [dn_neg]; exact h 2 rfl), g⟩
end Go.Proofs.YtoaepibannfbdaaGreatDoor
namespace Go.Proofs.YtoaepibannfbdaaGreatDoor.PM
set_option linter.unusedVariables false
set_option linter.unusedSimpArgs false
theorem least_swap {a b c d : Pq} {m : Rat} (h : IsLeast2 a b c d m) : IsLeast2 c d a b m := by
  obtain ⟨⟨p, q, h1, h2, e⟩, h3⟩ := h
  exact ⟨⟨q, p, h2, h1, by rw [sq_comm]; exact e⟩, fun p q hp hq => by rw [sq_comm]; exact h3 q p hq hp⟩
theorem least_back {a b c d : Pq} {m : Rat} (h : IsLeast2 a b c d m) : IsLeast2 b a c d m := by
  obtain ⟨⟨p, q, h1, h2, e⟩, h3⟩ := h
  exact ⟨⟨p, q, ins_back.1 h1, h2, e⟩, fun p q hp hq => h3 p q (ins_back.1 hp) hq⟩
theorem isMost_uniq {a b c d : Pq} {m m' : Rat} (h : IsMost2 a b c d m) (h' : IsMost2 a b c d m') : m = m' := by
  obtain ⟨⟨p, q, h1, h2, h3⟩, h4⟩ := h
  obtain ⟨⟨p', q', h1', h2', h3'⟩, h4'⟩ := h'
  have := h4 p' q' h1' h2'
  have := h4' p q h1 h2
  grind
theorem most_swap {a b c d : Pq} {m : Rat} (h : IsMost2 a b c d m) : IsMost2 c d a b m := by
  obtain ⟨⟨p, q, h1, h2, e⟩, h3⟩ := h
  exact ⟨⟨q, p, h2, h1, by rw [sq_comm]; exact e⟩, fun p q hp hq => by rw [sq_comm]; exact h3 q p hq hp⟩
theorem most_back {a b c d : Pq} {m : Rat} (h : IsMost2 a b c d m) : IsMost2 b a c d m := by
  obtain ⟨⟨p, q, h1, h2, e⟩, h3⟩ := h
  exact ⟨⟨p, q, ins_back.1 h1, h2, e⟩, fun p q hp hq => h3 p q (ins_back.1 hp) hq⟩
theorem like_move (v : Pq) : Like (fun p => (p.1 + v.1, p.2 + v.2)) 1 :=
  ⟨by decide, fun a b t => Prod.ext (by simp only [pat]; grind) (by simp only [pat]; grind), fun p q => by simp only [PM.sq]; grind⟩
theorem like_turn : Like (fun p => (-p.2, p.1)) 1 :=
  ⟨by decide, fun a b t => Prod.ext (by simp only [pat]; grind) (by simp only [pat]), fun p q => by simp only [PM.sq]; grind⟩
theorem like_mirror : Like (fun p => (-p.1, p.2)) 1 :=
  ⟨by decide, fun a b t => Prod.ext (by simp only [pat]; grind) (by simp only [pat]), fun p q => by simp only [PM.sq]; grind⟩
theorem like_times (m : Rat) : Like (fun p => (p.1 * m, p.2 * m)) (m * m) :=
  ⟨sq_nonneg m, fun a b t => Prod.ext (by simp only [pat]; grind) (by simp only [pat]; grind), fun p q => by simp only [PM.sq]; grind⟩
end Go.Proofs.YtoaepibannfbdaaGreatDoor.PM
namespace Go.Proofs.YtoaepibannfbdaaGreatDoor
open Go.RowKit Mat Ex PM
set_option linter.unusedVariables false
set_option linter.unusedSimpArgs false
def limbU (t : TypeId) : Bool := t == 114
theorem Rdo.keepsU {W W' : World} {sa : Option Addr} {xs : List Nat} (h : Rdo W sa xs) (k : Keeps limbU W W') : Rdo W' sa xs := by
  rcases h with h | ⟨b, off, cs, e, h1, h2⟩
  · exact Or.inl h
  · exact Or.inr ⟨b, off, cs, e, k b cs _ _ rfl h1, h2⟩
theorem NatV.keepsU {W W' : World} {v : Value} {n : Nat} (h : NatV W v n) (k : Keeps limbU W W') : NatV W' v n := by
  obtain ⟨sa, xs, e, h1, h2⟩ := h
  exact ⟨sa, xs, e, ⟨h1.rd.keepsU k, h1.nil, h1.top, h1.dig⟩, h2⟩
theorem IntV.keepsU {W W' : World} {v : Value} {z : Int} (h : IntV W v z) (k : Keeps limbU W W') : IntV W' v z := by
  obtain ⟨sa, xs, b, e, h1, h2⟩ := h
  exact ⟨sa, xs, b, e, ⟨h1.rd.keepsU k, h1.nil, h1.top, h1.dig⟩, h2⟩
theorem RatV.keepsU {W W' : World} {v : Value} {r : Rat} (h : RatV W v r) (k : Keeps limbU W W') : RatV W' v r := by
  obtain ⟨s, xs, b, s', xs', b', e, h1, h2⟩ := h
  exact ⟨s, xs, b, s', xs', b', e, h1.keepsU k, h2.keepsU k⟩
theorem PtV.keepsU {W W' : World} {v : Value} {p : Pq} (h : PtV W v p) (k : Keeps limbU W W') : PtV W' v p := by
  obtain ⟨a, b, c, d, e, f, g, i, e1, h1, h2⟩ := h
  exact ⟨a, b, c, d, e, f, g, i, e1, h1.keepsU k, h2.keepsU k⟩
theorem SgV.keepsU {W W' : World} {v : Value} {p q : Pq} (h : SgV W v p q) (k : Keeps limbU W W') : SgV W' v p q := by
  obtain ⟨a, b, c, d, e, f, g, i, a', b', c', d', e', f', g', i', e1, h1, h2⟩ := h
  exact ⟨a, b, c, d, e, f, g, i, a', b', c', d', e', f', g', i', e1, h1.keepsU k, h2.keepsU k⟩
abbrev Su := Ex.Spec limbU
def Sp.u (s : Sp) (h : ∀ v W W', Keeps limbU W W' → s.F v W → s.F v W') : Su := .of s.sh s.F s.fits h
def uI (z : Int) : Su := Sp.u (sI z) fun _ _ _ k h => h.keepsU k
def uQ (r : Rat) : Su := Sp.u (sQ r) fun _ _ _ k h => h.keepsU k
def uPt (p : Pq) : Su := Sp.u (sPt p) fun _ _ _ k h => h.keepsU k
def uZ (z : Int) : Su := Sp.u (sZ z) fun _ _ _ _ h => h
def uV (v : Value) : Su := Sp.u (sV v) fun _ _ _ _ h => h
def uDt (x y d : Int) : Su := Sp.u (sDt x y d) fun _ _ _ _ h => h
def uSH (p q : Pq) : Su := .of (.tup [(none, 17), (none, 13)]) (fun v W => ∃ u t : Value, ∃ a b c d e f a' b' c' d' e' f' : Value, v = .tuple #[u, t] ∧ SgV W u p q ∧ t = .agg #[a, b, c, d, e, f, a', b', c', d', e', f'] ∧ ∀ x ∈ [a, b, c, d, e, f, a', b', c', d', e', f'], x.oneCell' = true) (fun v W h => by
  obtain ⟨u, t, _, _, _, _, _, _, _, _, _, _, _, _, rfl, ⟨_, _, _, _, _, _, _, _, _, _, _, _, _, _, _, _, rfl, h1, h2⟩, rfl, h3⟩ := h
  have i1 := h1.one; have i2 := h2.one
  refine fits2 (u := .bool true) (cs := [_, _, _, _, _, _, _, _, _, _, _, _, _, _, _, _, _, _, _, _, _, _, _, _, _, _, _, _]) (fun x hx => ?_) rfl
  rcases List.mem_append.1 (show x ∈ ([_, _, _, _, _, _, _, _] ++ [_, _, _, _, _, _, _, _]) ++ [_, _, _, _, _, _, _, _, _, _, _, _] from hx) with hx | hx
  · rcases List.mem_append.1 hx with hx | hx
    · exact i1 x hx
    · exact i2 x hx
  · exact h3 x hx) (fun v W W' k h => by obtain ⟨u, t, a, b, c, d, e, f, a', b', c', d', e', f', e1, h1, h2⟩ := h; exact ⟨u, t, a, b, c, d, e, f, a', b', c', d', e', f', e1, h1.keepsU k, h2⟩)
theorem uh1 {p q : Pq} {u v : Value} {W : World} : (uSH p q).F (.tuple #[u, v]) W → SgV W u p q := by rintro ⟨_, _, _, _, _, _, _, _, _, _, _, _, _, _, e, h, _⟩; cases e; exact h
theorem toUH {P : Program} {f : FuncId} {args : Array Value} {W : World} {p q : Pq} {a b : H3} (h : Calls P f args W (RetSH W p q a b)) : Calls P f args W (Ret W (uSH p q).F) :=
  h.mono fun _ _ ⟨v, u, a, h1, h2, g⟩ => by
    obtain ⟨_, _, _, _, _, _, _, _, _, _, _, _, rfl, h3, h4⟩ := h2
    have i3 := h3.one; have i4 := h4.one
    exact ⟨_, a, ⟨v, _, _, _, _, _, _, _, _, _, _, _, _, _, rfl, h1, rfl, fun x hx => by
      rcases List.mem_append.1 (show x ∈ [_, _, _, _, _, _] ++ [_, _, _, _, _, _] from hx) with hx | hx
      · exact i3 x hx
      · exact i4 x hx⟩, g⟩
end Go.Proofs.YtoaepibannfbdaaGreatDoor
