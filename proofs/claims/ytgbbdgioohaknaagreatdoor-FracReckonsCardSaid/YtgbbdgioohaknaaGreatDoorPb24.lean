/- What the laws lean on, part 24. -/
import Derived.Deep.RegionHeld3
import Derived.Test.YtgbbdgioohaknaaGreatDoorPb14
namespace Go.Proofs.YtgbbdgioohaknaaGreatDoor
open Go.RowKit Mat
set_option maxRecDepth 100000
set_option linter.unusedVariables false
set_option linter.unusedSimpArgs false
def bR_ (w : World) (n k : Int) (e : Ending) (w' : World) : Prop:=∃ v u,e = .returned (.tuple #[v,u]) ∧ RIntV w' v n ∧ RIntV w' u k ∧ w.grownBy w' none
theorem cO_ {w w' : World} {x y : Int} {g : Nat} {c0 c1 d0 d1 u0 u1 t0 t1 : Value} (hg : w.grownBy w' none) (hb1 : w'.heap[g]? = some (.cells #[c0,c1] 36 (0,0))) (hb2 : w'.heap[g + 1]? = some (.cells #[d0,d1] 36 (0,0))) (hl : w.heap.size ≤ g) (h1 : RIntV w' (.agg #[u0,u1]) x) (h2 : RIntV w' (.agg #[t0,t1]) y) :
    bR_ w x y (.returned (.tuple #[.agg #[u0,u1],.agg #[t0,t1]])) ((((w'.setCell ⟨g,0,none⟩ u0).setCell ⟨g,1,none⟩ u1).setCell ⟨g + 1,0,none⟩ t0).setCell ⟨g + 1,1,none⟩ t1):=by
 have hb2':=e_ hb2 (show g + 1 ≠ g by omega) u0 u1
 exact ⟨_,_,rfl,(h1.set2 hb1 u0 u1).set2 hb2' t0 t1,(h2.set2 hb1 u0 u1).set2 hb2' t0 t1,bn_ (bn_ hg hl u0 u1) (by omega) t0 t1⟩
theorem dp6 {a E : Nat} (h : a < D ^ E) (hE : E ≤ 1000000) : a < D ^ 1000000:=by
 obtain ⟨M,hM⟩ : ∃ M,M = 1000000:=⟨_,rfl⟩
 rw [← hM] at hE ⊢
 exact dpw h hE
theorem dp4 {a E : Nat} (h : a < D ^ E) (hE : E ≤ 400000) : a < D ^ 400000:=by
 obtain ⟨M,hM⟩ : ∃ M,M = 400000:=⟨_,rfl⟩
 rw [← hM] at hE ⊢
 exact dpw h hE
end Go.Proofs.YtgbbdgioohaknaaGreatDoor
