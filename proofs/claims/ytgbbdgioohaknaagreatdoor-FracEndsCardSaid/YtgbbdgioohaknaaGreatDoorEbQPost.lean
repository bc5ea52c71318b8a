/-
  A law's frame where an argument is a row in memory: the world has only grown, so each place reads as it did.
-/
import Derived.ChangeOld
import Derived.Deep.Strs
import Derived.WideKeyArgs
import Derived.Test.YtgbbdgioohaknaaGreatDoorPb1
import Derived.Test.YtgbbdgioohaknaaGreatDoorPb10
import Derived.Test.YtgbbdgioohaknaaGreatDoorPb11
import Derived.Test.YtgbbdgioohaknaaGreatDoorPb14
import Derived.Test.YtgbbdgioohaknaaGreatDoorPb17
import Derived.Test.YtgbbdgioohaknaaGreatDoorPb3
import Derived.Test.YtgbbdgioohaknaaGreatDoorPb4
import Derived.Test.YtgbbdgioohaknaaGreatDoorPb6
import Derived.Test.YtgbbdgioohaknaaGreatDoorPb8
namespace Go.Proofs.YtgbbdgioohaknaaGreatDoor
open Go.ChangeShapes Go.WideShapes Go.ChangeAt Go.RowKit Go.ChangeMaps
set_option linter.unusedVariables false

theorem grown_same {W W' : World} (h : W.grownBy W' none) {p : MemPlace} (hp : p.block < W.heap.size) : W.sameAt W' p := by
  cases p with
  | cell b o => exact World.cell?_of_block (w := W) (h.block b hp (by simp))
  | map b => exact h.block b hp (by simp)
theorem grown_frozen {W W' : World} (h : W.grownBy W' none) {b off : Nat} (hp : b < W.heap.size) : W'.frozen? ⟨b, off, none⟩ = W.frozen? ⟨b, off, none⟩ := by
  unfold World.frozen?
  rw [h.block b hp (by simp)]
theorem post_places {H : Type} {enc : TypeId × Value → H} {P : Program} {f : Func} {s : ChangeSpec} {apart fresh handsOn again : Bool} {W W' : World} {args : Array Value} {v : Value} {ds gs : List (DataW H)} {before : List MemPlace}
    (hW : DataW.Whole enc P f.params.toList s.vars apart W args.toList ds gs before)
    (hlt : ∀ p ∈ before, p.block < W.heap.size)
    (hres : ∀ (b : Nat) (sp : Nat → Bool) (hd : Bool), DataW.TrodAll enc P W' b sp hd f.resultTypes.toList (v.resultList f.resultTypes.size) (s.fn H (ds ++ gs)).results [])
    (hargs : ∀ sp : Nat → Bool, (∀ p ∈ before, sp p.block = true) → DataW.TrodAll enc P W' 0 sp true f.params.toList args.toList (s.fn H (ds ++ gs)).args before)
    (hvars : ∀ sp : Nat → Bool, DataW.TrodVars enc P W' sp s.vars (s.fn H (ds ++ gs)).vars [])
    (hg : W.grownBy W' none)
    (hok : ∀ (j : Nat) (t : TypeId) (r : Value), f.resultTypes[j]? = some t → (v.resultList f.resultTypes.size)[j]? = some r → Value.okWide P W' .any 0 t r) :
    s.post enc P f apart fresh handsOn again W args v W' := by
  have hW2 := hW
  obtain ⟨_, _, _, _, _, hfz, hnd⟩ := hW2
  have hA := hargs (fun b => decide (b < W.heap.size)) (fun p hp => decide_eq_true (hlt p hp))
  refine ⟨ds, gs, before, [], before, [], hW, hres _ _ _, hA, hvars _, World.keptBut_mono (fun p hp => hp.elim) (fi_ hg), fun _ => ?_⟩
  refine ⟨hok, _, _, before, ⟨before, [], trodAll_append (hargs (fun _ => true) (fun _ _ => rfl)) (hres _ _ _), hvars _, (List.append_nil _).symm, ?_, hnd⟩, fun p hp _ => hp⟩
  intro b off hp
  rw [grown_frozen hg (show b < W.heap.size from hlt _ hp)]
  exact hfz b off hp
end Go.Proofs.YtgbbdgioohaknaaGreatDoor
