/- PlaneAreas: whatever the points, the area of the closed row of the first 40 is the document's: the law returns true and leaves its arguments. No condition. -/
import Derived.Below
import Derived.BigCall
import Derived.BigQuiet
import Derived.BigRegion
import Derived.ChangeOld
import Derived.Deep.AppendLies
import Derived.Deep.CutBlock
import Derived.Deep.CutRange
import Derived.Deep.DeepCutAuto
import Derived.Deep.DeepHandedRow
import Derived.Deep.LoopGhost
import Derived.Deep.MidRow
import Derived.Deep.QuietTactic
import Derived.Deep.RegionHeld3
import Derived.Deep.RegionLaw
import Derived.Deep.Slices
import Derived.Deep.Strs
import Derived.Deep.WholeRow
import Derived.Laws.AppendOwn
import Derived.Laws.Concat
import Derived.Laws.CopyOwn
import Derived.Laws.Externs
import Derived.Laws.IdiomStrings
import Derived.Lib.BitFns
import Derived.Lib.Bytealg
import Derived.Lib.Hide
import Derived.Lib.LaidTab
import Derived.Lib.Slices
import Derived.Lib.Small
import Derived.Lib.Strings
import Derived.Lib.Walk
import Derived.LoopIn
import Derived.LoopN
import Derived.LoopNIn
import Derived.Maps.AppendAt
import Derived.OpenShut
import Derived.OrdersHeld
import Derived.OrdersIn
import Derived.Outline
import Derived.OwnWalk
import Derived.OwnWalkIn
import Derived.ProofKit
import Derived.RangeFuncBound
import Derived.RangeFuncCalls
import Derived.RangeFuncLeaves
import Derived.RangeFuncNested
import Derived.RangeFuncOwn
import Derived.Shelf.Abstract
import Derived.Shelf.Bits.Mul64
import Derived.Shelf.RegionOpen
import Derived.Shelf.Spec.TrailingZeros
import Derived.StillTailTactics
import Derived.TacticsInMore
import Derived.WalkKit
import Derived.WalkLawsBesides
import Derived.WalkSpells
import Derived.WideKeyArgs
import Derived.Test.YtninnifpgpjfhaaGreatDoorCards
import Derived.Test.YtninnifpgpjfhaaGreatDoorProg
import Derived.Test.YtninnifpgpjfhaaGreatDoorRows
import Derived.Test.YtninnifpgpjfhaaGreatDoorTie
import Derived.Test.YtninnifpgpjfhaaGreatDoorMa17
set_option linter.unusedVariables false
set_option linter.unusedSimpArgs false
set_option maxRecDepth 100000
namespace Go.Proofs.YtninnifpgpjfhaaGreatDoor
open Go.RowKit Mat Ex PM
theorem PtsV.cell {w:World} {v:Value} {l:List Pq} (h:PtsV w v l):v.oneCell'=true:=by obtain ⟨s,n,c,rfl,_⟩:=h;rfl
theorem fW (w:World) (va:Value) (l:List Dt3) (Ha:DtsV w.heap.size w va l) (hL:∀ d ∈ l,Small d) (hTab:Tab w) :
 Calls Tryz.prog 3 #[va] w (fun e w'=>e = .returned (.bool true)/\w.grownBy w' none):=
 eF w va l Ha hL hTab fun W v m h1 h2 h3 h4=>FArea_any W v m h1 h2 h3 h4 h1.cell
end Go.Proofs.YtninnifpgpjfhaaGreatDoor
namespace Go.Proofs.YtninnifpgpjfhaaGreatDoor.PlaneAreas
open Go.ChangeShapes Go.WideShapes Go.ChangeAt Go.RowKit Go.ChangeMaps
theorem contract (H:Type) (enc:TypeId × Value->H) (W:World) (base:Nat) (args:Array Value) (ds gs:List (DataW H)) (before:List MemPlace)
 (hval:∀ (j:Nat) t v,Tryz.f3.params[j]?=some t->args[j]?=some v->Value.okWide Tryz.prog W .any base t v)
 (hW:DataW.Whole enc Tryz.prog Tryz.f3.params.toList Rows.planeAreasSpec.vars false W args.toList ds gs before) (hL:laidMetH Tryz.prog Rows.planeAreasRow.laid W) :
 Calls Tryz.prog 3 args W fun e W'=>∃ v,e = .returned v/\Rows.planeAreasSpec.post enc Tryz.prog Tryz.f3 false true false false W args v W':=by
 have hW':=hW
 obtain ⟨p,q,hA0,hV,rfl,hfz,hnd⟩:=hW
 have hA:DataW.TrodAll enc Tryz.prog W 0 (fun _=>true) true Tryz.f3.params.toList args.toList ds p:=hA0
 rw [Tryz.params3] at hA hval
 obtain ⟨v0,vs0,d0,ds0,p0,q0,hargs0,rfl,rfl,h0,r0⟩:=trodAll_cons hA
 obtain ⟨rfl,rfl,rfl⟩:=trodAll_nil r0
 obtain rfl:args = #[v0]:=by cases args;simp_all
 obtain ⟨rfl,rfl⟩:=trodVars_none hV
 simp only [List.append_nil] at hW' hfz
 have hlt:∀ p ∈ p0,p.block<W.heap.size:=fun p hp=>by
  have:=DataW.TrodAll.lt hA p (by simpa using hp)
  exact this
 have hv0:=hval 0 22 v0 rfl rfl
 obtain ⟨s0,ln0,cp0,rfl⟩:=okWide_slice Tryz.underlying22 hv0
 obtain ⟨l0,hd0,hs0⟩:=open_dots h0
 clear hA0
 refine (fW W _ l0 hd0 hs0 (tab_of hL)).mono fun e W' ⟨he,hg⟩=>?_
 subst he
 have hs0:∀ sp:Nat->Bool,(∀ p ∈ p0,sp p.block=true)->DataW.Trod enc Tryz.prog W' 0 sp true 22 (.slice s0 ln0 cp0) d0 p0:=fun sp hsp=>
  Go.WideElems.Trod_stays (by kernel_rfl) (by kernel_rfl) (of_decide_eq_true (by kernel_rfl)) h0 (fun p hp=>grown_same hg (hlt p (by simp [hp]))) hsp
 exact ⟨_,rfl,post_places hW' hlt (fun _ _ _=>trodAll_cons_mk (shut_bool Tryz.underlying4 _) trodAll_mk0) (fun sp hsp=>by
  have:=trodAll_cons_mk (hs0 sp (fun p hp=>hsp p (by simp [hp]))) (trodAll_mk0)
  rw [List.append_nil] at this
  exact this) (fun _=>rfl) hg (ok_one (by kernel_rfl) rfl (okWide_bool_mk Tryz.underlying4 _))⟩
theorem laid_met (os:Os):laidMet Tryz.prog Rows.planeAreasRow.laid ((eO os).forCall (fun _ _=>0) ⟨#[], #[.slice none 0 0],[]⟩).memory:=
 laidMet_of_run' 80 (by kernel_rfl) (by kernel_rfl)
theorem reads (os:Os) {H:Type} (enc:TypeId × Value->H):∃ places,DataW.whole enc Tryz.prog ((eO os).forCall (fun _ _=>0) ⟨#[], #[.slice none 0 0],[]⟩).memory Tryz.f3.params.toList Rows.planeAreasSpec.vars false #[Value.slice none 0 0].toList 8=some ([.nil],[],places):=
 ⟨[],by kernel_rfl⟩
theorem lifted (os:Os) (started:os.Started) (H:Type) (enc:TypeId × Value->H) (F:Stop.Interp) :
 ReturnsInHanded {} Tryz.checked os 3 .any ((OpenSpec.ofChange Rows.planeAreasSpec).preRow enc Tryz.prog Tryz.f3 Rows.planeAreasRow.domain false Rows.planeAreasRow.laid) (((OpenSpec.ofChange Rows.planeAreasSpec).at F).post enc Tryz.prog Tryz.f3 false true false false):=by
 obtain ⟨places,hx⟩:=reads os enc
 refine returnsInHanded_of_row (C:=Tryz.checked) (s:=OpenSpec.ofChange Rows.planeAreasSpec) law_own started (by kernel_rfl) Tryz.func3
  (witness_row_at (enc:=enc) (C:=Tryz.checked) false (eO os) #[.slice none 0 0] rfl (by kernel_rfl) (by kernel_rfl) (by kernel_rfl)
   (OpenSpec.preRow_of_cond 8 hx (by kernel_rfl) (fun k hk=>by cases hk) (by kernel_rfl) (laid_met os))) ?_
 intro W base args ds gs before hval hW _ _ _ hL _ _
 exact contract H enc W base args ds gs before hval hW hL
theorem said:Rows.PlaneAreasSaid:=
 OpenClaim.holds_of_cond 3 Tryz.f3 rfl rfl rfl rfl rfl rfl rfl ⟨rfl,rfl,rfl,rfl,rfl⟩ rfl rfl rfl rfl rfl (by kernel_rfl) Tryz.func3 (by kernel_rfl)
  (of_decide_eq_true (by kernel_rfl)) (by unfold Func.isWrapper;first | (rw [if_pos (by decide +kernel)];kernel_rfl) | (rw [if_neg (by decide +kernel)];exact ⟨rfl,rfl⟩))
  (fun os started H enc _ F=>by rw [OpenClaim.pre_eq_preRow];exact lifted os started H enc F)
theorem plain (f : FuncId) (fn : Func) (hf : Tryz.pinned.checked.prog.funcNamed "pellicle/pelliclelaw11.PlaneAreas" = some f) (hfn : Tryz.pinned.checked.prog.funcs[f]? = some fn) :
 false=Tryz.pinned.checked.prog.looks [] /\ ∀ (j:Nat) t,fn.params[j]?=some t->Tryz.pinned.checked.prog.wantsStandIn t=false:=by
 obtain rfl : f = 3 := Option.some.inj ((show Tryz.prog.funcNamed "pellicle/pelliclelaw11.PlaneAreas" = some 3 by kernel_rfl).symm.trans hf) |>.symm
 obtain rfl:fn=Tryz.f3:=(Option.some.inj (Tryz.func3.symm.trans hfn)).symm
 refine ⟨by kernel_rfl,fun j t ht=>?_⟩
 rw [Tryz.params3] at ht
 have ht2:=Array.mem_of_getElem? ht
 simp at ht2
 first | (rcases ht2 with rfl | rfl | rfl) | (rcases ht2 with rfl | rfl) | subst ht2
 all_goals exact (show Tryz.prog.wantsStandIn _=false by kernel_rfl)
theorem card:Rows.PlaneAreasCardSaid:=
 Claim7.holds_tied_plain_at .later [] _ _ _ _ said (fun _ h=>by cases h) (by kernel_rfl) (fun _ h=>by cases h) planeAreas_row_tie rfl ⟨rfl,rfl⟩ (by kernel_rfl) rfl plain (by kernel_rfl)
end Go.Proofs.YtninnifpgpjfhaaGreatDoor.PlaneAreas
