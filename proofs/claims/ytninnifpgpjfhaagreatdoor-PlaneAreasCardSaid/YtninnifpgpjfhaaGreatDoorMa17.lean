/- What the laws lean on, part 17. -/
import Derived.Below
import Derived.BigCall
import Derived.BigQuiet
import Derived.BigRegion
import Derived.ChangeOld
import Derived.Deep.AppendLies
import Derived.Deep.CutBlock
import Derived.Deep.CutRange
import Derived.Deep.DeepCutAuto
import Derived.Deep.DeepHandedRow
import Derived.Deep.LoopGhost
import Derived.Deep.MidRow
import Derived.Deep.QuietTactic
import Derived.Deep.RegionHeld3
import Derived.Deep.RegionLaw
import Derived.Deep.Slices
import Derived.Deep.Strs
import Derived.Deep.WholeRow
import Derived.Laws.AppendOwn
import Derived.Laws.Concat
import Derived.Laws.CopyOwn
import Derived.Laws.Externs
import Derived.Laws.IdiomStrings
import Derived.Lib.BitFns
import Derived.Lib.Bytealg
import Derived.Lib.Hide
import Derived.Lib.LaidTab
import Derived.Lib.Slices
import Derived.Lib.Small
import Derived.Lib.Strings
import Derived.Lib.Walk
import Derived.LoopN
import Derived.Maps.AppendAt
import Derived.OpenShut
import Derived.OrdersHeld
import Derived.OrdersIn
import Derived.Outline
import Derived.OwnWalk
import Derived.ProofKit
import Derived.RangeFuncCalls
import Derived.RangeFuncNested
import Derived.RangeFuncOwn
import Derived.Shelf.Bits.Mul64
import Derived.Shelf.Spec.TrailingZeros
import Derived.StillTailTactics
import Derived.WalkKit
import Derived.WalkLawsBesides
import Derived.WalkSpells
import Derived.WideKeyArgs
import Derived.Test.YtninnifpgpjfhaaGreatDoorCards
import Derived.Test.YtninnifpgpjfhaaGreatDoorProg
import Derived.Test.YtninnifpgpjfhaaGreatDoorRows
import Derived.Test.YtninnifpgpjfhaaGreatDoorTie
import Derived.Test.YtninnifpgpjfhaaGreatDoorMa16
set_option linter.unusedVariables false
set_option linter.unusedSimpArgs false
set_option maxRecDepth 100000
namespace Go.Proofs.YtninnifpgpjfhaaGreatDoor
open Go.ChangeShapes Go.WideShapes Go.ChangeAt Go.RowKit Go.ChangeMaps Mat
theorem lY : Tryz.prog.globalNamed "math/bits.deBruijn64tab" = some 2 := by kernel_rfl
theorem tab_typed:(Tryz.prog.globals[2]?).map (·.type)=some 195:=by kernel_rfl
theorem tab_cells:Tryz.prog.cellsOf 195=64:=by kernel_rfl
theorem u8_cells:Tryz.prog.cellsOf 5=1:=by kernel_rfl
theorem tab_of {W : World} (h : laidMetH Tryz.prog [("math/bits.deBruijn64tab", Rows.laid_math_bits_deBruijn64tab)] W) : Tab W := by
 have h1 : Lib.TabIs Tryz.prog W "math/bits.deBruijn64tab" .u8 (Lib.deBruijn64tab.map fun n : Nat => (n : Int)) := Lib.tabIs_of_head (rest := []) lY tab_typed Tryz.underlying195 Tryz.underlying5 u8_cells tab_cells h
 intro j hj
 rw [h1.cell lY j (by simpa using hj)]
 simp [List.getD_eq_getElem?_getD,List.getElem?_map,List.getElem?_eq_getElem hj]
noncomputable def eO (os:Os):World:=
 { World.holding Tryz.prog os ⟨#[], #[],[]⟩ with heap:=(World.holding Tryz.prog os ⟨#[], #[],[]⟩).heap.modify 2 fun
  | .cells _ t frozen => .cells (Lib.deBruijn64tab.map fun z:Nat=>Value.int .u8 (z:Int)).toArray t frozen
  | o=>o }
end Go.Proofs.YtninnifpgpjfhaaGreatDoor
namespace Go.Proofs.YtninnifpgpjfhaaGreatDoor
open Go.ChangeShapes Go.WideShapes Go.ChangeAt Go.RowKit Go.ChangeMaps
section
variable {H:Type} {enc:TypeId × Value->H} {W:World} {sp:Nat->Bool}
theorem i64_wf {n:Int} (h:(Lit.int .i64 n).wf=true) : -9223372036854775808<=n/\n<=9223372036854775807:=by
 simp [Lit.wf,IntKind.min,IntKind.max,IntKind.signed,IntKind.bits] at h
 omega
theorem int_cells:Tryz.prog.cellsOf 3=1:=by kernel_rfl
theorem dot_cells:Tryz.prog.cellsOf 36=3:=by kernel_rfl
theorem dot_fields:∃ f0 f1 f2:Field,Tryz.prog.underlying 36=some (.struct #[f0,f1,f2])/\f0.offset=0/\f1.offset=1/\f2.offset=2/\f0.type=3/\f1.type=3/\f2.type=3:=⟨_,_,_,Tryz.underlying36,rfl,rfl,rfl,rfl,rfl,rfl⟩
end
end Go.Proofs.YtninnifpgpjfhaaGreatDoor
namespace Go.Proofs.YtninnifpgpjfhaaGreatDoor
open Go.ChangeShapes Go.WideShapes Go.ChangeAt Go.RowKit Go.ChangeMaps Go.Deep
section
variable {H:Type} {enc:TypeId × Value->H} {W:World} {sp:Nat->Bool}
theorem cell_spot {w:World} {a:Addr} {v:Value} (h:w.cell? a=some v):a.spot=none:=by
 unfold World.cell? at h
 cases hs:a.spot with
 | none=>rfl
 | some x=>rw [hs] at h;revert h;cases w.heap[a.block]? with
   | none=>intro h;cases h
   | some o=>cases o<;>simp
theorem open_dots {a0:Option Addr} {len cap:Nat} {d:DataW H} {p:List MemPlace} (h:DataW.Trod enc Tryz.prog W 0 sp true 22 (.slice a0 len cap) d p) :
 ∃ l:List Dt3,DtsV W.heap.size W (.slice a0 len cap) l /\ ∀ d ∈ l,(-9223372036854775808<=d.1/\d.1<=9223372036854775807)/\(-9223372036854775808<=d.2.1/\d.2.1<=9223372036854775807):=by
 obtain ⟨n,hn⟩:=h
 rcases open_slice Tryz.underlying22 hn with ⟨hcs,_⟩ | ⟨a,ln,cp,m,k,D,Pl,hcs,_,hl,hm,hmm,_,hx⟩
 · simp [Value.cells] at hcs
   obtain ⟨rfl,rfl,rfl⟩:=hcs
   exact ⟨[],⟨none,0,0,rfl,rfl,Nat.le_refl _,.inl rfl⟩,fun d hd=>by cases hd⟩
 · simp [Value.cells] at hcs
   obtain ⟨rfl,rfl,rfl⟩:=hcs
   have hlm:len<=m:=by rw [hmm];split<;>omega
   obtain ⟨f0,f1,f2,he,o0,o1,o2,t0,t1,t2⟩:=dot_fields
   have each:∀ i,i<len -> ∃ q:Dt3,W.cell? (a.add (i*3))=some (.int .i64 q.1)/\W.cell? (a.add (i*3+1))=some (.int .i64 q.2.1)/\W.cell? (a.add (i*3+2))=some (.int .i64 q.2.2) /\
    (-9223372036854775808<=q.1/\q.1<=9223372036854775807)/\(-9223372036854775808<=q.2.1/\q.2.1<=9223372036854775807):=fun i hi=>by
    obtain ⟨cs',h1,h2⟩:=hx i (by omega)
    rw [dot_cells] at h1
    obtain ⟨_,hlen,hcell⟩:=World.cells?_some h1
    obtain ⟨xs,k',_,_,_,hxl,hf⟩:=DataW.trod_struct he h2
    match xs,hxl,cs',hlen with
    | [y0,y1,y2],_,[v0,v1,v2],_=>
      have g0:=hf 0 f0 rfl
      have g1:=hf 1 f1 rfl
      have g2:=hf 2 f2 rfl
      simp [o0,o1,o2,t0,t1,t2,int_cells] at g0 g1 g2
      have e0:=hcell 0 (by omega)
      have e1:=hcell 1 (by omega)
      have e2:=hcell 2 (by omega)
      rw [Go.Deep.add_add] at e0 e1 e2
      obtain ⟨x0,hx0,_,w0⟩:=DataW.trod_int Tryz.underlying3 g0
      obtain ⟨x1,hx1,_,w1⟩:=DataW.trod_int Tryz.underlying3 g1
      obtain ⟨x2,hx2,_,w2⟩:=DataW.trod_int Tryz.underlying3 g2
      simp at hx0 hx1 hx2
      subst hx0;subst hx1;subst hx2
      exact ⟨(x0,x1,x2),by simpa using e0,by simpa using e1,by simpa using e2,i64_wf w0,i64_wf w1⟩
   obtain ⟨q,hq⟩:=choose_lt (α:=Dt3) each
   refine ⟨(List.range len).map q,⟨some a,len,cap,rfl,by simp,hl, ?_⟩,fun d hd=>?_⟩
   · by_cases h0:len=0
     · subst h0;exact .inl rfl
     · obtain ⟨c0,_⟩:=hq 0 (by omega)
       obtain ⟨b,off,spot⟩:=a
       have hs:=cell_spot c0
       have hs:spot=none:=by simpa [Addr.add] using hs
       subst hs
       refine .inr ⟨b,off,rfl, ?_,fun i hi=>?_⟩
       · rw [Addr.add_lit] at c0;exact pF c0
       · have hi:i<len:=by simpa using hi
         obtain ⟨c0,c1,c2,_⟩:=hq i hi
         rw [Addr.add_lit] at c0 c1 c2
         rw [Nat.mul_comm] at c0 c1 c2
         simp only [List.getElem_map,List.getElem_range]
         exact ⟨c0,c1,c2⟩
   · obtain ⟨i,hi,rfl⟩:=List.mem_map.1 hd
     have:=hq i (by simpa using hi)
     exact ⟨this.2.2.2.1,this.2.2.2.2⟩
end
end Go.Proofs.YtninnifpgpjfhaaGreatDoor
