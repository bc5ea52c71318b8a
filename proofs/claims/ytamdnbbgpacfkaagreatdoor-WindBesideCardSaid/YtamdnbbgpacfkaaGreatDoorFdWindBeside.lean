/- WindBeside: whatever the row and the segment, how often the row goes sS the points beside the segment's middle is the document's: the law returns true and leaves its arguments. No condition. -/
import Derived.Below
import Derived.BigCall
import Derived.BigQuiet
import Derived.BigRegion
import Derived.ChangeOld
import Derived.Deep.AppendLies
import Derived.Deep.CutBlock
import Derived.Deep.CutRange
import Derived.Deep.DeepCutAuto
import Derived.Deep.DeepHandedRow
import Derived.Deep.LoopGhost
import Derived.Deep.MidRow
import Derived.Deep.QuietTactic
import Derived.Deep.RegionHeld3
import Derived.Deep.RegionLaw
import Derived.Deep.Slices
import Derived.Deep.Strs
import Derived.Deep.WholeRow
import Derived.Laws.AppendOwn
import Derived.Laws.Concat
import Derived.Laws.CopyOwn
import Derived.Laws.Externs
import Derived.Laws.IdiomStrings
import Derived.Lib.BitFns
import Derived.Lib.Bytealg
import Derived.Lib.Hide
import Derived.Lib.LaidTab
import Derived.Lib.Slices
import Derived.Lib.Small
import Derived.Lib.Strings
import Derived.Lib.Walk
import Derived.LoopIn
import Derived.LoopN
import Derived.LoopNIn
import Derived.Maps.AppendAt
import Derived.OpenShut
import Derived.OrdersHeld
import Derived.OrdersIn
import Derived.Outline
import Derived.OwnWalk
import Derived.OwnWalkIn
import Derived.ProofKit
import Derived.RangeFuncBound
import Derived.RangeFuncCalls
import Derived.RangeFuncLeaves
import Derived.RangeFuncNested
import Derived.RangeFuncOwn
import Derived.Shelf.Abstract
import Derived.Shelf.Bits.Mul64
import Derived.Shelf.RegionOpen
import Derived.Shelf.Spec.TrailingZeros
import Derived.StillTailTactics
import Derived.TacticsInMore
import Derived.WalkKit
import Derived.WalkLawsBesides
import Derived.WalkSpells
import Derived.WideKeyArgs
import Derived.Test.YtamdnbbgpacfkaaGreatDoorCards
import Derived.Test.YtamdnbbgpacfkaaGreatDoorProg
import Derived.Test.YtamdnbbgpacfkaaGreatDoorRows
import Derived.Test.YtamdnbbgpacfkaaGreatDoorTie
import Derived.Test.YtamdnbbgpacfkaaGreatDoorMd20
set_option linter.unusedVariables false
set_option linter.unusedSimpArgs false
set_option maxRecDepth 100000
namespace Go.Proofs.YtamdnbbgpacfkaaGreatDoor
open Go.RowKit Mat Ex PM
theorem qZ {x y d:Int} (h:Small (x,y,d)):Sm ⟨x,y,und d⟩:=⟨(V2 d).1,(V2 d).2,⟨h.1.1,by have:=h.1.2;dsimp only at *;omega⟩,⟨h.2.1,by have:=h.2.2;dsimp only at *;omega⟩⟩
theorem sm_hrl {L:List G2} (h:∀ d ∈ L,iQ d):∀ p ∈ hrl L,Sm p/\p.z=1:=by
 intro p hp
 obtain ⟨d,hd,rfl⟩:=List.mem_map.1 hp
 have:=h d hd
 exact ⟨⟨(by decide:(0:Int)<1),(by decide:(1:Int)<=60),⟨this.1.1,by have:=this.1.2;dsimp only;omega⟩,⟨this.2.1,by have:=this.2.2;dsimp only;omega⟩⟩,rfl⟩
theorem jR (w:World) (va:Value) (l:List G2) (x1 y1 d1 x2 y2 d2:Int) (Ha:GsV w.heap.size w va l) (hIn:∀ d ∈ l,iQ d) (hs1:Small (x1,y1,d1)) (hs2:Small (x2,y2,d2)) (hTab:Tab w) :
 Calls Tryz.prog 3 #[va,.agg #[.int .i64 x1,.int .i64 y1,.int .i64 d1],.agg #[.int .i64 x2,.int .i64 y2,.int .i64 d2]] w (fun e w'=>e = .returned (.bool true)/\w.grownBy w' none):=by
 obtain ⟨L,hLe⟩:∃ L,l.take 30=L:=⟨_,rfl⟩
 have hL30:L.length<=30:=by rw [<- hLe];simp;omega
 have hI:∀ d ∈ L,iQ d:=fun d hd=>hIn d (List.mem_of_mem_take (hLe ▸ hd))
 have hbL:=hrl_b hI
 have hlen:(hrl L).length=L.length:=by simp [hrl]
 have glL:∀ p ∈ gl L,Bp 1 p:=by
  intro p hp
  obtain ⟨d,hd,rfl⟩:=List.mem_map.1 hp
  have:=hI d hd
  exact rZ this.1.1 this.1.2 this.2.1 this.2.2
 have ha:HB 5 (⟨x1,y1,und d1⟩:H3)/\(0:Int)<und d1:=⟨lat_h hs1.1.1 hs1.1.2 hs1.2.1 hs1.2.2,(V2 d1).1⟩
 have hb2:HB 5 (⟨x2,y2,und d2⟩:H3)/\(0:Int)<und d2:=⟨lat_h hs2.1.1 hs2.1.2 hs2.2.1 hs2.2.2,(V2 d2).1⟩
 rcases (show F0 (lat x1 y1 d1) (lat x2 y2 d2)=0\/(F0 (lat x1 y1 d1) (lat x2 y2 d2)≠0/\U9 (gl L) (lat x1 y1 d1) (lat x2 y2 d2))\/(F0 (lat x1 y1 d1) (lat x2 y2 d2)≠0 /\ ¬ U9 (gl L) (lat x1 y1 d1) (lat x2 y2 d2)) by by_cases h:F0 (lat x1 y1 d1) (lat x2 y2 d2)=0<;>by_cases h2:U9 (gl L) (lat x1 y1 d1) (lat x2 y2 d2)<;>simp [h,h2]) with h0 | ⟨h0,hf⟩ | ⟨h0,hf⟩
 · skip
   refine M7 B6 Tryz.func3 [sGe w.heap.size va l,sDt x1 y1 d1,sDt x2 y2 d2] [sFew w.heap.size va L,sH ⟨x1,y1,und d1⟩,sH ⟨x2,y2,und d2⟩,sPts 0 (gl L),sPt (lat x1 y1 d1),sPt (lat x2 y2 d2),sZZ (bes (gl L) (lat x1 y1 d1) (lat x2 y2 d2)).1 (bes (gl L) (lat x1 y1 d1) (lat x2 y2 d2)).2,sV (.bool true),sZ (F0 (lat x1 y1 d1) (lat x2 y2 d2)),sV (.bool false),sZZ (bes (gl L) (lat x1 y1 d1) (lat x2 y2 d2)).1 (bes (gl L) (lat x1 y1 d1) (lat x2 y2 d2)).2,sV (.bool true),sV (.bool true)] [] [] (.cons ⟨rfl,Ha⟩ (.cons rfl (.cons rfl .nil))) (rs:=[(cl 3 9 [on 0],[]),(cl 4 10 [ag 3 1],[]),(cl 5 10 [ag 3 2],[]),(cl 6 12 [on 3],[]),(cl 7 13 [ag 3 1],[]),(cl 8 13 [ag 3 2],[]),(cl 9 11 [on 6,.v true [.an 7 0,.an 7 1,.an 7 2,.an 7 3,.an 7 4,.an 7 5,.an 7 6,.an 7 7,.an 8 0,.an 8 1,.an 8 2,.an 8 3,.an 8 4,.an 8 5,.an 8 6,.an 8 7]],[]),(cl 10 14 [],[]),(cl 11 15 [ag 6 4,ag 6 5],[]),(co 12 (.binOp .neq 3 (.tmp 41) (.const (.int .i64 0)) 3) 4 [on 11,.v false [.lit (.int .i64 0)]] [0,1,2,3,4,5,6,7,8,9,10,11] [],[]),(cl 13 17 [.v false [.an 3 1],.v true [.an 4 0,.an 4 1,.an 4 2,.an 4 3,.an 4 4,.an 4 5,.an 5 0,.an 5 1,.an 5 2,.an 5 3,.an 5 4,.an 5 5]],[]),(co 14 (.binOp .eql 3 (.tmp 57) (.tmp 58) 3) 4 [on 9,on 13] [0,1,2,3,4,5,6,7,8,9,10,11,12,13] [],[]),(co 15 (.binOp .eql 3 (.tmp 61) (.tmp 62) 3) 4 [.v false [.an 9 1],.v false [.an 13 1]] [0,1,2,3,4,5,6,7,8,9,10,11,12,13,14] [],[])]) (js:=[]) (outs:=[⟨.v false [.lit (.bool true)],(List.range 16),[],[],[]⟩]) (nc:=16) (by kernel_rfl)
    ⟨fun σ W g h hp hb=>by
     have e : σ.an 0 0=va:=(h 0 rfl).1
     have h0:GsV w.heap.size W (σ.an 0 0) l:=(h 0 rfl).2
     rw [e] at h0
     show Calls _ _ #[σ.an 0 0] W _
     rw [e, <- hLe]
     exact toFew g.size (fun q hq=>⟨0,rfl,by show fpS (σ.an 0 0) q;rw [e];exact hq⟩) (fun q hq=>(h0.block hq).1) (iB W va l (h0.up g.size) hIn),
    fun σ W g h hp hb=>dG (congrArg (fun v=>[v]) (h 1 rfl)) (X7 W x1 y1 d1 hs1.1.1 hs1.1.2 hs1.2.1 hs1.2.2),
    fun σ W g h hp hb=>dG (congrArg (fun v=>[v]) (h 2 rfl)) (X7 W x2 y2 d2 hs2.1.1 hs2.1.2 hs2.2.1 hs2.2.2),
    fun σ W g h hp hb=>toPts (Nat.zero_le _) (Z2 W _ L ((few1 (h 3 rfl)).up g.size) (by omega) hI),
    fun σ W g h hp hb=>dG (congrArg (fun v=>[v]) (h 1 rfl)) (dC W x1 y1 d1 hs1.1.1 hs1.1.2 hs1.2.1 hs1.2.2 (hTab.kept g (by simp))),
    fun σ W g h hp hb=>dG (congrArg (fun v=>[v]) (h 2 rfl)) (dC W x2 y2 d2 hs2.1.1 hs2.1.2 hs2.2.1 hs2.2.2 (hTab.kept g (by simp))),
    fun σ W g h hp hb=>kX (W5 W _ _ (gl L) (lat x1 y1 d1) (lat x2 y2 d2) 1 (h 6 rfl).1 (mksg (h 7 rfl) (h 8 rfl)) (by omega) (by simp [gl];omega) glL (pV hs1.1.1 hs1.1.2 hs1.2.1 hs1.2.2) (pV hs2.1.1 hs2.1.2 hs2.2.1 hs2.2.2) (hTab.kept g (by simp))),
    fun σ W g h hp hb=>toV (V5 W (hTab.kept g (by simp))) rfl,
    fun σ W g h hp hb=>(D2 W _ _ ⟨x1,y1,und d1⟩ ⟨x2,y2,und d2⟩ 5 (h 4 rfl) (h 5 rfl) (by omega) ha.1 hb2.1 ha.2 hb2.2).mono fun _ _ ⟨a,g⟩=>⟨_,a,rfl,g⟩,
    fun σ W g h hp hb=>fun ρ o ho _ hv=>⟨_,N0 false ho ((A0 hv).1.trans (h 11 rfl)) (A0 hv).2 (decide_eq_true h0),rfl⟩,
    fun σ W g h hp hb=>by
     have hh:=eU W _ _ (hrl L) ⟨x1,y1,und d1⟩ ⟨x2,y2,und d2⟩ (few2 (h 3 rfl)) (gJ (h 4 rfl) (h 5 rfl)) (by omega) hbL ha.1 hb2.1 ha.2 hb2.2 (qZ hs1) (qZ hs2) (sm_hrl hI) (by rw [gR];exact fun e=>absurd h0 e)
     rw [gR] at hh
     exact kX hh,
    fun σ W g h hp hb=>fun ρ o ho _ hv=>⟨_,D7 true ho ((A0 hv).1.trans (jS (h 9 rfl))) ((A0 hv).2.trans (jS (h 13 rfl))) (decide_eq_true rfl),rfl⟩,
    fun σ W g h hp hb=>fun ρ o ho _ hv=>⟨_,D7 true ho ((A0 hv).1.trans (szz2 (h 9 rfl))) ((A0 hv).2.trans (szz2 (h 13 rfl))) (decide_eq_true rfl),rfl⟩,
    trivial⟩
    trivial
    ⟨fun τ W g h hp hb=>⟨rfl,g⟩,
    trivial⟩
 · skip
   refine M7 B6 Tryz.func3 [sGe w.heap.size va l,sDt x1 y1 d1,sDt x2 y2 d2] [sFew w.heap.size va L,sH ⟨x1,y1,und d1⟩,sH ⟨x2,y2,und d2⟩,sPts 0 (gl L),sPt (lat x1 y1 d1),sPt (lat x2 y2 d2),sZZ (bes (gl L) (lat x1 y1 d1) (lat x2 y2 d2)).1 (bes (gl L) (lat x1 y1 d1) (lat x2 y2 d2)).2,sV (.bool true),sZ (F0 (lat x1 y1 d1) (lat x2 y2 d2)),sV (.bool true),sV (.bool true),sZZ (bes (gl L) (lat x1 y1 d1) (lat x2 y2 d2)).1 (bes (gl L) (lat x1 y1 d1) (lat x2 y2 d2)).2,sV (.bool true),sV (.bool true)] [] [] (.cons ⟨rfl,Ha⟩ (.cons rfl (.cons rfl .nil))) (rs:=[(cl 3 9 [on 0],[]),(cl 4 10 [ag 3 1],[]),(cl 5 10 [ag 3 2],[]),(cl 6 12 [on 3],[]),(cl 7 13 [ag 3 1],[]),(cl 8 13 [ag 3 2],[]),(cl 9 11 [on 6,.v true [.an 7 0,.an 7 1,.an 7 2,.an 7 3,.an 7 4,.an 7 5,.an 7 6,.an 7 7,.an 8 0,.an 8 1,.an 8 2,.an 8 3,.an 8 4,.an 8 5,.an 8 6,.an 8 7]],[]),(cl 10 14 [],[]),(cl 11 15 [ag 6 4,ag 6 5],[]),(co 12 (.binOp .neq 3 (.tmp 41) (.const (.int .i64 0)) 3) 4 [on 11,.v false [.lit (.int .i64 0)]] [0,1,2,3,4,5,6,7,8,9,10,11] [],[]),(cl 13 16 [.v false [.an 3 1],.v true [.an 4 0,.an 4 1,.an 4 2,.an 4 3,.an 4 4,.an 4 5,.an 5 0,.an 5 1,.an 5 2,.an 5 3,.an 5 4,.an 5 5]],[]),(cl 14 17 [.v false [.an 3 1],.v true [.an 4 0,.an 4 1,.an 4 2,.an 4 3,.an 4 4,.an 4 5,.an 5 0,.an 5 1,.an 5 2,.an 5 3,.an 5 4,.an 5 5]],[]),(co 15 (.binOp .eql 3 (.tmp 57) (.tmp 58) 3) 4 [on 9,on 14] [0,1,2,3,4,5,6,7,8,9,10,11,12,13,14] [],[]),(co 16 (.binOp .eql 3 (.tmp 61) (.tmp 62) 3) 4 [.v false [.an 9 1],.v false [.an 14 1]] [0,1,2,3,4,5,6,7,8,9,10,11,12,13,14,15] [],[])]) (js:=[]) (outs:=[⟨.v false [.lit (.bool true)],(List.range 17),[],[],[]⟩]) (nc:=17) (by kernel_rfl)
    ⟨fun σ W g h hp hb=>by
     have e : σ.an 0 0=va:=(h 0 rfl).1
     have h0:GsV w.heap.size W (σ.an 0 0) l:=(h 0 rfl).2
     rw [e] at h0
     show Calls _ _ #[σ.an 0 0] W _
     rw [e, <- hLe]
     exact toFew g.size (fun q hq=>⟨0,rfl,by show fpS (σ.an 0 0) q;rw [e];exact hq⟩) (fun q hq=>(h0.block hq).1) (iB W va l (h0.up g.size) hIn),
    fun σ W g h hp hb=>dG (congrArg (fun v=>[v]) (h 1 rfl)) (X7 W x1 y1 d1 hs1.1.1 hs1.1.2 hs1.2.1 hs1.2.2),
    fun σ W g h hp hb=>dG (congrArg (fun v=>[v]) (h 2 rfl)) (X7 W x2 y2 d2 hs2.1.1 hs2.1.2 hs2.2.1 hs2.2.2),
    fun σ W g h hp hb=>toPts (Nat.zero_le _) (Z2 W _ L ((few1 (h 3 rfl)).up g.size) (by omega) hI),
    fun σ W g h hp hb=>dG (congrArg (fun v=>[v]) (h 1 rfl)) (dC W x1 y1 d1 hs1.1.1 hs1.1.2 hs1.2.1 hs1.2.2 (hTab.kept g (by simp))),
    fun σ W g h hp hb=>dG (congrArg (fun v=>[v]) (h 2 rfl)) (dC W x2 y2 d2 hs2.1.1 hs2.1.2 hs2.2.1 hs2.2.2 (hTab.kept g (by simp))),
    fun σ W g h hp hb=>kX (W5 W _ _ (gl L) (lat x1 y1 d1) (lat x2 y2 d2) 1 (h 6 rfl).1 (mksg (h 7 rfl) (h 8 rfl)) (by omega) (by simp [gl];omega) glL (pV hs1.1.1 hs1.1.2 hs1.2.1 hs1.2.2) (pV hs2.1.1 hs2.1.2 hs2.2.1 hs2.2.2) (hTab.kept g (by simp))),
    fun σ W g h hp hb=>toV (V5 W (hTab.kept g (by simp))) rfl,
    fun σ W g h hp hb=>(D2 W _ _ ⟨x1,y1,und d1⟩ ⟨x2,y2,und d2⟩ 5 (h 4 rfl) (h 5 rfl) (by omega) ha.1 hb2.1 ha.2 hb2.2).mono fun _ _ ⟨a,g⟩=>⟨_,a,rfl,g⟩,
    fun σ W g h hp hb=>fun ρ o ho _ hv=>⟨_,N0 true ho ((A0 hv).1.trans (h 11 rfl)) (A0 hv).2 (decide_eq_false h0),rfl⟩,
    fun σ W g h hp hb=>by
     have hh:=lQ W _ _ (hrl L) ⟨x1,y1,und d1⟩ ⟨x2,y2,und d2⟩ 5 (few2 (h 3 rfl)) (gJ (h 4 rfl) (h 5 rfl)) (by omega) (by omega) hbL ha.1 hb2.1 ha.2 hb2.2
     rw [gR] at hh
     rw [show dec (U9 (gl L) (rp ⟨x1,y1,und d1⟩) (rp ⟨x2,y2,und d2⟩))=true from O0 hf] at hh
     exact hh.mono fun _ _ ⟨a,g⟩=>⟨_,a,rfl,g⟩,
    fun σ W g h hp hb=>by
     have hh:=eU W _ _ (hrl L) ⟨x1,y1,und d1⟩ ⟨x2,y2,und d2⟩ (few2 (h 3 rfl)) (gJ (h 4 rfl) (h 5 rfl)) (by omega) hbL ha.1 hb2.1 ha.2 hb2.2 (qZ hs1) (qZ hs2) (sm_hrl hI) (by rw [gR];exact fun _=>hf)
     rw [gR] at hh
     exact kX hh,
    fun σ W g h hp hb=>fun ρ o ho _ hv=>⟨_,D7 true ho ((A0 hv).1.trans (jS (h 9 rfl))) ((A0 hv).2.trans (jS (h 14 rfl))) (decide_eq_true rfl),rfl⟩,
    fun σ W g h hp hb=>fun ρ o ho _ hv=>⟨_,D7 true ho ((A0 hv).1.trans (szz2 (h 9 rfl))) ((A0 hv).2.trans (szz2 (h 14 rfl))) (decide_eq_true rfl),rfl⟩,
    trivial⟩
    trivial
    ⟨fun τ W g h hp hb=>⟨rfl,g⟩,
    trivial⟩
 · skip
   refine M7 B6 Tryz.func3 [sGe w.heap.size va l,sDt x1 y1 d1,sDt x2 y2 d2] [sFew w.heap.size va L,sH ⟨x1,y1,und d1⟩,sH ⟨x2,y2,und d2⟩,sPts 0 (gl L),sPt (lat x1 y1 d1),sPt (lat x2 y2 d2),sZZ (bes (gl L) (lat x1 y1 d1) (lat x2 y2 d2)).1 (bes (gl L) (lat x1 y1 d1) (lat x2 y2 d2)).2,sV (.bool true),sZ (F0 (lat x1 y1 d1) (lat x2 y2 d2)),sV (.bool true),sV (.bool false),sV (.bool true)] [] [] (.cons ⟨rfl,Ha⟩ (.cons rfl (.cons rfl .nil))) (rs:=[(cl 3 9 [on 0],[]),(cl 4 10 [ag 3 1],[]),(cl 5 10 [ag 3 2],[]),(cl 6 12 [on 3],[]),(cl 7 13 [ag 3 1],[]),(cl 8 13 [ag 3 2],[]),(cl 9 11 [on 6,.v true [.an 7 0,.an 7 1,.an 7 2,.an 7 3,.an 7 4,.an 7 5,.an 7 6,.an 7 7,.an 8 0,.an 8 1,.an 8 2,.an 8 3,.an 8 4,.an 8 5,.an 8 6,.an 8 7]],[]),(cl 10 14 [],[]),(cl 11 15 [ag 6 4,ag 6 5],[]),(co 12 (.binOp .neq 3 (.tmp 41) (.const (.int .i64 0)) 3) 4 [on 11,.v false [.lit (.int .i64 0)]] [0,1,2,3,4,5,6,7,8,9,10,11] [],[]),(cl 13 16 [.v false [.an 3 1],.v true [.an 4 0,.an 4 1,.an 4 2,.an 4 3,.an 4 4,.an 4 5,.an 5 0,.an 5 1,.an 5 2,.an 5 3,.an 5 4,.an 5 5]],[]),(cl 14 14 [],[])]) (js:=[]) (outs:=[⟨.v false [.lit (.bool true)],(List.range 15),[],[],[]⟩]) (nc:=15) (by kernel_rfl)
    ⟨fun σ W g h hp hb=>by
     have e : σ.an 0 0=va:=(h 0 rfl).1
     have h0:GsV w.heap.size W (σ.an 0 0) l:=(h 0 rfl).2
     rw [e] at h0
     show Calls _ _ #[σ.an 0 0] W _
     rw [e, <- hLe]
     exact toFew g.size (fun q hq=>⟨0,rfl,by show fpS (σ.an 0 0) q;rw [e];exact hq⟩) (fun q hq=>(h0.block hq).1) (iB W va l (h0.up g.size) hIn),
    fun σ W g h hp hb=>dG (congrArg (fun v=>[v]) (h 1 rfl)) (X7 W x1 y1 d1 hs1.1.1 hs1.1.2 hs1.2.1 hs1.2.2),
    fun σ W g h hp hb=>dG (congrArg (fun v=>[v]) (h 2 rfl)) (X7 W x2 y2 d2 hs2.1.1 hs2.1.2 hs2.2.1 hs2.2.2),
    fun σ W g h hp hb=>toPts (Nat.zero_le _) (Z2 W _ L ((few1 (h 3 rfl)).up g.size) (by omega) hI),
    fun σ W g h hp hb=>dG (congrArg (fun v=>[v]) (h 1 rfl)) (dC W x1 y1 d1 hs1.1.1 hs1.1.2 hs1.2.1 hs1.2.2 (hTab.kept g (by simp))),
    fun σ W g h hp hb=>dG (congrArg (fun v=>[v]) (h 2 rfl)) (dC W x2 y2 d2 hs2.1.1 hs2.1.2 hs2.2.1 hs2.2.2 (hTab.kept g (by simp))),
    fun σ W g h hp hb=>kX (W5 W _ _ (gl L) (lat x1 y1 d1) (lat x2 y2 d2) 1 (h 6 rfl).1 (mksg (h 7 rfl) (h 8 rfl)) (by omega) (by simp [gl];omega) glL (pV hs1.1.1 hs1.1.2 hs1.2.1 hs1.2.2) (pV hs2.1.1 hs2.1.2 hs2.2.1 hs2.2.2) (hTab.kept g (by simp))),
    fun σ W g h hp hb=>toV (V5 W (hTab.kept g (by simp))) rfl,
    fun σ W g h hp hb=>(D2 W _ _ ⟨x1,y1,und d1⟩ ⟨x2,y2,und d2⟩ 5 (h 4 rfl) (h 5 rfl) (by omega) ha.1 hb2.1 ha.2 hb2.2).mono fun _ _ ⟨a,g⟩=>⟨_,a,rfl,g⟩,
    fun σ W g h hp hb=>fun ρ o ho _ hv=>⟨_,N0 true ho ((A0 hv).1.trans (h 11 rfl)) (A0 hv).2 (decide_eq_false h0),rfl⟩,
    fun σ W g h hp hb=>by
     have hh:=lQ W _ _ (hrl L) ⟨x1,y1,und d1⟩ ⟨x2,y2,und d2⟩ 5 (few2 (h 3 rfl)) (gJ (h 4 rfl) (h 5 rfl)) (by omega) (by omega) hbL ha.1 hb2.1 ha.2 hb2.2
     rw [gR] at hh
     rw [show dec (U9 (gl L) (rp ⟨x1,y1,und d1⟩) (rp ⟨x2,y2,und d2⟩))=false from I1 hf] at hh
     exact hh.mono fun _ _ ⟨a,g⟩=>⟨_,a,rfl,g⟩,
    fun σ W g h hp hb=>toV (V5 W (hTab.kept g (by simp))) rfl,
    trivial⟩
    trivial
    ⟨fun τ W g h hp hb=>⟨rfl,g⟩,
    trivial⟩
end Go.Proofs.YtamdnbbgpacfkaaGreatDoor
namespace Go.Proofs.YtamdnbbgpacfkaaGreatDoor.WindBeside
open Go.ChangeShapes Go.WideShapes Go.ChangeAt Go.RowKit Go.ChangeMaps
theorem contract (H:Type) (enc:TypeId × Value->H) (W:World) (base:Nat) (args:Array Value) (ds gs:List (DataW H)) (before:List MemPlace)
 (hval:∀ (j:Nat) t v,Tryz.f3.params[j]?=some t->args[j]?=some v->Value.okWide Tryz.prog W .any base t v)
 (hW:DataW.Whole enc Tryz.prog Tryz.f3.params.toList Rows.windBesideSpec.vars false W args.toList ds gs before) (hL:laidMetH Tryz.prog Rows.windBesideRow.laid W) :
 Calls Tryz.prog 3 args W fun e W'=>∃ v,e = .returned v/\Rows.windBesideSpec.post enc Tryz.prog Tryz.f3 false true false false W args v W':=by
 have hW':=hW
 obtain ⟨p,q,hA0,hV,rfl,hfz,hnd⟩:=hW
 have hA:DataW.TrodAll enc Tryz.prog W 0 (fun _=>true) true Tryz.f3.params.toList args.toList ds p:=hA0
 rw [Tryz.params3] at hA hval
 obtain ⟨v0,vs0,d0,ds0,p0,q0,hargs0,rfl,rfl,h0,r0⟩:=trodAll_cons hA
 obtain ⟨v1,vs1,d1,ds1,p1,q1,hargs1,rfl,rfl,h1,r1⟩:=trodAll_cons r0
 obtain ⟨v2,vs2,d2,ds2,p2,q2,hargs2,rfl,rfl,h2,r2⟩:=trodAll_cons r1
 obtain ⟨rfl,rfl,rfl⟩:=trodAll_nil r2
 obtain rfl:args = #[v0,v1,v2]:=by cases args;simp_all
 obtain ⟨rfl,rfl⟩:=trodVars_none hV
 simp only [List.append_nil] at hW' hfz
 have hlt:∀ p ∈ p0++(p1++p2),p.block<W.heap.size:=fun p hp=>by
  have:=DataW.TrodAll.lt hA p (by simpa using hp)
  exact this
 have hv0:=hval 0 22 v0 rfl rfl
 obtain ⟨s0,ln0,cp0,rfl⟩:=okWide_slice Tryz.underlying22 hv0
 obtain ⟨l0,hd0,hs0⟩:=open_gs h0
 have hv1:=hval 1 24 v1 rfl rfl
 obtain ⟨x1,y1,z1,rfl,a1,b1,c1⟩:=open_dot hv1 h1
 have hv2:=hval 2 24 v2 rfl rfl
 obtain ⟨x2,y2,z2,rfl,a2,b2,c2⟩:=open_dot hv2 h2
 clear hA0
 refine (jR W _ l0 x1 y1 z1 x2 y2 z2 hd0 hs0 ⟨a1,b1⟩ ⟨a2,b2⟩ (tab_of hL)).mono fun e W' ⟨he,hg⟩=>?_
 subst he
 have hs0:∀ sp:Nat->Bool,(∀ p ∈ p0,sp p.block=true)->DataW.Trod enc Tryz.prog W' 0 sp true 22 (.slice s0 ln0 cp0) d0 p0:=fun sp hsp=>
  Go.WideElems.Trod_stays (by kernel_rfl) (by kernel_rfl) (of_decide_eq_true (by kernel_rfl)) h0 (fun p hp=>dV hg (hlt p (by simp [hp]))) hsp
 have hs1:∀ sp:Nat->Bool,(∀ p ∈ p1,sp p.block=true)->DataW.Trod enc Tryz.prog W' 0 sp true 24 (.agg #[.int .i64 x1,.int .i64 y1,.int .i64 z1]) d1 p1:=fun sp hsp=>
  Go.WideElems.Trod_stays (by kernel_rfl) (by kernel_rfl) (of_decide_eq_true (by kernel_rfl)) h1 (fun p hp=>dV hg (hlt p (by simp [hp]))) hsp
 have hs2:∀ sp:Nat->Bool,(∀ p ∈ p2,sp p.block=true)->DataW.Trod enc Tryz.prog W' 0 sp true 24 (.agg #[.int .i64 x2,.int .i64 y2,.int .i64 z2]) d2 p2:=fun sp hsp=>
  Go.WideElems.Trod_stays (by kernel_rfl) (by kernel_rfl) (of_decide_eq_true (by kernel_rfl)) h2 (fun p hp=>dV hg (hlt p (by simp [hp]))) hsp
 exact ⟨_,rfl,post_places hW' hlt (fun _ _ _=>trodAll_cons_mk (shut_bool Tryz.underlying4 _) trodAll_mk0) (fun sp hsp=>by
  have:=trodAll_cons_mk (hs0 sp (fun p hp=>hsp p (by simp [hp]))) (trodAll_cons_mk (hs1 sp (fun p hp=>hsp p (by simp [hp]))) (trodAll_cons_mk (hs2 sp (fun p hp=>hsp p (by simp [hp]))) (trodAll_mk0)))
  rw [List.append_nil] at this
  exact this) (fun _=>rfl) hg (ok_one (by kernel_rfl) rfl (okWide_bool_mk Tryz.underlying4 _))⟩
theorem laid_met (os:Os):laidMet Tryz.prog Rows.windBesideRow.laid ((gQ os).forCall (fun _ _=>0) ⟨#[], #[.slice none 0 0,.agg #[.int .i64 0,.int .i64 0,.int .i64 0],.agg #[.int .i64 0,.int .i64 0,.int .i64 0]],[]⟩).memory:=
 laidMet_of_run' 80 (by kernel_rfl) (by kernel_rfl)
theorem reads (os:Os) {H:Type} (enc:TypeId × Value->H):∃ places,DataW.whole enc Tryz.prog ((gQ os).forCall (fun _ _=>0) ⟨#[], #[.slice none 0 0,.agg #[.int .i64 0,.int .i64 0,.int .i64 0],.agg #[.int .i64 0,.int .i64 0,.int .i64 0]],[]⟩).memory Tryz.f3.params.toList Rows.windBesideSpec.vars false #[Value.slice none 0 0,Value.agg #[.int .i64 0,.int .i64 0,.int .i64 0],Value.agg #[.int .i64 0,.int .i64 0,.int .i64 0]].toList 8=some ([.nil,.agg [.lit (.int .i64 0),.lit (.int .i64 0),.lit (.int .i64 0)],.agg [.lit (.int .i64 0),.lit (.int .i64 0),.lit (.int .i64 0)]],[],places):=
 ⟨[],by kernel_rfl⟩
theorem lifted (os:Os) (started:os.Started) (H:Type) (enc:TypeId × Value->H) (F:Stop.Interp) :
 ReturnsInHanded {} Tryz.checked os 3 .any ((OpenSpec.ofChange Rows.windBesideSpec).preRow enc Tryz.prog Tryz.f3 Rows.windBesideRow.domain false Rows.windBesideRow.laid) (((OpenSpec.ofChange Rows.windBesideSpec).at F).post enc Tryz.prog Tryz.f3 false true false false):=by
 obtain ⟨places,hx⟩:=reads os enc
 refine returnsInHanded_of_row (C:=Tryz.checked) (s:=OpenSpec.ofChange Rows.windBesideSpec) law_own started (by kernel_rfl) Tryz.func3
  (witness_row_at (enc:=enc) (C:=Tryz.checked) false (gQ os) #[.slice none 0 0,.agg #[.int .i64 0,.int .i64 0,.int .i64 0],.agg #[.int .i64 0,.int .i64 0,.int .i64 0]] rfl (by kernel_rfl) (by kernel_rfl) (by kernel_rfl)
   (OpenSpec.preRow_of_cond 8 hx (by kernel_rfl) (fun k hk=>by cases hk) (by kernel_rfl) (laid_met os))) ?_
 intro W base args ds gs before hval hW _ _ _ hL _ _
 exact contract H enc W base args ds gs before hval hW hL
theorem said:Rows.WindBesideSaid:=
 OpenClaim.holds_of_cond 3 Tryz.f3 rfl rfl rfl rfl rfl rfl rfl ⟨rfl,rfl,rfl,rfl,rfl⟩ rfl rfl rfl rfl rfl (by kernel_rfl) Tryz.func3 (by kernel_rfl)
  (of_decide_eq_true (by kernel_rfl)) (by unfold Func.isWrapper;first | (rw [if_pos (by decide +kernel)];kernel_rfl) | (rw [if_neg (by decide +kernel)];exact ⟨rfl,rfl⟩))
  (fun os started H enc _ F=>by rw [OpenClaim.pre_eq_preRow];exact lifted os started H enc F)
theorem plain (f : FuncId) (fn : Func) (hf : Tryz.pinned.checked.prog.funcNamed "pellicle/pelliclelaw13.WindBeside" = some f) (hfn : Tryz.pinned.checked.prog.funcs[f]? = some fn) :
 true=Tryz.pinned.checked.prog.looks [] /\ ∀ (j:Nat) t,fn.params[j]?=some t->Tryz.pinned.checked.prog.wantsStandIn t=false:=by
 obtain rfl : f = 3 := Option.some.inj ((show Tryz.prog.funcNamed "pellicle/pelliclelaw13.WindBeside" = some 3 by kernel_rfl).symm.trans hf) |>.symm
 obtain rfl:fn=Tryz.f3:=(Option.some.inj (Tryz.func3.symm.trans hfn)).symm
 refine ⟨by kernel_rfl,fun j t ht=>?_⟩
 rw [Tryz.params3] at ht
 have ht2:=Array.mem_of_getElem? ht
 simp at ht2
 first | (rcases ht2 with rfl | rfl | rfl) | (rcases ht2 with rfl | rfl) | subst ht2
 all_goals exact (show Tryz.prog.wantsStandIn _=false by kernel_rfl)
theorem card:Rows.WindBesideCardSaid:=
 Claim7.holds_tied_plain_at .later [] _ _ _ _ said (fun _ h=>by cases h) (by kernel_rfl) (fun _ h=>by cases h) windBeside_row_tie rfl ⟨rfl,rfl⟩ (by kernel_rfl) rfl plain (by kernel_rfl)
end Go.Proofs.YtamdnbbgpacfkaaGreatDoor.WindBeside
