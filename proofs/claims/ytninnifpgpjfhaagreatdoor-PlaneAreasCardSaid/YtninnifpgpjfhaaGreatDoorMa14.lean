/- What the laws lean on, part 14. -/
import Derived.Below
import Derived.BigCall
import Derived.BigQuiet
import Derived.BigRegion
import Derived.Deep.AppendLies
import Derived.Deep.CutBlock
import Derived.Deep.CutRange
import Derived.Deep.DeepCutAuto
import Derived.Deep.DeepHandedRow
import Derived.Deep.LoopGhost
import Derived.Deep.MidRow
import Derived.Deep.QuietTactic
import Derived.Deep.RegionHeld3
import Derived.Deep.RegionLaw
import Derived.Deep.WholeRow
import Derived.Laws.AppendOwn
import Derived.Laws.Concat
import Derived.Laws.CopyOwn
import Derived.Laws.Externs
import Derived.Laws.IdiomStrings
import Derived.Lib.BitFns
import Derived.Lib.Bytealg
import Derived.Lib.Hide
import Derived.Lib.Slices
import Derived.Lib.Small
import Derived.Lib.Strings
import Derived.Lib.Walk
import Derived.LoopN
import Derived.OpenShut
import Derived.OrdersHeld
import Derived.OrdersIn
import Derived.Outline
import Derived.OwnWalk
import Derived.ProofKit
import Derived.RangeFuncCalls
import Derived.RangeFuncNested
import Derived.RangeFuncOwn
import Derived.Shelf.Bits.Mul64
import Derived.Shelf.Spec.TrailingZeros
import Derived.StillTailTactics
import Derived.WalkKit
import Derived.WalkLawsBesides
import Derived.WalkSpells
import Derived.Test.YtninnifpgpjfhaaGreatDoorProg
import Derived.Test.YtninnifpgpjfhaaGreatDoorRows
import Derived.Test.YtninnifpgpjfhaaGreatDoorMa13
set_option linter.unusedVariables false
set_option linter.unusedSimpArgs false
set_option maxRecDepth 100000
namespace Go.Proofs.YtninnifpgpjfhaaGreatDoor
open Go.RowKit Mat Ex PM
theorem nU (w:World) (va vb:Value) (a b c d:Pq) (K:Nat) (Ha:SgV w va a b) (Hb:SgV w vb c d) (hK : 1<=K/\K<=50) (ba:Bp K a) (bb:Bp K b) (bc:Bp K c) (bd:Bp K d) (hTab:Tab w) :
 Calls Tryz.prog 30 #[va,vb] w (pL w (W4 a b c d)):=by
 rcases (show ¬ ple (G5 (lo a b) (lo c d)) (G4 (hi a b) (hi c d))\/(ple (G5 (lo a b) (lo c d)) (G4 (hi a b) (hi c d))/\M9 (A3 a b c) (A3 a b d))\/(ple (G5 (lo a b) (lo c d)) (G4 (hi a b) (hi c d)) /\ ¬ M9 (A3 a b c) (A3 a b d)/\M9 (A3 c d a) (A3 c d b))\/(ple (G5 (lo a b) (lo c d)) (G4 (hi a b) (hi c d)) /\ ¬ M9 (A3 a b c) (A3 a b d) /\ ¬ M9 (A3 c d a) (A3 c d b)/\A3 c d a=0/\A3 c d b=0)\/(ple (G5 (lo a b) (lo c d)) (G4 (hi a b) (hi c d)) /\ ¬ M9 (A3 a b c) (A3 a b d) /\ ¬ M9 (A3 c d a) (A3 c d b)/\A3 c d a=0/\A3 c d b≠0)\/(ple (G5 (lo a b) (lo c d)) (G4 (hi a b) (hi c d)) /\ ¬ M9 (A3 a b c) (A3 a b d) /\ ¬ M9 (A3 c d a) (A3 c d b)/\A3 c d a≠0) by grind) with h1 | ⟨h1,h2⟩ | ⟨h1,h2,h3⟩ | ⟨h1,h2,h3,h4,h5⟩ | ⟨h1,h2,h3,h4,h5⟩ | ⟨h1,h2,h3,h4⟩
 · skip
   unfold W4
   rw [if_neg h1]
   refine A6 B5 Tryz.func30 [sSg a b,sSg c d] [sPP (G5 (lo a b) (lo c d)) (G4 (hi a b) (hi c d)),sZ (I9 (G5 (lo a b) (lo c d)) (G4 (hi a b) (hi c d))),sV (.bool true)] (.cons Ha (.cons Hb .nil)) (rs:=[cl 2 68 [ag 16 0,ag 16 1],cl 3 55 [ag 8 2,.v true [.an 2 8,.an 2 9,.an 2 10,.an 2 11,.an 2 12,.an 2 13,.an 2 14,.an 2 15]],co 4 (.binOp .gtr 3 (.tmp 18) (.const (.int .i64 0)) 3) 4 [on 3,.v false [.lit (.int .i64 0)]] [0,1,2,3] []]) (out := .v false [.lit (.slice none 0 0)]) (nc:=5) (by kernel_rfl)
    ⟨fun σ W g h hb=>cN (J7 W _ _ a b c d K (h 0 rfl) (h 1 rfl) (by omega) ba bb bc bd),
    fun σ W g h hb=>toZ (E8 W _ _ (G5 (lo a b) (lo c d)) (G4 (hi a b) (hi c d)) K (pp1 (h 2 rfl)) (pp2 (h 2 rfl)) (by omega) ((ba.lo bb).max (bc.lo bd)) ((ba.hi bb).min (bc.hi bd))) rfl,
    fun σ W g h hb=>fun ρ o ho _ hv=>⟨_,I8 true ho ((A4 hv).1.trans (h 3 rfl)) (A4 hv).2 (decide_eq_true (pgt.1 h1)),rfl⟩,
    trivial⟩ fun τ W g h=>⟨_,rfl,gI W,g,oV⟩
 · skip
   unfold W4
   rw [if_pos h1,if_pos h2]
   refine A6 B5 Tryz.func30 [sSg a b,sSg c d] [sPP (G5 (lo a b) (lo c d)) (G4 (hi a b) (hi c d)),sZ (I9 (G5 (lo a b) (lo c d)) (G4 (hi a b) (hi c d))),sV (.bool false),sQQ (A3 a b c) (A3 a b d),sV (.bool true)] (.cons Ha (.cons Hb .nil)) (rs:=[cl 2 68 [ag 16 0,ag 16 1],cl 3 55 [ag 8 2,.v true [.an 2 8,.an 2 9,.an 2 10,.an 2 11,.an 2 12,.an 2 13,.an 2 14,.an 2 15]],co 4 (.binOp .gtr 3 (.tmp 18) (.const (.int .i64 0)) 3) 4 [on 3,.v false [.lit (.int .i64 0)]] [0,1,2,3] [],cl 5 70 [ag 16 0,ag 16 1],cl 6 69 [ag 4 5,.v true [.an 5 4,.an 5 5,.an 5 6,.an 5 7]]]) (out := .v false [.lit (.slice none 0 0)]) (nc:=7) (by kernel_rfl)
    ⟨fun σ W g h hb=>cN (J7 W _ _ a b c d K (h 0 rfl) (h 1 rfl) (by omega) ba bb bc bd),
    fun σ W g h hb=>toZ (E8 W _ _ (G5 (lo a b) (lo c d)) (G4 (hi a b) (hi c d)) K (pp1 (h 2 rfl)) (pp2 (h 2 rfl)) (by omega) ((ba.lo bb).max (bc.lo bd)) ((ba.hi bb).min (bc.hi bd))) rfl,
    fun σ W g h hb=>fun ρ o ho _ hv=>⟨_,I8 false ho ((A4 hv).1.trans (h 3 rfl)) (A4 hv).2 (decide_eq_false (by have:=pcmp_le.2 h1;omega)),rfl⟩,
    fun σ W g h hb=>dU (E9 W _ _ a b c d K (h 0 rfl) (h 1 rfl) (by omega) ba bb bc bd (hTab.kept g (by simp))),
    fun σ W g h hb=>toV (F7 W _ _ (A3 a b c) (A3 a b d) (8*K+5) (qq1 (h 5 rfl)) (qq2 (h 5 rfl)) (by omega) (ba.cross bb bc) (ba.cross bb bd)) (by rw [dec_t h2]),
    trivial⟩ fun τ W g h=>⟨_,rfl,gI W,g,oV⟩
 · skip
   unfold W4
   rw [if_pos h1,if_neg h2,if_pos h3]
   refine A6 B5 Tryz.func30 [sSg a b,sSg c d] [sPP (G5 (lo a b) (lo c d)) (G4 (hi a b) (hi c d)),sZ (I9 (G5 (lo a b) (lo c d)) (G4 (hi a b) (hi c d))),sV (.bool false),sQQ (A3 a b c) (A3 a b d),sV (.bool false),sQQ (A3 c d a) (A3 c d b),sV (.bool true)] (.cons Ha (.cons Hb .nil)) (rs:=[cl 2 68 [ag 16 0,ag 16 1],cl 3 55 [ag 8 2,.v true [.an 2 8,.an 2 9,.an 2 10,.an 2 11,.an 2 12,.an 2 13,.an 2 14,.an 2 15]],co 4 (.binOp .gtr 3 (.tmp 18) (.const (.int .i64 0)) 3) 4 [on 3,.v false [.lit (.int .i64 0)]] [0,1,2,3] [],cl 5 70 [ag 16 0,ag 16 1],cl 6 69 [ag 4 5,.v true [.an 5 4,.an 5 5,.an 5 6,.an 5 7]],cl 7 70 [ag 16 1,ag 16 0],cl 8 69 [ag 4 7,.v true [.an 7 4,.an 7 5,.an 7 6,.an 7 7]]]) (out := .v false [.lit (.slice none 0 0)]) (nc:=9) (by kernel_rfl)
    ⟨fun σ W g h hb=>cN (J7 W _ _ a b c d K (h 0 rfl) (h 1 rfl) (by omega) ba bb bc bd),
    fun σ W g h hb=>toZ (E8 W _ _ (G5 (lo a b) (lo c d)) (G4 (hi a b) (hi c d)) K (pp1 (h 2 rfl)) (pp2 (h 2 rfl)) (by omega) ((ba.lo bb).max (bc.lo bd)) ((ba.hi bb).min (bc.hi bd))) rfl,
    fun σ W g h hb=>fun ρ o ho _ hv=>⟨_,I8 false ho ((A4 hv).1.trans (h 3 rfl)) (A4 hv).2 (decide_eq_false (by have:=pcmp_le.2 h1;omega)),rfl⟩,
    fun σ W g h hb=>dU (E9 W _ _ a b c d K (h 0 rfl) (h 1 rfl) (by omega) ba bb bc bd (hTab.kept g (by simp))),
    fun σ W g h hb=>toV (F7 W _ _ (A3 a b c) (A3 a b d) (8*K+5) (qq1 (h 5 rfl)) (qq2 (h 5 rfl)) (by omega) (ba.cross bb bc) (ba.cross bb bd)) (by rw [fN h2]),
    fun σ W g h hb=>dU (E9 W _ _ c d a b K (h 1 rfl) (h 0 rfl) (by omega) bc bd ba bb (hTab.kept g (by simp))),
    fun σ W g h hb=>toV (F7 W _ _ (A3 c d a) (A3 c d b) (8*K+5) (qq1 (h 7 rfl)) (qq2 (h 7 rfl)) (by omega) (bc.cross bd ba) (bc.cross bd bb)) (by rw [dec_t h3]),
    trivial⟩ fun τ W g h=>⟨_,rfl,gI W,g,oV⟩
 · skip
   unfold W4
   rw [if_pos h1,if_neg h2,if_neg h3,if_pos ⟨h4,h5⟩]
   refine A6 B5 Tryz.func30 [sSg a b,sSg c d] [sPP (G5 (lo a b) (lo c d)) (G4 (hi a b) (hi c d)),sZ (I9 (G5 (lo a b) (lo c d)) (G4 (hi a b) (hi c d))),sV (.bool false),sQQ (A3 a b c) (A3 a b d),sV (.bool false),sQQ (A3 c d a) (A3 c d b),sV (.bool false),sZ (rsg (A3 c d a)),sV (.bool true),sZ (rsg (A3 c d b)),sV (.bool true),lL w.heap.size (btw (G5 (lo a b) (lo c d)) (G4 (hi a b) (hi c d)))] (.cons Ha (.cons Hb .nil)) (rs:=[cl 2 68 [ag 16 0,ag 16 1],cl 3 55 [ag 8 2,.v true [.an 2 8,.an 2 9,.an 2 10,.an 2 11,.an 2 12,.an 2 13,.an 2 14,.an 2 15]],co 4 (.binOp .gtr 3 (.tmp 18) (.const (.int .i64 0)) 3) 4 [on 3,.v false [.lit (.int .i64 0)]] [0,1,2,3] [],cl 5 70 [ag 16 0,ag 16 1],cl 6 69 [ag 4 5,.v true [.an 5 4,.an 5 5,.an 5 6,.an 5 7]],cl 7 70 [ag 16 1,ag 16 0],cl 8 69 [ag 4 7,.v true [.an 7 4,.an 7 5,.an 7 6,.an 7 7]],cl 9 71 [ag 4 7],co 10 (.binOp .eql 3 (.tmp 40) (.const (.int .i64 0)) 3) 4 [on 9,.v false [.lit (.int .i64 0)]] [0,1,2,3,4,5,6,7,8,9] [],cl 11 71 [.v true [.an 7 4,.an 7 5,.an 7 6,.an 7 7]],co 12 (.binOp .eql 3 (.tmp 44) (.const (.int .i64 0)) 3) 4 [on 11,.v false [.lit (.int .i64 0)]] [0,1,2,3,4,5,6,7,8,9,10,11] [],cl 13 72 [ag 8 2,.v true [.an 2 8,.an 2 9,.an 2 10,.an 2 11,.an 2 12,.an 2 13,.an 2 14,.an 2 15]]]) (out:=on 13) (nc:=14) (by kernel_rfl)
    ⟨fun σ W g h hb=>cN (J7 W _ _ a b c d K (h 0 rfl) (h 1 rfl) (by omega) ba bb bc bd),
    fun σ W g h hb=>toZ (E8 W _ _ (G5 (lo a b) (lo c d)) (G4 (hi a b) (hi c d)) K (pp1 (h 2 rfl)) (pp2 (h 2 rfl)) (by omega) ((ba.lo bb).max (bc.lo bd)) ((ba.hi bb).min (bc.hi bd))) rfl,
    fun σ W g h hb=>fun ρ o ho _ hv=>⟨_,I8 false ho ((A4 hv).1.trans (h 3 rfl)) (A4 hv).2 (decide_eq_false (by have:=pcmp_le.2 h1;omega)),rfl⟩,
    fun σ W g h hb=>dU (E9 W _ _ a b c d K (h 0 rfl) (h 1 rfl) (by omega) ba bb bc bd (hTab.kept g (by simp))),
    fun σ W g h hb=>toV (F7 W _ _ (A3 a b c) (A3 a b d) (8*K+5) (qq1 (h 5 rfl)) (qq2 (h 5 rfl)) (by omega) (ba.cross bb bc) (ba.cross bb bd)) (by rw [fN h2]),
    fun σ W g h hb=>dU (E9 W _ _ c d a b K (h 1 rfl) (h 0 rfl) (by omega) bc bd ba bb (hTab.kept g (by simp))),
    fun σ W g h hb=>toV (F7 W _ _ (A3 c d a) (A3 c d b) (8*K+5) (qq1 (h 7 rfl)) (qq2 (h 7 rfl)) (by omega) (bc.cross bd ba) (bc.cross bd bb)) (by rw [fN h3]),
    fun σ W g h hb=>toZ (C6 W _ _ (8*K+5) (qq1 (h 7 rfl)) (by omega) (bc.cross bd ba).1) rfl,
    fun σ W g h hb=>fun ρ o ho _ hv=>⟨_,V6 true ho ((A4 hv).1.trans (h 9 rfl)) (A4 hv).2 (decide_eq_true (rsg_zero.2 h4)),rfl⟩,
    fun σ W g h hb=>toZ (C6 W _ _ (8*K+5) (qq2 (h 7 rfl)) (by omega) (bc.cross bd bb).1) rfl,
    fun σ W g h hb=>fun ρ o ho _ hv=>⟨_,V6 true ho ((A4 hv).1.trans (h 11 rfl)) (A4 hv).2 (decide_eq_true (rsg_zero.2 h5)),rfl⟩,
    fun σ W g h hb=>cM g.size (J8 W _ _ _ _ K (pp1 (h 2 rfl)) (pp2 (h 2 rfl)) (by omega) ((ba.lo bb).max (bc.lo bd)) ((ba.hi bb).min (bc.hi bd)) (hTab.kept g (by simp))),
    trivial⟩ fun τ W g h=>⟨_,rfl,(h 13 rfl).1,g,(h 13 rfl).2⟩
 · skip
   unfold W4
   rw [if_pos h1,if_neg h2,if_neg h3,if_neg (fun q=>h5 q.2)]
   have hne:A3 c d a≠A3 c d b:=by rw [h4];exact Ne.symm h5
   refine A6 B5 Tryz.func30 [sSg a b,sSg c d] [sPP (G5 (lo a b) (lo c d)) (G4 (hi a b) (hi c d)),sZ (I9 (G5 (lo a b) (lo c d)) (G4 (hi a b) (hi c d))),sV (.bool false),sQQ (A3 a b c) (A3 a b d),sV (.bool false),sQQ (A3 c d a) (A3 c d b),sV (.bool false),sZ (rsg (A3 c d a)),sV (.bool true),sZ (rsg (A3 c d b)),sV (.bool false),sPt (pat a b (A3 c d a / (A3 c d a-A3 c d b))),lL w.heap.size (btw (pat a b (A3 c d a / (A3 c d a-A3 c d b))) (pat a b (A3 c d a / (A3 c d a-A3 c d b))))] (.cons Ha (.cons Hb .nil)) (rs:=[cl 2 68 [ag 16 0,ag 16 1],cl 3 55 [ag 8 2,.v true [.an 2 8,.an 2 9,.an 2 10,.an 2 11,.an 2 12,.an 2 13,.an 2 14,.an 2 15]],co 4 (.binOp .gtr 3 (.tmp 18) (.const (.int .i64 0)) 3) 4 [on 3,.v false [.lit (.int .i64 0)]] [0,1,2,3] [],cl 5 70 [ag 16 0,ag 16 1],cl 6 69 [ag 4 5,.v true [.an 5 4,.an 5 5,.an 5 6,.an 5 7]],cl 7 70 [ag 16 1,ag 16 0],cl 8 69 [ag 4 7,.v true [.an 7 4,.an 7 5,.an 7 6,.an 7 7]],cl 9 71 [ag 4 7],co 10 (.binOp .eql 3 (.tmp 40) (.const (.int .i64 0)) 3) 4 [on 9,.v false [.lit (.int .i64 0)]] [0,1,2,3,4,5,6,7,8,9] [],cl 11 71 [.v true [.an 7 4,.an 7 5,.an 7 6,.an 7 7]],co 12 (.binOp .eql 3 (.tmp 44) (.const (.int .i64 0)) 3) 4 [on 11,.v false [.lit (.int .i64 0)]] [0,1,2,3,4,5,6,7,8,9,10,11] [],cl 13 73 [ag 16 0,ag 4 7,.v true [.an 7 4,.an 7 5,.an 7 6,.an 7 7]],cl 14 72 [ag 8 13,ag 8 13]]) (out:=on 14) (nc:=15) (by kernel_rfl)
    ⟨fun σ W g h hb=>cN (J7 W _ _ a b c d K (h 0 rfl) (h 1 rfl) (by omega) ba bb bc bd),
    fun σ W g h hb=>toZ (E8 W _ _ (G5 (lo a b) (lo c d)) (G4 (hi a b) (hi c d)) K (pp1 (h 2 rfl)) (pp2 (h 2 rfl)) (by omega) ((ba.lo bb).max (bc.lo bd)) ((ba.hi bb).min (bc.hi bd))) rfl,
    fun σ W g h hb=>fun ρ o ho _ hv=>⟨_,I8 false ho ((A4 hv).1.trans (h 3 rfl)) (A4 hv).2 (decide_eq_false (by have:=pcmp_le.2 h1;omega)),rfl⟩,
    fun σ W g h hb=>dU (E9 W _ _ a b c d K (h 0 rfl) (h 1 rfl) (by omega) ba bb bc bd (hTab.kept g (by simp))),
    fun σ W g h hb=>toV (F7 W _ _ (A3 a b c) (A3 a b d) (8*K+5) (qq1 (h 5 rfl)) (qq2 (h 5 rfl)) (by omega) (ba.cross bb bc) (ba.cross bb bd)) (by rw [fN h2]),
    fun σ W g h hb=>dU (E9 W _ _ c d a b K (h 1 rfl) (h 0 rfl) (by omega) bc bd ba bb (hTab.kept g (by simp))),
    fun σ W g h hb=>toV (F7 W _ _ (A3 c d a) (A3 c d b) (8*K+5) (qq1 (h 7 rfl)) (qq2 (h 7 rfl)) (by omega) (bc.cross bd ba) (bc.cross bd bb)) (by rw [fN h3]),
    fun σ W g h hb=>toZ (C6 W _ _ (8*K+5) (qq1 (h 7 rfl)) (by omega) (bc.cross bd ba).1) rfl,
    fun σ W g h hb=>fun ρ o ho _ hv=>⟨_,V6 true ho ((A4 hv).1.trans (h 9 rfl)) (A4 hv).2 (decide_eq_true (rsg_zero.2 h4)),rfl⟩,
    fun σ W g h hb=>toZ (C6 W _ _ (8*K+5) (qq2 (h 7 rfl)) (by omega) (bc.cross bd bb).1) rfl,
    fun σ W g h hb=>fun ρ o ho _ hv=>⟨_,V6 false ho ((A4 hv).1.trans (h 11 rfl)) (A4 hv).2 (decide_eq_false (fun q=>h5 (rsg_zero.1 q))),rfl⟩,
    fun σ W g h hb=>dM W _ _ _ a b _ _ K (8*K+5) (h 0 rfl) (qq1 (h 7 rfl)) (qq2 (h 7 rfl)) (by omega) ba bb (bc.cross bd ba) (bc.cross bd bb) hne (hTab.kept g (by simp)),
    fun σ W g h hb=>cM g.size (J8 W _ _ _ _ (128*K+100) (h 13 rfl) (h 13 rfl) (by omega) (ba.cut bb bc bd) (ba.cut bb bc bd) (hTab.kept g (by simp))),
    trivial⟩ fun τ W g h=>⟨_,rfl,(h 14 rfl).1,g,(h 14 rfl).2⟩
 · skip
   unfold W4
   rw [if_pos h1,if_neg h2,if_neg h3,if_neg (fun q=>h4 q.1)]
   have hne:A3 c d a≠A3 c d b:=fun e=>h3 (by unfold M9;rw [<- e];grind)
   refine A6 B5 Tryz.func30 [sSg a b,sSg c d] [sPP (G5 (lo a b) (lo c d)) (G4 (hi a b) (hi c d)),sZ (I9 (G5 (lo a b) (lo c d)) (G4 (hi a b) (hi c d))),sV (.bool false),sQQ (A3 a b c) (A3 a b d),sV (.bool false),sQQ (A3 c d a) (A3 c d b),sV (.bool false),sZ (rsg (A3 c d a)),sV (.bool false),sPt (pat a b (A3 c d a / (A3 c d a-A3 c d b))),lL w.heap.size (btw (pat a b (A3 c d a / (A3 c d a-A3 c d b))) (pat a b (A3 c d a / (A3 c d a-A3 c d b))))] (.cons Ha (.cons Hb .nil)) (rs:=[cl 2 68 [ag 16 0,ag 16 1],cl 3 55 [ag 8 2,.v true [.an 2 8,.an 2 9,.an 2 10,.an 2 11,.an 2 12,.an 2 13,.an 2 14,.an 2 15]],co 4 (.binOp .gtr 3 (.tmp 18) (.const (.int .i64 0)) 3) 4 [on 3,.v false [.lit (.int .i64 0)]] [0,1,2,3] [],cl 5 70 [ag 16 0,ag 16 1],cl 6 69 [ag 4 5,.v true [.an 5 4,.an 5 5,.an 5 6,.an 5 7]],cl 7 70 [ag 16 1,ag 16 0],cl 8 69 [ag 4 7,.v true [.an 7 4,.an 7 5,.an 7 6,.an 7 7]],cl 9 71 [ag 4 7],co 10 (.binOp .eql 3 (.tmp 40) (.const (.int .i64 0)) 3) 4 [on 9,.v false [.lit (.int .i64 0)]] [0,1,2,3,4,5,6,7,8,9] [],cl 11 73 [ag 16 0,ag 4 7,.v true [.an 7 4,.an 7 5,.an 7 6,.an 7 7]],cl 12 72 [ag 8 11,ag 8 11]]) (out:=on 12) (nc:=13) (by kernel_rfl)
    ⟨fun σ W g h hb=>cN (J7 W _ _ a b c d K (h 0 rfl) (h 1 rfl) (by omega) ba bb bc bd),
    fun σ W g h hb=>toZ (E8 W _ _ (G5 (lo a b) (lo c d)) (G4 (hi a b) (hi c d)) K (pp1 (h 2 rfl)) (pp2 (h 2 rfl)) (by omega) ((ba.lo bb).max (bc.lo bd)) ((ba.hi bb).min (bc.hi bd))) rfl,
    fun σ W g h hb=>fun ρ o ho _ hv=>⟨_,I8 false ho ((A4 hv).1.trans (h 3 rfl)) (A4 hv).2 (decide_eq_false (by have:=pcmp_le.2 h1;omega)),rfl⟩,
    fun σ W g h hb=>dU (E9 W _ _ a b c d K (h 0 rfl) (h 1 rfl) (by omega) ba bb bc bd (hTab.kept g (by simp))),
    fun σ W g h hb=>toV (F7 W _ _ (A3 a b c) (A3 a b d) (8*K+5) (qq1 (h 5 rfl)) (qq2 (h 5 rfl)) (by omega) (ba.cross bb bc) (ba.cross bb bd)) (by rw [fN h2]),
    fun σ W g h hb=>dU (E9 W _ _ c d a b K (h 1 rfl) (h 0 rfl) (by omega) bc bd ba bb (hTab.kept g (by simp))),
    fun σ W g h hb=>toV (F7 W _ _ (A3 c d a) (A3 c d b) (8*K+5) (qq1 (h 7 rfl)) (qq2 (h 7 rfl)) (by omega) (bc.cross bd ba) (bc.cross bd bb)) (by rw [fN h3]),
    fun σ W g h hb=>toZ (C6 W _ _ (8*K+5) (qq1 (h 7 rfl)) (by omega) (bc.cross bd ba).1) rfl,
    fun σ W g h hb=>fun ρ o ho _ hv=>⟨_,V6 false ho ((A4 hv).1.trans (h 9 rfl)) (A4 hv).2 (decide_eq_false (fun q=>h4 (rsg_zero.1 q))),rfl⟩,
    fun σ W g h hb=>dM W _ _ _ a b _ _ K (8*K+5) (h 0 rfl) (qq1 (h 7 rfl)) (qq2 (h 7 rfl)) (by omega) ba bb (bc.cross bd ba) (bc.cross bd bb) hne (hTab.kept g (by simp)),
    fun σ W g h hb=>cM g.size (J8 W _ _ _ _ (128*K+100) (h 11 rfl) (h 11 rfl) (by omega) (ba.cut bb bc bd) (ba.cut bb bc bd) (hTab.kept g (by simp))),
    trivial⟩ fun τ W g h=>⟨_,rfl,(h 12 rfl).1,g,(h 12 rfl).2⟩
theorem rsg_lt {r:Rat} : rsg r<0 ↔ r<0:=by
 rw [<- oI];rcases bR r with e | e | e<;>omega
theorem PClip_any (w:World) (va vb:Value) (a b c d:Pq) (K:Nat) (Ha:SgV w va a b) (Hb:SgV w vb c d) (hK : 1<=K/\K<=50) (ba:Bp K a) (bb:Bp K b) (bc:Bp K c) (bd:Bp K d) (hTab:Tab w) :
 Calls Tryz.prog 31 #[va,vb] w (pL w (kC a b c d)):=by
 rcases (show (A3 c d a<0/\A3 c d b<0)\/(A3 c d a<0 /\ ¬ A3 c d b<0)\/(¬ A3 c d a<0/\A3 c d b<0)\/(¬ A3 c d a<0 /\ ¬ A3 c d b<0) by grind) with ⟨h1,h2⟩ | ⟨h1,h2⟩ | ⟨h1,h2⟩ | ⟨h1,h2⟩
 · skip
   unfold kC
   rw [if_pos ⟨h1,h2⟩]
   refine A6 B5 Tryz.func31 [sSg a b,sSg c d] [sQQ (A3 c d a) (A3 c d b),sZ (rsg (A3 c d a)),sV (.bool true),sZ (rsg (A3 c d b)),sV (.bool true)] (.cons Ha (.cons Hb .nil)) (rs:=[cl 2 70 [ag 16 1,ag 16 0],cl 3 71 [ag 4 2],co 4 (.binOp .lss 3 (.tmp 21) (.const (.int .i64 0)) 3) 4 [on 3,.v false [.lit (.int .i64 0)]] [0,1,2,3] [],cl 5 71 [.v true [.an 2 4,.an 2 5,.an 2 6,.an 2 7]],co 6 (.binOp .lss 3 (.tmp 25) (.const (.int .i64 0)) 3) 4 [on 5,.v false [.lit (.int .i64 0)]] [0,1,2,3,4,5] []]) (out := .v false [.lit (.slice none 0 0)]) (nc:=7) (by kernel_rfl)
    ⟨fun σ W g h hb=>dU (E9 W _ _ c d a b K (h 1 rfl) (h 0 rfl) (by omega) bc bd ba bb (hTab.kept g (by simp))),
    fun σ W g h hb=>toZ (C6 W _ _ (8*K+5) (qq1 (h 2 rfl)) (by omega) (bc.cross bd ba).1) rfl,
    fun σ W g h hb=>fun ρ o ho _ hv=>⟨_,I1 true ho ((A4 hv).1.trans (h 3 rfl)) (A4 hv).2 (decide_eq_true (rsg_lt.2 h1)),rfl⟩,
    fun σ W g h hb=>toZ (C6 W _ _ (8*K+5) (qq2 (h 2 rfl)) (by omega) (bc.cross bd bb).1) rfl,
    fun σ W g h hb=>fun ρ o ho _ hv=>⟨_,I1 true ho ((A4 hv).1.trans (h 5 rfl)) (A4 hv).2 (decide_eq_true (rsg_lt.2 h2)),rfl⟩,
    trivial⟩ fun τ W g h=>⟨_,rfl,gI W,g,oV⟩
 · skip
   unfold kC
   rw [if_neg (fun q=>h2 q.2),if_pos h1]
   have hne:A3 c d a≠A3 c d b:=fun e=>by grind
   refine A6 B5 Tryz.func31 [sSg a b,sSg c d] [sQQ (A3 c d a) (A3 c d b),sZ (rsg (A3 c d a)),sV (.bool true),sZ (rsg (A3 c d b)),sV (.bool false),sZ (rsg (A3 c d a)),sV (.bool true),sPt (pat a b (A3 c d a / (A3 c d a-A3 c d b))),lL w.heap.size (btw (pat a b (A3 c d a / (A3 c d a-A3 c d b))) b)] (.cons Ha (.cons Hb .nil)) (rs:=[cl 2 70 [ag 16 1,ag 16 0],cl 3 71 [ag 4 2],co 4 (.binOp .lss 3 (.tmp 21) (.const (.int .i64 0)) 3) 4 [on 3,.v false [.lit (.int .i64 0)]] [0,1,2,3] [],cl 5 71 [.v true [.an 2 4,.an 2 5,.an 2 6,.an 2 7]],co 6 (.binOp .lss 3 (.tmp 25) (.const (.int .i64 0)) 3) 4 [on 5,.v false [.lit (.int .i64 0)]] [0,1,2,3,4,5] [],cl 7 71 [ag 4 2],co 8 (.binOp .lss 3 (.tmp 30) (.const (.int .i64 0)) 3) 4 [on 7,.v false [.lit (.int .i64 0)]] [0,1,2,3,4,5,6,7] [],cl 9 73 [ag 16 0,ag 4 2,.v true [.an 2 4,.an 2 5,.an 2 6,.an 2 7]],cl 10 72 [ag 8 9,.v true [.an 0 8,.an 0 9,.an 0 10,.an 0 11,.an 0 12,.an 0 13,.an 0 14,.an 0 15]]]) (out:=on 10) (nc:=11) (by kernel_rfl)
    ⟨fun σ W g h hb=>dU (E9 W _ _ c d a b K (h 1 rfl) (h 0 rfl) (by omega) bc bd ba bb (hTab.kept g (by simp))),
    fun σ W g h hb=>toZ (C6 W _ _ (8*K+5) (qq1 (h 2 rfl)) (by omega) (bc.cross bd ba).1) rfl,
    fun σ W g h hb=>fun ρ o ho _ hv=>⟨_,I1 true ho ((A4 hv).1.trans (h 3 rfl)) (A4 hv).2 (decide_eq_true (rsg_lt.2 h1)),rfl⟩,
    fun σ W g h hb=>toZ (C6 W _ _ (8*K+5) (qq2 (h 2 rfl)) (by omega) (bc.cross bd bb).1) rfl,
    fun σ W g h hb=>fun ρ o ho _ hv=>⟨_,I1 false ho ((A4 hv).1.trans (h 5 rfl)) (A4 hv).2 (decide_eq_false (fun q=>h2 (rsg_lt.1 q))),rfl⟩,
    fun σ W g h hb=>toZ (C6 W _ _ (8*K+5) (qq1 (h 2 rfl)) (by omega) (bc.cross bd ba).1) rfl,
    fun σ W g h hb=>fun ρ o ho _ hv=>⟨_,I1 true ho ((A4 hv).1.trans (h 7 rfl)) (A4 hv).2 (decide_eq_true (rsg_lt.2 h1)),rfl⟩,
    fun σ W g h hb=>dM W _ _ _ a b _ _ K (8*K+5) (h 0 rfl) (qq1 (h 2 rfl)) (qq2 (h 2 rfl)) (by omega) ba bb (bc.cross bd ba) (bc.cross bd bb) hne (hTab.kept g (by simp)),
    fun σ W g h hb=>cM g.size (J8 W _ _ _ _ (128*K+100) (h 9 rfl) (sg2 (h 0 rfl)) (by omega) ((ba.cut bb bc bd)) (bb.mono (by omega)) (hTab.kept g (by simp))),
    trivial⟩ fun τ W g h=>⟨_,rfl,(h 10 rfl).1,g,(h 10 rfl).2⟩
 · skip
   unfold kC
   rw [if_neg (fun q=>h1 q.1),if_neg h1,if_pos h2]
   have hne:A3 c d a≠A3 c d b:=fun e=>by grind
   refine A6 B5 Tryz.func31 [sSg a b,sSg c d] [sQQ (A3 c d a) (A3 c d b),sZ (rsg (A3 c d a)),sV (.bool false),sZ (rsg (A3 c d a)),sV (.bool false),sZ (rsg (A3 c d b)),sV (.bool true),sPt (pat a b (A3 c d a / (A3 c d a-A3 c d b))),lL w.heap.size (btw a (pat a b (A3 c d a / (A3 c d a-A3 c d b))))] (.cons Ha (.cons Hb .nil)) (rs:=[cl 2 70 [ag 16 1,ag 16 0],cl 3 71 [ag 4 2],co 4 (.binOp .lss 3 (.tmp 21) (.const (.int .i64 0)) 3) 4 [on 3,.v false [.lit (.int .i64 0)]] [0,1,2,3] [],cl 5 71 [ag 4 2],co 6 (.binOp .lss 3 (.tmp 30) (.const (.int .i64 0)) 3) 4 [on 5,.v false [.lit (.int .i64 0)]] [0,1,2,3,4,5] [],cl 7 71 [.v true [.an 2 4,.an 2 5,.an 2 6,.an 2 7]],co 8 (.binOp .lss 3 (.tmp 38) (.const (.int .i64 0)) 3) 4 [on 7,.v false [.lit (.int .i64 0)]] [0,1,2,3,4,5,6,7] [],cl 9 73 [ag 16 0,ag 4 2,.v true [.an 2 4,.an 2 5,.an 2 6,.an 2 7]],cl 10 72 [ag 8 0,ag 8 9]]) (out:=on 10) (nc:=11) (by kernel_rfl)
    ⟨fun σ W g h hb=>dU (E9 W _ _ c d a b K (h 1 rfl) (h 0 rfl) (by omega) bc bd ba bb (hTab.kept g (by simp))),
    fun σ W g h hb=>toZ (C6 W _ _ (8*K+5) (qq1 (h 2 rfl)) (by omega) (bc.cross bd ba).1) rfl,
    fun σ W g h hb=>fun ρ o ho _ hv=>⟨_,I1 false ho ((A4 hv).1.trans (h 3 rfl)) (A4 hv).2 (decide_eq_false (fun q=>h1 (rsg_lt.1 q))),rfl⟩,
    fun σ W g h hb=>toZ (C6 W _ _ (8*K+5) (qq1 (h 2 rfl)) (by omega) (bc.cross bd ba).1) rfl,
    fun σ W g h hb=>fun ρ o ho _ hv=>⟨_,I1 false ho ((A4 hv).1.trans (h 5 rfl)) (A4 hv).2 (decide_eq_false (fun q=>h1 (rsg_lt.1 q))),rfl⟩,
    fun σ W g h hb=>toZ (C6 W _ _ (8*K+5) (qq2 (h 2 rfl)) (by omega) (bc.cross bd bb).1) rfl,
    fun σ W g h hb=>fun ρ o ho _ hv=>⟨_,I1 true ho ((A4 hv).1.trans (h 7 rfl)) (A4 hv).2 (decide_eq_true (rsg_lt.2 h2)),rfl⟩,
    fun σ W g h hb=>dM W _ _ _ a b _ _ K (8*K+5) (h 0 rfl) (qq1 (h 2 rfl)) (qq2 (h 2 rfl)) (by omega) ba bb (bc.cross bd ba) (bc.cross bd bb) hne (hTab.kept g (by simp)),
    fun σ W g h hb=>cM g.size (J8 W _ _ _ _ (128*K+100) (sg1 (h 0 rfl)) (h 9 rfl) (by omega) (ba.mono (by omega)) ((ba.cut bb bc bd)) (hTab.kept g (by simp))),
    trivial⟩ fun τ W g h=>⟨_,rfl,(h 10 rfl).1,g,(h 10 rfl).2⟩
 · skip
   unfold kC
   rw [if_neg (fun q=>h1 q.1),if_neg h1,if_neg h2]
   refine A6 B5 Tryz.func31 [sSg a b,sSg c d] [sQQ (A3 c d a) (A3 c d b),sZ (rsg (A3 c d a)),sV (.bool false),sZ (rsg (A3 c d a)),sV (.bool false),sZ (rsg (A3 c d b)),sV (.bool false),lL w.heap.size (btw a b)] (.cons Ha (.cons Hb .nil)) (rs:=[cl 2 70 [ag 16 1,ag 16 0],cl 3 71 [ag 4 2],co 4 (.binOp .lss 3 (.tmp 21) (.const (.int .i64 0)) 3) 4 [on 3,.v false [.lit (.int .i64 0)]] [0,1,2,3] [],cl 5 71 [ag 4 2],co 6 (.binOp .lss 3 (.tmp 30) (.const (.int .i64 0)) 3) 4 [on 5,.v false [.lit (.int .i64 0)]] [0,1,2,3,4,5] [],cl 7 71 [.v true [.an 2 4,.an 2 5,.an 2 6,.an 2 7]],co 8 (.binOp .lss 3 (.tmp 38) (.const (.int .i64 0)) 3) 4 [on 7,.v false [.lit (.int .i64 0)]] [0,1,2,3,4,5,6,7] [],cl 9 72 [ag 8 0,.v true [.an 0 8,.an 0 9,.an 0 10,.an 0 11,.an 0 12,.an 0 13,.an 0 14,.an 0 15]]]) (out:=on 9) (nc:=10) (by kernel_rfl)
    ⟨fun σ W g h hb=>dU (E9 W _ _ c d a b K (h 1 rfl) (h 0 rfl) (by omega) bc bd ba bb (hTab.kept g (by simp))),
    fun σ W g h hb=>toZ (C6 W _ _ (8*K+5) (qq1 (h 2 rfl)) (by omega) (bc.cross bd ba).1) rfl,
    fun σ W g h hb=>fun ρ o ho _ hv=>⟨_,I1 false ho ((A4 hv).1.trans (h 3 rfl)) (A4 hv).2 (decide_eq_false (fun q=>h1 (rsg_lt.1 q))),rfl⟩,
    fun σ W g h hb=>toZ (C6 W _ _ (8*K+5) (qq1 (h 2 rfl)) (by omega) (bc.cross bd ba).1) rfl,
    fun σ W g h hb=>fun ρ o ho _ hv=>⟨_,I1 false ho ((A4 hv).1.trans (h 5 rfl)) (A4 hv).2 (decide_eq_false (fun q=>h1 (rsg_lt.1 q))),rfl⟩,
    fun σ W g h hb=>toZ (C6 W _ _ (8*K+5) (qq2 (h 2 rfl)) (by omega) (bc.cross bd bb).1) rfl,
    fun σ W g h hb=>fun ρ o ho _ hv=>⟨_,I1 false ho ((A4 hv).1.trans (h 7 rfl)) (A4 hv).2 (decide_eq_false (fun q=>h2 (rsg_lt.1 q))),rfl⟩,
    fun σ W g h hb=>cM g.size (J8 W _ _ _ _ (128*K+100) (sg1 (h 0 rfl)) (sg2 (h 0 rfl)) (by omega) (ba.mono (by omega)) (bb.mono (by omega)) (hTab.kept g (by simp))),
    trivial⟩ fun τ W g h=>⟨_,rfl,(h 9 rfl).1,g,(h 9 rfl).2⟩
end Go.Proofs.YtninnifpgpjfhaaGreatDoor
namespace Go.Proofs.YtninnifpgpjfhaaGreatDoor
open Go.RowKit Mat
theorem set_rep {k d:Nat} {hs:List Nat} : (List.replicate (k+1) 0++hs).set k d=List.replicate k 0++d :: hs:=by
 rw [List.replicate_succ',List.append_assoc,List.set_append]
 simp
theorem val_drop (xs:List Nat) (k:Nat) (hk:k<xs.length):val D (xs.drop k)=xs.getD k 0+D*val D (xs.drop (k+1)):=by
 rw [List.drop_eq_getElem_cons hk,List.getD_eq_getElem?_getD,List.getElem?_eq_getElem hk];rfl
set_option maxHeartbeats 2000000 in
theorem rcut_at (w:World) (s:Option Addr) (n cap:Nat) (xs:List Nat) (hn:xs.length=n) (hx:RRdo w s xs) (hnc:n<=cap) (bn:n<=1099511627776) :
 Calls Tryz.prog 124 #[.slice s n cap] w (fun e w'=>∃ k,e = .returned (.agg #[.slice s k cap])/\k<=n/\Top (xs.take k)/\val D (xs.take k)=val D xs/\w.grownBy w' none):=by
 have Hn:=Lib.hid hn
 have hgw0:=World.grownBy_alloc w (.cells #[.slice none 0 0] 39) none
 have hbox0:=A8 w (.cells #[.slice none 0 0] 39) w.heap.size rfl
 obtain ⟨cb,fb⟩:=A9 hbox0
 have hx0:=hx.kept hgw0
 clear hn
 go_enter Tryz.func124,Tryz.ntmps124
 go_wp2_with fail
 generalize (w.alloc (.cells #[.slice none 0 0] 39))=w0 at *
 go_loopw [3] (fun i wr=>∃ (k:Nat),k<=n/\i = .int .i64 k/\w0=wr/\Hid (val D (xs.take k)=val D xs)) (fun i _=>(intOf i).toNat)
 case atStart=>exact ⟨n,Nat.le_refl _,rfl,rfl,by show _=_;rw [<- Hn.out,List.take_length]⟩
 case round=>
  obtain ⟨k,hk,rfl,rfl,hv⟩:=hrel
  have hF:Hid (Top (xs.take k) -> ∃ k',Ending.returned (.agg #[.slice s k cap])=Ending.returned (.agg #[.slice s k' cap])/\k'<=n/\Top (xs.take k')/\val D (xs.take k')=val D xs/\w.grownBy (w0.setCell ⟨w.heap.size,0,none⟩ (.slice s k cap)) none):=by
   intro ht
   exact ⟨k,rfl,hk,ht,hv.out,B8 hgw0 (B6 (A7 _ _) _ _) (Nat.le_refl _)⟩
  by_cases h0:k=0
  · subst h0
    have hF2:=Lib.hid (hF.out (by intro x hx;simp at hx))
    clear hF
    go_wp2_with fail
    exact bodyPost_ret (v := .agg #[.slice s 0 cap]) (by simp [results,Tryz.results124,go_sem,cb]) rfl hF2.out
  · obtain ⟨j,rfl⟩:∃ j,k=j+1:=⟨k-1,by omega⟩
    clear h0
    obtain ⟨b1,o1,cs1,rfl,hb1,hat1⟩:=hx0.get j (by rw [Hn.out];omega)
    obtain ⟨x,ex⟩:∃ x,xs[j]'(by rw [Hn.out];omega)=x:=⟨_,rfl⟩
    have c1:w0.cell? ⟨b1,o1+j,none⟩=some (.int .i64 (x:Int)):=by
     rw [hb1.cell,hat1 j (by rw [Hn.out];omega),ex];rfl
    have EX:=Lib.hid ex
    clear ex
    by_cases hz:x=0
    · subst hz
      clear hF
      go_wp2_with fail
      go_roundw
      case rel=>exact ⟨j,by omega,by go_num,by trivial,by show _=_;rw [<- hv.out,B9 D xs j (by rw [Hn.out];omega),EX.out];omega⟩
      case measure=>simp [intOf]
    · have t:((x:Int) == 0)=false:=beq_eq_false_iff_ne.2 (by omega)
      have hF2:=Lib.hid (hF.out (hS xs j (by rw [Hn.out];omega) (by rw [EX.out];exact hz)))
      clear hF
      go_wp2_with fail
      exact bodyPost_ret (v := .agg #[.slice (some ⟨b1,o1,none⟩) (j+1) cap]) (by simp [results,Tryz.results124,go_sem,cb]) rfl hF2.out
set_option maxHeartbeats 4000000 in
theorem bV (w:World) (va:Value) (a n:Nat) (ha:RefV w va a) (ba:a<D^1000000) (hn:n<=10000) :
 Calls Tryz.prog 125 #[va,.int .i64 (n:Int)] w (O1 w (a*n)):=by
 obtain ⟨sa,la,ca,xs,rfl,h2⟩:=ha
 have na:RefV w (.agg #[.slice sa la ca]) a:=⟨sa,la,ca,xs,rfl,h2⟩
 have hgw0:w.grownBy ((w.alloc (.cells #[.slice sa la ca] 39)).alloc (.cells #[.slice none 0 0] 39)) none:=A5 (World.grownBy_alloc _ _ _) _
 have hboxr:=A8 (w.alloc (.cells #[.slice sa la ca] 39)) (.cells #[.slice none 0 0] 39) (w.heap.size+1) (by simp)
 have hboxa:=(Below.heap_alloc _ (.cells #[.slice none 0 0] 39) w.heap.size (by simp)).trans (A8 w (.cells #[.slice sa la ca] 39) w.heap.size rfl)
 replace na:=na.kept hgw0
 have Hba:=Lib.hid ba
 have hnB:n<B:=Nat.lt_of_le_of_lt hn (by decide)
 have hw:IntKind.u64.wrap (n:Int)=(n:Int):=by rw [IntKind.wrap_u64];omega
 have hnD:n<D^1000000:=by
  obtain ⟨E,hE⟩:∃ E,E=1000000:=⟨_,rfl⟩
  rw [<- hE]
  have h1:D^2<=D^E:=Nat.pow_le_pow_right N6 (by omega)
  have h2:D^2=100000000:=by decide
  omega
 have HnD:=Lib.hid hnD
 clear h2 ba hnD
 go_enter Tryz.func125,Tryz.ntmps125
 go_wp2_with fail
 generalize ((w.alloc (.cells #[.slice sa la ca] 39)).alloc (.cells #[.slice none 0 0] 39))=w0 at *
 obtain ⟨c1,f1⟩:=A9 hboxa
 go_region_held3 (fun w'=>w'.cell? ⟨w.heap.size,0,none⟩=some (.slice sa la ca))
  (first | assumption | exact c1 | go_keep)
  (first
   | (go_at_call 67;(with_reducible refine (gH w0.drew n hnB).mono ?_);rintro e w1 ⟨v1,rfl,n1,g1⟩;have hG1:=D7 w0 g1 rfl rfl rfl rfl;have hS1:=hG1.cell c1 (by simp))
   | (go_at_call 102;(with_reducible refine (rMul_any w1 _ _ a n (na.kept hG1) n1 Hba.out HnD.out).mono ?_);rintro e w2 ⟨v2,rfl,⟨s2,k2,c2,zs2,rfl,n2⟩,g2⟩;have hG2:=A1 hG1 g2;have hS2:=hG2.cell c1 (by simp);have hr2:=A0 hG2 hboxr;obtain ⟨c3,f3⟩:=A9 hr2))
 have hF:=Lib.hid (rret (n:=a*n) (A1 hgw0 hG2) hr2 (by decide) (by omega) ⟨s2,k2,c2,zs2,rfl,n2⟩ (.slice s2 k2 c2))
 clear g2 hG2 hG1 n2
 go_wp2_with fail
 exact bodyPost_ret (v := .agg #[.slice s2 k2 c2]) (by simp [results,Tryz.results125,go_sem,c3]) rfl hF.out
theorem fU {P:Program} (w:World) (t ty e:TypeId) (i:TypeInfo) (ht:P.underlying t=some (.slice e)) (hi:P.info? e=some i) (a:Addr) (n cap c:Nat) (h:n<=cap) :
 (Builtin.append_ #[t,t] ty #[.slice (some a) n cap,.slice none 0 c]).run P w = .ok (.slice (some a) n cap) w:=by
 simp [Builtin.append_,run_underlying ht,sizeOf,typeInfo,hi,Builtin.lenOf,h,Builtin.firstCells,storeCells]
theorem own_one {W:World} {H base x:Nat} (hH:W.heap.size=H) (hb:base<=H):(W.alloc (.cells #[iv x] 3)).ownsRow base 3 1 (.slice (some ⟨H,0,none⟩) 1 1) 1 [iv x]:=
 ⟨rfl,Or.inr ⟨H,1, #[iv x],rfl,hb,A8 W _ H hH.symm,Nat.le_refl _,by unfold maxLen;omega,rfl,rfl⟩⟩
theorem fV {w:World} {ty:TypeId} {base G n0 c0:Nat} {olds:List Nat} (hown:w.ownsRow base 3 1 (.slice (some ⟨G,0,none⟩) n0 c0) n0 (olds.map iv)) (h0 : 0<n0) {s:Option Addr} {k c:Nat} {ys:List Nat} (hk:ys.length=k) (hr:RRdo w s ys) (hb:n0+k<=10000000) (hbase:base<=w.heap.size) :
 ∃ g cap w',(Builtin.append_ #[37,37] ty #[.slice (some ⟨G,0,none⟩) n0 c0,.slice s k c]).run Tryz.prog w = .ok (.slice (some ⟨g,0,none⟩) (n0+k) cap) w' /\
   w'.ownsRow base 3 1 (.slice (some ⟨g,0,none⟩) (n0+k) cap) (n0+k) ((olds++ys).map iv)/\w.grownBy w' (some G):=by
 obtain ⟨i1,hi,hz0,hz1,hz2⟩:=L0
 have key:∀ (ad:Addr) (news:List Value),news=ys.map iv->(∀ j u,news[j]?=some u->w.cell? (ad.add j)=some u) -> ∃ g cap w',(Builtin.append_ #[37,37] ty #[.slice (some ⟨G,0,none⟩) n0 c0,.slice (some ad) k c]).run Tryz.prog w = .ok (.slice (some ⟨g,0,none⟩) (n0+k) cap) w' /\
  w'.ownsRow base 3 1 (.slice (some ⟨g,0,none⟩) (n0+k) cap) (n0+k) ((olds++ys).map iv)/\w.grownBy w' (some G):=by
  intro ad news hne hn
  obtain ⟨v',w',hrun,h2,h3,_,h5⟩:=run_append_own_at (P:=Tryz.prog) w base 37 ty 3 i1 (.int .i64 0) 1 8 Tryz.underlying37 hi hz0 hz1 hz2 rfl (by omega) (.slice (some ⟨G,0,none⟩) n0 c0) n0 (olds.map iv) hown ad k c news (by rw [hne,List.length_map,hk];omega) hn (by rw [hne];intro u hu;obtain ⟨x, -,rfl⟩:=List.mem_map.1 hu;rfl) (by unfold maxLen;omega) (by omega) hbase
  obtain ⟨g,cap,rfl,_,hlt⟩:=h2.form (by omega)
  exact ⟨g,cap,w',hrun,by rw [List.map_append, <- hne];exact h2,h3⟩
 rcases hr with h | ⟨b,off,cs,e,h1,h2⟩
 · subst h
   simp only [List.length_nil] at hk
   subst hk
   cases s with
   | none=>
     refine ⟨G,c0,w,fU w _ ty _ i1 Tryz.underlying37 hi _ _ _ _ (O5 hown).2.1, ?_,A7 _ _⟩
     rw [List.append_nil];exact hown
   | some ad=>exact key ad [] rfl (fun j u h=>by simp at h)
 · subst e
   refine key ⟨b,off,none⟩ (ys.map iv) rfl (fun j u hj=>?_)
   have hadd:(⟨b,off,none⟩:Addr).add j=⟨b,off+j,none⟩:=by unfold Addr.add;split<;>simp_all
   rw [hadd,h1.cell]
   rw [List.getElem?_map] at hj
   obtain ⟨x,hx,rfl⟩:=Option.map_eq_some_iff.1 hj
   obtain ⟨hj2,rfl⟩:=List.getElem?_eq_some_iff.1 hx
   exact h2 j hj2
theorem dZ {w:World} {ops:Array Oper} {o:Oper} {a:Act} {K:Act->World->Prop} {Q:Exit->Act->World->Prop} {E:Prop} (hgd:o.guard=none) (s x:Operand)
 (ho:o.op = .call { callee := .builtin .append,args := #[s,x],argTypes := #[37,37] })
 (base G n0 c0:Nat) (olds:List Nat) (hs:a.eval s = .slice (some ⟨G,0,none⟩) n0 c0) (hown:w.ownsRow base 3 1 (.slice (some ⟨G,0,none⟩) n0 c0) n0 (olds.map iv)) (h0 : 0<n0)
 (sx:Option Addr) (k c:Nat) (ys:List Nat) (hx:a.eval x = .slice sx k c) (hk:ys.length=k) (hr:RRdo w sx ys) (hb:n0+k<=10000000) (hbase:base<=w.heap.size)
 (h:∀ g cap w',w'.ownsRow base 3 1 (.slice (some ⟨g,0,none⟩) (n0+k) cap) (n0+k) ((olds++ys).map iv)->w.grownBy w' (some G)->K (a.put o.dst (.slice (some ⟨g,0,none⟩) (n0+k) cap)) w') :
 if Region.wanted o (yielded ops a.tmps)=true then Oper.wp Tryz.prog o a w K Q else E:=by
 have hw:Region.wanted o (yielded ops a.tmps)=true:=by simp [Region.wanted,hgd]
 rw [if_pos hw]
 obtain ⟨g,cap,w',hrun,h2,h3⟩:=fV (ty:=o.type) hown h0 (c:=c) hk hr hb hbase
 unfold Oper.wp execOp
 simp only [ho,resolve,invoke,builtin,Sem.run_bind,Sem.run_pure,Result.andThen_ok,List.map_toArray,List.map_cons,List.map_nil,hs,hx,hrun]
 exact h g cap w' h2 h3
def Far (g:Nat) (w:World) (s:Option Addr) (xs:List Nat):Prop:=xs=[] \/ ∃ (b off:Nat) (cs:Array Value),s=some ⟨b,off,none⟩/\b≠g/\RBlk w b cs/\RAt cs off xs
theorem Far.rd {g:Nat} {w:World} {s:Option Addr} {xs:List Nat} (h:Far g w s xs):RRdo w s xs:=by
 rcases h with h | ⟨b,off,cs,e,_,h1,h2⟩
 · exact Or.inl h
 · exact Or.inr ⟨b,off,cs,e,h1,h2⟩
theorem Far.kept {g:Nat} {w w':World} {s:Option Addr} {xs:List Nat} (h:Far g w s xs) (hg:w.grownBy w' none):Far g w' s xs:=by
 rcases h with h | ⟨b,off,cs,e,hn,h1,h2⟩
 · exact Or.inl h
 · exact Or.inr ⟨b,off,cs,e,hn,h1.kept hg (by simp),h2⟩
theorem Far.setCell {g:Nat} {w:World} {s:Option Addr} {xs:List Nat} (h:Far g w s xs) (o:Nat) (v:Value):Far g (w.setCell ⟨g,o,none⟩ v) s xs:=by
 rcases h with h | ⟨b,off,cs,e,hn,h1,h2⟩
 · exact Or.inl h
 · refine Or.inr ⟨b,off,cs,e,hn,(Below.heap_setCell _ _ _ _ ?_).trans h1,h2⟩
   simpa using hn
theorem Ints.kept {w w':World} {g:Nat} {zs:List Nat} (h:Ints w g zs) (hg:w.grownBy w' none):Ints w' g zs:=RBlk.kept h hg (by simp)
theorem Ints.unset {w:World} {g b:Nat} {zs:List Nat} (h:Ints w g zs) (hb:b≠g) (v:Value):Ints (w.setCell ⟨b,0,none⟩ v) g zs:=by
 refine (Below.heap_setCell _ _ _ _ ?_).trans h
 simpa using Ne.symm hb
def Boxed (w:World) (b n:Nat):Prop:=∃ s k c,w.heap[b]?=some (.cells #[.slice s k c] 39 (0,0))/\RefV w (.agg #[.slice s k c]) n
theorem div_step {b R x vh V lo:Nat} (h:vh*b+R=V) (hlo:lo*b<=x+D*R):(lo+D*vh)*b+(x+D*R-b*lo)=x+D*V:=by
 have h1:(lo+D*vh)*b=lo*b+D*(vh*b):=by rw [Nat.add_mul,Nat.mul_assoc]
 have h2:b*lo=lo*b:=Nat.mul_comm _ _
 rw [h1, <- h,Nat.mul_add]
 omega
theorem Far.take {g:Nat} {w:World} {s:Option Addr} {xs:List Nat} (h:Far g w s xs) (k:Nat):Far g w s (xs.take k):=by
 rcases h with h | ⟨b,off,cs,e,hn,h1,h2⟩
 · exact Or.inl (by rw [h];simp)
 · exact Or.inr ⟨b,off,cs,e,hn,h1,h2.take k⟩
theorem Far.set_other {w:World} {s:Option Addr} {xs:List Nat} {g b7:Nat} {c:Array Value} {t:TypeId} (h:Far g w s xs) (hbox:w.heap[b7]?=some (.cells c t (0,0))) (ht:t≠3) (o:Nat) (u:Value):Far g (w.setCell ⟨b7,o,none⟩ u) s xs:=by
 rcases h with h | ⟨b,off,cs,e,hn,h1,h2⟩
 · exact Or.inl h
 · refine Or.inr ⟨b,off,cs,e,hn,(Below.heap_setCell _ _ _ _ ?_).trans h1,h2⟩
   intro e2
   simp only at e2
   unfold RBlk at h1
   subst e2
   rw [hbox] at h1
   simp at h1
   exact ht h1.2
theorem far_of {w:World} {g g2:Nat} {xs:List Nat} (h:RRdo w (some ⟨g2,0,none⟩) xs) (hne:g2≠g):Far g w (some ⟨g2,0,none⟩) xs:=by
 rcases h with h | ⟨b,off,cs,e,h1,h2⟩
 · exact Or.inl h
 · refine Or.inr ⟨b,off,cs,e, ?_,h1,h2⟩
   cases e;exact hne
def Cut6 (wA:World) (g b7 V:Nat) (zs:List Nat) (wx:World):Prop:=
 ∃ (s:Option Addr) (k c:Nat) (rs:List Nat),wx.heap[b7]?=some (.cells #[.slice s k c] 39 (0,0))/\rs.length=k/\k<=c/\Far g wx s rs/\Top rs/\Dig D rs/\val D rs=V/\Ints wx g zs/\wA.grownBy wx none
theorem cut6_mk {wA wr w5 w6:World} {g b7 x R kR k6 g2 cap2:Nat} {rs zs:List Nat} {u0:Value} (hI:Ints wr g zs) (hA:wA.grownBy wr none) (h7:wr.heap[b7]?=some (.cells #[u0] 39 (0,0))) (hb7:b7≠g) (hlo:wA.heap.size<=b7) (hrl:rs.length=kR) (drs:Dig D rs) (hx:x<D) (hrv:val D rs=R)
 (hown:w5.ownsRow (g+1) 3 1 (.slice (some ⟨g2,0,none⟩) (1+kR) cap2) (1+kR) (([x]++rs).map iv)) (h5:wr.grownBy w5 none) (h6:w5.grownBy w6 none) (hk6:k6<=1+kR) (ht:Top (([x]++rs).take k6)) (hv:val D (([x]++rs).take k6)=val D ([x]++rs)) :
 Cut6 wA g b7 (x+D*R) zs (w6.setCell ⟨b7,0,none⟩ (.slice (some ⟨g2,0,none⟩) k6 cap2)):=by
 have h56:=A1 h5 h6
 have h76:=A0 h56 h7
 obtain ⟨hrd,hcap,hlen⟩:=O5 hown
 have hg2:g2≠g:=by have:=(bW hown).1;omega
 refine ⟨_,k6,cap2,([x]++rs).take k6,R4 h76 _,by rw [List.length_take];omega,by omega,(((far_of hrd hg2).take k6).kept h6).set_other h76 (by decide) 0 _,ht,(Dig.append (Dig.cons hx (Dig.nil D)) drs).take k6, ?_,(hI.kept h56).unset hb7 _,B8 (A1 hA h56) (B6 (A7 _ _) _ _) hlo⟩
 rw [hv, <- hrv];rfl
def Cut14 (wA:World) (g b7 V:Nat) (zs:List Nat) (wx:World):Prop:=Boxed wx b7 V/\Ints wx g zs/\wA.grownBy wx none
theorem cut14_mk {wA wr w6:World} {g b7 V:Nat} {zs:List Nat} {u0:Value} {s:Option Addr} {k c:Nat} (hI:Ints wr g zs) (hA:wA.grownBy wr none) (h7:wr.heap[b7]?=some (.cells #[u0] 39 (0,0))) (hb7:b7≠g) (hlo:wA.heap.size<=b7) (h6:wr.grownBy w6 none) (hn:RefV w6 (.agg #[.slice s k c]) V) :
 Cut14 wA g b7 V zs (w6.setCell ⟨b7,0,none⟩ (.slice s k c)):=by
 have h76:=A0 h6 h7
 exact ⟨⟨s,k,c,R4 h76 _,hn.set_other h76 (by decide) 0 _⟩,(hI.kept h6).unset hb7 _,B8 (A1 hA h6) (B6 (A7 _ _) _ _) hlo⟩
theorem bin_step {lo hi mid:Nat} (h : 1<hi-lo) (hm:(lo+hi) / 2=mid):lo<mid/\mid<hi:=by omega
set_option maxHeartbeats 16000000 in
theorem iX (w:World) (va vb:Value) (a b:Nat) (ha:RefV w va a) (hb:RefV w vb b) (ba:a<D^400000) (bb:b<D^400000) (h0 : 0<b) :
 Calls Tryz.prog 86 #[va,vb] w (fun e w'=>∃ v u,e = .returned (.tuple #[v,u])/\RefV w' v (a / b)/\RefV w' u (a%b)/\w.grownBy w' none):=by
 obtain ⟨E,hE⟩:∃ E,E=400000:=⟨_,rfl⟩
 rw [<- hE] at ba bb
 obtain ⟨sa,n,cx,xs,rfl,hn,hnc,hx,tx,dx,rfl⟩:=ha
 obtain ⟨sb,m,cy,ys,rfl,hm,hmc,hy,ty,dy,hvy⟩:=hb
 have Hn:=Lib.hid hn
 have hn6:n<=400000:=by rw [<- hE];exact iO tx hn ba
 obtain ⟨i0,hi,hz0,hz1,hz2⟩:=L0
 have hgw0:w.grownBy ((((w.alloc (.cells #[.slice sa n cx] 39)).alloc (.cells #[.slice sb m cy] 39)).alloc (.cells #[.slice none 0 0] 39)).alloc (.cells #[.slice none 0 0] 39)) none:=A5 (A5 (A5 (World.grownBy_alloc _ _ _) _) _) _
 have hb4:=A8 (((w.alloc (.cells #[.slice sa n cx] 39)).alloc (.cells #[.slice sb m cy] 39)).alloc (.cells #[.slice none 0 0] 39)) (.cells #[.slice none 0 0] 39) (w.heap.size+1+1+1) (by simp)
 have hb3:=A0 (World.grownBy_alloc _ (.cells #[.slice none 0 0] 39) none) (A8 ((w.alloc (.cells #[.slice sa n cx] 39)).alloc (.cells #[.slice sb m cy] 39)) (.cells #[.slice none 0 0] 39) (w.heap.size+1+1) (by simp))
 have hb2:=A0 (A5 (World.grownBy_alloc _ (.cells #[.slice none 0 0] 39) none) (.cells #[.slice none 0 0] 39)) (A8 (w.alloc (.cells #[.slice sa n cx] 39)) (.cells #[.slice sb m cy] 39) (w.heap.size+1) (by simp))
 have hb1:=A0 (A5 (A5 (World.grownBy_alloc _ (.cells #[.slice sb m cy] 39) none) (.cells #[.slice none 0 0] 39)) (.cells #[.slice none 0 0] 39)) (A8 w (.cells #[.slice sa n cx] 39) w.heap.size rfl)
 have hs0:((((w.alloc (.cells #[.slice sa n cx] 39)).alloc (.cells #[.slice sb m cy] 39)).alloc (.cells #[.slice none 0 0] 39)).alloc (.cells #[.slice none 0 0] 39)).heap.size=w.heap.size+1+1+1+1:=by simp
 have hxA:=hx.kept hgw0
 have nbA:RefV ((((w.alloc (.cells #[.slice sa n cx] 39)).alloc (.cells #[.slice sb m cy] 39)).alloc (.cells #[.slice none 0 0] 39)).alloc (.cells #[.slice none 0 0] 39)) (.agg #[.slice sb m cy]) b:=⟨sb,m,cy,ys,rfl,hm,hmc,hy.kept hgw0,ty,dy,hvy⟩
 obtain ⟨A,hA⟩:∃ A,val D xs=A:=⟨_,rfl⟩
 rw [hA] at ba ⊢
 have HA:=Lib.hid hA
 have HBB:=Lib.hid bb
 have HE:=Lib.hid hE
 have H0:=Lib.hid h0
 clear hn hm hx hy ty dy hvy hmc ba bb hA hE h0
 go_enter Tryz.func86,Tryz.ntmps86
 go_wp2_with (at_make;refine wpList_make_full _ rfl _ _ 37 rfl _ 3 i0 (.int .i64 0) 1 Tryz.underlying37 hi hz0 hz1 .i64 .i64 _ _ n rfl rfl (by omega) (by omega) (by rw [hz2];omega) (by unfold maxLen;omega) (Nat.le_refl _) ?_;intro w1 hown hg1;have hI1:=mT hown;have hgx1:=A5 hg1 (.cells #[.slice none 0 0] 39);have h71:=A8 w1 (.cells #[.slice none 0 0] 39) w1.heap.size rfl;(obtain ⟨cb1,fb1⟩:=A9 (A0 hgx1 hb1));have hI2:=hI1.kept (World.grownBy_alloc w1 (.cells #[.slice none 0 0] 39) none);have hI3:=hI1;have hI3:=hI1;have hI3:=hI1;have hI3:=hI1;have hI3:=hI1;clear hown hI1)
 have h7g:w.heap.size+1+1+1+1<w1.heap.size:=by rw [<- hs0];exact RBlk.lt hI3
 generalize ((((w.alloc (.cells #[.slice sa n cx] 39)).alloc (.cells #[.slice sb m cy] 39)).alloc (.cells #[.slice none 0 0] 39)).alloc (.cells #[.slice none 0 0] 39))=wA at *
 obtain ⟨g,hgE⟩:∃ g,w.heap.size+1+1+1+1=g:=⟨_,rfl⟩
 rw [hgE] at hs0 h7g
 rw [hgE]
 rw [hs0] at hI2
 clear hI3 cb1 fb1 hg1
 generalize hw2:(w1.alloc (.cells #[.slice none 0 0] 39))=w2 at *
 clear hw2
 generalize w1.heap.size=b7 at *
 have hAsz:wA.heap.size<=b7:=by omega
 go_loopw [8] (fun i wr=>∃ (j:Nat) (hs:List Nat) (R:Nat),j<=n/\i = .int .i64 ((j:Int)-1)/\Hid (hs.length=n-j)/\Dig D hs/\Ints wr g (List.replicate j 0++hs)/\Boxed wr b7 R/\Hid (R<b)/\Hid (val D hs*b+R=val D (xs.drop j))/\wA.grownBy wr none) (fun i _=>(intOf i+1).toNat)
 case atStart=>exact ⟨n,[],0,Nat.le_refl _,rfl,by show _=_;simp,Dig.nil _,by rw [List.append_nil];exact hI2,⟨none,0,0,h71,RefV.zero _⟩,H0.out,by show _=_;rw [List.drop_of_length_le (by rw [Hn.out];exact Nat.le_refl _)];simp [val],hgx1⟩
 case round=>
  clear hI2 h71 hgx1
  obtain ⟨j,hs,R,hj,rfl,hhl,hhd,hI,hB,hRb,hv,hG⟩:=hrel
  obtain ⟨sR,kR,cR,h7,nR⟩:=hB
  obtain ⟨c7,f7⟩:=A9 h7
  obtain ⟨ca,fa⟩:=A9 (A0 hG hb1)
  obtain ⟨cb,fb⟩:=A9 (A0 hG hb2)
  by_cases hz:j=0
  · subst hz
    rw [List.replicate_zero,List.nil_append] at hI
    have hq:Hid (val D hs=A / b/\R=A%b):=by
     have h1:=hv.out
     rw [List.drop_zero,HA.out] at h1
     have h2:=hRb.out
     have e:A=R+b*val D hs:=by rw [Nat.mul_comm];omega
     refine ⟨?_, ?_⟩
     · rw [e,Nat.add_mul_div_left _ _ H0.out,Nat.div_eq_of_lt h2];omega
     · rw [e,Nat.add_mul_mod_self_left,Nat.mod_eq_of_lt h2]
    have hl0:Hid (hs.length=n):=by show _=_;rw [hhl.out];omega
    have hgwr:=A1 hgw0 hG
    have hr3:=A0 hG hb3
    have hr4:=A0 hG hb4
    have hrd:=hI.rd
    clear hv hhl hRb hI
    go_wp2_with fail
    go_region_held3 (fun w'=>w'.cell? ⟨b7,0,none⟩=some (.slice sR kR cR))
     (first | assumption | exact c7 | exact HS6 | exact HS7 | go_keep)
     (first
      | (go_at_call 124;(with_reducible refine (iR wr.drew (some ⟨g,0,none⟩) n n hs hl0.out (hrd.kept (B3 (A7 _ _))) (Nat.le_refl _) (by omega) hhd).mono ?_);rintro e w6 ⟨v6,rfl,⟨s6,k6,c6,zs6,rfl,n6⟩,g6⟩;have hG6:=D7 wr g6 rfl rfl rfl rfl;have hS6:=hG6.cell c7 (by simp);have hr36:=A0 hG6 hr3;have hr46:=A0 hG6 hr4;(obtain ⟨c3,f3⟩:=A9 hr36);(obtain ⟨c4,f4⟩:=A9 hr46);have HS6:(w6.setCell ⟨w.heap.size+1+1,0,none⟩ (.slice s6 k6 c6)).cell? ⟨b7,0,none⟩=some (.slice sR kR cR):=(A9 (G0 (A0 hG6 h7) (by omega) _)).1;have HS7:((w6.setCell ⟨w.heap.size+1+1,0,none⟩ (.slice s6 k6 c6)).setCell ⟨w.heap.size+1+1+1,0,none⟩ (.slice sR kR cR)).cell? ⟨b7,0,none⟩=some (.slice sR kR cR):=(A9 (G0 (G0 (A0 hG6 h7) (by omega) _) (by omega) _)).1))
    have q1:=R4 hr36 (.slice s6 k6 c6)
    have q2:=G0 (g:=w.heap.size+1+1) hr46 (by omega) (.slice s6 k6 c6)
    have nA:RefV w6 (.agg #[.slice s6 k6 c6]) (A / b):=by rw [<- hq.out.1];exact ⟨s6,k6,c6,zs6,rfl,n6⟩
    have nB:RefV w6 (.agg #[.slice sR kR cR]) (A%b):=by rw [<- hq.out.2];exact nR.kept hG6
    obtain ⟨W9,hW9⟩:∃ W,W=(w6.setCell ⟨w.heap.size+1+1,0,none⟩ (.slice s6 k6 c6)).setCell ⟨w.heap.size+1+1+1,0,none⟩ (.slice sR kR cR):=⟨_,rfl⟩
    have q1':=G0 (g:=w.heap.size+1+1+1) q1 (by omega) (.slice sR kR cR)
    have q2':=R4 q2 (.slice sR kR cR)
    have nA':=(nA.set_other hr36 (by decide) 0 (.slice s6 k6 c6)).set_other q2 (by decide) 0 (.slice sR kR cR)
    have nB':=(nB.set_other hr36 (by decide) 0 (.slice s6 k6 c6)).set_other q2 (by decide) 0 (.slice sR kR cR)
    have hgW:=B8 (B8 (A1 hgwr hG6) (B6 (A7 w6 (some (w.heap.size+1+1))) 0 (.slice s6 k6 c6)) (by omega)) (B6 (A7 _ (some (w.heap.size+1+1+1))) 0 (.slice sR kR cR)) (by omega)
    rw [<- hW9] at q1' q2' nA' nB' hgW
    have HF:Hid (∃ v u,Ending.returned (.tuple #[.agg #[.slice s6 k6 c6],.agg #[.slice sR kR cR]])=Ending.returned (.tuple #[v,u])/\RefV W9 v (A / b)/\RefV W9 u (A%b)/\w.grownBy W9 none):=⟨_,_,rfl,nA',nB',hgW⟩
    obtain ⟨cq1,gq1⟩:=A9 q1'
    obtain ⟨cq2,gq2⟩:=A9 q2'
    rw [<- hW9]
    clear hW9 q1 q2 nA nB nA' nB' hgW n6 hr36 hr46 c3 f3 c4 f4
    go_wp2_with fail
    exact bodyPost_ret (v := .tuple #[.agg #[.slice s6 k6 c6],.agg #[.slice sR kR cR]]) (by simp [results,Tryz.results86,go_sem,cq1,cq2]) rfl HF.out
  · obtain ⟨k,rfl⟩:∃ k,j=k+1:=⟨j-1,by omega⟩
    clear hz
    obtain ⟨x,ex⟩:∃ x,xs.getD k 0=x:=⟨_,rfl⟩
    have hx4:x<10000:=ex ▸ O2 dx k
    obtain ⟨b1,o1,rfl,c1⟩:=bG (hxA.kept hG) Hn.out k (by omega)
    rw [ex] at c1
    have EX:=Lib.hid ex
    have ek:((k+1:Nat):Int)-1=(k:Int):=by omega
    rw [ek]
    obtain ⟨V,hV⟩:∃ V,x+D*R=V:=⟨_,rfl⟩
    have hkn:k<n:=by omega
    have hkI:(k:Int)<(n:Int):=by omega
    clear ex ek
    go_wp2_with fail
    go_cut [] from 21 to 59 (fun wx=>Cut6 wA g b7 V (List.replicate (k+1) 0++hs) wx)
    case first=>
     obtain ⟨sR',kR',cR',rs,eR,hrl,hrc,hrr,trs,drs,hrv⟩:=nR
     cases eR
     have hrl6:kR<=500000:=by
      obtain ⟨F,hF⟩:∃ F,F=500000:=⟨_,rfl⟩
      rw [<- hF]
      refine iO trs hrl ?_
      rw [hrv]
      have h1:=HBB.out
      have h2:=hRb.out
      have h3:D^E<=D^F:=Nat.pow_le_pow_right N6 (by have:=HE.out;omega)
      exact Nat.lt_of_lt_of_le (Nat.lt_trans h2 h1) h3
     have hgr:g<wr.heap.size:=RBlk.lt hI
     have HO:Hid ((wr.drew.alloc (.cells #[.int .i64 (x:Int)] 3)).ownsRow (g+1) 3 1 (.slice (some ⟨wr.heap.size,0,none⟩) 1 1) 1 ([x].map iv)):=own_one rfl (by omega)
     have HR:Hid (RRdo (wr.drew.alloc (.cells #[.int .i64 (x:Int)] 3)) sR rs):=hrr.kept (A5 (B3 (A7 _ _)) _)
     have HB:Hid (g+1<=(wr.drew.alloc (.cells #[.int .i64 (x:Int)] 3)).heap.size):=by show _<=_;simp;omega
     have HL:=Lib.hid hrl
     have HM:Hid (∀ (w5 w6:World) (g2 cap2 k6:Nat),w5.ownsRow (g+1) 3 1 (.slice (some ⟨g2,0,none⟩) (1+kR) cap2) (1+kR) (([x]++rs).map iv)->wr.grownBy w5 none->w5.grownBy w6 none->k6<=1+kR->Top (([x]++rs).take k6)->val D (([x]++rs).take k6)=val D ([x]++rs)->Cut6 wA g b7 V (List.replicate (k+1) 0++hs) (w6.setCell ⟨b7,0,none⟩ (.slice (some ⟨g2,0,none⟩) k6 cap2))):=
      fun w5 w6 g2 cap2 k6 q1 q2 q3 q4 q5 q6=>by rw [<- hV];exact cut6_mk hI hG h7 (by omega) hAsz hrl drs (show x<D from hx4) hrv q1 q2 q3 q4 q5 q6
     have H7:=Lib.hid h7
     obtain ⟨c7x,f7x⟩:=A9 (A0 (World.grownBy_alloc wr (.cells #[.int .i64 (x:Int)] 3) none) h7)
     clear hrl hrr hI hG hV hhl hRb hv trs drs hrv hhd h7
     go_region_law (first
      | (refine dZ rfl (.tmp 30) (.tmp 32) rfl (g+1) wr.heap.size 1 1 [x] rfl HO.out (by omega) sR kR cR rs rfl HL.out HR.out (by omega) HB.out ?_;intro g2 cap2 w5 hown5 hgrow5;have hG5:wr.grownBy w5 none:=B8 (A5 (B3 (A7 wr none)) _) hgrow5 (Nat.le_refl _))
      | (go_simp;go_at_call 124;(with_reducible refine (rcut_at w5 (some ⟨g2,0,none⟩) (1+kR) cap2 ([x]++rs) (O5 hown5).2.2 (O5 hown5).1 (O5 hown5).2.1 (by omega)).mono ?_);rintro e w6 ⟨k6,rfl,hk6,t6,v6,g6⟩;(obtain ⟨c76,f76⟩:=A9 (A0 (A1 hG5 g6) H7.out))))
     all_goals (
      go_wp2_with fail
      go_meet
      exact HM.out w5 w6 g2 cap2 k6 hown5 hG5 g6 hk6 t6 v6)
    case rest=>
     obtain ⟨s6,k6,c6,rs,h76,hrl,hrc,hfar,trs,drs,hrv,hI6,hG6⟩:=hcut
     have nb6:=nbA.kept hG6
     have n6:RefV wc (.agg #[.slice s6 k6 c6]) V:=⟨s6,k6,c6,rs,rfl,hrl,hrc,hfar.rd,trs,drs,hrv⟩
     have hVb:Hid (V<D*b):=by
      show _<_
      have h1:=hRb.out
      have h2:D*(R+1)<=D*b:=Nat.mul_le_mul_left _ h1
      rw [<- hV];rw [Nat.mul_add] at h2;unfold D at *;omega
     have hbD:Hid (b<D^1000000):=by
      show _<_
      obtain ⟨F,hF⟩:∃ F,F=1000000:=⟨_,rfl⟩
      rw [<- hF]
      exact Nat.lt_of_lt_of_le HBB.out (Nat.pow_le_pow_right N6 (by have:=HE.out;omega))
     have hbD2:Hid (∀ q,q<=D->b*q<D^1000000):=by
      intro q hq
      obtain ⟨F,hF⟩:∃ F,F=1000000:=⟨_,rfl⟩
      rw [<- hF]
      have h1:b*q<=b*D:=Nat.mul_le_mul_left _ hq
      have h2:D^(E+1)<=D^F:=Nat.pow_le_pow_right N6 (by have:=HE.out;omega)
      rw [Nat.pow_succ] at h2
      have h3:b*D<D^E*D:=Nat.mul_lt_mul_of_pos_right HBB.out N6
      omega
     have hVD:Hid (V<D^1000000):=by
      show _<_
      have:=hbD2.out D (Nat.le_refl _)
      rw [Nat.mul_comm] at this
      exact Nat.lt_trans hVb.out this
     clear c7 f7 ca fa cb fb c1 nR h7 hI
     go_wp2_with fail
     go_loopw [9,10] (fun l h wi=>∃ (lo hi:Nat),l = .int .i64 lo/\h = .int .i64 hi/\lo<hi/\hi<=10000/\Hid (b*lo<=V)/\Hid (V<b*hi)/\wc.grownBy wi none) (fun l h _=>((intOf h)-(intOf l)).toNat)
     case atStart=>exact ⟨0,10000,rfl,rfl,by omega,by omega,by show _<=_;omega,by show _<_;rw [Nat.mul_comm];exact hVb.out,A7 _ _⟩
     case round=>
      obtain ⟨lo,hi,rfl,rfl,hlt,hh,hlo,hhi,hgi⟩:=hrel
      have h77:=A0 hgi h76
      have hG7:=A1 hG6 hgi
      obtain ⟨c7,f7⟩:=A9 h77
      obtain ⟨cb,fb⟩:=A9 (A0 hG7 hb2)
      have nb7:=nb6.kept hgi
      have n7:=n6.kept hgi
      by_cases h1 : 1<hi-lo
      · obtain ⟨mid,hm⟩:∃ mid,(lo+hi) / 2=mid:=⟨_,rfl⟩
        have em:((lo:Int)+(hi:Int)) / 2=(mid:Int):=by omega
        have f1:decide ((1:Int)<(hi:Int)-(lo:Int))=true:=decide_eq_true (by omega)
        obtain ⟨hml,hmh⟩:=bin_step h1 hm
        obtain ⟨c,hc⟩:∃ c,D9 (b*mid) V=c:=⟨_,rfl⟩
        have HC:=Lib.hid hc
        have key:(decide (c<=0)=true/\b*mid<=V)\/(decide (c<=0)=false/\V<b*mid):=by
         rcases Nat.lt_trichotomy (b*mid) V with q | q | q
         · left;rw [<- hc,L3 q];exact ⟨by decide,by omega⟩
         · left;rw [<- hc,Q5 q];exact ⟨by decide,by omega⟩
         · right;rw [<- hc,L4 q];exact ⟨by decide,q⟩
        have hmD:Hid (b*mid<D^1000000):=hbD2.out mid (by unfold D;omega)
        clear hc hm
        rcases key with ⟨fc,hkey⟩ | ⟨fc,hkey⟩
        · have HK:=Lib.hid hkey
          clear hkey
          go_wp2_with fail
          go_region_held3 (fun w'=>w'.cell? ⟨w.heap.size+1,0,none⟩=some (.slice sb m cy)/\w'.cell? ⟨b7,0,none⟩=some (.slice s6 k6 c6))
           (first | assumption | exact ⟨cb,c7⟩ | go_keep)
           (first
            | (go_at_call 125;(with_reducible refine (bV wr.drew _ b mid (nb7.kept (B3 (A7 _ _))) hbD.out (by omega)).mono ?_);rintro e w8 ⟨v8,rfl,n8,g8⟩;have hG8:=D7 wr g8 rfl rfl rfl rfl;have hS8:=And.intro (hG8.cell cb (by simp)) (hG8.cell c7 (by simp)))
            | (go_at_call 88;(with_reducible refine (X5 w8 _ _ (b*mid) V n8 (n7.kept hG8) hmD.out hVD.out).mono ?_);rintro e w9 ⟨rfl,g9⟩;rw [HC.out];have hG9:=A1 hG8 g9;have hS9:=And.intro (hG9.cell cb (by simp)) (hG9.cell c7 (by simp))))
          go_wp2_with fail
          go_roundw
          case rel=>exact ⟨mid,hi,rfl,rfl,hmh,hh,HK,hhi,A1 hgi hG9⟩
          case measure=>simp [intOf];omega
        · have HK:=Lib.hid hkey
          clear hkey
          go_wp2_with fail
          go_region_held3 (fun w'=>w'.cell? ⟨w.heap.size+1,0,none⟩=some (.slice sb m cy)/\w'.cell? ⟨b7,0,none⟩=some (.slice s6 k6 c6))
           (first | assumption | exact ⟨cb,c7⟩ | go_keep)
           (first
            | (go_at_call 125;(with_reducible refine (bV wr.drew _ b mid (nb7.kept (B3 (A7 _ _))) hbD.out (by omega)).mono ?_);rintro e w8 ⟨v8,rfl,n8,g8⟩;have hG8:=D7 wr g8 rfl rfl rfl rfl;have hS8:=And.intro (hG8.cell cb (by simp)) (hG8.cell c7 (by simp)))
            | (go_at_call 88;(with_reducible refine (X5 w8 _ _ (b*mid) V n8 (n7.kept hG8) hmD.out hVD.out).mono ?_);rintro e w9 ⟨rfl,g9⟩;rw [HC.out];have hG9:=A1 hG8 g9;have hS9:=And.intro (hG9.cell cb (by simp)) (hG9.cell c7 (by simp))))
          go_wp2_with fail
          go_roundw
          case rel=>exact ⟨lo,mid,rfl,rfl,hml,by omega,hlo,HK,A1 hgi hG9⟩
          case measure=>simp [intOf];omega
      · have hhe:hi=lo+1:=by omega
        have f1:decide ((1:Int)<(hi:Int)-(lo:Int))=false:=decide_eq_false (by omega)
        have hhi2:Hid (V<b*(lo+1)):=by show _<_;rw [<- hhe];exact hhi.out
        have hlo9:lo<=10000:=by omega
        have hloD:lo<10000:=by omega
        clear hhe h1
        have hIr:=hI6.kept hgi
        have c8:=hIr.cell (n:=n) (by rw [List.length_append,List.length_replicate,hhl.out];omega) k (by omega)
        have f8:=hIr.frozen k
        have hI8:=hIr.set k lo
        rw [set_rep] at hI8
        have hgA:wA.heap.size<=g:=by omega
        have hG8:=B8 hG7 (B6 (A7 wr (some g)) k (.int .i64 (lo:Int))) hgA
        have h78:(wr.setCell ⟨g,k,none⟩ (.int .i64 (lo:Int))).heap[b7]?=some (.cells #[.slice s6 k6 c6] 39 (0,0)):=(Below.heap_setCell _ _ _ _ (by simp;omega)).trans h77
        have n8:RefV (wr.setCell ⟨g,k,none⟩ (.int .i64 (lo:Int))) (.agg #[.slice s6 k6 c6]) V:=⟨s6,k6,c6,rs,rfl,hrl,hrc,((hfar.kept hgi).setCell k _).rd,trs,drs,hrv⟩
        have hvn:Hid (val D (lo :: hs)*b+(V-b*lo)=val D (xs.drop k)):=by
         show _=_
         rw [val_drop xs k (by rw [Hn.out];omega),EX.out, <- hV]
         exact div_step hv.out (by rw [Nat.mul_comm,hV];exact hlo.out)
        have hRn:Hid (V-b*lo<b):=by
         show _<_
         have:=hhi2.out
         rw [Nat.mul_add] at this
         have:=hlo.out
         omega
        have hln:Hid ((lo :: hs).length=n-k):=by show _=_;rw [List.length_cons,hhl.out];omega
        have hhd2:Dig D (lo :: hs):=Dig.cons (show lo<D by unfold D;omega) hhd
        clear hIr nb7 n7 c7 f7 cb fb hV hv hRb hhl hfar hrl hrc trs drs hrv n6 nb6 hI6 h76 h77
        go_wp2_with fail
        generalize (wr.setCell ⟨g,k,none⟩ (.int .i64 (lo:Int)))=W8 at *
        obtain ⟨c78,f78⟩:=A9 h78
        obtain ⟨cb8,fb8⟩:=A9 (A0 hG8 hb2)
        have nb8:=nbA.kept hG8
        have HM2:Hid (∀ (w6:World) (s:Option Addr) (k' c':Nat),W8.grownBy w6 none->RefV w6 (.agg #[.slice s k' c']) (V-b*lo)->Cut14 wA g b7 (V-b*lo) (List.replicate k 0++lo :: hs) (w6.setCell ⟨b7,0,none⟩ (.slice s k' c'))):=fun w6 s k' c' q1 q2=>cut14_mk hI8 hG8 h78 (by omega) hAsz q1 q2
        have H78:=Lib.hid h78
        clear hI8 hG8 h78
        go_region_with (first
         | (go_at_call 125;(with_reducible refine (bV W8.drew _ b lo (nb8.kept (B3 (A7 _ _))) hbD.out hlo9).mono ?_);rintro e w9 ⟨v9,rfl,n9,g9⟩;have hG9:=D7 W8 g9 rfl rfl rfl rfl;(obtain ⟨c79,f79⟩:=A9 (A0 hG9 H78.out)))
         | (go_at_call 101;(with_reducible refine (eC w9 _ _ V (b*lo) (n8.kept hG9) n9 hlo.out hVD.out).mono ?_);rintro e w10 ⟨v10,rfl,⟨s10,k10,c10,z10,rfl,n10⟩,g10⟩;have hG10:=A1 hG9 g10;(obtain ⟨c710,f710⟩:=A9 (A0 hG10 H78.out))))
        all_goals (
         obtain ⟨hB9,hI9,hG9'⟩:=HM2.out w10 s10 k10 c10 hG10 ⟨s10,k10,c10,z10,rfl,n10⟩
         clear c78 f78 cb8 fb8 nb8 n8 c8 f8 n9 n10 g9 g10 hG9 hG10 c79 f79 c710 f710
         go_wp2_with fail
         go_roundw
         case rel=>exact ⟨k,lo :: hs,V-b*lo,by omega,by go_num,hln,hhd2,hI9,hB9,hRn,hvn,hG9'⟩
         case measure=>simp [intOf])
theorem Boxed.cell {w:World} {b n:Nat} (h:Boxed w b n):∃ s k c,w.heap[b]?=some (.cells #[.slice s k c] 39 (0,0))/\RefV w (.agg #[.slice s k c]) n:=h
theorem Boxed.kept {w w':World} {b n:Nat} (h:Boxed w b n) (hg:w.grownBy w' none):Boxed w' b n:=by
 obtain ⟨s,k,c,h1,h2⟩:=h
 exact ⟨s,k,c,A0 hg h1,h2.kept hg⟩
theorem Boxed.unset {w:World} {b g n:Nat} {c:Array Value} {t:TypeId} (h:Boxed w b n) (hb:b≠g) (hbox:w.heap[g]?=some (.cells c t (0,0))) (ht:t≠3) (v:Value):Boxed (w.setCell ⟨g,0,none⟩ v) b n:=by
 obtain ⟨s,k,c,h1,h2⟩:=h
 exact ⟨s,k,c,G0 h1 hb v,h2.set_other hbox ht 0 v⟩
theorem Boxed.set {w:World} {b n:Nat} {u:Value} {s:Option Addr} {k c:Nat} (h:w.heap[b]?=some (.cells #[u] 39 (0,0))) (hv:RefV w (.agg #[.slice s k c]) n):Boxed (w.setCell ⟨b,0,none⟩ (.slice s k c)) b n:=
 ⟨s,k,c,R4 h _,hv.set_other h (by decide) 0 _⟩
set_option maxHeartbeats 8000000 in
theorem rGcd_any (w:World) (va vb:Value) (a b:Nat) (ha:RefV w va a) (hb:RefV w vb b) (ba:a<D^400000) (bb:b<D^400000) :
 Calls Tryz.prog 85 #[va,vb] w (O1 w (Nat.gcd a b)):=by
 obtain ⟨E,hE⟩:∃ E,E=400000:=⟨_,rfl⟩
 rw [<- hE] at ba bb
 obtain ⟨sa,n,cx,xs,rfl,ha'⟩:=ha
 obtain ⟨sb,m,cy,ys,rfl,hb'⟩:=hb
 have na:RefV w (.agg #[.slice sa n cx]) a:=⟨sa,n,cx,xs,rfl,ha'⟩
 have nb:RefV w (.agg #[.slice sb m cy]) b:=⟨sb,m,cy,ys,rfl,hb'⟩
 have hgw0:w.grownBy (((w.alloc (.cells #[.slice sa n cx] 39)).alloc (.cells #[.slice sb m cy] 39)).alloc (.cells #[.slice none 0 0] 39)) none:=A5 (A5 (World.grownBy_alloc _ _ _) _) _
 have hb3:=A8 ((w.alloc (.cells #[.slice sa n cx] 39)).alloc (.cells #[.slice sb m cy] 39)) (.cells #[.slice none 0 0] 39) (w.heap.size+1+1) (by simp)
 have hb2:=A0 (World.grownBy_alloc _ (.cells #[.slice none 0 0] 39) none) (A8 (w.alloc (.cells #[.slice sa n cx] 39)) (.cells #[.slice sb m cy] 39) (w.heap.size+1) (by simp))
 have hb1:=A0 (A5 (World.grownBy_alloc _ (.cells #[.slice sb m cy] 39) none) (.cells #[.slice none 0 0] 39)) (A8 w (.cells #[.slice sa n cx] 39) w.heap.size rfl)
 have B1:Boxed _ w.heap.size a:=⟨_,_,_,hb1,na.kept hgw0⟩
 have B2:Boxed _ (w.heap.size+1) b:=⟨_,_,_,hb2,nb.kept hgw0⟩
 have HBA:=Lib.hid ba
 have HBB:=Lib.hid bb
 have HE:=Lib.hid hE
 clear ha' hb' na nb hb1 hb2 ba bb hE
 go_enter Tryz.func85,Tryz.ntmps85
 go_wp2_with fail
 generalize (((w.alloc (.cells #[.slice sa n cx] 39)).alloc (.cells #[.slice sb m cy] 39)).alloc (.cells #[.slice none 0 0] 39))=w0 at *
 go_loopg [5,6] b (fun gh u5 u6 wr=>∃ (x y:Nat),Hid (y<=gh)/\Boxed wr w.heap.size x/\Boxed wr (w.heap.size+1) y/\Hid (Nat.gcd x y=Nat.gcd a b)/\Hid (x<D^E/\y<D^E)/\wr.heap[w.heap.size+1+1]?=some (.cells #[.slice none 0 0] 39 (0,0))/\w.grownBy wr none)
 case atStart=>exact ⟨a,b,Nat.le_refl _,B1,B2,rfl,⟨HBA.out,HBB.out⟩,hb3,hgw0⟩
 case round=>
  clear B1 B2 hb3 hgw0
  obtain ⟨x,y,hgh,hX,hY,hgc,hbd,hr,hG⟩:=hrel
  obtain ⟨sX,kX,cX,hbX,nX⟩:=hX
  obtain ⟨sY,kY,cY,hbY,nY⟩:=hY
  obtain ⟨cX1,fX1⟩:=A9 hbX
  obtain ⟨cY1,fY1⟩:=A9 hbY
  obtain ⟨cr,fr⟩:=A9 hr
  obtain ⟨sY',kY',cY',rs,eY,hyl,hyc,hyr,tys,dys,hyv⟩:=nY
  cases eY
  rcases Nat.eq_zero_or_pos kY with h0 | h0
  · subst h0
    have hy0:y=0:=by rw [List.length_eq_zero_iff.1 hyl] at hyv;simpa [val] using hyv.symm
    have hF:Hid (O1 w (Nat.gcd a b) (.returned (.agg #[.slice sX kX cX])) (wr.setCell ⟨w.heap.size+1+1,0,none⟩ (.slice sX kX cX))):=by
     rw [<- hgc.out,hy0,Nat.gcd_zero_right]
     exact rret hG hr (by decide) (by omega) nX _
    clear nX hyl hyv hgh hgc hbd
    go_wp2_with fail
    exact bodyPost_ret (v := .agg #[.slice sX kX cX]) (by simp [results,Tryz.results85,go_sem,cr]) rfl hF.out
  · have f0:decide ((0:Int)<(kY:Int))=true:=decide_eq_true (by omega)
    have hy0 : 0<y:=by
     rw [<- hyv]
     refine nZ D N6 rs ?_ tys
     intro e
     rw [e] at hyl;simp at hyl;omega
    have nY:RefV wr (.agg #[.slice sY kY cY]) y:=⟨sY,kY,cY,rs,rfl,hyl,hyc,hyr,tys,dys,hyv⟩
    have hxE:x<D^400000:=by rw [<- HE.out];exact hbd.out.1
    have hyE:y<D^400000:=by rw [<- HE.out];exact hbd.out.2
    have HX:=Lib.hid hxE
    have HY:=Lib.hid hyE
    have H0:=Lib.hid hy0
    clear hxE hyE hy0 hyl hyv hyr tys dys hyc
    go_wp2_with fail
    refine (iX wr _ _ x y nX nY HX.out HY.out H0.out).mono ?_
    rintro e w5 ⟨v,u,rfl,⟨s5,k5,c5,z5,rfl,n5⟩,⟨s6,k6,c6,z6,rfl,n6⟩,g5⟩
    have hG6:wr.grownBy ((w5.alloc (.cells #[.slice s5 k5 c5] 39)).alloc (.cells #[.slice s6 k6 c6] 39)) none:=A5 (A5 g5 _) _
    have hbX6:=A0 hG6 hbX
    have hbY6:=A0 hG6 hbY
    have hr6:=A0 hG6 hr
    have nY6:=nY.kept hG6
    have n66:RefV ((w5.alloc (.cells #[.slice s5 k5 c5] 39)).alloc (.cells #[.slice s6 k6 c6] 39)) (.agg #[.slice s6 k6 c6]) (x%y):=RefV.kept ⟨s6,k6,c6,z6,rfl,n6⟩ (A5 (World.grownBy_alloc _ _ _) _)
    have hb66:=A8 (w5.alloc (.cells #[.slice s5 k5 c5] 39)) (.cells #[.slice s6 k6 c6] 39) (w5.heap.size+1) (by simp)
    have hlo5:w.heap.size+1+1<w5.heap.size:=by have h1:=(Array.getElem?_eq_some_iff.1 hr).1;have:=g5.size;omega
    obtain ⟨cX6,fX6⟩:=A9 hbX6
    obtain ⟨cY6,fY6⟩:=A9 hbY6
    obtain ⟨c66,f66⟩:=A9 hb66
    have hbX7:=R4 hbX6 (.slice sY kY cY)
    have hbY7:=G0 (g:=w.heap.size) hbY6 (by omega) (.slice sY kY cY)
    have hb67:=G0 (g:=w.heap.size) hb66 (by omega) (.slice sY kY cY)
    have hr7:=G0 (g:=w.heap.size) hr6 (by omega) (.slice sY kY cY)
    have nY7:=nY6.set_other hbX6 (by decide) 0 (.slice sY kY cY)
    have n67:=n66.set_other hbX6 (by decide) 0 (.slice sY kY cY)
    obtain ⟨c67,f67⟩:=A9 hb67
    obtain ⟨cY7,fY7⟩:=A9 hbY7
    have hbX8:=G0 (g:=w.heap.size+1) hbX7 (by omega) (.slice s6 k6 c6)
    have hbY8:=R4 hbY7 (.slice s6 k6 c6)
    have hr8:=G0 (g:=w.heap.size+1) hr7 (by omega) (.slice s6 k6 c6)
    have nY8:=nY7.set_other hbY7 (by decide) 0 (.slice s6 k6 c6)
    have n68:=n67.set_other hbY7 (by decide) 0 (.slice s6 k6 c6)
    have hG8:=B8 (B8 (A1 hG hG6) (B6 (A7 _ (some w.heap.size)) 0 (.slice sY kY cY)) (Nat.le_refl _)) (B6 (A7 _ (some (w.heap.size+1))) 0 (.slice s6 k6 c6)) (by omega)
    have hgn:Hid (Nat.gcd y (x%y)=Nat.gcd a b):=by
     show _=_
     rw [<- hgc.out,Nat.gcd_comm x y,Nat.gcd_rec y x,Nat.gcd_comm]
    have hlt:Hid (x%y<gk):=by
     show _<_
     exact Nat.lt_of_lt_of_le (Nat.mod_lt _ H0.out) hgh.out
    have hbn:Hid (y<D^E/\x%y<D^E):=⟨hbd.out.2,Nat.lt_of_le_of_lt (Nat.mod_le _ _) hbd.out.1⟩
    clear g5 n5 n6 hG6 nY6 n66 nY7 n67 hbX7 hr6 hr7 nX nY hgc hbd hgh hG
    go_wp2_with fail
    go_roundg (x%y)
    case measure=>exact hlt.out
    case rel=>exact ⟨y,x%y,Nat.le_refl _,⟨sY,kY,cY,hbX8,nY8⟩,⟨s6,k6,c6,hbY8,n68⟩,hgn,hbn,hr8,hG8⟩
end Go.Proofs.YtninnifpgpjfhaaGreatDoor
