/- What the laws lean on, part 13. -/
import Derived.Below
import Derived.BigCall
import Derived.BigQuiet
import Derived.BigRegion
import Derived.Deep.AppendLies
import Derived.Deep.CutBlock
import Derived.Deep.CutRange
import Derived.Deep.DeepCutAuto
import Derived.Deep.DeepHandedRow
import Derived.Deep.LoopGhost
import Derived.Deep.MidRow
import Derived.Deep.QuietTactic
import Derived.Deep.RegionHeld3
import Derived.Deep.RegionLaw
import Derived.Deep.WholeRow
import Derived.Laws.AppendOwn
import Derived.Laws.Concat
import Derived.Laws.CopyOwn
import Derived.Laws.Externs
import Derived.Laws.IdiomStrings
import Derived.Lib.BitFns
import Derived.Lib.Bytealg
import Derived.Lib.Hide
import Derived.Lib.Slices
import Derived.Lib.Small
import Derived.Lib.Strings
import Derived.Lib.Walk
import Derived.LoopN
import Derived.OpenShut
import Derived.OrdersHeld
import Derived.OrdersIn
import Derived.Outline
import Derived.OwnWalk
import Derived.ProofKit
import Derived.RangeFuncCalls
import Derived.RangeFuncNested
import Derived.RangeFuncOwn
import Derived.Shelf.Bits.Mul64
import Derived.Shelf.Spec.TrailingZeros
import Derived.StillTailTactics
import Derived.WalkKit
import Derived.WalkLawsBesides
import Derived.WalkSpells
import Derived.Test.YtamdnbbgpacfkaaDoorProg
import Derived.Test.YtamdnbbgpacfkaaDoorRows
import Derived.Test.YtamdnbbgpacfkaaDoorMe12
set_option linter.unusedVariables false
set_option linter.unusedSimpArgs false
set_option maxRecDepth 100000
namespace Go.Proofs.YtamdnbbgpacfkaaDoor
open Go.RowKit Mat Ex PM
theorem X8 {P:Program} {ρ : Operand->Value} {o:Oper} {t t':TypeId} {x y:Operand} {a:Int} {W:World} (b:Bool) (ho:o.op = .binOp .leq t x y t') (hx : ρ x = .int .i64 a) (hy : ρ y = .int .i64 0) (h:decide (a<=0)=b):(execOp ρ o).run P W = .ok (.value (.bool b)) W:=
 B7 ho hx hy (by rw [<- h];rfl)
theorem pass_up {i k:Int} (h:i<=0) (h' : 0<k):pass i k=1:=by unfold pass;rw [if_pos ⟨h,h'⟩]
theorem pass_down {i k:Int} (h:¬ i<=0) (h':k<=0):pass i k = -1:=by unfold pass;rw [if_neg (fun z=>h z.1),if_pos ⟨by omega,h'⟩]
theorem pass_no1 {i k:Int} (h:i<=0) (h':¬ 0<k):pass i k=0:=by unfold pass;rw [if_neg (fun z=>h' z.2),if_neg (fun z=>by omega)]
theorem pass_no2 {i k:Int} (h:¬ i<=0) (h':¬ k<=0):pass i k=0:=by unfold pass;rw [if_neg (fun z=>h z.1),if_neg (fun z=>h' z.2)]
theorem qM (w:World) (i k:Int) :
 Calls Tryd.prog 71 #[.int .i64 i,.int .i64 k] w (fun e w'=>e = .returned (.int .i64 (pass i k))/\w.grownBy w' none):=by
 rcases (show (i<=0/\0<k)\/(i<=0 /\ ¬ 0<k)\/(¬ i<=0/\k<=0)\/(¬ i<=0 /\ ¬ k<=0) by omega) with ⟨h1,h2⟩ | ⟨h1,h2⟩ | ⟨h1,h2⟩ | ⟨h1,h2⟩
 · skip
   rw [pass_up h1 h2]
   refine A6 B3 Tryd.func71 [sZ i,sZ k] [sV (.bool true),sV (.bool true)] (.cons rfl (.cons rfl .nil)) (rs:=[co 2 (.binOp .leq 3 (.tmp 6) (.const (.int .i64 0)) 3) 4 [on 0,.v false [.lit (.int .i64 0)]] [0,1] [],co 3 (.binOp .gtr 3 (.tmp 9) (.const (.int .i64 0)) 3) 4 [on 1,.v false [.lit (.int .i64 0)]] [0,1,2] []]) (out := .v false [.lit (.int .i64 1)]) (nc:=4) (by kernel_rfl)
    ⟨fun σ W g h hb=>fun ρ o ho _ hv=>⟨_,X8 true ho ((A1 hv).1.trans (h 0 rfl)) (A1 hv).2 (decide_eq_true h1),rfl⟩,
    fun σ W g h hb=>fun ρ o ho _ hv=>⟨_,E9 true ho ((A1 hv).1.trans (h 1 rfl)) (A1 hv).2 (decide_eq_true h2),rfl⟩,
    trivial⟩ fun τ W g h=>⟨rfl,g⟩
 · skip
   rw [pass_no1 h1 h2]
   refine A6 B3 Tryd.func71 [sZ i,sZ k] [sV (.bool true),sV (.bool false),sV (.bool false)] (.cons rfl (.cons rfl .nil)) (rs:=[co 2 (.binOp .leq 3 (.tmp 6) (.const (.int .i64 0)) 3) 4 [on 0,.v false [.lit (.int .i64 0)]] [0,1] [],co 3 (.binOp .gtr 3 (.tmp 9) (.const (.int .i64 0)) 3) 4 [on 1,.v false [.lit (.int .i64 0)]] [0,1,2] [],co 4 (.binOp .gtr 3 (.tmp 13) (.const (.int .i64 0)) 3) 4 [on 0,.v false [.lit (.int .i64 0)]] [0,1,2,3] []]) (out := .v false [.lit (.int .i64 0)]) (nc:=5) (by kernel_rfl)
    ⟨fun σ W g h hb=>fun ρ o ho _ hv=>⟨_,X8 true ho ((A1 hv).1.trans (h 0 rfl)) (A1 hv).2 (decide_eq_true h1),rfl⟩,
    fun σ W g h hb=>fun ρ o ho _ hv=>⟨_,E9 false ho ((A1 hv).1.trans (h 1 rfl)) (A1 hv).2 (decide_eq_false h2),rfl⟩,
    fun σ W g h hb=>fun ρ o ho _ hv=>⟨_,E9 false ho ((A1 hv).1.trans (h 0 rfl)) (A1 hv).2 (decide_eq_false (by omega)),rfl⟩,
    trivial⟩ fun τ W g h=>⟨rfl,g⟩
 · skip
   rw [pass_down h1 h2]
   refine A6 B3 Tryd.func71 [sZ i,sZ k] [sV (.bool false),sV (.bool true),sV (.bool true)] (.cons rfl (.cons rfl .nil)) (rs:=[co 2 (.binOp .leq 3 (.tmp 6) (.const (.int .i64 0)) 3) 4 [on 0,.v false [.lit (.int .i64 0)]] [0,1] [],co 3 (.binOp .gtr 3 (.tmp 13) (.const (.int .i64 0)) 3) 4 [on 0,.v false [.lit (.int .i64 0)]] [0,1,2] [],co 4 (.binOp .leq 3 (.tmp 16) (.const (.int .i64 0)) 3) 4 [on 1,.v false [.lit (.int .i64 0)]] [0,1,2,3] []]) (out := .v false [.lit (.int .i64 (-1))]) (nc:=5) (by kernel_rfl)
    ⟨fun σ W g h hb=>fun ρ o ho _ hv=>⟨_,X8 false ho ((A1 hv).1.trans (h 0 rfl)) (A1 hv).2 (decide_eq_false h1),rfl⟩,
    fun σ W g h hb=>fun ρ o ho _ hv=>⟨_,E9 true ho ((A1 hv).1.trans (h 0 rfl)) (A1 hv).2 (decide_eq_true (by omega)),rfl⟩,
    fun σ W g h hb=>fun ρ o ho _ hv=>⟨_,X8 true ho ((A1 hv).1.trans (h 1 rfl)) (A1 hv).2 (decide_eq_true h2),rfl⟩,
    trivial⟩ fun τ W g h=>⟨rfl,g⟩
 · skip
   rw [pass_no2 h1 h2]
   refine A6 B3 Tryd.func71 [sZ i,sZ k] [sV (.bool false),sV (.bool true),sV (.bool false)] (.cons rfl (.cons rfl .nil)) (rs:=[co 2 (.binOp .leq 3 (.tmp 6) (.const (.int .i64 0)) 3) 4 [on 0,.v false [.lit (.int .i64 0)]] [0,1] [],co 3 (.binOp .gtr 3 (.tmp 13) (.const (.int .i64 0)) 3) 4 [on 0,.v false [.lit (.int .i64 0)]] [0,1,2] [],co 4 (.binOp .leq 3 (.tmp 16) (.const (.int .i64 0)) 3) 4 [on 1,.v false [.lit (.int .i64 0)]] [0,1,2,3] []]) (out := .v false [.lit (.int .i64 0)]) (nc:=5) (by kernel_rfl)
    ⟨fun σ W g h hb=>fun ρ o ho _ hv=>⟨_,X8 false ho ((A1 hv).1.trans (h 0 rfl)) (A1 hv).2 (decide_eq_false h1),rfl⟩,
    fun σ W g h hb=>fun ρ o ho _ hv=>⟨_,E9 true ho ((A1 hv).1.trans (h 0 rfl)) (A1 hv).2 (decide_eq_true (by omega)),rfl⟩,
    fun σ W g h hb=>fun ρ o ho _ hv=>⟨_,X8 false ho ((A1 hv).1.trans (h 1 rfl)) (A1 hv).2 (decide_eq_false h2),rfl⟩,
    trivial⟩ fun τ W g h=>⟨rfl,g⟩
theorem bR (w:World) (va:Value) (q:Nat) (u0 u1 u2 u3 u4 u5 u6 u7:Value) (p m:Pq) (K:Nat) (Ha:PtV w va p) (Bq:w.heap[q]?=some (.cells #[u0,u1,u2,u3,u4,u5,u6,u7] 33 (0,0))) (Hm:PtV w (.agg #[u0,u1,u2,u3,u4,u5,u6,u7]) m) (hK:K<=100000) (bp:Bp K p) (bm:Bp K m) :
 Calls Tryd.prog 72 #[va,.pointer (some ⟨q,0,none⟩)] w (fun e w'=>e = .returned (.int .i64 (lvl m p))/\w.grownBy w' none):=by
 obtain ⟨p0,p1,p2,p3,p4,p5,p6,p7,rfl,h1,h2⟩:=Ha
 have Ha:PtV w (.agg #[p0,p1,p2,p3,p4,p5,p6,p7]) p:=oE h1 h2
 exact K1 B3 Tryd.func72 [sPt p,sPt m,sZ (lvl m p)] 2 [ag 8 0,.v false [.ptr 0 0]] [(33,[.an 1 0,.an 1 1,.an 1 2,.an 1 3,.an 1 4,.an 1 5,.an 1 6,.an 1 7])] (rs:=[cl 2 9 [.v true [.an 0 4,.an 0 5,.an 0 6,.an 0 7],.v true [.an 1 4,.an 1 5,.an 1 6,.an 1 7]]]) (out:=on 2) (nc:=3) (by kernel_rfl) w
  ⟨fun n=>match n with | 0=>D7 [p0,p1,p2,p3,p4,p5,p6,p7] | 1=>D7 [u0,u1,u2,u3,u4,u5,u6,u7] | _=>fun _ => .bool false,fun b=>match b with | 0=>q | _=>0,fun _=>undef⟩
  (fun n c=>match n with
   | 0=>B4 (Ha.one) c
   | 1=>B4 (Hm.one) c
   | _+2=>rfl)
  (fun b q hq=>match b,q,hq with
   | 0,_,rfl=>Bq
   | _+1,_,hq=>nomatch hq)
  (fun b c hb hc hq=>match b,c,hb,hc with
   | 0,0,_,_=>rfl
   | _+1,_,hb,_=>absurd hb (by simp)
   | _,_+1,_,hc=>absurd hc (by simp))
  (fun jn hn=>match jn,hn with
   | 0,_=>Ha
   | 1,_=>Hm
   | _+2,hn=>absurd hn (by omega))
  ⟨fun σ W g h hb=>toZ (F4 W _ _ p.2 m.2 K (pt2 (h 0 rfl)) (pt2 (h 1 rfl)) (by omega) bp.2.1 bp.2.2 bm.2.1 bm.2.2) rfl,
  trivial⟩ _ fun τ W g h=>⟨congrArg Ending.returned (h 2 rfl),g⟩
theorem W8 (w:World) (va:Value) (q:Nat) (u0 u1 u2 u3 u4 u5 u6 u7:Value) (p m:Pq) (K:Nat) (Ha:PtV w va p) (Bq:w.heap[q]?=some (.cells #[u0,u1,u2,u3,u4,u5,u6,u7] 33 (0,0))) (Hm:PtV w (.agg #[u0,u1,u2,u3,u4,u5,u6,u7]) m) (hK:K<=100000) (bp:Bp K p) (bm:Bp K m) :
 Calls Tryd.prog 112 #[va,.pointer (some ⟨q,0,none⟩)] w (fun e w'=>e = .returned (.int .i64 (upr m p))/\w.grownBy w' none):=by
 obtain ⟨p0,p1,p2,p3,p4,p5,p6,p7,rfl,h1,h2⟩:=Ha
 have Ha:PtV w (.agg #[p0,p1,p2,p3,p4,p5,p6,p7]) p:=oE h1 h2
 exact K1 B3 Tryd.func112 [sPt p,sPt m,sZ (upr m p)] 2 [ag 8 0,.v false [.ptr 0 0]] [(33,[.an 1 0,.an 1 1,.an 1 2,.an 1 3,.an 1 4,.an 1 5,.an 1 6,.an 1 7])] (rs:=[cl 2 9 [ag 4 1,ag 4 0]]) (out:=on 2) (nc:=3) (by kernel_rfl) w
  ⟨fun n=>match n with | 0=>D7 [p0,p1,p2,p3,p4,p5,p6,p7] | 1=>D7 [u0,u1,u2,u3,u4,u5,u6,u7] | _=>fun _ => .bool false,fun b=>match b with | 0=>q | _=>0,fun _=>undef⟩
  (fun n c=>match n with
   | 0=>B4 (Ha.one) c
   | 1=>B4 (Hm.one) c
   | _+2=>rfl)
  (fun b q hq=>match b,q,hq with
   | 0,_,rfl=>Bq
   | _+1,_,hq=>nomatch hq)
  (fun b c hb hc hq=>match b,c,hb,hc with
   | 0,0,_,_=>rfl
   | _+1,_,hb,_=>absurd hb (by simp)
   | _,_+1,_,hc=>absurd hc (by simp))
  (fun jn hn=>match jn,hn with
   | 0,_=>Ha
   | 1,_=>Hm
   | _+2,hn=>absurd hn (by omega))
  ⟨fun σ W g h hb=>toZ (F4 W _ _ m.1 p.1 K (pt1 (h 1 rfl)) (pt1 (h 0 rfl)) (by omega) bm.1.1 bm.1.2 bp.1.1 bp.1.2) rfl,
  trivial⟩ _ fun τ W g h=>⟨congrArg Ending.returned (h 2 rfl),g⟩
def bU (f:Nat) (w:World) (m:Pq) (e:Ending) (w':World):Prop:=∃ (q:Nat) (u0 u1 u2 u3 u4 u5 u6 u7:Value),e = .returned (.func (.func f) #[] #[.pointer (some ⟨q,0,none⟩)])/\w'.heap[q]?=some (.cells #[u0,u1,u2,u3,u4,u5,u6,u7] 33 (0,0))/\PtV w' (.agg #[u0,u1,u2,u3,u4,u5,u6,u7]) m/\w.heap.size<=q/\w.grownBy w' none
theorem nJ (w:World) (va:Value) (m:Pq) (Ha:PtV w va m) :
 Calls Tryd.prog 41 #[va] w (bU 72 w m):=by
 refine V7 B3 Tryd.func41 [sPt m] [] (.cons Ha .nil) (rs:=[]) (out := .fn 72 [.ptr 0 0]) (nc:=1) (nd:=[(0,33,[.an 0 0,.an 0 1,.an 0 2,.an 0 3,.an 0 4,.an 0 5,.an 0 6,.an 0 7])]) (own:=[0]) (by kernel_rfl)
  trivial fun τ W g h hb ho=>⟨_,_,_,_,_,_,_,_,_,rfl,hb.1 _ (.head _),h 0 rfl,ho _ rfl,g⟩
theorem sL (w:World) (va:Value) (m:Pq) (Ha:PtV w va m) :
 Calls Tryd.prog 96 #[va] w (bU 112 w m):=by
 refine V7 B3 Tryd.func96 [sPt m] [] (.cons Ha .nil) (rs:=[]) (out := .fn 112 [.ptr 0 0]) (nc:=1) (nd:=[(0,33,[.an 0 0,.an 0 1,.an 0 2,.an 0 3,.an 0 4,.an 0 5,.an 0 6,.an 0 7])]) (own:=[0]) (by kernel_rfl)
  trivial fun τ W g h hb ho=>⟨_,_,_,_,_,_,_,_,_,rfl,hb.1 _ (.head _),h 0 rfl,ho _ rfl,g⟩
end Go.Proofs.YtamdnbbgpacfkaaDoor
namespace Go.Proofs.YtamdnbbgpacfkaaDoor.PM
def H7 (a b:Pq):Pq:=((a.1+b.1)*(1 / 2),(a.2+b.2)*(1 / 2))
end Go.Proofs.YtamdnbbgpacfkaaDoor.PM
namespace Go.Proofs.YtamdnbbgpacfkaaDoor
open Go.RowKit Mat Ex PM
def sRay (f s0:Nat) (m:Pq):Sp where
 sh := .one
 F v W:=RayV f W v m /\ ∀ q,fpF v q->s0<=q
 fits v W h:=by obtain ⟨⟨q,u0,u1,u2,u3,u4,u5,u6,u7,rfl,_⟩,_⟩:=h;exact ⟨fun _ => .func (.func f) #[] #[.pointer (some ⟨q,0,none⟩)],fun _=>rfl,rfl⟩
 row:=true
 fp v _ q:=fpF v q
 lasts v W W' k hq h:=⟨⟨h.1.keeps k hq,h.2⟩,fun _ h=>h⟩
 inb v W h q hq:=h.1.inb q hq
 flat h:=by cases h
theorem toRay {P:Program} {f:FuncId} {n:Nat} {args:Array Value} {W:World} {m:Pq} {old:Nat->Prop} {s0:Nat} (hs:s0<=W.heap.size) (h:Calls P f args W (bU n W m)):Calls P f args W (RetS W (sRay n s0 m) old):=
 h.mono fun _ _ ⟨q,u0,u1,u2,u3,u4,u5,u6,u7,a,h1,h2,h3,g⟩=>⟨_,a,⟨⟨q,u0,u1,u2,u3,u4,u5,u6,u7,rfl,h1,h2⟩,fun q' hq=>by obtain ⟨f',e⟩:=hq;cases e;omega⟩,g,fun q' hq => .inl (by obtain ⟨f',e⟩:=hq;cases e;exact h3)⟩
theorem ray_ret {n:Nat} {w W:World} {v:Value} {m:Pq} (h:RayV n W v m /\ ∀ q,fpF v q->w.heap.size<=q) (g:w.grownBy W none):bU n w m (.returned v) W:=by
 obtain ⟨⟨q,u0,u1,u2,u3,u4,u5,u6,u7,rfl,h1,h2⟩,h3⟩:=h
 exact ⟨q,u0,u1,u2,u3,u4,u5,u6,u7,rfl,h1,h2,h3 q ⟨n,rfl⟩,g⟩
theorem half_is:Rat.divInt 1 2=(1 / 2:Rat):=by decide +kernel
theorem half_b:Bn 1 (1 / 2:Rat):=half_is ▸ ⟨eW (iU (by omega) (by omega)),eX (iU (by omega) (by omega)) (by omega)⟩
theorem Bp.mid {K:Nat} {a b:Pq} (ha:Bp K a) (hb:Bp K b) (hK : 1<=K):Bp (4*K+2) (H7 a b):=
 ⟨(((ha.1.add hb.1).mono (M:=2*K+1) (by omega)).mul (half_b.mono (by omega))).mono (by omega),(((ha.2.add hb.2).mono (M:=2*K+1) (by omega)).mul (half_b.mono (by omega))).mono (by omega)⟩
theorem iX (w:World) (va:Value) (a b:Pq) (K:Nat) (Ha:SgV w va a b) (hK : 1<=K/\K<=10000) (ba:Bp K a) (bb:Bp K b) (hTab:Tab w) :
 Calls Tryd.prog 73 #[va] w (jA w (H7 a b)):=by
 have s1:Bn (2*K+1) (a.1+b.1):=(ba.1.add bb.1).mono (by omega)
 have s2:Bn (2*K+1) (a.2+b.2):=(ba.2.add bb.2).mono (by omega)
 have hh:Bn (2*K+1) (1 / 2:Rat):=half_b.mono (by omega)
 refine A6 B3 Tryd.func73 [sSg a b] [sQE (1 / 2:Rat) 0,sQ (a.1+b.1),sQ ((a.1+b.1)*(1 / 2)),sQ (a.2+b.2),sQ ((a.2+b.2)*(1 / 2))] (.cons Ha .nil) (rs:=[cl 1 16 [.v false [.lit (.int .i64 1)],.v false [.lit (.int .i64 2)]],cl 2 11 [ag 4 0,.v true [.an 0 8,.an 0 9,.an 0 10,.an 0 11]],cl 3 45 [ag 4 2,ag 4 1],cl 4 11 [.v true [.an 0 4,.an 0 5,.an 0 6,.an 0 7],.v true [.an 0 12,.an 0 13,.an 0 14,.an 0 15]],cl 5 45 [ag 4 4,ag 4 1]]) (out := .v true [.an 3 0,.an 3 1,.an 3 2,.an 3 3,.an 5 0,.an 5 1,.an 5 2,.an 5 3]) (nc:=6) (by kernel_rfl)
  ⟨fun σ W g h hb=>half_is ▸ toQE (sW W 1 2 (by omega) (by omega) (by omega) (by omega) (hTab.kept g (by simp))) (by decide),
  fun σ W g h hb=>P6 W _ _ a.1 b.1 K (pt1 (sg1 (h 0 rfl))) (pt1 (sg2 (h 0 rfl))) (by omega) ba.1.1 ba.1.2 bb.1.1 bb.1.2 (hTab.kept g (by simp)),
  fun σ W g h hb=>Z4 W _ _ (a.1+b.1) (1 / 2) (2*K+1) (h 2 rfl) (qE (h 1 rfl)) (by omega) s1.1 s1.2 hh.1 hh.2 (hTab.kept g (by simp)),
  fun σ W g h hb=>P6 W _ _ a.2 b.2 K (pt2 (sg1 (h 0 rfl))) (pt2 (sg2 (h 0 rfl))) (by omega) ba.2.1 ba.2.2 bb.2.1 bb.2.2 (hTab.kept g (by simp)),
  fun σ W g h hb=>Z4 W _ _ (a.2+b.2) (1 / 2) (2*K+1) (h 4 rfl) (qE (h 1 rfl)) (by omega) s2.1 s2.2 hh.1 hh.2 (hTab.kept g (by simp)),
  trivial⟩ fun τ W g h=>⟨_,rfl,oE (h 3 rfl) (h 5 rfl),g⟩
theorem sM (w:World) (va vb:Value) (a b m:Pq) (K:Nat) (Ha:SgV w va a b) (Hm:PtV w vb m) (hK:K<=10000) (ba:Bp K a) (bb:Bp K b) (h1:G4 a.2 b.2=0) :
 Calls Tryd.prog 74 #[va,vb] w (bU 112 w m):=by
 refine A6 B3 Tryd.func74 [sSg a b,sPt m] [sZ (G4 a.2 b.2),sV (.bool true),sRay 112 w.heap.size m] (.cons Ha (.cons Hm .nil)) (rs:=[cl 2 9 [.v true [.an 0 4,.an 0 5,.an 0 6,.an 0 7],.v true [.an 0 12,.an 0 13,.an 0 14,.an 0 15]],co 3 (.binOp .eql 3 (.tmp 11) (.const (.int .i64 0)) 3) 4 [on 2,.v false [.lit (.int .i64 0)]] [0,1,2] [],cl 4 96 [ag 8 1]]) (out:=on 4) (nc:=5) (by kernel_rfl)
  ⟨fun σ W g h hb=>toZ (F4 W _ _ a.2 b.2 K (pt2 (sg1 (h 0 rfl))) (pt2 (sg2 (h 0 rfl))) (by omega) ba.2.1 ba.2.2 bb.2.1 bb.2.2) rfl,
  fun σ W g h hb=>fun ρ o ho _ hv=>⟨_,C8 true ho ((A1 hv).1.trans (h 2 rfl)) (A1 hv).2 (decide_eq_true h1),rfl⟩,
  fun σ W g h hb=>toRay g.size (sL W _ m (h 1 rfl)),
  trivial⟩ fun τ W g h=>ray_ret (h 4 rfl) g
theorem sO (w:World) (va vb:Value) (a b m:Pq) (K:Nat) (Ha:SgV w va a b) (Hm:PtV w vb m) (hK:K<=10000) (ba:Bp K a) (bb:Bp K b) (h1:G4 a.2 b.2≠0) :
 Calls Tryd.prog 74 #[va,vb] w (bU 72 w m):=by
 refine A6 B3 Tryd.func74 [sSg a b,sPt m] [sZ (G4 a.2 b.2),sV (.bool false),sRay 72 w.heap.size m] (.cons Ha (.cons Hm .nil)) (rs:=[cl 2 9 [.v true [.an 0 4,.an 0 5,.an 0 6,.an 0 7],.v true [.an 0 12,.an 0 13,.an 0 14,.an 0 15]],co 3 (.binOp .eql 3 (.tmp 11) (.const (.int .i64 0)) 3) 4 [on 2,.v false [.lit (.int .i64 0)]] [0,1,2] [],cl 4 41 [ag 8 1]]) (out:=on 4) (nc:=5) (by kernel_rfl)
  ⟨fun σ W g h hb=>toZ (F4 W _ _ a.2 b.2 K (pt2 (sg1 (h 0 rfl))) (pt2 (sg2 (h 0 rfl))) (by omega) ba.2.1 ba.2.2 bb.2.1 bb.2.2) rfl,
  fun σ W g h hb=>fun ρ o ho _ hv=>⟨_,C8 false ho ((A1 hv).1.trans (h 2 rfl)) (A1 hv).2 (decide_eq_false h1),rfl⟩,
  fun σ W g h hb=>toRay g.size (nJ W _ m (h 1 rfl)),
  trivial⟩ fun τ W g h=>ray_ret (h 4 rfl) g
end Go.Proofs.YtamdnbbgpacfkaaDoor
