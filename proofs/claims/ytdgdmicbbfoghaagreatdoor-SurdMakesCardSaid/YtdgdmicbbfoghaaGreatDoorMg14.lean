/- What the laws lean on, part 14. -/
import Derived.Below
import Derived.BigCall
import Derived.BigQuiet
import Derived.BigRegion
import Derived.Deep.AppendLies
import Derived.Deep.CutBlock
import Derived.Deep.CutRange
import Derived.Deep.DeepCutAuto
import Derived.Deep.DeepHandedRow
import Derived.Deep.LoopGhost
import Derived.Deep.MidRow
import Derived.Deep.QuietTactic
import Derived.Deep.RegionHeld3
import Derived.Deep.WholeRow
import Derived.Laws.AppendOwn
import Derived.Laws.Concat
import Derived.Laws.CopyOwn
import Derived.Laws.CopyRow
import Derived.Laws.Externs
import Derived.Laws.IdiomStrings
import Derived.Lib.BitFns
import Derived.Lib.Bytealg
import Derived.Lib.Hide
import Derived.Lib.Slices
import Derived.Lib.Small
import Derived.Lib.Strings
import Derived.Lib.Walk
import Derived.LoopN
import Derived.Maps.AppendAt
import Derived.OpenShut
import Derived.OrdersHeld
import Derived.OrdersIn
import Derived.Outline
import Derived.OwnWalk
import Derived.ProofKit
import Derived.RangeFuncCalls
import Derived.RangeFuncNested
import Derived.RangeFuncOwn
import Derived.Shelf.Bits.Mul64
import Derived.Shelf.Spec.TrailingZeros
import Derived.StillTailTactics
import Derived.WalkKit
import Derived.WalkLawsBesides
import Derived.WalkSpells
import Derived.Test.YtdgdmicbbfoghaaGreatDoorProg
import Derived.Test.YtdgdmicbbfoghaaGreatDoorRows
import Derived.Test.YtdgdmicbbfoghaaGreatDoorMg13
set_option linter.unusedVariables false
set_option linter.unusedSimpArgs false
set_option maxRecDepth 100000
namespace Go.Proofs.YtdgdmicbbfoghaaGreatDoor
open Go.RowKit Mat
theorem nS {w:World} {g i:Nat} {cs:Array Value} {t:TypeId} {v:Value} (h:w.heap[g]?=some (.cells cs t (0,0))) (hi:cs[i]?=some v):w.cell? ⟨g,i,none⟩=some v:=by
 simp [World.cell?,h,hi]
theorem free_at {w:World} {g i:Nat} {cs:Array Value} {t:TypeId} (h:w.heap[g]?=some (.cells cs t (0,0))):w.frozen? ⟨g,i,none⟩=false:=by
 simp [World.frozen?,h]
theorem E8 {w:World} {g:Nat} {cs:Array Value} {t:TypeId} (h:w.heap[g]?=some (.cells cs t (0,0))) (o:Nat) (v:Value):(w.setCell ⟨g,o,none⟩ v).heap[g]?=some (.cells (cs.setIfInBounds o v) t (0,0)):=by
 simp [World.setCell,Array.getElem?_modify,h]
theorem aX {w:World} {g k:Nat} {x:Obj} (h:w.heap[k]?=some x) (hk:k≠g) (o:Nat) (v:Value):(w.setCell ⟨g,o,none⟩ v).heap[k]?=some x:=
 (Below.heap_setCell _ _ _ _ (by simpa using hk)).trans h
theorem aG {w w':World} {g:Nat} (hg:w.grownBy w' none) (hl:w.heap.size<=g) (o:Nat) (v:Value):w.grownBy (w'.setCell ⟨g,o,none⟩ v) none:=
 B1 hg (B2 (A9 _ _) o v) hl
theorem RatV.setc {w:World} {v:Value} {r:Rat} {g:Nat} {cs:Array Value} {t:TypeId} (h:RatV w v r) (hbox:w.heap[g]?=some (.cells cs t (0,0))) (ht:t≠91) (o:Nat) (u:Value):RatV (w.setCell ⟨g,o,none⟩ u) v r:=by
 obtain ⟨s,xs,b,s',xs',b',e,h1,h2⟩:=h
 exact ⟨s,xs,b,s',xs',b',e,h1.set_other hbox ht o u,h2.set_other hbox ht o u⟩
def put4 (w:World) (g o:Nat) (u0 u1 u2 u3:Value):World:=(((w.setCell ⟨g,o,none⟩ u0).setCell ⟨g,o+1,none⟩ u1).setCell ⟨g,o+2,none⟩ u2).setCell ⟨g,o+3,none⟩ u3
theorem RatV.put4 {w:World} {v:Value} {r:Rat} {g:Nat} {cs:Array Value} {t:TypeId} (h:RatV w v r) (hbox:w.heap[g]?=some (.cells cs t (0,0))) (ht:t≠91) (o:Nat) (u0 u1 u2 u3:Value):RatV (put4 w g o u0 u1 u2 u3) v r:=
 (((h.setc hbox ht _ _).setc (E8 hbox _ _) ht _ _).setc (E8 (E8 hbox _ _) _ _) ht _ _).setc (E8 (E8 (E8 hbox _ _) _ _) _ _) ht _ _
theorem J1 {w:World} {g:Nat} {cs:Array Value} {t:TypeId} (h:w.heap[g]?=some (.cells cs t (0,0))) (o:Nat) (u0 u1 u2 u3:Value):(put4 w g o u0 u1 u2 u3).heap[g]?=some (.cells ((((cs.setIfInBounds o u0).setIfInBounds (o+1) u1).setIfInBounds (o+2) u2).setIfInBounds (o+3) u3) t (0,0)):=
 E8 (E8 (E8 (E8 h _ _) _ _) _ _) _ _
theorem aY {w:World} {g k:Nat} {x:Obj} (h:w.heap[k]?=some x) (hk:k≠g) (o:Nat) (u0 u1 u2 u3:Value):(put4 w g o u0 u1 u2 u3).heap[k]?=some x:=
 aX (aX (aX (aX h hk _ _) hk _ _) hk _ _) hk _ _
theorem N4 {w w':World} {g:Nat} (hg:w.grownBy w' none) (hl:w.heap.size<=g) (o:Nat) (u0 u1 u2 u3:Value):w.grownBy (put4 w' g o u0 u1 u2 u3) none:=
 aG (aG (aG (aG hg hl _ _) hl _ _) hl _ _) hl _ _
theorem TwoV.setc {w:World} {v:Value} {x y:Int} {g:Nat} {cs:Array Value} {t:TypeId} (h:TwoV w v x y) (hbox:w.heap[g]?=some (.cells cs t (0,0))) (ht:t≠91) (o:Nat) (u:Value):TwoV (w.setCell ⟨g,o,none⟩ u) v x y:=by
 obtain ⟨s,xs,b,s',xs',b',e,h1,h2⟩:=h
 exact ⟨s,xs,b,s',xs',b',e,h1.set_other hbox ht o u,h2.set_other hbox ht o u⟩
theorem TwoV.put4 {w:World} {v:Value} {x y:Int} {g:Nat} {cs:Array Value} {t:TypeId} (h:TwoV w v x y) (hbox:w.heap[g]?=some (.cells cs t (0,0))) (ht:t≠91) (o:Nat) (u0 u1 u2 u3:Value):TwoV (put4 w g o u0 u1 u2 u3) v x y:=
 (((h.setc hbox ht _ _).setc (E8 hbox _ _) ht _ _).setc (E8 (E8 hbox _ _) _ _) ht _ _).setc (E8 (E8 (E8 hbox _ _) _ _) _ _) ht _ _
theorem surd_put (w':World) (g:Nat) (u0 u1 u2 u3 u4 u5 u6 u7 u8 u9 u10 u11 u12 u13 u14 u15 u16 u17 u18 u19:Value):(((((((((((((((((((w'.setCell ⟨g,0,none⟩ (u0)).setCell ⟨g,1,none⟩ (u1)).setCell ⟨g,2,none⟩ (u2)).setCell ⟨g,3,none⟩ (u3)).setCell ⟨g,4,none⟩ (u4)).setCell ⟨g,5,none⟩ (u5)).setCell ⟨g,6,none⟩ (u6)).setCell ⟨g,7,none⟩ (u7)).setCell ⟨g,8,none⟩ (u8)).setCell ⟨g,9,none⟩ (u9)).setCell ⟨g,10,none⟩ (u10)).setCell ⟨g,11,none⟩ (u11)).setCell ⟨g,12,none⟩ (u12)).setCell ⟨g,13,none⟩ (u13)).setCell ⟨g,14,none⟩ (u14)).setCell ⟨g,15,none⟩ (u15)).setCell ⟨g,16,none⟩ (u16)).setCell ⟨g,17,none⟩ (u17)).setCell ⟨g,18,none⟩ (u18)).setCell ⟨g,19,none⟩ (u19)=put4 (put4 (put4 (put4 (put4 w' g 0 u0 u1 u2 u3) g 4 u4 u5 u6 u7) g 8 u8 u9 u10 u11) g 12 u12 u13 u14 u15) g 16 u16 u17 u18 u19:=rfl
set_option maxHeartbeats 8000000 in
theorem dP {w':World} {g:Nat} {k0 k1 k2 k3 k4 k5 k6 k7 k8 k9 k10 k11 k12 k13 k14 k15 k16 k17 k18 k19 u0 u1 u2 u3 u4 u5 u6 u7 u8 u9 u10 u11 u12 u13 u14 u15 u16 u17 u18 u19:Value} {t:TypeId} (hb:w'.heap[g]?=some (.cells #[k0,k1,k2,k3,k4,k5,k6,k7,k8,k9,k10,k11,k12,k13,k14,k15,k16,k17,k18,k19] t (0,0))):((((((((((((((((((((w'.setCell ⟨g,0,none⟩ (u0)).setCell ⟨g,1,none⟩ (u1)).setCell ⟨g,2,none⟩ (u2)).setCell ⟨g,3,none⟩ (u3)).setCell ⟨g,4,none⟩ (u4)).setCell ⟨g,5,none⟩ (u5)).setCell ⟨g,6,none⟩ (u6)).setCell ⟨g,7,none⟩ (u7)).setCell ⟨g,8,none⟩ (u8)).setCell ⟨g,9,none⟩ (u9)).setCell ⟨g,10,none⟩ (u10)).setCell ⟨g,11,none⟩ (u11)).setCell ⟨g,12,none⟩ (u12)).setCell ⟨g,13,none⟩ (u13)).setCell ⟨g,14,none⟩ (u14)).setCell ⟨g,15,none⟩ (u15)).setCell ⟨g,16,none⟩ (u16)).setCell ⟨g,17,none⟩ (u17)).setCell ⟨g,18,none⟩ (u18)).setCell ⟨g,19,none⟩ (u19)).heap[g]?=some (.cells #[u0,u1,u2,u3,u4,u5,u6,u7,u8,u9,u10,u11,u12,u13,u14,u15,u16,u17,u18,u19] t (0,0)):=by
 have b0:(put4 w' g 0 u0 u1 u2 u3).heap[g]?=some (.cells #[u0,u1,u2,u3,k4,k5,k6,k7,k8,k9,k10,k11,k12,k13,k14,k15,k16,k17,k18,k19] t (0,0)):=by have:=J1 hb 0 u0 u1 u2 u3;simpa using this
 have b1:(put4 (put4 w' g 0 u0 u1 u2 u3) g 4 u4 u5 u6 u7).heap[g]?=some (.cells #[u0,u1,u2,u3,u4,u5,u6,u7,k8,k9,k10,k11,k12,k13,k14,k15,k16,k17,k18,k19] t (0,0)):=by have:=J1 b0 4 u4 u5 u6 u7;simpa using this
 have b2:(put4 (put4 (put4 w' g 0 u0 u1 u2 u3) g 4 u4 u5 u6 u7) g 8 u8 u9 u10 u11).heap[g]?=some (.cells #[u0,u1,u2,u3,u4,u5,u6,u7,u8,u9,u10,u11,k12,k13,k14,k15,k16,k17,k18,k19] t (0,0)):=by have:=J1 b1 8 u8 u9 u10 u11;simpa using this
 have b3:(put4 (put4 (put4 (put4 w' g 0 u0 u1 u2 u3) g 4 u4 u5 u6 u7) g 8 u8 u9 u10 u11) g 12 u12 u13 u14 u15).heap[g]?=some (.cells #[u0,u1,u2,u3,u4,u5,u6,u7,u8,u9,u10,u11,u12,u13,u14,u15,k16,k17,k18,k19] t (0,0)):=by have:=J1 b2 12 u12 u13 u14 u15;simpa using this
 have b4:(put4 (put4 (put4 (put4 (put4 w' g 0 u0 u1 u2 u3) g 4 u4 u5 u6 u7) g 8 u8 u9 u10 u11) g 12 u12 u13 u14 u15) g 16 u16 u17 u18 u19).heap[g]?=some (.cells #[u0,u1,u2,u3,u4,u5,u6,u7,u8,u9,u10,u11,u12,u13,u14,u15,u16,u17,u18,u19] t (0,0)):=by have:=J1 b3 16 u16 u17 u18 u19;simpa using this
 rw [surd_put];exact b4
theorem fF {w w':World} {g:Nat} {m n:Int} {ra rb rc rd:Rat} {code:Int} {k0 k1 k2 k3 k4 k5 k6 k7 k8 k9 k10 k11 k12 k13 k14 k15 k16 k17 k18 k19:Value} {sf:Option Addr} {xf:List Nat} {bf:Bool} {sf':Option Addr} {xf':List Nat} {bf':Bool} {sa:Option Addr} {xa:List Nat} {ba:Bool} {sa':Option Addr} {xa':List Nat} {ba':Bool} {sb:Option Addr} {xb:List Nat} {bb:Bool} {sb':Option Addr} {xb':List Nat} {bb':Bool} {sc:Option Addr} {xc:List Nat} {bc:Bool} {sc':Option Addr} {xc':List Nat} {bc':Bool} {sd:Option Addr} {xd:List Nat} {bd:Bool} {sd':Option Addr} {xd':List Nat} {bd':Bool} {t:TypeId} (hg:w.grownBy w' none) (hb:w'.heap[g]?=some (.cells #[k0,k1,k2,k3,k4,k5,k6,k7,k8,k9,k10,k11,k12,k13,k14,k15,k16,k17,k18,k19] t (0,0))) (hf:TwoV w' (.agg #[.slice sf xf.length xf.length,.bool bf,.slice sf' xf'.length xf'.length,.bool bf']) m n) (h0:RatV w' (.agg #[.slice sa xa.length xa.length,.bool ba,.slice sa' xa'.length xa'.length,.bool ba']) ra) (h1:RatV w' (.agg #[.slice sb xb.length xb.length,.bool bb,.slice sb' xb'.length xb'.length,.bool bb']) rb) (h2:RatV w' (.agg #[.slice sc xc.length xc.length,.bool bc,.slice sc' xc'.length xc'.length,.bool bc']) rc) (h3:RatV w' (.agg #[.slice sd xd.length xd.length,.bool bd,.slice sd' xd'.length xd'.length,.bool bd']) rd) (hl:w.heap.size<=g:=by omega) (ht:t≠91:=by decide) :
 J5 w m n ra rb rc rd code (.returned (.tuple #[.agg #[.slice sf xf.length xf.length,.bool bf,.slice sf' xf'.length xf'.length,.bool bf',.slice sa xa.length xa.length,.bool ba,.slice sa' xa'.length xa'.length,.bool ba',.slice sb xb.length xb.length,.bool bb,.slice sb' xb'.length xb'.length,.bool bb',.slice sc xc.length xc.length,.bool bc,.slice sc' xc'.length xc'.length,.bool bc',.slice sd xd.length xd.length,.bool bd,.slice sd' xd'.length xd'.length,.bool bd'],.int .i64 code])) ((((((((((((((((((((w'.setCell ⟨g,0,none⟩ (.slice sf xf.length xf.length)).setCell ⟨g,1,none⟩ (.bool bf)).setCell ⟨g,2,none⟩ (.slice sf' xf'.length xf'.length)).setCell ⟨g,3,none⟩ (.bool bf')).setCell ⟨g,4,none⟩ (.slice sa xa.length xa.length)).setCell ⟨g,5,none⟩ (.bool ba)).setCell ⟨g,6,none⟩ (.slice sa' xa'.length xa'.length)).setCell ⟨g,7,none⟩ (.bool ba')).setCell ⟨g,8,none⟩ (.slice sb xb.length xb.length)).setCell ⟨g,9,none⟩ (.bool bb)).setCell ⟨g,10,none⟩ (.slice sb' xb'.length xb'.length)).setCell ⟨g,11,none⟩ (.bool bb')).setCell ⟨g,12,none⟩ (.slice sc xc.length xc.length)).setCell ⟨g,13,none⟩ (.bool bc)).setCell ⟨g,14,none⟩ (.slice sc' xc'.length xc'.length)).setCell ⟨g,15,none⟩ (.bool bc')).setCell ⟨g,16,none⟩ (.slice sd xd.length xd.length)).setCell ⟨g,17,none⟩ (.bool bd)).setCell ⟨g,18,none⟩ (.slice sd' xd'.length xd'.length)).setCell ⟨g,19,none⟩ (.bool bd')):=by
 have b0:=J1 hb 0 (.slice sf xf.length xf.length) (.bool bf) (.slice sf' xf'.length xf'.length) (.bool bf')
 have b1:=J1 b0 4 (.slice sa xa.length xa.length) (.bool ba) (.slice sa' xa'.length xa'.length) (.bool ba')
 have b2:=J1 b1 8 (.slice sb xb.length xb.length) (.bool bb) (.slice sb' xb'.length xb'.length) (.bool bb')
 have b3:=J1 b2 12 (.slice sc xc.length xc.length) (.bool bc) (.slice sc' xc'.length xc'.length) (.bool bc')
 have k:∀ {v:Value} {r:Rat},RatV w' v r->RatV (put4 (put4 (put4 (put4 (put4 w' g 0 (.slice sf xf.length xf.length) (.bool bf) (.slice sf' xf'.length xf'.length) (.bool bf')) g 4 (.slice sa xa.length xa.length) (.bool ba) (.slice sa' xa'.length xa'.length) (.bool ba')) g 8 (.slice sb xb.length xb.length) (.bool bb) (.slice sb' xb'.length xb'.length) (.bool bb')) g 12 (.slice sc xc.length xc.length) (.bool bc) (.slice sc' xc'.length xc'.length) (.bool bc')) g 16 (.slice sd xd.length xd.length) (.bool bd) (.slice sd' xd'.length xd'.length) (.bool bd')) v r:=fun h=>((((h.put4 hb ht _ _ _ _ _).put4 b0 ht _ _ _ _ _).put4 b1 ht _ _ _ _ _).put4 b2 ht _ _ _ _ _).put4 b3 ht _ _ _ _ _
 rw [surd_put]
 exact ⟨_,rfl,⟨_,_,_,_,_,_,_,_,_,_,_,_,_,_,_,_,_,_,_,_,_,_,_,_,_,_,_,_,_,_,rfl,((((hf.put4 hb ht _ _ _ _ _).put4 b0 ht _ _ _ _ _).put4 b1 ht _ _ _ _ _).put4 b2 ht _ _ _ _ _).put4 b3 ht _ _ _ _ _,k h0,k h1,k h2,k h3⟩,N4 (N4 (N4 (N4 (N4 hg hl _ _ _ _ _) hl _ _ _ _ _) hl _ _ _ _ _) hl _ _ _ _ _) hl _ _ _ _ _⟩
theorem IntV.setc {w:World} {v:Value} {z:Int} {g:Nat} {cs:Array Value} {t:TypeId} (h:IntV w v z) (hbox:w.heap[g]?=some (.cells cs t (0,0))) (ht:t≠91) (o:Nat) (u:Value):IntV (w.setCell ⟨g,o,none⟩ u) v z:=h.set_other hbox ht o u
theorem IntV.put4 {w:World} {v:Value} {z:Int} {g:Nat} {cs:Array Value} {t:TypeId} (h:IntV w v z) (hbox:w.heap[g]?=some (.cells cs t (0,0))) (ht:t≠91) (o:Nat) (u0 u1 u2 u3:Value):IntV (put4 w g o u0 u1 u2 u3) v z:=
 (((h.setc hbox ht _ _).setc (E8 hbox _ _) ht _ _).setc (E8 (E8 hbox _ _) _ _) ht _ _).setc (E8 (E8 (E8 hbox _ _) _ _) _ _) ht _ _
theorem dU {w:World} {g:Nat} {l:List Value} {t:TypeId} (h:w.heap[g]?=some (.cells l.toArray t (0,0))):w.rangeAt g 0 l:=fun j v hv=>by
 rw [Nat.zero_add];exact nS h (by simpa using hv)
theorem dM {w:World} {g n:Nat} {cs:Array Value} {t:TypeId} (h:w.heap[g]?=some (.cells cs t (0,0))) (hn:n<=cs.size:=by exact Nat.le_refl _):w.there g 0 n:=fun j hj=>by
 rw [Nat.zero_add]
 exact ⟨by rw [nS h (Array.getElem?_eq_getElem (show j<cs.size by omega))];rfl,free_at h⟩
theorem S4 {fn:Func} {a t:Tmp} {ty:TypeId} (h:fn.results = #[.cell a ty,.tmp t]) (tmps:Array Value) (P:Program) (w:World) (b:Nat) (cs:List Value) (d:TypeDesc) (hp:tmps.getD a undef = .pointer (some ⟨b,0,none⟩)) (hc:w.rangeAt b 0 cs) (hu:P.underlying ty=some d) (hd:d.isRow=true) (hi:(P.info? ty).map (·.size)=some cs.length) {v:Value} (hv:tmps.getD t undef=v) :
 (results fn tmps).run P w = .ok (.tuple #[.agg cs.toArray,v]) w:=by
 simp only [Array.getD_eq_getD_getElem?] at hp hv
 simp [results,h,hp,hv,asAddr,run_loadVar_mid w b 0 ty cs d hc hu hd hi]
theorem pV {w w':World} {g:Nat} (hg:w.grownBy w' none) (hl:w.heap.size<=g):∀ (l:List Value) (o:Nat),w.grownBy (w'.setCells g o l) none:=by
 intro l
 induction l generalizing w' with
 | nil=>intro o;exact hg
 | cons v r ih=>intro o;exact ih (aG hg hl o v) (o+1)
theorem heap_row' {w W:World} {g k:Nat} {x:Obj} (h:w.heap[k]?=some x) (hg:w.grownBy W (some g)) (hk:k≠g):W.heap[k]?=some x:=
 (hg.block k (Array.getElem?_eq_some_iff.1 h).1 (by simpa using hk)).trans h
theorem range_mid {w:World} {g:Nat} {l r:List Value} {t:TypeId} (h:w.heap[g]?=some (.cells (l++r).toArray t (0,0))):w.rangeAt g l.length r:=fun j v hv=>by
 refine nS h ?_
 simp
 rw [List.getElem?_append_right (by omega),Nat.add_sub_cancel_left];exact hv
theorem there_mid {w:World} {g o n:Nat} {cs:Array Value} {t:TypeId} (h:w.heap[g]?=some (.cells cs t (0,0))) (hn:o+n<=cs.size):w.there g o n:=fun j hj=>
 ⟨by rw [nS h (Array.getElem?_eq_getElem (show o+j<cs.size by omega))];rfl,free_at h⟩
set_option maxHeartbeats 8000000 in
theorem eT (w:World) (va vb:Value) (s:Option Addr) (k c:Nat) (m n:Int) (r0 r1 r2 r3:Rat) (K:Nat) (Ha:IntV w va m) (Hb:IntV w vb n) (hK:K<=300000) (lm:m.natAbs<B^K) (ln:n.natAbs<B^K) (hm : 0<=m) (hn : 0<=n) (hk:k<=4) (hcp:∀ W g f0 f1 f2 f3,w.grownBy W none->W.heap[g]?=some (.cells #[f0,f1,f2,f3,.slice none 0 0,.bool false,.slice none 0 0,.bool false,.slice none 0 0,.bool false,.slice none 0 0,.bool false,.slice none 0 0,.bool false,.slice none 0 0,.bool false,.slice none 0 0,.bool false,.slice none 0 0,.bool false] 37 (0,0))->gM W g f0 f1 f2 f3 k r0 r1 r2 r3 s c) (b0:Bd1 K r0) (b1:Bd1 K r1) (b2:Bd1 K r2) (b3:Bd1 K r3) (hTab:Tab w) :
 Calls Tryz.prog 11 #[va,vb,.slice s k c] w (J5 w m n r0 r1 r2 r3 0):=by
 have LM:=Lib.hid lm
 have LN:=Lib.hid ln
 have HCP:=Lib.hid hcp
 have N0:=Lib.hid b0
 have N1:=Lib.hid b1
 have N2:=Lib.hid b2
 have N3:=Lib.hid b3
 clear lm ln hcp b0 b1 b2 b3
 have HTB:Hid (∀ W,w.grownBy W none->Tab W):=fun W hW=>hTab.kept hW (by simp)
 clear hTab
 obtain ⟨sm,hsm⟩:∃ z,m.sign=z:=⟨_,rfl⟩
 obtain ⟨sn,hsn⟩:∃ z,n.sign=z:=⟨_,rfl⟩
 have fm:decide (sm<0)=false:=decide_eq_false (by rw [<- hsm,Int.sign_neg_iff];omega)
 have fn':decide (sn<0)=false:=decide_eq_false (by rw [<- hsn,Int.sign_neg_iff];omega)
 have f4:decide (4<(k:Int))=false:=decide_eq_false (by omega)
 have HSM:=Lib.hid hsm;have HSN:=Lib.hid hsn
 clear hsm hsn hm hn
 obtain ⟨sa,xa,ba,rfl,ha,va,ta⟩:=Ha
 obtain ⟨sb,xb,bb,rfl,hb,vb,tb⟩:=Hb
 have hG:w.grownBy (((w.alloc (.cells #[.slice sa xa.length xa.length,.bool ba] 28)).alloc (.cells #[.slice sb xb.length xb.length,.bool bb] 28)).alloc (.cells #[.slice none 0 0,.bool false,.slice none 0 0,.bool false,.slice none 0 0,.bool false,.slice none 0 0,.bool false,.slice none 0 0,.bool false,.slice none 0 0,.bool false,.slice none 0 0,.bool false,.slice none 0 0,.bool false,.slice none 0 0,.bool false,.slice none 0 0,.bool false] 37)) none:=(A8 (A8 (World.grownBy_alloc _ _ _) _) _)
 have Ba:=A1 (A8 (World.grownBy_alloc _ (.cells #[.slice sb xb.length xb.length,.bool bb] 28) none) (.cells #[.slice none 0 0,.bool false,.slice none 0 0,.bool false,.slice none 0 0,.bool false,.slice none 0 0,.bool false,.slice none 0 0,.bool false,.slice none 0 0,.bool false,.slice none 0 0,.bool false,.slice none 0 0,.bool false,.slice none 0 0,.bool false,.slice none 0 0,.bool false] 37)) (A4 w (.cells #[.slice sa xa.length xa.length,.bool ba] 28) (w.heap.size) rfl)
 have Bb:=A1 (World.grownBy_alloc _ (.cells #[.slice none 0 0,.bool false,.slice none 0 0,.bool false,.slice none 0 0,.bool false,.slice none 0 0,.bool false,.slice none 0 0,.bool false,.slice none 0 0,.bool false,.slice none 0 0,.bool false,.slice none 0 0,.bool false,.slice none 0 0,.bool false,.slice none 0 0,.bool false] 37) none) (A4 (w.alloc (.cells #[.slice sa xa.length xa.length,.bool ba] 28)) (.cells #[.slice sb xb.length xb.length,.bool bb] 28) (w.heap.size+1) (by simp))
 have Bq:=(A4 ((w.alloc (.cells #[.slice sa xa.length xa.length,.bool ba] 28)).alloc (.cells #[.slice sb xb.length xb.length,.bool bb] 28)) (.cells #[.slice none 0 0,.bool false,.slice none 0 0,.bool false,.slice none 0 0,.bool false,.slice none 0 0,.bool false,.slice none 0 0,.bool false,.slice none 0 0,.bool false,.slice none 0 0,.bool false,.slice none 0 0,.bool false,.slice none 0 0,.bool false,.slice none 0 0,.bool false] 37) (w.heap.size+1+1) (by simp))
 have ia:IntV (((w.alloc (.cells #[.slice sa xa.length xa.length,.bool ba] 28)).alloc (.cells #[.slice sb xb.length xb.length,.bool bb] 28)).alloc (.cells #[.slice none 0 0,.bool false,.slice none 0 0,.bool false,.slice none 0 0,.bool false,.slice none 0 0,.bool false,.slice none 0 0,.bool false,.slice none 0 0,.bool false,.slice none 0 0,.bool false,.slice none 0 0,.bool false,.slice none 0 0,.bool false,.slice none 0 0,.bool false] 37)) (.agg #[.slice sa xa.length xa.length,.bool ba]) (m):=⟨sa,xa,ba,rfl,ha.kept hG,va,ta⟩
 have ib:IntV (((w.alloc (.cells #[.slice sa xa.length xa.length,.bool ba] 28)).alloc (.cells #[.slice sb xb.length xb.length,.bool bb] 28)).alloc (.cells #[.slice none 0 0,.bool false,.slice none 0 0,.bool false,.slice none 0 0,.bool false,.slice none 0 0,.bool false,.slice none 0 0,.bool false,.slice none 0 0,.bool false,.slice none 0 0,.bool false,.slice none 0 0,.bool false,.slice none 0 0,.bool false,.slice none 0 0,.bool false] 37)) (.agg #[.slice sb xb.length xb.length,.bool bb]) (n):=⟨sb,xb,bb,rfl,hb.kept hG,vb,tb⟩
 have oa:IntV w (.agg #[.slice sa xa.length xa.length,.bool ba]) (m):=⟨sa,xa,ba,rfl,ha,va,ta⟩
 clear ha va ta
 have ob:IntV w (.agg #[.slice sb xb.length xb.length,.bool bb]) (n):=⟨sb,xb,bb,rfl,hb,vb,tb⟩
 clear hb vb tb
 go_enter Tryz.func11,Tryz.ntmps11
 obtain ⟨Ca0,Ca1,Fa0,Fa1⟩:=A3 Ba
 obtain ⟨Cb0,Cb1,Fb0,Fb1⟩:=A3 Bb
 go_wp2_with fail
 generalize (((w.alloc (.cells #[.slice sa xa.length xa.length,.bool ba] 28)).alloc (.cells #[.slice sb xb.length xb.length,.bool bb] 28)).alloc (.cells #[.slice none 0 0,.bool false,.slice none 0 0,.bool false,.slice none 0 0,.bool false,.slice none 0 0,.bool false,.slice none 0 0,.bool false,.slice none 0 0,.bool false,.slice none 0 0,.bool false,.slice none 0 0,.bool false,.slice none 0 0,.bool false,.slice none 0 0,.bool false] 37))=w0 at *
 clear Ca0 Ca1 Fa0 Fa1 Cb0 Cb1 Fb0 Fb1
 refine (D5 w0 _ m K ia (by omega) LM.out).mono ?_
 rintro e w1 ⟨rfl,gw1⟩
 rw [HSM.out]
 replace Ba:=A1 gw1 Ba
 replace Bb:=A1 gw1 Bb
 replace Bq:=A1 gw1 Bq
 replace ia:=ia.kept gw1
 replace ib:=ib.kept gw1
 replace hG:=A2 hG gw1
 clear gw1
 obtain ⟨Ca0,Ca1,Fa0,Fa1⟩:=A3 Ba
 obtain ⟨Cb0,Cb1,Fb0,Fb1⟩:=A3 Bb
 go_wp2_with fail
 clear Ca0 Ca1 Fa0 Fa1 Cb0 Cb1 Fb0 Fb1
 refine (D5 w1 _ n K ib (by omega) LN.out).mono ?_
 rintro e w2 ⟨rfl,gw2⟩
 rw [HSN.out]
 replace Ba:=A1 gw2 Ba
 replace Bb:=A1 gw2 Bb
 replace Bq:=A1 gw2 Bq
 replace ia:=ia.kept gw2
 replace ib:=ib.kept gw2
 replace hG:=A2 hG gw2
 clear gw2
 obtain ⟨Ca0,Ca1,Fa0,Fa1⟩:=A3 Ba
 obtain ⟨Cb0,Cb1,Fb0,Fb1⟩:=A3 Bb
 go_wp2_with fail
 have ff:TwoV w2 (.agg #[.slice sa xa.length xa.length,.bool ba,.slice sb xb.length xb.length,.bool bb]) m n:=⟨_,_,_,_,_,_,rfl,ia,ib⟩
 clear Ca0 Ca1 Fa0 Fa1 Cb0 Cb1 Fb0 Fb1
 refine (aM w2 _ m n K ff (by omega) LM.out LN.out).mono ?_
 rintro e w3 ⟨_,rfl,⟨se,xe,be,se',xe',be',rfl,he,he'⟩,gw3⟩
 have fe:TwoV w3 (.agg #[.slice se xe.length xe.length,.bool be,.slice se' xe'.length xe'.length,.bool be']) (m) (n):=⟨se,xe,be,se',xe',be',rfl,he,he'⟩
 replace Ba:=A1 gw3 Ba
 replace Bb:=A1 gw3 Bb
 replace Bq:=A1 gw3 Bq
 replace ia:=ia.kept gw3
 replace ib:=ib.kept gw3
 replace ff:=ff.kept gw3
 replace hG:=A2 hG gw3
 clear gw3
 clear he he'
 obtain ⟨Ca0,Ca1,Fa0,Fa1⟩:=A3 Ba
 obtain ⟨Cb0,Cb1,Fb0,Fb1⟩:=A3 Bb
 dsimp only
 rename_i K9 hK9;refine hK9 _ _ ?_;clear hK9 K9
 refine wpList_plain rfl (fun K9 hK9=>?_)
 go_simp
 refine hK9 _ _ ?_;clear hK9 K9
 refine wpList_plain rfl (fun K9 hK9=>?_)
 go_simp
 refine hK9 _ _ ?_;clear hK9 K9
 refine wpList_store_mid rfl 37 (.tmp 8) (.tmp 27) rfl (w3.heap.size) 0 _ rfl rfl (dM (A4 w3 (.cells #[.slice none 0 0,.bool false,.slice none 0 0,.bool false,.slice none 0 0,.bool false,.slice none 0 0,.bool false,.slice none 0 0,.bool false,.slice none 0 0,.bool false,.slice none 0 0,.bool false,.slice none 0 0,.bool false,.slice none 0 0,.bool false,.slice none 0 0,.bool false] 37) w3.heap.size rfl)) (by kernel_rfl) (by simp [Value.oneCell']) ?_
 have gbw3:w3.grownBy ((w3.alloc (.cells #[.slice none 0 0,.bool false,.slice none 0 0,.bool false,.slice none 0 0,.bool false,.slice none 0 0,.bool false,.slice none 0 0,.bool false,.slice none 0 0,.bool false,.slice none 0 0,.bool false,.slice none 0 0,.bool false,.slice none 0 0,.bool false,.slice none 0 0,.bool false] 37)).setCells w3.heap.size 0 [.slice se xe.length xe.length,.bool be,.slice se' xe'.length xe'.length,.bool be',.slice none 0 0,.bool false,.slice none 0 0,.bool false,.slice none 0 0,.bool false,.slice none 0 0,.bool false,.slice none 0 0,.bool false,.slice none 0 0,.bool false,.slice none 0 0,.bool false,.slice none 0 0,.bool false]) none:=pV (World.grownBy_alloc _ _ _) (Nat.le_refl _) _ _
 have Bo:((w3.alloc (.cells #[.slice none 0 0,.bool false,.slice none 0 0,.bool false,.slice none 0 0,.bool false,.slice none 0 0,.bool false,.slice none 0 0,.bool false,.slice none 0 0,.bool false,.slice none 0 0,.bool false,.slice none 0 0,.bool false,.slice none 0 0,.bool false,.slice none 0 0,.bool false] 37)).setCells w3.heap.size 0 [.slice se xe.length xe.length,.bool be,.slice se' xe'.length xe'.length,.bool be',.slice none 0 0,.bool false,.slice none 0 0,.bool false,.slice none 0 0,.bool false,.slice none 0 0,.bool false,.slice none 0 0,.bool false,.slice none 0 0,.bool false,.slice none 0 0,.bool false,.slice none 0 0,.bool false]).heap[w3.heap.size]?=some (.cells #[.slice se xe.length xe.length,.bool be,.slice se' xe'.length xe'.length,.bool be',.slice none 0 0,.bool false,.slice none 0 0,.bool false,.slice none 0 0,.bool false,.slice none 0 0,.bool false,.slice none 0 0,.bool false,.slice none 0 0,.bool false,.slice none 0 0,.bool false,.slice none 0 0,.bool false] 37 (0,0)):=dP (A4 w3 (.cells #[.slice none 0 0,.bool false,.slice none 0 0,.bool false,.slice none 0 0,.bool false,.slice none 0 0,.bool false,.slice none 0 0,.bool false,.slice none 0 0,.bool false,.slice none 0 0,.bool false,.slice none 0 0,.bool false,.slice none 0 0,.bool false,.slice none 0 0,.bool false] 37) w3.heap.size rfl)
 have hzw3:Hid (w.heap.size<=w3.heap.size):=Lib.hid hG.size
 have hlaw3:Hid (w.heap.size<w3.heap.size):=Lib.hid (Array.getElem?_eq_some_iff.1 Ba).1
 have hlbw3:Hid (w.heap.size+1<w3.heap.size):=Lib.hid (Array.getElem?_eq_some_iff.1 Bb).1
 have hlqw3:Hid (w.heap.size+1+1<w3.heap.size):=Lib.hid (Array.getElem?_eq_some_iff.1 Bq).1
 clear Ca0 Ca1 Fa0 Fa1 Cb0 Cb1 Fb0 Fb1
 replace Ba:=A1 gbw3 Ba
 replace Bb:=A1 gbw3 Bb
 replace Bq:=A1 gbw3 Bq
 replace ia:=ia.kept gbw3
 replace ib:=ib.kept gbw3
 replace ff:=ff.kept gbw3
 replace fe:=fe.kept gbw3
 replace hG:=A2 hG gbw3
 clear gbw3
 change wpList _ _ _ _ _ ((w3.alloc (.cells #[.slice none 0 0,.bool false,.slice none 0 0,.bool false,.slice none 0 0,.bool false,.slice none 0 0,.bool false,.slice none 0 0,.bool false,.slice none 0 0,.bool false,.slice none 0 0,.bool false,.slice none 0 0,.bool false,.slice none 0 0,.bool false,.slice none 0 0,.bool false] 37)).setCells w3.heap.size 0 [.slice se xe.length xe.length,.bool be,.slice se' xe'.length xe'.length,.bool be',.slice none 0 0,.bool false,.slice none 0 0,.bool false,.slice none 0 0,.bool false,.slice none 0 0,.bool false,.slice none 0 0,.bool false,.slice none 0 0,.bool false,.slice none 0 0,.bool false,.slice none 0 0,.bool false])
 generalize ((w3.alloc (.cells #[.slice none 0 0,.bool false,.slice none 0 0,.bool false,.slice none 0 0,.bool false,.slice none 0 0,.bool false,.slice none 0 0,.bool false,.slice none 0 0,.bool false,.slice none 0 0,.bool false,.slice none 0 0,.bool false,.slice none 0 0,.bool false,.slice none 0 0,.bool false] 37)).setCells w3.heap.size 0 [.slice se xe.length xe.length,.bool be,.slice se' xe'.length xe'.length,.bool be',.slice none 0 0,.bool false,.slice none 0 0,.bool false,.slice none 0 0,.bool false,.slice none 0 0,.bool false,.slice none 0 0,.bool false,.slice none 0 0,.bool false,.slice none 0 0,.bool false,.slice none 0 0,.bool false])=w4 at *
 generalize w3.heap.size=aw3 at *
 replace hzw3:=hzw3.out
 replace hlaw3:=hlaw3.out
 replace hlbw3:=hlbw3.out
 replace hlqw3:=hlqw3.out
 obtain ⟨W9,v9,hrun,hgr,hpv,ps,rfl,hbo⟩:=HCP.out _ _ _ _ _ _ hG Bo
 have hne:∀ x,x<aw3->x≠aw3:=fun x h=>by omega
 skip
 go_upto_region 5 with (refine Lib.wpList_copy_run _ rfl _ _ 23 23 rfl _ _ rfl rfl hrun ?_)
 have hB9:=heap_row' Bq hgr (show w.heap.size+1+1≠aw3 by omega)
 have fe9:=fe.row hgr Bo (by decide)
 have hG9:=B1 (g:=aw3) hG hgr (by omega)
 obtain ⟨spa,xpa,bpa,spa',xpa',bpa',spb,xpb,bpb,spb',xpb',bpb',spc,xpc,bpc,spc',xpc',bpc',spd,xpd,bpd,spd',xpd',bpd',ep,hpa,hpb,hpc,hpd⟩:=hpv
 have eps:ps=[.slice spa xpa.length xpa.length,.bool bpa,.slice spa' xpa'.length xpa'.length,.bool bpa',.slice spb xpb.length xpb.length,.bool bpb,.slice spb' xpb'.length xpb'.length,.bool bpb',.slice spc xpc.length xpc.length,.bool bpc,.slice spc' xpc'.length xpc'.length,.bool bpc',.slice spd xpd.length xpd.length,.bool bpd,.slice spd' xpd'.length xpd'.length,.bool bpd']:=by have h9:=Value.agg.inj ep;simpa using h9
 subst eps;clear ep
 clear hrun hgr hne ia ib ff fe Ba Bb Bq Bo hG
 have fe:=fe9;have Bq:=hB9;have Bo:W9.heap[aw3]?=some (.cells #[.slice se xe.length xe.length,.bool be,.slice se' xe'.length xe'.length,.bool be',.slice spa xpa.length xpa.length,.bool bpa,.slice spa' xpa'.length xpa'.length,.bool bpa',.slice spb xpb.length xpb.length,.bool bpb,.slice spb' xpb'.length xpb'.length,.bool bpb',.slice spc xpc.length xpc.length,.bool bpc,.slice spc' xpc'.length xpc'.length,.bool bpc',.slice spd xpd.length xpd.length,.bool bpd,.slice spd' xpd'.length xpd'.length,.bool bpd'] 37 (0,0)):=hbo;have hG:=hG9;clear fe9 hB9 hbo hG9
 have hrm:W9.rangeAt aw3 4 [.slice spa xpa.length xpa.length,.bool bpa,.slice spa' xpa'.length xpa'.length,.bool bpa',.slice spb xpb.length xpb.length,.bool bpb,.slice spb' xpb'.length xpb'.length,.bool bpb',.slice spc xpc.length xpc.length,.bool bpc,.slice spc' xpc'.length xpc'.length,.bool bpc',.slice spd xpd.length xpd.length,.bool bpd,.slice spd' xpd'.length xpd'.length,.bool bpd']:=range_mid (l:=[.slice se xe.length xe.length,.bool be,.slice se' xe'.length xe'.length,.bool be']) Bo
 refine wp_region_lit ?_
 refine wpList_plain rfl (fun K9 hK9=>?_)
 go_simp
 refine hK9 _ _ ?_;clear hK9 K9
 refine wpList_load_mid rfl 35 (.tmp 32) rfl (aw3) 4 rfl [.slice spa xpa.length xpa.length,.bool bpa,.slice spa' xpa'.length xpa'.length,.bool bpa',.slice spb xpb.length xpb.length,.bool bpb,.slice spb' xpb'.length xpb'.length,.bool bpb',.slice spc xpc.length xpc.length,.bool bpc,.slice spc' xpc'.length xpc'.length,.bool bpc',.slice spd xpd.length xpd.length,.bool bpd,.slice spd' xpd'.length xpd'.length,.bool bpd'] _ hrm Tryz.underlying35 rfl (by kernel_rfl) ?_
 clear hrm
 go_wp2_with fail
 refine (eZ W9 _ r0 r1 r2 r3 K ⟨_,_,_,_,_,_,_,_,_,_,_,_,_,_,_,_,_,_,_,_,_,_,_,_,rfl,hpa,hpb,hpc,hpd⟩ (by omega) N0.out N1.out N2.out N3.out).mono ?_
 rintro e w5 ⟨_,rfl,⟨sda,xda,bda,sda',xda',bda',sdb,xdb,bdb,sdb',xdb',bdb',sdc,xdc,bdc,sdc',xdc',bdc',sdd,xdd,bdd,sdd',xdd',bdd',rfl,hda,hdb,hdc,hdd⟩,gw5⟩
 have qda:RatV w5 (.agg #[.slice sda xda.length xda.length,.bool bda,.slice sda' xda'.length xda'.length,.bool bda']) (r0):=hda
 have qdb:RatV w5 (.agg #[.slice sdb xdb.length xdb.length,.bool bdb,.slice sdb' xdb'.length xdb'.length,.bool bdb']) (r1):=hdb
 have qdc:RatV w5 (.agg #[.slice sdc xdc.length xdc.length,.bool bdc,.slice sdc' xdc'.length xdc'.length,.bool bdc']) (r2):=hdc
 have qdd:RatV w5 (.agg #[.slice sdd xdd.length xdd.length,.bool bdd,.slice sdd' xdd'.length xdd'.length,.bool bdd']) (r3):=hdd
 replace Bq:=A1 gw5 Bq
 replace Bo:=A1 gw5 Bo
 replace fe:=fe.kept gw5
 replace hG:=A2 hG gw5
 clear gw5
 clear hda hdb hdc hdd
 clear hpa hpb hpc hpd
 dsimp only
 rename_i K9 hK9;refine hK9 _ _ ?_;clear hK9 K9
 refine wpList_plain rfl (fun K9 hK9=>?_)
 go_simp
 refine hK9 _ _ ?_;clear hK9 K9
 refine wpList_store_mid rfl 35 (.tmp 35) (.tmp 34) rfl (aw3) 4 #[.slice sda xda.length xda.length,.bool bda,.slice sda' xda'.length xda'.length,.bool bda',.slice sdb xdb.length xdb.length,.bool bdb,.slice sdb' xdb'.length xdb'.length,.bool bdb',.slice sdc xdc.length xdc.length,.bool bdc,.slice sdc' xdc'.length xdc'.length,.bool bdc',.slice sdd xdd.length xdd.length,.bool bdd,.slice sdd' xdd'.length xdd'.length,.bool bdd'] rfl rfl (there_mid Bo (Nat.le_refl 20)) (by kernel_rfl) (by simp [Value.oneCell']) ?_
 change wpList _ _ _ _ _ (put4 (put4 (put4 (put4 w5 (aw3) 4 (.slice sda xda.length xda.length) (.bool bda) (.slice sda' xda'.length xda'.length) (.bool bda')) (aw3) 8 (.slice sdb xdb.length xdb.length) (.bool bdb) (.slice sdb' xdb'.length xdb'.length) (.bool bdb')) (aw3) 12 (.slice sdc xdc.length xdc.length) (.bool bdc) (.slice sdc' xdc'.length xdc'.length) (.bool bdc')) (aw3) 16 (.slice sdd xdd.length xdd.length) (.bool bdd) (.slice sdd' xdd'.length xdd'.length) (.bool bdd'))
 replace fe:=fe.put4 Bo (by decide) 4 (.slice sda xda.length xda.length) (.bool bda) (.slice sda' xda'.length xda'.length) (.bool bda')
 replace qda:=qda.put4 Bo (by decide) 4 (.slice sda xda.length xda.length) (.bool bda) (.slice sda' xda'.length xda'.length) (.bool bda')
 replace qdb:=qdb.put4 Bo (by decide) 4 (.slice sda xda.length xda.length) (.bool bda) (.slice sda' xda'.length xda'.length) (.bool bda')
 replace qdc:=qdc.put4 Bo (by decide) 4 (.slice sda xda.length xda.length) (.bool bda) (.slice sda' xda'.length xda'.length) (.bool bda')
 replace qdd:=qdd.put4 Bo (by decide) 4 (.slice sda xda.length xda.length) (.bool bda) (.slice sda' xda'.length xda'.length) (.bool bda')
 replace hG:=N4 hG (show w.heap.size<=aw3 by omega) 4 (.slice sda xda.length xda.length) (.bool bda) (.slice sda' xda'.length xda'.length) (.bool bda')
 replace Bq:=aY Bq (show w.heap.size+1+1≠aw3 by omega) 4 (.slice sda xda.length xda.length) (.bool bda) (.slice sda' xda'.length xda'.length) (.bool bda')
 replace Bo:(put4 w5 (aw3) 4 (.slice sda xda.length xda.length) (.bool bda) (.slice sda' xda'.length xda'.length) (.bool bda')).heap[aw3]?=some (.cells #[.slice se xe.length xe.length,.bool be,.slice se' xe'.length xe'.length,.bool be',.slice sda xda.length xda.length,.bool bda,.slice sda' xda'.length xda'.length,.bool bda',.slice spb xpb.length xpb.length,.bool bpb,.slice spb' xpb'.length xpb'.length,.bool bpb',.slice spc xpc.length xpc.length,.bool bpc,.slice spc' xpc'.length xpc'.length,.bool bpc',.slice spd xpd.length xpd.length,.bool bpd,.slice spd' xpd'.length xpd'.length,.bool bpd'] 37 (0,0)):=J1 Bo 4 (.slice sda xda.length xda.length) (.bool bda) (.slice sda' xda'.length xda'.length) (.bool bda')
 generalize put4 w5 (aw3) 4 (.slice sda xda.length xda.length) (.bool bda) (.slice sda' xda'.length xda'.length) (.bool bda')=w6 at *
 replace fe:=fe.put4 Bo (by decide) 8 (.slice sdb xdb.length xdb.length) (.bool bdb) (.slice sdb' xdb'.length xdb'.length) (.bool bdb')
 replace qda:=qda.put4 Bo (by decide) 8 (.slice sdb xdb.length xdb.length) (.bool bdb) (.slice sdb' xdb'.length xdb'.length) (.bool bdb')
 replace qdb:=qdb.put4 Bo (by decide) 8 (.slice sdb xdb.length xdb.length) (.bool bdb) (.slice sdb' xdb'.length xdb'.length) (.bool bdb')
 replace qdc:=qdc.put4 Bo (by decide) 8 (.slice sdb xdb.length xdb.length) (.bool bdb) (.slice sdb' xdb'.length xdb'.length) (.bool bdb')
 replace qdd:=qdd.put4 Bo (by decide) 8 (.slice sdb xdb.length xdb.length) (.bool bdb) (.slice sdb' xdb'.length xdb'.length) (.bool bdb')
 replace hG:=N4 hG (show w.heap.size<=aw3 by omega) 8 (.slice sdb xdb.length xdb.length) (.bool bdb) (.slice sdb' xdb'.length xdb'.length) (.bool bdb')
 replace Bq:=aY Bq (show w.heap.size+1+1≠aw3 by omega) 8 (.slice sdb xdb.length xdb.length) (.bool bdb) (.slice sdb' xdb'.length xdb'.length) (.bool bdb')
 replace Bo:(put4 w6 (aw3) 8 (.slice sdb xdb.length xdb.length) (.bool bdb) (.slice sdb' xdb'.length xdb'.length) (.bool bdb')).heap[aw3]?=some (.cells #[.slice se xe.length xe.length,.bool be,.slice se' xe'.length xe'.length,.bool be',.slice sda xda.length xda.length,.bool bda,.slice sda' xda'.length xda'.length,.bool bda',.slice sdb xdb.length xdb.length,.bool bdb,.slice sdb' xdb'.length xdb'.length,.bool bdb',.slice spc xpc.length xpc.length,.bool bpc,.slice spc' xpc'.length xpc'.length,.bool bpc',.slice spd xpd.length xpd.length,.bool bpd,.slice spd' xpd'.length xpd'.length,.bool bpd'] 37 (0,0)):=J1 Bo 8 (.slice sdb xdb.length xdb.length) (.bool bdb) (.slice sdb' xdb'.length xdb'.length) (.bool bdb')
 generalize put4 w6 (aw3) 8 (.slice sdb xdb.length xdb.length) (.bool bdb) (.slice sdb' xdb'.length xdb'.length) (.bool bdb')=w7 at *
 replace fe:=fe.put4 Bo (by decide) 12 (.slice sdc xdc.length xdc.length) (.bool bdc) (.slice sdc' xdc'.length xdc'.length) (.bool bdc')
 replace qda:=qda.put4 Bo (by decide) 12 (.slice sdc xdc.length xdc.length) (.bool bdc) (.slice sdc' xdc'.length xdc'.length) (.bool bdc')
 replace qdb:=qdb.put4 Bo (by decide) 12 (.slice sdc xdc.length xdc.length) (.bool bdc) (.slice sdc' xdc'.length xdc'.length) (.bool bdc')
 replace qdc:=qdc.put4 Bo (by decide) 12 (.slice sdc xdc.length xdc.length) (.bool bdc) (.slice sdc' xdc'.length xdc'.length) (.bool bdc')
 replace qdd:=qdd.put4 Bo (by decide) 12 (.slice sdc xdc.length xdc.length) (.bool bdc) (.slice sdc' xdc'.length xdc'.length) (.bool bdc')
 replace hG:=N4 hG (show w.heap.size<=aw3 by omega) 12 (.slice sdc xdc.length xdc.length) (.bool bdc) (.slice sdc' xdc'.length xdc'.length) (.bool bdc')
 replace Bq:=aY Bq (show w.heap.size+1+1≠aw3 by omega) 12 (.slice sdc xdc.length xdc.length) (.bool bdc) (.slice sdc' xdc'.length xdc'.length) (.bool bdc')
 replace Bo:(put4 w7 (aw3) 12 (.slice sdc xdc.length xdc.length) (.bool bdc) (.slice sdc' xdc'.length xdc'.length) (.bool bdc')).heap[aw3]?=some (.cells #[.slice se xe.length xe.length,.bool be,.slice se' xe'.length xe'.length,.bool be',.slice sda xda.length xda.length,.bool bda,.slice sda' xda'.length xda'.length,.bool bda',.slice sdb xdb.length xdb.length,.bool bdb,.slice sdb' xdb'.length xdb'.length,.bool bdb',.slice sdc xdc.length xdc.length,.bool bdc,.slice sdc' xdc'.length xdc'.length,.bool bdc',.slice spd xpd.length xpd.length,.bool bpd,.slice spd' xpd'.length xpd'.length,.bool bpd'] 37 (0,0)):=J1 Bo 12 (.slice sdc xdc.length xdc.length) (.bool bdc) (.slice sdc' xdc'.length xdc'.length) (.bool bdc')
 generalize put4 w7 (aw3) 12 (.slice sdc xdc.length xdc.length) (.bool bdc) (.slice sdc' xdc'.length xdc'.length) (.bool bdc')=w8 at *
 replace fe:=fe.put4 Bo (by decide) 16 (.slice sdd xdd.length xdd.length) (.bool bdd) (.slice sdd' xdd'.length xdd'.length) (.bool bdd')
 replace qda:=qda.put4 Bo (by decide) 16 (.slice sdd xdd.length xdd.length) (.bool bdd) (.slice sdd' xdd'.length xdd'.length) (.bool bdd')
 replace qdb:=qdb.put4 Bo (by decide) 16 (.slice sdd xdd.length xdd.length) (.bool bdd) (.slice sdd' xdd'.length xdd'.length) (.bool bdd')
 replace qdc:=qdc.put4 Bo (by decide) 16 (.slice sdd xdd.length xdd.length) (.bool bdd) (.slice sdd' xdd'.length xdd'.length) (.bool bdd')
 replace qdd:=qdd.put4 Bo (by decide) 16 (.slice sdd xdd.length xdd.length) (.bool bdd) (.slice sdd' xdd'.length xdd'.length) (.bool bdd')
 replace hG:=N4 hG (show w.heap.size<=aw3 by omega) 16 (.slice sdd xdd.length xdd.length) (.bool bdd) (.slice sdd' xdd'.length xdd'.length) (.bool bdd')
 replace Bq:=aY Bq (show w.heap.size+1+1≠aw3 by omega) 16 (.slice sdd xdd.length xdd.length) (.bool bdd) (.slice sdd' xdd'.length xdd'.length) (.bool bdd')
 replace Bo:(put4 w8 (aw3) 16 (.slice sdd xdd.length xdd.length) (.bool bdd) (.slice sdd' xdd'.length xdd'.length) (.bool bdd')).heap[aw3]?=some (.cells #[.slice se xe.length xe.length,.bool be,.slice se' xe'.length xe'.length,.bool be',.slice sda xda.length xda.length,.bool bda,.slice sda' xda'.length xda'.length,.bool bda',.slice sdb xdb.length xdb.length,.bool bdb,.slice sdb' xdb'.length xdb'.length,.bool bdb',.slice sdc xdc.length xdc.length,.bool bdc,.slice sdc' xdc'.length xdc'.length,.bool bdc',.slice sdd xdd.length xdd.length,.bool bdd,.slice sdd' xdd'.length xdd'.length,.bool bdd'] 37 (0,0)):=J1 Bo 16 (.slice sdd xdd.length xdd.length) (.bool bdd) (.slice sdd' xdd'.length xdd'.length) (.bool bdd')
 generalize put4 w8 (aw3) 16 (.slice sdd xdd.length xdd.length) (.bool bdd) (.slice sdd' xdd'.length xdd'.length) (.bool bdd')=w9 at *
 go_upto_region 6 with (fail)
 refine wp_region_lit ?_
 refine wpList_load_mid rfl 37 (.tmp 8) rfl (aw3) 0 rfl [.slice se xe.length xe.length,.bool be,.slice se' xe'.length xe'.length,.bool be',.slice sda xda.length xda.length,.bool bda,.slice sda' xda'.length xda'.length,.bool bda',.slice sdb xdb.length xdb.length,.bool bdb,.slice sdb' xdb'.length xdb'.length,.bool bdb',.slice sdc xdc.length xdc.length,.bool bdc,.slice sdc' xdc'.length xdc'.length,.bool bdc',.slice sdd xdd.length xdd.length,.bool bdd,.slice sdd' xdd'.length xdd'.length,.bool bdd'] _ (dU Bo) Tryz.underlying37 rfl (by kernel_rfl) ?_
 refine wpList_store_mid rfl 37 (.tmp 6) (.tmp 36) rfl (w.heap.size+1+1) 0 _ rfl rfl (dM Bq) (by kernel_rfl) (by simp [Value.oneCell']) ?_
 have hF:Hid (J5 w (m) (n) (r0) (r1) (r2) (r3) (0) (.returned (.tuple #[.agg #[.slice se xe.length xe.length,.bool be,.slice se' xe'.length xe'.length,.bool be',.slice sda xda.length xda.length,.bool bda,.slice sda' xda'.length xda'.length,.bool bda',.slice sdb xdb.length xdb.length,.bool bdb,.slice sdb' xdb'.length xdb'.length,.bool bdb',.slice sdc xdc.length xdc.length,.bool bdc,.slice sdc' xdc'.length xdc'.length,.bool bdc',.slice sdd xdd.length xdd.length,.bool bdd,.slice sdd' xdd'.length xdd'.length,.bool bdd'],.int .i64 0])) (w9.setCells (w.heap.size+1+1) 0 [.slice se xe.length xe.length,.bool be,.slice se' xe'.length xe'.length,.bool be',.slice sda xda.length xda.length,.bool bda,.slice sda' xda'.length xda'.length,.bool bda',.slice sdb xdb.length xdb.length,.bool bdb,.slice sdb' xdb'.length xdb'.length,.bool bdb',.slice sdc xdc.length xdc.length,.bool bdc,.slice sdc' xdc'.length xdc'.length,.bool bdc',.slice sdd xdd.length xdd.length,.bool bdd,.slice sdd' xdd'.length xdd'.length,.bool bdd'])):=Lib.hid (fF hG Bq fe qda qdb qdc qdd)
 have hZ:Hid ((w9.setCells (w.heap.size+1+1) 0 [.slice se xe.length xe.length,.bool be,.slice se' xe'.length xe'.length,.bool be',.slice sda xda.length xda.length,.bool bda,.slice sda' xda'.length xda'.length,.bool bda',.slice sdb xdb.length xdb.length,.bool bdb,.slice sdb' xdb'.length xdb'.length,.bool bdb',.slice sdc xdc.length xdc.length,.bool bdc,.slice sdc' xdc'.length xdc'.length,.bool bdc',.slice sdd xdd.length xdd.length,.bool bdd,.slice sdd' xdd'.length xdd'.length,.bool bdd']).heap[w.heap.size+1+1]?=some (.cells #[.slice se xe.length xe.length,.bool be,.slice se' xe'.length xe'.length,.bool be',.slice sda xda.length xda.length,.bool bda,.slice sda' xda'.length xda'.length,.bool bda',.slice sdb xdb.length xdb.length,.bool bdb,.slice sdb' xdb'.length xdb'.length,.bool bdb',.slice sdc xdc.length xdc.length,.bool bdc,.slice sdc' xdc'.length xdc'.length,.bool bdc',.slice sdd xdd.length xdd.length,.bool bdd,.slice sdd' xdd'.length xdd'.length,.bool bdd'] 37 (0,0))):=Lib.hid (dP Bq)
 clear fe qda qdb qdc qdd Bq Bo hG
 change wpList _ _ _ _ _ (w9.setCells (w.heap.size+1+1) 0 [.slice se xe.length xe.length,.bool be,.slice se' xe'.length xe'.length,.bool be',.slice sda xda.length xda.length,.bool bda,.slice sda' xda'.length xda'.length,.bool bda',.slice sdb xdb.length xdb.length,.bool bdb,.slice sdb' xdb'.length xdb'.length,.bool bdb',.slice sdc xdc.length xdc.length,.bool bdc,.slice sdc' xdc'.length xdc'.length,.bool bdc',.slice sdd xdd.length xdd.length,.bool bdd,.slice sdd' xdd'.length xdd'.length,.bool bdd'])
 generalize w9.setCells (w.heap.size+1+1) 0 [.slice se xe.length xe.length,.bool be,.slice se' xe'.length xe'.length,.bool be',.slice sda xda.length xda.length,.bool bda,.slice sda' xda'.length xda'.length,.bool bda',.slice sdb xdb.length xdb.length,.bool bdb,.slice sdb' xdb'.length xdb'.length,.bool bdb',.slice sdc xdc.length xdc.length,.bool bdc,.slice sdc' xdc'.length xdc'.length,.bool bdc',.slice sdd xdd.length xdd.length,.bool bdd,.slice sdd' xdd'.length xdd'.length,.bool bdd']=w10 at *
 go_wp2_with fail
 have BQ:=hZ.out
 exact bodyPost_ret (S4 Tryz.results11 _ _ _ (w.heap.size+1+1) [.slice se xe.length xe.length,.bool be,.slice se' xe'.length xe'.length,.bool be',.slice sda xda.length xda.length,.bool bda,.slice sda' xda'.length xda'.length,.bool bda',.slice sdb xdb.length xdb.length,.bool bdb,.slice sdb' xdb'.length xdb'.length,.bool bdb',.slice sdc xdc.length xdc.length,.bool bdc,.slice sdc' xdc'.length xdc'.length,.bool bdc',.slice sdd xdd.length xdd.length,.bool bdd,.slice sdd' xdd'.length xdd'.length,.bool bdd'] _ rfl (dU BQ) Tryz.underlying37 rfl (by kernel_rfl) rfl) rfl hF.out
set_option maxHeartbeats 8000000 in
theorem SOf_bad (w:World) (va vb:Value) (s:Option Addr) (k c:Nat) (m n:Int) (r0 r1 r2 r3:Rat) (K:Nat) (Ha:IntV w va m) (Hb:IntV w vb n) (hK:K<=300000) (lm:m.natAbs<B^K) (ln:n.natAbs<B^K) (hbad:m<0\/n<0\/4<k) (hk63:k<=9223372036854775807) :
 Calls Tryz.prog 11 #[va,vb,.slice s k c] w (J5 w 0 0 0 0 0 0 1):=by
 have LM:=Lib.hid lm
 have LN:=Lib.hid ln
 clear lm ln
 obtain ⟨sm,hsm⟩:∃ z,m.sign=z:=⟨_,rfl⟩
 obtain ⟨sn,hsn⟩:∃ z,n.sign=z:=⟨_,rfl⟩
 have hcs:(decide (sm<0)=true)\/(decide (sm<0)=false/\decide (sn<0)=true)\/(decide (sm<0)=false/\decide (sn<0)=false/\decide (4<(k:Int))=true):=by
  rw [<- hsm, <- hsn]
  by_cases h1:m<0
  · left;exact decide_eq_true (Int.sign_neg_iff.2 h1)
  · have e1:decide (m.sign<0)=false:=decide_eq_false (by rw [Int.sign_neg_iff];exact h1)
    by_cases h2:n<0
    · right;left;exact ⟨e1,decide_eq_true (Int.sign_neg_iff.2 h2)⟩
    · right;right;exact ⟨e1,decide_eq_false (by rw [Int.sign_neg_iff];exact h2),decide_eq_true (by omega)⟩
 have HSM:=Lib.hid hsm;have HSN:=Lib.hid hsn;clear hsm hsn hbad
 have HCS:=Lib.hid hcs;clear hcs
 obtain ⟨sa,xa,ba,rfl,ha,va,ta⟩:=Ha
 obtain ⟨sb,xb,bb,rfl,hb,vb,tb⟩:=Hb
 have hG:w.grownBy (((w.alloc (.cells #[.slice sa xa.length xa.length,.bool ba] 28)).alloc (.cells #[.slice sb xb.length xb.length,.bool bb] 28)).alloc (.cells #[.slice none 0 0,.bool false,.slice none 0 0,.bool false,.slice none 0 0,.bool false,.slice none 0 0,.bool false,.slice none 0 0,.bool false,.slice none 0 0,.bool false,.slice none 0 0,.bool false,.slice none 0 0,.bool false,.slice none 0 0,.bool false,.slice none 0 0,.bool false] 37)) none:=(A8 (A8 (World.grownBy_alloc _ _ _) _) _)
 have Ba:=A1 (A8 (World.grownBy_alloc _ (.cells #[.slice sb xb.length xb.length,.bool bb] 28) none) (.cells #[.slice none 0 0,.bool false,.slice none 0 0,.bool false,.slice none 0 0,.bool false,.slice none 0 0,.bool false,.slice none 0 0,.bool false,.slice none 0 0,.bool false,.slice none 0 0,.bool false,.slice none 0 0,.bool false,.slice none 0 0,.bool false,.slice none 0 0,.bool false] 37)) (A4 w (.cells #[.slice sa xa.length xa.length,.bool ba] 28) (w.heap.size) rfl)
 have Bb:=A1 (World.grownBy_alloc _ (.cells #[.slice none 0 0,.bool false,.slice none 0 0,.bool false,.slice none 0 0,.bool false,.slice none 0 0,.bool false,.slice none 0 0,.bool false,.slice none 0 0,.bool false,.slice none 0 0,.bool false,.slice none 0 0,.bool false,.slice none 0 0,.bool false,.slice none 0 0,.bool false] 37) none) (A4 (w.alloc (.cells #[.slice sa xa.length xa.length,.bool ba] 28)) (.cells #[.slice sb xb.length xb.length,.bool bb] 28) (w.heap.size+1) (by simp))
 have Bq:=(A4 ((w.alloc (.cells #[.slice sa xa.length xa.length,.bool ba] 28)).alloc (.cells #[.slice sb xb.length xb.length,.bool bb] 28)) (.cells #[.slice none 0 0,.bool false,.slice none 0 0,.bool false,.slice none 0 0,.bool false,.slice none 0 0,.bool false,.slice none 0 0,.bool false,.slice none 0 0,.bool false,.slice none 0 0,.bool false,.slice none 0 0,.bool false,.slice none 0 0,.bool false,.slice none 0 0,.bool false] 37) (w.heap.size+1+1) (by simp))
 have ia:IntV (((w.alloc (.cells #[.slice sa xa.length xa.length,.bool ba] 28)).alloc (.cells #[.slice sb xb.length xb.length,.bool bb] 28)).alloc (.cells #[.slice none 0 0,.bool false,.slice none 0 0,.bool false,.slice none 0 0,.bool false,.slice none 0 0,.bool false,.slice none 0 0,.bool false,.slice none 0 0,.bool false,.slice none 0 0,.bool false,.slice none 0 0,.bool false,.slice none 0 0,.bool false,.slice none 0 0,.bool false] 37)) (.agg #[.slice sa xa.length xa.length,.bool ba]) (m):=⟨sa,xa,ba,rfl,ha.kept hG,va,ta⟩
 have ib:IntV (((w.alloc (.cells #[.slice sa xa.length xa.length,.bool ba] 28)).alloc (.cells #[.slice sb xb.length xb.length,.bool bb] 28)).alloc (.cells #[.slice none 0 0,.bool false,.slice none 0 0,.bool false,.slice none 0 0,.bool false,.slice none 0 0,.bool false,.slice none 0 0,.bool false,.slice none 0 0,.bool false,.slice none 0 0,.bool false,.slice none 0 0,.bool false,.slice none 0 0,.bool false,.slice none 0 0,.bool false] 37)) (.agg #[.slice sb xb.length xb.length,.bool bb]) (n):=⟨sb,xb,bb,rfl,hb.kept hG,vb,tb⟩
 have oa:IntV w (.agg #[.slice sa xa.length xa.length,.bool ba]) (m):=⟨sa,xa,ba,rfl,ha,va,ta⟩
 clear ha va ta
 have ob:IntV w (.agg #[.slice sb xb.length xb.length,.bool bb]) (n):=⟨sb,xb,bb,rfl,hb,vb,tb⟩
 clear hb vb tb
 go_enter Tryz.func11,Tryz.ntmps11
 obtain ⟨Ca0,Ca1,Fa0,Fa1⟩:=A3 Ba
 obtain ⟨Cb0,Cb1,Fb0,Fb1⟩:=A3 Bb
 go_wp2_with fail
 generalize (((w.alloc (.cells #[.slice sa xa.length xa.length,.bool ba] 28)).alloc (.cells #[.slice sb xb.length xb.length,.bool bb] 28)).alloc (.cells #[.slice none 0 0,.bool false,.slice none 0 0,.bool false,.slice none 0 0,.bool false,.slice none 0 0,.bool false,.slice none 0 0,.bool false,.slice none 0 0,.bool false,.slice none 0 0,.bool false,.slice none 0 0,.bool false,.slice none 0 0,.bool false,.slice none 0 0,.bool false] 37))=w0 at *
 clear Ca0 Ca1 Fa0 Fa1 Cb0 Cb1 Fb0 Fb1
 refine (D5 w0 _ m K ia (by omega) LM.out).mono ?_
 rintro e w1 ⟨rfl,gw1⟩
 rw [HSM.out]
 replace Ba:=A1 gw1 Ba
 replace Bb:=A1 gw1 Bb
 replace Bq:=A1 gw1 Bq
 replace ia:=ia.kept gw1
 replace ib:=ib.kept gw1
 replace hG:=A2 hG gw1
 clear gw1
 obtain ⟨Ca0,Ca1,Fa0,Fa1⟩:=A3 Ba
 obtain ⟨Cb0,Cb1,Fb0,Fb1⟩:=A3 Bb
 rcases HCS.out with f1 | ⟨f1,f2⟩ | ⟨f1,f2,f3⟩
 · skip
   go_upto_region 2 with (fail)
   clear Ca0 Ca1 Fa0 Fa1 Cb0 Cb1 Fb0 Fb1
   refine wp_region_lit ?_
   refine wpList_plain rfl (fun K9 hK9=>?_)
   go_simp
   refine hK9 _ _ ?_;clear hK9 K9
   refine wpList_store_mid rfl 37 (.tmp 6) (.tmp 22) rfl (w.heap.size+1+1) 0 _ rfl rfl (dM Bq) (by kernel_rfl) (by simp [Value.oneCell']) ?_
   have hF:Hid (J5 w (0) (0) (0) (0) (0) (0) (1) (.returned (.tuple #[.agg #[.slice none 0 0,.bool false,.slice none 0 0,.bool false,.slice none 0 0,.bool false,.slice none 0 0,.bool false,.slice none 0 0,.bool false,.slice none 0 0,.bool false,.slice none 0 0,.bool false,.slice none 0 0,.bool false,.slice none 0 0,.bool false,.slice none 0 0,.bool false],.int .i64 1])) (w1.setCells (w.heap.size+1+1) 0 [.slice none 0 0,.bool false,.slice none 0 0,.bool false,.slice none 0 0,.bool false,.slice none 0 0,.bool false,.slice none 0 0,.bool false,.slice none 0 0,.bool false,.slice none 0 0,.bool false,.slice none 0 0,.bool false,.slice none 0 0,.bool false,.slice none 0 0,.bool false])):=Lib.hid (fF (sf:=none) (xf:=[]) (bf:=false) (sf':=none) (xf':=[]) (bf':=false) (sa:=none) (xa:=[]) (ba:=false) (sa':=none) (xa':=[]) (ba':=false) (sb:=none) (xb:=[]) (bb:=false) (sb':=none) (xb':=[]) (bb':=false) (sc:=none) (xc:=[]) (bc:=false) (sc':=none) (xc':=[]) (bc':=false) (sd:=none) (xd:=[]) (bd:=false) (sd':=none) (xd':=[]) (bd':=false) hG Bq (TwoV.zero _) (RatV.zero _) (RatV.zero _) (RatV.zero _) (RatV.zero _))
   have hZ:Hid ((w1.setCells (w.heap.size+1+1) 0 [.slice none 0 0,.bool false,.slice none 0 0,.bool false,.slice none 0 0,.bool false,.slice none 0 0,.bool false,.slice none 0 0,.bool false,.slice none 0 0,.bool false,.slice none 0 0,.bool false,.slice none 0 0,.bool false,.slice none 0 0,.bool false,.slice none 0 0,.bool false]).heap[w.heap.size+1+1]?=some (.cells #[.slice none 0 0,.bool false,.slice none 0 0,.bool false,.slice none 0 0,.bool false,.slice none 0 0,.bool false,.slice none 0 0,.bool false,.slice none 0 0,.bool false,.slice none 0 0,.bool false,.slice none 0 0,.bool false,.slice none 0 0,.bool false,.slice none 0 0,.bool false] 37 (0,0))):=Lib.hid (dP Bq)
   clear ia ib Ba Bb Bq hG
   change wpList _ _ _ _ _ (w1.setCells (w.heap.size+1+1) 0 [.slice none 0 0,.bool false,.slice none 0 0,.bool false,.slice none 0 0,.bool false,.slice none 0 0,.bool false,.slice none 0 0,.bool false,.slice none 0 0,.bool false,.slice none 0 0,.bool false,.slice none 0 0,.bool false,.slice none 0 0,.bool false,.slice none 0 0,.bool false])
   generalize w1.setCells (w.heap.size+1+1) 0 [.slice none 0 0,.bool false,.slice none 0 0,.bool false,.slice none 0 0,.bool false,.slice none 0 0,.bool false,.slice none 0 0,.bool false,.slice none 0 0,.bool false,.slice none 0 0,.bool false,.slice none 0 0,.bool false,.slice none 0 0,.bool false,.slice none 0 0,.bool false]=avw2 at *
   go_wp2_with fail
   have BQ:=hZ.out
   exact bodyPost_ret (S4 Tryz.results11 _ _ _ (w.heap.size+1+1) [.slice none 0 0,.bool false,.slice none 0 0,.bool false,.slice none 0 0,.bool false,.slice none 0 0,.bool false,.slice none 0 0,.bool false,.slice none 0 0,.bool false,.slice none 0 0,.bool false,.slice none 0 0,.bool false,.slice none 0 0,.bool false,.slice none 0 0,.bool false] _ rfl (dU BQ) Tryz.underlying37 rfl (by kernel_rfl) rfl) rfl hF.out
 · skip
   go_wp2_with fail
   clear Ca0 Ca1 Fa0 Fa1 Cb0 Cb1 Fb0 Fb1
   refine (D5 w1 _ n K ib (by omega) LN.out).mono ?_
   rintro e bw2 ⟨rfl,gbw2⟩
   rw [HSN.out]
   replace Ba:=A1 gbw2 Ba
   replace Bb:=A1 gbw2 Bb
   replace Bq:=A1 gbw2 Bq
   replace ia:=ia.kept gbw2
   replace ib:=ib.kept gbw2
   replace hG:=A2 hG gbw2
   clear gbw2
   obtain ⟨Ca0,Ca1,Fa0,Fa1⟩:=A3 Ba
   obtain ⟨Cb0,Cb1,Fb0,Fb1⟩:=A3 Bb
   go_upto_region 2 with (fail)
   clear Ca0 Ca1 Fa0 Fa1 Cb0 Cb1 Fb0 Fb1
   refine wp_region_lit ?_
   refine wpList_plain rfl (fun K9 hK9=>?_)
   go_simp
   refine hK9 _ _ ?_;clear hK9 K9
   refine wpList_store_mid rfl 37 (.tmp 6) (.tmp 22) rfl (w.heap.size+1+1) 0 _ rfl rfl (dM Bq) (by kernel_rfl) (by simp [Value.oneCell']) ?_
   have hF:Hid (J5 w (0) (0) (0) (0) (0) (0) (1) (.returned (.tuple #[.agg #[.slice none 0 0,.bool false,.slice none 0 0,.bool false,.slice none 0 0,.bool false,.slice none 0 0,.bool false,.slice none 0 0,.bool false,.slice none 0 0,.bool false,.slice none 0 0,.bool false,.slice none 0 0,.bool false,.slice none 0 0,.bool false,.slice none 0 0,.bool false],.int .i64 1])) (bw2.setCells (w.heap.size+1+1) 0 [.slice none 0 0,.bool false,.slice none 0 0,.bool false,.slice none 0 0,.bool false,.slice none 0 0,.bool false,.slice none 0 0,.bool false,.slice none 0 0,.bool false,.slice none 0 0,.bool false,.slice none 0 0,.bool false,.slice none 0 0,.bool false,.slice none 0 0,.bool false])):=Lib.hid (fF (sf:=none) (xf:=[]) (bf:=false) (sf':=none) (xf':=[]) (bf':=false) (sa:=none) (xa:=[]) (ba:=false) (sa':=none) (xa':=[]) (ba':=false) (sb:=none) (xb:=[]) (bb:=false) (sb':=none) (xb':=[]) (bb':=false) (sc:=none) (xc:=[]) (bc:=false) (sc':=none) (xc':=[]) (bc':=false) (sd:=none) (xd:=[]) (bd:=false) (sd':=none) (xd':=[]) (bd':=false) hG Bq (TwoV.zero _) (RatV.zero _) (RatV.zero _) (RatV.zero _) (RatV.zero _))
   have hZ:Hid ((bw2.setCells (w.heap.size+1+1) 0 [.slice none 0 0,.bool false,.slice none 0 0,.bool false,.slice none 0 0,.bool false,.slice none 0 0,.bool false,.slice none 0 0,.bool false,.slice none 0 0,.bool false,.slice none 0 0,.bool false,.slice none 0 0,.bool false,.slice none 0 0,.bool false,.slice none 0 0,.bool false]).heap[w.heap.size+1+1]?=some (.cells #[.slice none 0 0,.bool false,.slice none 0 0,.bool false,.slice none 0 0,.bool false,.slice none 0 0,.bool false,.slice none 0 0,.bool false,.slice none 0 0,.bool false,.slice none 0 0,.bool false,.slice none 0 0,.bool false,.slice none 0 0,.bool false,.slice none 0 0,.bool false] 37 (0,0))):=Lib.hid (dP Bq)
   clear ia ib Ba Bb Bq hG
   change wpList _ _ _ _ _ (bw2.setCells (w.heap.size+1+1) 0 [.slice none 0 0,.bool false,.slice none 0 0,.bool false,.slice none 0 0,.bool false,.slice none 0 0,.bool false,.slice none 0 0,.bool false,.slice none 0 0,.bool false,.slice none 0 0,.bool false,.slice none 0 0,.bool false,.slice none 0 0,.bool false,.slice none 0 0,.bool false])
   generalize bw2.setCells (w.heap.size+1+1) 0 [.slice none 0 0,.bool false,.slice none 0 0,.bool false,.slice none 0 0,.bool false,.slice none 0 0,.bool false,.slice none 0 0,.bool false,.slice none 0 0,.bool false,.slice none 0 0,.bool false,.slice none 0 0,.bool false,.slice none 0 0,.bool false,.slice none 0 0,.bool false]=bvw3 at *
   go_wp2_with fail
   have BQ:=hZ.out
   exact bodyPost_ret (S4 Tryz.results11 _ _ _ (w.heap.size+1+1) [.slice none 0 0,.bool false,.slice none 0 0,.bool false,.slice none 0 0,.bool false,.slice none 0 0,.bool false,.slice none 0 0,.bool false,.slice none 0 0,.bool false,.slice none 0 0,.bool false,.slice none 0 0,.bool false,.slice none 0 0,.bool false,.slice none 0 0,.bool false] _ rfl (dU BQ) Tryz.underlying37 rfl (by kernel_rfl) rfl) rfl hF.out
 · skip
   go_wp2_with fail
   clear Ca0 Ca1 Fa0 Fa1 Cb0 Cb1 Fb0 Fb1
   refine (D5 w1 _ n K ib (by omega) LN.out).mono ?_
   rintro e cw2 ⟨rfl,gcw2⟩
   rw [HSN.out]
   replace Ba:=A1 gcw2 Ba
   replace Bb:=A1 gcw2 Bb
   replace Bq:=A1 gcw2 Bq
   replace ia:=ia.kept gcw2
   replace ib:=ib.kept gcw2
   replace hG:=A2 hG gcw2
   clear gcw2
   obtain ⟨Ca0,Ca1,Fa0,Fa1⟩:=A3 Ba
   obtain ⟨Cb0,Cb1,Fb0,Fb1⟩:=A3 Bb
   go_upto_region 2 with (fail)
   clear Ca0 Ca1 Fa0 Fa1 Cb0 Cb1 Fb0 Fb1
   refine wp_region_lit ?_
   refine wpList_plain rfl (fun K9 hK9=>?_)
   go_simp
   refine hK9 _ _ ?_;clear hK9 K9
   refine wpList_store_mid rfl 37 (.tmp 6) (.tmp 22) rfl (w.heap.size+1+1) 0 _ rfl rfl (dM Bq) (by kernel_rfl) (by simp [Value.oneCell']) ?_
   have hF:Hid (J5 w (0) (0) (0) (0) (0) (0) (1) (.returned (.tuple #[.agg #[.slice none 0 0,.bool false,.slice none 0 0,.bool false,.slice none 0 0,.bool false,.slice none 0 0,.bool false,.slice none 0 0,.bool false,.slice none 0 0,.bool false,.slice none 0 0,.bool false,.slice none 0 0,.bool false,.slice none 0 0,.bool false,.slice none 0 0,.bool false],.int .i64 1])) (cw2.setCells (w.heap.size+1+1) 0 [.slice none 0 0,.bool false,.slice none 0 0,.bool false,.slice none 0 0,.bool false,.slice none 0 0,.bool false,.slice none 0 0,.bool false,.slice none 0 0,.bool false,.slice none 0 0,.bool false,.slice none 0 0,.bool false,.slice none 0 0,.bool false,.slice none 0 0,.bool false])):=Lib.hid (fF (sf:=none) (xf:=[]) (bf:=false) (sf':=none) (xf':=[]) (bf':=false) (sa:=none) (xa:=[]) (ba:=false) (sa':=none) (xa':=[]) (ba':=false) (sb:=none) (xb:=[]) (bb:=false) (sb':=none) (xb':=[]) (bb':=false) (sc:=none) (xc:=[]) (bc:=false) (sc':=none) (xc':=[]) (bc':=false) (sd:=none) (xd:=[]) (bd:=false) (sd':=none) (xd':=[]) (bd':=false) hG Bq (TwoV.zero _) (RatV.zero _) (RatV.zero _) (RatV.zero _) (RatV.zero _))
   have hZ:Hid ((cw2.setCells (w.heap.size+1+1) 0 [.slice none 0 0,.bool false,.slice none 0 0,.bool false,.slice none 0 0,.bool false,.slice none 0 0,.bool false,.slice none 0 0,.bool false,.slice none 0 0,.bool false,.slice none 0 0,.bool false,.slice none 0 0,.bool false,.slice none 0 0,.bool false,.slice none 0 0,.bool false]).heap[w.heap.size+1+1]?=some (.cells #[.slice none 0 0,.bool false,.slice none 0 0,.bool false,.slice none 0 0,.bool false,.slice none 0 0,.bool false,.slice none 0 0,.bool false,.slice none 0 0,.bool false,.slice none 0 0,.bool false,.slice none 0 0,.bool false,.slice none 0 0,.bool false,.slice none 0 0,.bool false] 37 (0,0))):=Lib.hid (dP Bq)
   clear ia ib Ba Bb Bq hG
   change wpList _ _ _ _ _ (cw2.setCells (w.heap.size+1+1) 0 [.slice none 0 0,.bool false,.slice none 0 0,.bool false,.slice none 0 0,.bool false,.slice none 0 0,.bool false,.slice none 0 0,.bool false,.slice none 0 0,.bool false,.slice none 0 0,.bool false,.slice none 0 0,.bool false,.slice none 0 0,.bool false,.slice none 0 0,.bool false])
   generalize cw2.setCells (w.heap.size+1+1) 0 [.slice none 0 0,.bool false,.slice none 0 0,.bool false,.slice none 0 0,.bool false,.slice none 0 0,.bool false,.slice none 0 0,.bool false,.slice none 0 0,.bool false,.slice none 0 0,.bool false,.slice none 0 0,.bool false,.slice none 0 0,.bool false,.slice none 0 0,.bool false]=cvw3 at *
   go_wp2_with fail
   have BQ:=hZ.out
   exact bodyPost_ret (S4 Tryz.results11 _ _ _ (w.heap.size+1+1) [.slice none 0 0,.bool false,.slice none 0 0,.bool false,.slice none 0 0,.bool false,.slice none 0 0,.bool false,.slice none 0 0,.bool false,.slice none 0 0,.bool false,.slice none 0 0,.bool false,.slice none 0 0,.bool false,.slice none 0 0,.bool false,.slice none 0 0,.bool false] _ rfl (dU BQ) Tryz.underlying37 rfl (by kernel_rfl) rfl) rfl hF.out
end Go.Proofs.YtdgdmicbbfoghaaGreatDoor
namespace Go.Proofs.YtdgdmicbbfoghaaGreatDoor
open Go.RowKit Mat Ex
def QtAt (w:World) (cs:Array Value) (o:Nat) (p:Rat):Prop:=∃ a b c d:Value,cs[o]?=some a/\cs[o+1]?=some b/\cs[o+2]?=some c/\cs[o+3]?=some d/\RatV w (.agg #[a,b,c,d]) p
def RsV (w:World) (v:Value) (l:List Rat):Prop:=∃ s n c,v = .slice s n c/\l.length=n/\n<=c/\(l=[] \/ ∃ b off cs,s=some ⟨b,off,none⟩/\w.heap[b]?=some (.cells cs 30 (0,0)) /\ ∀ i (h:i<l.length),QtAt w cs (off+4*i) l[i])
theorem QtAt.keeps {W W':World} {cs:Array Value} {o:Nat} {p:Rat} (h:QtAt W cs o p) (k:Keeps L6 W W'):QtAt W' cs o p:=by
 obtain ⟨a,b,c,d,h1,h2,h3,h4,h9⟩:=h
 exact ⟨a,b,c,d,h1,h2,h3,h4,h9.keeps k⟩
theorem RsV.keeps {W W':World} {v:Value} {l:List Rat} (h:RsV W v l) (k:Keeps L6 W W') (hq:∀ q,fpS v q->W'.heap[q]?=W.heap[q]?):RsV W' v l:=by
 obtain ⟨s,n,c,rfl,hl,hn,h⟩:=h
 refine ⟨s,n,c,rfl,hl,hn, ?_⟩
 by_cases h0:l=[]
 · exact .inl h0
 · obtain ⟨b,off,cs,rfl,hb,hc⟩:=h.resolve_left h0
   obtain ⟨m,rfl⟩:∃ m,n=m+1:=⟨n-1,by have:=List.length_pos_iff.2 h0;omega⟩
   exact .inr ⟨b,off,cs,rfl,by rw [hq b ⟨off,m,c,rfl⟩];exact hb,fun i hi=>(hc i hi).keeps k⟩
theorem RsV.inb {W:World} {v:Value} {l:List Rat} (h:RsV W v l) (q:Nat) (hq:fpS v q):q<W.heap.size:=by
 obtain ⟨s,n,c,rfl,hl,hn,h⟩:=h
 obtain ⟨off,m,c',e⟩:=hq
 cases e
 rcases h with h | ⟨b,off',cs,e,hb,_⟩
 · rw [h] at hl;simp at hl
 · cases e;exact (Array.getElem?_eq_some_iff.1 hb).1
section
variable {ρ : Operand->Value} {o:Oper} {W:World}
theorem iB {t:TypeId} {x:Operand} {v:Value} {l:List Rat} (h:RsV W v l) (ho:o.op = .call ⟨.builtin .len, #[x], #[t]⟩) (hx : ρ x=v) (hu:∃ el,Tryz.prog.underlying t=some (.slice el)) :
 (execOp ρ o).run Tryz.prog W = .ok (.value (.int .i64 l.length)) W:=by
 obtain ⟨s,n,c,rfl,hl,hn,h⟩:=h
 obtain ⟨el,hu⟩:=hu
 simp [execOp,ho,resolve,invoke,builtin,Builtin.len_,run_underlying hu W,hx,goInt,hl]
end
def kRat:lQ Rat:=⟨30,4,fun w cs p=>RatV w (.agg cs.toArray) p,fun h k=>h.keeps k,by kernel_rfl⟩
theorem OwV.rs {base:Nat} {W:World} {v:Value} {l:List Rat} (h:OwV kRat base W v l):RsV W v l:=by
 obtain ⟨xs,⟨hl,h2⟩,hA⟩:=h
 rcases h2 with ⟨rfl,h0⟩ | ⟨g,cap,cur,rfl,hbg,hg,hnc,hcm,hcs,htk⟩
 · exact ⟨none,0,0,rfl,h0,Nat.le_refl _,.inl (List.eq_nil_of_length_eq_zero h0)⟩
 · refine ⟨_,_,_,rfl,rfl,hnc,.inr ⟨g,0,cur,rfl,hg,fun i hi=>?_⟩⟩
   have hx:∀ j,j<4->cur[0+4*i+j]?=((xs.drop (4*i)).take 4)[j]?:=fun j hj=>by
    have hlt : 4*i+j<l.length*4:=by omega
    rw [List.getElem?_take_of_lt hj,List.getElem?_drop, <- htk,List.getElem?_take_of_lt (show 4*i+j<l.length*kRat.z from hlt)]
    simp
   obtain ⟨s,ys,b,s',ys',b',e1,h1⟩:=hA i hi
   have e2:(xs.drop (4*i)).take 4=[.slice s ys.length ys.length,.bool b,.slice s' ys'.length ys'.length,.bool b']:=by
    have:=congrArg (fun v=>match v with | Value.agg x=>x.toList | _=>[]) e1
    exact (show (xs.drop (kRat.z*i)).take kRat.z=_ by simpa using this)
   rw [e2] at hx
   exact ⟨_,_,_,_,hx 0 (by omega),hx 1 (by omega),hx 2 (by omega),hx 3 (by omega),s,ys,b,s',ys',b',rfl,h1⟩
theorem W0 {w:World} {a b c d:Value} {r:Rat} (h:RatV w (.agg #[a,b,c,d]) r):∀ u ∈ [a,b,c,d],u.oneCell'=true:=by
 obtain ⟨i1,i2,i3,i4⟩:=h.one
 simp [i1,i2,i3,i4]
theorem gF {w w':World} {b o:Nat} (h:w'.heap[b]?=w.heap[b]?):w'.cell? ⟨b,o,none⟩=w.cell? ⟨b,o,none⟩:=by unfold World.cell?;rw [h]
theorem kA {w:World} {b o:Nat} {v:Value} (h:w.cell? ⟨b,o,none⟩=some v):b<w.heap.size:=by
 unfold World.cell? at h
 cases hb:w.heap[b]? with
 | none=>simp [hb] at h
 | some x=>exact (Array.getElem?_eq_some_iff.1 hb).1
def StV (base:Nat) (w:World) (v:Value) (l:List ByteArray):Prop:=∃ s n c,v = .slice s n c/\l.length=n/\n<=c/\(l=[] \/ ∃ b off,s=some ⟨b,off,none⟩/\b<base /\ ∀ i (h:i<l.length),w.cell? ⟨b,off+i,none⟩=some (.string l[i]))
theorem StV.block {base:Nat} {w:World} {v:Value} {l:List ByteArray} (h:StV base w v l) {q:Nat} (hq:fpS v q):q<base/\q<w.heap.size:=by
 obtain ⟨s,n,c,rfl,hl,hn,h⟩:=h
 obtain ⟨off,m,c',e⟩:=hq
 cases e
 rcases h with h | ⟨b,off',e,hb,hd⟩
 · rw [h] at hl;simp at hl
 · cases e;exact ⟨hb,kA (hd 0 (by omega))⟩
theorem StV.keeps {base:Nat} {W W':World} {v:Value} {l:List ByteArray} (h:StV base W v l) (hq:∀ q,fpS v q->W'.heap[q]?=W.heap[q]?):StV base W' v l:=by
 obtain ⟨s,n,c,rfl,hl,hn,h⟩:=h
 refine ⟨s,n,c,rfl,hl,hn, ?_⟩
 by_cases h0:l=[]
 · exact .inl h0
 · obtain ⟨b,off,rfl,hb,hc⟩:=h.resolve_left h0
   obtain ⟨m,rfl⟩:∃ m,n=m+1:=⟨n-1,by have:=List.length_pos_iff.2 h0;omega⟩
   exact .inr ⟨b,off,rfl,hb,fun i hi=>(gF (hq b ⟨off,m,c,rfl⟩)).trans (hc i hi)⟩
def NmV (base:Nat) (w:World) (v:Value) (m n:Int) (l:List ByteArray):Prop:=∃ u,v = .agg #[.int .i64 m,.int .i64 n,u]/\StV base w u l
def fpN (v:Value) (q:Nat):Prop:=∃ a b u,v = .agg #[a,b,u]/\fpS u q
theorem NmV.block {base:Nat} {w:World} {v:Value} {m n:Int} {l:List ByteArray} (h:NmV base w v m n l) {q:Nat} (hq:fpN v q):q<base/\q<w.heap.size:=by
 obtain ⟨u,rfl,h⟩:=h
 obtain ⟨a,b,t,e,hq⟩:=hq
 cases e;exact h.block hq
theorem NmV.keeps {base:Nat} {W W':World} {v:Value} {m n:Int} {l:List ByteArray} (h:NmV base W v m n l) (hq:∀ q,fpN v q->W'.heap[q]?=W.heap[q]?):NmV base W' v m n l:=by
 obtain ⟨u,rfl,h⟩:=h
 exact ⟨u,rfl,h.keeps fun q hf=>hq q ⟨_,_,u,rfl,hf⟩⟩
theorem NmV.parts {base:Nat} {w:World} {a b c:Value} {m n:Int} {l:List ByteArray} (h:NmV base w (.agg #[a,b,c]) m n l):a = .int .i64 m/\b = .int .i64 n/\StV base w c l:=by
 obtain ⟨u,e,h⟩:=h
 cases e;exact ⟨rfl,rfl,h⟩
def sNm (base:Nat) (m n:Int) (l:List ByteArray):Sp where
 sh := .agg 3
 F v W:=NmV base W v m n l
 fits v W h:=by
  obtain ⟨u,rfl,s,k,c,rfl,_⟩:=h
  exact ⟨P5 [.int .i64 m,.int .i64 n,.slice s k c],F4 (by simp [Value.oneCell']),rfl⟩
 row:=true
 fp v _ q:=fpN v q
 lasts v W W' k hq h:=⟨h.keeps hq,fun _ h=>h⟩
 inb v W h q hq:=(h.block hq).2
 flat h:=by cases h
def SaV (base:Nat) (w:World) (v:Value) (s:ByteArray):Prop:=∃ b off,v = .pointer (some ⟨b,off,none⟩)/\b<base/\w.cell? ⟨b,off,none⟩=some (.string s)
theorem SaV.block {base:Nat} {w:World} {v:Value} {s:ByteArray} (h:SaV base w v s) {q:Nat} (hq:fpP v q):q<base/\q<w.heap.size:=by
 obtain ⟨b,off,rfl,hb,hd⟩:=h
 obtain ⟨o,e⟩:=hq
 cases e;exact ⟨hb,kA hd⟩
def sSa (base:Nat) (s:ByteArray):Sp where
 sh := .one
 F v W:=SaV base W v s
 fits v W h:=by obtain ⟨b,off,rfl,_⟩:=h;exact ⟨fun _ => .pointer (some ⟨b,off,none⟩),fun _=>rfl,rfl⟩
 row:=true
 fp v _ q:=fpP v q
 lasts v W W' k hq h:=by
  obtain ⟨b,off,rfl,hb,hc⟩:=h
  exact ⟨⟨b,off,rfl,hb,(gF (hq b ⟨off,rfl⟩)).trans hc⟩,fun _ h=>h⟩
 inb v W h q hq:=(h.block hq).2
 flat h:=by cases h
section
variable {ρ : Operand->Value} {o:Oper} {W:World}
theorem oL {t:TypeId} {x:Operand} {v:Value} {l:List ByteArray} {base:Nat} (h:StV base W v l) (ho:o.op = .call ⟨.builtin .len, #[x], #[t]⟩) (hx : ρ x=v) (hu:∃ el,Tryz.prog.underlying t=some (.slice el)) :
 (execOp ρ o).run Tryz.prog W = .ok (.value (.int .i64 l.length)) W:=by
 obtain ⟨s,n,c,rfl,hl,hn,h⟩:=h
 obtain ⟨el,hu⟩:=hu
 simp [execOp,ho,resolve,invoke,builtin,Builtin.len_,run_underlying hu W,hx,goInt,hl]
theorem st_at {x y:Operand} {v:Value} {l:List ByteArray} {base:Nat} (h:StV base W v l) (ho:o.op = .indexAddr 49 x y) (hx : ρ x=v) (k:Nat) (hk:k<l.length) (hy : ρ y = .int .i64 k) :
 ∃ u,(execOp ρ o).run Tryz.prog W = .ok (.value u) W/\SaV base W u l[k] /\ ∀ q,fpP u q->fpS v q:=by
 obtain ⟨s,n,c,rfl,hl,hn,h⟩:=h
 obtain ⟨b,off,rfl,hb,hc⟩:=h.resolve_left (fun e=>by rw [e] at hk;simp at hk)
 have hu:Tryz.prog.underlying 49=some (.slice 9):=by kernel_rfl
 have hz:S3 Tryz.prog 9=some 1:=by kernel_rfl
 obtain ⟨m,rfl⟩:∃ m,n=m+1:=⟨n-1,by omega⟩
 have hk':(0:Int)<=(k:Int)/\(k:Int)<((m+1:Nat):Int):=by omega
 refine ⟨.pointer (some ⟨b,off+k,none⟩), ?_,⟨b,off+k,rfl,hb,hc k hk⟩,fun q ⟨o',e⟩=>by cases e;exact ⟨off,m,c,rfl⟩⟩
 simp only [execOp,ho,hx,hy,Instr.indexAt,asIntOf,Sem.run_bind,Sem.run_pure,run_underlying hu W,Result.andThen_ok,hk',and_self,if_true,H7 Tryz.prog hz W,Instr.sureAddr,Addr.add_mid]
 rw [show (k:Int).toNat*1=k by omega]
theorem Q6 {x:Operand} {v:Value} {s:ByteArray} {base:Nat} (h:SaV base W v s) (ho:o.op = .load 9 x) (hx : ρ x=v) :
 (execOp ρ o).run Tryz.prog W = .ok (.value (.string s)) W:=by
 obtain ⟨q,off,rfl,hb,h1⟩:=h
 have ha:aggT Tryz.prog 9=some false:=by kernel_rfl
 simp only [execOp,ho,hx,Instr.loadAt,Instr.sureAddr,loadVar,Sem.run_bind,Sem.run_pure,Result.andThen_ok,aK Tryz.prog ha W]
 simp [run_load,h1]
end
theorem OwV.qsl {base:Nat} {W:World} {v:Value} {l:List Rat} (h:OwV kRat base W v l):∃ s c,v = .slice s l.length c/\QSl W s l.length l:=by
 obtain ⟨s,n,c,rfl,hl,hn,h'⟩:=h.rs
 subst hl
 refine ⟨s,c,rfl,rfl, ?_⟩
 rcases h' with h0 | ⟨b,off,cs,hs,hb,hc⟩
 · left;rw [h0];rfl
 · obtain ⟨xs,⟨hl,h2⟩,hA⟩:=h
   rcases h2 with ⟨e,h0⟩ | ⟨g,cap,cur,e,_⟩
   · have e1:=(Value.slice.injEq .. ▸ e:s=none/\_).1
     rw [e1] at hs;cases hs
   · have e1:=(Value.slice.injEq .. ▸ e:s=_/\_).1
     rw [e1] at hs;cases hs;rw [e1]
     refine .inr ⟨_,cs,rfl,hb,fun i hi=>?_⟩
     obtain ⟨a,b,c,d,h1,h2,h3,h4,h9⟩:=hc i hi
     rw [Nat.zero_add,Nat.mul_comm] at h1 h2 h3 h4
     exact ⟨a,b,c,d,h1,h2,h3,h4,h9⟩
end Go.Proofs.YtdgdmicbbfoghaaGreatDoor
