/- What the laws lean on, part 6. -/
import Derived.BigQuiet
import Derived.BigRegion
import Derived.Deep.AppendLies
import Derived.Deep.CutBlock
import Derived.Deep.CutRange
import Derived.Deep.DeepCutAuto
import Derived.Deep.LoopGhost
import Derived.Deep.QuietTactic
import Derived.Deep.RegionHeld3
import Derived.Laws.CopyOwn
import Derived.Laws.Externs
import Derived.Laws.IdiomStrings
import Derived.Lib.BitFns
import Derived.Lib.Hide
import Derived.Lib.Slices
import Derived.Lib.Small
import Derived.Lib.Strings
import Derived.Lib.Walk
import Derived.Outline
import Derived.OwnWalk
import Derived.Shelf.Bits.Mul64
import Derived.StillTailTactics
import Derived.WalkKit
import Derived.WalkLawsBesides
import Derived.WalkSpells
import Derived.Test.YtdgdmicbbfoghaaGreatDoorProg
import Derived.Test.YtdgdmicbbfoghaaGreatDoorMg5
set_option linter.unusedVariables false
set_option linter.unusedSimpArgs false
set_option maxRecDepth 100000
namespace Go.Proofs.YtdgdmicbbfoghaaGreatDoor
open Go.RowKit Mat
def IntV (w:World) (v:Value) (z:Int):Prop:=∃ (sa:Option Addr) (xs:List Nat) (b:Bool),v = .agg #[.slice sa xs.length xs.length,.bool b]/\Lm w sa xs/\val B xs=z.natAbs/\(b=true ↔ z<0)
theorem IntV.kept {w w':World} {v:Value} {z:Int} (h:IntV w v z) (hg:w.grownBy w' none):IntV w' v z:=by
 obtain ⟨sa,xs,b,e,h1,h2⟩:=h
 exact ⟨sa,xs,b,e,h1.kept hg,h2⟩
def E4 (w:World) (z:Int) (e:Ending) (w':World):Prop:=∃ v,e = .returned v/\IntV w' v z/\w.grownBy w' none
theorem A3 {w:World} {g:Nat} {v0 v1:Value} {t:TypeId} (h:w.heap[g]?=some (.cells #[v0,v1] t (0,0))) :
 w.cell? ⟨g,0,none⟩=some v0/\w.cell? ⟨g,1,none⟩=some v1/\w.frozen? ⟨g,0,none⟩=false/\w.frozen? ⟨g,1,none⟩=false:=by
 simp [World.cell?,World.frozen?,h]
theorem B7 {w:World} {g:Nat} {a0 a1:Value} {t:TypeId} (h:w.heap[g]?=some (.cells #[a0,a1] t (0,0))) (v0 v1:Value):((w.setCell ⟨g,0,none⟩ v0).setCell ⟨g,1,none⟩ v1).heap[g]?=some (.cells #[v0,v1] t (0,0)):=by
 simp [World.setCell,Array.getElem?_modify,h]
theorem F7 {w:World} {g k:Nat} {o:Obj} (h:w.heap[k]?=some o) (hk:k≠g) (v0 v1:Value):((w.setCell ⟨g,0,none⟩ v0).setCell ⟨g,1,none⟩ v1).heap[k]?=some o:=
 (Below.heap_setCell _ _ _ _ (by simpa using hk)).trans ((Below.heap_setCell _ _ _ _ (by simpa using hk)).trans h)
theorem I8 {w w':World} {sa:Option Addr} {xs:List Nat} {z:Int} {b:Bool} {g:Nat} {a0 a1:Value} (hg:w.grownBy w' none) (hbox:w'.heap[g]?=some (.cells #[a0,a1] 28 (0,0))) (hl:w.heap.size<=g) (h:Lm w' sa xs) (hv:val B xs=z.natAbs) (hb:b=true ↔ z<0) :
 E4 w z (.returned (.agg #[.slice sa xs.length xs.length,.bool b])) ((w'.setCell ⟨g,0,none⟩ (.slice sa xs.length xs.length)).setCell ⟨g,1,none⟩ (.bool b)):=by
 have h1:(w'.setCell ⟨g,0,none⟩ (.slice sa xs.length xs.length)).heap[g]?=some (.cells #[.slice sa xs.length xs.length,a1] 28 (0,0)):=by
  simp [World.setCell,Array.getElem?_modify,hbox]
 exact ⟨_,rfl,⟨sa,xs,b,rfl,(h.set_other hbox (by decide) 0 _).set_other h1 (by decide) 1 _,hv,hb⟩,B1 (B1 hg (B2 (A9 _ _) _ _) hl) (B2 (A9 _ _) _ _) hl⟩
theorem lF (w:World) (va:Value) (a K:Nat) (ha:NatV w va a) (hK:K<=1000000) (la:a<B^K) :
 Calls Tryz.prog 92 #[va] w (RetNat w a):=by
 obtain ⟨sa,xs,rfl,hx,hv⟩:=ha
 have hgw0:w.grownBy ((w.alloc (.cells #[.slice sa xs.length xs.length] 26)).alloc (.cells #[.slice none 0 0] 26)) none:=A8 (World.grownBy_alloc _ _ _) _
 have hboxr:=A4 (w.alloc (.cells #[.slice sa xs.length xs.length] 26)) (.cells #[.slice none 0 0] 26) (w.heap.size+1) (by simp)
 have na:NatV ((w.alloc (.cells #[.slice sa xs.length xs.length] 26)).alloc (.cells #[.slice none 0 0] 26)) (.agg #[.slice sa xs.length xs.length]) a:=⟨sa,xs,rfl,hx.kept hgw0,hv⟩
 have Hla:=Lib.hid la
 clear hx hv la
 go_enter Tryz.func92,Tryz.ntmps92
 go_wp2_with fail
 refine (kK _ _ _ a 0 K na (NatV.zero _) (by omega) Hla.out (Nat.pow_pos D6)).mono ?_
 rintro e w1 ⟨v,rfl,⟨s1,x1,rfl,h1,v1⟩,g1⟩
 have hb1:=A1 g1 hboxr
 obtain ⟨c1,f1⟩:=A7 hb1
 have hF:Hid (RetNat w a (.returned (.agg #[.slice s1 x1.length x1.length])) (w1.setCell ⟨w.heap.size+1,0,none⟩ (.slice s1 x1.length x1.length))):=
  jI (A2 hgw0 g1) hb1 (by decide) (by omega) h1 v1 _
 clear h1 v1 g1 na
 go_wp2_with fail
 exact bodyPost_ret (v := .agg #[.slice s1 x1.length x1.length]) (by simp [results,Tryz.results92,go_sem,c1]) rfl hF.out
set_option maxHeartbeats 2000000 in
theorem D5 (w:World) (va:Value) (z:Int) (K:Nat) (ha:IntV w va z) (hK:K<=1000000) (la:z.natAbs<B^K) :
 Calls Tryz.prog 46 #[va] w (fun e w'=>e = .returned (.int .i64 z.sign)/\w.grownBy w' none):=by
 obtain ⟨sa,xs,b,rfl,hx,hv,hb⟩:=ha
 have hgw0:=World.grownBy_alloc w (.cells #[.slice sa xs.length xs.length,.bool b] 28) none
 have na:NatV (w.alloc (.cells #[.slice sa xs.length xs.length,.bool b] 28)) (.agg #[.slice sa xs.length xs.length]) z.natAbs:=⟨sa,xs,rfl,hx.kept hgw0,hv⟩
 have hbox:=A4 w (.cells #[.slice sa xs.length xs.length,.bool b] 28) w.heap.size rfl
 have Hla:=Lib.hid la
 clear hx hv la
 have key:∃ c:Int,(nb z.natAbs:Int)=c/\((z=0/\(c == 0)=true)\/(z<0/\b=true/\(c == 0)=false)\/(0<z/\b=false/\(c == 0)=false)):=by
  refine ⟨_,rfl, ?_⟩
  rcases Int.lt_trichotomy z 0 with h | h | h
  · right;left
    have:=bI (show 0<z.natAbs by omega)
    exact ⟨h,hb.2 h,beq_eq_false_iff_ne.2 (by omega)⟩
  · left;subst h;exact ⟨rfl,rfl⟩
  · right;right
    have:=bI (show 0<z.natAbs by omega)
    refine ⟨h, ?_,beq_eq_false_iff_ne.2 (by omega)⟩
    cases b
    · rfl
    · exact absurd (hb.1 rfl) (by omega)
 obtain ⟨c,hc,key⟩:=key
 have HC:=Lib.hid hc
 clear hc hb
 rcases key with ⟨hz,f1⟩ | ⟨hz,rfl,f1⟩ | ⟨hz,rfl,f1⟩
 all_goals (
  have hsg:Hid (z.sign=z.sign):=rfl
  go_enter Tryz.func46,Tryz.ntmps46
  go_wp2_with fail
  refine (L9 _ _ z.natAbs K na (by omega) Hla.out).mono ?_
  rintro e w1 ⟨rfl,g1⟩
  rw [HC.out]
  obtain ⟨c0,c1,q0,q1⟩:=A3 (A1 g1 hbox)
  have hG:=A2 hgw0 g1
  clear g1 na
  go_wp2_with fail
  go_ret)
 · exact ⟨by rw [hz];rfl,hG⟩
 · exact ⟨by rw [Int.sign_eq_neg_one_of_neg hz];rfl,hG⟩
 · exact ⟨by rw [Int.sign_eq_one_of_pos hz];rfl,hG⟩
set_option maxHeartbeats 2000000 in
theorem gP (w:World) (va:Value) (z:Int) (K:Nat) (ha:IntV w va z) (hK:K<=1000000) (la:z.natAbs<B^K) :
 Calls Tryz.prog 36 #[va] w (RetNat w z.natAbs):=by
 obtain ⟨sa,xs,b,rfl,hx,hv,hb⟩:=ha
 have hgw0:w.grownBy ((w.alloc (.cells #[.slice sa xs.length xs.length,.bool b] 28)).alloc (.cells #[.slice none 0 0] 26)) none:=A8 (World.grownBy_alloc _ _ _) _
 have hboxr:=A4 (w.alloc (.cells #[.slice sa xs.length xs.length,.bool b] 28)) (.cells #[.slice none 0 0] 26) (w.heap.size+1) (by simp)
 have na:NatV ((w.alloc (.cells #[.slice sa xs.length xs.length,.bool b] 28)).alloc (.cells #[.slice none 0 0] 26)) (.agg #[.slice sa xs.length xs.length]) z.natAbs:=⟨sa,xs,rfl,hx.kept hgw0,hv⟩
 have hbox:=A1 (World.grownBy_alloc _ (.cells #[.slice none 0 0] 26) none) (A4 w (.cells #[.slice sa xs.length xs.length,.bool b] 28) w.heap.size rfl)
 obtain ⟨c0,c1,q0,q1⟩:=A3 hbox
 have Hla:=Lib.hid la
 clear hx hv la
 go_enter Tryz.func36,Tryz.ntmps36
 go_wp2_with fail
 refine (lF _ _ z.natAbs K na hK Hla.out).mono ?_
 rintro e w1 ⟨v,rfl,⟨s1,x1,rfl,h1,v1⟩,g1⟩
 have hb1:=A1 g1 hboxr
 obtain ⟨c1,f1⟩:=A7 hb1
 have hF:Hid (RetNat w z.natAbs (.returned (.agg #[.slice s1 x1.length x1.length])) (w1.setCell ⟨w.heap.size+1,0,none⟩ (.slice s1 x1.length x1.length))):=
  jI (A2 hgw0 g1) hb1 (by decide) (by omega) h1 v1 _
 clear h1 v1 g1 na
 go_wp2_with fail
 exact bodyPost_ret (v := .agg #[.slice s1 x1.length x1.length]) (by simp [results,Tryz.results36,go_sem,c1]) rfl hF.out
set_option maxHeartbeats 2000000 in
theorem gN (w:World) (va:Value) (a K:Nat) (ha:NatV w va a) (hK:K<=1000000) (la:a<B^K) :
 Calls Tryz.prog 40 #[va] w (E4 w (a:Int)):=by
 obtain ⟨sa,xs,rfl,hx,hv⟩:=ha
 have hgw0:w.grownBy ((w.alloc (.cells #[.slice sa xs.length xs.length] 26)).alloc (.cells #[.slice none 0 0,.bool false] 28)) none:=A8 (World.grownBy_alloc _ _ _) _
 have hboxr:=A4 (w.alloc (.cells #[.slice sa xs.length xs.length] 26)) (.cells #[.slice none 0 0,.bool false] 28) (w.heap.size+1) (by simp)
 have na:NatV ((w.alloc (.cells #[.slice sa xs.length xs.length] 26)).alloc (.cells #[.slice none 0 0,.bool false] 28)) (.agg #[.slice sa xs.length xs.length]) a:=⟨sa,xs,rfl,hx.kept hgw0,hv⟩
 have Hla:=Lib.hid la
 clear hx hv la
 go_enter Tryz.func40,Tryz.ntmps40
 go_wp2_with fail
 refine (lF _ _ a K na hK Hla.out).mono ?_
 rintro e w1 ⟨v,rfl,⟨s1,x1,rfl,h1,v1⟩,g1⟩
 have hb1:=A1 g1 hboxr
 obtain ⟨c0,c1,f0,f1⟩:=A3 hb1
 clear na
 obtain ⟨q0,q1,r0,r1⟩:=A3 (B7 hb1 (.slice s1 x1.length x1.length) (.bool false))
 have hF:Hid (E4 w (a:Int) (.returned (.agg #[.slice s1 x1.length x1.length,.bool false])) ((w1.setCell ⟨w.heap.size+1,0,none⟩ (.slice s1 x1.length x1.length)).setCell ⟨w.heap.size+1,1,none⟩ (.bool false))):=
  I8 (A2 hgw0 g1) hb1 (by omega) h1 (by simpa using v1) (by constructor<;>intro h<;>first | cases h | omega)
 clear h1 v1 g1
 go_wp2_with fail
 exact bodyPost_ret (v := .agg #[.slice s1 x1.length x1.length,.bool false]) (by simp [results,Tryz.results40,go_sem,q0,q1]) rfl hF.out
set_option maxHeartbeats 4000000 in
theorem G9 (w:World) (va:Value) (a K:Nat) (b:Bool) (ha:NatV w va a) (hK:K<=1000000) (la:a<B^K) :
 Calls Tryz.prog 98 #[va,.bool b] w (E4 w (if b=true then -(a:Int) else a)):=by
 obtain ⟨sa,xs,rfl,hx,hv⟩:=ha
 have hgw0:w.grownBy ((w.alloc (.cells #[.slice sa xs.length xs.length] 26)).alloc (.cells #[.slice none 0 0,.bool false] 28)) none:=A8 (World.grownBy_alloc _ _ _) _
 have hboxr:=A4 (w.alloc (.cells #[.slice sa xs.length xs.length] 26)) (.cells #[.slice none 0 0,.bool false] 28) (w.heap.size+1) (by simp)
 have hbox:=A1 (World.grownBy_alloc _ (.cells #[.slice none 0 0,.bool false] 28) none) (A4 w (.cells #[.slice sa xs.length xs.length] 26) w.heap.size rfl)
 have hx0:=hx.kept hgw0
 have hcase:(b=false/\(if b=true then -(a:Int) else a)=a)\/(b=true/\a=0/\(if b=true then -(a:Int) else a)=0)\/(b=true/\0<a/\(if b=true then -(a:Int) else a) = -(a:Int)):=by
  cases b
  · left;exact ⟨rfl,rfl⟩
  · rcases Nat.eq_zero_or_pos a with h | h
    · right;left;subst h;exact ⟨rfl,rfl,rfl⟩
    · right;right;exact ⟨rfl,h,rfl⟩
 obtain ⟨z,hz⟩:∃ z,(if b=true then -(a:Int) else a)=z:=⟨_,rfl⟩
 rw [hz] at hcase ⊢
 have Hla:=Lib.hid la
 have Hv:=Lib.hid hv
 clear hx hv la hz
 rcases hcase with ⟨rfl,hz⟩ | ⟨rfl,h0,hz⟩ | ⟨rfl,h0,hz⟩
 · skip
   go_enter Tryz.func98,Tryz.ntmps98
   go_wp2_with fail
   generalize ((w.alloc (.cells #[.slice sa xs.length xs.length] 26)).alloc (.cells #[.slice none 0 0,.bool false] 28))=w0 at *
   refine wp_region_held_drew (S:=fun w'=>w'.cell? ⟨w.heap.size,0,none⟩=some (.slice sa xs.length xs.length)) (by kernel_rfl) (by exact (A7 hbox).1) (fun hHeld=>?_)
   have gd:w0.grownBy w0.drew none:=C9 (A9 _ _)
   have hgw:=A2 hgw0 gd
   replace hbox:=A1 gd hbox
   replace hboxr:=A1 gd hboxr
   replace hx0:=hx0.kept gd
   generalize w0.drew=w1 at *
   clear gd hgw0
   refine wpAnyH_take (i:=0) (v:=?_) rfl (by kernel_rfl) (by kernel_rfl) (by kernel_rfl) (fun _ _ _ h=>h) (Or.inl ⟨by rfl, ?_⟩) (by assumption) ?_
   rotate_left
   · (intro w hSw;(try dsimp only at hSw);go_simp;(try with_reducible rfl))
   try simp only [Act.put,List.getElem_toArray,List.getElem_cons_zero,List.getElem_cons_succ,List.setIfInBounds_toArray,List.set_cons_zero,List.set_cons_succ]
   refine wpAnyH_take (i:=1) (v:=?_) rfl (by kernel_rfl) (by kernel_rfl) (by kernel_rfl) (fun _ _ _ h=>h) (Or.inl ⟨by rfl, ?_⟩) (by assumption) ?_
   rotate_left
   · (intro w hSw;(try dsimp only at hSw);go_simp;(try with_reducible rfl))
   try simp only [Act.put,List.getElem_toArray,List.getElem_cons_zero,List.getElem_cons_succ,List.setIfInBounds_toArray,List.set_cons_zero,List.set_cons_succ]
   refine wpAnyH_take (i:=2) (v:=?_) rfl (by kernel_rfl) (by kernel_rfl) (by kernel_rfl) (fun _ _ _ h=>h) (Or.inl ⟨by rfl, ?_⟩) (by assumption) ?_
   rotate_left
   · (intro w hSw;(try dsimp only at hSw);go_simp;(try with_reducible rfl))
   try simp only [Act.put,List.getElem_toArray,List.getElem_cons_zero,List.getElem_cons_succ,List.setIfInBounds_toArray,List.set_cons_zero,List.set_cons_succ]
   refine wpAnyH_take (i:=3) (v:=undef) rfl (by kernel_rfl) (by kernel_rfl) (by kernel_rfl) (fun _ _ _ h=>h) (Or.inr ⟨by rfl,rfl⟩) (by assumption) ?_
   try simp only [Act.put,List.getElem_toArray,List.getElem_cons_zero,List.getElem_cons_succ,List.setIfInBounds_toArray,List.set_cons_zero,List.set_cons_succ]
   refine wpAnyH_ready (rs:=[4]) (by kernel_rfl) (by simp) ?_
   refine AllReadyH.cons rfl (fun KQ hKQ=>?_) AllReadyH.nil
   go_simp
   refine hKQ.out _ _ (by exact hHeld) (fun hHeld=>?_)
   clear hKQ KQ
   try simp only [Act.put,List.getElem_toArray,List.getElem_cons_zero,List.getElem_cons_succ,List.setIfInBounds_toArray,List.set_cons_zero,List.set_cons_succ]
   refine wpAnyH_take (i:=5) (v:=undef) rfl (by kernel_rfl) (by kernel_rfl) (by kernel_rfl) (fun _ _ _ h=>h) (Or.inr ⟨by rfl,rfl⟩) (by assumption) ?_
   try simp only [Act.put,List.getElem_toArray,List.getElem_cons_zero,List.getElem_cons_succ,List.setIfInBounds_toArray,List.set_cons_zero,List.set_cons_succ]
   refine wpAnyH_take (i:=6) (v:=?_) rfl (by kernel_rfl) (by kernel_rfl) (by kernel_rfl) (fun _ _ _ h=>h) (Or.inl ⟨by rfl, ?_⟩) (by assumption) ?_
   rotate_left
   · (intro w hSw;(try dsimp only at hSw);go_simp;(try with_reducible rfl))
   try simp only [Act.put,List.getElem_toArray,List.getElem_cons_zero,List.getElem_cons_succ,List.setIfInBounds_toArray,List.set_cons_zero,List.set_cons_succ]
   refine wpAnyH_take (i:=7) (v:=?_) rfl (by kernel_rfl) (by kernel_rfl) (by kernel_rfl) (fun _ _ _ h=>h) (Or.inl ⟨by rfl, ?_⟩) (by assumption) ?_
   rotate_left
   · (intro w hSw;(try dsimp only at hSw);go_simp;(try with_reducible rfl))
   try simp only [Act.put,List.getElem_toArray,List.getElem_cons_zero,List.getElem_cons_succ,List.setIfInBounds_toArray,List.set_cons_zero,List.set_cons_succ]
   obtain ⟨c0,c1,f0,f1⟩:=A3 hboxr
   refine wpAnyH_ready (rs:=[8]) (by kernel_rfl) (by simp) ?_
   refine AllReadyH.cons rfl (fun KQ hKQ=>?_) AllReadyH.nil
   go_simp
   refine hKQ.out _ _ (by exact (A7 (F7 hbox (by omega) _ _)).1) (fun hHeld=>?_)
   clear hKQ KQ
   try simp only [Act.put,List.getElem_toArray,List.getElem_cons_zero,List.getElem_cons_succ,List.setIfInBounds_toArray,List.set_cons_zero,List.set_cons_succ]
   refine wpAnyH_done (by kernel_rfl) ?_ _
   obtain ⟨q0,q1,r0,r1⟩:=A3 (B7 hboxr (.slice sa xs.length xs.length) (.bool false))
   have hF:Hid (E4 w z (.returned (.agg #[.slice sa xs.length xs.length,.bool false])) ((w1.setCell ⟨w.heap.size+1,0,none⟩ (.slice sa xs.length xs.length)).setCell ⟨w.heap.size+1,1,none⟩ (.bool false))):=I8 hgw hboxr (by omega) hx0 (by rw [Hv.out,hz];omega) (by rw [hz];constructor<;>intro h<;>first | rfl | omega | cases h)
   clear hx0 hgw
   go_wp2_with fail
   exact bodyPost_ret (v := .agg #[.slice sa xs.length xs.length,.bool false]) (by simp [results,Tryz.results98,go_sem,q0,q1]) rfl hF.out
 · subst h0
   go_enter Tryz.func98,Tryz.ntmps98
   go_wp2_with fail
   generalize ((w.alloc (.cells #[.slice sa xs.length xs.length] 26)).alloc (.cells #[.slice none 0 0,.bool false] 28))=w0 at *
   refine wp_region_held_drew (S:=fun w'=>w'.cell? ⟨w.heap.size,0,none⟩=some (.slice sa xs.length xs.length)) (by kernel_rfl) (by exact (A7 hbox).1) (fun hHeld=>?_)
   have gd:w0.grownBy w0.drew none:=C9 (A9 _ _)
   have hgw:=A2 hgw0 gd
   replace hbox:=A1 gd hbox
   replace hboxr:=A1 gd hboxr
   replace hx0:=hx0.kept gd
   generalize w0.drew=w1 at *
   clear gd hgw0
   refine wpAnyH_take (i:=0) (v:=?_) rfl (by kernel_rfl) (by kernel_rfl) (by kernel_rfl) (fun _ _ _ h=>h) (Or.inl ⟨by rfl, ?_⟩) (by assumption) ?_
   rotate_left
   · (intro w hSw;(try dsimp only at hSw);go_simp;(try with_reducible rfl))
   try simp only [Act.put,List.getElem_toArray,List.getElem_cons_zero,List.getElem_cons_succ,List.setIfInBounds_toArray,List.set_cons_zero,List.set_cons_succ]
   refine wpAnyH_take (i:=1) (v:=?_) rfl (by kernel_rfl) (by kernel_rfl) (by kernel_rfl) (fun _ _ _ h=>h) (Or.inl ⟨by rfl, ?_⟩) (by assumption) ?_
   rotate_left
   · (intro w hSw;(try dsimp only at hSw);go_simp;(try with_reducible rfl))
   try simp only [Act.put,List.getElem_toArray,List.getElem_cons_zero,List.getElem_cons_succ,List.setIfInBounds_toArray,List.set_cons_zero,List.set_cons_succ]
   refine wpAnyH_take (i:=2) (v:=?_) rfl (by kernel_rfl) (by kernel_rfl) (by kernel_rfl) (fun _ _ _ h=>h) (Or.inl ⟨by rfl, ?_⟩) (by assumption) ?_
   rotate_left
   · (intro w hSw;(try dsimp only at hSw);go_simp;(try with_reducible rfl))
   try simp only [Act.put,List.getElem_toArray,List.getElem_cons_zero,List.getElem_cons_succ,List.setIfInBounds_toArray,List.set_cons_zero,List.set_cons_succ]
   refine wpAnyH_take (i:=3) (v:=?_) rfl (by kernel_rfl) (by kernel_rfl) (by kernel_rfl) (fun _ _ _ h=>h) (Or.inl ⟨by rfl, ?_⟩) (by assumption) ?_
   rotate_left
   · (intro w hSw;(try dsimp only at hSw);go_simp;(try with_reducible rfl))
   try simp only [Act.put,List.getElem_toArray,List.getElem_cons_zero,List.getElem_cons_succ,List.setIfInBounds_toArray,List.set_cons_zero,List.set_cons_succ]
   have na:NatV w1 (.agg #[.slice sa xs.length xs.length]) 0:=⟨sa,xs,rfl,hx0,Hv.out⟩
   refine wpAnyH_ready (rs:=[4]) (by kernel_rfl) (by simp) ?_
   refine AllReadyH.cons rfl (fun KQ hKQ=>?_) AllReadyH.nil
   go_simp
   go_at_call 104
   refine (L9 w1 _ 0 K na (by omega) Hla.out).mono ?_
   rintro e w2 ⟨rfl,g2⟩
   rw [show nb 0=0 from rfl]
   (try go_wp2_with fail)
   have hgw:=A2 hgw g2
   have hbox:=A1 g2 hbox
   have hboxr:=A1 g2 hboxr
   have hx0:=hx0.kept g2
   refine hKQ.out _ _ (by exact (A7 hbox).1) (fun hHeld=>?_)
   clear hKQ KQ
   try simp only [Act.put,List.getElem_toArray,List.getElem_cons_zero,List.getElem_cons_succ,List.setIfInBounds_toArray,List.set_cons_zero,List.set_cons_succ]
   refine wpAnyH_take (i:=5) (v:=?_) rfl (by kernel_rfl) (by kernel_rfl) (by kernel_rfl) (fun _ _ _ h=>h) (Or.inl ⟨by rfl, ?_⟩) (by assumption) ?_
   rotate_left
   · (intro w hSw;(try dsimp only at hSw);go_simp;(try with_reducible rfl))
   try simp only [Act.put,List.getElem_toArray,List.getElem_cons_zero,List.getElem_cons_succ,List.setIfInBounds_toArray,List.set_cons_zero,List.set_cons_succ]
   refine wpAnyH_take (i:=6) (v:=?_) rfl (by kernel_rfl) (by kernel_rfl) (by kernel_rfl) (fun _ _ _ h=>h) (Or.inl ⟨by rfl, ?_⟩) (by assumption) ?_
   rotate_left
   · (intro w hSw;(try dsimp only at hSw);go_simp;(try with_reducible rfl))
   try simp only [Act.put,List.getElem_toArray,List.getElem_cons_zero,List.getElem_cons_succ,List.setIfInBounds_toArray,List.set_cons_zero,List.set_cons_succ]
   refine wpAnyH_take (i:=7) (v:=?_) rfl (by kernel_rfl) (by kernel_rfl) (by kernel_rfl) (fun _ _ _ h=>h) (Or.inl ⟨by rfl, ?_⟩) (by assumption) ?_
   rotate_left
   · (intro w hSw;(try dsimp only at hSw);go_simp;(try with_reducible rfl))
   try simp only [Act.put,List.getElem_toArray,List.getElem_cons_zero,List.getElem_cons_succ,List.setIfInBounds_toArray,List.set_cons_zero,List.set_cons_succ]
   obtain ⟨c0,c1,f0,f1⟩:=A3 hboxr
   refine wpAnyH_ready (rs:=[8]) (by kernel_rfl) (by simp) ?_
   refine AllReadyH.cons rfl (fun KQ hKQ=>?_) AllReadyH.nil
   go_simp
   refine hKQ.out _ _ (by exact (A7 (F7 hbox (by omega) _ _)).1) (fun hHeld=>?_)
   clear hKQ KQ
   try simp only [Act.put,List.getElem_toArray,List.getElem_cons_zero,List.getElem_cons_succ,List.setIfInBounds_toArray,List.set_cons_zero,List.set_cons_succ]
   refine wpAnyH_done (by kernel_rfl) ?_ _
   obtain ⟨q0,q1,r0,r1⟩:=A3 (B7 hboxr (.slice sa xs.length xs.length) (.bool false))
   have hF:Hid (E4 w z (.returned (.agg #[.slice sa xs.length xs.length,.bool false])) ((w2.setCell ⟨w.heap.size+1,0,none⟩ (.slice sa xs.length xs.length)).setCell ⟨w.heap.size+1,1,none⟩ (.bool false))):=I8 hgw hboxr (by omega) hx0 (by rw [Hv.out,hz];omega) (by rw [hz];constructor<;>intro h<;>first | rfl | omega | cases h)
   clear hx0 hgw
   go_wp2_with fail
   exact bodyPost_ret (v := .agg #[.slice sa xs.length xs.length,.bool false]) (by simp [results,Tryz.results98,go_sem,q0,q1]) rfl hF.out
 · skip
   go_enter Tryz.func98,Tryz.ntmps98
   go_wp2_with fail
   generalize ((w.alloc (.cells #[.slice sa xs.length xs.length] 26)).alloc (.cells #[.slice none 0 0,.bool false] 28))=w0 at *
   refine wp_region_held_drew (S:=fun w'=>w'.cell? ⟨w.heap.size,0,none⟩=some (.slice sa xs.length xs.length)) (by kernel_rfl) (by exact (A7 hbox).1) (fun hHeld=>?_)
   have gd:w0.grownBy w0.drew none:=C9 (A9 _ _)
   have hgw:=A2 hgw0 gd
   replace hbox:=A1 gd hbox
   replace hboxr:=A1 gd hboxr
   replace hx0:=hx0.kept gd
   generalize w0.drew=w1 at *
   clear gd hgw0
   refine wpAnyH_take (i:=0) (v:=?_) rfl (by kernel_rfl) (by kernel_rfl) (by kernel_rfl) (fun _ _ _ h=>h) (Or.inl ⟨by rfl, ?_⟩) (by assumption) ?_
   rotate_left
   · (intro w hSw;(try dsimp only at hSw);go_simp;(try with_reducible rfl))
   try simp only [Act.put,List.getElem_toArray,List.getElem_cons_zero,List.getElem_cons_succ,List.setIfInBounds_toArray,List.set_cons_zero,List.set_cons_succ]
   refine wpAnyH_take (i:=1) (v:=?_) rfl (by kernel_rfl) (by kernel_rfl) (by kernel_rfl) (fun _ _ _ h=>h) (Or.inl ⟨by rfl, ?_⟩) (by assumption) ?_
   rotate_left
   · (intro w hSw;(try dsimp only at hSw);go_simp;(try with_reducible rfl))
   try simp only [Act.put,List.getElem_toArray,List.getElem_cons_zero,List.getElem_cons_succ,List.setIfInBounds_toArray,List.set_cons_zero,List.set_cons_succ]
   refine wpAnyH_take (i:=2) (v:=?_) rfl (by kernel_rfl) (by kernel_rfl) (by kernel_rfl) (fun _ _ _ h=>h) (Or.inl ⟨by rfl, ?_⟩) (by assumption) ?_
   rotate_left
   · (intro w hSw;(try dsimp only at hSw);go_simp;(try with_reducible rfl))
   try simp only [Act.put,List.getElem_toArray,List.getElem_cons_zero,List.getElem_cons_succ,List.setIfInBounds_toArray,List.set_cons_zero,List.set_cons_succ]
   refine wpAnyH_take (i:=3) (v:=?_) rfl (by kernel_rfl) (by kernel_rfl) (by kernel_rfl) (fun _ _ _ h=>h) (Or.inl ⟨by rfl, ?_⟩) (by assumption) ?_
   rotate_left
   · (intro w hSw;(try dsimp only at hSw);go_simp;(try with_reducible rfl))
   try simp only [Act.put,List.getElem_toArray,List.getElem_cons_zero,List.getElem_cons_succ,List.setIfInBounds_toArray,List.set_cons_zero,List.set_cons_succ]
   obtain ⟨c,hc⟩:∃ c,nb a=c:=⟨_,rfl⟩
   have hn:decide ((0:Int)<(c:Int))=true:=decide_eq_true (by have:=bI h0;omega)
   have hp : 0<c:=by have:=bI h0;omega
   have HN:=Lib.hid hc
   clear hc
   have na:NatV w1 (.agg #[.slice sa xs.length xs.length]) a:=⟨sa,xs,rfl,hx0,Hv.out⟩
   refine wpAnyH_ready (rs:=[4]) (by kernel_rfl) (by simp) ?_
   refine AllReadyH.cons rfl (fun KQ hKQ=>?_) AllReadyH.nil
   go_simp
   go_at_call 104
   refine (L9 w1 _ a K na (by omega) Hla.out).mono ?_
   rintro e w2 ⟨rfl,g2⟩
   rw [HN.out]
   (try go_wp2_with fail)
   have hgw:=A2 hgw g2
   have hbox:=A1 g2 hbox
   have hboxr:=A1 g2 hboxr
   have hx0:=hx0.kept g2
   refine hKQ.out _ _ (by exact (A7 hbox).1) (fun hHeld=>?_)
   clear hKQ KQ
   try simp only [Act.put,List.getElem_toArray,List.getElem_cons_zero,List.getElem_cons_succ,List.setIfInBounds_toArray,List.set_cons_zero,List.set_cons_succ]
   refine wpAnyH_take (i:=5) (v:=?_) rfl (by kernel_rfl) (by kernel_rfl) (by kernel_rfl) (fun _ _ _ h=>h) (Or.inl ⟨by rfl, ?_⟩) (by assumption) ?_
   rotate_left
   · (intro w hSw;(try dsimp only at hSw);go_simp;(try with_reducible rfl))
   try simp only [Act.put,List.getElem_toArray,List.getElem_cons_zero,List.getElem_cons_succ,List.setIfInBounds_toArray,List.set_cons_zero,List.set_cons_succ]
   refine wpAnyH_take (i:=6) (v:=?_) rfl (by kernel_rfl) (by kernel_rfl) (by kernel_rfl) (fun _ _ _ h=>h) (Or.inl ⟨by rfl, ?_⟩) (by assumption) ?_
   rotate_left
   · (intro w hSw;(try dsimp only at hSw);go_simp;(try with_reducible rfl))
   try simp only [Act.put,List.getElem_toArray,List.getElem_cons_zero,List.getElem_cons_succ,List.setIfInBounds_toArray,List.set_cons_zero,List.set_cons_succ]
   refine wpAnyH_take (i:=7) (v:=?_) rfl (by kernel_rfl) (by kernel_rfl) (by kernel_rfl) (fun _ _ _ h=>h) (Or.inl ⟨by rfl, ?_⟩) (by assumption) ?_
   rotate_left
   · (intro w hSw;(try dsimp only at hSw);go_simp;(try with_reducible rfl))
   try simp only [Act.put,List.getElem_toArray,List.getElem_cons_zero,List.getElem_cons_succ,List.setIfInBounds_toArray,List.set_cons_zero,List.set_cons_succ]
   obtain ⟨c0,c1,f0,f1⟩:=A3 hboxr
   refine wpAnyH_ready (rs:=[8]) (by kernel_rfl) (by simp) ?_
   refine AllReadyH.cons rfl (fun KQ hKQ=>?_) AllReadyH.nil
   go_simp
   refine hKQ.out _ _ (by exact (A7 (F7 hbox (by omega) _ _)).1) (fun hHeld=>?_)
   clear hKQ KQ
   try simp only [Act.put,List.getElem_toArray,List.getElem_cons_zero,List.getElem_cons_succ,List.setIfInBounds_toArray,List.set_cons_zero,List.set_cons_succ]
   refine wpAnyH_done (by kernel_rfl) ?_ _
   obtain ⟨q0,q1,r0,r1⟩:=A3 (B7 hboxr (.slice sa xs.length xs.length) (.bool true))
   have hF:Hid (E4 w z (.returned (.agg #[.slice sa xs.length xs.length,.bool true])) ((w2.setCell ⟨w.heap.size+1,0,none⟩ (.slice sa xs.length xs.length)).setCell ⟨w.heap.size+1,1,none⟩ (.bool true))):=I8 hgw hboxr (by omega) hx0 (by rw [Hv.out,hz];omega) (by rw [hz];constructor<;>intro h<;>first | rfl | omega | cases h)
   clear hx0 hgw
   go_wp2_with fail
   exact bodyPost_ret (v := .agg #[.slice sa xs.length xs.length,.bool true]) (by simp [results,Tryz.results98,go_sem,q0,q1]) rfl hF.out
set_option maxHeartbeats 2000000 in
theorem B8 (w:World) (n:Int) (h1 : -9223372036854775808<=n) (h2:n<=9223372036854775807) :
 Calls Tryz.prog 10 #[.int .i64 n] w (E4 w n):=by
 have hgw0:=World.grownBy_alloc w (.cells #[.slice none 0 0,.bool false] 28) none
 have hr0:=A4 w (.cells #[.slice none 0 0,.bool false] 28) w.heap.size rfl
 by_cases hn:n<0
 · obtain ⟨a,ha⟩:∃ a:Nat,n = -(a:Int):=⟨n.natAbs,by omega⟩
   have f1:decide (n<0)=true:=decide_eq_true hn
   obtain ⟨m,hm⟩:∃ m:Int,IntKind.u64.wrap n=m:=⟨_,rfl⟩
   have hm2:IntKind.u64.wrap (-m)=(a:Int):=by
    rw [IntKind.wrap_u64] at hm ⊢;omega
   have haB:a<B:=by unfold B;omega
   have hz:a=n.natAbs:=by omega
   have HA:=Lib.hid haB
   have HZ:=Lib.hid hz
   clear ha haB hz h1 h2
   go_enter Tryz.func10,Tryz.ntmps10
   go_wp2_with fail
   refine (rH _ a HA.out).mono ?_
   rintro e w1 ⟨v,rfl,⟨s1,x1,rfl,h1,v1⟩,g1⟩
   have v2:val B x1=n.natAbs:=v1.trans HZ.out
   have hb2:true=true ↔ n<0:=⟨fun _=>hn,fun _=>rfl⟩
   have hgw:=A2 hgw0 g1
   have hb9:=A1 g1 hr0
   obtain ⟨c90,c91,f90,f91⟩:=A3 hb9
   obtain ⟨q90,q91,r90,r91⟩:=A3 (B7 hb9 (.slice s1 x1.length x1.length) (.bool true))
   have hF:Hid (E4 w (n) (.returned (.agg #[.slice s1 x1.length x1.length,.bool true])) ((w1.setCell ⟨w.heap.size,0,none⟩ (.slice s1 x1.length x1.length)).setCell ⟨w.heap.size,1,none⟩ (.bool true))):=I8 hgw hb9 (by omega) h1 v2 hb2
   clear h1 v2 hb2
   go_wp2_with fail
   exact bodyPost_ret (v := .agg #[.slice s1 x1.length x1.length,.bool true]) (by simp [results,Tryz.results10,go_sem,q90,q91]) rfl hF.out
 · obtain ⟨a,ha⟩:∃ a:Nat,n=(a:Int):=⟨n.natAbs,by omega⟩
   have f1:decide (n<0)=false:=decide_eq_false hn
   have hm2:IntKind.u64.wrap n=(a:Int):=by
    rw [IntKind.wrap_u64];omega
   have haB:a<B:=by unfold B;omega
   have hz:a=n.natAbs:=by omega
   have HA:=Lib.hid haB
   have HZ:=Lib.hid hz
   clear ha haB hz h1 h2
   go_enter Tryz.func10,Tryz.ntmps10
   go_wp2_with fail
   refine (rH _ a HA.out).mono ?_
   rintro e w1 ⟨v,rfl,⟨s1,x1,rfl,h1,v1⟩,g1⟩
   have v2:val B x1=n.natAbs:=v1.trans HZ.out
   have hb2:false=true ↔ n<0:=by constructor<;>intro h<;>first | cases h | omega
   have hgw:=A2 hgw0 g1
   have hb9:=A1 g1 hr0
   obtain ⟨c90,c91,f90,f91⟩:=A3 hb9
   obtain ⟨q90,q91,r90,r91⟩:=A3 (B7 hb9 (.slice s1 x1.length x1.length) (.bool false))
   have hF:Hid (E4 w (n) (.returned (.agg #[.slice s1 x1.length x1.length,.bool false])) ((w1.setCell ⟨w.heap.size,0,none⟩ (.slice s1 x1.length x1.length)).setCell ⟨w.heap.size,1,none⟩ (.bool false))):=I8 hgw hb9 (by omega) h1 v2 hb2
   clear h1 v2 hb2
   go_wp2_with fail
   exact bodyPost_ret (v := .agg #[.slice s1 x1.length x1.length,.bool false]) (by simp [results,Tryz.results10,go_sem,q90,q91]) rfl hF.out
theorem bw {a k n:Nat} (h:a<B^k) (hk:k<=n):a<B^n:=Nat.lt_of_lt_of_le h (Nat.pow_le_pow_right D6 hk)
theorem badd {a b k:Nat} (h1:a<B^k) (h2:b<B^k):a+b<B^(k+1):=by
 have:B^(k+1)=B^k*B:=Nat.pow_succ ..
 have h3:B^k*2<=B^k*B:=Nat.mul_le_mul_left _ (by decide)
 omega
set_option maxHeartbeats 4000000 in
theorem iX (w:World) (va vn:Value) (z:Int) (a K:Nat) (b:Bool) (ha:IntV w va z) (hn:NatV w vn a) (hK:K<=900000) (la:z.natAbs<B^K) (ln:a<B^K) :
 Calls Tryz.prog 107 #[va,vn,.bool b] w (E4 w (z+(if b=true then -(a:Int) else a))):=by
 obtain ⟨sa,xs,zb,rfl,hx,hv,hb⟩:=ha
 obtain ⟨sn,ys,rfl,hy,hvy⟩:=hn
 have hgw0:w.grownBy (((w.alloc (.cells #[.slice sa xs.length xs.length,.bool zb] 28)).alloc (.cells #[.slice sn ys.length ys.length] 26)).alloc (.cells #[.slice none 0 0,.bool false] 28)) none:=A8 (A8 (World.grownBy_alloc _ _ _) _) _
 have hr:=A4 ((w.alloc (.cells #[.slice sa xs.length xs.length,.bool zb] 28)).alloc (.cells #[.slice sn ys.length ys.length] 26)) (.cells #[.slice none 0 0,.bool false] 28) (w.heap.size+1+1) (by simp)
 have hbn:=A1 (World.grownBy_alloc _ (.cells #[.slice none 0 0,.bool false] 28) none) (A4 (w.alloc (.cells #[.slice sa xs.length xs.length,.bool zb] 28)) (.cells #[.slice sn ys.length ys.length] 26) (w.heap.size+1) (by simp))
 have hba:=A1 (A8 (World.grownBy_alloc _ (.cells #[.slice sn ys.length ys.length] 26) none) (.cells #[.slice none 0 0,.bool false] 28)) (A4 w (.cells #[.slice sa xs.length xs.length,.bool zb] 28) w.heap.size rfl)
 have na:NatV (((w.alloc (.cells #[.slice sa xs.length xs.length,.bool zb] 28)).alloc (.cells #[.slice sn ys.length ys.length] 26)).alloc (.cells #[.slice none 0 0,.bool false] 28)) (.agg #[.slice sa xs.length xs.length]) z.natAbs:=⟨sa,xs,rfl,hx.kept hgw0,hv⟩
 have nn:NatV (((w.alloc (.cells #[.slice sa xs.length xs.length,.bool zb] 28)).alloc (.cells #[.slice sn ys.length ys.length] 26)).alloc (.cells #[.slice none 0 0,.bool false] 28)) (.agg #[.slice sn ys.length ys.length]) a:=⟨sn,ys,rfl,hy.kept hgw0,hvy⟩
 obtain ⟨A,hA⟩:∃ A,z.natAbs=A:=⟨_,rfl⟩
 rw [hA] at na la
 obtain ⟨t,ht⟩:∃ t,z+(if b=true then -(a:Int) else a)=t:=⟨_,rfl⟩
 rw [ht]
 have Hla:=Lib.hid la
 have Hln:=Lib.hid ln
 have HA:=Lib.hid hA
 have HB:=Lib.hid hb
 have HT:=Lib.hid ht
 clear hx hv hy hvy la ln hA hb ht
 cases zb<;>cases b
 · have hz:¬ z<0:=fun h=>by have:=HB.out.2 h;cases this
   go_enter Tryz.func107,Tryz.ntmps107
   obtain ⟨ca0,ca1,fa0,fa1⟩:=A3 hba
   obtain ⟨cn,fn⟩:=A7 hbn
   go_wp2_with fail
   refine (kK _ _ _ A a K na nn (by omega) Hla.out Hln.out).mono ?_
   rintro e w1 ⟨v1,rfl,n1,g1⟩
   go_wp2_with fail
   refine (G9 w1 v1 (A+a) (K+1) false n1 (by omega) (badd Hla.out Hln.out)).mono ?_
   rintro e w2 ⟨v2,rfl,⟨s2,x2,fl2,rfl,h2,vv2,hb2⟩,g2⟩
   have hgw:=A2 (A2 hgw0 g1) g2
   have hrr:=A1 g2 (A1 g1 hr)
   have e2:(if false=true then -((A+a:Nat):Int) else ((A+a:Nat):Int))=t:=by rw [<- HT.out, <- HA.out];simp;omega
   rw [e2] at vv2 hb2
   clear n1 g1 g2 na nn
   have hb9:=hrr
   obtain ⟨c90,c91,f90,f91⟩:=A3 hb9
   obtain ⟨q90,q91,r90,r91⟩:=A3 (B7 hb9 (.slice s2 x2.length x2.length) (.bool fl2))
   have hF:Hid (E4 w (t) (.returned (.agg #[.slice s2 x2.length x2.length,.bool fl2])) ((w2.setCell ⟨w.heap.size+1+1,0,none⟩ (.slice s2 x2.length x2.length)).setCell ⟨w.heap.size+1+1,1,none⟩ (.bool fl2))):=I8 hgw hb9 (by omega) h2 vv2 hb2
   clear h2 vv2 hb2
   go_wp2_with fail
   exact bodyPost_ret (v := .agg #[.slice s2 x2.length x2.length,.bool fl2]) (by simp [results,Tryz.results107,go_sem,q90,q91]) rfl hF.out
 · have hz:¬ z<0:=fun h=>by have:=HB.out.2 h;cases this
   rcases Nat.lt_or_ge A a with hlt | hle
   · skip
     go_enter Tryz.func107,Tryz.ntmps107
     obtain ⟨ca0,ca1,fa0,fa1⟩:=A3 hba
     obtain ⟨cn,fn⟩:=A7 hbn
     go_wp2_with fail
     refine (Sub_less _ _ _ A a K na nn (by omega) Hla.out Hln.out hlt).mono ?_
     rintro e w1 ⟨v1,rfl,⟨s1,x1,rfl,h1,vv1⟩,g1⟩
     have gA:=A8 g1 (.cells #[.slice s1 x1.length x1.length] 26)
     obtain ⟨ca0,ca1,fa0,fa1⟩:=A3 (A1 gA hba)
     obtain ⟨cn,fn⟩:=A7 (A1 gA hbn)
     have na1:=na.kept gA
     have nn1:=nn.kept gA
     have hr1:=A1 gA hr
     have hgw1:=A2 hgw0 gA
     clear na nn g1 gA hr h1 vv1
     go_wp2_with fail
     generalize (w1.alloc (.cells #[.slice s1 x1.length x1.length] 26))=w2 at *
     refine (eQ w2 _ _ a A K nn1 na1 (by omega) Hln.out (by omega)).mono ?_
     rintro e w3 ⟨v3,rfl,⟨s3,x3,rfl,h3,vv3⟩,g3⟩
     have gB:=A8 g3 (.cells #[.slice s3 x3.length x3.length] 26)
     have n3:NatV (w3.alloc (.cells #[.slice s3 x3.length x3.length] 26)) (.agg #[.slice s3 x3.length x3.length]) (a-A):=⟨s3,x3,rfl,h3.kept (World.grownBy_alloc _ _ _),vv3⟩
     have hr3:=A1 gB hr1
     have hgw3:=A2 hgw1 gB
     have h9:=A4 w3 (.cells #[.slice s3 x3.length x3.length] 26) w3.heap.size rfl
     obtain ⟨c9,f9⟩:=A7 h9
     clear g3 gB h3 vv3
     go_wp2_with fail
     generalize (w3.alloc (.cells #[.slice s3 x3.length x3.length] 26))=w4 at *
     refine (G9 w4 _ (a-A) K true n3 (by omega) (Nat.lt_of_le_of_lt (Nat.sub_le _ _) Hln.out)).mono ?_
     rintro e w5 ⟨v5,rfl,⟨s5,x5,fl5,rfl,h5,vv5,hb5⟩,g5⟩
     have hgw5:=A2 hgw3 g5
     have hr5:=A1 g5 hr3
     have e5:(if true=true then -((a-A:Nat):Int) else ((a-A:Nat):Int))=t:=by rw [<- HT.out];have:=HA.out;simp;omega
     rw [e5] at vv5 hb5
     clear n3 g5 hr3
     have hb9:=hr5
     obtain ⟨c90,c91,f90,f91⟩:=A3 hb9
     obtain ⟨q90,q91,r90,r91⟩:=A3 (B7 hb9 (.slice s5 x5.length x5.length) (.bool fl5))
     have hF:Hid (E4 w (t) (.returned (.agg #[.slice s5 x5.length x5.length,.bool fl5])) ((w5.setCell ⟨w.heap.size+1+1,0,none⟩ (.slice s5 x5.length x5.length)).setCell ⟨w.heap.size+1+1,1,none⟩ (.bool fl5))):=I8 hgw5 hb9 (by omega) h5 vv5 hb5
     clear h5 vv5 hb5
     go_wp2_with fail
     exact bodyPost_ret (v := .agg #[.slice s5 x5.length x5.length,.bool fl5]) (by simp [results,Tryz.results107,go_sem,q90,q91]) rfl hF.out
   · skip
     go_enter Tryz.func107,Tryz.ntmps107
     obtain ⟨ca0,ca1,fa0,fa1⟩:=A3 hba
     obtain ⟨cn,fn⟩:=A7 hbn
     go_wp2_with fail
     refine (eQ _ _ _ A a K na nn (by omega) Hla.out hle).mono ?_
     rintro e w1 ⟨v1,rfl,⟨s1,x1,rfl,h1,vv1⟩,g1⟩
     have gA:=A8 g1 (.cells #[.slice s1 x1.length x1.length] 26)
     obtain ⟨ca0,ca1,fa0,fa1⟩:=A3 (A1 gA hba)
     have n1:NatV (w1.alloc (.cells #[.slice s1 x1.length x1.length] 26)) (.agg #[.slice s1 x1.length x1.length]) (A-a):=⟨s1,x1,rfl,h1.kept (World.grownBy_alloc _ _ _),vv1⟩
     have hr1:=A1 gA hr
     have hgw1:=A2 hgw0 gA
     have h9:=A4 w1 (.cells #[.slice s1 x1.length x1.length] 26) w1.heap.size rfl
     obtain ⟨c9,f9⟩:=A7 h9
     clear na nn g1 gA hr h1 vv1
     go_wp2_with fail
     generalize (w1.alloc (.cells #[.slice s1 x1.length x1.length] 26))=w2 at *
     refine (G9 w2 _ (A-a) K false n1 (by omega) (Nat.lt_of_le_of_lt (Nat.sub_le _ _) Hla.out)).mono ?_
     rintro e w5 ⟨v5,rfl,⟨s5,x5,fl5,rfl,h5,vv5,hb5⟩,g5⟩
     have hgw5:=A2 hgw1 g5
     have hr5:=A1 g5 hr1
     have e5:(if false=true then -((A-a:Nat):Int) else ((A-a:Nat):Int))=t:=by rw [<- HT.out];have:=HA.out;simp;omega
     rw [e5] at vv5 hb5
     clear n1 g5 hr1
     have hb9:=hr5
     obtain ⟨c90,c91,f90,f91⟩:=A3 hb9
     obtain ⟨q90,q91,r90,r91⟩:=A3 (B7 hb9 (.slice s5 x5.length x5.length) (.bool fl5))
     have hF:Hid (E4 w (t) (.returned (.agg #[.slice s5 x5.length x5.length,.bool fl5])) ((w5.setCell ⟨w.heap.size+1+1,0,none⟩ (.slice s5 x5.length x5.length)).setCell ⟨w.heap.size+1+1,1,none⟩ (.bool fl5))):=I8 hgw5 hb9 (by omega) h5 vv5 hb5
     clear h5 vv5 hb5
     go_wp2_with fail
     exact bodyPost_ret (v := .agg #[.slice s5 x5.length x5.length,.bool fl5]) (by simp [results,Tryz.results107,go_sem,q90,q91]) rfl hF.out
 · have hz:z<0:=HB.out.1 rfl
   rcases Nat.lt_or_ge A a with hlt | hle
   · skip
     go_enter Tryz.func107,Tryz.ntmps107
     obtain ⟨ca0,ca1,fa0,fa1⟩:=A3 hba
     obtain ⟨cn,fn⟩:=A7 hbn
     go_wp2_with fail
     refine (Sub_less _ _ _ A a K na nn (by omega) Hla.out Hln.out hlt).mono ?_
     rintro e w1 ⟨v1,rfl,⟨s1,x1,rfl,h1,vv1⟩,g1⟩
     have gA:=A8 g1 (.cells #[.slice s1 x1.length x1.length] 26)
     obtain ⟨ca0,ca1,fa0,fa1⟩:=A3 (A1 gA hba)
     obtain ⟨cn,fn⟩:=A7 (A1 gA hbn)
     have na1:=na.kept gA
     have nn1:=nn.kept gA
     have hr1:=A1 gA hr
     have hgw1:=A2 hgw0 gA
     clear na nn g1 gA hr h1 vv1
     go_wp2_with fail
     generalize (w1.alloc (.cells #[.slice s1 x1.length x1.length] 26))=w2 at *
     refine (eQ w2 _ _ a A K nn1 na1 (by omega) Hln.out (by omega)).mono ?_
     rintro e w3 ⟨v3,rfl,⟨s3,x3,rfl,h3,vv3⟩,g3⟩
     have gB:=A8 g3 (.cells #[.slice s3 x3.length x3.length] 26)
     have n3:NatV (w3.alloc (.cells #[.slice s3 x3.length x3.length] 26)) (.agg #[.slice s3 x3.length x3.length]) (a-A):=⟨s3,x3,rfl,h3.kept (World.grownBy_alloc _ _ _),vv3⟩
     have hr3:=A1 gB hr1
     have hgw3:=A2 hgw1 gB
     have h9:=A4 w3 (.cells #[.slice s3 x3.length x3.length] 26) w3.heap.size rfl
     obtain ⟨c9,f9⟩:=A7 h9
     clear g3 gB h3 vv3
     go_wp2_with fail
     generalize (w3.alloc (.cells #[.slice s3 x3.length x3.length] 26))=w4 at *
     refine (G9 w4 _ (a-A) K false n3 (by omega) (Nat.lt_of_le_of_lt (Nat.sub_le _ _) Hln.out)).mono ?_
     rintro e w5 ⟨v5,rfl,⟨s5,x5,fl5,rfl,h5,vv5,hb5⟩,g5⟩
     have hgw5:=A2 hgw3 g5
     have hr5:=A1 g5 hr3
     have e5:(if false=true then -((a-A:Nat):Int) else ((a-A:Nat):Int))=t:=by rw [<- HT.out];have:=HA.out;simp;omega
     rw [e5] at vv5 hb5
     clear n3 g5 hr3
     have hb9:=hr5
     obtain ⟨c90,c91,f90,f91⟩:=A3 hb9
     obtain ⟨q90,q91,r90,r91⟩:=A3 (B7 hb9 (.slice s5 x5.length x5.length) (.bool fl5))
     have hF:Hid (E4 w (t) (.returned (.agg #[.slice s5 x5.length x5.length,.bool fl5])) ((w5.setCell ⟨w.heap.size+1+1,0,none⟩ (.slice s5 x5.length x5.length)).setCell ⟨w.heap.size+1+1,1,none⟩ (.bool fl5))):=I8 hgw5 hb9 (by omega) h5 vv5 hb5
     clear h5 vv5 hb5
     go_wp2_with fail
     exact bodyPost_ret (v := .agg #[.slice s5 x5.length x5.length,.bool fl5]) (by simp [results,Tryz.results107,go_sem,q90,q91]) rfl hF.out
   · skip
     go_enter Tryz.func107,Tryz.ntmps107
     obtain ⟨ca0,ca1,fa0,fa1⟩:=A3 hba
     obtain ⟨cn,fn⟩:=A7 hbn
     go_wp2_with fail
     refine (eQ _ _ _ A a K na nn (by omega) Hla.out hle).mono ?_
     rintro e w1 ⟨v1,rfl,⟨s1,x1,rfl,h1,vv1⟩,g1⟩
     have gA:=A8 g1 (.cells #[.slice s1 x1.length x1.length] 26)
     obtain ⟨ca0,ca1,fa0,fa1⟩:=A3 (A1 gA hba)
     have n1:NatV (w1.alloc (.cells #[.slice s1 x1.length x1.length] 26)) (.agg #[.slice s1 x1.length x1.length]) (A-a):=⟨s1,x1,rfl,h1.kept (World.grownBy_alloc _ _ _),vv1⟩
     have hr1:=A1 gA hr
     have hgw1:=A2 hgw0 gA
     have h9:=A4 w1 (.cells #[.slice s1 x1.length x1.length] 26) w1.heap.size rfl
     obtain ⟨c9,f9⟩:=A7 h9
     clear na nn g1 gA hr h1 vv1
     go_wp2_with fail
     generalize (w1.alloc (.cells #[.slice s1 x1.length x1.length] 26))=w2 at *
     refine (G9 w2 _ (A-a) K true n1 (by omega) (Nat.lt_of_le_of_lt (Nat.sub_le _ _) Hla.out)).mono ?_
     rintro e w5 ⟨v5,rfl,⟨s5,x5,fl5,rfl,h5,vv5,hb5⟩,g5⟩
     have hgw5:=A2 hgw1 g5
     have hr5:=A1 g5 hr1
     have e5:(if true=true then -((A-a:Nat):Int) else ((A-a:Nat):Int))=t:=by rw [<- HT.out];have:=HA.out;simp;omega
     rw [e5] at vv5 hb5
     clear n1 g5 hr1
     have hb9:=hr5
     obtain ⟨c90,c91,f90,f91⟩:=A3 hb9
     obtain ⟨q90,q91,r90,r91⟩:=A3 (B7 hb9 (.slice s5 x5.length x5.length) (.bool fl5))
     have hF:Hid (E4 w (t) (.returned (.agg #[.slice s5 x5.length x5.length,.bool fl5])) ((w5.setCell ⟨w.heap.size+1+1,0,none⟩ (.slice s5 x5.length x5.length)).setCell ⟨w.heap.size+1+1,1,none⟩ (.bool fl5))):=I8 hgw5 hb9 (by omega) h5 vv5 hb5
     clear h5 vv5 hb5
     go_wp2_with fail
     exact bodyPost_ret (v := .agg #[.slice s5 x5.length x5.length,.bool fl5]) (by simp [results,Tryz.results107,go_sem,q90,q91]) rfl hF.out
 · have hz:z<0:=HB.out.1 rfl
   go_enter Tryz.func107,Tryz.ntmps107
   obtain ⟨ca0,ca1,fa0,fa1⟩:=A3 hba
   obtain ⟨cn,fn⟩:=A7 hbn
   go_wp2_with fail
   refine (kK _ _ _ A a K na nn (by omega) Hla.out Hln.out).mono ?_
   rintro e w1 ⟨v1,rfl,n1,g1⟩
   go_wp2_with fail
   refine (G9 w1 v1 (A+a) (K+1) true n1 (by omega) (badd Hla.out Hln.out)).mono ?_
   rintro e w2 ⟨v2,rfl,⟨s2,x2,fl2,rfl,h2,vv2,hb2⟩,g2⟩
   have hgw:=A2 (A2 hgw0 g1) g2
   have hrr:=A1 g2 (A1 g1 hr)
   have e2:(if true=true then -((A+a:Nat):Int) else ((A+a:Nat):Int))=t:=by rw [<- HT.out, <- HA.out];simp;omega
   rw [e2] at vv2 hb2
   clear n1 g1 g2 na nn
   have hb9:=hrr
   obtain ⟨c90,c91,f90,f91⟩:=A3 hb9
   obtain ⟨q90,q91,r90,r91⟩:=A3 (B7 hb9 (.slice s2 x2.length x2.length) (.bool fl2))
   have hF:Hid (E4 w (t) (.returned (.agg #[.slice s2 x2.length x2.length,.bool fl2])) ((w2.setCell ⟨w.heap.size+1+1,0,none⟩ (.slice s2 x2.length x2.length)).setCell ⟨w.heap.size+1+1,1,none⟩ (.bool fl2))):=I8 hgw hb9 (by omega) h2 vv2 hb2
   clear h2 vv2 hb2
   go_wp2_with fail
   exact bodyPost_ret (v := .agg #[.slice s2 x2.length x2.length,.bool fl2]) (by simp [results,Tryz.results107,go_sem,q90,q91]) rfl hF.out
theorem dR {z:Int} {b:Bool} (h:b=true ↔ z<0):(if b=true then -(z.natAbs:Int) else z.natAbs)=z:=by
 cases b
 · have:¬ z<0:=fun q=>by have:=h.2 q;cases this
   simp;omega
 · have:=h.1 rfl
   simp;omega
theorem side_neg {z:Int} {b:Bool} (h:b=true ↔ z<0):(if (!b)=true then -(z.natAbs:Int) else z.natAbs) = -z:=by
 cases b
 · have:¬ z<0:=fun q=>by have:=h.2 q;cases this
   simp;omega
 · have:=h.1 rfl
   simp;omega
theorem side_mul {x y:Int} {a b:Bool} (h:a=true ↔ x<0) (k:b=true ↔ y<0):(if (a != b)=true then -((x.natAbs*y.natAbs:Nat):Int) else ((x.natAbs*y.natAbs:Nat):Int))=x*y:=by
 have e1:=dR h
 have e2:=dR k
 have e3:((x.natAbs*y.natAbs:Nat):Int)=(x.natAbs:Int)*(y.natAbs:Int):=Int.natCast_mul _ _
 rw [e3]
 cases a<;>cases b<;>simp at e1 e2 ⊢
 · rw [e1,e2]
 · rw [<- Int.mul_neg,e1,e2]
 · rw [<- Int.neg_mul,e1,e2]
 · rw [<- Int.neg_mul_neg,e1,e2]
set_option maxHeartbeats 4000000 in
theorem F6 (w:World) (va vb:Value) (x y:Int) (K:Nat) (ha:IntV w va x) (hb:IntV w vb y) (hK:K<=900000) (la:x.natAbs<B^K) (lb:y.natAbs<B^K) :
 Calls Tryz.prog 45 #[va,vb] w (E4 w (x+y)):=by
 obtain ⟨sa,xs,za,rfl,hx,hv,hza⟩:=ha
 obtain ⟨sb,ys,zb,rfl,hy,hvy,hzb⟩:=hb
 have hgw0:w.grownBy (((w.alloc (.cells #[.slice sa xs.length xs.length,.bool za] 28)).alloc (.cells #[.slice sb ys.length ys.length,.bool zb] 28)).alloc (.cells #[.slice none 0 0,.bool false] 28)) none:=A8 (A8 (World.grownBy_alloc _ _ _) _) _
 have hr:=A4 ((w.alloc (.cells #[.slice sa xs.length xs.length,.bool za] 28)).alloc (.cells #[.slice sb ys.length ys.length,.bool zb] 28)) (.cells #[.slice none 0 0,.bool false] 28) (w.heap.size+1+1) (by simp)
 have hbb:=A1 (World.grownBy_alloc _ (.cells #[.slice none 0 0,.bool false] 28) none) (A4 (w.alloc (.cells #[.slice sa xs.length xs.length,.bool za] 28)) (.cells #[.slice sb ys.length ys.length,.bool zb] 28) (w.heap.size+1) (by simp))
 have hba:=A1 (A8 (World.grownBy_alloc _ (.cells #[.slice sb ys.length ys.length,.bool zb] 28) none) (.cells #[.slice none 0 0,.bool false] 28)) (A4 w (.cells #[.slice sa xs.length xs.length,.bool za] 28) w.heap.size rfl)
 have na:IntV (((w.alloc (.cells #[.slice sa xs.length xs.length,.bool za] 28)).alloc (.cells #[.slice sb ys.length ys.length,.bool zb] 28)).alloc (.cells #[.slice none 0 0,.bool false] 28)) (.agg #[.slice sa xs.length xs.length,.bool za]) x:=⟨sa,xs,za,rfl,hx.kept hgw0,hv,hza⟩
 have nn:NatV (((w.alloc (.cells #[.slice sa xs.length xs.length,.bool za] 28)).alloc (.cells #[.slice sb ys.length ys.length,.bool zb] 28)).alloc (.cells #[.slice none 0 0,.bool false] 28)) (.agg #[.slice sb ys.length ys.length]) y.natAbs:=⟨sb,ys,rfl,hy.kept hgw0,hvy⟩
 have Hla:=Lib.hid la
 have Hlb:=Lib.hid lb
 have HE:Hid (x+(if (zb)=true then -(y.natAbs:Int) else y.natAbs)=x+y):=by show _=_;rw [dR hzb]
 clear hx hv hy hvy la lb hza hzb
 go_enter Tryz.func45,Tryz.ntmps45
 obtain ⟨ca0,ca1,fa0,fa1⟩:=A3 hba
 obtain ⟨cb0,cb1,fb0,fb1⟩:=A3 hbb
 go_wp2_with fail
 refine (iX _ _ _ x y.natAbs K (zb) na nn hK Hla.out Hlb.out).mono ?_
 rintro e w2 ⟨v2,rfl,⟨s2,x2,fl2,rfl,h2,vv2,hb2⟩,g2⟩
 rw [HE.out] at vv2 hb2
 have hgw:=A2 hgw0 g2
 have hrr:=A1 g2 hr
 clear na nn g2
 have hb9:=hrr
 obtain ⟨c90,c91,f90,f91⟩:=A3 hb9
 obtain ⟨q90,q91,r90,r91⟩:=A3 (B7 hb9 (.slice s2 x2.length x2.length) (.bool fl2))
 have hF:Hid (E4 w (x+y) (.returned (.agg #[.slice s2 x2.length x2.length,.bool fl2])) ((w2.setCell ⟨w.heap.size+1+1,0,none⟩ (.slice s2 x2.length x2.length)).setCell ⟨w.heap.size+1+1,1,none⟩ (.bool fl2))):=I8 hgw hb9 (by omega) h2 vv2 hb2
 clear h2 vv2 hb2
 go_wp2_with fail
 exact bodyPost_ret (v := .agg #[.slice s2 x2.length x2.length,.bool fl2]) (by simp [results,Tryz.results45,go_sem,q90,q91]) rfl hF.out
set_option maxHeartbeats 4000000 in
theorem qW (w:World) (va vb:Value) (x y:Int) (K:Nat) (ha:IntV w va x) (hb:IntV w vb y) (hK:K<=900000) (la:x.natAbs<B^K) (lb:y.natAbs<B^K) :
 Calls Tryz.prog 102 #[va,vb] w (E4 w (x-y)):=by
 obtain ⟨sa,xs,za,rfl,hx,hv,hza⟩:=ha
 obtain ⟨sb,ys,zb,rfl,hy,hvy,hzb⟩:=hb
 have hgw0:w.grownBy (((w.alloc (.cells #[.slice sa xs.length xs.length,.bool za] 28)).alloc (.cells #[.slice sb ys.length ys.length,.bool zb] 28)).alloc (.cells #[.slice none 0 0,.bool false] 28)) none:=A8 (A8 (World.grownBy_alloc _ _ _) _) _
 have hr:=A4 ((w.alloc (.cells #[.slice sa xs.length xs.length,.bool za] 28)).alloc (.cells #[.slice sb ys.length ys.length,.bool zb] 28)) (.cells #[.slice none 0 0,.bool false] 28) (w.heap.size+1+1) (by simp)
 have hbb:=A1 (World.grownBy_alloc _ (.cells #[.slice none 0 0,.bool false] 28) none) (A4 (w.alloc (.cells #[.slice sa xs.length xs.length,.bool za] 28)) (.cells #[.slice sb ys.length ys.length,.bool zb] 28) (w.heap.size+1) (by simp))
 have hba:=A1 (A8 (World.grownBy_alloc _ (.cells #[.slice sb ys.length ys.length,.bool zb] 28) none) (.cells #[.slice none 0 0,.bool false] 28)) (A4 w (.cells #[.slice sa xs.length xs.length,.bool za] 28) w.heap.size rfl)
 have na:IntV (((w.alloc (.cells #[.slice sa xs.length xs.length,.bool za] 28)).alloc (.cells #[.slice sb ys.length ys.length,.bool zb] 28)).alloc (.cells #[.slice none 0 0,.bool false] 28)) (.agg #[.slice sa xs.length xs.length,.bool za]) x:=⟨sa,xs,za,rfl,hx.kept hgw0,hv,hza⟩
 have nn:NatV (((w.alloc (.cells #[.slice sa xs.length xs.length,.bool za] 28)).alloc (.cells #[.slice sb ys.length ys.length,.bool zb] 28)).alloc (.cells #[.slice none 0 0,.bool false] 28)) (.agg #[.slice sb ys.length ys.length]) y.natAbs:=⟨sb,ys,rfl,hy.kept hgw0,hvy⟩
 have Hla:=Lib.hid la
 have Hlb:=Lib.hid lb
 have HE:Hid (x+(if (!zb)=true then -(y.natAbs:Int) else y.natAbs)=x-y):=by show _=_;rw [side_neg hzb];omega
 clear hx hv hy hvy la lb hza hzb
 go_enter Tryz.func102,Tryz.ntmps102
 obtain ⟨ca0,ca1,fa0,fa1⟩:=A3 hba
 obtain ⟨cb0,cb1,fb0,fb1⟩:=A3 hbb
 go_wp2_with fail
 refine (iX _ _ _ x y.natAbs K (!zb) na nn hK Hla.out Hlb.out).mono ?_
 rintro e w2 ⟨v2,rfl,⟨s2,x2,fl2,rfl,h2,vv2,hb2⟩,g2⟩
 rw [HE.out] at vv2 hb2
 have hgw:=A2 hgw0 g2
 have hrr:=A1 g2 hr
 clear na nn g2
 have hb9:=hrr
 obtain ⟨c90,c91,f90,f91⟩:=A3 hb9
 obtain ⟨q90,q91,r90,r91⟩:=A3 (B7 hb9 (.slice s2 x2.length x2.length) (.bool fl2))
 have hF:Hid (E4 w (x-y) (.returned (.agg #[.slice s2 x2.length x2.length,.bool fl2])) ((w2.setCell ⟨w.heap.size+1+1,0,none⟩ (.slice s2 x2.length x2.length)).setCell ⟨w.heap.size+1+1,1,none⟩ (.bool fl2))):=I8 hgw hb9 (by omega) h2 vv2 hb2
 clear h2 vv2 hb2
 go_wp2_with fail
 exact bodyPost_ret (v := .agg #[.slice s2 x2.length x2.length,.bool fl2]) (by simp [results,Tryz.results102,go_sem,q90,q91]) rfl hF.out
set_option maxHeartbeats 4000000 in
theorem X1 (w:World) (va:Value) (x:Int) (K:Nat) (ha:IntV w va x) (hK:K<=900000) (la:x.natAbs<B^K) :
 Calls Tryz.prog 81 #[va] w (E4 w (-x)):=by
 obtain ⟨sa,xs,za,rfl,hx,hv,hza⟩:=ha
 have hgw0:w.grownBy ((w.alloc (.cells #[.slice sa xs.length xs.length,.bool za] 28)).alloc (.cells #[.slice none 0 0,.bool false] 28)) none:=A8 (World.grownBy_alloc _ _ _) _
 have hr:=A4 (w.alloc (.cells #[.slice sa xs.length xs.length,.bool za] 28)) (.cells #[.slice none 0 0,.bool false] 28) (w.heap.size+1) (by simp)
 have hba:=A1 (World.grownBy_alloc _ (.cells #[.slice none 0 0,.bool false] 28) none) (A4 w (.cells #[.slice sa xs.length xs.length,.bool za] 28) w.heap.size rfl)
 have na:NatV ((w.alloc (.cells #[.slice sa xs.length xs.length,.bool za] 28)).alloc (.cells #[.slice none 0 0,.bool false] 28)) (.agg #[.slice sa xs.length xs.length]) x.natAbs:=⟨sa,xs,rfl,hx.kept hgw0,hv⟩
 have Hla:=Lib.hid la
 have HE:=Lib.hid (side_neg hza)
 clear hx hv la hza
 go_enter Tryz.func81,Tryz.ntmps81
 go_wp2_with fail
 generalize ((w.alloc (.cells #[.slice sa xs.length xs.length,.bool za] 28)).alloc (.cells #[.slice none 0 0,.bool false] 28))=w0 at *
 obtain ⟨ca0,ca1,fa0,fa1⟩:=A3 hba
 go_region_held3 (fun w'=>w'.cell? ⟨w.heap.size,0,none⟩=some (.slice sa xs.length xs.length)/\w'.cell? ⟨w.heap.size,1,none⟩=some (.bool za))
  (first | assumption | exact ⟨ca0,ca1⟩ | exact HS3 | go_keep)
  (first
   | (go_at_call 92;(with_reducible refine (lF w0.drew _ x.natAbs K (na.kept (C9 (A9 _ _))) (by omega) Hla.out).mono ?_);rintro e w1 ⟨v1,rfl,n1,g1⟩;have hG1:=H6 w0 g1 rfl rfl rfl rfl;have hS1:=And.intro (hG1.cell ca0 (by simp)) (hG1.cell ca1 (by simp)))
   | (go_at_call 98;(with_reducible refine (G9 w1 _ x.natAbs K (!za) n1 (by omega) Hla.out).mono ?_);rintro e w2 ⟨v2,rfl,⟨s2,x2,fl2,rfl,h2,vv2,hb2⟩,g2⟩;have hG2:=A2 hG1 g2;have hS2:=And.intro (hG2.cell ca0 (by simp)) (hG2.cell ca1 (by simp));have hr2:=A1 hG2 hr;(obtain ⟨d0,d1,k0,k1⟩:=A3 hr2);have HS3:=And.intro (A3 (F7 (A1 hG2 hba) (show w.heap.size≠w.heap.size+1 by omega) (.slice s2 x2.length x2.length) (.bool fl2))).1 (A3 (F7 (A1 hG2 hba) (show w.heap.size≠w.heap.size+1 by omega) (.slice s2 x2.length x2.length) (.bool fl2))).2.1))
 rw [HE.out] at vv2 hb2
 have hgw:=A2 hgw0 hG2
 clear n1 g1 g2 na
 have hb9:=hr2
 obtain ⟨c90,c91,f90,f91⟩:=A3 hb9
 obtain ⟨q90,q91,r90,r91⟩:=A3 (B7 hb9 (.slice s2 x2.length x2.length) (.bool fl2))
 have hF:Hid (E4 w (-x) (.returned (.agg #[.slice s2 x2.length x2.length,.bool fl2])) ((w2.setCell ⟨w.heap.size+1,0,none⟩ (.slice s2 x2.length x2.length)).setCell ⟨w.heap.size+1,1,none⟩ (.bool fl2))):=I8 hgw hb9 (by omega) h2 vv2 hb2
 clear h2 vv2 hb2
 go_wp2_with fail
 exact bodyPost_ret (v := .agg #[.slice s2 x2.length x2.length,.bool fl2]) (by simp [results,Tryz.results81,go_sem,q90,q91]) rfl hF.out
theorem bmul {a b k m:Nat} (h1:a<B^k) (h2:b<B^m):a*b<B^(k+m):=by
 rw [Nat.pow_add];exact Nat.mul_lt_mul'' h1 h2
set_option maxHeartbeats 8000000 in
theorem F2 (w:World) (va vb:Value) (x y:Int) (K:Nat) (ha:IntV w va x) (hb:IntV w vb y) (hK:K<=400000) (la:x.natAbs<B^K) (lb:y.natAbs<B^K) :
 Calls Tryz.prog 38 #[va,vb] w (E4 w (x*y)):=by
 obtain ⟨sa,xs,za,rfl,hx,hv,hza⟩:=ha
 obtain ⟨sb,ys,zb,rfl,hy,hvy,hzb⟩:=hb
 have hgw0:w.grownBy (((w.alloc (.cells #[.slice sa xs.length xs.length,.bool za] 28)).alloc (.cells #[.slice sb ys.length ys.length,.bool zb] 28)).alloc (.cells #[.slice none 0 0,.bool false] 28)) none:=A8 (A8 (World.grownBy_alloc _ _ _) _) _
 have hr:=A4 ((w.alloc (.cells #[.slice sa xs.length xs.length,.bool za] 28)).alloc (.cells #[.slice sb ys.length ys.length,.bool zb] 28)) (.cells #[.slice none 0 0,.bool false] 28) (w.heap.size+1+1) (by simp)
 have hbb:=A1 (World.grownBy_alloc _ (.cells #[.slice none 0 0,.bool false] 28) none) (A4 (w.alloc (.cells #[.slice sa xs.length xs.length,.bool za] 28)) (.cells #[.slice sb ys.length ys.length,.bool zb] 28) (w.heap.size+1) (by simp))
 have hba:=A1 (A8 (World.grownBy_alloc _ (.cells #[.slice sb ys.length ys.length,.bool zb] 28) none) (.cells #[.slice none 0 0,.bool false] 28)) (A4 w (.cells #[.slice sa xs.length xs.length,.bool za] 28) w.heap.size rfl)
 have na:NatV (((w.alloc (.cells #[.slice sa xs.length xs.length,.bool za] 28)).alloc (.cells #[.slice sb ys.length ys.length,.bool zb] 28)).alloc (.cells #[.slice none 0 0,.bool false] 28)) (.agg #[.slice sa xs.length xs.length]) x.natAbs:=⟨sa,xs,rfl,hx.kept hgw0,hv⟩
 have nn:NatV (((w.alloc (.cells #[.slice sa xs.length xs.length,.bool za] 28)).alloc (.cells #[.slice sb ys.length ys.length,.bool zb] 28)).alloc (.cells #[.slice none 0 0,.bool false] 28)) (.agg #[.slice sb ys.length ys.length]) y.natAbs:=⟨sb,ys,rfl,hy.kept hgw0,hvy⟩
 have Hla:=Lib.hid la
 have Hlb:=Lib.hid lb
 have HE:=Lib.hid (side_mul hza hzb)
 clear hx hv hy hvy la lb hza hzb
 cases za<;>cases zb
 · skip
   have HSG:Hid (∀ W v,NatV W v (x.natAbs*y.natAbs)->Calls Tryz.prog 98 #[v,.bool false] W (E4 W (x*y))):=fun W v hn=>by
    have q:=G9 W v _ (K+K) false hn (by omega) (bmul Hla.out Hlb.out)
    rw [show (if false=true then -((x.natAbs*y.natAbs:Nat):Int) else ((x.natAbs*y.natAbs:Nat):Int))=x*y from HE.out] at q
    exact q
   go_enter Tryz.func38,Tryz.ntmps38
   go_wp2_with fail
   generalize (((w.alloc (.cells #[.slice sa xs.length xs.length,.bool false] 28)).alloc (.cells #[.slice sb ys.length ys.length,.bool false] 28)).alloc (.cells #[.slice none 0 0,.bool false] 28))=w0 at *
   obtain ⟨ca0,ca1,fa0,fa1⟩:=A3 hba
   obtain ⟨cb0,cb1,fb0,fb1⟩:=A3 hbb
   go_region_held3 (fun w'=>w'.cell? ⟨w.heap.size,0,none⟩=some (.slice sa xs.length xs.length)/\w'.cell? ⟨w.heap.size,1,none⟩=some (.bool false)/\w'.cell? ⟨w.heap.size+1,0,none⟩=some (.slice sb ys.length ys.length)/\w'.cell? ⟨w.heap.size+1,1,none⟩=some (.bool false))
    (first | assumption | exact ⟨ca0,ca1,cb0,cb1⟩ | exact HS3 | go_keep)
    (first
     | (go_at_call 96;(with_reducible refine (nW w0.drew _ _ x.natAbs y.natAbs K (na.kept (C9 (A9 _ _))) (nn.kept (C9 (A9 _ _))) (by omega) Hla.out Hlb.out).mono ?_);rintro e w1 ⟨v1,rfl,n1,g1⟩;have hG1:=H6 w0 g1 rfl rfl rfl rfl;have hS1:=And.intro (hG1.cell ca0 (by simp)) (And.intro (hG1.cell ca1 (by simp)) (And.intro (hG1.cell cb0 (by simp)) (hG1.cell cb1 (by simp)))))
     | (go_at_call 98;(with_reducible refine (HSG.out w1 _ n1).mono ?_);rintro e w2 ⟨v2,rfl,⟨s2,x2,fl2,rfl,h2,vv2,hb2⟩,g2⟩;have hG2:=A2 hG1 g2;have hS2:=And.intro (hG2.cell ca0 (by simp)) (And.intro (hG2.cell ca1 (by simp)) (And.intro (hG2.cell cb0 (by simp)) (hG2.cell cb1 (by simp))));have hr2:=A1 hG2 hr;(obtain ⟨d0,d1,k0,k1⟩:=A3 hr2);have qa:=A3 (F7 (A1 hG2 hba) (show w.heap.size≠w.heap.size+1+1 by omega) (.slice s2 x2.length x2.length) (.bool fl2));have qb:=A3 (F7 (A1 hG2 hbb) (show w.heap.size+1≠w.heap.size+1+1 by omega) (.slice s2 x2.length x2.length) (.bool fl2));have HS3:=And.intro qa.1 (And.intro qa.2.1 (And.intro qb.1 qb.2.1))))
   have hgw:=A2 hgw0 hG2
   clear n1 g1 g2 na nn
   have hb9:=hr2
   obtain ⟨c90,c91,f90,f91⟩:=A3 hb9
   obtain ⟨q90,q91,r90,r91⟩:=A3 (B7 hb9 (.slice s2 x2.length x2.length) (.bool fl2))
   have hF:Hid (E4 w (x*y) (.returned (.agg #[.slice s2 x2.length x2.length,.bool fl2])) ((w2.setCell ⟨w.heap.size+1+1,0,none⟩ (.slice s2 x2.length x2.length)).setCell ⟨w.heap.size+1+1,1,none⟩ (.bool fl2))):=I8 hgw hb9 (by omega) h2 vv2 hb2
   clear h2 vv2 hb2
   go_wp2_with fail
   exact bodyPost_ret (v := .agg #[.slice s2 x2.length x2.length,.bool fl2]) (by simp [results,Tryz.results38,go_sem,q90,q91]) rfl hF.out
 · skip
   have HSG:Hid (∀ W v,NatV W v (x.natAbs*y.natAbs)->Calls Tryz.prog 98 #[v,.bool true] W (E4 W (x*y))):=fun W v hn=>by
    have q:=G9 W v _ (K+K) true hn (by omega) (bmul Hla.out Hlb.out)
    rw [show (if true=true then -((x.natAbs*y.natAbs:Nat):Int) else ((x.natAbs*y.natAbs:Nat):Int))=x*y from HE.out] at q
    exact q
   go_enter Tryz.func38,Tryz.ntmps38
   go_wp2_with fail
   generalize (((w.alloc (.cells #[.slice sa xs.length xs.length,.bool false] 28)).alloc (.cells #[.slice sb ys.length ys.length,.bool true] 28)).alloc (.cells #[.slice none 0 0,.bool false] 28))=w0 at *
   obtain ⟨ca0,ca1,fa0,fa1⟩:=A3 hba
   obtain ⟨cb0,cb1,fb0,fb1⟩:=A3 hbb
   go_region_held3 (fun w'=>w'.cell? ⟨w.heap.size,0,none⟩=some (.slice sa xs.length xs.length)/\w'.cell? ⟨w.heap.size,1,none⟩=some (.bool false)/\w'.cell? ⟨w.heap.size+1,0,none⟩=some (.slice sb ys.length ys.length)/\w'.cell? ⟨w.heap.size+1,1,none⟩=some (.bool true))
    (first | assumption | exact ⟨ca0,ca1,cb0,cb1⟩ | exact HS3 | go_keep)
    (first
     | (go_at_call 96;(with_reducible refine (nW w0.drew _ _ x.natAbs y.natAbs K (na.kept (C9 (A9 _ _))) (nn.kept (C9 (A9 _ _))) (by omega) Hla.out Hlb.out).mono ?_);rintro e w1 ⟨v1,rfl,n1,g1⟩;have hG1:=H6 w0 g1 rfl rfl rfl rfl;have hS1:=And.intro (hG1.cell ca0 (by simp)) (And.intro (hG1.cell ca1 (by simp)) (And.intro (hG1.cell cb0 (by simp)) (hG1.cell cb1 (by simp)))))
     | (go_at_call 98;(with_reducible refine (HSG.out w1 _ n1).mono ?_);rintro e w2 ⟨v2,rfl,⟨s2,x2,fl2,rfl,h2,vv2,hb2⟩,g2⟩;have hG2:=A2 hG1 g2;have hS2:=And.intro (hG2.cell ca0 (by simp)) (And.intro (hG2.cell ca1 (by simp)) (And.intro (hG2.cell cb0 (by simp)) (hG2.cell cb1 (by simp))));have hr2:=A1 hG2 hr;(obtain ⟨d0,d1,k0,k1⟩:=A3 hr2);have qa:=A3 (F7 (A1 hG2 hba) (show w.heap.size≠w.heap.size+1+1 by omega) (.slice s2 x2.length x2.length) (.bool fl2));have qb:=A3 (F7 (A1 hG2 hbb) (show w.heap.size+1≠w.heap.size+1+1 by omega) (.slice s2 x2.length x2.length) (.bool fl2));have HS3:=And.intro qa.1 (And.intro qa.2.1 (And.intro qb.1 qb.2.1))))
   have hgw:=A2 hgw0 hG2
   clear n1 g1 g2 na nn
   have hb9:=hr2
   obtain ⟨c90,c91,f90,f91⟩:=A3 hb9
   obtain ⟨q90,q91,r90,r91⟩:=A3 (B7 hb9 (.slice s2 x2.length x2.length) (.bool fl2))
   have hF:Hid (E4 w (x*y) (.returned (.agg #[.slice s2 x2.length x2.length,.bool fl2])) ((w2.setCell ⟨w.heap.size+1+1,0,none⟩ (.slice s2 x2.length x2.length)).setCell ⟨w.heap.size+1+1,1,none⟩ (.bool fl2))):=I8 hgw hb9 (by omega) h2 vv2 hb2
   clear h2 vv2 hb2
   go_wp2_with fail
   exact bodyPost_ret (v := .agg #[.slice s2 x2.length x2.length,.bool fl2]) (by simp [results,Tryz.results38,go_sem,q90,q91]) rfl hF.out
 · skip
   have HSG:Hid (∀ W v,NatV W v (x.natAbs*y.natAbs)->Calls Tryz.prog 98 #[v,.bool true] W (E4 W (x*y))):=fun W v hn=>by
    have q:=G9 W v _ (K+K) true hn (by omega) (bmul Hla.out Hlb.out)
    rw [show (if true=true then -((x.natAbs*y.natAbs:Nat):Int) else ((x.natAbs*y.natAbs:Nat):Int))=x*y from HE.out] at q
    exact q
   go_enter Tryz.func38,Tryz.ntmps38
   go_wp2_with fail
   generalize (((w.alloc (.cells #[.slice sa xs.length xs.length,.bool true] 28)).alloc (.cells #[.slice sb ys.length ys.length,.bool false] 28)).alloc (.cells #[.slice none 0 0,.bool false] 28))=w0 at *
   obtain ⟨ca0,ca1,fa0,fa1⟩:=A3 hba
   obtain ⟨cb0,cb1,fb0,fb1⟩:=A3 hbb
   go_region_held3 (fun w'=>w'.cell? ⟨w.heap.size,0,none⟩=some (.slice sa xs.length xs.length)/\w'.cell? ⟨w.heap.size,1,none⟩=some (.bool true)/\w'.cell? ⟨w.heap.size+1,0,none⟩=some (.slice sb ys.length ys.length)/\w'.cell? ⟨w.heap.size+1,1,none⟩=some (.bool false))
    (first | assumption | exact ⟨ca0,ca1,cb0,cb1⟩ | exact HS3 | go_keep)
    (first
     | (go_at_call 96;(with_reducible refine (nW w0.drew _ _ x.natAbs y.natAbs K (na.kept (C9 (A9 _ _))) (nn.kept (C9 (A9 _ _))) (by omega) Hla.out Hlb.out).mono ?_);rintro e w1 ⟨v1,rfl,n1,g1⟩;have hG1:=H6 w0 g1 rfl rfl rfl rfl;have hS1:=And.intro (hG1.cell ca0 (by simp)) (And.intro (hG1.cell ca1 (by simp)) (And.intro (hG1.cell cb0 (by simp)) (hG1.cell cb1 (by simp)))))
     | (go_at_call 98;(with_reducible refine (HSG.out w1 _ n1).mono ?_);rintro e w2 ⟨v2,rfl,⟨s2,x2,fl2,rfl,h2,vv2,hb2⟩,g2⟩;have hG2:=A2 hG1 g2;have hS2:=And.intro (hG2.cell ca0 (by simp)) (And.intro (hG2.cell ca1 (by simp)) (And.intro (hG2.cell cb0 (by simp)) (hG2.cell cb1 (by simp))));have hr2:=A1 hG2 hr;(obtain ⟨d0,d1,k0,k1⟩:=A3 hr2);have qa:=A3 (F7 (A1 hG2 hba) (show w.heap.size≠w.heap.size+1+1 by omega) (.slice s2 x2.length x2.length) (.bool fl2));have qb:=A3 (F7 (A1 hG2 hbb) (show w.heap.size+1≠w.heap.size+1+1 by omega) (.slice s2 x2.length x2.length) (.bool fl2));have HS3:=And.intro qa.1 (And.intro qa.2.1 (And.intro qb.1 qb.2.1))))
   have hgw:=A2 hgw0 hG2
   clear n1 g1 g2 na nn
   have hb9:=hr2
   obtain ⟨c90,c91,f90,f91⟩:=A3 hb9
   obtain ⟨q90,q91,r90,r91⟩:=A3 (B7 hb9 (.slice s2 x2.length x2.length) (.bool fl2))
   have hF:Hid (E4 w (x*y) (.returned (.agg #[.slice s2 x2.length x2.length,.bool fl2])) ((w2.setCell ⟨w.heap.size+1+1,0,none⟩ (.slice s2 x2.length x2.length)).setCell ⟨w.heap.size+1+1,1,none⟩ (.bool fl2))):=I8 hgw hb9 (by omega) h2 vv2 hb2
   clear h2 vv2 hb2
   go_wp2_with fail
   exact bodyPost_ret (v := .agg #[.slice s2 x2.length x2.length,.bool fl2]) (by simp [results,Tryz.results38,go_sem,q90,q91]) rfl hF.out
 · skip
   have HSG:Hid (∀ W v,NatV W v (x.natAbs*y.natAbs)->Calls Tryz.prog 98 #[v,.bool false] W (E4 W (x*y))):=fun W v hn=>by
    have q:=G9 W v _ (K+K) false hn (by omega) (bmul Hla.out Hlb.out)
    rw [show (if false=true then -((x.natAbs*y.natAbs:Nat):Int) else ((x.natAbs*y.natAbs:Nat):Int))=x*y from HE.out] at q
    exact q
   go_enter Tryz.func38,Tryz.ntmps38
   go_wp2_with fail
   generalize (((w.alloc (.cells #[.slice sa xs.length xs.length,.bool true] 28)).alloc (.cells #[.slice sb ys.length ys.length,.bool true] 28)).alloc (.cells #[.slice none 0 0,.bool false] 28))=w0 at *
   obtain ⟨ca0,ca1,fa0,fa1⟩:=A3 hba
   obtain ⟨cb0,cb1,fb0,fb1⟩:=A3 hbb
   go_region_held3 (fun w'=>w'.cell? ⟨w.heap.size,0,none⟩=some (.slice sa xs.length xs.length)/\w'.cell? ⟨w.heap.size,1,none⟩=some (.bool true)/\w'.cell? ⟨w.heap.size+1,0,none⟩=some (.slice sb ys.length ys.length)/\w'.cell? ⟨w.heap.size+1,1,none⟩=some (.bool true))
    (first | assumption | exact ⟨ca0,ca1,cb0,cb1⟩ | exact HS3 | go_keep)
    (first
     | (go_at_call 96;(with_reducible refine (nW w0.drew _ _ x.natAbs y.natAbs K (na.kept (C9 (A9 _ _))) (nn.kept (C9 (A9 _ _))) (by omega) Hla.out Hlb.out).mono ?_);rintro e w1 ⟨v1,rfl,n1,g1⟩;have hG1:=H6 w0 g1 rfl rfl rfl rfl;have hS1:=And.intro (hG1.cell ca0 (by simp)) (And.intro (hG1.cell ca1 (by simp)) (And.intro (hG1.cell cb0 (by simp)) (hG1.cell cb1 (by simp)))))
     | (go_at_call 98;(with_reducible refine (HSG.out w1 _ n1).mono ?_);rintro e w2 ⟨v2,rfl,⟨s2,x2,fl2,rfl,h2,vv2,hb2⟩,g2⟩;have hG2:=A2 hG1 g2;have hS2:=And.intro (hG2.cell ca0 (by simp)) (And.intro (hG2.cell ca1 (by simp)) (And.intro (hG2.cell cb0 (by simp)) (hG2.cell cb1 (by simp))));have hr2:=A1 hG2 hr;(obtain ⟨d0,d1,k0,k1⟩:=A3 hr2);have qa:=A3 (F7 (A1 hG2 hba) (show w.heap.size≠w.heap.size+1+1 by omega) (.slice s2 x2.length x2.length) (.bool fl2));have qb:=A3 (F7 (A1 hG2 hbb) (show w.heap.size+1≠w.heap.size+1+1 by omega) (.slice s2 x2.length x2.length) (.bool fl2));have HS3:=And.intro qa.1 (And.intro qa.2.1 (And.intro qb.1 qb.2.1))))
   have hgw:=A2 hgw0 hG2
   clear n1 g1 g2 na nn
   have hb9:=hr2
   obtain ⟨c90,c91,f90,f91⟩:=A3 hb9
   obtain ⟨q90,q91,r90,r91⟩:=A3 (B7 hb9 (.slice s2 x2.length x2.length) (.bool fl2))
   have hF:Hid (E4 w (x*y) (.returned (.agg #[.slice s2 x2.length x2.length,.bool fl2])) ((w2.setCell ⟨w.heap.size+1+1,0,none⟩ (.slice s2 x2.length x2.length)).setCell ⟨w.heap.size+1+1,1,none⟩ (.bool fl2))):=I8 hgw hb9 (by omega) h2 vv2 hb2
   clear h2 vv2 hb2
   go_wp2_with fail
   exact bodyPost_ret (v := .agg #[.slice s2 x2.length x2.length,.bool fl2]) (by simp [results,Tryz.results38,go_sem,q90,q91]) rfl hF.out
end Go.Proofs.YtdgdmicbbfoghaaGreatDoor
