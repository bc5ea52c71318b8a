/- What the laws lean on, part 14. -/
import Derived.Deep.CutRange
import Derived.Deep.RegionLaw
import Derived.Deep.RegionHeld3
import Derived.Test.YtgbbdgioohaknaaGreatDoorPb13
namespace Go.Proofs.YtgbbdgioohaknaaGreatDoor
open Go.RowKit Mat
set_option maxRecDepth 100000
set_option linter.unusedVariables false
set_option linter.unusedSimpArgs false
def Far (g : Nat) (w : World) (s : Option Addr) (xs : List Nat) : Prop:=xs = [] ∨ ∃ (b off : Nat) (cs : Array Value),s = some ⟨b,off,none⟩ ∧ b ≠ g ∧ RBlk w b cs ∧ RAt cs off xs
theorem Far.rd {g : Nat} {w : World} {s : Option Addr} {xs : List Nat} (h : Far g w s xs) : RRdo w s xs:=by
 rcases h with h | ⟨b,off,cs,e,_,h1,h2⟩
 · exact Or.inl h
 · exact Or.inr ⟨b,off,cs,e,h1,h2⟩
theorem Far.kept {g : Nat} {w w' : World} {s : Option Addr} {xs : List Nat} (h : Far g w s xs) (hg : w.grownBy w' none) : Far g w' s xs:=by
 rcases h with h | ⟨b,off,cs,e,hn,h1,h2⟩
 · exact Or.inl h
 · exact Or.inr ⟨b,off,cs,e,hn,h1.kept hg (by simp),h2⟩
theorem Far.setCell {g : Nat} {w : World} {s : Option Addr} {xs : List Nat} (h : Far g w s xs) (o : Nat) (v : Value) : Far g (w.setCell ⟨g,o,none⟩ v) s xs:=by
 rcases h with h | ⟨b,off,cs,e,hn,h1,h2⟩
 · exact Or.inl h
 · refine Or.inr ⟨b,off,cs,e,hn,(Below.heap_setCell _ _ _ _ ?_).trans h1,h2⟩
   simpa using hn
theorem Ints.kept {w w' : World} {g : Nat} {zs : List Nat} (h : Ints w g zs) (hg : w.grownBy w' none) : Ints w' g zs:=RBlk.kept h hg (by simp)
def Boxed (w : World) (b n : Nat) : Prop:=∃ s k c,w.heap[b]? = some (.cells #[.slice s k c] 34 (0,0)) ∧ RefV w (.agg #[.slice s k c]) n
theorem Far.take {g : Nat} {w : World} {s : Option Addr} {xs : List Nat} (h : Far g w s xs) (k : Nat) : Far g w s (xs.take k):=by
 rcases h with h | ⟨b,off,cs,e,hn,h1,h2⟩
 · exact Or.inl (by rw [h]; simp)
 · exact Or.inr ⟨b,off,cs,e,hn,h1,h2.take k⟩
theorem Far.set_other {w : World} {s : Option Addr} {xs : List Nat} {g b7 : Nat} {c : Array Value} {t : TypeId} (h : Far g w s xs) (hbox : w.heap[b7]? = some (.cells c t (0,0))) (ht : t ≠ 3) (o : Nat) (u : Value) : Far g (w.setCell ⟨b7,o,none⟩ u) s xs:=by
 rcases h with h | ⟨b,off,cs,e,hn,h1,h2⟩
 · exact Or.inl h
 · refine Or.inr ⟨b,off,cs,e,hn,(Below.heap_setCell _ _ _ _ ?_).trans h1,h2⟩
   intro e2
   simp only at e2
   unfold RBlk at h1
   subst e2
   rw [hbox] at h1
   simp at h1
   exact ht h1.2
theorem Boxed.cell {w : World} {b n : Nat} (h : Boxed w b n) : ∃ s k c,w.heap[b]? = some (.cells #[.slice s k c] 34 (0,0)) ∧ RefV w (.agg #[.slice s k c]) n:=h
theorem Boxed.kept {w w' : World} {b n : Nat} (h : Boxed w b n) (hg : w.grownBy w' none) : Boxed w' b n:=by
 obtain ⟨s,k,c,h1,h2⟩:=h
 exact ⟨s,k,c,a_ hg h1,h2.kept hg⟩
theorem RIntV.set2 {w : World} {v : Value} {n : Int} {g : Nat} {a0 a1 : Value} (h : RIntV w v n) (hbox : w.heap[g]? = some (.cells #[a0,a1] 36 (0,0))) (v0 v1 : Value) : RIntV ((w.setCell ⟨g,0,none⟩ v0).setCell ⟨g,1,none⟩ v1) v n :=
 (h.set_other hbox (by decide) 0 v0).set_other (cE_ hbox v0) (by decide) 1 v1
def RQ (w : World) (v : Value) (r : Rat) (E : Nat) : Prop:=∃ (g : Int) (s : Option Addr) (l c : Nat) (g' : Int) (s' : Option Addr) (l' c' : Nat) (n d : Int),v = .agg #[.int .i64 g,.slice s l c,.int .i64 g',.slice s' l' c'] ∧ RIntV w (.agg #[.int .i64 g,.slice s l c]) n ∧ RIntV w (.agg #[.int .i64 g',.slice s' l' c']) d ∧ Hid (0 < d ∧ Rat.divInt n d = r ∧ n.natAbs < D ^ E ∧ d.natAbs < D ^ E)
theorem RQ.kept {w w' : World} {v : Value} {r : Rat} {E : Nat} (h : RQ w v r E) (hg : w.grownBy w' none) : RQ w' v r E:=by
 obtain ⟨g,s,l,c,g',s',l',c',n,d,e,h1,h2,h3⟩:=h
 exact ⟨g,s,l,c,g',s',l',c',n,d,e,h1.kept hg,h2.kept hg,h3⟩
theorem dpw {a E M : Nat} (h : a < D ^ E) (hE : E ≤ M) : a < D ^ M:=Nat.lt_of_lt_of_le h (Nat.pow_le_pow_right bi_ hE)
theorem RQ.mono {w : World} {v : Value} {r : Rat} {E M : Nat} (h : RQ w v r E) (hE : E ≤ M) : RQ w v r M:=by
 obtain ⟨g,s,l,c,g',s',l',c',n,d,e,h1,h2,h3,h4,h5,h6⟩:=h
 exact ⟨g,s,l,c,g',s',l',c',n,d,e,h1,h2,h3,h4,dpw h5 hE,dpw h6 hE⟩
theorem RIntV.set4 {w : World} {v : Value} {n : Int} {g : Nat} {a0 a1 a2 a3 : Value} (h : RIntV w v n) (hbox : w.heap[g]? = some (.cells #[a0,a1,a2,a3] 38 (0,0))) (v0 v1 v2 v3 : Value) : RIntV ((((w.setCell ⟨g,0,none⟩ v0).setCell ⟨g,1,none⟩ v1).setCell ⟨g,2,none⟩ v2).setCell ⟨g,3,none⟩ v3) v n:=by
 have k1 : (w.setCell ⟨g,0,none⟩ v0).heap[g]? = some (.cells #[v0,a1,a2,a3] 38 (0,0)):=by simp [World.setCell,Array.getElem?_modify,hbox]
 have k2 : ((w.setCell ⟨g,0,none⟩ v0).setCell ⟨g,1,none⟩ v1).heap[g]? = some (.cells #[v0,v1,a2,a3] 38 (0,0)):=by simp [World.setCell,Array.getElem?_modify,hbox]
 have k3 : (((w.setCell ⟨g,0,none⟩ v0).setCell ⟨g,1,none⟩ v1).setCell ⟨g,2,none⟩ v2).heap[g]? = some (.cells #[v0,v1,v2,a3] 38 (0,0)):=by simp [World.setCell,Array.getElem?_modify,hbox]
 exact (((h.set_other hbox (by decide) 0 v0).set_other k1 (by decide) 1 v1).set_other k2 (by decide) 2 v2).set_other k3 (by decide) 3 v3
theorem RQ.set4 {w : World} {v : Value} {r : Rat} {E : Nat} {g : Nat} {a0 a1 a2 a3 : Value} (h : RQ w v r E) (hbox : w.heap[g]? = some (.cells #[a0,a1,a2,a3] 38 (0,0))) (v0 v1 v2 v3 : Value) : RQ ((((w.setCell ⟨g,0,none⟩ v0).setCell ⟨g,1,none⟩ v1).setCell ⟨g,2,none⟩ v2).setCell ⟨g,3,none⟩ v3) v r E:=by
 obtain ⟨g,s,l,c,g',s',l',c',n,d,e,h1,h2,h3⟩:=h
 exact ⟨g,s,l,c,g',s',l',c',n,d,e,h1.set4 hbox _ _ _ _,h2.set4 hbox _ _ _ _,h3⟩
def cg_ (w : World) (r : Rat) (E : Nat) (e : Ending) (w' : World) : Prop:=∃ v,e = .returned v ∧ RQ w' v r E ∧ w.grownBy w' none
theorem dw_ {w w' : World} {r : Rat} {E g : Nat} {a0 a1 a2 a3 v0 v1 v2 v3 : Value} (hg : w.grownBy w' none) (hbox : w'.heap[g]? = some (.cells #[a0,a1,a2,a3] 38 (0,0))) (hl : w.heap.size ≤ g) (h : RQ w' (.agg #[v0,v1,v2,v3]) r E) :
    cg_ w r E (.returned (.agg #[v0,v1,v2,v3])) ((((w'.setCell ⟨g,0,none⟩ v0).setCell ⟨g,1,none⟩ v1).setCell ⟨g,2,none⟩ v2).setCell ⟨g,3,none⟩ v3) :=
 ⟨_,rfl,h.set4 hbox _ _ _ _,aw_ hg hl _ _ _ _⟩
theorem RQ.of {w : World} {g g' : Int} {s s' : Option Addr} {l c l' c' : Nat} {n d : Int} {r : Rat} {E : Nat} (h1 : RIntV w (.agg #[.int .i64 g,.slice s l c]) n) (h2 : RIntV w (.agg #[.int .i64 g',.slice s' l' c']) d) (h3 : 0 < d) (h4 : Rat.divInt n d = r) (h5 : n.natAbs < D ^ E) (h6 : d.natAbs < D ^ E) : RQ w (.agg #[.int .i64 g,.slice s l c,.int .i64 g',.slice s' l' c']) r E :=
 ⟨g,s,l,c,g',s',l',c',n,d,rfl,h1,h2,h3,h4,h5,h6⟩
theorem gy_ {x : Int} {E : Nat} (hx : x.natAbs < D ^ E) : (-x).natAbs < D ^ E:=by rw [Int.natAbs_neg]; exact hx
set_option maxHeartbeats 16000000 in
theorem ck_ (w : World) (va vb : Value) (x y : Int) (E : Nat) (Ha : RIntV w va x) (Hb : RIntV w vb y) (h0 : y ≠ 0) (la : x.natAbs < D ^ E) (lb : y.natAbs < D ^ E) :
    Calls Tryz.prog 26 #[va,vb] w (cg_ w (Rat.divInt x y) E):=by
 have Hla:=H_ la
 have Hlb:=H_ lb
 clear la lb
 by_cases hy : y < 0
 · skip
   obtain ⟨R,hR⟩ : ∃ R,Rat.divInt x y = R:=⟨_,rfl⟩
   have HF : Hid ((0 : Int) < -y ∧ Rat.divInt (-x) (-y) = R ∧ (-x).natAbs < D ^ E ∧ (-y).natAbs < D ^ E):=⟨by omega,(Rat.neg_divInt_neg x y).trans hR,gy_ Hla.out,gy_ Hlb.out⟩
   rw [hR]
   have HYS : Hid (y.sign = -1):=Int.sign_eq_neg_one_of_neg hy
   clear hR hy h0
   obtain ⟨ga,sa,la,ca,rfl,ha,ma⟩:=Ha
   obtain ⟨gb,sb,lb,cb,rfl,hb,mb⟩:=Hb
   have hgb:=hb.out.trans HYS.out
   skip
   have Ha : RIntV w (.agg #[.int .i64 ga,.slice sa la ca]) x:=⟨_,_,_,_,rfl,ha,ma⟩
   have Hb : RIntV w (.agg #[.int .i64 gb,.slice sb lb cb]) y:=⟨_,_,_,_,rfl,hb,mb⟩
   rw [hgb] at Hb ⊢
   have HGB:=H_ hgb
   clear hgb ha ma hb mb
   skip
   obtain ⟨hG,Ba,Bb,Bq⟩:=en3_ w (.cells #[.int .i64 ga,.slice sa la ca] 36) (.cells #[.int .i64 (-1),.slice sb lb cb] 36) (.cells #[.int .i64 0,.slice none 0 0,.int .i64 0,.slice none 0 0] 38)
   have ra:=Ha.kept hG
   have rb:=Hb.kept hG
   go_enter Tryz.func26,Tryz.ntmps26
   obtain ⟨Ca0,Ca1,Fa0,Fa1⟩:=c_ Ba
   obtain ⟨Cb0,Cb1,Fb0,Fb1⟩:=c_ Bb
   obtain ⟨Cq0,Cq1,Cq2,Cq3,Fq0,Fq1,Fq2,Fq3⟩:=b_ Bq
   clear Ha Hb
   go_wp2_with fail
   generalize (((w.alloc (.cells #[.int .i64 ga,.slice sa la ca] 36)).alloc (.cells #[.int .i64 (-1),.slice sb lb cb] 36)).alloc (.cells #[.int .i64 0,.slice none 0 0,.int .i64 0,.slice none 0 0] 38)) = w0 at *
   go_region_held3 (fun w'=>w'.cell? ⟨w.heap.size,0,none⟩ = some (.int .i64 ga) ∧ w'.cell? ⟨w.heap.size,1,none⟩ = some (.slice sa la ca) ∧ w'.cell? ⟨w.heap.size + 1,0,none⟩ = some (.int .i64 (-1)) ∧ w'.cell? ⟨w.heap.size + 1,1,none⟩ = some (.slice sb lb cb))
    (first | assumption | exact ⟨Ca0,Ca1,Cb0,Cb1⟩ | exact HSm1w1_20 | go_keep)
    (first
      | (go_at_call 72; (with_reducible refine (ff_ w0.drew _ x (ra.kept (k_ (h_ _ _)))).mono ?_); rintro e m1w1_1 ⟨_,rfl,⟨gd,sd,ld,cd,rfl,hd,md⟩,gm1w1_1⟩; have hGm1w1_1:=o_ w0 gm1w1_1 rfl rfl rfl rfl; have rd : RIntV m1w1_1 (.agg #[.int .i64 gd,.slice sd ld cd]) (-x):=⟨gd,sd,ld,cd,rfl,hd,md⟩; have hSm1w1_1:=(n_ (hGm1w1_1.cell Ca0 (by simp)) (n_ (hGm1w1_1.cell Ca1 (by simp)) (n_ (hGm1w1_1.cell Cb0 (by simp)) (hGm1w1_1.cell Cb1 (by simp))))); clear gm1w1_1; clear md)
      | (go_at_call 72; (with_reducible refine (ff_ m1w1_1 _ y (rb.kept hGm1w1_1)).mono ?_); rintro e m1w1_2 ⟨_,rfl,⟨ge,se,le,ce,rfl,he,me⟩,gm1w1_2⟩; have hGm1w1_2:=d_ hGm1w1_1 gm1w1_2; replace rd:=rd.kept gm1w1_2; have re : RIntV m1w1_2 (.agg #[.int .i64 ge,.slice se le ce]) (-y):=⟨ge,se,le,ce,rfl,he,me⟩; have hSm1w1_2:=(n_ (hGm1w1_2.cell Ca0 (by simp)) (n_ (hGm1w1_2.cell Ca1 (by simp)) (n_ (hGm1w1_2.cell Cb0 (by simp)) (hGm1w1_2.cell Cb1 (by simp))))); clear gm1w1_2; clear me; (obtain ⟨dq0,dq1,dq2,dq3,dq4,dq5,dq6,dq7⟩:=b_ (a_ hGm1w1_2 Bq)); have HSm1w1_20:=(n_ ((c_ (i_ (a_ hGm1w1_2 Ba) (show w.heap.size ≠ w.heap.size + 1 + 1 by omega) (.int .i64 gd) (.slice sd ld cd) (.int .i64 ge) (.slice se le ce))).1) (n_ ((c_ (i_ (a_ hGm1w1_2 Ba) (show w.heap.size ≠ w.heap.size + 1 + 1 by omega) (.int .i64 gd) (.slice sd ld cd) (.int .i64 ge) (.slice se le ce))).2.1) (n_ ((c_ (i_ (a_ hGm1w1_2 Bb) (show w.heap.size + 1 ≠ w.heap.size + 1 + 1 by omega) (.int .i64 gd) (.slice sd ld cd) (.int .i64 ge) (.slice se le ce))).1) ((c_ (i_ (a_ hGm1w1_2 Bb) (show w.heap.size + 1 ≠ w.heap.size + 1 + 1 by omega) (.int .i64 gd) (.slice sd ld cd) (.int .i64 ge) (.slice se le ce))).2.1))))))
   replace Bq:=a_ hGm1w1_2 Bq
   replace hG:=d_ hG hGm1w1_2
   clear Ca0 Fa0 Ca1 Fa1 Cb0 Fb0 Cb1 Fb1 Cq0 Fq0 Cq1 Fq1 Cq2 Fq2 Cq3 Fq3
   have yd : RQ m1w1_2 (.agg #[.int .i64 gd,.slice sd ld cd,.int .i64 ge,.slice se le ce]) R E:=RQ.of rd re HF.out.1 HF.out.2.1 HF.out.2.2.1 HF.out.2.2.2
   obtain ⟨k90,k91,k92,k93,k94,k95,k96,k97⟩:=b_ Bq
   obtain ⟨q90,q91,q92,q93,q94,q95,q96,q97⟩:=b_ (r_ Bq (.int .i64 gd) (.slice sd ld cd) (.int .i64 ge) (.slice se le ce))
   have hF : Hid (cg_ w R E (.returned (.agg #[.int .i64 gd,.slice sd ld cd,.int .i64 ge,.slice se le ce])) ((((m1w1_2.setCell ⟨w.heap.size + 1 + 1,0,none⟩ (.int .i64 gd)).setCell ⟨w.heap.size + 1 + 1,1,none⟩ (.slice sd ld cd)).setCell ⟨w.heap.size + 1 + 1,2,none⟩ (.int .i64 ge)).setCell ⟨w.heap.size + 1 + 1,3,none⟩ (.slice se le ce))):=dw_ hG Bq (by omega) yd
   clear ra rb rd re yd
   go_wp2_with fail
   exact bodyPost_ret (v:=.agg #[.int .i64 gd,.slice sd ld cd,.int .i64 ge,.slice se le ce]) (by simp [results,Tryz.results26,go_sem,q90,q91,q92,q93]) rfl hF.out
 · skip
   obtain ⟨R,hR⟩ : ∃ R,Rat.divInt x y = R:=⟨_,rfl⟩
   have HF : Hid ((0 : Int) < y ∧ Rat.divInt x y = R ∧ x.natAbs < D ^ E ∧ y.natAbs < D ^ E):=⟨by omega,hR,Hla.out,Hlb.out⟩
   rw [hR]
   have HYS : Hid (y.sign = 1):=Int.sign_eq_one_of_pos (by omega)
   clear hR hy h0
   obtain ⟨ga,sa,la,ca,rfl,ha,ma⟩:=Ha
   obtain ⟨gb,sb,lb,cb,rfl,hb,mb⟩:=Hb
   have hgb:=hb.out.trans HYS.out
   skip
   have Ha : RIntV w (.agg #[.int .i64 ga,.slice sa la ca]) x:=⟨_,_,_,_,rfl,ha,ma⟩
   have Hb : RIntV w (.agg #[.int .i64 gb,.slice sb lb cb]) y:=⟨_,_,_,_,rfl,hb,mb⟩
   rw [hgb] at Hb ⊢
   have HGB:=H_ hgb
   clear hgb ha ma hb mb
   skip
   obtain ⟨hG,Ba,Bb,Bq⟩:=en3_ w (.cells #[.int .i64 ga,.slice sa la ca] 36) (.cells #[.int .i64 1,.slice sb lb cb] 36) (.cells #[.int .i64 0,.slice none 0 0,.int .i64 0,.slice none 0 0] 38)
   have ra:=Ha.kept hG
   have rb:=Hb.kept hG
   go_enter Tryz.func26,Tryz.ntmps26
   obtain ⟨Ca0,Ca1,Fa0,Fa1⟩:=c_ Ba
   obtain ⟨Cb0,Cb1,Fb0,Fb1⟩:=c_ Bb
   obtain ⟨Cq0,Cq1,Cq2,Cq3,Fq0,Fq1,Fq2,Fq3⟩:=b_ Bq
   have hG' : w.grownBy (((w.alloc (.cells #[.int .i64 ga,.slice sa la ca] 36)).alloc (.cells #[.int .i64 1,.slice sb lb cb] 36)).alloc (.cells #[.int .i64 ga,.slice sa la ca,.int .i64 1,.slice sb lb cb] 38)) none:=(l_ (l_ (wg_ _ _ _) _) _)
   have hF : Hid (cg_ w R E (.returned (.agg #[.int .i64 ga,.slice sa la ca,.int .i64 1,.slice sb lb cb])) (((w.alloc (.cells #[.int .i64 ga,.slice sa la ca] 36)).alloc (.cells #[.int .i64 1,.slice sb lb cb] 36)).alloc (.cells #[.int .i64 ga,.slice sa la ca,.int .i64 1,.slice sb lb cb] 38))):=⟨_,rfl,RQ.of (Ha.kept hG') (Hb.kept hG') HF.out.1 HF.out.2.1 HF.out.2.2.1 HF.out.2.2.2,hG'⟩
   clear hG' ra rb
   go_wp2_with fail
   exact bodyPost_ret (v:=.agg #[.int .i64 ga,.slice sa la ca,.int .i64 1,.slice sb lb cb]) (by simp [results,Tryz.results26,go_sem]) rfl hF.out
theorem g_ {w : World} {g : Nat} {o : Obj} (h : w.heap[g]? = some o) : g < w.heap.size:=(Array.getElem?_eq_some_iff.1 h).1
def BoxZ (W : World) (p : Nat) (z : Int) : Prop:=∃ s xs b,W.heap[p]? = some (.cells #[.slice s xs xs,.bool b] 26 (0,0)) ∧ IntV W (.agg #[.slice s xs xs,.bool b]) z
theorem BoxZ.open {W : World} {p : Nat} {z : Int} (h : BoxZ W p z) : ∃ (s : Option Addr) (xs : List Nat) (b : Bool),W.heap[p]? = some (.cells #[.slice s xs.length xs.length,.bool b] 26 (0,0)) ∧ IntV W (.agg #[.slice s xs.length xs.length,.bool b]) z:=by
 obtain ⟨s,l,b,h1,h2⟩:=h
 obtain ⟨s2,xs,b2,e,h3⟩:=h2
 cases e
 exact ⟨s,xs,b,h1,s,xs,b,rfl,h3⟩
theorem ej_ (x y : Int) (h : 0 < y) : (Rat.divInt x y).num = x / ((Nat.gcd x.natAbs y.natAbs : Nat) : Int) ∧ (((Rat.divInt x y).den : Nat) : Int) = y / ((Nat.gcd x.natAbs y.natAbs : Nat) : Int):=by
 constructor
 · rw [gR_,Int.sign_eq_one_of_pos h,Int.one_mul]
 · rw [jP_ x y (by omega),Int.natAbs_of_nonneg (by omega)]
theorem cU_ {x : Int} {g K : Nat} (h : x.natAbs < B ^ K) : (x / (g : Int)).natAbs < B ^ K:=Nat.lt_of_le_of_lt (Int.natAbs_ediv_le_natAbs _ _) h
set_option maxHeartbeats 16000000 in
theorem db_ (w : World) (va vb : Value) (x y : Int) (K : Nat) (Ha : IntV w va x) (Hb : IntV w vb y) (hK : K ≤ 300000) (la : x.natAbs < B ^ K) (lb : y.natAbs < B ^ K) (hTab : Tab w) :
    Calls Tryz.prog 23 #[va,vb] w (V_ w (Rat.divInt x y) (if y = 0 then 5 else 0)):=by
 have HTB : Hid (∀ W,w.grownBy W none → Tab W):=fun W hW=>hTab.kept hW (by simp)
 clear hTab
 have hy : (y.sign = 0 ∧ Hid (y = 0)) ∨ (y.sign = -1 ∧ Hid (y < 0)) ∨ (y.sign = 1 ∧ Hid (0 < y)):=by
  rcases bl_ y with ⟨h,e⟩ | ⟨h,e⟩ | ⟨h,e⟩
  · right; left; exact ⟨e,h⟩
  · left; exact ⟨e,h⟩
  · right; right; exact ⟨e,h⟩
 have Hla:=H_ la
 have Hlb:=H_ lb
 clear la lb
 rcases hy with ⟨hs,HY⟩ | ⟨hs,HY⟩ | ⟨hs,HY⟩
 · skip
   have HS:=H_ hs
   clear hs
   rw [if_pos HY.out,show Rat.divInt x y = 0 by rw [HY.out,Rat.divInt_zero]]
   obtain ⟨sa,xa,ba,rfl,ha,va,ta⟩:=Ha
   obtain ⟨sb,xb,bb,rfl,hb,vb,tb⟩:=Hb
   obtain ⟨hG,Ba,Bb,Bq⟩:=en3_ w (.cells #[.slice sa xa.length xa.length,.bool ba] 26) (.cells #[.slice sb xb.length xb.length,.bool bb] 26) (.cells #[.slice none 0 0,.bool false,.slice none 0 0,.bool false] 28)
   have oa : IntV w (.agg #[.slice sa xa.length xa.length,.bool ba]) (x):=⟨sa,xa,ba,rfl,ha,va,ta⟩
   have ia:=oa.kept hG
   have ob : IntV w (.agg #[.slice sb xb.length xb.length,.bool bb]) (y):=⟨sb,xb,bb,rfl,hb,vb,tb⟩
   have ib:=ob.kept hG
   clear ha va ta
   clear hb vb tb
   go_enter Tryz.func23,Tryz.ntmps23
   obtain ⟨Ca0,Ca1,Fa0,Fa1⟩:=c_ Ba
   obtain ⟨Cb0,Cb1,Fb0,Fb1⟩:=c_ Bb
   obtain ⟨Cq0,Cq1,Cq2,Cq3,Fq0,Fq1,Fq2,Fq3⟩:=b_ Bq
   go_wp2_with fail
   generalize (((w.alloc (.cells #[.slice sa xa.length xa.length,.bool ba] 26)).alloc (.cells #[.slice sb xb.length xb.length,.bool bb] 26)).alloc (.cells #[.slice none 0 0,.bool false,.slice none 0 0,.bool false] 28)) = w0 at *
   clear Ca0 Fa0 Ca1 Fa1 Cb0 Fb0 Cb1 Fb1 Cq0 Fq0 Cq1 Fq1 Cq2 Fq2 Cq3 Fq3
   refine (N_ w0 _ y K ib (by omega) Hlb.out).mono ?_
   rintro e y0w1 ⟨rfl,gy0w1⟩
   rw [HS.out]
   replace Ba:=a_ gy0w1 Ba
   replace Bb:=a_ gy0w1 Bb
   replace Bq:=a_ gy0w1 Bq
   replace hG:=d_ hG gy0w1
   clear gy0w1
   obtain ⟨Ca0,Ca1,Fa0,Fa1⟩:=c_ Ba
   obtain ⟨Cb0,Cb1,Fb0,Fb1⟩:=c_ Bb
   obtain ⟨Cq0,Cq1,Cq2,Cq3,Fq0,Fq1,Fq2,Fq3⟩:=b_ Bq
   have qd : RatV y0w1 (.agg #[.slice none 0 0,.bool false,.slice none 0 0,.bool false]) 0:=RatV.zero _
   clear Ca0 Fa0 Ca1 Fa1 Cb0 Fb0 Cb1 Fb1 Cq0 Fq0 Cq1 Fq1 Cq2 Fq2 Cq3 Fq3
   obtain ⟨k90,k91,k92,k93,k94,k95,k96,k97⟩:=b_ Bq
   obtain ⟨q90,q91,q92,q93,q94,q95,q96,q97⟩:=b_ (r_ Bq (.slice none 0 0) (.bool false) (.slice none 0 0) (.bool false))
   have hF : Hid (V_ w (0) 5 (.returned (.tuple #[.agg #[.slice none 0 0,.bool false,.slice none 0 0,.bool false],.int .i64 5])) ((((y0w1.setCell ⟨w.heap.size + 1 + 1,0,none⟩ (.slice none 0 0)).setCell ⟨w.heap.size + 1 + 1,1,none⟩ (.bool false)).setCell ⟨w.heap.size + 1 + 1,2,none⟩ (.slice none 0 0)).setCell ⟨w.heap.size + 1 + 1,3,none⟩ (.bool false))):=av_ hG Bq (by omega) qd
   clear ia ib qd
   obtain ⟨Ca0,Ca1,Fa0,Fa1⟩:=c_ Ba
   obtain ⟨Cb0,Cb1,Fb0,Fb1⟩:=c_ Bb
   go_wp2_with fail
   exact bodyPost_ret (v:=.tuple #[.agg #[.slice none 0 0,.bool false,.slice none 0 0,.bool false],.int .i64 5]) (by simp [results,Tryz.results23,go_sem,q90,q91,q92,q93]) rfl hF.out
 · skip
   have HS:=H_ hs
   clear hs
   rw [if_neg (show ¬ y = 0 by have:=HY.out; omega)]
   have HLA : Hid ((-x).natAbs < B ^ K):=by show _ < _; rw [Int.natAbs_neg]; exact Hla.out
   have HLB : Hid ((-y).natAbs < B ^ K):=by show _ < _; rw [Int.natAbs_neg]; exact Hlb.out
   have hYp : 0 < (-y):=by have:=HY.out; omega
   have e9 : Rat.divInt x y = Rat.divInt (-x) (-y):=(Rat.neg_divInt_neg x y).symm
   obtain ⟨R,hR⟩ : ∃ R,Rat.divInt (-x) (-y) = R:=⟨_,rfl⟩
   obtain ⟨g9,hg9⟩ : ∃ g,Nat.gcd ((-x)).natAbs ((-y)).natAbs = g:=⟨_,rfl⟩
   have hp9:=ej_ (-x) (-y) hYp
   rw [hg9,hR] at hp9
   have hb9 : R.den < B ^ K:=hR ▸ cB_ HLB.out (by omega)
   have hgp : 0 < g9:=by rw [← hg9]; exact Nat.gcd_pos_of_pos_right _ (by omega)
   have hgl : (g9 : Int).natAbs < B ^ K:=by rw [Int.natAbs_natCast,← hg9]; exact do_ HLA.out HLB.out
   have HP : Hid (R.num = (-x) / (g9 : Int) ∧ ((R.den : Nat) : Int) = (-y) / (g9 : Int) ∧ R.den < B ^ K ∧ (0 : Int) < (g9 : Int) ∧ (g9 : Int).natAbs < B ^ K):=⟨hp9.1,hp9.2,hb9,by omega,hgl⟩
   have HC : ∀ (W : World) (v u : Value),IntV W v (-x) → IntV W u (-y) → Tab W → Calls Tryz.prog 68 #[v,u] W (x_ W (g9 : Int)):=fun W v u h1 h2 h3=>hg9 ▸ aW_ W v u (-x) (-y) K h1 h2 (by omega) HLA.out HLB.out h3
   replace HC:=H_ HC
   rw [e9,hR]
   clear e9 hR hg9 hp9 hb9 hgp hgl hYp
   obtain ⟨sa,xa,ba,rfl,ha,va,ta⟩:=Ha
   obtain ⟨sb,xb,bb,rfl,hb,vb,tb⟩:=Hb
   obtain ⟨hG,Ba,Bb,Bq⟩:=en3_ w (.cells #[.slice sa xa.length xa.length,.bool ba] 26) (.cells #[.slice sb xb.length xb.length,.bool bb] 26) (.cells #[.slice none 0 0,.bool false,.slice none 0 0,.bool false] 28)
   have oa : IntV w (.agg #[.slice sa xa.length xa.length,.bool ba]) (x):=⟨sa,xa,ba,rfl,ha,va,ta⟩
   have ia:=oa.kept hG
   have ob : IntV w (.agg #[.slice sb xb.length xb.length,.bool bb]) (y):=⟨sb,xb,bb,rfl,hb,vb,tb⟩
   have ib:=ob.kept hG
   clear ha va ta
   clear hb vb tb
   go_enter Tryz.func23,Tryz.ntmps23
   obtain ⟨Ca0,Ca1,Fa0,Fa1⟩:=c_ Ba
   obtain ⟨Cb0,Cb1,Fb0,Fb1⟩:=c_ Bb
   obtain ⟨Cq0,Cq1,Cq2,Cq3,Fq0,Fq1,Fq2,Fq3⟩:=b_ Bq
   go_wp2_with fail
   generalize (((w.alloc (.cells #[.slice sa xa.length xa.length,.bool ba] 26)).alloc (.cells #[.slice sb xb.length xb.length,.bool bb] 26)).alloc (.cells #[.slice none 0 0,.bool false,.slice none 0 0,.bool false] 28)) = w0 at *
   clear Ca0 Fa0 Ca1 Fa1 Cb0 Fb0 Cb1 Fb1 Cq0 Fq0 Cq1 Fq1 Cq2 Fq2 Cq3 Fq3
   refine (N_ w0 _ y K ib (by omega) Hlb.out).mono ?_
   rintro e y1w1 ⟨rfl,gy1w1⟩
   rw [HS.out]
   replace Ba:=a_ gy1w1 Ba
   replace Bb:=a_ gy1w1 Bb
   replace Bq:=a_ gy1w1 Bq
   replace ia:=ia.kept gy1w1
   replace ib:=ib.kept gy1w1
   replace hG:=d_ hG gy1w1
   clear gy1w1
   obtain ⟨Ca0,Ca1,Fa0,Fa1⟩:=c_ Ba
   obtain ⟨Cb0,Cb1,Fb0,Fb1⟩:=c_ Bb
   obtain ⟨Cq0,Cq1,Cq2,Cq3,Fq0,Fq1,Fq2,Fq3⟩:=b_ Bq
   go_wp2_with fail
   have hs0 : w.heap.size + 1 + 1 < y1w1.heap.size:=(Array.getElem?_eq_some_iff.1 Bq).1
   clear Ca0 Fa0 Ca1 Fa1 Cb0 Fb0 Cb1 Fb1 Cq0 Fq0 Cq1 Fq1 Cq2 Fq2 Cq3 Fq3
   refine wp_region_held_drew (S:=fun w'=>True) (by kernel_rfl) (by exact trivial) (fun hHeld=>?_)
   have gd : y1w1.grownBy y1w1.drew none:=k_ (h_ _ _)
   replace Ba:=a_ gd Ba
   replace Bb:=a_ gd Bb
   replace Bq:=a_ gd Bq
   replace ia:=ia.kept gd
   replace ib:=ib.kept gd
   replace hG:=d_ hG gd
   clear gd
   generalize y1w1.drew = y1w2 at *
   refine wpAnyH_ready (rs:=[0,2]) (by kernel_rfl) (by simp) ?_
   refine AllReadyH.cons rfl (fun KQ hKQ=>?_) (AllReadyH.cons rfl (fun KQ hKQ=>?_) AllReadyH.nil)
   focus
    obtain ⟨c0',c1',c2',c3'⟩:=c_ Ba
    go_simp
    refine hKQ.out _ _ (by exact trivial) (fun hHeld=>?_)
    clear hKQ KQ
    try simp only [ly_]
    refine wpAnyH_ready (rs:=[1,2]) (by kernel_rfl) (by simp) ?_
    refine AllReadyH.cons rfl (fun KQ hKQ=>?_) (AllReadyH.cons rfl (fun KQ hKQ=>?_) AllReadyH.nil)
    focus
     go_simp
     go_at_call 67
     refine (as_ y1w2 _ x K ia (by omega) Hla.out).mono ?_
     rintro e y1w3 ⟨_,rfl,⟨se,xe,be,rfl,he,ve,te⟩,gy1w3⟩
     have ie : IntV y1w3 (.agg #[.slice se xe.length xe.length,.bool be]) (-x):=⟨se,xe,be,rfl,he,ve,te⟩
     replace Ba:=a_ gy1w3 Ba
     replace Bb:=a_ gy1w3 Bb
     replace Bq:=a_ gy1w3 Bq
     replace ia:=ia.kept gy1w3
     replace ib:=ib.kept gy1w3
     replace hG:=d_ hG gy1w3
     clear gy1w3
     clear he ve te
     (try go_wp2_with fail)
     refine hKQ.out _ _ (by exact trivial) (fun hHeld=>?_)
     clear hKQ KQ
     try simp only [ly_]
     refine o1_ 2 rfl (fun KQ hKQ=>?_)
     obtain ⟨c0',c1',c2',c3'⟩:=c_ Bb
     go_simp
     refine hKQ.out _ _ (by exact trivial) (fun hHeld=>?_)
     clear hKQ KQ
     try simp only [ly_]
     refine o1_ 3 rfl (fun KQ hKQ=>?_)
     go_simp
     go_at_call 67
     refine (as_ y1w3 _ y K ib (by omega) Hlb.out).mono ?_
     rintro e y1w4 ⟨_,rfl,⟨sj,xj,bj,rfl,hj,vj,tj⟩,gy1w4⟩
     have ij : IntV y1w4 (.agg #[.slice sj xj.length xj.length,.bool bj]) (-y):=⟨sj,xj,bj,rfl,hj,vj,tj⟩
     replace Ba:=a_ gy1w4 Ba
     replace Bb:=a_ gy1w4 Bb
     replace Bq:=a_ gy1w4 Bq
     replace ia:=ia.kept gy1w4
     replace ib:=ib.kept gy1w4
     replace ie:=ie.kept gy1w4
     replace hG:=d_ hG gy1w4
     clear gy1w4
     clear hj vj tj
     (try go_wp2_with fail)
     refine hKQ.out _ _ (by exact trivial) (fun hHeld=>?_)
     clear hKQ KQ
     try simp only [ly_]
    rotate_left 1
    focus
     obtain ⟨c0',c1',c2',c3'⟩:=c_ Bb
     go_simp
     refine hKQ.out _ _ (by exact trivial) (fun hHeld=>?_)
     clear hKQ KQ
     try simp only [ly_]
     refine o1_ 1 rfl (fun KQ hKQ=>?_)
     go_simp
     go_at_call 67
     refine (as_ y1w2 _ x K ia (by omega) Hla.out).mono ?_
     rintro e y1w3 ⟨_,rfl,⟨se,xe,be,rfl,he,ve,te⟩,gy1w3⟩
     have ie : IntV y1w3 (.agg #[.slice se xe.length xe.length,.bool be]) (-x):=⟨se,xe,be,rfl,he,ve,te⟩
     replace Ba:=a_ gy1w3 Ba
     replace Bb:=a_ gy1w3 Bb
     replace Bq:=a_ gy1w3 Bq
     replace ia:=ia.kept gy1w3
     replace ib:=ib.kept gy1w3
     replace hG:=d_ hG gy1w3
     clear gy1w3
     clear he ve te
     (try go_wp2_with fail)
     refine hKQ.out _ _ (by exact trivial) (fun hHeld=>?_)
     clear hKQ KQ
     try simp only [ly_]
     refine o1_ 3 rfl (fun KQ hKQ=>?_)
     go_simp
     go_at_call 67
     refine (as_ y1w3 _ y K ib (by omega) Hlb.out).mono ?_
     rintro e y1w4 ⟨_,rfl,⟨sj,xj,bj,rfl,hj,vj,tj⟩,gy1w4⟩
     have ij : IntV y1w4 (.agg #[.slice sj xj.length xj.length,.bool bj]) (-y):=⟨sj,xj,bj,rfl,hj,vj,tj⟩
     replace Ba:=a_ gy1w4 Ba
     replace Bb:=a_ gy1w4 Bb
     replace Bq:=a_ gy1w4 Bq
     replace ia:=ia.kept gy1w4
     replace ib:=ib.kept gy1w4
     replace ie:=ie.kept gy1w4
     replace hG:=d_ hG gy1w4
     clear gy1w4
     clear hj vj tj
     (try go_wp2_with fail)
     refine hKQ.out _ _ (by exact trivial) (fun hHeld=>?_)
     clear hKQ KQ
     try simp only [ly_]
    rotate_left 1
   rotate_left 2
   focus
    obtain ⟨c0',c1',c2',c3'⟩:=c_ Bb
    go_simp
    refine hKQ.out _ _ (by exact trivial) (fun hHeld=>?_)
    clear hKQ KQ
    try simp only [ly_]
    refine o1_ 0 rfl (fun KQ hKQ=>?_)
    obtain ⟨c0',c1',c2',c3'⟩:=c_ Ba
    go_simp
    refine hKQ.out _ _ (by exact trivial) (fun hHeld=>?_)
    clear hKQ KQ
    try simp only [ly_]
    refine o1_ 1 rfl (fun KQ hKQ=>?_)
    go_simp
    go_at_call 67
    refine (as_ y1w2 _ x K ia (by omega) Hla.out).mono ?_
    rintro e y1w3 ⟨_,rfl,⟨se,xe,be,rfl,he,ve,te⟩,gy1w3⟩
    have ie : IntV y1w3 (.agg #[.slice se xe.length xe.length,.bool be]) (-x):=⟨se,xe,be,rfl,he,ve,te⟩
    replace Ba:=a_ gy1w3 Ba
    replace Bb:=a_ gy1w3 Bb
    replace Bq:=a_ gy1w3 Bq
    replace ia:=ia.kept gy1w3
    replace ib:=ib.kept gy1w3
    replace hG:=d_ hG gy1w3
    clear gy1w3
    clear he ve te
    (try go_wp2_with fail)
    refine hKQ.out _ _ (by exact trivial) (fun hHeld=>?_)
    clear hKQ KQ
    try simp only [ly_]
    refine o1_ 3 rfl (fun KQ hKQ=>?_)
    go_simp
    go_at_call 67
    refine (as_ y1w3 _ y K ib (by omega) Hlb.out).mono ?_
    rintro e y1w4 ⟨_,rfl,⟨sj,xj,bj,rfl,hj,vj,tj⟩,gy1w4⟩
    have ij : IntV y1w4 (.agg #[.slice sj xj.length xj.length,.bool bj]) (-y):=⟨sj,xj,bj,rfl,hj,vj,tj⟩
    replace Ba:=a_ gy1w4 Ba
    replace Bb:=a_ gy1w4 Bb
    replace Bq:=a_ gy1w4 Bq
    replace ia:=ia.kept gy1w4
    replace ib:=ib.kept gy1w4
    replace ie:=ie.kept gy1w4
    replace hG:=d_ hG gy1w4
    clear gy1w4
    clear hj vj tj
    (try go_wp2_with fail)
    refine hKQ.out _ _ (by exact trivial) (fun hHeld=>?_)
    clear hKQ KQ
    try simp only [ly_]
   rotate_left 1
   all_goals (
    refine o1_ 4 rfl (fun KQ hKQ=>?_)
    obtain ⟨c0',c1',c2',c3'⟩:=c_ Ba
    go_simp
    clear c0' c1' c2' c3'
    replace ia:=ia.set2 Ba (.slice se xe.length xe.length) (.bool be)
    replace ib:=ib.set2 Ba (.slice se xe.length xe.length) (.bool be)
    replace ie:=ie.set2 Ba (.slice se xe.length xe.length) (.bool be)
    replace ij:=ij.set2 Ba (.slice se xe.length xe.length) (.bool be)
    replace hG:=t_ (g:=w.heap.size) hG (by omega) (.slice se xe.length xe.length) (.bool be)
    replace Bb:=e_ Bb (show w.heap.size + 1 ≠ w.heap.size by omega) (.slice se xe.length xe.length) (.bool be)
    replace Bq:=e_ Bq (show w.heap.size + 1 + 1 ≠ w.heap.size by omega) (.slice se xe.length xe.length) (.bool be)
    replace Ba:=m_ Ba (.slice se xe.length xe.length) (.bool be)
    generalize ((y1w4.setCell ⟨w.heap.size,0,none⟩ (.slice se xe.length xe.length)).setCell ⟨w.heap.size,1,none⟩ (.bool be)) = y1w5 at *
    refine hKQ.out _ _ (by exact trivial) (fun hHeld=>?_)
    clear hKQ KQ
    try simp only [ly_]
    refine o1_ 5 rfl (fun KQ hKQ=>?_)
    obtain ⟨c0',c1',c2',c3'⟩:=c_ Bb
    go_simp
    clear c0' c1' c2' c3'
    replace ia:=ia.set2 Bb (.slice sj xj.length xj.length) (.bool bj)
    replace ib:=ib.set2 Bb (.slice sj xj.length xj.length) (.bool bj)
    replace ie:=ie.set2 Bb (.slice sj xj.length xj.length) (.bool bj)
    replace ij:=ij.set2 Bb (.slice sj xj.length xj.length) (.bool bj)
    replace hG:=t_ (g:=w.heap.size + 1) hG (by omega) (.slice sj xj.length xj.length) (.bool bj)
    replace Ba:=e_ Ba (show w.heap.size ≠ w.heap.size + 1 by omega) (.slice sj xj.length xj.length) (.bool bj)
    replace Bq:=e_ Bq (show w.heap.size + 1 + 1 ≠ w.heap.size + 1 by omega) (.slice sj xj.length xj.length) (.bool bj)
    replace Bb:=m_ Bb (.slice sj xj.length xj.length) (.bool bj)
    generalize ((y1w5.setCell ⟨w.heap.size + 1,0,none⟩ (.slice sj xj.length xj.length)).setCell ⟨w.heap.size + 1,1,none⟩ (.bool bj)) = y1w6 at *
    refine hKQ.out _ _ (by exact trivial) (fun hHeld=>?_)
    clear hKQ KQ
    try simp only [ly_]
    refine wpAnyH_done (by kernel_rfl) ?_ _
    clear ia ib hs0
    obtain ⟨Ca0,Ca1,Fa0,Fa1⟩:=c_ Ba
    obtain ⟨Cb0,Cb1,Fb0,Fb1⟩:=c_ Bb
    obtain ⟨Cq0,Cq1,Cq2,Cq3,Fq0,Fq1,Fq2,Fq3⟩:=b_ Bq
    go_wp2_with fail
    clear Ca0 Fa0 Ca1 Fa1 Cb0 Fb0 Cb1 Fb1 Cq0 Fq0 Cq1 Fq1 Cq2 Fq2 Cq3 Fq3
    refine (HC.out y1w6 _ _ ie ij (HTB.out _ hG)).mono ?_
    rintro e y1w7 ⟨_,rfl,⟨sg,xg,bg,rfl,hg,vg,tg⟩,gy1w7⟩
    have ig : IntV y1w7 (.agg #[.slice sg xg.length xg.length,.bool bg]) ((g9 : Int)):=⟨sg,xg,bg,rfl,hg,vg,tg⟩
    replace Ba:=a_ gy1w7 Ba
    replace Bb:=a_ gy1w7 Bb
    replace Bq:=a_ gy1w7 Bq
    replace ie:=ie.kept gy1w7
    replace ij:=ij.kept gy1w7
    replace hG:=d_ hG gy1w7
    clear gy1w7
    clear hg vg tg
    obtain ⟨Ca0,Ca1,Fa0,Fa1⟩:=c_ Ba
    obtain ⟨Cb0,Cb1,Fb0,Fb1⟩:=c_ Bb
    obtain ⟨Cq0,Cq1,Cq2,Cq3,Fq0,Fq1,Fq2,Fq3⟩:=b_ Bq
    have gby1w7:=(wg_ y1w7 (.cells #[.slice sg xg.length xg.length,.bool bg] 26) none)
    have Bg:=(f_ y1w7 (.cells #[.slice sg xg.length xg.length,.bool bg] 26) (y1w7.heap.size) rfl)
    have hzy1w7 : Hid (w.heap.size ≤ y1w7.heap.size):=H_ hG.size
    have hlay1w7 : Hid (w.heap.size < y1w7.heap.size):=H_ (Array.getElem?_eq_some_iff.1 Ba).1
    have hlby1w7 : Hid (w.heap.size + 1 < y1w7.heap.size):=H_ (Array.getElem?_eq_some_iff.1 Bb).1
    have hlqy1w7 : Hid (w.heap.size + 1 + 1 < y1w7.heap.size):=H_ (Array.getElem?_eq_some_iff.1 Bq).1
    clear Ca0 Fa0 Ca1 Fa1 Cb0 Fb0 Cb1 Fb1 Cq0 Fq0 Cq1 Fq1 Cq2 Fq2 Cq3 Fq3
    replace Ba:=a_ gby1w7 Ba
    replace Bb:=a_ gby1w7 Bb
    replace Bq:=a_ gby1w7 Bq
    replace ie:=ie.kept gby1w7
    replace ij:=ij.kept gby1w7
    replace ig:=ig.kept gby1w7
    replace hG:=d_ hG gby1w7
    clear gby1w7
    obtain ⟨Ca0,Ca1,Fa0,Fa1⟩:=c_ Ba
    obtain ⟨Cb0,Cb1,Fb0,Fb1⟩:=c_ Bb
    obtain ⟨Cq0,Cq1,Cq2,Cq3,Fq0,Fq1,Fq2,Fq3⟩:=b_ Bq
    obtain ⟨Cg0,Cg1,Fg0,Fg1⟩:=c_ Bg
    go_wp2_with fail
    generalize (y1w7.alloc (.cells #[.slice sg xg.length xg.length,.bool bg] 26)) = y1w8 at *
    generalize y1w7.heap.size = ay1w7 at *
    replace hzy1w7:=hzy1w7.out
    replace hlay1w7:=hlay1w7.out
    replace hlby1w7:=hlby1w7.out
    replace hlqy1w7:=hlqy1w7.out
    go_region_held3 (fun w'=>w'.cell? ⟨w.heap.size,0,none⟩ = some (.slice se xe.length xe.length) ∧ w'.cell? ⟨w.heap.size,1,none⟩ = some (.bool be) ∧ w'.cell? ⟨w.heap.size + 1,0,none⟩ = some (.slice sj xj.length xj.length) ∧ w'.cell? ⟨w.heap.size + 1,1,none⟩ = some (.bool bj) ∧ w'.cell? ⟨ay1w7,0,none⟩ = some (.slice sg xg.length xg.length) ∧ w'.cell? ⟨ay1w7,1,none⟩ = some (.bool bg))
     (first | assumption | exact ⟨Ca0,Ca1,Cb0,Cb1,Cg0,Cg1⟩ | exact HSy1w9_50 | go_keep)
     (first
       | (go_at_call 70; (with_reducible refine (ae_ y1w8.drew _ _ (-x) (g9 : Int) K (ie.kept (k_ (h_ _ _))) (ig.kept (k_ (h_ _ _))) (by omega) HLA.out HP.out.2.2.2.2 HP.out.2.2.2.1).mono ?_); rintro e y1w9_1 ⟨v1,rfl,n1,gy1w9_1⟩; have hGy1w9_1:=o_ y1w8 gy1w9_1 rfl rfl rfl rfl; have hSy1w9_1:=(n_ (hGy1w9_1.cell Ca0 (by simp)) (n_ (hGy1w9_1.cell Ca1 (by simp)) (n_ (hGy1w9_1.cell Cb0 (by simp)) (n_ (hGy1w9_1.cell Cb1 (by simp)) (n_ (hGy1w9_1.cell Cg0 (by simp)) (hGy1w9_1.cell Cg1 (by simp))))))); clear gy1w9_1)
       | (go_at_call 62; (with_reducible refine (af_ y1w9_1 _ ((-x) / (g9 : Int)) K n1 (by omega) (cU_ HLA.out)).mono ?_); rintro e y1w9_2 ⟨v2,rfl,n2,gy1w9_2⟩; rw [← HP.out.1] at n2; have hGy1w9_2:=d_ hGy1w9_1 gy1w9_2; replace n1:=n1.kept gy1w9_2; have hSy1w9_2:=(n_ (hGy1w9_2.cell Ca0 (by simp)) (n_ (hGy1w9_2.cell Ca1 (by simp)) (n_ (hGy1w9_2.cell Cb0 (by simp)) (n_ (hGy1w9_2.cell Cb1 (by simp)) (n_ (hGy1w9_2.cell Cg0 (by simp)) (hGy1w9_2.cell Cg1 (by simp))))))); clear gy1w9_2)
       | (go_at_call 70; (with_reducible refine (ae_ y1w9_2 _ _ (-y) (g9 : Int) K (ij.kept hGy1w9_2) (ig.kept hGy1w9_2) (by omega) HLB.out HP.out.2.2.2.2 HP.out.2.2.2.1).mono ?_); rintro e y1w9_3 ⟨v3,rfl,n3,gy1w9_3⟩; have hGy1w9_3:=d_ hGy1w9_2 gy1w9_3; replace n1:=n1.kept gy1w9_3; replace n2:=n2.kept gy1w9_3; have hSy1w9_3:=(n_ (hGy1w9_3.cell Ca0 (by simp)) (n_ (hGy1w9_3.cell Ca1 (by simp)) (n_ (hGy1w9_3.cell Cb0 (by simp)) (n_ (hGy1w9_3.cell Cb1 (by simp)) (n_ (hGy1w9_3.cell Cg0 (by simp)) (hGy1w9_3.cell Cg1 (by simp))))))); clear gy1w9_3)
       | (go_at_call 62; (with_reducible refine (af_ y1w9_3 _ ((-y) / (g9 : Int)) K n3 (by omega) (cU_ HLB.out)).mono ?_); rintro e y1w9_4 ⟨v4,rfl,n4,gy1w9_4⟩; rw [← HP.out.2.1] at n4; have hGy1w9_4:=d_ hGy1w9_3 gy1w9_4; replace n1:=n1.kept gy1w9_4; replace n2:=n2.kept gy1w9_4; replace n3:=n3.kept gy1w9_4; have hSy1w9_4:=(n_ (hGy1w9_4.cell Ca0 (by simp)) (n_ (hGy1w9_4.cell Ca1 (by simp)) (n_ (hGy1w9_4.cell Cb0 (by simp)) (n_ (hGy1w9_4.cell Cb1 (by simp)) (n_ (hGy1w9_4.cell Cg0 (by simp)) (hGy1w9_4.cell Cg1 (by simp))))))); clear gy1w9_4)
       | (go_at_call 69; (with_reducible refine (da_ y1w9_4 _ _ R K n2 n4 (by omega) HP.out.2.2.1).mono ?_); rintro e y1w9_5 ⟨_,rfl,⟨sd,xd,bd,sd',xd',bd',rfl,hd,hd'⟩,gy1w9_5⟩; have hGy1w9_5:=d_ hGy1w9_4 gy1w9_5; replace n1:=n1.kept gy1w9_5; replace n2:=n2.kept gy1w9_5; replace n3:=n3.kept gy1w9_5; replace n4:=n4.kept gy1w9_5; have qd : RatV y1w9_5 (.agg #[.slice sd xd.length xd.length,.bool bd,.slice sd' xd'.length xd'.length,.bool bd']) (R):=⟨sd,xd,bd,sd',xd',bd',rfl,hd,hd'⟩; have hSy1w9_5:=(n_ (hGy1w9_5.cell Ca0 (by simp)) (n_ (hGy1w9_5.cell Ca1 (by simp)) (n_ (hGy1w9_5.cell Cb0 (by simp)) (n_ (hGy1w9_5.cell Cb1 (by simp)) (n_ (hGy1w9_5.cell Cg0 (by simp)) (hGy1w9_5.cell Cg1 (by simp))))))); clear gy1w9_5; clear hd hd'; (obtain ⟨dq0,dq1,dq2,dq3,dq4,dq5,dq6,dq7⟩:=b_ (a_ hGy1w9_5 Bq)); have HSy1w9_50:=(n_ ((c_ (i_ (a_ hGy1w9_5 Ba) (show w.heap.size ≠ w.heap.size + 1 + 1 by omega) (.slice sd xd.length xd.length) (.bool bd) (.slice sd' xd'.length xd'.length) (.bool bd'))).1) (n_ ((c_ (i_ (a_ hGy1w9_5 Ba) (show w.heap.size ≠ w.heap.size + 1 + 1 by omega) (.slice sd xd.length xd.length) (.bool bd) (.slice sd' xd'.length xd'.length) (.bool bd'))).2.1) (n_ ((c_ (i_ (a_ hGy1w9_5 Bb) (show w.heap.size + 1 ≠ w.heap.size + 1 + 1 by omega) (.slice sd xd.length xd.length) (.bool bd) (.slice sd' xd'.length xd'.length) (.bool bd'))).1) (n_ ((c_ (i_ (a_ hGy1w9_5 Bb) (show w.heap.size + 1 ≠ w.heap.size + 1 + 1 by omega) (.slice sd xd.length xd.length) (.bool bd) (.slice sd' xd'.length xd'.length) (.bool bd'))).2.1) (n_ ((c_ (i_ (a_ hGy1w9_5 Bg) (show ay1w7 ≠ w.heap.size + 1 + 1 by omega) (.slice sd xd.length xd.length) (.bool bd) (.slice sd' xd'.length xd'.length) (.bool bd'))).1) ((c_ (i_ (a_ hGy1w9_5 Bg) (show ay1w7 ≠ w.heap.size + 1 + 1 by omega) (.slice sd xd.length xd.length) (.bool bd) (.slice sd' xd'.length xd'.length) (.bool bd'))).2.1))))))))
    replace Ba:=a_ hGy1w9_5 Ba
    replace Bb:=a_ hGy1w9_5 Bb
    replace Bq:=a_ hGy1w9_5 Bq
    replace Bg:=a_ hGy1w9_5 Bg
    replace hG:=d_ hG hGy1w9_5
    clear Ca0 Fa0 Ca1 Fa1 Cb0 Fb0 Cb1 Fb1 Cq0 Fq0 Cq1 Fq1 Cq2 Fq2 Cq3 Fq3 Cg0 Fg0 Cg1 Fg1
    obtain ⟨k90,k91,k92,k93,k94,k95,k96,k97⟩:=b_ Bq
    obtain ⟨q90,q91,q92,q93,q94,q95,q96,q97⟩:=b_ (r_ Bq (.slice sd xd.length xd.length) (.bool bd) (.slice sd' xd'.length xd'.length) (.bool bd'))
    have hF : Hid (V_ w (R) 0 (.returned (.tuple #[.agg #[.slice sd xd.length xd.length,.bool bd,.slice sd' xd'.length xd'.length,.bool bd'],.int .i64 0])) ((((y1w9_5.setCell ⟨w.heap.size + 1 + 1,0,none⟩ (.slice sd xd.length xd.length)).setCell ⟨w.heap.size + 1 + 1,1,none⟩ (.bool bd)).setCell ⟨w.heap.size + 1 + 1,2,none⟩ (.slice sd' xd'.length xd'.length)).setCell ⟨w.heap.size + 1 + 1,3,none⟩ (.bool bd'))):=av_ hG Bq (by omega) qd
    clear ie ij ig n1 n2 n3 n4 qd
    obtain ⟨Ca0,Ca1,Fa0,Fa1⟩:=c_ Ba
    obtain ⟨Cb0,Cb1,Fb0,Fb1⟩:=c_ Bb
    obtain ⟨Cg0,Cg1,Fg0,Fg1⟩:=c_ Bg
    go_wp2_with fail
    exact bodyPost_ret (v:=.tuple #[.agg #[.slice sd xd.length xd.length,.bool bd,.slice sd' xd'.length xd'.length,.bool bd'],.int .i64 0]) (by simp [results,Tryz.results23,go_sem,q90,q91,q92,q93]) rfl hF.out)
 · skip
   have HS:=H_ hs
   clear hs
   rw [if_neg (show ¬ y = 0 by have:=HY.out; omega)]
   have hYp : 0 < y:=by have:=HY.out; omega
   have e9 : Rat.divInt x y = Rat.divInt x y:=rfl
   obtain ⟨R,hR⟩ : ∃ R,Rat.divInt x y = R:=⟨_,rfl⟩
   obtain ⟨g9,hg9⟩ : ∃ g,Nat.gcd (x).natAbs (y).natAbs = g:=⟨_,rfl⟩
   have hp9:=ej_ x y hYp
   rw [hg9,hR] at hp9
   have hb9 : R.den < B ^ K:=hR ▸ cB_ Hlb.out (by omega)
   have hgp : 0 < g9:=by rw [← hg9]; exact Nat.gcd_pos_of_pos_right _ (by omega)
   have hgl : (g9 : Int).natAbs < B ^ K:=by rw [Int.natAbs_natCast,← hg9]; exact do_ Hla.out Hlb.out
   have HP : Hid (R.num = x / (g9 : Int) ∧ ((R.den : Nat) : Int) = y / (g9 : Int) ∧ R.den < B ^ K ∧ (0 : Int) < (g9 : Int) ∧ (g9 : Int).natAbs < B ^ K):=⟨hp9.1,hp9.2,hb9,by omega,hgl⟩
   have HC : ∀ (W : World) (v u : Value),IntV W v x → IntV W u y → Tab W → Calls Tryz.prog 68 #[v,u] W (x_ W (g9 : Int)):=fun W v u h1 h2 h3=>hg9 ▸ aW_ W v u x y K h1 h2 (by omega) Hla.out Hlb.out h3
   replace HC:=H_ HC
   rw [e9,hR]
   clear e9 hR hg9 hp9 hb9 hgp hgl hYp
   obtain ⟨sa,xa,ba,rfl,ha,va,ta⟩:=Ha
   obtain ⟨sb,xb,bb,rfl,hb,vb,tb⟩:=Hb
   obtain ⟨hG,Ba,Bb,Bq⟩:=en3_ w (.cells #[.slice sa xa.length xa.length,.bool ba] 26) (.cells #[.slice sb xb.length xb.length,.bool bb] 26) (.cells #[.slice none 0 0,.bool false,.slice none 0 0,.bool false] 28)
   have oa : IntV w (.agg #[.slice sa xa.length xa.length,.bool ba]) (x):=⟨sa,xa,ba,rfl,ha,va,ta⟩
   have ia:=oa.kept hG
   have ob : IntV w (.agg #[.slice sb xb.length xb.length,.bool bb]) (y):=⟨sb,xb,bb,rfl,hb,vb,tb⟩
   have ib:=ob.kept hG
   clear ha va ta
   clear hb vb tb
   go_enter Tryz.func23,Tryz.ntmps23
   obtain ⟨Ca0,Ca1,Fa0,Fa1⟩:=c_ Ba
   obtain ⟨Cb0,Cb1,Fb0,Fb1⟩:=c_ Bb
   obtain ⟨Cq0,Cq1,Cq2,Cq3,Fq0,Fq1,Fq2,Fq3⟩:=b_ Bq
   go_wp2_with fail
   generalize (((w.alloc (.cells #[.slice sa xa.length xa.length,.bool ba] 26)).alloc (.cells #[.slice sb xb.length xb.length,.bool bb] 26)).alloc (.cells #[.slice none 0 0,.bool false,.slice none 0 0,.bool false] 28)) = w0 at *
   clear Ca0 Fa0 Ca1 Fa1 Cb0 Fb0 Cb1 Fb1 Cq0 Fq0 Cq1 Fq1 Cq2 Fq2 Cq3 Fq3
   refine (N_ w0 _ y K ib (by omega) Hlb.out).mono ?_
   rintro e y2w1 ⟨rfl,gy2w1⟩
   rw [HS.out]
   replace Ba:=a_ gy2w1 Ba
   replace Bb:=a_ gy2w1 Bb
   replace Bq:=a_ gy2w1 Bq
   replace ia:=ia.kept gy2w1
   replace ib:=ib.kept gy2w1
   replace hG:=d_ hG gy2w1
   clear gy2w1
   obtain ⟨Ca0,Ca1,Fa0,Fa1⟩:=c_ Ba
   obtain ⟨Cb0,Cb1,Fb0,Fb1⟩:=c_ Bb
   obtain ⟨Cq0,Cq1,Cq2,Cq3,Fq0,Fq1,Fq2,Fq3⟩:=b_ Bq
   go_wp2_with fail
   clear Ca0 Fa0 Ca1 Fa1 Cb0 Fb0 Cb1 Fb1 Cq0 Fq0 Cq1 Fq1 Cq2 Fq2 Cq3 Fq3
   refine (HC.out y2w1 _ _ ia ib (HTB.out _ hG)).mono ?_
   rintro e y2w2 ⟨_,rfl,⟨sg,xg,bg,rfl,hg,vg,tg⟩,gy2w2⟩
   have ig : IntV y2w2 (.agg #[.slice sg xg.length xg.length,.bool bg]) ((g9 : Int)):=⟨sg,xg,bg,rfl,hg,vg,tg⟩
   replace Ba:=a_ gy2w2 Ba
   replace Bb:=a_ gy2w2 Bb
   replace Bq:=a_ gy2w2 Bq
   replace ia:=ia.kept gy2w2
   replace ib:=ib.kept gy2w2
   replace hG:=d_ hG gy2w2
   clear gy2w2
   clear hg vg tg
   obtain ⟨Ca0,Ca1,Fa0,Fa1⟩:=c_ Ba
   obtain ⟨Cb0,Cb1,Fb0,Fb1⟩:=c_ Bb
   obtain ⟨Cq0,Cq1,Cq2,Cq3,Fq0,Fq1,Fq2,Fq3⟩:=b_ Bq
   have gby2w2:=(wg_ y2w2 (.cells #[.slice sg xg.length xg.length,.bool bg] 26) none)
   have Bg:=(f_ y2w2 (.cells #[.slice sg xg.length xg.length,.bool bg] 26) (y2w2.heap.size) rfl)
   have hzy2w2 : Hid (w.heap.size ≤ y2w2.heap.size):=H_ hG.size
   have hlay2w2 : Hid (w.heap.size < y2w2.heap.size):=H_ (Array.getElem?_eq_some_iff.1 Ba).1
   have hlby2w2 : Hid (w.heap.size + 1 < y2w2.heap.size):=H_ (Array.getElem?_eq_some_iff.1 Bb).1
   have hlqy2w2 : Hid (w.heap.size + 1 + 1 < y2w2.heap.size):=H_ (Array.getElem?_eq_some_iff.1 Bq).1
   clear Ca0 Fa0 Ca1 Fa1 Cb0 Fb0 Cb1 Fb1 Cq0 Fq0 Cq1 Fq1 Cq2 Fq2 Cq3 Fq3
   replace Ba:=a_ gby2w2 Ba
   replace Bb:=a_ gby2w2 Bb
   replace Bq:=a_ gby2w2 Bq
   replace ia:=ia.kept gby2w2
   replace ib:=ib.kept gby2w2
   replace ig:=ig.kept gby2w2
   replace hG:=d_ hG gby2w2
   clear gby2w2
   obtain ⟨Ca0,Ca1,Fa0,Fa1⟩:=c_ Ba
   obtain ⟨Cb0,Cb1,Fb0,Fb1⟩:=c_ Bb
   obtain ⟨Cq0,Cq1,Cq2,Cq3,Fq0,Fq1,Fq2,Fq3⟩:=b_ Bq
   obtain ⟨Cg0,Cg1,Fg0,Fg1⟩:=c_ Bg
   go_wp2_with fail
   generalize (y2w2.alloc (.cells #[.slice sg xg.length xg.length,.bool bg] 26)) = y2w3 at *
   generalize y2w2.heap.size = ay2w2 at *
   replace hzy2w2:=hzy2w2.out
   replace hlay2w2:=hlay2w2.out
   replace hlby2w2:=hlby2w2.out
   replace hlqy2w2:=hlqy2w2.out
   go_region_held3 (fun w'=>w'.cell? ⟨w.heap.size,0,none⟩ = some (.slice sa xa.length xa.length) ∧ w'.cell? ⟨w.heap.size,1,none⟩ = some (.bool ba) ∧ w'.cell? ⟨w.heap.size + 1,0,none⟩ = some (.slice sb xb.length xb.length) ∧ w'.cell? ⟨w.heap.size + 1,1,none⟩ = some (.bool bb) ∧ w'.cell? ⟨ay2w2,0,none⟩ = some (.slice sg xg.length xg.length) ∧ w'.cell? ⟨ay2w2,1,none⟩ = some (.bool bg))
    (first | assumption | exact ⟨Ca0,Ca1,Cb0,Cb1,Cg0,Cg1⟩ | exact HSy2w4_50 | go_keep)
    (first
      | (go_at_call 70; (with_reducible refine (ae_ y2w3.drew _ _ x (g9 : Int) K (ia.kept (k_ (h_ _ _))) (ig.kept (k_ (h_ _ _))) (by omega) Hla.out HP.out.2.2.2.2 HP.out.2.2.2.1).mono ?_); rintro e y2w4_1 ⟨v1,rfl,n1,gy2w4_1⟩; have hGy2w4_1:=o_ y2w3 gy2w4_1 rfl rfl rfl rfl; have hSy2w4_1:=(n_ (hGy2w4_1.cell Ca0 (by simp)) (n_ (hGy2w4_1.cell Ca1 (by simp)) (n_ (hGy2w4_1.cell Cb0 (by simp)) (n_ (hGy2w4_1.cell Cb1 (by simp)) (n_ (hGy2w4_1.cell Cg0 (by simp)) (hGy2w4_1.cell Cg1 (by simp))))))); clear gy2w4_1)
      | (go_at_call 62; (with_reducible refine (af_ y2w4_1 _ (x / (g9 : Int)) K n1 (by omega) (cU_ Hla.out)).mono ?_); rintro e y2w4_2 ⟨v2,rfl,n2,gy2w4_2⟩; rw [← HP.out.1] at n2; have hGy2w4_2:=d_ hGy2w4_1 gy2w4_2; replace n1:=n1.kept gy2w4_2; have hSy2w4_2:=(n_ (hGy2w4_2.cell Ca0 (by simp)) (n_ (hGy2w4_2.cell Ca1 (by simp)) (n_ (hGy2w4_2.cell Cb0 (by simp)) (n_ (hGy2w4_2.cell Cb1 (by simp)) (n_ (hGy2w4_2.cell Cg0 (by simp)) (hGy2w4_2.cell Cg1 (by simp))))))); clear gy2w4_2)
      | (go_at_call 70; (with_reducible refine (ae_ y2w4_2 _ _ y (g9 : Int) K (ib.kept hGy2w4_2) (ig.kept hGy2w4_2) (by omega) Hlb.out HP.out.2.2.2.2 HP.out.2.2.2.1).mono ?_); rintro e y2w4_3 ⟨v3,rfl,n3,gy2w4_3⟩; have hGy2w4_3:=d_ hGy2w4_2 gy2w4_3; replace n1:=n1.kept gy2w4_3; replace n2:=n2.kept gy2w4_3; have hSy2w4_3:=(n_ (hGy2w4_3.cell Ca0 (by simp)) (n_ (hGy2w4_3.cell Ca1 (by simp)) (n_ (hGy2w4_3.cell Cb0 (by simp)) (n_ (hGy2w4_3.cell Cb1 (by simp)) (n_ (hGy2w4_3.cell Cg0 (by simp)) (hGy2w4_3.cell Cg1 (by simp))))))); clear gy2w4_3)
      | (go_at_call 62; (with_reducible refine (af_ y2w4_3 _ (y / (g9 : Int)) K n3 (by omega) (cU_ Hlb.out)).mono ?_); rintro e y2w4_4 ⟨v4,rfl,n4,gy2w4_4⟩; rw [← HP.out.2.1] at n4; have hGy2w4_4:=d_ hGy2w4_3 gy2w4_4; replace n1:=n1.kept gy2w4_4; replace n2:=n2.kept gy2w4_4; replace n3:=n3.kept gy2w4_4; have hSy2w4_4:=(n_ (hGy2w4_4.cell Ca0 (by simp)) (n_ (hGy2w4_4.cell Ca1 (by simp)) (n_ (hGy2w4_4.cell Cb0 (by simp)) (n_ (hGy2w4_4.cell Cb1 (by simp)) (n_ (hGy2w4_4.cell Cg0 (by simp)) (hGy2w4_4.cell Cg1 (by simp))))))); clear gy2w4_4)
      | (go_at_call 69; (with_reducible refine (da_ y2w4_4 _ _ R K n2 n4 (by omega) HP.out.2.2.1).mono ?_); rintro e y2w4_5 ⟨_,rfl,⟨sd,xd,bd,sd',xd',bd',rfl,hd,hd'⟩,gy2w4_5⟩; have hGy2w4_5:=d_ hGy2w4_4 gy2w4_5; replace n1:=n1.kept gy2w4_5; replace n2:=n2.kept gy2w4_5; replace n3:=n3.kept gy2w4_5; replace n4:=n4.kept gy2w4_5; have qd : RatV y2w4_5 (.agg #[.slice sd xd.length xd.length,.bool bd,.slice sd' xd'.length xd'.length,.bool bd']) (R):=⟨sd,xd,bd,sd',xd',bd',rfl,hd,hd'⟩; have hSy2w4_5:=(n_ (hGy2w4_5.cell Ca0 (by simp)) (n_ (hGy2w4_5.cell Ca1 (by simp)) (n_ (hGy2w4_5.cell Cb0 (by simp)) (n_ (hGy2w4_5.cell Cb1 (by simp)) (n_ (hGy2w4_5.cell Cg0 (by simp)) (hGy2w4_5.cell Cg1 (by simp))))))); clear gy2w4_5; clear hd hd'; (obtain ⟨dq0,dq1,dq2,dq3,dq4,dq5,dq6,dq7⟩:=b_ (a_ hGy2w4_5 Bq)); have HSy2w4_50:=(n_ ((c_ (i_ (a_ hGy2w4_5 Ba) (show w.heap.size ≠ w.heap.size + 1 + 1 by omega) (.slice sd xd.length xd.length) (.bool bd) (.slice sd' xd'.length xd'.length) (.bool bd'))).1) (n_ ((c_ (i_ (a_ hGy2w4_5 Ba) (show w.heap.size ≠ w.heap.size + 1 + 1 by omega) (.slice sd xd.length xd.length) (.bool bd) (.slice sd' xd'.length xd'.length) (.bool bd'))).2.1) (n_ ((c_ (i_ (a_ hGy2w4_5 Bb) (show w.heap.size + 1 ≠ w.heap.size + 1 + 1 by omega) (.slice sd xd.length xd.length) (.bool bd) (.slice sd' xd'.length xd'.length) (.bool bd'))).1) (n_ ((c_ (i_ (a_ hGy2w4_5 Bb) (show w.heap.size + 1 ≠ w.heap.size + 1 + 1 by omega) (.slice sd xd.length xd.length) (.bool bd) (.slice sd' xd'.length xd'.length) (.bool bd'))).2.1) (n_ ((c_ (i_ (a_ hGy2w4_5 Bg) (show ay2w2 ≠ w.heap.size + 1 + 1 by omega) (.slice sd xd.length xd.length) (.bool bd) (.slice sd' xd'.length xd'.length) (.bool bd'))).1) ((c_ (i_ (a_ hGy2w4_5 Bg) (show ay2w2 ≠ w.heap.size + 1 + 1 by omega) (.slice sd xd.length xd.length) (.bool bd) (.slice sd' xd'.length xd'.length) (.bool bd'))).2.1))))))))
   replace Ba:=a_ hGy2w4_5 Ba
   replace Bb:=a_ hGy2w4_5 Bb
   replace Bq:=a_ hGy2w4_5 Bq
   replace Bg:=a_ hGy2w4_5 Bg
   replace hG:=d_ hG hGy2w4_5
   clear Ca0 Fa0 Ca1 Fa1 Cb0 Fb0 Cb1 Fb1 Cq0 Fq0 Cq1 Fq1 Cq2 Fq2 Cq3 Fq3 Cg0 Fg0 Cg1 Fg1
   obtain ⟨k90,k91,k92,k93,k94,k95,k96,k97⟩:=b_ Bq
   obtain ⟨q90,q91,q92,q93,q94,q95,q96,q97⟩:=b_ (r_ Bq (.slice sd xd.length xd.length) (.bool bd) (.slice sd' xd'.length xd'.length) (.bool bd'))
   have hF : Hid (V_ w (R) 0 (.returned (.tuple #[.agg #[.slice sd xd.length xd.length,.bool bd,.slice sd' xd'.length xd'.length,.bool bd'],.int .i64 0])) ((((y2w4_5.setCell ⟨w.heap.size + 1 + 1,0,none⟩ (.slice sd xd.length xd.length)).setCell ⟨w.heap.size + 1 + 1,1,none⟩ (.bool bd)).setCell ⟨w.heap.size + 1 + 1,2,none⟩ (.slice sd' xd'.length xd'.length)).setCell ⟨w.heap.size + 1 + 1,3,none⟩ (.bool bd'))):=av_ hG Bq (by omega) qd
   clear ia ib ig n1 n2 n3 n4 qd
   obtain ⟨Ca0,Ca1,Fa0,Fa1⟩:=c_ Ba
   obtain ⟨Cb0,Cb1,Fb0,Fb1⟩:=c_ Bb
   obtain ⟨Cg0,Cg1,Fg0,Fg1⟩:=c_ Bg
   go_wp2_with fail
   exact bodyPost_ret (v:=.tuple #[.agg #[.slice sd xd.length xd.length,.bool bd,.slice sd' xd'.length xd'.length,.bool bd'],.int .i64 0]) (by simp [results,Tryz.results23,go_sem,q90,q91,q92,q93]) rfl hF.out
set_option maxHeartbeats 16000000 in
theorem fB_ (w : World) (n d : Int) (h1 : -9223372036854775808 ≤ n) (h2 : n ≤ 9223372036854775807) (h3 : -9223372036854775808 ≤ d) (h4 : d ≤ 9223372036854775807) (hTab : Tab w) :
    Calls Tryz.prog 22 #[.int .i64 n,.int .i64 d] w (V_ w (Rat.divInt n d) (if d = 0 then 5 else 0)):=by
 have HTB : Hid (∀ W,w.grownBy W none → Tab W):=fun W hW=>hTab.kept hW (by simp)
 clear hTab
 have HN : Hid (-9223372036854775808 ≤ n ∧ n ≤ 9223372036854775807 ∧ -9223372036854775808 ≤ d ∧ d ≤ 9223372036854775807):=⟨h1,h2,h3,h4⟩
 have lN : Hid (n.natAbs < B ^ 1):=by show n.natAbs < B ^ 1; unfold B; omega
 have lD : Hid (d.natAbs < B ^ 1):=by show d.natAbs < B ^ 1; unfold B; omega
 obtain ⟨c,hc⟩ : ∃ c : Int,(if d = 0 then 5 else 0) = c:=⟨_,rfl⟩
 have HC:=H_ hc
 rw [hc]
 clear h1 h2 h3 h4 hc
 obtain ⟨hG,Bq⟩:=en1_ w (.cells #[.slice none 0 0,.bool false,.slice none 0 0,.bool false] 28)
 go_enter Tryz.func22,Tryz.ntmps22
 obtain ⟨Cq0,Cq1,Cq2,Cq3,Fq0,Fq1,Fq2,Fq3⟩:=b_ Bq
 go_wp2_with fail
 generalize (w.alloc (.cells #[.slice none 0 0,.bool false,.slice none 0 0,.bool false] 28)) = w0 at *
 clear Cq0 Fq0 Cq1 Fq1 Cq2 Fq2 Cq3 Fq3
 refine (ak_ w0 n HN.out.1 HN.out.2.1).mono ?_
 rintro e w1 ⟨v1,rfl,n1,gw1⟩
 replace Bq:=a_ gw1 Bq
 replace hG:=d_ hG gw1
 clear gw1
 obtain ⟨Cq0,Cq1,Cq2,Cq3,Fq0,Fq1,Fq2,Fq3⟩:=b_ Bq
 go_wp2_with fail
 clear Cq0 Fq0 Cq1 Fq1 Cq2 Fq2 Cq3 Fq3
 refine (ak_ w1 d HN.out.2.2.1 HN.out.2.2.2).mono ?_
 rintro e w2 ⟨v2,rfl,n2,gw2⟩
 replace Bq:=a_ gw2 Bq
 replace n1:=n1.kept gw2
 replace hG:=d_ hG gw2
 clear gw2
 obtain ⟨Cq0,Cq1,Cq2,Cq3,Fq0,Fq1,Fq2,Fq3⟩:=b_ Bq
 go_wp2_with fail
 clear Cq0 Fq0 Cq1 Fq1 Cq2 Fq2 Cq3 Fq3
 refine (db_ w2 _ _ n d 1 n1 n2 (by omega) lN.out lD.out (HTB.out _ hG)).mono ?_
 rintro e w3 ⟨_,rfl,⟨sd,xd,bd,sd',xd',bd',rfl,hd,hd'⟩,gw3⟩
 rw [HC.out]
 have qd : RatV w3 (.agg #[.slice sd xd.length xd.length,.bool bd,.slice sd' xd'.length xd'.length,.bool bd']) (Rat.divInt n d):=⟨sd,xd,bd,sd',xd',bd',rfl,hd,hd'⟩
 replace Bq:=a_ gw3 Bq
 replace hG:=d_ hG gw3
 clear gw3
 clear hd hd'
 obtain ⟨Cq0,Cq1,Cq2,Cq3,Fq0,Fq1,Fq2,Fq3⟩:=b_ Bq
 clear Cq0 Fq0 Cq1 Fq1 Cq2 Fq2 Cq3 Fq3
 obtain ⟨k90,k91,k92,k93,k94,k95,k96,k97⟩:=b_ Bq
 obtain ⟨q90,q91,q92,q93,q94,q95,q96,q97⟩:=b_ (r_ Bq (.slice sd xd.length xd.length) (.bool bd) (.slice sd' xd'.length xd'.length) (.bool bd'))
 have hF : Hid (V_ w (Rat.divInt n d) c (.returned (.tuple #[.agg #[.slice sd xd.length xd.length,.bool bd,.slice sd' xd'.length xd'.length,.bool bd'],.int .i64 c])) ((((w3.setCell ⟨w.heap.size,0,none⟩ (.slice sd xd.length xd.length)).setCell ⟨w.heap.size,1,none⟩ (.bool bd)).setCell ⟨w.heap.size,2,none⟩ (.slice sd' xd'.length xd'.length)).setCell ⟨w.heap.size,3,none⟩ (.bool bd'))):=av_ hG Bq (by omega) qd
 clear n1 n2 qd
 go_wp2_with fail
 exact bodyPost_ret (v:=.tuple #[.agg #[.slice sd xd.length xd.length,.bool bd,.slice sd' xd'.length xd'.length,.bool bd'],.int .i64 c]) (by simp [results,Tryz.results22,go_sem,q90,q91,q92,q93]) rfl hF.out
end Go.Proofs.YtgbbdgioohaknaaGreatDoor
