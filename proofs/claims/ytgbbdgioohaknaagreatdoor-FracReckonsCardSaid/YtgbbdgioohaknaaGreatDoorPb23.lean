/- What the laws lean on, part 23. -/
import Derived.Deep.RegionHeld3
import Derived.Deep.AppendLies
import Derived.Deep.CutRange
import Derived.Deep.RegionLaw
import Derived.Test.YtgbbdgioohaknaaGreatDoorPb14
import Derived.Test.YtgbbdgioohaknaaGreatDoorPb22
namespace Go.Proofs.YtgbbdgioohaknaaGreatDoor
open Go.RowKit Mat
set_option maxRecDepth 100000
set_option linter.unusedVariables false
set_option linter.unusedSimpArgs false
theorem lJ_ (a b : Nat) : W_ a b = -1 ∨ W_ a b = 0 ∨ W_ a b = 1:=by
 unfold W_; split
 · left; rfl
 · split
   · right; left; rfl
   · right; right; rfl
theorem jQ_ {x y : Int} (h : x.sign = y.sign) : x.sign * W_ x.natAbs y.natAbs = bt_ x y:=by
 rcases bl_ x with ⟨h1,e1⟩ | ⟨h1,e1⟩ | ⟨h1,e1⟩ <;> rcases bl_ y with ⟨h2,e2⟩ | ⟨h2,e2⟩ | ⟨h2,e2⟩ <;> rw [e1,e2] at h <;> first | omega | skip
 · rw [e1]; unfold W_ bt_
   rcases Int.lt_trichotomy x y with h3 | h3 | h3
   · rw [if_neg (by omega),if_neg (by omega),if_pos h3]; rfl
   · rw [if_neg (by omega),if_pos (by omega),if_neg (by omega),if_pos h3]; rfl
   · rw [if_pos (by omega),if_neg (by omega),if_neg (by omega)]; rfl
 · rw [e1,h1,h2]; rfl
 · rw [e1,gG_ (by omega) (by omega)]; omega
def mf_ (w : World) (k : Int) (e : Ending) (w' : World) : Prop:=e = .returned (.int .i64 k) ∧ w.grownBy w' none
set_option maxHeartbeats 8000000 in
theorem bW_ (w : World) (va vb : Value) (x y : Int) (Ha : RIntV w va x) (Hb : RIntV w vb y) (la' : x.natAbs < D ^ 1000000) (lb' : y.natAbs < D ^ 1000000) :
    Calls Tryz.prog 80 #[va,vb] w (mf_ w (bt_ x y)):=by
 have Hla:=H_ la'
 have Hlb:=H_ lb'
 clear la' lb'
 obtain ⟨ga,sa,la,ca,rfl,ha,ma⟩:=Ha
 obtain ⟨gb,sb,lb,cb,rfl,hb,mb⟩:=Hb
 obtain ⟨hG,Ba,Bb⟩:=en2_ w (.cells #[.int .i64 ga,.slice sa la ca] 36) (.cells #[.int .i64 gb,.slice sb lb cb] 36)
 have oa : RIntV w (.agg #[.int .i64 ga,.slice sa la ca]) (x):=⟨ga,sa,la,ca,rfl,ha,ma⟩
 have ra:=oa.kept hG
 have ma':=(show RefV w (.agg #[.slice sa la ca]) (x).natAbs from ma).kept hG
 have ob : RIntV w (.agg #[.int .i64 gb,.slice sb lb cb]) (y):=⟨gb,sb,lb,cb,rfl,hb,mb⟩
 have rb:=ob.kept hG
 have mb':=(show RefV w (.agg #[.slice sb lb cb]) (y).natAbs from mb).kept hG
 clear ma
 clear mb
 go_enter Tryz.func80,Tryz.ntmps80
 have hc:=eF_ x y
 rw [← ha.out,← hb.out] at hc
 have hc4 : (decide (ga < gb) = true ∧ Hid (bt_ x y = -1)) ∨ (decide (ga < gb) = false ∧ decide (gb < ga) = true ∧ Hid (bt_ x y = 1)) ∨ (decide (ga < gb) = false ∧ decide (gb < ga) = false ∧ Hid (ga * W_ x.natAbs y.natAbs = bt_ x y)):=by
  have key : ga = gb → ga * W_ x.natAbs y.natAbs = bt_ x y:=fun h=>by rw [ha.out]; exact jQ_ (by rw [← ha.out,← hb.out,h])
  rcases hc with ⟨q,r⟩ | ⟨q,r⟩ | ⟨q,r,t,u⟩ | ⟨q,r,t,u⟩
  · left; exact ⟨decide_eq_true q,r⟩
  · right; left; exact ⟨decide_eq_false (by omega),decide_eq_true q,r⟩
  · right; right; exact ⟨decide_eq_false (by omega),decide_eq_false (by omega),key q⟩
  · right; right; exact ⟨decide_eq_false (by omega),decide_eq_false (by omega),key q⟩
 clear hc
 have hbd:=dR_ x
 rw [← ha.out] at hbd
 have hcb:=lJ_ x.natAbs y.natAbs
 obtain ⟨cc,hcc⟩ : ∃ cc,W_ x.natAbs y.natAbs = cc:=⟨_,rfl⟩
 rw [hcc] at hc4 hcb
 have HCC:=H_ hcc
 obtain ⟨zz,hzz⟩ : ∃ zz,bt_ x y = zz:=⟨_,rfl⟩
 rw [hzz] at hc4 ⊢
 clear hcc hzz
 rcases hc4 with ⟨f1,hz⟩ | ⟨f1,f2,hz⟩ | ⟨f1,f2,hz⟩
 · skip
   obtain ⟨Ca0,Ca1,Fa0,Fa1⟩:=c_ Ba
   obtain ⟨Cb0,Cb1,Fb0,Fb1⟩:=c_ Bb
   go_wp2_with fail
   go_ret
   exact ⟨by rw [hz.out]; rfl,hG⟩
 · skip
   obtain ⟨Ca0,Ca1,Fa0,Fa1⟩:=c_ Ba
   obtain ⟨Cb0,Cb1,Fb0,Fb1⟩:=c_ Bb
   go_wp2_with fail
   go_ret
   exact ⟨by rw [hz.out]; rfl,hG⟩
 · skip
   have hw : IntKind.i64.wrap (ga * cc) = zz:=by rw [← hz.out,IntKind.wrap_i64]; obtain ⟨u1,u2⟩:=hbd; rcases hcb with h | h | h <;> rw [h] <;> omega
   clear hz hbd hcb
   obtain ⟨Ca0,Ca1,Fa0,Fa1⟩:=c_ Ba
   obtain ⟨Cb0,Cb1,Fb0,Fb1⟩:=c_ Bb
   go_wp2_with fail
   generalize ((w.alloc (.cells #[.int .i64 ga,.slice sa la ca] 36)).alloc (.cells #[.int .i64 gb,.slice sb lb cb] 36)) = w0 at *
   go_region_held3 (fun w'=>w'.cell? ⟨w.heap.size,0,none⟩ = some (.int .i64 ga) ∧ w'.cell? ⟨w.heap.size,1,none⟩ = some (.slice sa la ca) ∧ w'.cell? ⟨w.heap.size + 1,0,none⟩ = some (.int .i64 gb) ∧ w'.cell? ⟨w.heap.size + 1,1,none⟩ = some (.slice sb lb cb))
    (first | assumption | exact ⟨Ca0,Ca1,Cb0,Cb1⟩ | go_keep)
    (first
      | (go_at_call 98; (with_reducible refine (cS_ w0.drew _ _ x.natAbs y.natAbs (ma'.kept (k_ (h_ _ _))) (mb'.kept (k_ (h_ _ _))) Hla.out Hlb.out).mono ?_); rintro e w1_1 ⟨rfl,gw1_1⟩; rw [HCC.out]; have hGw1_1:=o_ w0 gw1_1 rfl rfl rfl rfl; have hSw1_1:=(n_ (hGw1_1.cell Ca0 (by simp)) (n_ (hGw1_1.cell Ca1 (by simp)) (n_ (hGw1_1.cell Cb0 (by simp)) (hGw1_1.cell Cb1 (by simp))))); clear gw1_1))
   replace Ba:=a_ hGw1_1 Ba
   replace Bb:=a_ hGw1_1 Bb
   replace hG:=d_ hG hGw1_1
   clear Ca0 Fa0 Ca1 Fa1 Cb0 Fb0 Cb1 Fb1
   obtain ⟨Ca0,Ca1,Fa0,Fa1⟩:=c_ Ba
   obtain ⟨Cb0,Cb1,Fb0,Fb1⟩:=c_ Bb
   go_wp2_with fail
   go_ret
   exact ⟨by first | rfl | (rw [hw]; rfl),hG⟩
theorem fK_ (w : World) (va : Value) (a : Nat) (ha : RefV w va a) (ba : a < D ^ 1000000) :
    Calls Tryz.prog 65 #[va] w (bA_ w a):=by
 rcases Nat.eq_zero_or_pos a with h | h
 · subst h; exact hz_ w va ha
 · exact hA_ w va a ha h ba
theorem me_ {l : List Nat} {n E : Nat} (h : cF_ l) (hv : aC_ l = n) (hn : n < D ^ E) (hE : 1 ≤ E) : l.length ≤ 4 * E :=
 gA_ h (by rw [hv,Nat.pow_mul]; exact hn) (by omega)
set_option maxHeartbeats 4000000 in
theorem aD_ (w : World) (va : Value) (x : Int) (Ha : RIntV w va x) (la' : x.natAbs < D ^ 1000000) :
    Calls Tryz.prog 19 #[va] w (hi_ w x):=by
 have Hla:=H_ la'
 clear la'
 obtain ⟨ga,sa,la,ca,rfl,ha,ma⟩:=Ha
 obtain ⟨hG,Ba⟩:=en1_ w (.cells #[.int .i64 ga,.slice sa la ca] 36)
 have oa : RIntV w (.agg #[.int .i64 ga,.slice sa la ca]) (x):=⟨ga,sa,la,ca,rfl,ha,ma⟩
 have ra:=oa.kept hG
 have ma':=(show RefV w (.agg #[.slice sa la ca]) (x).natAbs from ma).kept hG
 clear ma
 go_enter Tryz.func19,Tryz.ntmps19
 have hc : (decide (ga < 0) = true ∧ Hid (x < 0)) ∨ (decide (ga < 0) = false ∧ Hid (¬ x < 0)):=by
  have ea:=ha.out
  rcases bl_ x with ⟨h,e⟩ | ⟨h,e⟩ | ⟨h,e⟩
  · left; exact ⟨decide_eq_true (by omega),h⟩
  · right; exact ⟨decide_eq_false (by omega),by show ¬ _; omega⟩
  · right; exact ⟨decide_eq_false (by omega),by show ¬ _; omega⟩
 rcases hc with ⟨f1,HZ⟩ | ⟨f1,HZ⟩
 · skip
   obtain ⟨Ca0,Ca1,Fa0,Fa1⟩:=c_ Ba
   go_wp2_with fail
   generalize (w.alloc (.cells #[.int .i64 ga,.slice sa la ca] 36)) = w0 at *
   clear Ca0 Fa0 Ca1 Fa1
   refine (fK_ w0 _ x.natAbs ma' Hla.out).mono ?_
   rintro e w1 ⟨s,rfl,hd,hdv,gw1⟩
   replace Ba:=a_ gw1 Ba
   replace hG:=d_ hG gw1
   clear gw1
   obtain ⟨Ca0,Ca1,Fa0,Fa1⟩:=c_ Ba
   have hsz : s.size ≤ 4000000:=by
    rw [← z_]
    exact me_ hd hdv Hla.out (by omega)
   have hF : Hid (ar_ ({ data:=#[45] } ++ s) x):=⟨bts s,hd,hdv,by rw [fu_,if_pos HZ.out]; rfl⟩
   clear hd hdv
   go_wp2_with fail
   go_ret
   exact ⟨_,rfl,hF.out,hG⟩
 · skip
   obtain ⟨Ca0,Ca1,Fa0,Fa1⟩:=c_ Ba
   go_wp2_with fail
   generalize (w.alloc (.cells #[.int .i64 ga,.slice sa la ca] 36)) = w0 at *
   clear Ca0 Fa0 Ca1 Fa1
   refine (fK_ w0 _ x.natAbs ma' Hla.out).mono ?_
   rintro e w1 ⟨s,rfl,hd,hdv,gw1⟩
   replace Ba:=a_ gw1 Ba
   replace hG:=d_ hG gw1
   clear gw1
   obtain ⟨Ca0,Ca1,Fa0,Fa1⟩:=c_ Ba
   have hF : Hid (ar_ s x):=⟨bts s,hd,hdv,by rw [if_neg (by have:=HZ.out; omega)]⟩
   clear hd hdv
   go_wp2_with fail
   go_ret
   exact ⟨_,rfl,hF.out,hG⟩
theorem kS_ {k d : Nat} {hs : List Nat} : (List.replicate (k + 1) 0 ++ hs).set k d = List.replicate k 0 ++ d :: hs:=by
 rw [List.replicate_succ',List.append_assoc,List.set_append]
 simp
theorem jB_ (xs : List Nat) (k : Nat) (hk : k < xs.length) : val D (xs.drop k) = xs.getD k 0 + D * val D (xs.drop (k + 1)):=by
 rw [List.drop_eq_getElem_cons hk,List.getD_eq_getElem?_getD,List.getElem?_eq_getElem hk]; rfl
set_option maxHeartbeats 2000000 in
theorem kY_ (w : World) (s : Option Addr) (n cap : Nat) (xs : List Nat) (hn : xs.length = n) (hx : RRdo w s xs) (hnc : n ≤ cap) (bn : n ≤ 1099511627776) :
    Calls Tryz.prog 97 #[.slice s n cap] w (fun e w'=>∃ k,e = .returned (.agg #[.slice s k cap]) ∧ k ≤ n ∧ Top (xs.take k) ∧ val D (xs.take k) = val D xs ∧ w.grownBy w' none):=by
 have Hn:=H_ hn
 have hgw0:=wg_ w (.cells #[.slice none 0 0] 34) none
 have hbox0:=f_ w (.cells #[.slice none 0 0] 34) w.heap.size rfl
 obtain ⟨cb,fb⟩:=j_ hbox0
 have hx0:=hx.kept hgw0
 clear hn
 go_enter Tryz.func97,Tryz.ntmps97
 go_wp2_with fail
 generalize (w.alloc (.cells #[.slice none 0 0] 34)) = w0 at *
 go_loopw [3] (fun i wr=>∃ (k : Nat),k ≤ n ∧ i = .int .i64 k ∧ w0 = wr ∧ Hid (val D (xs.take k) = val D xs)) (fun i _=>(intOf i).toNat)
 case atStart=>exact ⟨n,Nat.le_refl _,rfl,rfl,by show _ = _; rw [← Hn.out,List.take_length]⟩
 case round =>
  obtain ⟨k,hk,rfl,rfl,hv⟩:=hrel
  have hF : Hid (Top (xs.take k) → ∃ k',Ending.returned (.agg #[.slice s k cap]) = Ending.returned (.agg #[.slice s k' cap]) ∧ k' ≤ n ∧ Top (xs.take k') ∧ val D (xs.take k') = val D xs ∧ w.grownBy (w0.setCell ⟨w.heap.size,0,none⟩ (.slice s k cap)) none):=by
   intro ht
   exact ⟨k,rfl,hk,ht,hv.out,s_ hgw0 (q_ (h_ _ _) _ _) (Nat.le_refl _)⟩
  by_cases h0 : k = 0
  · subst h0
    have hF2:=H_ (hF.out (by intro x hx; simp at hx))
    clear hF
    go_wp2_with fail
    exact bodyPost_ret (v:=.agg #[.slice s 0 cap]) (by simp [results,Tryz.results97,go_sem,cb]) rfl hF2.out
  · obtain ⟨j,rfl⟩ : ∃ j,k = j + 1:=⟨k - 1,by omega⟩
    clear h0
    obtain ⟨b1,o1,cs1,rfl,hb1,hat1⟩:=hx0.get j (by rw [Hn.out]; omega)
    obtain ⟨x,ex⟩ : ∃ x,xs[j]'(by rw [Hn.out]; omega) = x:=⟨_,rfl⟩
    have c1 : w0.cell? ⟨b1,o1 + j,none⟩ = some (.int .i64 (x : Int)):=by
     rw [hb1.cell,hat1 j (by rw [Hn.out]; omega),ex]; rfl
    have EX:=H_ ex
    clear ex
    by_cases hz : x = 0
    · subst hz
      clear hF
      go_wp2_with fail
      go_roundw
      case rel=>exact ⟨j,by omega,by go_num,by trivial,by show _ = _; rw [← hv.out,w_ D xs j (by rw [Hn.out]; omega),EX.out]; omega⟩
      case measure=>simp [intOf]
    · have t : ((x : Int) == 0) = false:=beq_eq_false_iff_ne.2 (by omega)
      have hF2:=H_ (hF.out (fa_ xs j (by rw [Hn.out]; omega) (by rw [EX.out]; exact hz)))
      clear hF
      go_wp2_with fail
      exact bodyPost_ret (v:=.agg #[.slice (some ⟨b1,o1,none⟩) (j + 1) cap]) (by simp [results,Tryz.results97,go_sem,cb]) rfl hF2.out
set_option maxHeartbeats 4000000 in
theorem dk_ (w : World) (va : Value) (a n : Nat) (ha : RefV w va a) (ba : a < D ^ 1000000) (hn : n ≤ 10000) :
    Calls Tryz.prog 99 #[va,.int .i64 (n : Int)] w (bJ_ w (a * n)):=by
 obtain ⟨sa,la,ca,xs,rfl,h2⟩:=ha
 have na : RefV w (.agg #[.slice sa la ca]) a:=⟨sa,la,ca,xs,rfl,h2⟩
 have hgw0 : w.grownBy ((w.alloc (.cells #[.slice sa la ca] 34)).alloc (.cells #[.slice none 0 0] 34)) none:=l_ (wg_ _ _ _) _
 have hboxr:=f_ (w.alloc (.cells #[.slice sa la ca] 34)) (.cells #[.slice none 0 0] 34) (w.heap.size + 1) (by simp)
 have hboxa:=(Below.heap_alloc _ (.cells #[.slice none 0 0] 34) w.heap.size (by simp)).trans (f_ w (.cells #[.slice sa la ca] 34) w.heap.size rfl)
 replace na:=na.kept hgw0
 have Hba:=H_ ba
 have hnB : n < B:=Nat.lt_of_le_of_lt hn (by decide)
 have hw : IntKind.u64.wrap (n : Int) = (n : Int):=by rw [IntKind.wrap_u64]; omega
 have hnD : n < D ^ 1000000:=by
  obtain ⟨E,hE⟩ : ∃ E,E = 1000000:=⟨_,rfl⟩
  rw [← hE]
  have h1 : D ^ 2 ≤ D ^ E:=Nat.pow_le_pow_right bi_ (by omega)
  have h2 : D ^ 2 = 100000000:=by decide
  omega
 have HnD:=H_ hnD
 clear h2 ba hnD
 go_enter Tryz.func99,Tryz.ntmps99
 go_wp2_with fail
 generalize ((w.alloc (.cells #[.slice sa la ca] 34)).alloc (.cells #[.slice none 0 0] 34)) = w0 at *
 obtain ⟨c1,f1⟩:=j_ hboxa
 go_region_held3 (fun w'=>w'.cell? ⟨w.heap.size,0,none⟩ = some (.slice sa la ca))
  (first | assumption | exact c1 | go_keep)
  (first
    | (go_at_call 74; (with_reducible refine (fe_ w0.drew n hnB).mono ?_); rintro e w1 ⟨v1,rfl,n1,g1⟩; have hG1:=o_ w0 g1 rfl rfl rfl rfl; have hS1:=hG1.cell c1 (by simp))
    | (go_at_call 111; (with_reducible refine (gS_ w1 _ _ a n (na.kept hG1) n1 Hba.out HnD.out).mono ?_); rintro e w2 ⟨v2,rfl,⟨s2,k2,c2,zs2,rfl,n2⟩,g2⟩; have hG2:=d_ hG1 g2; have hS2:=hG2.cell c1 (by simp); have hr2:=a_ hG2 hboxr; obtain ⟨c3,f3⟩:=j_ hr2))
 have hF:=H_ (lS_ (n:=a * n) (d_ hgw0 hG2) hr2 (by decide) (by omega) ⟨s2,k2,c2,zs2,rfl,n2⟩ (.slice s2 k2 c2))
 clear g2 hG2 hG1 n2
 go_wp2_with fail
 exact bodyPost_ret (v:=.agg #[.slice s2 k2 c2]) (by simp [results,Tryz.results99,go_sem,c3]) rfl hF.out
theorem dS_ {P : Program} (w : World) (t ty e : TypeId) (i : TypeInfo) (ht : P.underlying t = some (.slice e)) (hi : P.info? e = some i) (a : Addr) (n cap c : Nat) (h : n ≤ cap) :
    (Builtin.append_ #[t,t] ty #[.slice (some a) n cap,.slice none 0 c]).run P w = .ok (.slice (some a) n cap) w:=by
 simp [Builtin.append_,run_underlying ht,sizeOf,typeInfo,hi,Builtin.lenOf,h,Builtin.firstCells,storeCells]
theorem lb_ {W : World} {H base x : Nat} (hH : W.heap.size = H) (hb : base ≤ H) : (W.alloc (.cells #[iv x] 3)).ownsRow base 3 1 (.slice (some ⟨H,0,none⟩) 1 1) 1 [iv x] :=
 ⟨rfl,Or.inr ⟨H,1,#[iv x],rfl,hb,f_ W _ H hH.symm,Nat.le_refl _,by unfold maxLen; omega,rfl,rfl⟩⟩
theorem dT_ {w : World} {ty : TypeId} {base G n0 c0 : Nat} {olds : List Nat} (hown : w.ownsRow base 3 1 (.slice (some ⟨G,0,none⟩) n0 c0) n0 (olds.map iv)) (h0 : 0 < n0) {s : Option Addr} {k c : Nat} {ys : List Nat} (hk : ys.length = k) (hr : RRdo w s ys) (hb : n0 + k ≤ 10000000) (hbase : base ≤ w.heap.size) :
    ∃ g cap w',(Builtin.append_ #[32,32] ty #[.slice (some ⟨G,0,none⟩) n0 c0,.slice s k c]).run Tryz.prog w = .ok (.slice (some ⟨g,0,none⟩) (n0 + k) cap) w' ∧
     w'.ownsRow base 3 1 (.slice (some ⟨g,0,none⟩) (n0 + k) cap) (n0 + k) ((olds ++ ys).map iv) ∧ w.grownBy w' (some G):=by
 obtain ⟨i1,hi,hz0,hz1,hz2⟩:=aI_
 have key : ∀ (ad : Addr) (news : List Value),news = ys.map iv → (∀ j u,news[j]? = some u → w.cell? (ad.add j) = some u) → ∃ g cap w',(Builtin.append_ #[32,32] ty #[.slice (some ⟨G,0,none⟩) n0 c0,.slice (some ad) k c]).run Tryz.prog w = .ok (.slice (some ⟨g,0,none⟩) (n0 + k) cap) w' ∧
     w'.ownsRow base 3 1 (.slice (some ⟨g,0,none⟩) (n0 + k) cap) (n0 + k) ((olds ++ ys).map iv) ∧ w.grownBy w' (some G):=by
  intro ad news hne hn
  obtain ⟨v',w',hrun,h2,h3,_,h5⟩:=run_append_own_at (P:=Tryz.prog) w base 32 ty 3 i1 (.int .i64 0) 1 8 Tryz.underlying32 hi hz0 hz1 hz2 rfl (by omega) (.slice (some ⟨G,0,none⟩) n0 c0) n0 (olds.map iv) hown ad k c news (by rw [hne,List.length_map,hk]; omega) hn (by rw [hne]; intro u hu; obtain ⟨x,-,rfl⟩:=List.mem_map.1 hu; rfl) (by unfold maxLen; omega) (by omega) hbase
  obtain ⟨g,cap,rfl,_,hlt⟩:=h2.form (by omega)
  exact ⟨g,cap,w',hrun,by rw [List.map_append,← hne]; exact h2,h3⟩
 rcases hr with h | ⟨b,off,cs,e,h1,h2⟩
 · subst h
   simp only [List.length_nil] at hk
   subst hk
   cases s with
   | none =>
    refine ⟨G,c0,w,dS_ w _ ty _ i1 Tryz.underlying32 hi _ _ _ _ (be_ hown).2.1,?_,h_ _ _⟩
    rw [List.append_nil]; exact hown
   | some ad=>exact key ad [] rfl (fun j u h=>by simp at h)
 · subst e
   refine key ⟨b,off,none⟩ (ys.map iv) rfl (fun j u hj=>?_)
   have hadd : (⟨b,off,none⟩ : Addr).add j = ⟨b,off + j,none⟩:=by unfold Addr.add; split <;> simp_all
   rw [hadd,h1.cell]
   rw [List.getElem?_map] at hj
   obtain ⟨x,hx,rfl⟩:=Option.map_eq_some_iff.1 hj
   obtain ⟨hj2,rfl⟩:=List.getElem?_eq_some_iff.1 hx
   exact h2 j hj2
theorem dD_ {w : World} {ops : Array Oper} {o : Oper} {a : Act} {K : Act → World → Prop} {Q : Exit → Act → World → Prop} {E : Prop} (hgd : o.guard = none) (s x : Operand)
    (ho : o.op = .call { callee:=.builtin .append,args:=#[s,x],argTypes:=#[32,32] })
    (base G n0 c0 : Nat) (olds : List Nat) (hs : a.eval s = .slice (some ⟨G,0,none⟩) n0 c0) (hown : w.ownsRow base 3 1 (.slice (some ⟨G,0,none⟩) n0 c0) n0 (olds.map iv)) (h0 : 0 < n0)
    (sx : Option Addr) (k c : Nat) (ys : List Nat) (hx : a.eval x = .slice sx k c) (hk : ys.length = k) (hr : RRdo w sx ys) (hb : n0 + k ≤ 10000000) (hbase : base ≤ w.heap.size)
    (h : ∀ g cap w',w'.ownsRow base 3 1 (.slice (some ⟨g,0,none⟩) (n0 + k) cap) (n0 + k) ((olds ++ ys).map iv) → w.grownBy w' (some G) → K (a.put o.dst (.slice (some ⟨g,0,none⟩) (n0 + k) cap)) w') :
    if Region.wanted o (yielded ops a.tmps) = true then Oper.wp Tryz.prog o a w K Q else E:=by
 have hw : Region.wanted o (yielded ops a.tmps) = true:=by simp [Region.wanted,hgd]
 rw [if_pos hw]
 obtain ⟨g,cap,w',hrun,h2,h3⟩:=dT_ (ty:=o.type) hown h0 (c:=c) hk hr hb hbase
 unfold Oper.wp execOp
 simp only [ho,resolve,invoke,builtin,Sem.run_bind,Sem.run_pure,Result.andThen_ok,List.map_toArray,List.map_cons,List.map_nil,hs,hx,hrun]
 exact h g cap w' h2 h3
theorem Ints.unset {w : World} {g b : Nat} {zs : List Nat} (h : Ints w g zs) (hb : b ≠ g) (v : Value) : Ints (w.setCell ⟨b,0,none⟩ v) g zs:=by
 refine (Below.heap_setCell _ _ _ _ ?_).trans h
 simpa using Ne.symm hb
theorem kf_ {b R x vh V lo : Nat} (h : vh * b + R = V) (hlo : lo * b ≤ x + D * R) : (lo + D * vh) * b + (x + D * R - b * lo) = x + D * V:=by
 have h1 : (lo + D * vh) * b = lo * b + D * (vh * b):=by rw [Nat.add_mul,Nat.mul_assoc]
 have h2 : b * lo = lo * b:=Nat.mul_comm _ _
 rw [h1,← h,Nat.mul_add]
 omega
theorem lD_ {w : World} {g g2 : Nat} {xs : List Nat} (h : RRdo w (some ⟨g2,0,none⟩) xs) (hne : g2 ≠ g) : Far g w (some ⟨g2,0,none⟩) xs:=by
 rcases h with h | ⟨b,off,cs,e,h1,h2⟩
 · exact Or.inl h
 · refine Or.inr ⟨b,off,cs,e,?_,h1,h2⟩
   cases e; exact hne
def mc_ (wA : World) (g b7 V : Nat) (zs : List Nat) (wx : World) : Prop :=
 ∃ (s : Option Addr) (k c : Nat) (rs : List Nat),wx.heap[b7]? = some (.cells #[.slice s k c] 34 (0,0)) ∧ rs.length = k ∧ k ≤ c ∧ Far g wx s rs ∧ Top rs ∧ Dig D rs ∧ val D rs = V ∧ Ints wx g zs ∧ wA.grownBy wx none
theorem lm_ {wA wr w5 w6 : World} {g b7 x R kR k6 g2 cap2 : Nat} {rs zs : List Nat} {u0 : Value} (hI : Ints wr g zs) (hA : wA.grownBy wr none) (h7 : wr.heap[b7]? = some (.cells #[u0] 34 (0,0))) (hb7 : b7 ≠ g) (hlo : wA.heap.size ≤ b7) (hrl : rs.length = kR) (drs : Dig D rs) (hx : x < D) (hrv : val D rs = R)
    (hown : w5.ownsRow (g + 1) 3 1 (.slice (some ⟨g2,0,none⟩) (1 + kR) cap2) (1 + kR) (([x] ++ rs).map iv)) (h5 : wr.grownBy w5 none) (h6 : w5.grownBy w6 none) (hk6 : k6 ≤ 1 + kR) (ht : Top (([x] ++ rs).take k6)) (hv : val D (([x] ++ rs).take k6) = val D ([x] ++ rs)) :
    mc_ wA g b7 (x + D * R) zs (w6.setCell ⟨b7,0,none⟩ (.slice (some ⟨g2,0,none⟩) k6 cap2)):=by
 have h56:=d_ h5 h6
 have h76:=a_ h56 h7
 obtain ⟨hrd,hcap,hlen⟩:=be_ hown
 have hg2 : g2 ≠ g:=by have:=(ed_ hown).1; omega
 refine ⟨_,k6,cap2,([x] ++ rs).take k6,aY_ h76 _,by rw [List.length_take]; omega,by omega,(((lD_ hrd hg2).take k6).kept h6).set_other h76 (by decide) 0 _,ht,(Dig.append (Dig.cons hx (Dig.nil D)) drs).take k6,?_,(hI.kept h56).unset hb7 _,s_ (d_ hA h56) (q_ (h_ _ _) _ _) hlo⟩
 rw [hv,← hrv]; rfl
def lP_ (wA : World) (g b7 V : Nat) (zs : List Nat) (wx : World) : Prop:=Boxed wx b7 V ∧ Ints wx g zs ∧ wA.grownBy wx none
theorem kk_ {wA wr w6 : World} {g b7 V : Nat} {zs : List Nat} {u0 : Value} {s : Option Addr} {k c : Nat} (hI : Ints wr g zs) (hA : wA.grownBy wr none) (h7 : wr.heap[b7]? = some (.cells #[u0] 34 (0,0))) (hb7 : b7 ≠ g) (hlo : wA.heap.size ≤ b7) (h6 : wr.grownBy w6 none) (hn : RefV w6 (.agg #[.slice s k c]) V) :
    lP_ wA g b7 V zs (w6.setCell ⟨b7,0,none⟩ (.slice s k c)):=by
 have h76:=a_ h6 h7
 exact ⟨⟨s,k,c,aY_ h76 _,hn.set_other h76 (by decide) 0 _⟩,(hI.kept h6).unset hb7 _,s_ (d_ hA h6) (q_ (h_ _ _) _ _) hlo⟩
theorem ko_ {lo hi mid : Nat} (h : 1 < hi - lo) (hm : (lo + hi) / 2 = mid) : lo < mid ∧ mid < hi:=by omega
set_option maxHeartbeats 16000000 in
theorem cl_ (w : World) (va vb : Value) (a b : Nat) (ha : RefV w va a) (hb : RefV w vb b) (ba : a < D ^ 400000) (bb : b < D ^ 400000) (h0 : 0 < b) :
    Calls Tryz.prog 60 #[va,vb] w (fun e w'=>∃ v u,e = .returned (.tuple #[v,u]) ∧ RefV w' v (a / b) ∧ RefV w' u (a % b) ∧ w.grownBy w' none):=by
 obtain ⟨E,hE⟩ : ∃ E,E = 400000:=⟨_,rfl⟩
 rw [← hE] at ba bb
 obtain ⟨sa,n,cx,xs,rfl,hn,hnc,hx,tx,dx,rfl⟩:=ha
 obtain ⟨sb,m,cy,ys,rfl,hm,hmc,hy,ty,dy,hvy⟩:=hb
 have Hn:=H_ hn
 have hn6 : n ≤ 400000:=by rw [← hE]; exact ip_ tx hn ba
 obtain ⟨i0,hi,hz0,hz1,hz2⟩:=aI_
 have hgw0 : w.grownBy ((((w.alloc (.cells #[.slice sa n cx] 34)).alloc (.cells #[.slice sb m cy] 34)).alloc (.cells #[.slice none 0 0] 34)).alloc (.cells #[.slice none 0 0] 34)) none:=l_ (l_ (l_ (wg_ _ _ _) _) _) _
 have hb4:=f_ (((w.alloc (.cells #[.slice sa n cx] 34)).alloc (.cells #[.slice sb m cy] 34)).alloc (.cells #[.slice none 0 0] 34)) (.cells #[.slice none 0 0] 34) (w.heap.size + 1 + 1 + 1) (by simp)
 have hb3:=a_ (wg_ _ (.cells #[.slice none 0 0] 34) none) (f_ ((w.alloc (.cells #[.slice sa n cx] 34)).alloc (.cells #[.slice sb m cy] 34)) (.cells #[.slice none 0 0] 34) (w.heap.size + 1 + 1) (by simp))
 have hb2:=a_ (l_ (wg_ _ (.cells #[.slice none 0 0] 34) none) (.cells #[.slice none 0 0] 34)) (f_ (w.alloc (.cells #[.slice sa n cx] 34)) (.cells #[.slice sb m cy] 34) (w.heap.size + 1) (by simp))
 have hb1:=a_ (l_ (l_ (wg_ _ (.cells #[.slice sb m cy] 34) none) (.cells #[.slice none 0 0] 34)) (.cells #[.slice none 0 0] 34)) (f_ w (.cells #[.slice sa n cx] 34) w.heap.size rfl)
 have hs0 : ((((w.alloc (.cells #[.slice sa n cx] 34)).alloc (.cells #[.slice sb m cy] 34)).alloc (.cells #[.slice none 0 0] 34)).alloc (.cells #[.slice none 0 0] 34)).heap.size = w.heap.size + 1 + 1 + 1 + 1:=by simp
 have hxA:=hx.kept hgw0
 have nbA : RefV ((((w.alloc (.cells #[.slice sa n cx] 34)).alloc (.cells #[.slice sb m cy] 34)).alloc (.cells #[.slice none 0 0] 34)).alloc (.cells #[.slice none 0 0] 34)) (.agg #[.slice sb m cy]) b:=⟨sb,m,cy,ys,rfl,hm,hmc,hy.kept hgw0,ty,dy,hvy⟩
 obtain ⟨A,hA⟩ : ∃ A,val D xs = A:=⟨_,rfl⟩
 rw [hA] at ba ⊢
 have HA:=H_ hA
 have HBB:=H_ bb
 have HE:=H_ hE
 have H0:=H_ h0
 clear hn hm hx hy ty dy hvy hmc ba bb hA hE h0
 go_enter Tryz.func60,Tryz.ntmps60
 go_wp2_with (at_make; refine wpList_make_full _ rfl _ _ 32 rfl _ 3 i0 (.int .i64 0) 1 Tryz.underlying32 hi hz0 hz1 .i64 .i64 _ _ n rfl rfl (by omega) (by omega) (by rw [hz2]; omega) (by unfold maxLen; omega) (Nat.le_refl _) ?_; intro w1 hown hg1; have hI1:=fQ_ hown; have hgx1:=l_ hg1 (.cells #[.slice none 0 0] 34); have h71:=f_ w1 (.cells #[.slice none 0 0] 34) w1.heap.size rfl; (obtain ⟨cb1,fb1⟩:=j_ (a_ hgx1 hb1)); have hI2:=hI1.kept (wg_ w1 (.cells #[.slice none 0 0] 34) none); have hI3:=hI1; have hI3:=hI1; have hI3:=hI1; have hI3:=hI1; have hI3:=hI1; clear hown hI1)
 have h7g : w.heap.size + 1 + 1 + 1 + 1 < w1.heap.size:=by rw [← hs0]; exact RBlk.lt hI3
 generalize ((((w.alloc (.cells #[.slice sa n cx] 34)).alloc (.cells #[.slice sb m cy] 34)).alloc (.cells #[.slice none 0 0] 34)).alloc (.cells #[.slice none 0 0] 34)) = wA at *
 obtain ⟨g,hgE⟩ : ∃ g,w.heap.size + 1 + 1 + 1 + 1 = g:=⟨_,rfl⟩
 rw [hgE] at hs0 h7g
 rw [hgE]
 rw [hs0] at hI2
 clear hI3 cb1 fb1 hg1
 generalize hw2 : (w1.alloc (.cells #[.slice none 0 0] 34)) = w2 at *
 clear hw2
 generalize w1.heap.size = b7 at *
 have hAsz : wA.heap.size ≤ b7:=by omega
 go_loopw [8] (fun i wr=>∃ (j : Nat) (hs : List Nat) (R : Nat),j ≤ n ∧ i = .int .i64 ((j : Int) - 1) ∧ Hid (hs.length = n - j) ∧ Dig D hs ∧ Ints wr g (List.replicate j 0 ++ hs) ∧ Boxed wr b7 R ∧ Hid (R < b) ∧ Hid (val D hs * b + R = val D (xs.drop j)) ∧ wA.grownBy wr none) (fun i _=>(intOf i + 1).toNat)
 case atStart=>exact ⟨n,[],0,Nat.le_refl _,rfl,by show _ = _; simp,Dig.nil _,by rw [List.append_nil]; exact hI2,⟨none,0,0,h71,RefV.zero _⟩,H0.out,by show _ = _; rw [List.drop_of_length_le (by rw [Hn.out]; exact Nat.le_refl _)]; simp [val],hgx1⟩
 case round =>
  clear hI2 h71 hgx1
  obtain ⟨j,hs,R,hj,rfl,hhl,hhd,hI,hB,hRb,hv,hG⟩:=hrel
  obtain ⟨sR,kR,cR,h7,nR⟩:=hB
  obtain ⟨c7,f7⟩:=j_ h7
  obtain ⟨ca,fa⟩:=j_ (a_ hG hb1)
  obtain ⟨cb,fb⟩:=j_ (a_ hG hb2)
  by_cases hz : j = 0
  · subst hz
    rw [List.replicate_zero,List.nil_append] at hI
    have hq : Hid (val D hs = A / b ∧ R = A % b):=by
     have h1:=hv.out
     rw [List.drop_zero,HA.out] at h1
     have h2:=hRb.out
     have e : A = R + b * val D hs:=by rw [Nat.mul_comm]; omega
     refine ⟨?_,?_⟩
     · rw [e,Nat.add_mul_div_left _ _ H0.out,Nat.div_eq_of_lt h2]; omega
     · rw [e,Nat.add_mul_mod_self_left,Nat.mod_eq_of_lt h2]
    have hl0 : Hid (hs.length = n):=by show _ = _; rw [hhl.out]; omega
    have hgwr:=d_ hgw0 hG
    have hr3:=a_ hG hb3
    have hr4:=a_ hG hb4
    have hrd:=hI.rd
    clear hv hhl hRb hI
    go_wp2_with fail
    go_region_held3 (fun w'=>w'.cell? ⟨b7,0,none⟩ = some (.slice sR kR cR))
     (first | assumption | exact c7 | exact HS6 | exact HS7 | go_keep)
     (first
       | (go_at_call 97; (with_reducible refine (dI_ wr.drew (some ⟨g,0,none⟩) n n hs hl0.out (hrd.kept (k_ (h_ _ _))) (Nat.le_refl _) (by omega) hhd).mono ?_); rintro e w6 ⟨v6,rfl,⟨s6,k6,c6,zs6,rfl,n6⟩,g6⟩; have hG6:=o_ wr g6 rfl rfl rfl rfl; have hS6:=hG6.cell c7 (by simp); have hr36:=a_ hG6 hr3; have hr46:=a_ hG6 hr4; (obtain ⟨c3,f3⟩:=j_ hr36); (obtain ⟨c4,f4⟩:=j_ hr46); have HS6 : (w6.setCell ⟨w.heap.size + 1 + 1,0,none⟩ (.slice s6 k6 c6)).cell? ⟨b7,0,none⟩ = some (.slice sR kR cR):=(j_ (y_ (a_ hG6 h7) (by omega) _)).1; have HS7 : ((w6.setCell ⟨w.heap.size + 1 + 1,0,none⟩ (.slice s6 k6 c6)).setCell ⟨w.heap.size + 1 + 1 + 1,0,none⟩ (.slice sR kR cR)).cell? ⟨b7,0,none⟩ = some (.slice sR kR cR):=(j_ (y_ (y_ (a_ hG6 h7) (by omega) _) (by omega) _)).1))
    have q1:=aY_ hr36 (.slice s6 k6 c6)
    have q2:=y_ (g:=w.heap.size + 1 + 1) hr46 (by omega) (.slice s6 k6 c6)
    have nA : RefV w6 (.agg #[.slice s6 k6 c6]) (A / b):=by rw [← hq.out.1]; exact ⟨s6,k6,c6,zs6,rfl,n6⟩
    have nB : RefV w6 (.agg #[.slice sR kR cR]) (A % b):=by rw [← hq.out.2]; exact nR.kept hG6
    obtain ⟨W9,hW9⟩ : ∃ W,W = (w6.setCell ⟨w.heap.size + 1 + 1,0,none⟩ (.slice s6 k6 c6)).setCell ⟨w.heap.size + 1 + 1 + 1,0,none⟩ (.slice sR kR cR):=⟨_,rfl⟩
    have q1':=y_ (g:=w.heap.size + 1 + 1 + 1) q1 (by omega) (.slice sR kR cR)
    have q2':=aY_ q2 (.slice sR kR cR)
    have nA':=(nA.set_other hr36 (by decide) 0 (.slice s6 k6 c6)).set_other q2 (by decide) 0 (.slice sR kR cR)
    have nB':=(nB.set_other hr36 (by decide) 0 (.slice s6 k6 c6)).set_other q2 (by decide) 0 (.slice sR kR cR)
    have hgW:=s_ (s_ (d_ hgwr hG6) (q_ (h_ w6 (some (w.heap.size + 1 + 1))) 0 (.slice s6 k6 c6)) (by omega)) (q_ (h_ _ (some (w.heap.size + 1 + 1 + 1))) 0 (.slice sR kR cR)) (by omega)
    rw [← hW9] at q1' q2' nA' nB' hgW
    have HF : Hid (∃ v u,Ending.returned (.tuple #[.agg #[.slice s6 k6 c6],.agg #[.slice sR kR cR]]) = Ending.returned (.tuple #[v,u]) ∧ RefV W9 v (A / b) ∧ RefV W9 u (A % b) ∧ w.grownBy W9 none):=⟨_,_,rfl,nA',nB',hgW⟩
    obtain ⟨cq1,gq1⟩:=j_ q1'
    obtain ⟨cq2,gq2⟩:=j_ q2'
    rw [← hW9]
    clear hW9 q1 q2 nA nB nA' nB' hgW n6 hr36 hr46 c3 f3 c4 f4
    go_wp2_with fail
    exact bodyPost_ret (v:=.tuple #[.agg #[.slice s6 k6 c6],.agg #[.slice sR kR cR]]) (by simp [results,Tryz.results60,go_sem,cq1,cq2]) rfl HF.out
  · obtain ⟨k,rfl⟩ : ∃ k,j = k + 1:=⟨j - 1,by omega⟩
    clear hz
    obtain ⟨x,ex⟩ : ∃ x,xs.getD k 0 = x:=⟨_,rfl⟩
    have hx4 : x < 10000:=ex ▸ bz_ dx k
    obtain ⟨b1,o1,rfl,c1⟩:=ev_ (hxA.kept hG) Hn.out k (by omega)
    rw [ex] at c1
    have EX:=H_ ex
    have ek : ((k + 1 : Nat) : Int) - 1 = (k : Int):=by omega
    rw [ek]
    obtain ⟨V,hV⟩ : ∃ V,x + D * R = V:=⟨_,rfl⟩
    have hkn : k < n:=by omega
    have hkI : (k : Int) < (n : Int):=by omega
    clear ex ek
    go_wp2_with fail
    go_cut [] from 21 to 59 (fun wx=>mc_ wA g b7 V (List.replicate (k + 1) 0 ++ hs) wx)
    case first =>
     obtain ⟨sR',kR',cR',rs,eR,hrl,hrc,hrr,trs,drs,hrv⟩:=nR
     cases eR
     have hrl6 : kR ≤ 500000:=by
      obtain ⟨F,hF⟩ : ∃ F,F = 500000:=⟨_,rfl⟩
      rw [← hF]
      refine ip_ trs hrl ?_
      rw [hrv]
      have h1:=HBB.out
      have h2:=hRb.out
      have h3 : D ^ E ≤ D ^ F:=Nat.pow_le_pow_right bi_ (by have:=HE.out; omega)
      exact Nat.lt_of_lt_of_le (Nat.lt_trans h2 h1) h3
     have hgr : g < wr.heap.size:=RBlk.lt hI
     have HO : Hid ((wr.drew.alloc (.cells #[.int .i64 (x : Int)] 3)).ownsRow (g + 1) 3 1 (.slice (some ⟨wr.heap.size,0,none⟩) 1 1) 1 ([x].map iv)):=lb_ rfl (by omega)
     have HR : Hid (RRdo (wr.drew.alloc (.cells #[.int .i64 (x : Int)] 3)) sR rs):=hrr.kept (l_ (k_ (h_ _ _)) _)
     have HB : Hid (g + 1 ≤ (wr.drew.alloc (.cells #[.int .i64 (x : Int)] 3)).heap.size):=by show _ ≤ _; simp; omega
     have HL:=H_ hrl
     have HM : Hid (∀ (w5 w6 : World) (g2 cap2 k6 : Nat),w5.ownsRow (g + 1) 3 1 (.slice (some ⟨g2,0,none⟩) (1 + kR) cap2) (1 + kR) (([x] ++ rs).map iv) → wr.grownBy w5 none → w5.grownBy w6 none → k6 ≤ 1 + kR → Top (([x] ++ rs).take k6) → val D (([x] ++ rs).take k6) = val D ([x] ++ rs) → mc_ wA g b7 V (List.replicate (k + 1) 0 ++ hs) (w6.setCell ⟨b7,0,none⟩ (.slice (some ⟨g2,0,none⟩) k6 cap2))) :=
      fun w5 w6 g2 cap2 k6 q1 q2 q3 q4 q5 q6=>by rw [← hV]; exact lm_ hI hG h7 (by omega) hAsz hrl drs (show x < D from hx4) hrv q1 q2 q3 q4 q5 q6
     have H7:=H_ h7
     obtain ⟨c7x,f7x⟩:=j_ (a_ (wg_ wr (.cells #[.int .i64 (x : Int)] 3) none) h7)
     clear hrl hrr hI hG hV hhl hRb hv trs drs hrv hhd h7
     go_region_law (first
      | (refine dD_ rfl (.tmp 30) (.tmp 32) rfl (g + 1) wr.heap.size 1 1 [x] rfl HO.out (by omega) sR kR cR rs rfl HL.out HR.out (by omega) HB.out ?_; intro g2 cap2 w5 hown5 hgrow5; have hG5 : wr.grownBy w5 none:=s_ (l_ (k_ (h_ wr none)) _) hgrow5 (Nat.le_refl _))
      | (go_simp; go_at_call 97; (with_reducible refine (kY_ w5 (some ⟨g2,0,none⟩) (1 + kR) cap2 ([x] ++ rs) (be_ hown5).2.2 (be_ hown5).1 (be_ hown5).2.1 (by omega)).mono ?_); rintro e w6 ⟨k6,rfl,hk6,t6,v6,g6⟩; (obtain ⟨c76,f76⟩:=j_ (a_ (d_ hG5 g6) H7.out))))
     all_goals (
      go_wp2_with fail
      go_meet
      exact HM.out w5 w6 g2 cap2 k6 hown5 hG5 g6 hk6 t6 v6)
    case rest =>
     obtain ⟨s6,k6,c6,rs,h76,hrl,hrc,hfar,trs,drs,hrv,hI6,hG6⟩:=hcut
     have nb6:=nbA.kept hG6
     have n6 : RefV wc (.agg #[.slice s6 k6 c6]) V:=⟨s6,k6,c6,rs,rfl,hrl,hrc,hfar.rd,trs,drs,hrv⟩
     have hVb : Hid (V < D * b):=by
      show _ < _
      have h1:=hRb.out
      have h2 : D * (R + 1) ≤ D * b:=Nat.mul_le_mul_left _ h1
      rw [← hV]; rw [Nat.mul_add] at h2; unfold D at *; omega
     have hbD : Hid (b < D ^ 1000000):=by
      show _ < _
      obtain ⟨F,hF⟩ : ∃ F,F = 1000000:=⟨_,rfl⟩
      rw [← hF]
      exact Nat.lt_of_lt_of_le HBB.out (Nat.pow_le_pow_right bi_ (by have:=HE.out; omega))
     have hbD2 : Hid (∀ q,q ≤ D → b * q < D ^ 1000000):=by
      intro q hq
      obtain ⟨F,hF⟩ : ∃ F,F = 1000000:=⟨_,rfl⟩
      rw [← hF]
      have h1 : b * q ≤ b * D:=Nat.mul_le_mul_left _ hq
      have h2 : D ^ (E + 1) ≤ D ^ F:=Nat.pow_le_pow_right bi_ (by have:=HE.out; omega)
      rw [Nat.pow_succ] at h2
      have h3 : b * D < D ^ E * D:=Nat.mul_lt_mul_of_pos_right HBB.out bi_
      omega
     have hVD : Hid (V < D ^ 1000000):=by
      show _ < _
      have:=hbD2.out D (Nat.le_refl _)
      rw [Nat.mul_comm] at this
      exact Nat.lt_trans hVb.out this
     clear c7 f7 ca fa cb fb c1 nR h7 hI
     go_wp2_with fail
     go_loopw [9,10] (fun l h wi=>∃ (lo hi : Nat),l = .int .i64 lo ∧ h = .int .i64 hi ∧ lo < hi ∧ hi ≤ 10000 ∧ Hid (b * lo ≤ V) ∧ Hid (V < b * hi) ∧ wc.grownBy wi none) (fun l h _=>((intOf h) - (intOf l)).toNat)
     case atStart=>exact ⟨0,10000,rfl,rfl,by omega,by omega,by show _ ≤ _; omega,by show _ < _; rw [Nat.mul_comm]; exact hVb.out,h_ _ _⟩
     case round =>
      obtain ⟨lo,hi,rfl,rfl,hlt,hh,hlo,hhi,hgi⟩:=hrel
      have h77:=a_ hgi h76
      have hG7:=d_ hG6 hgi
      obtain ⟨c7,f7⟩:=j_ h77
      obtain ⟨cb,fb⟩:=j_ (a_ hG7 hb2)
      have nb7:=nb6.kept hgi
      have n7:=n6.kept hgi
      by_cases h1 : 1 < hi - lo
      · obtain ⟨mid,hm⟩ : ∃ mid,(lo + hi) / 2 = mid:=⟨_,rfl⟩
        have em : ((lo : Int) + (hi : Int)) / 2 = (mid : Int):=by omega
        have f1 : decide ((1 : Int) < (hi : Int) - (lo : Int)) = true:=decide_eq_true (by omega)
        obtain ⟨hml,hmh⟩:=ko_ h1 hm
        obtain ⟨c,hc⟩ : ∃ c,W_ (b * mid) V = c:=⟨_,rfl⟩
        have HC:=H_ hc
        have key : (decide (c ≤ 0) = true ∧ b * mid ≤ V) ∨ (decide (c ≤ 0) = false ∧ V < b * mid):=by
         rcases Nat.lt_trichotomy (b * mid) V with q | q | q
         · left; rw [← hc,bb_ q]; exact ⟨by decide,by omega⟩
         · left; rw [← hc,bI_ q]; exact ⟨by decide,by omega⟩
         · right; rw [← hc,bc_ q]; exact ⟨by decide,q⟩
        have hmD : Hid (b * mid < D ^ 1000000):=hbD2.out mid (by unfold D; omega)
        clear hc hm
        rcases key with ⟨fc,hkey⟩ | ⟨fc,hkey⟩
        · have HK:=H_ hkey
          clear hkey
          go_wp2_with fail
          go_region_held3 (fun w'=>w'.cell? ⟨w.heap.size + 1,0,none⟩ = some (.slice sb m cy) ∧ w'.cell? ⟨b7,0,none⟩ = some (.slice s6 k6 c6))
           (first | assumption | exact ⟨cb,c7⟩ | go_keep)
           (first
             | (go_at_call 99; (with_reducible refine (dk_ wr.drew _ b mid (nb7.kept (k_ (h_ _ _))) hbD.out (by omega)).mono ?_); rintro e w8 ⟨v8,rfl,n8,g8⟩; have hG8:=o_ wr g8 rfl rfl rfl rfl; have hS8:=n_ (hG8.cell cb (by simp)) (hG8.cell c7 (by simp)))
             | (go_at_call 98; (with_reducible refine (cS_ w8 _ _ (b * mid) V n8 (n7.kept hG8) hmD.out hVD.out).mono ?_); rintro e w9 ⟨rfl,g9⟩; rw [HC.out]; have hG9:=d_ hG8 g9; have hS9:=n_ (hG9.cell cb (by simp)) (hG9.cell c7 (by simp))))
          go_wp2_with fail
          go_roundw
          case rel=>exact ⟨mid,hi,rfl,rfl,hmh,hh,HK,hhi,d_ hgi hG9⟩
          case measure=>simp [intOf]; omega
        · have HK:=H_ hkey
          clear hkey
          go_wp2_with fail
          go_region_held3 (fun w'=>w'.cell? ⟨w.heap.size + 1,0,none⟩ = some (.slice sb m cy) ∧ w'.cell? ⟨b7,0,none⟩ = some (.slice s6 k6 c6))
           (first | assumption | exact ⟨cb,c7⟩ | go_keep)
           (first
             | (go_at_call 99; (with_reducible refine (dk_ wr.drew _ b mid (nb7.kept (k_ (h_ _ _))) hbD.out (by omega)).mono ?_); rintro e w8 ⟨v8,rfl,n8,g8⟩; have hG8:=o_ wr g8 rfl rfl rfl rfl; have hS8:=n_ (hG8.cell cb (by simp)) (hG8.cell c7 (by simp)))
             | (go_at_call 98; (with_reducible refine (cS_ w8 _ _ (b * mid) V n8 (n7.kept hG8) hmD.out hVD.out).mono ?_); rintro e w9 ⟨rfl,g9⟩; rw [HC.out]; have hG9:=d_ hG8 g9; have hS9:=n_ (hG9.cell cb (by simp)) (hG9.cell c7 (by simp))))
          go_wp2_with fail
          go_roundw
          case rel=>exact ⟨lo,mid,rfl,rfl,hml,by omega,hlo,HK,d_ hgi hG9⟩
          case measure=>simp [intOf]; omega
      · have hhe : hi = lo + 1:=by omega
        have f1 : decide ((1 : Int) < (hi : Int) - (lo : Int)) = false:=decide_eq_false (by omega)
        have hhi2 : Hid (V < b * (lo + 1)):=by show _ < _; rw [← hhe]; exact hhi.out
        have hlo9 : lo ≤ 10000:=by omega
        have hloD : lo < 10000:=by omega
        clear hhe h1
        have hIr:=hI6.kept hgi
        have c8:=hIr.cell (n:=n) (by rw [List.length_append,List.length_replicate,hhl.out]; omega) k (by omega)
        have f8:=hIr.frozen k
        have hI8:=hIr.set k lo
        rw [kS_] at hI8
        have hgA : wA.heap.size ≤ g:=by omega
        have hG8:=s_ hG7 (q_ (h_ wr (some g)) k (.int .i64 (lo : Int))) hgA
        have h78 : (wr.setCell ⟨g,k,none⟩ (.int .i64 (lo : Int))).heap[b7]? = some (.cells #[.slice s6 k6 c6] 34 (0,0)):=(Below.heap_setCell _ _ _ _ (by simp; omega)).trans h77
        have n8 : RefV (wr.setCell ⟨g,k,none⟩ (.int .i64 (lo : Int))) (.agg #[.slice s6 k6 c6]) V:=⟨s6,k6,c6,rs,rfl,hrl,hrc,((hfar.kept hgi).setCell k _).rd,trs,drs,hrv⟩
        have hvn : Hid (val D (lo :: hs) * b + (V - b * lo) = val D (xs.drop k)):=by
         show _ = _
         rw [jB_ xs k (by rw [Hn.out]; omega),EX.out,← hV]
         exact kf_ hv.out (by rw [Nat.mul_comm,hV]; exact hlo.out)
        have hRn : Hid (V - b * lo < b):=by
         show _ < _
         have:=hhi2.out
         rw [Nat.mul_add] at this
         have:=hlo.out
         omega
        have hln : Hid ((lo :: hs).length = n - k):=by show _ = _; rw [List.length_cons,hhl.out]; omega
        have hhd2 : Dig D (lo :: hs):=Dig.cons (show lo < D by unfold D; omega) hhd
        clear hIr nb7 n7 c7 f7 cb fb hV hv hRb hhl hfar hrl hrc trs drs hrv n6 nb6 hI6 h76 h77
        go_wp2_with fail
        generalize (wr.setCell ⟨g,k,none⟩ (.int .i64 (lo : Int))) = W8 at *
        obtain ⟨c78,f78⟩:=j_ h78
        obtain ⟨cb8,fb8⟩:=j_ (a_ hG8 hb2)
        have nb8:=nbA.kept hG8
        have HM2 : Hid (∀ (w6 : World) (s : Option Addr) (k' c' : Nat),W8.grownBy w6 none → RefV w6 (.agg #[.slice s k' c']) (V - b * lo) → lP_ wA g b7 (V - b * lo) (List.replicate k 0 ++ lo :: hs) (w6.setCell ⟨b7,0,none⟩ (.slice s k' c'))):=fun w6 s k' c' q1 q2=>kk_ hI8 hG8 h78 (by omega) hAsz q1 q2
        have H78:=H_ h78
        clear hI8 hG8 h78
        go_region_with (first
         | (go_at_call 99; (with_reducible refine (dk_ W8.drew _ b lo (nb8.kept (k_ (h_ _ _))) hbD.out hlo9).mono ?_); rintro e w9 ⟨v9,rfl,n9,g9⟩; have hG9:=o_ W8 g9 rfl rfl rfl rfl; (obtain ⟨c79,f79⟩:=j_ (a_ hG9 H78.out)))
         | (go_at_call 100; (with_reducible refine (cR_ w9 _ _ V (b * lo) (n8.kept hG9) n9 hlo.out hVD.out).mono ?_); rintro e w10 ⟨v10,rfl,⟨s10,k10,c10,z10,rfl,n10⟩,g10⟩; have hG10:=d_ hG9 g10; (obtain ⟨c710,f710⟩:=j_ (a_ hG10 H78.out))))
        all_goals (
         obtain ⟨hB9,hI9,hG9'⟩:=HM2.out w10 s10 k10 c10 hG10 ⟨s10,k10,c10,z10,rfl,n10⟩
         clear c78 f78 cb8 fb8 nb8 n8 c8 f8 n9 n10 g9 g10 hG9 hG10 c79 f79 c710 f710
         go_wp2_with fail
         go_roundw
         case rel=>exact ⟨k,lo :: hs,V - b * lo,by omega,by go_num,hln,hhd2,hI9,hB9,hRn,hvn,hG9'⟩
         case measure=>simp [intOf])
end Go.Proofs.YtgbbdgioohaknaaGreatDoor
