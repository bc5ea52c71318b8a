/- What the laws lean on, part 19. -/
import Derived.Test.YtgbbdgioohaknaaGreatDoorRows
import Derived.WalkKit
import Derived.ProofKit
import Derived.OpenShut
import Derived.Deep.DeepHandedRow
import Derived.Deep.RegionHeld3
import Derived.Deep.CutRange
import Derived.Test.YtgbbdgioohaknaaGreatDoorPb16
import Derived.Test.YtgbbdgioohaknaaGreatDoorPb18
namespace Go.Proofs.YtgbbdgioohaknaaGreatDoor
open Go.RowKit Mat
set_option maxRecDepth 100000
set_option linter.unusedVariables false
set_option linter.unusedSimpArgs false
set_option maxHeartbeats 4000000 in
theorem kp_ (w : World) (va vb : Value) (x y : Int) (K : Nat) (ha : IntV w va x) (hb : IntV w vb y) (hK : K ≤ 900000) (la : x.natAbs < B ^ K) (lb : y.natAbs < B ^ K) :
    Calls Tryz.prog 82 #[va,vb] w (x_ w (x - y)):=by
 obtain ⟨sa,xs,za,rfl,hx,hv,hza⟩:=ha
 obtain ⟨sb,ys,zb,rfl,hy,hvy,hzb⟩:=hb
 have hgw0 : w.grownBy (((w.alloc (.cells #[.slice sa xs.length xs.length,.bool za] 26)).alloc (.cells #[.slice sb ys.length ys.length,.bool zb] 26)).alloc (.cells #[.slice none 0 0,.bool false] 26)) none:=l_ (l_ (wg_ _ _ _) _) _
 have hr:=f_ ((w.alloc (.cells #[.slice sa xs.length xs.length,.bool za] 26)).alloc (.cells #[.slice sb ys.length ys.length,.bool zb] 26)) (.cells #[.slice none 0 0,.bool false] 26) (w.heap.size + 1 + 1) (by simp)
 have hbb:=a_ (wg_ _ (.cells #[.slice none 0 0,.bool false] 26) none) (f_ (w.alloc (.cells #[.slice sa xs.length xs.length,.bool za] 26)) (.cells #[.slice sb ys.length ys.length,.bool zb] 26) (w.heap.size + 1) (by simp))
 have hba:=a_ (l_ (wg_ _ (.cells #[.slice sb ys.length ys.length,.bool zb] 26) none) (.cells #[.slice none 0 0,.bool false] 26)) (f_ w (.cells #[.slice sa xs.length xs.length,.bool za] 26) w.heap.size rfl)
 have na : IntV (((w.alloc (.cells #[.slice sa xs.length xs.length,.bool za] 26)).alloc (.cells #[.slice sb ys.length ys.length,.bool zb] 26)).alloc (.cells #[.slice none 0 0,.bool false] 26)) (.agg #[.slice sa xs.length xs.length,.bool za]) x:=⟨sa,xs,za,rfl,hx.kept hgw0,hv,hza⟩
 have nn : NatV (((w.alloc (.cells #[.slice sa xs.length xs.length,.bool za] 26)).alloc (.cells #[.slice sb ys.length ys.length,.bool zb] 26)).alloc (.cells #[.slice none 0 0,.bool false] 26)) (.agg #[.slice sb ys.length ys.length]) y.natAbs:=⟨sb,ys,rfl,hy.kept hgw0,hvy⟩
 have Hla:=H_ la
 have Hlb:=H_ lb
 have HE : Hid (x + (if (!zb) = true then -(y.natAbs : Int) else y.natAbs) = x - y):=by show _ = _; rw [gL_ hzb]; omega
 clear hx hv hy hvy la lb hza hzb
 go_enter Tryz.func82,Tryz.ntmps82
 obtain ⟨ca0,ca1,fa0,fa1⟩:=c_ hba
 obtain ⟨cb0,cb1,fb0,fb1⟩:=c_ hbb
 go_wp2_with fail
 refine (du_ _ _ _ x y.natAbs K (!zb) na nn hK Hla.out Hlb.out).mono ?_
 rintro e w2 ⟨v2,rfl,⟨s2,x2,fl2,rfl,h2,vv2,hb2⟩,g2⟩
 rw [HE.out] at vv2 hb2
 have hgw:=d_ hgw0 g2
 have hrr:=a_ g2 hr
 clear na nn g2
 have hb9:=hrr
 obtain ⟨c90,c91,f90,f91⟩:=c_ hb9
 obtain ⟨q90,q91,r90,r91⟩:=c_ (m_ hb9 (.slice s2 x2.length x2.length) (.bool fl2))
 have hF : Hid (x_ w (x - y) (.returned (.agg #[.slice s2 x2.length x2.length,.bool fl2])) ((w2.setCell ⟨w.heap.size + 1 + 1,0,none⟩ (.slice s2 x2.length x2.length)).setCell ⟨w.heap.size + 1 + 1,1,none⟩ (.bool fl2))):=ap_ hgw hb9 (by omega) h2 vv2 hb2
 clear h2 vv2 hb2
 go_wp2_with fail
 exact bodyPost_ret (v:=.agg #[.slice s2 x2.length x2.length,.bool fl2]) (by simp [results,Tryz.results82,go_sem,q90,q91]) rfl hF.out
end Go.Proofs.YtgbbdgioohaknaaGreatDoor
namespace Go.Proofs.YtgbbdgioohaknaaGreatDoor
open Go.ChangeShapes Go.WideShapes Go.ChangeAt Go.RowKit Go.ChangeMaps Mat
set_option maxRecDepth 100000
set_option linter.unusedVariables false
set_option linter.unusedSimpArgs false
theorem dP_ {x y : Int} {k m : Nat} (h1 : x.natAbs < B ^ k) (h2 : y.natAbs < B ^ m) : (x * y).natAbs < B ^ (k + m):=by
 rw [Int.natAbs_mul]; exact lK_ h1 h2
end Go.Proofs.YtgbbdgioohaknaaGreatDoor
namespace Go.Proofs.YtgbbdgioohaknaaGreatDoor
open Go.RowKit Mat
set_option maxRecDepth 100000
set_option linter.unusedVariables false
set_option linter.unusedSimpArgs false
theorem aj_ {a b : Rat} {k m : Nat} (h1 : a.num.natAbs < B ^ k) (h2 : a.den < B ^ k) (h3 : b.num.natAbs < B ^ m) (h4 : b.den < B ^ m) : (a + b).num.natAbs < B ^ (k + m + 1):=by
 rw [Rat.add_def',← Rat.divInt_ofNat]
 refine dV_ ?_
 have e1 : (a.num * (b.den : Int)).natAbs < B ^ (k + m):=dP_ h1 (by rw [Int.natAbs_natCast]; exact h4)
 have e2 : (b.num * (a.den : Int)).natAbs < B ^ (k + m):=by rw [Nat.add_comm k m]; exact dP_ h3 (by rw [Int.natAbs_natCast]; exact h2)
 exact gf_ e1 e2
theorem iu_ {a b k m : Nat} (h1 : a < B ^ k) (h2 : b < B ^ m) : a * b < B ^ (k + m):=by rw [Nat.pow_add]; exact Nat.mul_lt_mul'' h1 h2
theorem ad_ {a b : Rat} {k m : Nat} (h2 : a.den < B ^ k) (h4 : b.den < B ^ m) : (a + b).den < B ^ (k + m + 1):=by
 rw [Rat.add_def',← Rat.divInt_ofNat]
 refine cB_ (by rw [Int.natAbs_natCast]; exact bw (iu_ h2 h4) (by omega)) ?_
 have:=a.den_pos; have:=b.den_pos
 have:=Nat.mul_pos a.den_pos b.den_pos
 omega
theorem eb_ {a : Rat} {k : Nat} (h1 : a.num.natAbs < B ^ k) : (-a).num.natAbs < B ^ k:=by rw [Rat.neg_num,Int.natAbs_neg]; exact h1
theorem dm_ {a : Rat} {k : Nat} (h1 : a.den < B ^ k) : (-a).den < B ^ k:=by rw [Rat.neg_den]; exact h1
end Go.Proofs.YtgbbdgioohaknaaGreatDoor
namespace Go.Proofs.YtgbbdgioohaknaaGreatDoor
open Go.RowKit Mat
set_option linter.unusedVariables false
theorem eK_ (a b : Rat) (g g1 : Nat) (n : Int) (hg : g = Nat.gcd a.den b.den) (hn : n = a.num * ((b.den / g : Nat) : Int) + b.num * ((a.den / g : Nat) : Int)) (hg1 : g1 = Nat.gcd n.natAbs g) :
    (a + b).num = n / (g1 : Int) ∧ (a + b).den = (a.den / g) * (b.den / g1):=by
 have hd : g1 ∣ b.den:=by rw [hg1,hg]; exact Nat.dvd_trans (Nat.gcd_dvd_right _ _) (Nat.gcd_dvd_right _ _)
 have hgn : g1 ∣ n.natAbs:=by rw [hg1]; exact Nat.gcd_dvd_left _ _
 have hmul : (a.den / g) * (b.den / g1) = (a.den / g) * b.den / g1:=(Nat.mul_div_assoc _ hd).symm
 show (Rat.add a b).num = _ ∧ (Rat.add a b).den = _
 unfold Rat.add
 by_cases h : g = 1
 · have h1 : g1 = 1:=by rw [hg1,h,Nat.gcd_one_right]
   rw [dif_pos (by rw [← hg]; exact h)]
   dsimp only
   rw [hn,h1]
   have e1 : b.den / g = b.den:=by rw [h,Nat.div_one]
   have e2 : a.den / g = a.den:=by rw [h,Nat.div_one]
   rw [e1,e2,Nat.div_one]
   exact ⟨(Int.ediv_one _).symm,rfl⟩
 · rw [dif_neg (by rw [← hg]; exact h)]
   dsimp only
   rw [Rat.maybeNormalize_eq]
   dsimp only
   rw [Int.divExact_eq_ediv,hmul]
   subst hg
   subst hn
   subst hg1
   exact ⟨rfl,rfl⟩
end Go.Proofs.YtgbbdgioohaknaaGreatDoor
namespace Go.Proofs.YtgbbdgioohaknaaGreatDoor
open Go.RowKit Mat
set_option maxRecDepth 100000
set_option linter.unusedVariables false
set_option linter.unusedSimpArgs false
theorem fbw {a K L : Nat} (h : a < B ^ K) (hl : K ≤ L) : a < B ^ L:=Nat.lt_of_lt_of_le h (Nat.pow_le_pow_right T_ hl)
theorem lg_ {x y : Int} {K : Nat} (hx : x.natAbs < B ^ K) (hy : y.natAbs < B ^ K) : (x + y).natAbs < B ^ (K + 1):=by
 have h1:=Int.natAbs_add_le x y
 rw [Nat.pow_succ]
 have h2 : B ^ K * 2 ≤ B ^ K * B:=Nat.mul_le_mul_left _ (by unfold B; omega)
 omega
set_option maxHeartbeats 16000000 in
theorem dL_ (w : World) (va vb vc vd : Value) (r t : Rat) (K : Nat) (Ha : IntV w va r.num) (Hb : IntV w vb (r.den : Int)) (Hc : IntV w vc t.num) (Hd : IntV w vd (t.den : Int)) (hK : K ≤ 300000) (ln : r.num.natAbs < B ^ K) (ld : r.den < B ^ K) (mn : t.num.natAbs < B ^ K) (md : t.den < B ^ K) (hTab : Tab w) :
    Calls Tryz.prog 79 #[va,vb,vc,vd] w (aa_ w (r + t)):=by
 have ldi : (r.den : Int).natAbs < B ^ K:=by rw [Int.natAbs_natCast]; exact ld
 have mdi : (t.den : Int).natAbs < B ^ K:=by rw [Int.natAbs_natCast]; exact md
 obtain ⟨G1,e1⟩ : ∃ G,Nat.gcd r.den t.den = G:=⟨_,rfl⟩
 have g1p : 0 < G1:=by rw [← e1]; exact Nat.gcd_pos_of_pos_right _ t.den_pos
 have g1b : (G1 : Int).natAbs < B ^ K:=by rw [Int.natAbs_natCast,← e1]; exact do_ ld md
 have c1 : ∀ (W : World) (v u : Value),IntV W v (r.den : Int) → IntV W u (t.den : Int) → Tab W → Calls Tryz.prog 68 #[v,u] W (x_ W (G1 : Int)):=fun W v u h1 h2 h3=>by
  have h:=aW_ W v u (r.den : Int) (t.den : Int) K h1 h2 (by omega) ldi mdi h3
  rw [Int.natAbs_natCast,Int.natAbs_natCast,e1] at h; exact h
 obtain ⟨D1,q3⟩ : ∃ z,(r.den : Int) / (G1 : Int) = z:=⟨_,rfl⟩
 obtain ⟨F1,q4⟩ : ∃ z,(t.den : Int) / (G1 : Int) = z:=⟨_,rfl⟩
 have s1 : ∀ (W : World) (v u : Value),IntV W v (r.den : Int) → IntV W u (G1 : Int) → Calls Tryz.prog 70 #[v,u] W (x_ W D1):=fun W v u h1 h2=>q3 ▸ ae_ W v u (r.den : Int) (G1 : Int) K h1 h2 (by omega) ldi g1b (by omega)
 have s2 : ∀ (W : World) (v u : Value),IntV W v (t.den : Int) → IntV W u (G1 : Int) → Calls Tryz.prog 70 #[v,u] W (x_ W F1):=fun W v u h1 h2=>q4 ▸ ae_ W v u (t.den : Int) (G1 : Int) K h1 h2 (by omega) mdi g1b (by omega)
 have b1 : D1.natAbs < B ^ K:=by rw [← q3]; exact Nat.lt_of_le_of_lt (Int.natAbs_ediv_le_natAbs _ _) ldi
 have b2 : F1.natAbs < B ^ K:=by rw [← q4]; exact Nat.lt_of_le_of_lt (Int.natAbs_ediv_le_natAbs _ _) mdi
 have b3 : (r.num * F1).natAbs < B ^ (K + K):=cb_ ln b2
 have b4 : (t.num * D1).natAbs < B ^ (K + K):=cb_ mn b1
 have b5 : (r.num * F1 + t.num * D1).natAbs < B ^ (K + K + 1):=lg_ b3 b4
 obtain ⟨G2,e2⟩ : ∃ G,Nat.gcd (r.num * F1 + t.num * D1).natAbs G1 = G:=⟨_,rfl⟩
 have hparts:=eK_ r t G1 G2 (r.num * F1 + t.num * D1) e1.symm (by rw [← q3,← q4]; rfl) e2.symm
 have g2p : 0 < G2:=by rw [← e2]; exact Nat.gcd_pos_of_pos_right _ g1p
 have g2b : (G2 : Int).natAbs < B ^ K:=by rw [Int.natAbs_natCast,← e2]; rw [Int.natAbs_natCast] at g1b; exact Nat.lt_of_le_of_lt (Nat.gcd_le_right _ g1p) g1b
 obtain ⟨N,hN⟩ : ∃ z,r.num * F1 + t.num * D1 = z:=⟨_,rfl⟩
 rw [hN] at b5 e2 hparts
 have c2 : ∀ (W : World) (v u : Value),IntV W v N → IntV W u (G1 : Int) → Tab W → Calls Tryz.prog 68 #[v,u] W (x_ W (G2 : Int)):=fun W v u h1 h2 h3=>by
  have h:=aW_ W v u N (G1 : Int) (K + K + 1) h1 h2 (by omega) b5 (fbw g1b (by omega)) h3
  rw [Int.natAbs_natCast,e2] at h; exact h
 obtain ⟨N3,q5⟩ : ∃ z,N / (G2 : Int) = z:=⟨_,rfl⟩
 obtain ⟨F2,q6⟩ : ∃ z,(t.den : Int) / (G2 : Int) = z:=⟨_,rfl⟩
 have s3 : ∀ (W : World) (v u : Value),IntV W v N → IntV W u (G2 : Int) → Calls Tryz.prog 70 #[v,u] W (x_ W N3):=fun W v u h1 h2=>q5 ▸ ae_ W v u N (G2 : Int) (K + K + 1) h1 h2 (by omega) b5 (fbw g2b (by omega)) (by omega)
 have s4 : ∀ (W : World) (v u : Value),IntV W v (t.den : Int) → IntV W u (G2 : Int) → Calls Tryz.prog 70 #[v,u] W (x_ W F2):=fun W v u h1 h2=>q6 ▸ ae_ W v u (t.den : Int) (G2 : Int) K h1 h2 (by omega) mdi g2b (by omega)
 have b6 : F2.natAbs < B ^ K:=by rw [← q6]; exact Nat.lt_of_le_of_lt (Int.natAbs_ediv_le_natAbs _ _) mdi
 have rn : (r + t).num = N3:=by rw [hparts.1,q5]
 have rd : ((r + t).den : Int) = D1 * F2:=by rw [hparts.2,← q3,← q6,Int.natCast_mul]; rfl
 have rb : (r + t).den < B ^ (K + K):=by
  have h:=cb_ b1 b6
  rw [← rd,Int.natAbs_natCast] at h; exact h
 obtain ⟨R,hR⟩ : ∃ R,r + t = R:=⟨_,rfl⟩
 rw [hR] at rn rd rb ⊢
 have HRN : Hid (R.num = N3 ∧ (R.den : Int) = D1 * F2 ∧ R.den < B ^ (K + K)):=⟨rn,rd,rb⟩
 have HN:=H_ hN
 have HLN:=H_ ln
 have HMN:=H_ mn
 clear e1 e2 g1p g2p g1b g2b q3 q4 q5 q6 rn rd rb hR hN hparts ldi mdi ln ld mn md b5
 have HC1:=H_ c1
 have HC2:=H_ c2
 have HS1:=H_ s1
 have HS2:=H_ s2
 have HS3:=H_ s3
 have HS4:=H_ s4
 have HB1:=H_ b1
 have HB2:=H_ b2
 have HB3:=H_ b3
 have HB4:=H_ b4
 have HB6:=H_ b6
 clear c1 c2 s1 s2 s3 s4 b1 b2 b3 b4 b6
 have HTB : Hid (∀ W,w.grownBy W none → Tab W):=fun W hW=>hTab.kept hW (by simp)
 clear hTab
 obtain ⟨sa,xa,ba,rfl,ha,va,ta⟩:=Ha
 obtain ⟨sb,xb,bb,rfl,hb,vb,tb⟩:=Hb
 obtain ⟨sc,xc,bc,rfl,hc,vc,tc⟩:=Hc
 obtain ⟨sd,xd,bd,rfl,hd,vd,td⟩:=Hd
 obtain ⟨hG,Ba,Bb,Bc,Bd,Bq⟩:=en5_ w (.cells #[.slice sa xa.length xa.length,.bool ba] 26) (.cells #[.slice sb xb.length xb.length,.bool bb] 26) (.cells #[.slice sc xc.length xc.length,.bool bc] 26) (.cells #[.slice sd xd.length xd.length,.bool bd] 26) (.cells #[.slice none 0 0,.bool false,.slice none 0 0,.bool false] 28)
 have oa : IntV w (.agg #[.slice sa xa.length xa.length,.bool ba]) (r.num):=⟨sa,xa,ba,rfl,ha,va,ta⟩
 have ia:=oa.kept hG
 have ob : IntV w (.agg #[.slice sb xb.length xb.length,.bool bb]) ((r.den : Int)):=⟨sb,xb,bb,rfl,hb,vb,tb⟩
 have ib:=ob.kept hG
 have oc : IntV w (.agg #[.slice sc xc.length xc.length,.bool bc]) (t.num):=⟨sc,xc,bc,rfl,hc,vc,tc⟩
 have ic:=oc.kept hG
 have od : IntV w (.agg #[.slice sd xd.length xd.length,.bool bd]) ((t.den : Int)):=⟨sd,xd,bd,rfl,hd,vd,td⟩
 have id:=od.kept hG
 clear ha va ta
 clear hb vb tb
 clear hc vc tc
 clear hd vd td
 go_enter Tryz.func79,Tryz.ntmps79
 obtain ⟨Ca0,Ca1,Fa0,Fa1⟩:=c_ Ba
 obtain ⟨Cb0,Cb1,Fb0,Fb1⟩:=c_ Bb
 obtain ⟨Cc0,Cc1,Fc0,Fc1⟩:=c_ Bc
 obtain ⟨Cd0,Cd1,Fd0,Fd1⟩:=c_ Bd
 obtain ⟨Cq0,Cq1,Cq2,Cq3,Fq0,Fq1,Fq2,Fq3⟩:=b_ Bq
 go_wp2_with fail
 generalize (((((w.alloc (.cells #[.slice sa xa.length xa.length,.bool ba] 26)).alloc (.cells #[.slice sb xb.length xb.length,.bool bb] 26)).alloc (.cells #[.slice sc xc.length xc.length,.bool bc] 26)).alloc (.cells #[.slice sd xd.length xd.length,.bool bd] 26)).alloc (.cells #[.slice none 0 0,.bool false,.slice none 0 0,.bool false] 28)) = w0 at *
 have hX : w0.grownBy w0 none:=h_ _ _
 have HG9:=H_ hG
 have Ha9:=H_ Ba
 have Hb9:=H_ Bb
 have Hc9:=H_ Bc
 have Hd9:=H_ Bd
 have Hq9:=H_ Bq
 have Ia9:=H_ ia
 have Ib9:=H_ ib
 have Ic9:=H_ ic
 have Id9:=H_ id
 have hs0 : w.heap.size + 1 + 1 + 1 + 1 < w0.heap.size:=(Array.getElem?_eq_some_iff.1 Bq).1
 have HS0:=H_ hs0
 clear hs0
 clear Ca0 Fa0 Ca1 Fa1 Cb0 Fb0 Cb1 Fb1 Cc0 Fc0 Cc1 Fc1 Cd0 Fd0 Cd1 Fd1 Cq0 Fq0 Cq1 Fq1 Cq2 Fq2 Cq3 Fq3
 refine (HC1.out w0 _ _ ib id (HTB.out _ hG)).mono ?_
 rintro e w1 ⟨_,rfl,⟨sg,xg,bg,rfl,hg,vg,tg⟩,gw1⟩
 have ig : IntV w1 (.agg #[.slice sg xg.length xg.length,.bool bg]) ((G1 : Int)):=⟨sg,xg,bg,rfl,hg,vg,tg⟩
 replace Ba:=a_ gw1 Ba
 replace Bb:=a_ gw1 Bb
 replace Bc:=a_ gw1 Bc
 replace Bd:=a_ gw1 Bd
 replace Bq:=a_ gw1 Bq
 replace ia:=ia.kept gw1
 replace ib:=ib.kept gw1
 replace ic:=ic.kept gw1
 replace id:=id.kept gw1
 replace hG:=d_ hG gw1
 replace hX:=d_ hX gw1
 clear gw1
 clear hg vg tg
 obtain ⟨Ca0,Ca1,Fa0,Fa1⟩:=c_ Ba
 obtain ⟨Cb0,Cb1,Fb0,Fb1⟩:=c_ Bb
 obtain ⟨Cc0,Cc1,Fc0,Fc1⟩:=c_ Bc
 obtain ⟨Cd0,Cd1,Fd0,Fd1⟩:=c_ Bd
 obtain ⟨Cq0,Cq1,Cq2,Cq3,Fq0,Fq1,Fq2,Fq3⟩:=b_ Bq
 have gbw1:=(wg_ w1 (.cells #[.slice sg xg.length xg.length,.bool bg] 26) none)
 have Bg:=(f_ w1 (.cells #[.slice sg xg.length xg.length,.bool bg] 26) (w1.heap.size) rfl)
 have hzw1 : Hid (w.heap.size ≤ w1.heap.size):=H_ hG.size
 have hlaw1 : Hid (w.heap.size < w1.heap.size):=H_ (Array.getElem?_eq_some_iff.1 Ba).1
 have hlbw1 : Hid (w.heap.size + 1 < w1.heap.size):=H_ (Array.getElem?_eq_some_iff.1 Bb).1
 have hlcw1 : Hid (w.heap.size + 1 + 1 < w1.heap.size):=H_ (Array.getElem?_eq_some_iff.1 Bc).1
 have hldw1 : Hid (w.heap.size + 1 + 1 + 1 < w1.heap.size):=H_ (Array.getElem?_eq_some_iff.1 Bd).1
 have hlqw1 : Hid (w.heap.size + 1 + 1 + 1 + 1 < w1.heap.size):=H_ (Array.getElem?_eq_some_iff.1 Bq).1
 clear Ca0 Fa0 Ca1 Fa1 Cb0 Fb0 Cb1 Fb1 Cc0 Fc0 Cc1 Fc1 Cd0 Fd0 Cd1 Fd1 Cq0 Fq0 Cq1 Fq1 Cq2 Fq2 Cq3 Fq3
 replace Ba:=a_ gbw1 Ba
 replace Bb:=a_ gbw1 Bb
 replace Bc:=a_ gbw1 Bc
 replace Bd:=a_ gbw1 Bd
 replace Bq:=a_ gbw1 Bq
 replace ia:=ia.kept gbw1
 replace ib:=ib.kept gbw1
 replace ic:=ic.kept gbw1
 replace id:=id.kept gbw1
 replace ig:=ig.kept gbw1
 replace hG:=d_ hG gbw1
 replace hX:=d_ hX gbw1
 clear gbw1
 obtain ⟨Ca0,Ca1,Fa0,Fa1⟩:=c_ Ba
 obtain ⟨Cb0,Cb1,Fb0,Fb1⟩:=c_ Bb
 obtain ⟨Cc0,Cc1,Fc0,Fc1⟩:=c_ Bc
 obtain ⟨Cd0,Cd1,Fd0,Fd1⟩:=c_ Bd
 obtain ⟨Cq0,Cq1,Cq2,Cq3,Fq0,Fq1,Fq2,Fq3⟩:=b_ Bq
 obtain ⟨Cg0,Cg1,Fg0,Fg1⟩:=c_ Bg
 go_wp2_with fail
 generalize (w1.alloc (.cells #[.slice sg xg.length xg.length,.bool bg] 26)) = w2 at *
 generalize w1.heap.size = aw1 at *
 replace hzw1:=hzw1.out
 replace hlaw1:=hlaw1.out
 replace hlbw1:=hlbw1.out
 replace hlcw1:=hlcw1.out
 replace hldw1:=hldw1.out
 replace hlqw1:=hlqw1.out
 generalize aw1 = pg at *
 go_cut [10,11] (fun p q wx=>∃ pe pj,p = .pointer (some ⟨pe,0,none⟩) ∧ q = .pointer (some ⟨pj,0,none⟩) ∧ BoxZ wx pe D1 ∧ BoxZ wx pj F1 ∧ BoxZ wx pg (G1 : Int) ∧ w.heap.size + 1 + 1 + 1 + 1 < pe ∧ w.heap.size + 1 + 1 + 1 + 1 < pj ∧ w.heap.size + 1 + 1 + 1 + 1 < pg ∧ w0.grownBy wx none)
 case first =>
  have hs0:=HS0.out
  clear Ca0 Fa0 Ca1 Fa1 Cb0 Fb0 Cb1 Fb1 Cc0 Fc0 Cc1 Fc1 Cd0 Fd0 Cd1 Fd1 Cq0 Fq0 Cq1 Fq1 Cq2 Fq2 Cq3 Fq3 Cg0 Fg0 Cg1 Fg1
  clear Ba Bc Bq
  clear ia ic
  obtain ⟨Cb0,Cb1,Fb0,Fb1⟩:=c_ Bb
  obtain ⟨Cd0,Cd1,Fd0,Fd1⟩:=c_ Bd
  obtain ⟨Cg0,Cg1,Fg0,Fg1⟩:=c_ Bg
  refine wp_region_held_drew (S:=fun w'=>w'.cell? ⟨w.heap.size + 1,0,none⟩ = some (.slice sb xb.length xb.length) ∧ w'.cell? ⟨w.heap.size + 1,1,none⟩ = some (.bool bb) ∧ w'.cell? ⟨pg,0,none⟩ = some (.slice sg xg.length xg.length) ∧ w'.cell? ⟨pg,1,none⟩ = some (.bool bg) ∧ w'.cell? ⟨w.heap.size + 1 + 1 + 1,0,none⟩ = some (.slice sd xd.length xd.length) ∧ w'.cell? ⟨w.heap.size + 1 + 1 + 1,1,none⟩ = some (.bool bd)) (by kernel_rfl) (by exact ⟨Cb0,Cb1,Cg0,Cg1,Cd0,Cd1⟩) (fun hHeld=>?_)
  have gd : w2.grownBy w2.drew none:=k_ (h_ _ _)
  clear Cb0 Fb0 Cb1 Fb1 Cd0 Fd0 Cd1 Fd1 Cg0 Fg0 Cg1 Fg1
  replace Bb:=a_ gd Bb
  replace Bd:=a_ gd Bd
  replace Bg:=a_ gd Bg
  replace ib:=ib.kept gd
  replace id:=id.kept gd
  replace ig:=ig.kept gd
  replace hG:=d_ hG gd
  replace hX:=d_ hX gd
  clear gd
  generalize w2.drew = tw3 at *
  refine tk_ 0 ?_ rfl ?_ ?_
  rotate_left
  · (intro w hSw; (try dsimp only at hSw); go_simp; (try with_reducible rfl))
  try simp only [ly_]
  refine tk_ 1 ?_ rfl ?_ ?_
  rotate_left
  · (intro w hSw; (try dsimp only at hSw); go_simp; (try with_reducible rfl))
  try simp only [ly_]
  refine tk_ 3 ?_ rfl ?_ ?_
  rotate_left
  · (intro w hSw; (try dsimp only at hSw); go_simp; (try with_reducible rfl))
  try simp only [ly_]
  refine tk_ 4 ?_ rfl ?_ ?_
  rotate_left
  · (intro w hSw; (try dsimp only at hSw); go_simp; (try with_reducible rfl))
  try simp only [ly_]
  refine wpAnyH_ready (rs:=[2,6,7]) (by kernel_rfl) (by simp) ?_
  refine AllReadyH.cons rfl (fun KQ hKQ=>?_) (AllReadyH.cons rfl (fun KQ hKQ=>?_) (AllReadyH.cons rfl (fun KQ hKQ=>?_) AllReadyH.nil))
  focus
   go_simp
   go_at_call 70
   refine (HS1.out tw3 _ _ ib ig).mono ?_
   rintro e tw4 ⟨_,rfl,⟨sm,xm,bm,rfl,hm,vm,tm⟩,gtw4⟩
   have im : IntV tw4 (.agg #[.slice sm xm.length xm.length,.bool bm]) (D1):=⟨sm,xm,bm,rfl,hm,vm,tm⟩
   replace Bb:=a_ gtw4 Bb
   replace Bd:=a_ gtw4 Bd
   replace Bg:=a_ gtw4 Bg
   replace ib:=ib.kept gtw4
   replace id:=id.kept gtw4
   replace ig:=ig.kept gtw4
   replace hG:=d_ hG gtw4
   replace hX:=d_ hX gtw4
   clear gtw4
   clear hm vm tm
   (try go_wp2_with fail)
   refine hKQ.out _ _ (by exact ⟨(c_ Bb).1,(c_ Bb).2.1,(c_ Bg).1,(c_ Bg).2.1,(c_ Bd).1,(c_ Bd).2.1⟩) (fun hHeld=>?_)
   clear hKQ KQ
   try simp only [ly_]
   refine wpAnyH_ready (rs:=[5,6,7]) (by kernel_rfl) (by simp) ?_
   refine AllReadyH.cons rfl (fun KQ hKQ=>?_) (AllReadyH.cons rfl (fun KQ hKQ=>?_) (AllReadyH.cons rfl (fun KQ hKQ=>?_) AllReadyH.nil))
   focus
    go_simp
    go_at_call 70
    refine (HS2.out tw4 _ _ id ig).mono ?_
    rintro e tw5 ⟨_,rfl,⟨sp,xp,bp,rfl,hp,vp,tp⟩,gtw5⟩
    have ip : IntV tw5 (.agg #[.slice sp xp.length xp.length,.bool bp]) (F1):=⟨sp,xp,bp,rfl,hp,vp,tp⟩
    replace Bb:=a_ gtw5 Bb
    replace Bd:=a_ gtw5 Bd
    replace Bg:=a_ gtw5 Bg
    replace ib:=ib.kept gtw5
    replace id:=id.kept gtw5
    replace ig:=ig.kept gtw5
    replace im:=im.kept gtw5
    replace hG:=d_ hG gtw5
    replace hX:=d_ hX gtw5
    clear gtw5
    clear hp vp tp
    (try go_wp2_with fail)
    refine hKQ.out _ _ (by exact ⟨(c_ Bb).1,(c_ Bb).2.1,(c_ Bg).1,(c_ Bg).2.1,(c_ Bd).1,(c_ Bd).2.1⟩) (fun hHeld=>?_)
    clear hKQ KQ
    try simp only [ly_]
    refine wpAnyH_ready (rs:=[6,7]) (by kernel_rfl) (by simp) ?_
    refine AllReadyH.cons rfl (fun KQ hKQ=>?_) (AllReadyH.cons rfl (fun KQ hKQ=>?_) AllReadyH.nil)
    focus
     have gA:=wg_ tw5 (.cells #[.slice none 0 0,.bool false] 26) none
     have lohGe : w.heap.size ≤ tw5.heap.size:=hG.size
     have lohXe : w0.heap.size ≤ tw5.heap.size:=hX.size
     have ltbe : w.heap.size + 1 < tw5.heap.size:=g_ Bb
     have ltde : w.heap.size + 1 + 1 + 1 < tw5.heap.size:=g_ Bd
     have ltge : pg < tw5.heap.size:=g_ Bg
     have Be_:=f_ tw5 (.cells #[.slice none 0 0,.bool false] 26) tw5.heap.size rfl
     replace Bb:=a_ gA Bb
     replace Bd:=a_ gA Bd
     replace Bg:=a_ gA Bg
     replace ib:=ib.kept gA
     replace id:=id.kept gA
     replace ig:=ig.kept gA
     replace im:=im.kept gA
     replace ip:=ip.kept gA
     replace hG:=d_ hG gA
     replace hX:=d_ hX gA
     clear gA
     go_simp
     generalize (tw5.alloc (.cells #[.slice none 0 0,.bool false] 26)) = tw6 at *
     generalize tw5.heap.size = pe at *
     have Be:=Be_
     clear Be_
     refine hKQ.out _ _ (by exact ⟨(c_ Bb).1,(c_ Bb).2.1,(c_ Bg).1,(c_ Bg).2.1,(c_ Bd).1,(c_ Bd).2.1⟩) (fun hHeld=>?_)
     clear hKQ KQ
     try simp only [ly_]
     refine o1_ 7 rfl (fun KQ hKQ=>?_)
     have gA:=wg_ tw6 (.cells #[.slice none 0 0,.bool false] 26) none
     have lohGj : w.heap.size ≤ tw6.heap.size:=hG.size
     have lohXj : w0.heap.size ≤ tw6.heap.size:=hX.size
     have ltbj : w.heap.size + 1 < tw6.heap.size:=g_ Bb
     have ltdj : w.heap.size + 1 + 1 + 1 < tw6.heap.size:=g_ Bd
     have ltgj : pg < tw6.heap.size:=g_ Bg
     have ltej : pe < tw6.heap.size:=g_ Be
     have Bj_:=f_ tw6 (.cells #[.slice none 0 0,.bool false] 26) tw6.heap.size rfl
     replace Bb:=a_ gA Bb
     replace Bd:=a_ gA Bd
     replace Bg:=a_ gA Bg
     replace Be:=a_ gA Be
     replace ib:=ib.kept gA
     replace id:=id.kept gA
     replace ig:=ig.kept gA
     replace im:=im.kept gA
     replace ip:=ip.kept gA
     replace hG:=d_ hG gA
     replace hX:=d_ hX gA
     clear gA
     go_simp
     generalize (tw6.alloc (.cells #[.slice none 0 0,.bool false] 26)) = tw7 at *
     generalize tw6.heap.size = pj at *
     have Bj:=Bj_
     clear Bj_
     refine hKQ.out _ _ (by exact ⟨(c_ Bb).1,(c_ Bb).2.1,(c_ Bg).1,(c_ Bg).2.1,(c_ Bd).1,(c_ Bd).2.1⟩) (fun hHeld=>?_)
     clear hKQ KQ
     try simp only [ly_]
    rotate_left 1
    focus
     have gA:=wg_ tw5 (.cells #[.slice none 0 0,.bool false] 26) none
     have lohGj : w.heap.size ≤ tw5.heap.size:=hG.size
     have lohXj : w0.heap.size ≤ tw5.heap.size:=hX.size
     have ltbj : w.heap.size + 1 < tw5.heap.size:=g_ Bb
     have ltdj : w.heap.size + 1 + 1 + 1 < tw5.heap.size:=g_ Bd
     have ltgj : pg < tw5.heap.size:=g_ Bg
     have Bj_:=f_ tw5 (.cells #[.slice none 0 0,.bool false] 26) tw5.heap.size rfl
     replace Bb:=a_ gA Bb
     replace Bd:=a_ gA Bd
     replace Bg:=a_ gA Bg
     replace ib:=ib.kept gA
     replace id:=id.kept gA
     replace ig:=ig.kept gA
     replace im:=im.kept gA
     replace ip:=ip.kept gA
     replace hG:=d_ hG gA
     replace hX:=d_ hX gA
     clear gA
     go_simp
     generalize (tw5.alloc (.cells #[.slice none 0 0,.bool false] 26)) = tw6 at *
     generalize tw5.heap.size = pj at *
     have Bj:=Bj_
     clear Bj_
     refine hKQ.out _ _ (by exact ⟨(c_ Bb).1,(c_ Bb).2.1,(c_ Bg).1,(c_ Bg).2.1,(c_ Bd).1,(c_ Bd).2.1⟩) (fun hHeld=>?_)
     clear hKQ KQ
     try simp only [ly_]
     refine o1_ 6 rfl (fun KQ hKQ=>?_)
     have gA:=wg_ tw6 (.cells #[.slice none 0 0,.bool false] 26) none
     have lohGe : w.heap.size ≤ tw6.heap.size:=hG.size
     have lohXe : w0.heap.size ≤ tw6.heap.size:=hX.size
     have ltbe : w.heap.size + 1 < tw6.heap.size:=g_ Bb
     have ltde : w.heap.size + 1 + 1 + 1 < tw6.heap.size:=g_ Bd
     have ltge : pg < tw6.heap.size:=g_ Bg
     have ltje : pj < tw6.heap.size:=g_ Bj
     have Be_:=f_ tw6 (.cells #[.slice none 0 0,.bool false] 26) tw6.heap.size rfl
     replace Bb:=a_ gA Bb
     replace Bd:=a_ gA Bd
     replace Bg:=a_ gA Bg
     replace Bj:=a_ gA Bj
     replace ib:=ib.kept gA
     replace id:=id.kept gA
     replace ig:=ig.kept gA
     replace im:=im.kept gA
     replace ip:=ip.kept gA
     replace hG:=d_ hG gA
     replace hX:=d_ hX gA
     clear gA
     go_simp
     generalize (tw6.alloc (.cells #[.slice none 0 0,.bool false] 26)) = tw7 at *
     generalize tw6.heap.size = pe at *
     have Be:=Be_
     clear Be_
     refine hKQ.out _ _ (by exact ⟨(c_ Bb).1,(c_ Bb).2.1,(c_ Bg).1,(c_ Bg).2.1,(c_ Bd).1,(c_ Bd).2.1⟩) (fun hHeld=>?_)
     clear hKQ KQ
     try simp only [ly_]
    rotate_left 1
   rotate_left 2
   focus
    have gA:=wg_ tw4 (.cells #[.slice none 0 0,.bool false] 26) none
    have lohGe : w.heap.size ≤ tw4.heap.size:=hG.size
    have lohXe : w0.heap.size ≤ tw4.heap.size:=hX.size
    have ltbe : w.heap.size + 1 < tw4.heap.size:=g_ Bb
    have ltde : w.heap.size + 1 + 1 + 1 < tw4.heap.size:=g_ Bd
    have ltge : pg < tw4.heap.size:=g_ Bg
    have Be_:=f_ tw4 (.cells #[.slice none 0 0,.bool false] 26) tw4.heap.size rfl
    replace Bb:=a_ gA Bb
    replace Bd:=a_ gA Bd
    replace Bg:=a_ gA Bg
    replace ib:=ib.kept gA
    replace id:=id.kept gA
    replace ig:=ig.kept gA
    replace im:=im.kept gA
    replace hG:=d_ hG gA
    replace hX:=d_ hX gA
    clear gA
    go_simp
    generalize (tw4.alloc (.cells #[.slice none 0 0,.bool false] 26)) = tw5 at *
    generalize tw4.heap.size = pe at *
    have Be:=Be_
    clear Be_
    refine hKQ.out _ _ (by exact ⟨(c_ Bb).1,(c_ Bb).2.1,(c_ Bg).1,(c_ Bg).2.1,(c_ Bd).1,(c_ Bd).2.1⟩) (fun hHeld=>?_)
    clear hKQ KQ
    try simp only [ly_]
    refine wpAnyH_ready (rs:=[5,7]) (by kernel_rfl) (by simp) ?_
    refine AllReadyH.cons rfl (fun KQ hKQ=>?_) (AllReadyH.cons rfl (fun KQ hKQ=>?_) AllReadyH.nil)
    focus
     go_simp
     go_at_call 70
     refine (HS2.out tw5 _ _ id ig).mono ?_
     rintro e tw6 ⟨_,rfl,⟨sp,xp,bp,rfl,hp,vp,tp⟩,gtw6⟩
     have ip : IntV tw6 (.agg #[.slice sp xp.length xp.length,.bool bp]) (F1):=⟨sp,xp,bp,rfl,hp,vp,tp⟩
     replace Bb:=a_ gtw6 Bb
     replace Bd:=a_ gtw6 Bd
     replace Bg:=a_ gtw6 Bg
     replace Be:=a_ gtw6 Be
     replace ib:=ib.kept gtw6
     replace id:=id.kept gtw6
     replace ig:=ig.kept gtw6
     replace im:=im.kept gtw6
     replace hG:=d_ hG gtw6
     replace hX:=d_ hX gtw6
     clear gtw6
     clear hp vp tp
     (try go_wp2_with fail)
     refine hKQ.out _ _ (by exact ⟨(c_ Bb).1,(c_ Bb).2.1,(c_ Bg).1,(c_ Bg).2.1,(c_ Bd).1,(c_ Bd).2.1⟩) (fun hHeld=>?_)
     clear hKQ KQ
     try simp only [ly_]
     refine o1_ 7 rfl (fun KQ hKQ=>?_)
     have gA:=wg_ tw6 (.cells #[.slice none 0 0,.bool false] 26) none
     have lohGj : w.heap.size ≤ tw6.heap.size:=hG.size
     have lohXj : w0.heap.size ≤ tw6.heap.size:=hX.size
     have ltbj : w.heap.size + 1 < tw6.heap.size:=g_ Bb
     have ltdj : w.heap.size + 1 + 1 + 1 < tw6.heap.size:=g_ Bd
     have ltgj : pg < tw6.heap.size:=g_ Bg
     have ltej : pe < tw6.heap.size:=g_ Be
     have Bj_:=f_ tw6 (.cells #[.slice none 0 0,.bool false] 26) tw6.heap.size rfl
     replace Bb:=a_ gA Bb
     replace Bd:=a_ gA Bd
     replace Bg:=a_ gA Bg
     replace Be:=a_ gA Be
     replace ib:=ib.kept gA
     replace id:=id.kept gA
     replace ig:=ig.kept gA
     replace im:=im.kept gA
     replace ip:=ip.kept gA
     replace hG:=d_ hG gA
     replace hX:=d_ hX gA
     clear gA
     go_simp
     generalize (tw6.alloc (.cells #[.slice none 0 0,.bool false] 26)) = tw7 at *
     generalize tw6.heap.size = pj at *
     have Bj:=Bj_
     clear Bj_
     refine hKQ.out _ _ (by exact ⟨(c_ Bb).1,(c_ Bb).2.1,(c_ Bg).1,(c_ Bg).2.1,(c_ Bd).1,(c_ Bd).2.1⟩) (fun hHeld=>?_)
     clear hKQ KQ
     try simp only [ly_]
    rotate_left 1
    focus
     have gA:=wg_ tw5 (.cells #[.slice none 0 0,.bool false] 26) none
     have lohGj : w.heap.size ≤ tw5.heap.size:=hG.size
     have lohXj : w0.heap.size ≤ tw5.heap.size:=hX.size
     have ltbj : w.heap.size + 1 < tw5.heap.size:=g_ Bb
     have ltdj : w.heap.size + 1 + 1 + 1 < tw5.heap.size:=g_ Bd
     have ltgj : pg < tw5.heap.size:=g_ Bg
     have ltej : pe < tw5.heap.size:=g_ Be
     have Bj_:=f_ tw5 (.cells #[.slice none 0 0,.bool false] 26) tw5.heap.size rfl
     replace Bb:=a_ gA Bb
     replace Bd:=a_ gA Bd
     replace Bg:=a_ gA Bg
     replace Be:=a_ gA Be
     replace ib:=ib.kept gA
     replace id:=id.kept gA
     replace ig:=ig.kept gA
     replace im:=im.kept gA
     replace hG:=d_ hG gA
     replace hX:=d_ hX gA
     clear gA
     go_simp
     generalize (tw5.alloc (.cells #[.slice none 0 0,.bool false] 26)) = tw6 at *
     generalize tw5.heap.size = pj at *
     have Bj:=Bj_
     clear Bj_
     refine hKQ.out _ _ (by exact ⟨(c_ Bb).1,(c_ Bb).2.1,(c_ Bg).1,(c_ Bg).2.1,(c_ Bd).1,(c_ Bd).2.1⟩) (fun hHeld=>?_)
     clear hKQ KQ
     try simp only [ly_]
     refine o1_ 5 rfl (fun KQ hKQ=>?_)
     go_simp
     go_at_call 70
     refine (HS2.out tw6 _ _ id ig).mono ?_
     rintro e tw7 ⟨_,rfl,⟨sp,xp,bp,rfl,hp,vp,tp⟩,gtw7⟩
     have ip : IntV tw7 (.agg #[.slice sp xp.length xp.length,.bool bp]) (F1):=⟨sp,xp,bp,rfl,hp,vp,tp⟩
     replace Bb:=a_ gtw7 Bb
     replace Bd:=a_ gtw7 Bd
     replace Bg:=a_ gtw7 Bg
     replace Be:=a_ gtw7 Be
     replace Bj:=a_ gtw7 Bj
     replace ib:=ib.kept gtw7
     replace id:=id.kept gtw7
     replace ig:=ig.kept gtw7
     replace im:=im.kept gtw7
     replace hG:=d_ hG gtw7
     replace hX:=d_ hX gtw7
     clear gtw7
     clear hp vp tp
     (try go_wp2_with fail)
     refine hKQ.out _ _ (by exact ⟨(c_ Bb).1,(c_ Bb).2.1,(c_ Bg).1,(c_ Bg).2.1,(c_ Bd).1,(c_ Bd).2.1⟩) (fun hHeld=>?_)
     clear hKQ KQ
     try simp only [ly_]
    rotate_left 1
   rotate_left 2
   focus
    have gA:=wg_ tw4 (.cells #[.slice none 0 0,.bool false] 26) none
    have lohGj : w.heap.size ≤ tw4.heap.size:=hG.size
    have lohXj : w0.heap.size ≤ tw4.heap.size:=hX.size
    have ltbj : w.heap.size + 1 < tw4.heap.size:=g_ Bb
    have ltdj : w.heap.size + 1 + 1 + 1 < tw4.heap.size:=g_ Bd
    have ltgj : pg < tw4.heap.size:=g_ Bg
    have Bj_:=f_ tw4 (.cells #[.slice none 0 0,.bool false] 26) tw4.heap.size rfl
    replace Bb:=a_ gA Bb
    replace Bd:=a_ gA Bd
    replace Bg:=a_ gA Bg
    replace ib:=ib.kept gA
    replace id:=id.kept gA
    replace ig:=ig.kept gA
    replace im:=im.kept gA
    replace hG:=d_ hG gA
    replace hX:=d_ hX gA
    clear gA
    go_simp
    generalize (tw4.alloc (.cells #[.slice none 0 0,.bool false] 26)) = tw5 at *
    generalize tw4.heap.size = pj at *
    have Bj:=Bj_
    clear Bj_
    refine hKQ.out _ _ (by exact ⟨(c_ Bb).1,(c_ Bb).2.1,(c_ Bg).1,(c_ Bg).2.1,(c_ Bd).1,(c_ Bd).2.1⟩) (fun hHeld=>?_)
    clear hKQ KQ
    try simp only [ly_]
    refine wpAnyH_ready (rs:=[5,6]) (by kernel_rfl) (by simp) ?_
    refine AllReadyH.cons rfl (fun KQ hKQ=>?_) (AllReadyH.cons rfl (fun KQ hKQ=>?_) AllReadyH.nil)
    focus
     go_simp
     go_at_call 70
     refine (HS2.out tw5 _ _ id ig).mono ?_
     rintro e tw6 ⟨_,rfl,⟨sp,xp,bp,rfl,hp,vp,tp⟩,gtw6⟩
     have ip : IntV tw6 (.agg #[.slice sp xp.length xp.length,.bool bp]) (F1):=⟨sp,xp,bp,rfl,hp,vp,tp⟩
     replace Bb:=a_ gtw6 Bb
     replace Bd:=a_ gtw6 Bd
     replace Bg:=a_ gtw6 Bg
     replace Bj:=a_ gtw6 Bj
     replace ib:=ib.kept gtw6
     replace id:=id.kept gtw6
     replace ig:=ig.kept gtw6
     replace im:=im.kept gtw6
     replace hG:=d_ hG gtw6
     replace hX:=d_ hX gtw6
     clear gtw6
     clear hp vp tp
     (try go_wp2_with fail)
     refine hKQ.out _ _ (by exact ⟨(c_ Bb).1,(c_ Bb).2.1,(c_ Bg).1,(c_ Bg).2.1,(c_ Bd).1,(c_ Bd).2.1⟩) (fun hHeld=>?_)
     clear hKQ KQ
     try simp only [ly_]
     refine o1_ 6 rfl (fun KQ hKQ=>?_)
     have gA:=wg_ tw6 (.cells #[.slice none 0 0,.bool false] 26) none
     have lohGe : w.heap.size ≤ tw6.heap.size:=hG.size
     have lohXe : w0.heap.size ≤ tw6.heap.size:=hX.size
     have ltbe : w.heap.size + 1 < tw6.heap.size:=g_ Bb
     have ltde : w.heap.size + 1 + 1 + 1 < tw6.heap.size:=g_ Bd
     have ltge : pg < tw6.heap.size:=g_ Bg
     have ltje : pj < tw6.heap.size:=g_ Bj
     have Be_:=f_ tw6 (.cells #[.slice none 0 0,.bool false] 26) tw6.heap.size rfl
     replace Bb:=a_ gA Bb
     replace Bd:=a_ gA Bd
     replace Bg:=a_ gA Bg
     replace Bj:=a_ gA Bj
     replace ib:=ib.kept gA
     replace id:=id.kept gA
     replace ig:=ig.kept gA
     replace im:=im.kept gA
     replace ip:=ip.kept gA
     replace hG:=d_ hG gA
     replace hX:=d_ hX gA
     clear gA
     go_simp
     generalize (tw6.alloc (.cells #[.slice none 0 0,.bool false] 26)) = tw7 at *
     generalize tw6.heap.size = pe at *
     have Be:=Be_
     clear Be_
     refine hKQ.out _ _ (by exact ⟨(c_ Bb).1,(c_ Bb).2.1,(c_ Bg).1,(c_ Bg).2.1,(c_ Bd).1,(c_ Bd).2.1⟩) (fun hHeld=>?_)
     clear hKQ KQ
     try simp only [ly_]
    rotate_left 1
    focus
     have gA:=wg_ tw5 (.cells #[.slice none 0 0,.bool false] 26) none
     have lohGe : w.heap.size ≤ tw5.heap.size:=hG.size
     have lohXe : w0.heap.size ≤ tw5.heap.size:=hX.size
     have ltbe : w.heap.size + 1 < tw5.heap.size:=g_ Bb
     have ltde : w.heap.size + 1 + 1 + 1 < tw5.heap.size:=g_ Bd
     have ltge : pg < tw5.heap.size:=g_ Bg
     have ltje : pj < tw5.heap.size:=g_ Bj
     have Be_:=f_ tw5 (.cells #[.slice none 0 0,.bool false] 26) tw5.heap.size rfl
     replace Bb:=a_ gA Bb
     replace Bd:=a_ gA Bd
     replace Bg:=a_ gA Bg
     replace Bj:=a_ gA Bj
     replace ib:=ib.kept gA
     replace id:=id.kept gA
     replace ig:=ig.kept gA
     replace im:=im.kept gA
     replace hG:=d_ hG gA
     replace hX:=d_ hX gA
     clear gA
     go_simp
     generalize (tw5.alloc (.cells #[.slice none 0 0,.bool false] 26)) = tw6 at *
     generalize tw5.heap.size = pe at *
     have Be:=Be_
     clear Be_
     refine hKQ.out _ _ (by exact ⟨(c_ Bb).1,(c_ Bb).2.1,(c_ Bg).1,(c_ Bg).2.1,(c_ Bd).1,(c_ Bd).2.1⟩) (fun hHeld=>?_)
     clear hKQ KQ
     try simp only [ly_]
     refine o1_ 5 rfl (fun KQ hKQ=>?_)
     go_simp
     go_at_call 70
     refine (HS2.out tw6 _ _ id ig).mono ?_
     rintro e tw7 ⟨_,rfl,⟨sp,xp,bp,rfl,hp,vp,tp⟩,gtw7⟩
     have ip : IntV tw7 (.agg #[.slice sp xp.length xp.length,.bool bp]) (F1):=⟨sp,xp,bp,rfl,hp,vp,tp⟩
     replace Bb:=a_ gtw7 Bb
     replace Bd:=a_ gtw7 Bd
     replace Bg:=a_ gtw7 Bg
     replace Bj:=a_ gtw7 Bj
     replace Be:=a_ gtw7 Be
     replace ib:=ib.kept gtw7
     replace id:=id.kept gtw7
     replace ig:=ig.kept gtw7
     replace im:=im.kept gtw7
     replace hG:=d_ hG gtw7
     replace hX:=d_ hX gtw7
     clear gtw7
     clear hp vp tp
     (try go_wp2_with fail)
     refine hKQ.out _ _ (by exact ⟨(c_ Bb).1,(c_ Bb).2.1,(c_ Bg).1,(c_ Bg).2.1,(c_ Bd).1,(c_ Bd).2.1⟩) (fun hHeld=>?_)
     clear hKQ KQ
     try simp only [ly_]
    rotate_left 1
   rotate_left 2
  rotate_left 6
  focus
   have gA:=wg_ tw3 (.cells #[.slice none 0 0,.bool false] 26) none
   have lohGe : w.heap.size ≤ tw3.heap.size:=hG.size
   have lohXe : w0.heap.size ≤ tw3.heap.size:=hX.size
   have ltbe : w.heap.size + 1 < tw3.heap.size:=g_ Bb
   have ltde : w.heap.size + 1 + 1 + 1 < tw3.heap.size:=g_ Bd
   have ltge : pg < tw3.heap.size:=g_ Bg
   have Be_:=f_ tw3 (.cells #[.slice none 0 0,.bool false] 26) tw3.heap.size rfl
   replace Bb:=a_ gA Bb
   replace Bd:=a_ gA Bd
   replace Bg:=a_ gA Bg
   replace ib:=ib.kept gA
   replace id:=id.kept gA
   replace ig:=ig.kept gA
   replace hG:=d_ hG gA
   replace hX:=d_ hX gA
   clear gA
   go_simp
   generalize (tw3.alloc (.cells #[.slice none 0 0,.bool false] 26)) = tw4 at *
   generalize tw3.heap.size = pe at *
   have Be:=Be_
   clear Be_
   refine hKQ.out _ _ (by exact ⟨(c_ Bb).1,(c_ Bb).2.1,(c_ Bg).1,(c_ Bg).2.1,(c_ Bd).1,(c_ Bd).2.1⟩) (fun hHeld=>?_)
   clear hKQ KQ
   try simp only [ly_]
   refine wpAnyH_ready (rs:=[2,7]) (by kernel_rfl) (by simp) ?_
   refine AllReadyH.cons rfl (fun KQ hKQ=>?_) (AllReadyH.cons rfl (fun KQ hKQ=>?_) AllReadyH.nil)
   focus
    go_simp
    go_at_call 70
    refine (HS1.out tw4 _ _ ib ig).mono ?_
    rintro e tw5 ⟨_,rfl,⟨sm,xm,bm,rfl,hm,vm,tm⟩,gtw5⟩
    have im : IntV tw5 (.agg #[.slice sm xm.length xm.length,.bool bm]) (D1):=⟨sm,xm,bm,rfl,hm,vm,tm⟩
    replace Bb:=a_ gtw5 Bb
    replace Bd:=a_ gtw5 Bd
    replace Bg:=a_ gtw5 Bg
    replace Be:=a_ gtw5 Be
    replace ib:=ib.kept gtw5
    replace id:=id.kept gtw5
    replace ig:=ig.kept gtw5
    replace hG:=d_ hG gtw5
    replace hX:=d_ hX gtw5
    clear gtw5
    clear hm vm tm
    (try go_wp2_with fail)
    refine hKQ.out _ _ (by exact ⟨(c_ Bb).1,(c_ Bb).2.1,(c_ Bg).1,(c_ Bg).2.1,(c_ Bd).1,(c_ Bd).2.1⟩) (fun hHeld=>?_)
    clear hKQ KQ
    try simp only [ly_]
    refine wpAnyH_ready (rs:=[5,7]) (by kernel_rfl) (by simp) ?_
    refine AllReadyH.cons rfl (fun KQ hKQ=>?_) (AllReadyH.cons rfl (fun KQ hKQ=>?_) AllReadyH.nil)
    focus
     go_simp
     go_at_call 70
     refine (HS2.out tw5 _ _ id ig).mono ?_
     rintro e tw6 ⟨_,rfl,⟨sp,xp,bp,rfl,hp,vp,tp⟩,gtw6⟩
     have ip : IntV tw6 (.agg #[.slice sp xp.length xp.length,.bool bp]) (F1):=⟨sp,xp,bp,rfl,hp,vp,tp⟩
     replace Bb:=a_ gtw6 Bb
     replace Bd:=a_ gtw6 Bd
     replace Bg:=a_ gtw6 Bg
     replace Be:=a_ gtw6 Be
     replace ib:=ib.kept gtw6
     replace id:=id.kept gtw6
     replace ig:=ig.kept gtw6
     replace im:=im.kept gtw6
     replace hG:=d_ hG gtw6
     replace hX:=d_ hX gtw6
     clear gtw6
     clear hp vp tp
     (try go_wp2_with fail)
     refine hKQ.out _ _ (by exact ⟨(c_ Bb).1,(c_ Bb).2.1,(c_ Bg).1,(c_ Bg).2.1,(c_ Bd).1,(c_ Bd).2.1⟩) (fun hHeld=>?_)
     clear hKQ KQ
     try simp only [ly_]
     refine o1_ 7 rfl (fun KQ hKQ=>?_)
     have gA:=wg_ tw6 (.cells #[.slice none 0 0,.bool false] 26) none
     have lohGj : w.heap.size ≤ tw6.heap.size:=hG.size
     have lohXj : w0.heap.size ≤ tw6.heap.size:=hX.size
     have ltbj : w.heap.size + 1 < tw6.heap.size:=g_ Bb
     have ltdj : w.heap.size + 1 + 1 + 1 < tw6.heap.size:=g_ Bd
     have ltgj : pg < tw6.heap.size:=g_ Bg
     have ltej : pe < tw6.heap.size:=g_ Be
     have Bj_:=f_ tw6 (.cells #[.slice none 0 0,.bool false] 26) tw6.heap.size rfl
     replace Bb:=a_ gA Bb
     replace Bd:=a_ gA Bd
     replace Bg:=a_ gA Bg
     replace Be:=a_ gA Be
     replace ib:=ib.kept gA
     replace id:=id.kept gA
     replace ig:=ig.kept gA
     replace im:=im.kept gA
     replace ip:=ip.kept gA
     replace hG:=d_ hG gA
     replace hX:=d_ hX gA
     clear gA
     go_simp
     generalize (tw6.alloc (.cells #[.slice none 0 0,.bool false] 26)) = tw7 at *
     generalize tw6.heap.size = pj at *
     have Bj:=Bj_
     clear Bj_
     refine hKQ.out _ _ (by exact ⟨(c_ Bb).1,(c_ Bb).2.1,(c_ Bg).1,(c_ Bg).2.1,(c_ Bd).1,(c_ Bd).2.1⟩) (fun hHeld=>?_)
     clear hKQ KQ
     try simp only [ly_]
    rotate_left 1
    focus
     have gA:=wg_ tw5 (.cells #[.slice none 0 0,.bool false] 26) none
     have lohGj : w.heap.size ≤ tw5.heap.size:=hG.size
     have lohXj : w0.heap.size ≤ tw5.heap.size:=hX.size
     have ltbj : w.heap.size + 1 < tw5.heap.size:=g_ Bb
     have ltdj : w.heap.size + 1 + 1 + 1 < tw5.heap.size:=g_ Bd
     have ltgj : pg < tw5.heap.size:=g_ Bg
     have ltej : pe < tw5.heap.size:=g_ Be
     have Bj_:=f_ tw5 (.cells #[.slice none 0 0,.bool false] 26) tw5.heap.size rfl
     replace Bb:=a_ gA Bb
     replace Bd:=a_ gA Bd
     replace Bg:=a_ gA Bg
     replace Be:=a_ gA Be
     replace ib:=ib.kept gA
     replace id:=id.kept gA
     replace ig:=ig.kept gA
     replace im:=im.kept gA
     replace hG:=d_ hG gA
     replace hX:=d_ hX gA
     clear gA
     go_simp
     generalize (tw5.alloc (.cells #[.slice none 0 0,.bool false] 26)) = tw6 at *
     generalize tw5.heap.size = pj at *
     have Bj:=Bj_
     clear Bj_
     refine hKQ.out _ _ (by exact ⟨(c_ Bb).1,(c_ Bb).2.1,(c_ Bg).1,(c_ Bg).2.1,(c_ Bd).1,(c_ Bd).2.1⟩) (fun hHeld=>?_)
     clear hKQ KQ
     try simp only [ly_]
     refine o1_ 5 rfl (fun KQ hKQ=>?_)
     go_simp
     go_at_call 70
     refine (HS2.out tw6 _ _ id ig).mono ?_
     rintro e tw7 ⟨_,rfl,⟨sp,xp,bp,rfl,hp,vp,tp⟩,gtw7⟩
     have ip : IntV tw7 (.agg #[.slice sp xp.length xp.length,.bool bp]) (F1):=⟨sp,xp,bp,rfl,hp,vp,tp⟩
     replace Bb:=a_ gtw7 Bb
     replace Bd:=a_ gtw7 Bd
     replace Bg:=a_ gtw7 Bg
     replace Be:=a_ gtw7 Be
     replace Bj:=a_ gtw7 Bj
     replace ib:=ib.kept gtw7
     replace id:=id.kept gtw7
     replace ig:=ig.kept gtw7
     replace im:=im.kept gtw7
     replace hG:=d_ hG gtw7
     replace hX:=d_ hX gtw7
     clear gtw7
     clear hp vp tp
     (try go_wp2_with fail)
     refine hKQ.out _ _ (by exact ⟨(c_ Bb).1,(c_ Bb).2.1,(c_ Bg).1,(c_ Bg).2.1,(c_ Bd).1,(c_ Bd).2.1⟩) (fun hHeld=>?_)
     clear hKQ KQ
     try simp only [ly_]
    rotate_left 1
   rotate_left 2
   focus
    have gA:=wg_ tw4 (.cells #[.slice none 0 0,.bool false] 26) none
    have lohGj : w.heap.size ≤ tw4.heap.size:=hG.size
    have lohXj : w0.heap.size ≤ tw4.heap.size:=hX.size
    have ltbj : w.heap.size + 1 < tw4.heap.size:=g_ Bb
    have ltdj : w.heap.size + 1 + 1 + 1 < tw4.heap.size:=g_ Bd
    have ltgj : pg < tw4.heap.size:=g_ Bg
    have ltej : pe < tw4.heap.size:=g_ Be
    have Bj_:=f_ tw4 (.cells #[.slice none 0 0,.bool false] 26) tw4.heap.size rfl
    replace Bb:=a_ gA Bb
    replace Bd:=a_ gA Bd
    replace Bg:=a_ gA Bg
    replace Be:=a_ gA Be
    replace ib:=ib.kept gA
    replace id:=id.kept gA
    replace ig:=ig.kept gA
    replace hG:=d_ hG gA
    replace hX:=d_ hX gA
    clear gA
    go_simp
    generalize (tw4.alloc (.cells #[.slice none 0 0,.bool false] 26)) = tw5 at *
    generalize tw4.heap.size = pj at *
    have Bj:=Bj_
    clear Bj_
    refine hKQ.out _ _ (by exact ⟨(c_ Bb).1,(c_ Bb).2.1,(c_ Bg).1,(c_ Bg).2.1,(c_ Bd).1,(c_ Bd).2.1⟩) (fun hHeld=>?_)
    clear hKQ KQ
    try simp only [ly_]
    refine o1_ 2 rfl (fun KQ hKQ=>?_)
    go_simp
    go_at_call 70
    refine (HS1.out tw5 _ _ ib ig).mono ?_
    rintro e tw6 ⟨_,rfl,⟨sm,xm,bm,rfl,hm,vm,tm⟩,gtw6⟩
    have im : IntV tw6 (.agg #[.slice sm xm.length xm.length,.bool bm]) (D1):=⟨sm,xm,bm,rfl,hm,vm,tm⟩
    replace Bb:=a_ gtw6 Bb
    replace Bd:=a_ gtw6 Bd
    replace Bg:=a_ gtw6 Bg
    replace Be:=a_ gtw6 Be
    replace Bj:=a_ gtw6 Bj
    replace ib:=ib.kept gtw6
    replace id:=id.kept gtw6
    replace ig:=ig.kept gtw6
    replace hG:=d_ hG gtw6
    replace hX:=d_ hX gtw6
    clear gtw6
    clear hm vm tm
    (try go_wp2_with fail)
    refine hKQ.out _ _ (by exact ⟨(c_ Bb).1,(c_ Bb).2.1,(c_ Bg).1,(c_ Bg).2.1,(c_ Bd).1,(c_ Bd).2.1⟩) (fun hHeld=>?_)
    clear hKQ KQ
    try simp only [ly_]
    refine o1_ 5 rfl (fun KQ hKQ=>?_)
    go_simp
    go_at_call 70
    refine (HS2.out tw6 _ _ id ig).mono ?_
    rintro e tw7 ⟨_,rfl,⟨sp,xp,bp,rfl,hp,vp,tp⟩,gtw7⟩
    have ip : IntV tw7 (.agg #[.slice sp xp.length xp.length,.bool bp]) (F1):=⟨sp,xp,bp,rfl,hp,vp,tp⟩
    replace Bb:=a_ gtw7 Bb
    replace Bd:=a_ gtw7 Bd
    replace Bg:=a_ gtw7 Bg
    replace Be:=a_ gtw7 Be
    replace Bj:=a_ gtw7 Bj
    replace ib:=ib.kept gtw7
    replace id:=id.kept gtw7
    replace ig:=ig.kept gtw7
    replace im:=im.kept gtw7
    replace hG:=d_ hG gtw7
    replace hX:=d_ hX gtw7
    clear gtw7
    clear hp vp tp
    (try go_wp2_with fail)
    refine hKQ.out _ _ (by exact ⟨(c_ Bb).1,(c_ Bb).2.1,(c_ Bg).1,(c_ Bg).2.1,(c_ Bd).1,(c_ Bd).2.1⟩) (fun hHeld=>?_)
    clear hKQ KQ
    try simp only [ly_]
   rotate_left 1
  rotate_left 3
  focus
   have gA:=wg_ tw3 (.cells #[.slice none 0 0,.bool false] 26) none
   have lohGj : w.heap.size ≤ tw3.heap.size:=hG.size
   have lohXj : w0.heap.size ≤ tw3.heap.size:=hX.size
   have ltbj : w.heap.size + 1 < tw3.heap.size:=g_ Bb
   have ltdj : w.heap.size + 1 + 1 + 1 < tw3.heap.size:=g_ Bd
   have ltgj : pg < tw3.heap.size:=g_ Bg
   have Bj_:=f_ tw3 (.cells #[.slice none 0 0,.bool false] 26) tw3.heap.size rfl
   replace Bb:=a_ gA Bb
   replace Bd:=a_ gA Bd
   replace Bg:=a_ gA Bg
   replace ib:=ib.kept gA
   replace id:=id.kept gA
   replace ig:=ig.kept gA
   replace hG:=d_ hG gA
   replace hX:=d_ hX gA
   clear gA
   go_simp
   generalize (tw3.alloc (.cells #[.slice none 0 0,.bool false] 26)) = tw4 at *
   generalize tw3.heap.size = pj at *
   have Bj:=Bj_
   clear Bj_
   refine hKQ.out _ _ (by exact ⟨(c_ Bb).1,(c_ Bb).2.1,(c_ Bg).1,(c_ Bg).2.1,(c_ Bd).1,(c_ Bd).2.1⟩) (fun hHeld=>?_)
   clear hKQ KQ
   try simp only [ly_]
   refine wpAnyH_ready (rs:=[2,6]) (by kernel_rfl) (by simp) ?_
   refine AllReadyH.cons rfl (fun KQ hKQ=>?_) (AllReadyH.cons rfl (fun KQ hKQ=>?_) AllReadyH.nil)
   focus
    go_simp
    go_at_call 70
    refine (HS1.out tw4 _ _ ib ig).mono ?_
    rintro e tw5 ⟨_,rfl,⟨sm,xm,bm,rfl,hm,vm,tm⟩,gtw5⟩
    have im : IntV tw5 (.agg #[.slice sm xm.length xm.length,.bool bm]) (D1):=⟨sm,xm,bm,rfl,hm,vm,tm⟩
    replace Bb:=a_ gtw5 Bb
    replace Bd:=a_ gtw5 Bd
    replace Bg:=a_ gtw5 Bg
    replace Bj:=a_ gtw5 Bj
    replace ib:=ib.kept gtw5
    replace id:=id.kept gtw5
    replace ig:=ig.kept gtw5
    replace hG:=d_ hG gtw5
    replace hX:=d_ hX gtw5
    clear gtw5
    clear hm vm tm
    (try go_wp2_with fail)
    refine hKQ.out _ _ (by exact ⟨(c_ Bb).1,(c_ Bb).2.1,(c_ Bg).1,(c_ Bg).2.1,(c_ Bd).1,(c_ Bd).2.1⟩) (fun hHeld=>?_)
    clear hKQ KQ
    try simp only [ly_]
    refine wpAnyH_ready (rs:=[5,6]) (by kernel_rfl) (by simp) ?_
    refine AllReadyH.cons rfl (fun KQ hKQ=>?_) (AllReadyH.cons rfl (fun KQ hKQ=>?_) AllReadyH.nil)
    focus
     go_simp
     go_at_call 70
     refine (HS2.out tw5 _ _ id ig).mono ?_
     rintro e tw6 ⟨_,rfl,⟨sp,xp,bp,rfl,hp,vp,tp⟩,gtw6⟩
     have ip : IntV tw6 (.agg #[.slice sp xp.length xp.length,.bool bp]) (F1):=⟨sp,xp,bp,rfl,hp,vp,tp⟩
     replace Bb:=a_ gtw6 Bb
     replace Bd:=a_ gtw6 Bd
     replace Bg:=a_ gtw6 Bg
     replace Bj:=a_ gtw6 Bj
     replace ib:=ib.kept gtw6
     replace id:=id.kept gtw6
     replace ig:=ig.kept gtw6
     replace im:=im.kept gtw6
     replace hG:=d_ hG gtw6
     replace hX:=d_ hX gtw6
     clear gtw6
     clear hp vp tp
     (try go_wp2_with fail)
     refine hKQ.out _ _ (by exact ⟨(c_ Bb).1,(c_ Bb).2.1,(c_ Bg).1,(c_ Bg).2.1,(c_ Bd).1,(c_ Bd).2.1⟩) (fun hHeld=>?_)
     clear hKQ KQ
     try simp only [ly_]
     refine o1_ 6 rfl (fun KQ hKQ=>?_)
     have gA:=wg_ tw6 (.cells #[.slice none 0 0,.bool false] 26) none
     have lohGe : w.heap.size ≤ tw6.heap.size:=hG.size
     have lohXe : w0.heap.size ≤ tw6.heap.size:=hX.size
     have ltbe : w.heap.size + 1 < tw6.heap.size:=g_ Bb
     have ltde : w.heap.size + 1 + 1 + 1 < tw6.heap.size:=g_ Bd
     have ltge : pg < tw6.heap.size:=g_ Bg
     have ltje : pj < tw6.heap.size:=g_ Bj
     have Be_:=f_ tw6 (.cells #[.slice none 0 0,.bool false] 26) tw6.heap.size rfl
     replace Bb:=a_ gA Bb
     replace Bd:=a_ gA Bd
     replace Bg:=a_ gA Bg
     replace Bj:=a_ gA Bj
     replace ib:=ib.kept gA
     replace id:=id.kept gA
     replace ig:=ig.kept gA
     replace im:=im.kept gA
     replace ip:=ip.kept gA
     replace hG:=d_ hG gA
     replace hX:=d_ hX gA
     clear gA
     go_simp
     generalize (tw6.alloc (.cells #[.slice none 0 0,.bool false] 26)) = tw7 at *
     generalize tw6.heap.size = pe at *
     have Be:=Be_
     clear Be_
     refine hKQ.out _ _ (by exact ⟨(c_ Bb).1,(c_ Bb).2.1,(c_ Bg).1,(c_ Bg).2.1,(c_ Bd).1,(c_ Bd).2.1⟩) (fun hHeld=>?_)
     clear hKQ KQ
     try simp only [ly_]
    rotate_left 1
    focus
     have gA:=wg_ tw5 (.cells #[.slice none 0 0,.bool false] 26) none
     have lohGe : w.heap.size ≤ tw5.heap.size:=hG.size
     have lohXe : w0.heap.size ≤ tw5.heap.size:=hX.size
     have ltbe : w.heap.size + 1 < tw5.heap.size:=g_ Bb
     have ltde : w.heap.size + 1 + 1 + 1 < tw5.heap.size:=g_ Bd
     have ltge : pg < tw5.heap.size:=g_ Bg
     have ltje : pj < tw5.heap.size:=g_ Bj
     have Be_:=f_ tw5 (.cells #[.slice none 0 0,.bool false] 26) tw5.heap.size rfl
     replace Bb:=a_ gA Bb
     replace Bd:=a_ gA Bd
     replace Bg:=a_ gA Bg
     replace Bj:=a_ gA Bj
     replace ib:=ib.kept gA
     replace id:=id.kept gA
     replace ig:=ig.kept gA
     replace im:=im.kept gA
     replace hG:=d_ hG gA
     replace hX:=d_ hX gA
     clear gA
     go_simp
     generalize (tw5.alloc (.cells #[.slice none 0 0,.bool false] 26)) = tw6 at *
     generalize tw5.heap.size = pe at *
     have Be:=Be_
     clear Be_
     refine hKQ.out _ _ (by exact ⟨(c_ Bb).1,(c_ Bb).2.1,(c_ Bg).1,(c_ Bg).2.1,(c_ Bd).1,(c_ Bd).2.1⟩) (fun hHeld=>?_)
     clear hKQ KQ
     try simp only [ly_]
     refine o1_ 5 rfl (fun KQ hKQ=>?_)
     go_simp
     go_at_call 70
     refine (HS2.out tw6 _ _ id ig).mono ?_
     rintro e tw7 ⟨_,rfl,⟨sp,xp,bp,rfl,hp,vp,tp⟩,gtw7⟩
     have ip : IntV tw7 (.agg #[.slice sp xp.length xp.length,.bool bp]) (F1):=⟨sp,xp,bp,rfl,hp,vp,tp⟩
     replace Bb:=a_ gtw7 Bb
     replace Bd:=a_ gtw7 Bd
     replace Bg:=a_ gtw7 Bg
     replace Bj:=a_ gtw7 Bj
     replace Be:=a_ gtw7 Be
     replace ib:=ib.kept gtw7
     replace id:=id.kept gtw7
     replace ig:=ig.kept gtw7
     replace im:=im.kept gtw7
     replace hG:=d_ hG gtw7
     replace hX:=d_ hX gtw7
     clear gtw7
     clear hp vp tp
     (try go_wp2_with fail)
     refine hKQ.out _ _ (by exact ⟨(c_ Bb).1,(c_ Bb).2.1,(c_ Bg).1,(c_ Bg).2.1,(c_ Bd).1,(c_ Bd).2.1⟩) (fun hHeld=>?_)
     clear hKQ KQ
     try simp only [ly_]
    rotate_left 1
   rotate_left 2
   focus
    have gA:=wg_ tw4 (.cells #[.slice none 0 0,.bool false] 26) none
    have lohGe : w.heap.size ≤ tw4.heap.size:=hG.size
    have lohXe : w0.heap.size ≤ tw4.heap.size:=hX.size
    have ltbe : w.heap.size + 1 < tw4.heap.size:=g_ Bb
    have ltde : w.heap.size + 1 + 1 + 1 < tw4.heap.size:=g_ Bd
    have ltge : pg < tw4.heap.size:=g_ Bg
    have ltje : pj < tw4.heap.size:=g_ Bj
    have Be_:=f_ tw4 (.cells #[.slice none 0 0,.bool false] 26) tw4.heap.size rfl
    replace Bb:=a_ gA Bb
    replace Bd:=a_ gA Bd
    replace Bg:=a_ gA Bg
    replace Bj:=a_ gA Bj
    replace ib:=ib.kept gA
    replace id:=id.kept gA
    replace ig:=ig.kept gA
    replace hG:=d_ hG gA
    replace hX:=d_ hX gA
    clear gA
    go_simp
    generalize (tw4.alloc (.cells #[.slice none 0 0,.bool false] 26)) = tw5 at *
    generalize tw4.heap.size = pe at *
    have Be:=Be_
    clear Be_
    refine hKQ.out _ _ (by exact ⟨(c_ Bb).1,(c_ Bb).2.1,(c_ Bg).1,(c_ Bg).2.1,(c_ Bd).1,(c_ Bd).2.1⟩) (fun hHeld=>?_)
    clear hKQ KQ
    try simp only [ly_]
    refine o1_ 2 rfl (fun KQ hKQ=>?_)
    go_simp
    go_at_call 70
    refine (HS1.out tw5 _ _ ib ig).mono ?_
    rintro e tw6 ⟨_,rfl,⟨sm,xm,bm,rfl,hm,vm,tm⟩,gtw6⟩
    have im : IntV tw6 (.agg #[.slice sm xm.length xm.length,.bool bm]) (D1):=⟨sm,xm,bm,rfl,hm,vm,tm⟩
    replace Bb:=a_ gtw6 Bb
    replace Bd:=a_ gtw6 Bd
    replace Bg:=a_ gtw6 Bg
    replace Bj:=a_ gtw6 Bj
    replace Be:=a_ gtw6 Be
    replace ib:=ib.kept gtw6
    replace id:=id.kept gtw6
    replace ig:=ig.kept gtw6
    replace hG:=d_ hG gtw6
    replace hX:=d_ hX gtw6
    clear gtw6
    clear hm vm tm
    (try go_wp2_with fail)
    refine hKQ.out _ _ (by exact ⟨(c_ Bb).1,(c_ Bb).2.1,(c_ Bg).1,(c_ Bg).2.1,(c_ Bd).1,(c_ Bd).2.1⟩) (fun hHeld=>?_)
    clear hKQ KQ
    try simp only [ly_]
    refine o1_ 5 rfl (fun KQ hKQ=>?_)
    go_simp
    go_at_call 70
    refine (HS2.out tw6 _ _ id ig).mono ?_
    rintro e tw7 ⟨_,rfl,⟨sp,xp,bp,rfl,hp,vp,tp⟩,gtw7⟩
    have ip : IntV tw7 (.agg #[.slice sp xp.length xp.length,.bool bp]) (F1):=⟨sp,xp,bp,rfl,hp,vp,tp⟩
    replace Bb:=a_ gtw7 Bb
    replace Bd:=a_ gtw7 Bd
    replace Bg:=a_ gtw7 Bg
    replace Bj:=a_ gtw7 Bj
    replace Be:=a_ gtw7 Be
    replace ib:=ib.kept gtw7
    replace id:=id.kept gtw7
    replace ig:=ig.kept gtw7
    replace im:=im.kept gtw7
    replace hG:=d_ hG gtw7
    replace hX:=d_ hX gtw7
    clear gtw7
    clear hp vp tp
    (try go_wp2_with fail)
    refine hKQ.out _ _ (by exact ⟨(c_ Bb).1,(c_ Bb).2.1,(c_ Bg).1,(c_ Bg).2.1,(c_ Bd).1,(c_ Bd).2.1⟩) (fun hHeld=>?_)
    clear hKQ KQ
    try simp only [ly_]
   rotate_left 1
  rotate_left 3
  all_goals (
   refine o1_ 8 rfl (fun KQ hKQ=>?_)
   obtain ⟨c0',c1',c2',c3'⟩:=c_ Be
   go_simp
   clear c0' c1' c2' c3'
   replace ib:=ib.set2 Be (.slice sm xm.length xm.length) (.bool bm)
   replace id:=id.set2 Be (.slice sm xm.length xm.length) (.bool bm)
   replace ig:=ig.set2 Be (.slice sm xm.length xm.length) (.bool bm)
   replace im:=im.set2 Be (.slice sm xm.length xm.length) (.bool bm)
   replace ip:=ip.set2 Be (.slice sm xm.length xm.length) (.bool bm)
   replace hG:=t_ (g:=pe) hG (by omega) (.slice sm xm.length xm.length) (.bool bm)
   replace hX:=t_ (g:=pe) hX (by omega) (.slice sm xm.length xm.length) (.bool bm)
   replace Bb:=e_ Bb (show w.heap.size + 1 ≠ pe by omega) (.slice sm xm.length xm.length) (.bool bm)
   replace Bd:=e_ Bd (show w.heap.size + 1 + 1 + 1 ≠ pe by omega) (.slice sm xm.length xm.length) (.bool bm)
   replace Bg:=e_ Bg (show pg ≠ pe by omega) (.slice sm xm.length xm.length) (.bool bm)
   replace Bj:=e_ Bj (show pj ≠ pe by omega) (.slice sm xm.length xm.length) (.bool bm)
   replace Be:=m_ Be (.slice sm xm.length xm.length) (.bool bm)
   generalize ((tw7.setCell ⟨pe,0,none⟩ (.slice sm xm.length xm.length)).setCell ⟨pe,1,none⟩ (.bool bm)) = tw8 at *
   refine hKQ.out _ _ (by exact ⟨(c_ Bb).1,(c_ Bb).2.1,(c_ Bg).1,(c_ Bg).2.1,(c_ Bd).1,(c_ Bd).2.1⟩) (fun hHeld=>?_)
   clear hKQ KQ
   try simp only [ly_]
   refine o1_ 9 rfl (fun KQ hKQ=>?_)
   obtain ⟨c0',c1',c2',c3'⟩:=c_ Bj
   go_simp
   clear c0' c1' c2' c3'
   replace ib:=ib.set2 Bj (.slice sp xp.length xp.length) (.bool bp)
   replace id:=id.set2 Bj (.slice sp xp.length xp.length) (.bool bp)
   replace ig:=ig.set2 Bj (.slice sp xp.length xp.length) (.bool bp)
   replace im:=im.set2 Bj (.slice sp xp.length xp.length) (.bool bp)
   replace ip:=ip.set2 Bj (.slice sp xp.length xp.length) (.bool bp)
   replace hG:=t_ (g:=pj) hG (by omega) (.slice sp xp.length xp.length) (.bool bp)
   replace hX:=t_ (g:=pj) hX (by omega) (.slice sp xp.length xp.length) (.bool bp)
   replace Bb:=e_ Bb (show w.heap.size + 1 ≠ pj by omega) (.slice sp xp.length xp.length) (.bool bp)
   replace Bd:=e_ Bd (show w.heap.size + 1 + 1 + 1 ≠ pj by omega) (.slice sp xp.length xp.length) (.bool bp)
   replace Bg:=e_ Bg (show pg ≠ pj by omega) (.slice sp xp.length xp.length) (.bool bp)
   replace Be:=e_ Be (show pe ≠ pj by omega) (.slice sp xp.length xp.length) (.bool bp)
   replace Bj:=m_ Bj (.slice sp xp.length xp.length) (.bool bp)
   generalize ((tw8.setCell ⟨pj,0,none⟩ (.slice sp xp.length xp.length)).setCell ⟨pj,1,none⟩ (.bool bp)) = tw9 at *
   refine hKQ.out _ _ (by exact ⟨(c_ Bb).1,(c_ Bb).2.1,(c_ Bg).1,(c_ Bg).2.1,(c_ Bd).1,(c_ Bd).2.1⟩) (fun hHeld=>?_)
   clear hKQ KQ
   try simp only [ly_]
   refine wpAnyH_done (by kernel_rfl) ?_ _
   go_wp2_with fail
   go_meet
   exact ⟨pe,pj,rfl,rfl,⟨_,_,_,Be,im⟩,⟨_,_,_,Bj,ip⟩,⟨_,_,_,Bg,ig⟩,by omega,by omega,by omega,hX⟩)
 case rest =>
  clear hG hX ia ib ic id ig Ba Bb Bc Bd Bq Bg
  obtain ⟨pe,pj,rfl,rfl,Ke,Kj,Kg,le,lj,lg,hX⟩:=hcut
  have hG:=d_ HG9.out hX
  have Ba:=a_ hX Ha9.out
  have Bb:=a_ hX Hb9.out
  have Bc:=a_ hX Hc9.out
  have Bd:=a_ hX Hd9.out
  have Bq:=a_ hX Hq9.out
  have ia:=Ia9.out.kept hX
  have ib:=Ib9.out.kept hX
  have ic:=Ic9.out.kept hX
  have id:=Id9.out.kept hX
  obtain ⟨se,xe,be,Be,ie⟩:=Ke.open
  obtain ⟨sj,xj,bj,Bj,ij⟩:=Kj.open
  obtain ⟨sg,xg,bg,Bg,ig⟩:=Kg.open
  obtain ⟨Ca0,Ca1,Fa0,Fa1⟩:=c_ Ba
  obtain ⟨Cb0,Cb1,Fb0,Fb1⟩:=c_ Bb
  obtain ⟨Cc0,Cc1,Fc0,Fc1⟩:=c_ Bc
  obtain ⟨Cd0,Cd1,Fd0,Fd1⟩:=c_ Bd
  obtain ⟨Cq0,Cq1,Cq2,Cq3,Fq0,Fq1,Fq2,Fq3⟩:=b_ Bq
  obtain ⟨Ce0,Ce1,Fe0,Fe1⟩:=c_ Be
  obtain ⟨Cj0,Cj1,Fj0,Fj1⟩:=c_ Bj
  obtain ⟨Cg0,Cg1,Fg0,Fg1⟩:=c_ Bg
  go_wp2_with fail
  go_cut [12] (fun p wx=>∃ py,p = .pointer (some ⟨py,0,none⟩) ∧ BoxZ wx py N ∧ BoxZ wx pe D1 ∧ BoxZ wx pg (G1 : Int) ∧ w.heap.size + 1 + 1 + 1 + 1 < py ∧ w0.grownBy wx none)
  case first =>
   have hs0:=HS0.out
   clear Ca0 Fa0 Ca1 Fa1 Cb0 Fb0 Cb1 Fb1 Cc0 Fc0 Cc1 Fc1 Cd0 Fd0 Cd1 Fd1 Cq0 Fq0 Cq1 Fq1 Cq2 Fq2 Cq3 Fq3 Ce0 Fe0 Ce1 Fe1 Cj0 Fj0 Cj1 Fj1 Cg0 Fg0 Cg1 Fg1
   clear Bb Bd Bq
   clear ib id
   obtain ⟨Ca0,Ca1,Fa0,Fa1⟩:=c_ Ba
   obtain ⟨Cc0,Cc1,Fc0,Fc1⟩:=c_ Bc
   obtain ⟨Ce0,Ce1,Fe0,Fe1⟩:=c_ Be
   obtain ⟨Cj0,Cj1,Fj0,Fj1⟩:=c_ Bj
   refine wp_region_held_drew (S:=fun w'=>w'.cell? ⟨w.heap.size,0,none⟩ = some (.slice sa xa.length xa.length) ∧ w'.cell? ⟨w.heap.size,1,none⟩ = some (.bool ba) ∧ w'.cell? ⟨pj,0,none⟩ = some (.slice sj xj.length xj.length) ∧ w'.cell? ⟨pj,1,none⟩ = some (.bool bj) ∧ w'.cell? ⟨w.heap.size + 1 + 1,0,none⟩ = some (.slice sc xc.length xc.length) ∧ w'.cell? ⟨w.heap.size + 1 + 1,1,none⟩ = some (.bool bc) ∧ w'.cell? ⟨pe,0,none⟩ = some (.slice se xe.length xe.length) ∧ w'.cell? ⟨pe,1,none⟩ = some (.bool be)) (by kernel_rfl) (by exact ⟨Ca0,Ca1,Cj0,Cj1,Cc0,Cc1,Ce0,Ce1⟩) (fun hHeld=>?_)
   have gd : wc.grownBy wc.drew none:=k_ (h_ _ _)
   clear Ca0 Fa0 Ca1 Fa1 Cc0 Fc0 Cc1 Fc1 Ce0 Fe0 Ce1 Fe1 Cj0 Fj0 Cj1 Fj1
   replace Ba:=a_ gd Ba
   replace Bc:=a_ gd Bc
   replace Be:=a_ gd Be
   replace Bj:=a_ gd Bj
   replace Bg:=a_ gd Bg
   replace ia:=ia.kept gd
   replace ic:=ic.kept gd
   replace ie:=ie.kept gd
   replace ij:=ij.kept gd
   replace ig:=ig.kept gd
   replace hG:=d_ hG gd
   replace hX:=d_ hX gd
   clear gd
   generalize wc.drew = mw3 at *
   refine tk_ 0 ?_ rfl ?_ ?_
   rotate_left
   · (intro w hSw; (try dsimp only at hSw); go_simp; (try with_reducible rfl))
   try simp only [ly_]
   refine tk_ 1 ?_ rfl ?_ ?_
   rotate_left
   · (intro w hSw; (try dsimp only at hSw); go_simp; (try with_reducible rfl))
   try simp only [ly_]
   refine tk_ 3 ?_ rfl ?_ ?_
   rotate_left
   · (intro w hSw; (try dsimp only at hSw); go_simp; (try with_reducible rfl))
   try simp only [ly_]
   refine tk_ 4 ?_ rfl ?_ ?_
   rotate_left
   · (intro w hSw; (try dsimp only at hSw); go_simp; (try with_reducible rfl))
   try simp only [ly_]
   refine wpAnyH_ready (rs:=[2,7]) (by kernel_rfl) (by simp) ?_
   refine AllReadyH.cons rfl (fun KQ hKQ=>?_) (AllReadyH.cons rfl (fun KQ hKQ=>?_) AllReadyH.nil)
   focus
    go_simp
    go_at_call 75
    refine (Y_ mw3 _ _ r.num F1 K ia ij (by omega) HLN.out HB2.out).mono ?_
    rintro e mw4 ⟨_,rfl,⟨sm,xm,bm,rfl,hm,vm,tm⟩,gmw4⟩
    have im : IntV mw4 (.agg #[.slice sm xm.length xm.length,.bool bm]) (r.num * F1):=⟨sm,xm,bm,rfl,hm,vm,tm⟩
    replace Ba:=a_ gmw4 Ba
    replace Bc:=a_ gmw4 Bc
    replace Be:=a_ gmw4 Be
    replace Bj:=a_ gmw4 Bj
    replace Bg:=a_ gmw4 Bg
    replace ia:=ia.kept gmw4
    replace ic:=ic.kept gmw4
    replace ie:=ie.kept gmw4
    replace ij:=ij.kept gmw4
    replace ig:=ig.kept gmw4
    replace hG:=d_ hG gmw4
    replace hX:=d_ hX gmw4
    clear gmw4
    clear hm vm tm
    (try go_wp2_with fail)
    refine hKQ.out _ _ (by exact ⟨(c_ Ba).1,(c_ Ba).2.1,(c_ Bj).1,(c_ Bj).2.1,(c_ Bc).1,(c_ Bc).2.1,(c_ Be).1,(c_ Be).2.1⟩) (fun hHeld=>?_)
    clear hKQ KQ
    try simp only [ly_]
    refine wpAnyH_ready (rs:=[5,7]) (by kernel_rfl) (by simp) ?_
    refine AllReadyH.cons rfl (fun KQ hKQ=>?_) (AllReadyH.cons rfl (fun KQ hKQ=>?_) AllReadyH.nil)
    focus
     go_simp
     go_at_call 75
     refine (Y_ mw4 _ _ t.num D1 K ic ie (by omega) HMN.out HB1.out).mono ?_
     rintro e mw5 ⟨_,rfl,⟨sp,xp,bp,rfl,hp,vp,tp⟩,gmw5⟩
     have ip : IntV mw5 (.agg #[.slice sp xp.length xp.length,.bool bp]) (t.num * D1):=⟨sp,xp,bp,rfl,hp,vp,tp⟩
     replace Ba:=a_ gmw5 Ba
     replace Bc:=a_ gmw5 Bc
     replace Be:=a_ gmw5 Be
     replace Bj:=a_ gmw5 Bj
     replace Bg:=a_ gmw5 Bg
     replace ia:=ia.kept gmw5
     replace ic:=ic.kept gmw5
     replace ie:=ie.kept gmw5
     replace ij:=ij.kept gmw5
     replace ig:=ig.kept gmw5
     replace im:=im.kept gmw5
     replace hG:=d_ hG gmw5
     replace hX:=d_ hX gmw5
     clear gmw5
     clear hp vp tp
     (try go_wp2_with fail)
     refine hKQ.out _ _ (by exact ⟨(c_ Ba).1,(c_ Ba).2.1,(c_ Bj).1,(c_ Bj).2.1,(c_ Bc).1,(c_ Bc).2.1,(c_ Be).1,(c_ Be).2.1⟩) (fun hHeld=>?_)
     clear hKQ KQ
     try simp only [ly_]
     refine wpAnyH_ready (rs:=[6,7]) (by kernel_rfl) (by simp) ?_
     refine AllReadyH.cons rfl (fun KQ hKQ=>?_) (AllReadyH.cons rfl (fun KQ hKQ=>?_) AllReadyH.nil)
     focus
      go_simp
      go_at_call 49
      refine (aP_ mw5 _ _ (r.num * F1) (t.num * D1) (K + K) im ip (by omega) HB3.out HB4.out).mono ?_
      rintro e mw6 ⟨_,rfl,⟨su,xu,bu,rfl,hu,vu,tu⟩,gmw6⟩
      rw [HN.out] at *
      have iu : IntV mw6 (.agg #[.slice su xu.length xu.length,.bool bu]) (N):=⟨su,xu,bu,rfl,hu,vu,tu⟩
      replace Ba:=a_ gmw6 Ba
      replace Bc:=a_ gmw6 Bc
      replace Be:=a_ gmw6 Be
      replace Bj:=a_ gmw6 Bj
      replace Bg:=a_ gmw6 Bg
      replace ia:=ia.kept gmw6
      replace ic:=ic.kept gmw6
      replace ie:=ie.kept gmw6
      replace ij:=ij.kept gmw6
      replace ig:=ig.kept gmw6
      replace im:=im.kept gmw6
      replace ip:=ip.kept gmw6
      replace hG:=d_ hG gmw6
      replace hX:=d_ hX gmw6
      clear gmw6
      clear hu vu tu
      (try go_wp2_with fail)
      refine hKQ.out _ _ (by exact ⟨(c_ Ba).1,(c_ Ba).2.1,(c_ Bj).1,(c_ Bj).2.1,(c_ Bc).1,(c_ Bc).2.1,(c_ Be).1,(c_ Be).2.1⟩) (fun hHeld=>?_)
      clear hKQ KQ
      try simp only [ly_]
      refine o1_ 7 rfl (fun KQ hKQ=>?_)
      have gA:=wg_ mw6 (.cells #[.slice none 0 0,.bool false] 26) none
      have lohGy : w.heap.size ≤ mw6.heap.size:=hG.size
      have lohXy : w0.heap.size ≤ mw6.heap.size:=hX.size
      have ltay : w.heap.size < mw6.heap.size:=g_ Ba
      have ltcy : w.heap.size + 1 + 1 < mw6.heap.size:=g_ Bc
      have ltey : pe < mw6.heap.size:=g_ Be
      have ltjy : pj < mw6.heap.size:=g_ Bj
      have ltgy : pg < mw6.heap.size:=g_ Bg
      have By_:=f_ mw6 (.cells #[.slice none 0 0,.bool false] 26) mw6.heap.size rfl
      replace Ba:=a_ gA Ba
      replace Bc:=a_ gA Bc
      replace Be:=a_ gA Be
      replace Bj:=a_ gA Bj
      replace Bg:=a_ gA Bg
      replace ia:=ia.kept gA
      replace ic:=ic.kept gA
      replace ie:=ie.kept gA
      replace ij:=ij.kept gA
      replace ig:=ig.kept gA
      replace im:=im.kept gA
      replace ip:=ip.kept gA
      replace iu:=iu.kept gA
      replace hG:=d_ hG gA
      replace hX:=d_ hX gA
      clear gA
      go_simp
      generalize (mw6.alloc (.cells #[.slice none 0 0,.bool false] 26)) = mw7 at *
      generalize mw6.heap.size = py at *
      have By:=By_
      clear By_
      refine hKQ.out _ _ (by exact ⟨(c_ Ba).1,(c_ Ba).2.1,(c_ Bj).1,(c_ Bj).2.1,(c_ Bc).1,(c_ Bc).2.1,(c_ Be).1,(c_ Be).2.1⟩) (fun hHeld=>?_)
      clear hKQ KQ
      try simp only [ly_]
     rotate_left 1
     focus
      have gA:=wg_ mw5 (.cells #[.slice none 0 0,.bool false] 26) none
      have lohGy : w.heap.size ≤ mw5.heap.size:=hG.size
      have lohXy : w0.heap.size ≤ mw5.heap.size:=hX.size
      have ltay : w.heap.size < mw5.heap.size:=g_ Ba
      have ltcy : w.heap.size + 1 + 1 < mw5.heap.size:=g_ Bc
      have ltey : pe < mw5.heap.size:=g_ Be
      have ltjy : pj < mw5.heap.size:=g_ Bj
      have ltgy : pg < mw5.heap.size:=g_ Bg
      have By_:=f_ mw5 (.cells #[.slice none 0 0,.bool false] 26) mw5.heap.size rfl
      replace Ba:=a_ gA Ba
      replace Bc:=a_ gA Bc
      replace Be:=a_ gA Be
      replace Bj:=a_ gA Bj
      replace Bg:=a_ gA Bg
      replace ia:=ia.kept gA
      replace ic:=ic.kept gA
      replace ie:=ie.kept gA
      replace ij:=ij.kept gA
      replace ig:=ig.kept gA
      replace im:=im.kept gA
      replace ip:=ip.kept gA
      replace hG:=d_ hG gA
      replace hX:=d_ hX gA
      clear gA
      go_simp
      generalize (mw5.alloc (.cells #[.slice none 0 0,.bool false] 26)) = mw6 at *
      generalize mw5.heap.size = py at *
      have By:=By_
      clear By_
      refine hKQ.out _ _ (by exact ⟨(c_ Ba).1,(c_ Ba).2.1,(c_ Bj).1,(c_ Bj).2.1,(c_ Bc).1,(c_ Bc).2.1,(c_ Be).1,(c_ Be).2.1⟩) (fun hHeld=>?_)
      clear hKQ KQ
      try simp only [ly_]
      refine o1_ 6 rfl (fun KQ hKQ=>?_)
      go_simp
      go_at_call 49
      refine (aP_ mw6 _ _ (r.num * F1) (t.num * D1) (K + K) im ip (by omega) HB3.out HB4.out).mono ?_
      rintro e mw7 ⟨_,rfl,⟨su,xu,bu,rfl,hu,vu,tu⟩,gmw7⟩
      rw [HN.out] at *
      have iu : IntV mw7 (.agg #[.slice su xu.length xu.length,.bool bu]) (N):=⟨su,xu,bu,rfl,hu,vu,tu⟩
      replace Ba:=a_ gmw7 Ba
      replace Bc:=a_ gmw7 Bc
      replace Be:=a_ gmw7 Be
      replace Bj:=a_ gmw7 Bj
      replace Bg:=a_ gmw7 Bg
      replace By:=a_ gmw7 By
      replace ia:=ia.kept gmw7
      replace ic:=ic.kept gmw7
      replace ie:=ie.kept gmw7
      replace ij:=ij.kept gmw7
      replace ig:=ig.kept gmw7
      replace im:=im.kept gmw7
      replace ip:=ip.kept gmw7
      replace hG:=d_ hG gmw7
      replace hX:=d_ hX gmw7
      clear gmw7
      clear hu vu tu
      (try go_wp2_with fail)
      refine hKQ.out _ _ (by exact ⟨(c_ Ba).1,(c_ Ba).2.1,(c_ Bj).1,(c_ Bj).2.1,(c_ Bc).1,(c_ Bc).2.1,(c_ Be).1,(c_ Be).2.1⟩) (fun hHeld=>?_)
      clear hKQ KQ
      try simp only [ly_]
     rotate_left 1
    rotate_left 2
    focus
     have gA:=wg_ mw4 (.cells #[.slice none 0 0,.bool false] 26) none
     have lohGy : w.heap.size ≤ mw4.heap.size:=hG.size
     have lohXy : w0.heap.size ≤ mw4.heap.size:=hX.size
     have ltay : w.heap.size < mw4.heap.size:=g_ Ba
     have ltcy : w.heap.size + 1 + 1 < mw4.heap.size:=g_ Bc
     have ltey : pe < mw4.heap.size:=g_ Be
     have ltjy : pj < mw4.heap.size:=g_ Bj
     have ltgy : pg < mw4.heap.size:=g_ Bg
     have By_:=f_ mw4 (.cells #[.slice none 0 0,.bool false] 26) mw4.heap.size rfl
     replace Ba:=a_ gA Ba
     replace Bc:=a_ gA Bc
     replace Be:=a_ gA Be
     replace Bj:=a_ gA Bj
     replace Bg:=a_ gA Bg
     replace ia:=ia.kept gA
     replace ic:=ic.kept gA
     replace ie:=ie.kept gA
     replace ij:=ij.kept gA
     replace ig:=ig.kept gA
     replace im:=im.kept gA
     replace hG:=d_ hG gA
     replace hX:=d_ hX gA
     clear gA
     go_simp
     generalize (mw4.alloc (.cells #[.slice none 0 0,.bool false] 26)) = mw5 at *
     generalize mw4.heap.size = py at *
     have By:=By_
     clear By_
     refine hKQ.out _ _ (by exact ⟨(c_ Ba).1,(c_ Ba).2.1,(c_ Bj).1,(c_ Bj).2.1,(c_ Bc).1,(c_ Bc).2.1,(c_ Be).1,(c_ Be).2.1⟩) (fun hHeld=>?_)
     clear hKQ KQ
     try simp only [ly_]
     refine o1_ 5 rfl (fun KQ hKQ=>?_)
     go_simp
     go_at_call 75
     refine (Y_ mw5 _ _ t.num D1 K ic ie (by omega) HMN.out HB1.out).mono ?_
     rintro e mw6 ⟨_,rfl,⟨sp,xp,bp,rfl,hp,vp,tp⟩,gmw6⟩
     have ip : IntV mw6 (.agg #[.slice sp xp.length xp.length,.bool bp]) (t.num * D1):=⟨sp,xp,bp,rfl,hp,vp,tp⟩
     replace Ba:=a_ gmw6 Ba
     replace Bc:=a_ gmw6 Bc
     replace Be:=a_ gmw6 Be
     replace Bj:=a_ gmw6 Bj
     replace Bg:=a_ gmw6 Bg
     replace By:=a_ gmw6 By
     replace ia:=ia.kept gmw6
     replace ic:=ic.kept gmw6
     replace ie:=ie.kept gmw6
     replace ij:=ij.kept gmw6
     replace ig:=ig.kept gmw6
     replace im:=im.kept gmw6
     replace hG:=d_ hG gmw6
     replace hX:=d_ hX gmw6
     clear gmw6
     clear hp vp tp
     (try go_wp2_with fail)
     refine hKQ.out _ _ (by exact ⟨(c_ Ba).1,(c_ Ba).2.1,(c_ Bj).1,(c_ Bj).2.1,(c_ Bc).1,(c_ Bc).2.1,(c_ Be).1,(c_ Be).2.1⟩) (fun hHeld=>?_)
     clear hKQ KQ
     try simp only [ly_]
     refine o1_ 6 rfl (fun KQ hKQ=>?_)
     go_simp
     go_at_call 49
     refine (aP_ mw6 _ _ (r.num * F1) (t.num * D1) (K + K) im ip (by omega) HB3.out HB4.out).mono ?_
     rintro e mw7 ⟨_,rfl,⟨su,xu,bu,rfl,hu,vu,tu⟩,gmw7⟩
     rw [HN.out] at *
     have iu : IntV mw7 (.agg #[.slice su xu.length xu.length,.bool bu]) (N):=⟨su,xu,bu,rfl,hu,vu,tu⟩
     replace Ba:=a_ gmw7 Ba
     replace Bc:=a_ gmw7 Bc
     replace Be:=a_ gmw7 Be
     replace Bj:=a_ gmw7 Bj
     replace Bg:=a_ gmw7 Bg
     replace By:=a_ gmw7 By
     replace ia:=ia.kept gmw7
     replace ic:=ic.kept gmw7
     replace ie:=ie.kept gmw7
     replace ij:=ij.kept gmw7
     replace ig:=ig.kept gmw7
     replace im:=im.kept gmw7
     replace ip:=ip.kept gmw7
     replace hG:=d_ hG gmw7
     replace hX:=d_ hX gmw7
     clear gmw7
     clear hu vu tu
     (try go_wp2_with fail)
     refine hKQ.out _ _ (by exact ⟨(c_ Ba).1,(c_ Ba).2.1,(c_ Bj).1,(c_ Bj).2.1,(c_ Bc).1,(c_ Bc).2.1,(c_ Be).1,(c_ Be).2.1⟩) (fun hHeld=>?_)
     clear hKQ KQ
     try simp only [ly_]
    rotate_left 1
   rotate_left 3
   focus
    have gA:=wg_ mw3 (.cells #[.slice none 0 0,.bool false] 26) none
    have lohGy : w.heap.size ≤ mw3.heap.size:=hG.size
    have lohXy : w0.heap.size ≤ mw3.heap.size:=hX.size
    have ltay : w.heap.size < mw3.heap.size:=g_ Ba
    have ltcy : w.heap.size + 1 + 1 < mw3.heap.size:=g_ Bc
    have ltey : pe < mw3.heap.size:=g_ Be
    have ltjy : pj < mw3.heap.size:=g_ Bj
    have ltgy : pg < mw3.heap.size:=g_ Bg
    have By_:=f_ mw3 (.cells #[.slice none 0 0,.bool false] 26) mw3.heap.size rfl
    replace Ba:=a_ gA Ba
    replace Bc:=a_ gA Bc
    replace Be:=a_ gA Be
    replace Bj:=a_ gA Bj
    replace Bg:=a_ gA Bg
    replace ia:=ia.kept gA
    replace ic:=ic.kept gA
    replace ie:=ie.kept gA
    replace ij:=ij.kept gA
    replace ig:=ig.kept gA
    replace hG:=d_ hG gA
    replace hX:=d_ hX gA
    clear gA
    go_simp
    generalize (mw3.alloc (.cells #[.slice none 0 0,.bool false] 26)) = mw4 at *
    generalize mw3.heap.size = py at *
    have By:=By_
    clear By_
    refine hKQ.out _ _ (by exact ⟨(c_ Ba).1,(c_ Ba).2.1,(c_ Bj).1,(c_ Bj).2.1,(c_ Bc).1,(c_ Bc).2.1,(c_ Be).1,(c_ Be).2.1⟩) (fun hHeld=>?_)
    clear hKQ KQ
    try simp only [ly_]
    refine o1_ 2 rfl (fun KQ hKQ=>?_)
    go_simp
    go_at_call 75
    refine (Y_ mw4 _ _ r.num F1 K ia ij (by omega) HLN.out HB2.out).mono ?_
    rintro e mw5 ⟨_,rfl,⟨sm,xm,bm,rfl,hm,vm,tm⟩,gmw5⟩
    have im : IntV mw5 (.agg #[.slice sm xm.length xm.length,.bool bm]) (r.num * F1):=⟨sm,xm,bm,rfl,hm,vm,tm⟩
    replace Ba:=a_ gmw5 Ba
    replace Bc:=a_ gmw5 Bc
    replace Be:=a_ gmw5 Be
    replace Bj:=a_ gmw5 Bj
    replace Bg:=a_ gmw5 Bg
    replace By:=a_ gmw5 By
    replace ia:=ia.kept gmw5
    replace ic:=ic.kept gmw5
    replace ie:=ie.kept gmw5
    replace ij:=ij.kept gmw5
    replace ig:=ig.kept gmw5
    replace hG:=d_ hG gmw5
    replace hX:=d_ hX gmw5
    clear gmw5
    clear hm vm tm
    (try go_wp2_with fail)
    refine hKQ.out _ _ (by exact ⟨(c_ Ba).1,(c_ Ba).2.1,(c_ Bj).1,(c_ Bj).2.1,(c_ Bc).1,(c_ Bc).2.1,(c_ Be).1,(c_ Be).2.1⟩) (fun hHeld=>?_)
    clear hKQ KQ
    try simp only [ly_]
    refine o1_ 5 rfl (fun KQ hKQ=>?_)
    go_simp
    go_at_call 75
    refine (Y_ mw5 _ _ t.num D1 K ic ie (by omega) HMN.out HB1.out).mono ?_
    rintro e mw6 ⟨_,rfl,⟨sp,xp,bp,rfl,hp,vp,tp⟩,gmw6⟩
    have ip : IntV mw6 (.agg #[.slice sp xp.length xp.length,.bool bp]) (t.num * D1):=⟨sp,xp,bp,rfl,hp,vp,tp⟩
    replace Ba:=a_ gmw6 Ba
    replace Bc:=a_ gmw6 Bc
    replace Be:=a_ gmw6 Be
    replace Bj:=a_ gmw6 Bj
    replace Bg:=a_ gmw6 Bg
    replace By:=a_ gmw6 By
    replace ia:=ia.kept gmw6
    replace ic:=ic.kept gmw6
    replace ie:=ie.kept gmw6
    replace ij:=ij.kept gmw6
    replace ig:=ig.kept gmw6
    replace im:=im.kept gmw6
    replace hG:=d_ hG gmw6
    replace hX:=d_ hX gmw6
    clear gmw6
    clear hp vp tp
    (try go_wp2_with fail)
    refine hKQ.out _ _ (by exact ⟨(c_ Ba).1,(c_ Ba).2.1,(c_ Bj).1,(c_ Bj).2.1,(c_ Bc).1,(c_ Bc).2.1,(c_ Be).1,(c_ Be).2.1⟩) (fun hHeld=>?_)
    clear hKQ KQ
    try simp only [ly_]
    refine o1_ 6 rfl (fun KQ hKQ=>?_)
    go_simp
    go_at_call 49
    refine (aP_ mw6 _ _ (r.num * F1) (t.num * D1) (K + K) im ip (by omega) HB3.out HB4.out).mono ?_
    rintro e mw7 ⟨_,rfl,⟨su,xu,bu,rfl,hu,vu,tu⟩,gmw7⟩
    rw [HN.out] at *
    have iu : IntV mw7 (.agg #[.slice su xu.length xu.length,.bool bu]) (N):=⟨su,xu,bu,rfl,hu,vu,tu⟩
    replace Ba:=a_ gmw7 Ba
    replace Bc:=a_ gmw7 Bc
    replace Be:=a_ gmw7 Be
    replace Bj:=a_ gmw7 Bj
    replace Bg:=a_ gmw7 Bg
    replace By:=a_ gmw7 By
    replace ia:=ia.kept gmw7
    replace ic:=ic.kept gmw7
    replace ie:=ie.kept gmw7
    replace ij:=ij.kept gmw7
    replace ig:=ig.kept gmw7
    replace im:=im.kept gmw7
    replace ip:=ip.kept gmw7
    replace hG:=d_ hG gmw7
    replace hX:=d_ hX gmw7
    clear gmw7
    clear hu vu tu
    (try go_wp2_with fail)
    refine hKQ.out _ _ (by exact ⟨(c_ Ba).1,(c_ Ba).2.1,(c_ Bj).1,(c_ Bj).2.1,(c_ Bc).1,(c_ Bc).2.1,(c_ Be).1,(c_ Be).2.1⟩) (fun hHeld=>?_)
    clear hKQ KQ
    try simp only [ly_]
   rotate_left 1
   all_goals (
    refine o1_ 8 rfl (fun KQ hKQ=>?_)
    obtain ⟨c0',c1',c2',c3'⟩:=c_ By
    go_simp
    clear c0' c1' c2' c3'
    replace ia:=ia.set2 By (.slice su xu.length xu.length) (.bool bu)
    replace ic:=ic.set2 By (.slice su xu.length xu.length) (.bool bu)
    replace ie:=ie.set2 By (.slice su xu.length xu.length) (.bool bu)
    replace ij:=ij.set2 By (.slice su xu.length xu.length) (.bool bu)
    replace ig:=ig.set2 By (.slice su xu.length xu.length) (.bool bu)
    replace im:=im.set2 By (.slice su xu.length xu.length) (.bool bu)
    replace ip:=ip.set2 By (.slice su xu.length xu.length) (.bool bu)
    replace iu:=iu.set2 By (.slice su xu.length xu.length) (.bool bu)
    replace hG:=t_ (g:=py) hG (by omega) (.slice su xu.length xu.length) (.bool bu)
    replace hX:=t_ (g:=py) hX (by omega) (.slice su xu.length xu.length) (.bool bu)
    replace Ba:=e_ Ba (show w.heap.size ≠ py by omega) (.slice su xu.length xu.length) (.bool bu)
    replace Bc:=e_ Bc (show w.heap.size + 1 + 1 ≠ py by omega) (.slice su xu.length xu.length) (.bool bu)
    replace Be:=e_ Be (show pe ≠ py by omega) (.slice su xu.length xu.length) (.bool bu)
    replace Bj:=e_ Bj (show pj ≠ py by omega) (.slice su xu.length xu.length) (.bool bu)
    replace Bg:=e_ Bg (show pg ≠ py by omega) (.slice su xu.length xu.length) (.bool bu)
    replace By:=m_ By (.slice su xu.length xu.length) (.bool bu)
    generalize ((mw7.setCell ⟨py,0,none⟩ (.slice su xu.length xu.length)).setCell ⟨py,1,none⟩ (.bool bu)) = mw8 at *
    refine hKQ.out _ _ (by exact ⟨(c_ Ba).1,(c_ Ba).2.1,(c_ Bj).1,(c_ Bj).2.1,(c_ Bc).1,(c_ Bc).2.1,(c_ Be).1,(c_ Be).2.1⟩) (fun hHeld=>?_)
    clear hKQ KQ
    try simp only [ly_]
    refine wpAnyH_done (by kernel_rfl) ?_ _
    go_wp2_with fail
    go_meet
    exact ⟨py,rfl,⟨_,_,_,By,iu⟩,⟨_,_,_,Be,ie⟩,⟨_,_,_,Bg,ig⟩,by omega,hX⟩)
  case rest =>
   clear hG hX ia ib ic id ie ij ig Ba Bb Bc Bd Bq Be Bj Bg
   obtain ⟨pk,rfl,Kk,Ke,Kg,lk,hX⟩:=hcut
   have hG:=d_ HG9.out hX
   have Ba:=a_ hX Ha9.out
   have Bb:=a_ hX Hb9.out
   have Bc:=a_ hX Hc9.out
   have Bd:=a_ hX Hd9.out
   have Bq:=a_ hX Hq9.out
   have ia:=Ia9.out.kept hX
   have ib:=Ib9.out.kept hX
   have ic:=Ic9.out.kept hX
   have id:=Id9.out.kept hX
   obtain ⟨sk,xk,bk,Bk,ik⟩:=Kk.open
   obtain ⟨se,xe,be,Be,ie⟩:=Ke.open
   obtain ⟨sg,xg,bg,Bg,ig⟩:=Kg.open
   obtain ⟨Ca0,Ca1,Fa0,Fa1⟩:=c_ Ba
   obtain ⟨Cb0,Cb1,Fb0,Fb1⟩:=c_ Bb
   obtain ⟨Cc0,Cc1,Fc0,Fc1⟩:=c_ Bc
   obtain ⟨Cd0,Cd1,Fd0,Fd1⟩:=c_ Bd
   obtain ⟨Cq0,Cq1,Cq2,Cq3,Fq0,Fq1,Fq2,Fq3⟩:=b_ Bq
   obtain ⟨Ck0,Ck1,Fk0,Fk1⟩:=c_ Bk
   obtain ⟨Ce0,Ce1,Fe0,Fe1⟩:=c_ Be
   obtain ⟨Cg0,Cg1,Fg0,Fg1⟩:=c_ Bg
   go_wp2_with fail
   clear Ca0 Fa0 Ca1 Fa1 Cb0 Fb0 Cb1 Fb1 Cc0 Fc0 Cc1 Fc1 Cd0 Fd0 Cd1 Fd1 Cq0 Fq0 Cq1 Fq1 Cq2 Fq2 Cq3 Fq3 Ck0 Fk0 Ck1 Fk1 Ce0 Fe0 Ce1 Fe1 Cg0 Fg0 Cg1 Fg1
   refine (HC2.out wc _ _ ik ig (HTB.out _ hG)).mono ?_
   rintro e w3 ⟨_,rfl,⟨sl,xl,bl,rfl,hl,vl,tl⟩,gw3⟩
   have il : IntV w3 (.agg #[.slice sl xl.length xl.length,.bool bl]) ((G2 : Int)):=⟨sl,xl,bl,rfl,hl,vl,tl⟩
   replace Ba:=a_ gw3 Ba
   replace Bb:=a_ gw3 Bb
   replace Bc:=a_ gw3 Bc
   replace Bd:=a_ gw3 Bd
   replace Bq:=a_ gw3 Bq
   replace Bk:=a_ gw3 Bk
   replace Be:=a_ gw3 Be
   replace Bg:=a_ gw3 Bg
   replace id:=id.kept gw3
   replace ik:=ik.kept gw3
   replace ie:=ie.kept gw3
   replace hG:=d_ hG gw3
   clear gw3
   clear hl vl tl
   obtain ⟨Ca0,Ca1,Fa0,Fa1⟩:=c_ Ba
   obtain ⟨Cb0,Cb1,Fb0,Fb1⟩:=c_ Bb
   obtain ⟨Cc0,Cc1,Fc0,Fc1⟩:=c_ Bc
   obtain ⟨Cd0,Cd1,Fd0,Fd1⟩:=c_ Bd
   obtain ⟨Cq0,Cq1,Cq2,Cq3,Fq0,Fq1,Fq2,Fq3⟩:=b_ Bq
   obtain ⟨Ck0,Ck1,Fk0,Fk1⟩:=c_ Bk
   obtain ⟨Ce0,Ce1,Fe0,Fe1⟩:=c_ Be
   obtain ⟨Cg0,Cg1,Fg0,Fg1⟩:=c_ Bg
   have gbw3:=(wg_ w3 (.cells #[.slice sl xl.length xl.length,.bool bl] 26) none)
   have Bl:=(f_ w3 (.cells #[.slice sl xl.length xl.length,.bool bl] 26) (w3.heap.size) rfl)
   have hzw3 : Hid (w.heap.size ≤ w3.heap.size):=H_ hG.size
   have hlaw3 : Hid (w.heap.size < w3.heap.size):=H_ (Array.getElem?_eq_some_iff.1 Ba).1
   have hlbw3 : Hid (w.heap.size + 1 < w3.heap.size):=H_ (Array.getElem?_eq_some_iff.1 Bb).1
   have hlcw3 : Hid (w.heap.size + 1 + 1 < w3.heap.size):=H_ (Array.getElem?_eq_some_iff.1 Bc).1
   have hldw3 : Hid (w.heap.size + 1 + 1 + 1 < w3.heap.size):=H_ (Array.getElem?_eq_some_iff.1 Bd).1
   have hlqw3 : Hid (w.heap.size + 1 + 1 + 1 + 1 < w3.heap.size):=H_ (Array.getElem?_eq_some_iff.1 Bq).1
   have hlkw3 : Hid (pk < w3.heap.size):=H_ (Array.getElem?_eq_some_iff.1 Bk).1
   have hlew3 : Hid (pe < w3.heap.size):=H_ (Array.getElem?_eq_some_iff.1 Be).1
   have hlgw3 : Hid (pg < w3.heap.size):=H_ (Array.getElem?_eq_some_iff.1 Bg).1
   clear Ca0 Fa0 Ca1 Fa1 Cb0 Fb0 Cb1 Fb1 Cc0 Fc0 Cc1 Fc1 Cd0 Fd0 Cd1 Fd1 Cq0 Fq0 Cq1 Fq1 Cq2 Fq2 Cq3 Fq3 Ck0 Fk0 Ck1 Fk1 Ce0 Fe0 Ce1 Fe1 Cg0 Fg0 Cg1 Fg1
   replace Ba:=a_ gbw3 Ba
   replace Bb:=a_ gbw3 Bb
   replace Bc:=a_ gbw3 Bc
   replace Bd:=a_ gbw3 Bd
   replace Bq:=a_ gbw3 Bq
   replace Bk:=a_ gbw3 Bk
   replace Be:=a_ gbw3 Be
   replace Bg:=a_ gbw3 Bg
   replace id:=id.kept gbw3
   replace ik:=ik.kept gbw3
   replace ie:=ie.kept gbw3
   replace il:=il.kept gbw3
   replace hG:=d_ hG gbw3
   clear gbw3
   obtain ⟨Ca0,Ca1,Fa0,Fa1⟩:=c_ Ba
   obtain ⟨Cb0,Cb1,Fb0,Fb1⟩:=c_ Bb
   obtain ⟨Cc0,Cc1,Fc0,Fc1⟩:=c_ Bc
   obtain ⟨Cd0,Cd1,Fd0,Fd1⟩:=c_ Bd
   obtain ⟨Cq0,Cq1,Cq2,Cq3,Fq0,Fq1,Fq2,Fq3⟩:=b_ Bq
   obtain ⟨Ck0,Ck1,Fk0,Fk1⟩:=c_ Bk
   obtain ⟨Ce0,Ce1,Fe0,Fe1⟩:=c_ Be
   obtain ⟨Cg0,Cg1,Fg0,Fg1⟩:=c_ Bg
   obtain ⟨Cl0,Cl1,Fl0,Fl1⟩:=c_ Bl
   go_wp2_with fail
   generalize (w3.alloc (.cells #[.slice sl xl.length xl.length,.bool bl] 26)) = w4 at *
   generalize w3.heap.size = aw3 at *
   replace hzw3:=hzw3.out
   replace hlaw3:=hlaw3.out
   replace hlbw3:=hlbw3.out
   replace hlcw3:=hlcw3.out
   replace hldw3:=hldw3.out
   replace hlqw3:=hlqw3.out
   replace hlkw3:=hlkw3.out
   replace hlew3:=hlew3.out
   replace hlgw3:=hlgw3.out
   generalize aw3 = pl at *
   have hs0:=HS0.out
   go_region_held3 (fun w'=>w'.cell? ⟨pk,0,none⟩ = some (.slice sk xk.length xk.length) ∧ w'.cell? ⟨pk,1,none⟩ = some (.bool bk) ∧ w'.cell? ⟨pl,0,none⟩ = some (.slice sl xl.length xl.length) ∧ w'.cell? ⟨pl,1,none⟩ = some (.bool bl) ∧ w'.cell? ⟨pe,0,none⟩ = some (.slice se xe.length xe.length) ∧ w'.cell? ⟨pe,1,none⟩ = some (.bool be) ∧ w'.cell? ⟨w.heap.size + 1 + 1 + 1,0,none⟩ = some (.slice sd xd.length xd.length) ∧ w'.cell? ⟨w.heap.size + 1 + 1 + 1,1,none⟩ = some (.bool bd))
    (first | assumption | exact ⟨Ck0,Ck1,Cl0,Cl1,Ce0,Ce1,Cd0,Cd1⟩ | exact HSw5_40 | go_keep)
    (first
      | (go_at_call 70; (with_reducible refine (HS3.out w4.drew _ _ (ik.kept (k_ (h_ _ _))) (il.kept (k_ (h_ _ _)))).mono ?_); rintro e w5_1 ⟨v1,rfl,n1,gw5_1⟩; have hGw5_1:=o_ w4 gw5_1 rfl rfl rfl rfl; have hSw5_1:=(n_ (hGw5_1.cell Ck0 (by simp)) (n_ (hGw5_1.cell Ck1 (by simp)) (n_ (hGw5_1.cell Cl0 (by simp)) (n_ (hGw5_1.cell Cl1 (by simp)) (n_ (hGw5_1.cell Ce0 (by simp)) (n_ (hGw5_1.cell Ce1 (by simp)) (n_ (hGw5_1.cell Cd0 (by simp)) (hGw5_1.cell Cd1 (by simp))))))))); clear gw5_1)
      | (go_at_call 70; (with_reducible refine (HS4.out w5_1 _ _ (id.kept hGw5_1) (il.kept hGw5_1)).mono ?_); rintro e w5_2 ⟨v2,rfl,n2,gw5_2⟩; have hGw5_2:=d_ hGw5_1 gw5_2; replace n1:=n1.kept gw5_2; have hSw5_2:=(n_ (hGw5_2.cell Ck0 (by simp)) (n_ (hGw5_2.cell Ck1 (by simp)) (n_ (hGw5_2.cell Cl0 (by simp)) (n_ (hGw5_2.cell Cl1 (by simp)) (n_ (hGw5_2.cell Ce0 (by simp)) (n_ (hGw5_2.cell Ce1 (by simp)) (n_ (hGw5_2.cell Cd0 (by simp)) (hGw5_2.cell Cd1 (by simp))))))))); clear gw5_2)
      | (go_at_call 75; (with_reducible refine (Y_ w5_2 _ _ D1 F2 K (ie.kept hGw5_2) n2 (by omega) HB1.out HB6.out).mono ?_); rintro e w5_3 ⟨v3,rfl,n3,gw5_3⟩; have hGw5_3:=d_ hGw5_2 gw5_3; replace n1:=n1.kept gw5_3; replace n2:=n2.kept gw5_3; have hSw5_3:=(n_ (hGw5_3.cell Ck0 (by simp)) (n_ (hGw5_3.cell Ck1 (by simp)) (n_ (hGw5_3.cell Cl0 (by simp)) (n_ (hGw5_3.cell Cl1 (by simp)) (n_ (hGw5_3.cell Ce0 (by simp)) (n_ (hGw5_3.cell Ce1 (by simp)) (n_ (hGw5_3.cell Cd0 (by simp)) (hGw5_3.cell Cd1 (by simp))))))))); clear gw5_3)
      | (go_at_call 69; (with_reducible refine (da_ w5_3 _ _ R (K + K) (by rw [HRN.out.1]; exact n1) (by rw [HRN.out.2.1]; exact n3) (by omega) HRN.out.2.2).mono ?_); rintro e w5_4 ⟨_,rfl,⟨sz,xz,bz,sz',xz',bz',rfl,hz,hz'⟩,gw5_4⟩; have hGw5_4:=d_ hGw5_3 gw5_4; replace n1:=n1.kept gw5_4; replace n2:=n2.kept gw5_4; replace n3:=n3.kept gw5_4; have qz : RatV w5_4 (.agg #[.slice sz xz.length xz.length,.bool bz,.slice sz' xz'.length xz'.length,.bool bz']) (R):=⟨sz,xz,bz,sz',xz',bz',rfl,hz,hz'⟩; have hSw5_4:=(n_ (hGw5_4.cell Ck0 (by simp)) (n_ (hGw5_4.cell Ck1 (by simp)) (n_ (hGw5_4.cell Cl0 (by simp)) (n_ (hGw5_4.cell Cl1 (by simp)) (n_ (hGw5_4.cell Ce0 (by simp)) (n_ (hGw5_4.cell Ce1 (by simp)) (n_ (hGw5_4.cell Cd0 (by simp)) (hGw5_4.cell Cd1 (by simp))))))))); clear gw5_4; clear hz hz'; (obtain ⟨dq0,dq1,dq2,dq3,dq4,dq5,dq6,dq7⟩:=b_ (a_ hGw5_4 Bq)); have HSw5_40:=(n_ ((c_ (i_ (a_ hGw5_4 Bk) (show pk ≠ w.heap.size + 1 + 1 + 1 + 1 by omega) (.slice sz xz.length xz.length) (.bool bz) (.slice sz' xz'.length xz'.length) (.bool bz'))).1) (n_ ((c_ (i_ (a_ hGw5_4 Bk) (show pk ≠ w.heap.size + 1 + 1 + 1 + 1 by omega) (.slice sz xz.length xz.length) (.bool bz) (.slice sz' xz'.length xz'.length) (.bool bz'))).2.1) (n_ ((c_ (i_ (a_ hGw5_4 Bl) (show pl ≠ w.heap.size + 1 + 1 + 1 + 1 by omega) (.slice sz xz.length xz.length) (.bool bz) (.slice sz' xz'.length xz'.length) (.bool bz'))).1) (n_ ((c_ (i_ (a_ hGw5_4 Bl) (show pl ≠ w.heap.size + 1 + 1 + 1 + 1 by omega) (.slice sz xz.length xz.length) (.bool bz) (.slice sz' xz'.length xz'.length) (.bool bz'))).2.1) (n_ ((c_ (i_ (a_ hGw5_4 Be) (show pe ≠ w.heap.size + 1 + 1 + 1 + 1 by omega) (.slice sz xz.length xz.length) (.bool bz) (.slice sz' xz'.length xz'.length) (.bool bz'))).1) (n_ ((c_ (i_ (a_ hGw5_4 Be) (show pe ≠ w.heap.size + 1 + 1 + 1 + 1 by omega) (.slice sz xz.length xz.length) (.bool bz) (.slice sz' xz'.length xz'.length) (.bool bz'))).2.1) (n_ ((c_ (i_ (a_ hGw5_4 Bd) (show w.heap.size + 1 + 1 + 1 ≠ w.heap.size + 1 + 1 + 1 + 1 by omega) (.slice sz xz.length xz.length) (.bool bz) (.slice sz' xz'.length xz'.length) (.bool bz'))).1) ((c_ (i_ (a_ hGw5_4 Bd) (show w.heap.size + 1 + 1 + 1 ≠ w.heap.size + 1 + 1 + 1 + 1 by omega) (.slice sz xz.length xz.length) (.bool bz) (.slice sz' xz'.length xz'.length) (.bool bz'))).2.1))))))))))
   replace Bq:=a_ hGw5_4 Bq
   replace hG:=d_ hG hGw5_4
   clear Ca0 Fa0 Ca1 Fa1 Cb0 Fb0 Cb1 Fb1 Cc0 Fc0 Cc1 Fc1 Cd0 Fd0 Cd1 Fd1 Cq0 Fq0 Cq1 Fq1 Cq2 Fq2 Cq3 Fq3 Ck0 Fk0 Ck1 Fk1 Ce0 Fe0 Ce1 Fe1 Cg0 Fg0 Cg1 Fg1 Cl0 Fl0 Cl1 Fl1
   obtain ⟨k90,k91,k92,k93,k94,k95,k96,k97⟩:=b_ Bq
   obtain ⟨q90,q91,q92,q93,q94,q95,q96,q97⟩:=b_ (r_ Bq (.slice sz xz.length xz.length) (.bool bz) (.slice sz' xz'.length xz'.length) (.bool bz'))
   have hF : Hid (aa_ w (R) (.returned (.agg #[.slice sz xz.length xz.length,.bool bz,.slice sz' xz'.length xz'.length,.bool bz'])) ((((w5_4.setCell ⟨w.heap.size + 1 + 1 + 1 + 1,0,none⟩ (.slice sz xz.length xz.length)).setCell ⟨w.heap.size + 1 + 1 + 1 + 1,1,none⟩ (.bool bz)).setCell ⟨w.heap.size + 1 + 1 + 1 + 1,2,none⟩ (.slice sz' xz'.length xz'.length)).setCell ⟨w.heap.size + 1 + 1 + 1 + 1,3,none⟩ (.bool bz'))):=X_ hG Bq (by omega) qz
   clear ia ib ic id ik ie ig il n1 n2 n3 qz
   go_wp2_with fail
   exact bodyPost_ret (v:=.agg #[.slice sz xz.length xz.length,.bool bz,.slice sz' xz'.length xz'.length,.bool bz']) (by simp [results,Tryz.results79,go_sem,q90,q91,q92,q93]) rfl hF.out
end Go.Proofs.YtgbbdgioohaknaaGreatDoor
