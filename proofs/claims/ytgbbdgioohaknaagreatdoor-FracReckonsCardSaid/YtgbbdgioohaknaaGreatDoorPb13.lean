/- What the laws lean on, part 13. -/
import Derived.Deep.RegionHeld3
import Derived.Test.YtgbbdgioohaknaaGreatDoorPb12
namespace Go.Proofs.YtgbbdgioohaknaaGreatDoor
open Go.RowKit Mat
set_option maxRecDepth 100000
set_option linter.unusedVariables false
set_option linter.unusedSimpArgs false
theorem ke_ {r : Rat} {K : Nat} (h : r.den < B ^ K) : (dn r).natAbs < B ^ K := by
 unfold dn
 split
 · exact Nat.pow_pos T_
 · rw [Int.natAbs_natCast]; exact h
theorem lF_ (x : Int) : dn (x : Rat) = 0 := by unfold dn; rw [if_pos (Rat.den_intCast x)]
set_option maxHeartbeats 8000000 in
theorem B_ (w : World) (va : Value) (r : Rat) (K : Nat) (Ha : RatV w va r) (hK : K ≤ 800000) (ld : r.den < B ^ K) :
    Calls Tryz.prog 58 #[va] w (lT_ w (decide (r.den = 1))) := by
 have Hld := H_ ld
 clear ld
 obtain ⟨n, hn⟩ : ∃ n, (dn r).sign = n := ⟨_, rfl⟩
 obtain ⟨p, hp⟩ : ∃ p, decide (r.den = 1) = p := ⟨_, rfl⟩
 have f1 : (n == 0) = p := by
  rw [← hn, ← hp]
  unfold dn
  by_cases h : r.den = 1
  · rw [if_pos h, decide_eq_true h]; rfl
  · rw [if_neg h, decide_eq_false h]
    refine beq_eq_false_iff_ne.2 ?_
    have := r.den_pos
    rw [Int.sign_eq_one_of_pos (by omega)]
    decide
 have HN := H_ hn
 rw [hp]
 clear hn hp
 obtain ⟨sa, xa, ba, sa', xa', ba', rfl, ha, ha'⟩ := Ha
 obtain ⟨hG, Ba⟩ := en1_ w (.cells #[.slice sa xa.length xa.length, .bool ba, .slice sa' xa'.length xa'.length, .bool ba'] 28)
 have oa : RatV w (.agg #[.slice sa xa.length xa.length, .bool ba, .slice sa' xa'.length xa'.length, .bool ba']) (r) := ⟨sa, xa, ba, sa', xa', ba', rfl, ha, ha'⟩
 have qa := oa.kept hG
 have ia := (show IntV w (.agg #[.slice sa xa.length xa.length, .bool ba]) (r).num from ha).kept hG
 have ia' := (show IntV w (.agg #[.slice sa' xa'.length xa'.length, .bool ba']) (dn (r)) from ha').kept hG
 clear ha ha'
 go_enter Tryz.func58, Tryz.ntmps58
 obtain ⟨Ca0, Ca1, Ca2, Ca3, Fa0, Fa1, Fa2, Fa3⟩ := b_ Ba
 go_wp2_with fail
 generalize (w.alloc (.cells #[.slice sa xa.length xa.length, .bool ba, .slice sa' xa'.length xa'.length, .bool ba'] 28)) = w0 at *
 clear Ca0 Fa0 Ca1 Fa1 Ca2 Fa2 Ca3 Fa3
 refine (N_ w0 _ (dn r) K ia' (by omega) (ke_ Hld.out)).mono ?_
 rintro e w1 ⟨rfl, gw1⟩
 rw [HN.out]
 replace Ba := a_ gw1 Ba
 replace hG := d_ hG gw1
 clear gw1
 obtain ⟨Ca0, Ca1, Ca2, Ca3, Fa0, Fa1, Fa2, Fa3⟩ := b_ Ba
 go_wp2_with fail
 go_ret
 exact ⟨rfl, hG⟩
set_option maxHeartbeats 8000000 in
theorem u_ (w : World) (va : Value) (r : Rat) (K : Nat) (Ha : RatV w va r) (hK : K ≤ 800000) (ld : r.den < B ^ K) :
    Calls Tryz.prog 66 #[va] w (x_ w (r.den : Int)) := by
 have Hld := H_ ld
 clear ld
 by_cases h1 : r.den = 1
 · skip
   have H1 := H_ h1
   have hd : decide (r.den = 1) = true := decide_eq_true h1
   have HD := H_ hd
   rw [show ((r.den : Nat) : Int) = 1 by rw [h1]; rfl]
   clear h1 hd
   obtain ⟨sa, xa, ba, sa', xa', ba', rfl, ha, ha'⟩ := Ha
   obtain ⟨hG, Ba, Bq⟩ := en2_ w (.cells #[.slice sa xa.length xa.length, .bool ba, .slice sa' xa'.length xa'.length, .bool ba'] 28) (.cells #[.slice none 0 0, .bool false] 26)
   have oa : RatV w (.agg #[.slice sa xa.length xa.length, .bool ba, .slice sa' xa'.length xa'.length, .bool ba']) (r) := ⟨sa, xa, ba, sa', xa', ba', rfl, ha, ha'⟩
   have qa := oa.kept hG
   have ia := (show IntV w (.agg #[.slice sa xa.length xa.length, .bool ba]) (r).num from ha).kept hG
   have ia' := (show IntV w (.agg #[.slice sa' xa'.length xa'.length, .bool ba']) (dn (r)) from ha').kept hG
   clear ha ha'
   go_enter Tryz.func66, Tryz.ntmps66
   obtain ⟨Ca0, Ca1, Ca2, Ca3, Fa0, Fa1, Fa2, Fa3⟩ := b_ Ba
   obtain ⟨Cq0, Cq1, Fq0, Fq1⟩ := c_ Bq
   go_wp2_with fail
   generalize ((w.alloc (.cells #[.slice sa xa.length xa.length, .bool ba, .slice sa' xa'.length xa'.length, .bool ba'] 28)).alloc (.cells #[.slice none 0 0, .bool false] 26)) = w0 at *
   clear Ca0 Fa0 Ca1 Fa1 Ca2 Fa2 Ca3 Fa3 Cq0 Fq0 Cq1 Fq1
   refine (B_ w0 _ r K qa (by omega) Hld.out).mono ?_
   rintro e u1w1 ⟨rfl, gu1w1⟩
   rw [HD.out]
   replace Ba := a_ gu1w1 Ba
   replace Bq := a_ gu1w1 Bq
   replace hG := d_ hG gu1w1
   clear gu1w1
   obtain ⟨Ca0, Ca1, Ca2, Ca3, Fa0, Fa1, Fa2, Fa3⟩ := b_ Ba
   obtain ⟨Cq0, Cq1, Fq0, Fq1⟩ := c_ Bq
   go_wp2_with fail
   clear Ca0 Fa0 Ca1 Fa1 Ca2 Fa2 Ca3 Fa3 Cq0 Fq0 Cq1 Fq1
   refine (ak_ u1w1 1 (by omega) (by omega)).mono ?_
   rintro e u1w2 ⟨_, rfl, ⟨sd, xd, bd, rfl, hd, vd, td⟩, gu1w2⟩
   have id : IntV u1w2 (.agg #[.slice sd xd.length xd.length, .bool bd]) (1) := ⟨sd, xd, bd, rfl, hd, vd, td⟩
   replace Ba := a_ gu1w2 Ba
   replace Bq := a_ gu1w2 Bq
   replace hG := d_ hG gu1w2
   clear gu1w2
   clear hd vd td
   obtain ⟨Ca0, Ca1, Ca2, Ca3, Fa0, Fa1, Fa2, Fa3⟩ := b_ Ba
   obtain ⟨Cq0, Cq1, Fq0, Fq1⟩ := c_ Bq
   clear Ca0 Fa0 Ca1 Fa1 Ca2 Fa2 Ca3 Fa3 Cq0 Fq0 Cq1 Fq1
   obtain ⟨k90, k91, k92, k93⟩ := c_ Bq
   obtain ⟨q90, q91, q92, q93⟩ := c_ (m_ Bq (.slice sd xd.length xd.length) (.bool bd))
   have hF : Hid (x_ w (1) (.returned (.agg #[.slice sd xd.length xd.length, .bool bd])) ((u1w2.setCell ⟨w.heap.size + 1, 0, none⟩ (.slice sd xd.length xd.length)).setCell ⟨w.heap.size + 1, 1, none⟩ (.bool bd))) := ao_ hG Bq (by omega) id
   clear qa ia ia' id
   go_wp2_with fail
   exact bodyPost_ret (v := .agg #[.slice sd xd.length xd.length, .bool bd]) (by simp [results, Tryz.results66, go_sem, q90, q91]) rfl hF.out
 · skip
   have H1 := H_ h1
   have hd : decide (r.den = 1) = false := decide_eq_false h1
   have HD := H_ hd
   clear h1 hd
   obtain ⟨sa, xa, ba, sa', xa', ba', rfl, ha, ha'⟩ := Ha
   obtain ⟨hG, Ba, Bq⟩ := en2_ w (.cells #[.slice sa xa.length xa.length, .bool ba, .slice sa' xa'.length xa'.length, .bool ba'] 28) (.cells #[.slice none 0 0, .bool false] 26)
   have oa : RatV w (.agg #[.slice sa xa.length xa.length, .bool ba, .slice sa' xa'.length xa'.length, .bool ba']) (r) := ⟨sa, xa, ba, sa', xa', ba', rfl, ha, ha'⟩
   have qa := oa.kept hG
   have ia := (show IntV w (.agg #[.slice sa xa.length xa.length, .bool ba]) (r).num from ha).kept hG
   have ia' := (show IntV w (.agg #[.slice sa' xa'.length xa'.length, .bool ba']) (dn (r)) from ha').kept hG
   clear ha ha'
   go_enter Tryz.func66, Tryz.ntmps66
   obtain ⟨Ca0, Ca1, Ca2, Ca3, Fa0, Fa1, Fa2, Fa3⟩ := b_ Ba
   obtain ⟨Cq0, Cq1, Fq0, Fq1⟩ := c_ Bq
   go_wp2_with fail
   generalize ((w.alloc (.cells #[.slice sa xa.length xa.length, .bool ba, .slice sa' xa'.length xa'.length, .bool ba'] 28)).alloc (.cells #[.slice none 0 0, .bool false] 26)) = w0 at *
   clear Ca0 Fa0 Ca1 Fa1 Ca2 Fa2 Ca3 Fa3 Cq0 Fq0 Cq1 Fq1
   refine (B_ w0 _ r K qa (by omega) Hld.out).mono ?_
   rintro e u0w1 ⟨rfl, gu0w1⟩
   rw [HD.out]
   replace Ba := a_ gu0w1 Ba
   replace Bq := a_ gu0w1 Bq
   replace ia' := ia'.kept gu0w1
   replace hG := d_ hG gu0w1
   clear gu0w1
   obtain ⟨Ca0, Ca1, Ca2, Ca3, Fa0, Fa1, Fa2, Fa3⟩ := b_ Ba
   obtain ⟨Cq0, Cq1, Fq0, Fq1⟩ := c_ Bq
   have iu : IntV u0w1 (.agg #[.slice sa' xa'.length xa'.length, .bool ba']) (r.den : Int) := by have h := ia'; unfold dn at h; rw [if_neg H1.out] at h; exact h
   clear Ca0 Fa0 Ca1 Fa1 Ca2 Fa2 Ca3 Fa3 Cq0 Fq0 Cq1 Fq1
   obtain ⟨k90, k91, k92, k93⟩ := c_ Bq
   obtain ⟨q90, q91, q92, q93⟩ := c_ (m_ Bq (.slice sa' xa'.length xa'.length) (.bool ba'))
   have hF : Hid (x_ w ((r.den : Int)) (.returned (.agg #[.slice sa' xa'.length xa'.length, .bool ba'])) ((u0w1.setCell ⟨w.heap.size + 1, 0, none⟩ (.slice sa' xa'.length xa'.length)).setCell ⟨w.heap.size + 1, 1, none⟩ (.bool ba'))) := ao_ hG Bq (by omega) iu
   clear qa ia ia' iu
   obtain ⟨Ca0, Ca1, Ca2, Ca3, Fa0, Fa1, Fa2, Fa3⟩ := b_ Ba
   go_wp2_with fail
   exact bodyPost_ret (v := .agg #[.slice sa' xa'.length xa'.length, .bool ba']) (by simp [results, Tryz.results66, go_sem, q90, q91]) rfl hF.out
set_option maxHeartbeats 8000000 in
theorem p_ (w : World) (va : Value) (x : Int) (K : Nat) (Ha : IntV w va x) (hK : K ≤ 800000) (la : x.natAbs < B ^ K) :
    Calls Tryz.prog 25 #[va] w (aa_ w (x : Rat)) := by
 have Hla := H_ la
 clear la
 obtain ⟨sa, xa, ba, rfl, ha, va, ta⟩ := Ha
 obtain ⟨hG, Ba, Bq⟩ := en2_ w (.cells #[.slice sa xa.length xa.length, .bool ba] 26) (.cells #[.slice none 0 0, .bool false, .slice none 0 0, .bool false] 28)
 have oa : IntV w (.agg #[.slice sa xa.length xa.length, .bool ba]) (x) := ⟨sa, xa, ba, rfl, ha, va, ta⟩
 have ia := oa.kept hG
 clear ha va ta
 go_enter Tryz.func25, Tryz.ntmps25
 obtain ⟨Ca0, Ca1, Fa0, Fa1⟩ := c_ Ba
 obtain ⟨Cq0, Cq1, Cq2, Cq3, Fq0, Fq1, Fq2, Fq3⟩ := b_ Bq
 go_wp2_with fail
 generalize ((w.alloc (.cells #[.slice sa xa.length xa.length, .bool ba] 26)).alloc (.cells #[.slice none 0 0, .bool false, .slice none 0 0, .bool false] 28)) = w0 at *
 clear Ca0 Fa0 Ca1 Fa1 Cq0 Fq0 Cq1 Fq1 Cq2 Fq2 Cq3 Fq3
 refine (af_ w0 _ x K ia (by omega) Hla.out).mono ?_
 rintro e w1 ⟨_, rfl, ⟨sd, xd, bd, rfl, hd, vd, td⟩, gw1⟩
 have id : IntV w1 (.agg #[.slice sd xd.length xd.length, .bool bd]) (x) := ⟨sd, xd, bd, rfl, hd, vd, td⟩
 replace Ba := a_ gw1 Ba
 replace Bq := a_ gw1 Bq
 replace hG := d_ hG gw1
 clear gw1
 clear hd vd td
 obtain ⟨Ca0, Ca1, Fa0, Fa1⟩ := c_ Ba
 obtain ⟨Cq0, Cq1, Cq2, Cq3, Fq0, Fq1, Fq2, Fq3⟩ := b_ Bq
 have qd : RatV w1 (.agg #[.slice sd xd.length xd.length, .bool bd, .slice none 0 0, .bool false]) (x : Rat) := ⟨_, _, _, none, [], false, rfl, by rw [Rat.num_intCast]; exact id, by rw [lF_]; exact IntV.zero _⟩
 clear Ca0 Fa0 Ca1 Fa1 Cq0 Fq0 Cq1 Fq1 Cq2 Fq2 Cq3 Fq3
 obtain ⟨k90, k91, k92, k93, k94, k95, k96, k97⟩ := b_ Bq
 obtain ⟨q90, q91, q92, q93, q94, q95, q96, q97⟩ := b_ (r_ Bq (.slice sd xd.length xd.length) (.bool bd) (.slice none 0 0) (.bool false))
 have hF : Hid (aa_ w ((x : Rat)) (.returned (.agg #[.slice sd xd.length xd.length, .bool bd, .slice none 0 0, .bool false])) ((((w1.setCell ⟨w.heap.size + 1, 0, none⟩ (.slice sd xd.length xd.length)).setCell ⟨w.heap.size + 1, 1, none⟩ (.bool bd)).setCell ⟨w.heap.size + 1, 2, none⟩ (.slice none 0 0)).setCell ⟨w.heap.size + 1, 3, none⟩ (.bool false))) := X_ hG Bq (by omega) qd
 clear ia id qd
 go_wp2_with fail
 exact bodyPost_ret (v := .agg #[.slice sd xd.length xd.length, .bool bd, .slice none 0 0, .bool false]) (by simp [results, Tryz.results25, go_sem, q90, q91, q92, q93]) rfl hF.out
def rsg (r : Rat) : Int := r.num.sign
theorem ig_ {n : Int} {g : Nat} (h : (g : Int) ∣ n) (hg : 0 < g) : (n / (g : Int)).sign = n.sign := by
 obtain ⟨k, rfl⟩ := h
 rw [Int.mul_ediv_cancel_left _ (by omega), Int.sign_mul, Int.sign_eq_one_of_pos (by omega : (0 : Int) < g), Int.one_mul]
theorem bD_ {n d : Int} (hd : 0 < d) : rsg (Rat.divInt n d) = n.sign := by
 unfold rsg
 rw [Rat.num_divInt, Int.sign_eq_one_of_pos hd, Int.one_mul]
 exact ig_ (Int.gcd_dvd_right _ _) (by rw [Int.gcd_comm]; exact Int.gcd_pos_of_ne_zero_right _ (by omega))
def bE_ (r : Rat) : Int :=
 if bt_ (r.num % (r.den : Int) + r.num % (r.den : Int)) (r.den : Int) = -1 then r.num / (r.den : Int)
 else if bt_ (r.num % (r.den : Int) + r.num % (r.den : Int)) (r.den : Int) = 1 then r.num / (r.den : Int) + 1
 else if (r.num / (r.den : Int)) % 2 = 0 then r.num / (r.den : Int) else r.num / (r.den : Int) + 1
theorem gR_ (x y : Int) : (Rat.divInt x y).num = y.sign * x / ((Nat.gcd x.natAbs y.natAbs : Nat) : Int) := by
 rw [Rat.num_divInt, show Int.gcd y x = Nat.gcd x.natAbs y.natAbs from Nat.gcd_comm _ _]
theorem jP_ (x y : Int) (h : y ≠ 0) : (((Rat.divInt x y).den : Nat) : Int) = (y.natAbs : Int) / ((Nat.gcd x.natAbs y.natAbs : Nat) : Int) := by
 rw [Rat.den_divInt, if_neg h, show Int.gcd y x = Nat.gcd x.natAbs y.natAbs from Nat.gcd_comm _ _]; rfl
theorem dV_ {x y : Int} {K : Nat} (h : x.natAbs < B ^ K) : (Rat.divInt x y).num.natAbs < B ^ K := by
 rw [gR_]
 refine Nat.lt_of_le_of_lt (Int.natAbs_ediv_le_natAbs _ _) (Nat.lt_of_le_of_lt ?_ h)
 rw [Int.natAbs_mul]
 have : y.sign.natAbs ≤ 1 := by have := dR_ y; omega
 exact Nat.le_trans (Nat.mul_le_mul_right _ this) (by omega)
theorem cB_ {x y : Int} {K : Nat} (h : y.natAbs < B ^ K) (h0 : y ≠ 0) : (Rat.divInt x y).den < B ^ K := by
 rw [Rat.den_divInt, if_neg h0]
 exact Nat.lt_of_le_of_lt (Nat.div_le_self _ _) h
def aQ_ (w : World) (z : Int) (code : Int) (e : Ending) (w' : World) : Prop := ∃ v, e = .returned (.tuple #[v, .int .i64 code]) ∧ IntV w' v z ∧ w.grownBy w' none
theorem bm_ {w w' : World} {z code : Int} {g : Nat} {a0 a1 v0 v1 : Value} (hg : w.grownBy w' none) (hbox : w'.heap[g]? = some (.cells #[a0, a1] 26 (0, 0))) (hl : w.heap.size ≤ g) (h : IntV w' (.agg #[v0, v1]) z) :
    aQ_ w z code (.returned (.tuple #[.agg #[v0, v1], .int .i64 code])) ((w'.setCell ⟨g, 0, none⟩ v0).setCell ⟨g, 1, none⟩ v1) :=
 ⟨_, rfl, h.set2 hbox v0 v1, t_ hg hl v0 v1⟩
theorem gu_ {w : World} {s : Option Addr} {k c m : Nat} (h : NatV w (.agg #[.slice s k c]) m) : IntV w (.agg #[.slice s k c, .bool false]) (m : Int) := by
 obtain ⟨s', xs, e, h1, hv⟩ := h
 cases e
 exact ⟨_, xs, false, rfl, h1, by simpa using hv, by constructor <;> intro h <;> first | cases h | omega⟩
theorem gt_ {w : World} {s : Option Addr} {k c m : Nat} (h : NatV w (.agg #[.slice s k c]) m) (hm : 0 < m) : IntV w (.agg #[.slice s k c, .bool true]) (-(m : Int)) := by
 obtain ⟨s', xs, e, h1, hv⟩ := h
 cases e
 exact ⟨_, xs, true, rfl, h1, by omega, by constructor <;> intro h <;> first | rfl | omega⟩
theorem fr_ (w : World) (s : ByteArray) (h : eE_ (bts s) = true) :
    Calls Tryz.prog 90 #[.string s, .string { data := #[45] }] w (fun e w' => e = .returned (.tuple #[.string (s.extract 1 s.size), .bool true]) ∧ w = w') := ll_ w s { data := #[45] } (by rw [gU_]; exact h)
theorem cW_ (w : World) (s : ByteArray) (h : eE_ (bts s) = false) :
    Calls Tryz.prog 90 #[.string s, .string { data := #[45] }] w (fun e w' => e = .returned (.tuple #[.string s, .bool false]) ∧ w = w') := kj_ w s { data := #[45] } (by rw [gU_]; exact h)
set_option maxHeartbeats 8000000 in
theorem cp_ (w : World) (s : ByteArray) :
    Calls Tryz.prog 51 #[.string s] w (aQ_ w (aL_ s) (de_ s)) := by
 by_cases h0 : 4097 < s.size
 · skip
   obtain ⟨e1, e2⟩ := hY_ h0
   rw [e1, e2]
   clear e1 e2
   have f1 : decide ((4097 : Int) < (s.size : Int)) = true := decide_eq_true (by omega)
   obtain ⟨hG, Bq⟩ := en1_ w (.cells #[.slice none 0 0, .bool false] 26)
   go_enter Tryz.func51, Tryz.ntmps51
   obtain ⟨Cq0, Cq1, Fq0, Fq1⟩ := c_ Bq
   have hG' : w.grownBy (w.alloc (.cells #[.slice none 0 0, .bool false] 26)) none := (wg_ _ _ _)
   have hF : Hid (aQ_ w (0) 2 (.returned (.tuple #[.agg #[.slice none 0 0, .bool false], .int .i64 2])) (w.alloc (.cells #[.slice none 0 0, .bool false] 26))) := ⟨_, rfl, (IntV.zero _), hG'⟩
   clear hG'
   go_wp2_with fail
   exact bodyPost_ret (v := .tuple #[.agg #[.slice none 0 0, .bool false], .int .i64 2]) (by simp [results, Tryz.results51, go_sem]) rfl hF.out
 have f1 : decide ((4097 : Int) < (s.size : Int)) = false := decide_eq_false (by omega)
 have hs : s.size ≤ 4097 := by omega
 clear h0
 cases hn : eE_ (bts s)
 · skip
   have hz := eU_ hn
   by_cases hd : cF_ (bts s)
   · skip
     have hok : zok (bts s) = true := (aS_ _).2 ⟨by rw [hz]; exact hd, by rw [hn]; simp⟩
     by_cases h4 : s.size ≤ 4096
     · skip
       obtain ⟨e1, e2⟩ := fE_ hs hok (by rw [hz, z_]; exact h4)
       obtain ⟨m, hm⟩ : ∃ m, aC_ (bts s) = m := ⟨_, rfl⟩
       rw [e1, e2, show hm_ (bts s) = (m : Int) from by unfold hm_; rw [hn, hz, hm]; rfl]
       clear e1 e2 hok hz hs
       have HD := H_ hd
       have HZ := H_ h4
       have HV := H_ hm
       clear hd h4 hm
       have HN := H_ hn
       clear hn
       obtain ⟨hG, Bq⟩ := en1_ w (.cells #[.slice none 0 0, .bool false] 26)
       go_enter Tryz.func51, Tryz.ntmps51
       obtain ⟨Cq0, Cq1, Fq0, Fq1⟩ := c_ Bq
       go_wp2_with fail
       generalize (w.alloc (.cells #[.slice none 0 0, .bool false] 26)) = w0 at *
       refine (cW_ w0 s HN.out).mono ?_
       rintro e w1 ⟨rfl, rfl⟩
       go_wp2_with fail
       clear Cq0 Fq0 Cq1 Fq1
       refine (cs_ w0 s HZ.out HD.out).mono ?_
       rintro e w2 ⟨_, rfl, ⟨sn, xn, rfl, hn, vn⟩, gw2⟩
       rw [HV.out] at vn
       have nn : NatV _ (.agg #[.slice sn xn.length xn.length]) (m) := ⟨sn, xn, rfl, hn, vn⟩
       clear hn vn
       replace Bq := a_ gw2 Bq
       replace hG := d_ hG gw2
       clear gw2
       obtain ⟨Cq0, Cq1, Fq0, Fq1⟩ := c_ Bq
       have gbw2 := (wg_ w2 (.cells #[.slice sn xn.length xn.length] 24) none)
       have Bn := (f_ w2 (.cells #[.slice sn xn.length xn.length] 24) (w2.heap.size) rfl)
       have hzw2 : Hid (w.heap.size ≤ w2.heap.size) := H_ hG.size
       have hlqw2 : Hid (w.heap.size < w2.heap.size) := H_ (Array.getElem?_eq_some_iff.1 Bq).1
       clear Cq0 Fq0 Cq1 Fq1
       replace Bq := a_ gbw2 Bq
       replace nn := nn.kept gbw2
       replace hG := d_ hG gbw2
       clear gbw2
       obtain ⟨Cq0, Cq1, Fq0, Fq1⟩ := c_ Bq
       obtain ⟨Cn0, Fn0⟩ := j_ Bn
       have hi : IntV (w2.alloc (.cells #[.slice sn xn.length xn.length] 24)) (.agg #[.slice sn xn.length xn.length, .bool false]) (m : Int) := gu_ nn
       clear Cq0 Fq0 Cq1 Fq1 Cn0 Fn0
       obtain ⟨k90, k91, k92, k93⟩ := c_ Bq
       obtain ⟨q90, q91, q92, q93⟩ := c_ (m_ Bq (.slice sn xn.length xn.length) (.bool false))
       have hF : Hid (aQ_ w ((m : Int)) 0 (.returned (.tuple #[.agg #[.slice sn xn.length xn.length, .bool false], .int .i64 0])) (((w2.alloc (.cells #[.slice sn xn.length xn.length] 24)).setCell ⟨w.heap.size, 0, none⟩ (.slice sn xn.length xn.length)).setCell ⟨w.heap.size, 1, none⟩ (.bool false))) := bm_ hG Bq (by omega) hi
       clear nn hi
       obtain ⟨Cn0, Fn0⟩ := j_ Bn
       go_wp2_with fail
       exact bodyPost_ret (v := .tuple #[.agg #[.slice sn xn.length xn.length, .bool false], .int .i64 0]) (by simp [results, Tryz.results51, go_sem, q90, q91]) rfl hF.out
     · skip
       have h5 : 4096 < s.size := by omega
       obtain ⟨e1, e2⟩ := hX_ hs hok (by rw [hz, z_]; exact h5)
       rw [e1, e2]
       clear e1 e2 hok hz h4
       have HD := H_ hd
       have HZ := H_ h5
       have HS := H_ hs
       clear hd h5 hs
       have HN := H_ hn
       clear hn
       obtain ⟨hG, Bq⟩ := en1_ w (.cells #[.slice none 0 0, .bool false] 26)
       go_enter Tryz.func51, Tryz.ntmps51
       obtain ⟨Cq0, Cq1, Fq0, Fq1⟩ := c_ Bq
       go_wp2_with fail
       generalize (w.alloc (.cells #[.slice none 0 0, .bool false] 26)) = w0 at *
       refine (cW_ w0 s HN.out).mono ?_
       rintro e w1 ⟨rfl, rfl⟩
       go_wp2_with fail
       clear Cq0 Fq0 Cq1 Fq1
       refine (eS_ w0 s HZ.out).mono ?_
       rintro e w2 ⟨_, rfl, ⟨sn, xn, rfl, hn, vn⟩, gw2⟩
       have nn : NatV w2 (.agg #[.slice sn xn.length xn.length]) (0) := ⟨sn, xn, rfl, hn, vn⟩
       replace Bq := a_ gw2 Bq
       replace hG := d_ hG gw2
       clear gw2
       clear hn vn
       obtain ⟨Cq0, Cq1, Fq0, Fq1⟩ := c_ Bq
       have gbw2 := (wg_ w2 (.cells #[.slice sn xn.length xn.length] 24) none)
       have Bn := (f_ w2 (.cells #[.slice sn xn.length xn.length] 24) (w2.heap.size) rfl)
       have hzw2 : Hid (w.heap.size ≤ w2.heap.size) := H_ hG.size
       have hlqw2 : Hid (w.heap.size < w2.heap.size) := H_ (Array.getElem?_eq_some_iff.1 Bq).1
       clear Cq0 Fq0 Cq1 Fq1
       replace Bq := a_ gbw2 Bq
       replace hG := d_ hG gbw2
       clear gbw2
       obtain ⟨Cq0, Cq1, Fq0, Fq1⟩ := c_ Bq
       obtain ⟨Cn0, Fn0⟩ := j_ Bn
       go_wp2_with fail
       generalize (w2.alloc (.cells #[.slice sn xn.length xn.length] 24)) = w3 at *
       generalize w2.heap.size = aw2 at *
       replace hzw2 := hzw2.out
       replace hlqw2 := hlqw2.out
       refine (gW_ w3 s HS.out (by have := HZ.out; omega)).mono ?_
       rintro e w4 ⟨b, rfl, hb, rfl⟩
       obtain rfl : b = true := hb.2 HD.out
       clear hb
       clear Cq0 Fq0 Cq1 Fq1 Cn0 Fn0
       obtain ⟨k90, k91, k92, k93⟩ := c_ Bq
       obtain ⟨q90, q91, q92, q93⟩ := c_ (m_ Bq (.slice none 0 0) (.bool false))
       have hF : Hid (aQ_ w (0) 2 (.returned (.tuple #[.agg #[.slice none 0 0, .bool false], .int .i64 2])) ((w3.setCell ⟨w.heap.size, 0, none⟩ (.slice none 0 0)).setCell ⟨w.heap.size, 1, none⟩ (.bool false))) := bm_ hG Bq (by omega) (IntV.zero _)
       clear nn
       obtain ⟨Cn0, Fn0⟩ := j_ Bn
       go_wp2_with fail
       exact bodyPost_ret (v := .tuple #[.agg #[.slice none 0 0, .bool false], .int .i64 2]) (by simp [results, Tryz.results51, go_sem, q90, q91]) rfl hF.out
   · skip
     obtain ⟨e1, e2⟩ := df_ hs (fun h => hd (by have := ((aS_ _).1 h).1; rw [hz] at this; exact this))
     rw [e1, e2]
     clear e1 e2 hz
     by_cases h4 : s.size ≤ 4096
     · skip
       clear hs
       have HD := H_ hd
       have HZ := H_ h4
       clear hd h4
       have HN := H_ hn
       clear hn
       obtain ⟨hG, Bq⟩ := en1_ w (.cells #[.slice none 0 0, .bool false] 26)
       go_enter Tryz.func51, Tryz.ntmps51
       obtain ⟨Cq0, Cq1, Fq0, Fq1⟩ := c_ Bq
       go_wp2_with fail
       generalize (w.alloc (.cells #[.slice none 0 0, .bool false] 26)) = w0 at *
       refine (cW_ w0 s HN.out).mono ?_
       rintro e w1 ⟨rfl, rfl⟩
       go_wp2_with fail
       clear Cq0 Fq0 Cq1 Fq1
       refine (ds_ w0 s HZ.out HD.out).mono ?_
       rintro e w2 ⟨_, rfl, ⟨sn, xn, rfl, hn, vn⟩, gw2⟩
       have nn : NatV w2 (.agg #[.slice sn xn.length xn.length]) (0) := ⟨sn, xn, rfl, hn, vn⟩
       replace Bq := a_ gw2 Bq
       replace hG := d_ hG gw2
       clear gw2
       clear hn vn
       obtain ⟨Cq0, Cq1, Fq0, Fq1⟩ := c_ Bq
       have gbw2 := (wg_ w2 (.cells #[.slice sn xn.length xn.length] 24) none)
       have Bn := (f_ w2 (.cells #[.slice sn xn.length xn.length] 24) (w2.heap.size) rfl)
       have hzw2 : Hid (w.heap.size ≤ w2.heap.size) := H_ hG.size
       have hlqw2 : Hid (w.heap.size < w2.heap.size) := H_ (Array.getElem?_eq_some_iff.1 Bq).1
       clear Cq0 Fq0 Cq1 Fq1
       replace Bq := a_ gbw2 Bq
       replace hG := d_ hG gbw2
       clear gbw2
       obtain ⟨Cq0, Cq1, Fq0, Fq1⟩ := c_ Bq
       obtain ⟨Cn0, Fn0⟩ := j_ Bn
       clear Cq0 Fq0 Cq1 Fq1 Cn0 Fn0
       obtain ⟨k90, k91, k92, k93⟩ := c_ Bq
       obtain ⟨q90, q91, q92, q93⟩ := c_ (m_ Bq (.slice none 0 0) (.bool false))
       have hF : Hid (aQ_ w (0) 3 (.returned (.tuple #[.agg #[.slice none 0 0, .bool false], .int .i64 3])) (((w2.alloc (.cells #[.slice sn xn.length xn.length] 24)).setCell ⟨w.heap.size, 0, none⟩ (.slice none 0 0)).setCell ⟨w.heap.size, 1, none⟩ (.bool false))) := bm_ hG Bq (by omega) (IntV.zero _)
       clear nn
       obtain ⟨Cn0, Fn0⟩ := j_ Bn
       go_wp2_with fail
       exact bodyPost_ret (v := .tuple #[.agg #[.slice none 0 0, .bool false], .int .i64 3]) (by simp [results, Tryz.results51, go_sem, q90, q91]) rfl hF.out
     · skip
       have h5 : 4096 < s.size := by omega
       clear h4
       have HD := H_ hd
       have HZ := H_ h5
       have HS := H_ hs
       clear hd h5 hs
       have HN := H_ hn
       clear hn
       obtain ⟨hG, Bq⟩ := en1_ w (.cells #[.slice none 0 0, .bool false] 26)
       go_enter Tryz.func51, Tryz.ntmps51
       obtain ⟨Cq0, Cq1, Fq0, Fq1⟩ := c_ Bq
       go_wp2_with fail
       generalize (w.alloc (.cells #[.slice none 0 0, .bool false] 26)) = w0 at *
       refine (cW_ w0 s HN.out).mono ?_
       rintro e w1 ⟨rfl, rfl⟩
       go_wp2_with fail
       clear Cq0 Fq0 Cq1 Fq1
       refine (eS_ w0 s HZ.out).mono ?_
       rintro e w2 ⟨_, rfl, ⟨sn, xn, rfl, hn, vn⟩, gw2⟩
       have nn : NatV w2 (.agg #[.slice sn xn.length xn.length]) (0) := ⟨sn, xn, rfl, hn, vn⟩
       replace Bq := a_ gw2 Bq
       replace hG := d_ hG gw2
       clear gw2
       clear hn vn
       obtain ⟨Cq0, Cq1, Fq0, Fq1⟩ := c_ Bq
       have gbw2 := (wg_ w2 (.cells #[.slice sn xn.length xn.length] 24) none)
       have Bn := (f_ w2 (.cells #[.slice sn xn.length xn.length] 24) (w2.heap.size) rfl)
       have hzw2 : Hid (w.heap.size ≤ w2.heap.size) := H_ hG.size
       have hlqw2 : Hid (w.heap.size < w2.heap.size) := H_ (Array.getElem?_eq_some_iff.1 Bq).1
       clear Cq0 Fq0 Cq1 Fq1
       replace Bq := a_ gbw2 Bq
       replace hG := d_ hG gbw2
       clear gbw2
       obtain ⟨Cq0, Cq1, Fq0, Fq1⟩ := c_ Bq
       obtain ⟨Cn0, Fn0⟩ := j_ Bn
       go_wp2_with fail
       generalize (w2.alloc (.cells #[.slice sn xn.length xn.length] 24)) = w3 at *
       generalize w2.heap.size = aw2 at *
       replace hzw2 := hzw2.out
       replace hlqw2 := hlqw2.out
       refine (gW_ w3 s HS.out (by have := HZ.out; omega)).mono ?_
       rintro e w4 ⟨b, rfl, hb, rfl⟩
       obtain rfl : b = false := by cases b <;> first | rfl | exact absurd (hb.1 rfl) HD.out
       clear hb
       clear Cq0 Fq0 Cq1 Fq1 Cn0 Fn0
       obtain ⟨k90, k91, k92, k93⟩ := c_ Bq
       obtain ⟨q90, q91, q92, q93⟩ := c_ (m_ Bq (.slice none 0 0) (.bool false))
       have hF : Hid (aQ_ w (0) 3 (.returned (.tuple #[.agg #[.slice none 0 0, .bool false], .int .i64 3])) ((w3.setCell ⟨w.heap.size, 0, none⟩ (.slice none 0 0)).setCell ⟨w.heap.size, 1, none⟩ (.bool false))) := bm_ hG Bq (by omega) (IntV.zero _)
       clear nn
       obtain ⟨Cn0, Fn0⟩ := j_ Bn
       go_wp2_with fail
       exact bodyPost_ret (v := .tuple #[.agg #[.slice none 0 0, .bool false], .int .i64 3]) (by simp [results, Tryz.results51, go_sem, q90, q91]) rfl hF.out
 · skip
   obtain ⟨t, ht⟩ : ∃ t, s.extract 1 s.size = t := ⟨_, rfl⟩
   have hp : 0 < s.size := by
    rcases Nat.eq_zero_or_pos s.size with h | h
    · have : bts s = [] := List.length_eq_zero_iff.1 (by rw [z_]; exact h)
      rw [this] at hn; cases hn
    · exact h
   have hbt : bts t = dC_ (bts s) := by rw [← ht, bQ_, eV_ hn, List.drop_one]
   have htz : t.size ≤ 4096 := by rw [← ht, ByteArray.size_extract]; omega
   by_cases hd : cF_ (bts t)
   · skip
     obtain ⟨m, hm⟩ : ∃ m, aC_ (bts t) = m := ⟨_, rfl⟩
     rcases Nat.eq_zero_or_pos m with h6 | h6
     · skip
       subst h6
       obtain ⟨e1, e2⟩ := df_ hs (fun h => ((aS_ _).1 h).2 ⟨hn, by rw [← hbt]; exact hm⟩)
       rw [e1, e2]
       clear e1 e2 hbt hs hp
       rw [← ht] at hd htz hm
       clear ht t
       have HD := H_ hd
       have HZ := H_ htz
       have HV := H_ hm
       clear hd htz hm
       have HN := H_ hn
       clear hn
       obtain ⟨hG, Bq⟩ := en1_ w (.cells #[.slice none 0 0, .bool false] 26)
       go_enter Tryz.func51, Tryz.ntmps51
       obtain ⟨Cq0, Cq1, Fq0, Fq1⟩ := c_ Bq
       go_wp2_with fail
       generalize (w.alloc (.cells #[.slice none 0 0, .bool false] 26)) = w0 at *
       refine (fr_ w0 s HN.out).mono ?_
       rintro e w1 ⟨rfl, rfl⟩
       generalize hst : s.extract 1 s.size = t at *
       clear hst
       go_wp2_with fail
       clear Cq0 Fq0 Cq1 Fq1
       refine (cs_ w0 t HZ.out HD.out).mono ?_
       rintro e w2 ⟨_, rfl, ⟨sn, xn, rfl, hn, vn⟩, gw2⟩
       rw [HV.out] at vn
       have nn : NatV _ (.agg #[.slice sn xn.length xn.length]) (0) := ⟨sn, xn, rfl, hn, vn⟩
       clear hn vn
       replace Bq := a_ gw2 Bq
       replace hG := d_ hG gw2
       clear gw2
       obtain ⟨Cq0, Cq1, Fq0, Fq1⟩ := c_ Bq
       have gbw2 := (wg_ w2 (.cells #[.slice sn xn.length xn.length] 24) none)
       have Bn := (f_ w2 (.cells #[.slice sn xn.length xn.length] 24) (w2.heap.size) rfl)
       have hzw2 : Hid (w.heap.size ≤ w2.heap.size) := H_ hG.size
       have hlqw2 : Hid (w.heap.size < w2.heap.size) := H_ (Array.getElem?_eq_some_iff.1 Bq).1
       clear Cq0 Fq0 Cq1 Fq1
       replace Bq := a_ gbw2 Bq
       replace nn := nn.kept gbw2
       replace hG := d_ hG gbw2
       clear gbw2
       obtain ⟨Cq0, Cq1, Fq0, Fq1⟩ := c_ Bq
       obtain ⟨Cn0, Fn0⟩ := j_ Bn
       go_wp2_with fail
       generalize (w2.alloc (.cells #[.slice sn xn.length xn.length] 24)) = w3 at *
       generalize w2.heap.size = aw2 at *
       replace hzw2 := hzw2.out
       replace hlqw2 := hlqw2.out
       clear Cq0 Fq0 Cq1 Fq1 Cn0 Fn0
       refine (bj_ w3 _ 0 216 nn (by omega) (Nat.pow_pos T_)).mono ?_
       rintro e w4 ⟨rfl, gw4⟩
       rw [show nb 0 = 0 from rfl]
       replace Bq := a_ gw4 Bq
       replace Bn := a_ gw4 Bn
       replace hG := d_ hG gw4
       clear gw4
       obtain ⟨Cq0, Cq1, Fq0, Fq1⟩ := c_ Bq
       obtain ⟨Cn0, Fn0⟩ := j_ Bn
       clear Cq0 Fq0 Cq1 Fq1 Cn0 Fn0
       obtain ⟨k90, k91, k92, k93⟩ := c_ Bq
       obtain ⟨q90, q91, q92, q93⟩ := c_ (m_ Bq (.slice none 0 0) (.bool false))
       have hF : Hid (aQ_ w (0) 3 (.returned (.tuple #[.agg #[.slice none 0 0, .bool false], .int .i64 3])) ((w4.setCell ⟨w.heap.size, 0, none⟩ (.slice none 0 0)).setCell ⟨w.heap.size, 1, none⟩ (.bool false))) := bm_ hG Bq (by omega) (IntV.zero _)
       clear nn
       obtain ⟨Cn0, Fn0⟩ := j_ Bn
       go_wp2_with fail
       exact bodyPost_ret (v := .tuple #[.agg #[.slice none 0 0, .bool false], .int .i64 3]) (by simp [results, Tryz.results51, go_sem, q90, q91]) rfl hF.out
     · skip
       have hok : zok (bts s) = true := (aS_ _).2 ⟨by rw [← hbt]; exact hd, by rw [← hbt, hm]; omega⟩
       obtain ⟨e1, e2⟩ := fE_ hs hok (by rw [← hbt, z_]; exact htz)
       rw [e1, e2, show hm_ (bts s) = -(m : Int) from by unfold hm_; rw [if_pos hn, ← hbt, hm]]
       have hM : m < B ^ 216 := by rw [← hm]; exact lh_ hd (by rw [z_]; omega)
       obtain ⟨cb, hcb⟩ : ∃ c, nb m = c := ⟨_, rfl⟩
       have f7 : ((cb : Int) == 0) = false := beq_eq_false_iff_ne.2 (by have := dx_ h6; omega)
       clear e1 e2 hbt hs hp hok
       rw [← ht] at hd htz hm
       clear ht t
       have HD := H_ hd
       have HZ := H_ htz
       have HV := H_ hm
       have HM := H_ hM
       have HC := H_ hcb
       have HP := H_ h6
       clear hd htz hm hM hcb h6
       have HN := H_ hn
       clear hn
       obtain ⟨hG, Bq⟩ := en1_ w (.cells #[.slice none 0 0, .bool false] 26)
       go_enter Tryz.func51, Tryz.ntmps51
       obtain ⟨Cq0, Cq1, Fq0, Fq1⟩ := c_ Bq
       go_wp2_with fail
       generalize (w.alloc (.cells #[.slice none 0 0, .bool false] 26)) = w0 at *
       refine (fr_ w0 s HN.out).mono ?_
       rintro e w1 ⟨rfl, rfl⟩
       generalize hst : s.extract 1 s.size = t at *
       clear hst
       go_wp2_with fail
       clear Cq0 Fq0 Cq1 Fq1
       refine (cs_ w0 t HZ.out HD.out).mono ?_
       rintro e w2 ⟨_, rfl, ⟨sn, xn, rfl, hn, vn⟩, gw2⟩
       rw [HV.out] at vn
       have nn : NatV _ (.agg #[.slice sn xn.length xn.length]) (m) := ⟨sn, xn, rfl, hn, vn⟩
       clear hn vn
       replace Bq := a_ gw2 Bq
       replace hG := d_ hG gw2
       clear gw2
       obtain ⟨Cq0, Cq1, Fq0, Fq1⟩ := c_ Bq
       have gbw2 := (wg_ w2 (.cells #[.slice sn xn.length xn.length] 24) none)
       have Bn := (f_ w2 (.cells #[.slice sn xn.length xn.length] 24) (w2.heap.size) rfl)
       have hzw2 : Hid (w.heap.size ≤ w2.heap.size) := H_ hG.size
       have hlqw2 : Hid (w.heap.size < w2.heap.size) := H_ (Array.getElem?_eq_some_iff.1 Bq).1
       clear Cq0 Fq0 Cq1 Fq1
       replace Bq := a_ gbw2 Bq
       replace nn := nn.kept gbw2
       replace hG := d_ hG gbw2
       clear gbw2
       obtain ⟨Cq0, Cq1, Fq0, Fq1⟩ := c_ Bq
       obtain ⟨Cn0, Fn0⟩ := j_ Bn
       go_wp2_with fail
       generalize (w2.alloc (.cells #[.slice sn xn.length xn.length] 24)) = w3 at *
       generalize w2.heap.size = aw2 at *
       replace hzw2 := hzw2.out
       replace hlqw2 := hlqw2.out
       clear Cq0 Fq0 Cq1 Fq1 Cn0 Fn0
       refine (bj_ w3 _ m 216 nn (by omega) HM.out).mono ?_
       rintro e w4 ⟨rfl, gw4⟩
       rw [HC.out]
       replace Bq := a_ gw4 Bq
       replace Bn := a_ gw4 Bn
       replace nn := nn.kept gw4
       replace hG := d_ hG gw4
       clear gw4
       obtain ⟨Cq0, Cq1, Fq0, Fq1⟩ := c_ Bq
       obtain ⟨Cn0, Fn0⟩ := j_ Bn
       have hi : IntV w4 (.agg #[.slice sn xn.length xn.length, .bool true]) (-(m : Int)) := gt_ nn HP.out
       clear Cq0 Fq0 Cq1 Fq1 Cn0 Fn0
       obtain ⟨k90, k91, k92, k93⟩ := c_ Bq
       obtain ⟨q90, q91, q92, q93⟩ := c_ (m_ Bq (.slice sn xn.length xn.length) (.bool true))
       have hF : Hid (aQ_ w (-(m : Int)) 0 (.returned (.tuple #[.agg #[.slice sn xn.length xn.length, .bool true], .int .i64 0])) ((w4.setCell ⟨w.heap.size, 0, none⟩ (.slice sn xn.length xn.length)).setCell ⟨w.heap.size, 1, none⟩ (.bool true))) := bm_ hG Bq (by omega) hi
       clear nn hi
       obtain ⟨Cn0, Fn0⟩ := j_ Bn
       go_wp2_with fail
       exact bodyPost_ret (v := .tuple #[.agg #[.slice sn xn.length xn.length, .bool true], .int .i64 0]) (by simp [results, Tryz.results51, go_sem, q90, q91]) rfl hF.out
   · skip
     obtain ⟨e1, e2⟩ := df_ hs (fun h => hd (by rw [hbt]; exact ((aS_ _).1 h).1))
     rw [e1, e2]
     clear e1 e2 hbt hs hp
     rw [← ht] at hd htz
     clear ht t
     have HD := H_ hd
     have HZ := H_ htz
     clear hd htz
     have HN := H_ hn
     clear hn
     obtain ⟨hG, Bq⟩ := en1_ w (.cells #[.slice none 0 0, .bool false] 26)
     go_enter Tryz.func51, Tryz.ntmps51
     obtain ⟨Cq0, Cq1, Fq0, Fq1⟩ := c_ Bq
     go_wp2_with fail
     generalize (w.alloc (.cells #[.slice none 0 0, .bool false] 26)) = w0 at *
     refine (fr_ w0 s HN.out).mono ?_
     rintro e w1 ⟨rfl, rfl⟩
     generalize hst : s.extract 1 s.size = t at *
     clear hst
     go_wp2_with fail
     clear Cq0 Fq0 Cq1 Fq1
     refine (ds_ w0 t HZ.out HD.out).mono ?_
     rintro e w2 ⟨_, rfl, ⟨sn, xn, rfl, hn, vn⟩, gw2⟩
     have nn : NatV w2 (.agg #[.slice sn xn.length xn.length]) (0) := ⟨sn, xn, rfl, hn, vn⟩
     replace Bq := a_ gw2 Bq
     replace hG := d_ hG gw2
     clear gw2
     clear hn vn
     obtain ⟨Cq0, Cq1, Fq0, Fq1⟩ := c_ Bq
     have gbw2 := (wg_ w2 (.cells #[.slice sn xn.length xn.length] 24) none)
     have Bn := (f_ w2 (.cells #[.slice sn xn.length xn.length] 24) (w2.heap.size) rfl)
     have hzw2 : Hid (w.heap.size ≤ w2.heap.size) := H_ hG.size
     have hlqw2 : Hid (w.heap.size < w2.heap.size) := H_ (Array.getElem?_eq_some_iff.1 Bq).1
     clear Cq0 Fq0 Cq1 Fq1
     replace Bq := a_ gbw2 Bq
     replace hG := d_ hG gbw2
     clear gbw2
     obtain ⟨Cq0, Cq1, Fq0, Fq1⟩ := c_ Bq
     obtain ⟨Cn0, Fn0⟩ := j_ Bn
     clear Cq0 Fq0 Cq1 Fq1 Cn0 Fn0
     obtain ⟨k90, k91, k92, k93⟩ := c_ Bq
     obtain ⟨q90, q91, q92, q93⟩ := c_ (m_ Bq (.slice none 0 0) (.bool false))
     have hF : Hid (aQ_ w (0) 3 (.returned (.tuple #[.agg #[.slice none 0 0, .bool false], .int .i64 3])) (((w2.alloc (.cells #[.slice sn xn.length xn.length] 24)).setCell ⟨w.heap.size, 0, none⟩ (.slice none 0 0)).setCell ⟨w.heap.size, 1, none⟩ (.bool false))) := bm_ hG Bq (by omega) (IntV.zero _)
     clear nn
     obtain ⟨Cn0, Fn0⟩ := j_ Bn
     go_wp2_with fail
     exact bodyPost_ret (v := .tuple #[.agg #[.slice none 0 0, .bool false], .int .i64 3]) (by simp [results, Tryz.results51, go_sem, q90, q91]) rfl hF.out
end Go.Proofs.YtgbbdgioohaknaaGreatDoor
