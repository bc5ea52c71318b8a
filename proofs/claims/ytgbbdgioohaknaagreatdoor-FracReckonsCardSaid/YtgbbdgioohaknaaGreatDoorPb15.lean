/- What the laws lean on, part 15. -/
import Derived.Lib.Bytealg
import Derived.Lib.Strings
import Derived.Lib.Slices
import Derived.Lib.Walk
import Derived.OwnWalk
import Derived.Deep.RegionHeld3
import Derived.Test.YtgbbdgioohaknaaGreatDoorPb14
namespace Go.Proofs.YtgbbdgioohaknaaGreatDoor
open Go.RowKit Mat
set_option maxRecDepth 100000
set_option linter.unusedVariables false
set_option linter.unusedSimpArgs false
def slx (s : ByteArray) : Int:=Lib.indexByte s.data.toList 47
theorem iM_ (c : UInt8) : ∀ l : List UInt8,(Lib.indexByte l c = -1 ∧ c ∉ l) ∨ ∃ k : Nat,k < l.length ∧ Lib.indexByte l c = (k : Int) ∧ l[k]? = some c ∧ c ∉ l.take k
 | []=>Or.inl ⟨rfl,by simp⟩
 | b :: l=>by
  unfold Lib.indexByte
  by_cases h : b = c
  · subst h
    right; exact ⟨0,by simp,by simp,by simp,by simp⟩
  · have hb : (b == c) = false:=beq_eq_false_iff_ne.2 h
    rw [hb]
    rcases iM_ c l with ⟨h1,h2⟩ | ⟨k,h1,h2,h3,h4⟩
    · left; rw [h1]; exact ⟨rfl,by simp [h2,Ne.symm h]⟩
    · right
      rw [h2]
      have : ((k : Int) == -1) = false:=beq_eq_false_iff_ne.2 (by omega)
      rw [this]
      exact ⟨k + 1,by simp; omega,by simp,by simpa using h3,by simp [h4,Ne.symm h]⟩
theorem cJ_ (s : ByteArray) : (slx s = -1 ∧ (47 : UInt8) ∉ s.data.toList) ∨ ∃ k : Nat,k < s.size ∧ slx s = (k : Int) ∧ s.data.toList[k]? = some 47 ∧ (47 : UInt8) ∉ s.data.toList.take k:=by
 rcases iM_ 47 s.data.toList with h | ⟨k,h1,h2⟩
 · exact Or.inl h
 · exact Or.inr ⟨k,by simpa using h1,h2⟩
theorem lf_ (w : World) (s : ByteArray) :
    Calls Tryz.prog 131 #[.string s,.int .u8 47] w (fun e w'=>e = .returned (.int .i64 (slx s)) ∧ w = w'):=by
 go_enter Tryz.func131,Tryz.ntmps131
 go_wp2
 rw [run_callFunc_extern Tryz.func142 (by kernel_rfl) (by kernel_rfl) (by kernel_rfl) (e:=Extern.BytealgIndexByte.indexByte) (by kernel_rfl),Lib.run_indexByteString]
 simp only [Result.andThen]
 rw [Oper.upon_value]
 go_wp2
 go_ret
 exact ⟨rfl,rfl⟩
theorem iL_ (w : World) (s : ByteArray) :
    Calls Tryz.prog 115 #[.string s,.string { data:=#[47] }] w (fun e w'=>e = .returned (.int .i64 (slx s)) ∧ w = w'):=by
 cases hs : (([47] : List UInt8) == s.toList)
 · go_enter Tryz.func115,Tryz.ntmps115
   go_wp2_with fail
   refine (lf_ w s).mono ?_
   rintro e w' ⟨rfl,rfl⟩
   go_wp2_with fail
   go_ret
   exact ⟨rfl,rfl⟩
 · have h0 : slx s = 0:=by
    have : s.data.toList = [47]:=by rw [← ByteArray.toList_eq]; exact (beq_iff_eq.1 hs).symm
    unfold slx; rw [this]; rfl
   rw [h0]
   clear h0
   go_enter Tryz.func115,Tryz.ntmps115
   go_wp2_with fail
   go_ret
   exact ⟨rfl,rfl⟩
theorem lj_ (w : World) (s : ByteArray) (k : Nat) (h : slx s = (k : Int)) (hk : k < s.size) (hs : s.size ≤ 4611686018427387904) :
    Calls Tryz.prog 89 #[.string s,.string { data:=#[47] }] w (fun e w'=>e = .returned (.tuple #[.string (s.extract 0 k),.string (s.extract (k + 1) s.size),.bool true]) ∧ w.grownBy w' none):=by
 have H:=H_ h
 clear h
 go_enter Tryz.func89,Tryz.ntmps89
 go_wp2_with fail
 refine (iL_ w s).mono ?_
 rintro e w' ⟨rfl,rfl⟩
 rw [H.out]
 go_wp2_with fail
 go_quiet (fail)
 go_wp2_with fail
 go_ret3
 exact ⟨rfl,v_ _ _ _⟩
theorem lk_ (w : World) (s : ByteArray) (h : slx s = -1) :
    Calls Tryz.prog 89 #[.string s,.string { data:=#[47] }] w (fun e w'=>e = .returned (.tuple #[.string s,.string { data:=#[] },.bool false]) ∧ w = w'):=by
 have H:=H_ h
 clear h
 go_enter Tryz.func89,Tryz.ntmps89
 go_wp2_with fail
 refine (iL_ w s).mono ?_
 rintro e w' ⟨rfl,rfl⟩
 rw [H.out]
 go_wp2_with fail
 go_ret3
 exact ⟨rfl,rfl⟩
theorem kT_ (w : World) (s : ByteArray) (k : Nat) (h : slx s = (k : Int)) (hk : k < s.size) (hs : s.size ≤ 4611686018427387904) :
    Calls Tryz.prog 50 #[.string s,.string { data:=#[47] }] w (fun e w'=>e = .returned (.tuple #[.string (s.extract 0 k),.string (s.extract (k + 1) s.size),.bool true]) ∧ w.grownBy w' none):=by
 have H:=H_ h
 have HK:=H_ hk
 have HS:=H_ hs
 clear h hk hs
 go_enter Tryz.func50,Tryz.ntmps50
 go_wp2_with fail
 refine (lj_ w s k H.out HK.out HS.out).mono ?_
 rintro e w' ⟨rfl,g⟩
 go_wp2_with fail
 go_ret3
 exact ⟨rfl,g⟩
theorem kU_ (w : World) (s : ByteArray) (h : slx s = -1) :
    Calls Tryz.prog 50 #[.string s,.string { data:=#[47] }] w (fun e w'=>e = .returned (.tuple #[.string s,.string { data:=#[] },.bool false]) ∧ w = w'):=by
 have H:=H_ h
 clear h
 go_enter Tryz.func50,Tryz.ntmps50
 go_wp2_with fail
 refine (lk_ w s H.out).mono ?_
 rintro e w' ⟨rfl,rfl⟩
 go_wp2_with fail
 go_ret3
 exact ⟨rfl,rfl⟩
theorem al_ {s t : ByteArray} {z : Int} (hs : ar_ s z) (ht : ar_ t z) : s = t:=by
 obtain ⟨l,hl,vl,el⟩:=hs
 obtain ⟨m,hm,vm,em⟩:=ht
 have : l = m:=em_ hl hm (vl.trans vm.symm)
 subst this
 exact lp_ (el.trans em.symm)
theorem ab_ (w : World) (va : Value) (z : Int) (K : Nat) (ha : IntV w va z) (hK : K ≤ 900000) (la : z.natAbs < B ^ K) :
    Calls Tryz.prog 18 #[va] w (hi_ w z):=jj_ w va z K ha hK la
theorem bU_ {s : ByteArray} {z : Int} {K : Nat} (h : ar_ s z) (la : z.natAbs < B ^ K) : s.size ≤ 20 * K + 2:=by
 obtain ⟨l,hl,vl,el⟩:=h
 have h1 : l.length ≤ 20 * K + 1:=by
  refine gA_ hl ?_ (by omega)
  rw [vl]
  refine Nat.lt_of_lt_of_le la ?_
  have q1 : B ^ K ≤ (10 ^ 20) ^ K:=Nat.pow_le_pow_left (by decide) K
  rw [← Nat.pow_mul] at q1
  exact Nat.le_trans q1 (Nat.pow_le_pow_right (by omega) (by omega))
 have h2:=congrArg List.length el
 rw [z_] at h2
 rw [h2]
 split
 · rw [List.length_cons]; omega
 · omega
theorem hV_ {a K : Nat} (h : a ≤ 20 * K + 2) (hK : K ≤ 800000) : ¬ (9223372036854775807 < a + 1):=by omega
theorem hU_ {a b K : Nat} (h : a ≤ 20 * K + 2) (h' : b ≤ 20 * K + 2) (hK : K ≤ 800000) : ¬ (9223372036854775807 < a + 1 + b):=by omega
def ch_ (s : ByteArray) (r : Rat) : Prop:=(r.den = 1 ∧ ar_ s r.num) ∨ (r.den ≠ 1 ∧ ∃ p q : ByteArray,ar_ p r.num ∧ ar_ q (r.den : Int) ∧ s = p ++ { data:=#[47] } ++ q)
theorem aK_ {s t : ByteArray} {r : Rat} (hs : ch_ s r) (ht : ch_ t r) : s = t:=by
 rcases hs with ⟨h1,h2⟩ | ⟨h1,p,q,h2,h3,h4⟩
 · rcases ht with ⟨g1,g2⟩ | ⟨g1,_⟩
   · exact al_ h2 g2
   · exact absurd h1 g1
 · rcases ht with ⟨g1,g2⟩ | ⟨g1,p',q',g2,g3,g4⟩
   · exact absurd g1 h1
   · rw [h4,g4,al_ h2 g2,al_ h3 g3]
def hj_ (w : World) (r : Rat) (e : Ending) (w' : World) : Prop:=∃ s,e = .returned (.string s) ∧ ch_ s r ∧ w.grownBy w' none
set_option maxHeartbeats 16000000 in
theorem aH_ (w : World) (va : Value) (r : Rat) (K : Nat) (Ha : RatV w va r) (hK : K ≤ 800000) (ln : r.num.natAbs < B ^ K) (ld : r.den < B ^ K) :
    Calls Tryz.prog 14 #[va] w (hj_ w r):=by
 have HD : Hid ((r.den : Int).natAbs < B ^ K):=by show _ < _; rw [Int.natAbs_natCast]; exact ld
 have HDN : Hid (¬ r.den = 1 → dn r = (r.den : Int)):=fun h=>by unfold dn; rw [if_neg h]
 have Hln:=H_ ln
 have Hld:=H_ ld
 clear ln ld
 by_cases h1 : r.den = 1
 · skip
   have H1:=H_ h1
   have hd : decide (r.den = 1) = true:=decide_eq_true h1
   have HDE:=H_ hd
   clear h1 hd
   obtain ⟨sa,xa,ba,sa',xa',ba',rfl,ha,ha'⟩:=Ha
   obtain ⟨hG,Ba⟩:=en1_ w (.cells #[.slice sa xa.length xa.length,.bool ba,.slice sa' xa'.length xa'.length,.bool ba'] 28)
   have oa : RatV w (.agg #[.slice sa xa.length xa.length,.bool ba,.slice sa' xa'.length xa'.length,.bool ba']) (r):=⟨sa,xa,ba,sa',xa',ba',rfl,ha,ha'⟩
   have qa:=oa.kept hG
   have ia:=(show IntV w (.agg #[.slice sa xa.length xa.length,.bool ba]) (r).num from ha).kept hG
   have ia':=(show IntV w (.agg #[.slice sa' xa'.length xa'.length,.bool ba']) (dn (r)) from ha').kept hG
   clear ha ha'
   go_enter Tryz.func14,Tryz.ntmps14
   obtain ⟨Ca0,Ca1,Ca2,Ca3,Fa0,Fa1,Fa2,Fa3⟩:=b_ Ba
   go_wp2_with fail
   generalize (w.alloc (.cells #[.slice sa xa.length xa.length,.bool ba,.slice sa' xa'.length xa'.length,.bool ba'] 28)) = w0 at *
   clear Ca0 Fa0 Ca1 Fa1 Ca2 Fa2 Ca3 Fa3
   refine (B_ w0 _ r K qa (by omega) Hld.out).mono ?_
   rintro e t1w1 ⟨rfl,gt1w1⟩
   rw [HDE.out]
   replace Ba:=a_ gt1w1 Ba
   replace ia:=ia.kept gt1w1
   replace hG:=d_ hG gt1w1
   clear gt1w1
   obtain ⟨Ca0,Ca1,Ca2,Ca3,Fa0,Fa1,Fa2,Fa3⟩:=b_ Ba
   go_wp2_with fail
   clear Ca0 Fa0 Ca1 Fa1 Ca2 Fa2 Ca3 Fa3
   refine (ab_ t1w1 _ r.num K ia (by omega) Hln.out).mono ?_
   rintro e t1w2 ⟨s,rfl,hs,gt1w2⟩
   have HS:=H_ hs
   clear hs
   replace Ba:=a_ gt1w2 Ba
   replace hG:=d_ hG gt1w2
   clear gt1w2
   obtain ⟨Ca0,Ca1,Ca2,Ca3,Fa0,Fa1,Fa2,Fa3⟩:=b_ Ba
   go_wp2_with fail
   go_ret
   exact ⟨_,rfl,Or.inl ⟨H1.out,HS.out⟩,hG⟩
 · skip
   have H1:=H_ h1
   have hd : decide (r.den = 1) = false:=decide_eq_false h1
   have HDE:=H_ hd
   clear h1 hd
   obtain ⟨sa,xa,ba,sa',xa',ba',rfl,ha,ha'⟩:=Ha
   obtain ⟨hG,Ba⟩:=en1_ w (.cells #[.slice sa xa.length xa.length,.bool ba,.slice sa' xa'.length xa'.length,.bool ba'] 28)
   have oa : RatV w (.agg #[.slice sa xa.length xa.length,.bool ba,.slice sa' xa'.length xa'.length,.bool ba']) (r):=⟨sa,xa,ba,sa',xa',ba',rfl,ha,ha'⟩
   have qa:=oa.kept hG
   have ia:=(show IntV w (.agg #[.slice sa xa.length xa.length,.bool ba]) (r).num from ha).kept hG
   have ia':=(show IntV w (.agg #[.slice sa' xa'.length xa'.length,.bool ba']) (dn (r)) from ha').kept hG
   clear ha ha'
   go_enter Tryz.func14,Tryz.ntmps14
   obtain ⟨Ca0,Ca1,Ca2,Ca3,Fa0,Fa1,Fa2,Fa3⟩:=b_ Ba
   go_wp2_with fail
   generalize (w.alloc (.cells #[.slice sa xa.length xa.length,.bool ba,.slice sa' xa'.length xa'.length,.bool ba'] 28)) = w0 at *
   clear Ca0 Fa0 Ca1 Fa1 Ca2 Fa2 Ca3 Fa3
   refine (B_ w0 _ r K qa (by omega) Hld.out).mono ?_
   rintro e t0w1 ⟨rfl,gt0w1⟩
   rw [HDE.out]
   replace Ba:=a_ gt0w1 Ba
   replace ia:=ia.kept gt0w1
   replace ia':=ia'.kept gt0w1
   replace hG:=d_ hG gt0w1
   clear gt0w1
   obtain ⟨Ca0,Ca1,Ca2,Ca3,Fa0,Fa1,Fa2,Fa3⟩:=b_ Ba
   go_wp2_with fail
   rw [HDN.out H1.out] at ia'
   go_region_held3 (fun w'=>w'.cell? ⟨w.heap.size,0,none⟩ = some (.slice sa xa.length xa.length) ∧ w'.cell? ⟨w.heap.size,1,none⟩ = some (.bool ba) ∧ w'.cell? ⟨w.heap.size,2,none⟩ = some (.slice sa' xa'.length xa'.length) ∧ w'.cell? ⟨w.heap.size,3,none⟩ = some (.bool ba'))
    (first | assumption | exact ⟨Ca0,Ca1,Ca2,Ca3⟩ | go_keep)
    (first
      | (go_at_call 18; (with_reducible refine (ab_ t0w1.drew _ r.num K (ia.kept (k_ (h_ _ _))) (by omega) Hln.out).mono ?_); rintro e t0w2_1 ⟨s,rfl,hs,gt0w2_1⟩; have HS:=H_ hs; have hz:=bU_ hs Hln.out; have hz1:=hV_ hz hK; clear hs; have hGt0w2_1:=o_ t0w1 gt0w2_1 rfl rfl rfl rfl; have hSt0w2_1:=(n_ (hGt0w2_1.cell Ca0 (by simp)) (n_ (hGt0w2_1.cell Ca1 (by simp)) (n_ (hGt0w2_1.cell Ca2 (by simp)) (hGt0w2_1.cell Ca3 (by simp))))); clear gt0w2_1)
      | (go_at_call 18; (with_reducible refine (ab_ t0w2_1 _ (r.den : Int) K (ia'.kept hGt0w2_1) (by omega) HD.out).mono ?_); rintro e t0w2_2 ⟨t,rfl,ht,gt0w2_2⟩; have HT:=H_ ht; have hy:=bU_ ht HD.out; have hz2:=hU_ hz hy hK; clear ht; have hGt0w2_2:=d_ hGt0w2_1 gt0w2_2; have hSt0w2_2:=(n_ (hGt0w2_2.cell Ca0 (by simp)) (n_ (hGt0w2_2.cell Ca1 (by simp)) (n_ (hGt0w2_2.cell Ca2 (by simp)) (hGt0w2_2.cell Ca3 (by simp))))); clear gt0w2_2))
   replace Ba:=a_ hGt0w2_2 Ba
   replace hG:=d_ hG hGt0w2_2
   clear Ca0 Fa0 Ca1 Fa1 Ca2 Fa2 Ca3 Fa3
   obtain ⟨Ca0,Ca1,Ca2,Ca3,Fa0,Fa1,Fa2,Fa3⟩:=b_ Ba
   go_wp2_with fail
   go_ret
   exact ⟨_,rfl,Or.inr ⟨H1.out,_,_,HS.out,HT.out,by first | rfl | simp⟩,hG⟩
def fup (s : ByteArray) : ByteArray:=if slx s < 0 then s else s.extract 0 (slx s).toNat
def dq_ (s : ByteArray) : ByteArray:=s.extract ((slx s).toNat + 1) s.size
def fP_ (s : ByteArray) : Int:=if hM_ (bts s) = true then 0 else 3
def bf_ (s : ByteArray) : Nat:=if hM_ (bts s) = true then aC_ (bts s) else 0
def dc_ (s : ByteArray) : Int:=if de_ (fup s) ≠ 0 then de_ (fup s) else if slx s < 0 then 0 else if fP_ (dq_ s) ≠ 0 then fP_ (dq_ s) else if bf_ (dq_ s) = 0 then 5 else 0
def cG_ (s : ByteArray) : Rat:=if dc_ s = 0 then (if slx s < 0 then (aL_ (fup s) : Rat) else Rat.divInt (aL_ (fup s)) (bf_ (dq_ s) : Int)) else 0
theorem hQ_ (w : World) (s : ByteArray) (hs : s.size ≤ 4096) : Calls Tryz.prog 52 #[.string s] w (bC_ w (bf_ s) (fP_ s)):=by
 unfold bf_ fP_
 by_cases h : hM_ (bts s) = true
 · rw [if_pos h,if_pos h]; exact cs_ w s hs (cc_ h)
 · rw [if_neg h,if_neg h]; exact ds_ w s hs (fun hd=>h ((cd_ _).2 hd))
theorem iH_ (s : ByteArray) : fP_ s = 0 ∨ fP_ s = 3:=by unfold fP_; split <;> simp
theorem hW_ {s : ByteArray} (h : s.size ≤ 4000) : de_ s = 0 ∨ de_ s = 3:=by
 have h1 : (dC_ (bts s)).length ≤ 4096:=by
  unfold dC_
  split
  · rw [List.length_tail,z_]; omega
  · rw [z_]; omega
 unfold de_
 rw [if_neg (by omega)]
 split
 · right; rfl
 · left; rw [if_neg (by omega)]
theorem fk_ (s : ByteArray) : (fup s).size ≤ s.size:=by
 unfold fup
 split
 · exact Nat.le_refl _
 · rw [ByteArray.size_extract]; omega
theorem dp_ (s : ByteArray) : (dq_ s).size ≤ s.size:=by
 unfold dq_
 rw [ByteArray.size_extract]; omega
theorem iG_ (s : ByteArray) {n k : Nat} (h : s.size ≤ n) (hk : n ≤ 19 * k) : bf_ s < B ^ k:=by
 unfold bf_
 split
 · next hd=>exact fn_ ((cd_ _).1 hd) (by rw [z_]; omega)
 · exact Nat.pow_pos T_
set_option maxHeartbeats 16000000 in
theorem aV_ (w : World) (s : ByteArray) (hs : s.size ≤ 4000) (hTab : Tab w) :
    Calls Tryz.prog 11 #[.string s] w (V_ w (cG_ s) (dc_ s)):=by
 have HTB : Hid (∀ W,w.grownBy W none → Tab W):=fun W hW=>hTab.kept hW (by simp)
 clear hTab
 obtain ⟨U,hU⟩ : ∃ U,fup s = U:=⟨_,rfl⟩
 obtain ⟨D9,hD⟩ : ∃ D,dq_ s = D:=⟨_,rfl⟩
 have hUs : U.size ≤ 4000:=by rw [← hU]; exact Nat.le_trans (fk_ s) hs
 have hDs : D9.size ≤ 4000:=by rw [← hD]; exact Nat.le_trans (dp_ s) hs
 have HZB : Hid ((aL_ U).natAbs < B ^ 211):=hT_ U hUs (by omega)
 have HNB : Hid (bf_ D9 < B ^ 211):=iG_ D9 hDs (by omega)
 have HNBI : Hid (((bf_ D9 : Nat) : Int).natAbs < B ^ 211):=by show _ < _; rw [Int.natAbs_natCast]; exact HNB.out
 have HNP : Hid (∀ W,Calls Tryz.prog 52 #[.string D9] W (bC_ W (bf_ D9) (fP_ D9))):=fun W=>hQ_ W D9 (by omega)
 have hz:=hW_ hUs
 have hn:=iH_ D9
 have hcv : dc_ s = (if de_ U ≠ 0 then de_ U else if slx s < 0 then 0 else if fP_ D9 ≠ 0 then fP_ D9 else if bf_ D9 = 0 then 5 else 0):=by unfold dc_; rw [hU,hD]
 have hfv : cG_ s = if dc_ s = 0 then (if slx s < 0 then (aL_ U : Rat) else Rat.divInt (aL_ U) (bf_ D9 : Int)) else 0:=by unfold cG_; rw [hU,hD]
 rcases cJ_ s with ⟨hx,_⟩ | ⟨k,hk,hx,_,_⟩
 · skip
   have hUe : U = s:=by rw [← hU]; unfold fup; rw [if_pos (by omega)]
   have HCUT : Hid (∀ W,Calls Tryz.prog 50 #[.string s,.string { data:=#[47] }] W (fun e w'=>e = .returned (.tuple #[.string U,.string { data:=#[] },.bool false]) ∧ W.grownBy w' none)):=fun W=>(kU_ W s hx).mono fun e w' ⟨h1,h2⟩=>⟨by rw [hUe]; exact h1,h2 ▸ h_ _ _⟩
   rcases hz with hz | hz
   · skip
     have HZP : Hid (∀ W,Calls Tryz.prog 51 #[.string U] W (aQ_ W (aL_ U) 0)):=fun W=>hz ▸ cp_ W U
     have hc9 : dc_ s = 0:=by rw [hcv]; simp [hz,hx]
     have hv9 : cG_ s = (aL_ U : Rat):=by rw [hfv,hc9]; simp [hx]
     rw [hc9,hv9]
     clear hc9 hv9 hcv hfv hz hn hU hD hUs hDs hUe hx hs
     obtain ⟨hG,Bq⟩:=en1_ w (.cells #[.slice none 0 0,.bool false,.slice none 0 0,.bool false] 28)
     go_enter Tryz.func11,Tryz.ntmps11
     obtain ⟨Cq0,Cq1,Cq2,Cq3,Fq0,Fq1,Fq2,Fq3⟩:=b_ Bq
     go_wp2_with fail
     generalize (w.alloc (.cells #[.slice none 0 0,.bool false,.slice none 0 0,.bool false] 28)) = w0 at *
     clear Cq0 Fq0 Cq1 Fq1 Cq2 Fq2 Cq3 Fq3
     refine (HCUT.out w0).mono ?_
     rintro e s0z0w1 ⟨rfl,gs0z0w1⟩
     replace Bq:=a_ gs0z0w1 Bq
     replace hG:=d_ hG gs0z0w1
     clear gs0z0w1
     obtain ⟨Cq0,Cq1,Cq2,Cq3,Fq0,Fq1,Fq2,Fq3⟩:=b_ Bq
     go_wp2_with fail
     clear Cq0 Fq0 Cq1 Fq1 Cq2 Fq2 Cq3 Fq3
     refine (HZP.out s0z0w1).mono ?_
     rintro e s0z0w2 ⟨_,rfl,⟨su,xu,bu,rfl,hu,vu,tu⟩,gs0z0w2⟩
     have iu : IntV s0z0w2 (.agg #[.slice su xu.length xu.length,.bool bu]) (aL_ U):=⟨su,xu,bu,rfl,hu,vu,tu⟩
     replace Bq:=a_ gs0z0w2 Bq
     replace hG:=d_ hG gs0z0w2
     clear gs0z0w2
     clear hu vu tu
     obtain ⟨Cq0,Cq1,Cq2,Cq3,Fq0,Fq1,Fq2,Fq3⟩:=b_ Bq
     have gbs0z0w2:=(wg_ s0z0w2 (.cells #[.slice su xu.length xu.length,.bool bu] 26) none)
     have Bu:=(f_ s0z0w2 (.cells #[.slice su xu.length xu.length,.bool bu] 26) (s0z0w2.heap.size) rfl)
     have hzs0z0w2 : Hid (w.heap.size ≤ s0z0w2.heap.size):=H_ hG.size
     have hlqs0z0w2 : Hid (w.heap.size < s0z0w2.heap.size):=H_ (Array.getElem?_eq_some_iff.1 Bq).1
     clear Cq0 Fq0 Cq1 Fq1 Cq2 Fq2 Cq3 Fq3
     replace Bq:=a_ gbs0z0w2 Bq
     replace iu:=iu.kept gbs0z0w2
     replace hG:=d_ hG gbs0z0w2
     clear gbs0z0w2
     obtain ⟨Cq0,Cq1,Cq2,Cq3,Fq0,Fq1,Fq2,Fq3⟩:=b_ Bq
     obtain ⟨Cu0,Cu1,Fu0,Fu1⟩:=c_ Bu
     go_wp2_with fail
     generalize (s0z0w2.alloc (.cells #[.slice su xu.length xu.length,.bool bu] 26)) = s0z0w3 at *
     generalize s0z0w2.heap.size = as0z0w2 at *
     replace hzs0z0w2:=hzs0z0w2.out
     replace hlqs0z0w2:=hlqs0z0w2.out
     clear Cq0 Fq0 Cq1 Fq1 Cq2 Fq2 Cq3 Fq3 Cu0 Fu0 Cu1 Fu1
     refine (p_ s0z0w3 _ (aL_ U) 211 iu (by omega) HZB.out).mono ?_
     rintro e s0z0w4 ⟨_,rfl,⟨sd,xd,bd,sd',xd',bd',rfl,hd,hd'⟩,gs0z0w4⟩
     have qd : RatV s0z0w4 (.agg #[.slice sd xd.length xd.length,.bool bd,.slice sd' xd'.length xd'.length,.bool bd']) ((aL_ U : Rat)):=⟨sd,xd,bd,sd',xd',bd',rfl,hd,hd'⟩
     replace Bq:=a_ gs0z0w4 Bq
     replace Bu:=a_ gs0z0w4 Bu
     replace hG:=d_ hG gs0z0w4
     clear gs0z0w4
     clear hd hd'
     obtain ⟨Cq0,Cq1,Cq2,Cq3,Fq0,Fq1,Fq2,Fq3⟩:=b_ Bq
     obtain ⟨Cu0,Cu1,Fu0,Fu1⟩:=c_ Bu
     clear Cq0 Fq0 Cq1 Fq1 Cq2 Fq2 Cq3 Fq3 Cu0 Fu0 Cu1 Fu1
     obtain ⟨k90,k91,k92,k93,k94,k95,k96,k97⟩:=b_ Bq
     obtain ⟨q90,q91,q92,q93,q94,q95,q96,q97⟩:=b_ (r_ Bq (.slice sd xd.length xd.length) (.bool bd) (.slice sd' xd'.length xd'.length) (.bool bd'))
     have hF : Hid (V_ w ((aL_ U : Rat)) 0 (.returned (.tuple #[.agg #[.slice sd xd.length xd.length,.bool bd,.slice sd' xd'.length xd'.length,.bool bd'],.int .i64 0])) ((((s0z0w4.setCell ⟨w.heap.size,0,none⟩ (.slice sd xd.length xd.length)).setCell ⟨w.heap.size,1,none⟩ (.bool bd)).setCell ⟨w.heap.size,2,none⟩ (.slice sd' xd'.length xd'.length)).setCell ⟨w.heap.size,3,none⟩ (.bool bd'))):=av_ hG Bq (by omega) qd
     clear iu qd
     obtain ⟨Cu0,Cu1,Fu0,Fu1⟩:=c_ Bu
     go_wp2_with fail
     exact bodyPost_ret (v:=.tuple #[.agg #[.slice sd xd.length xd.length,.bool bd,.slice sd' xd'.length xd'.length,.bool bd'],.int .i64 0]) (by simp [results,Tryz.results11,go_sem,q90,q91,q92,q93]) rfl hF.out
   · skip
     have HZP : Hid (∀ W,Calls Tryz.prog 51 #[.string U] W (aQ_ W (aL_ U) 3)):=fun W=>hz ▸ cp_ W U
     have hc9 : dc_ s = 3:=by rw [hcv]; simp [hz,hx]
     have hv9 : cG_ s = 0:=by rw [hfv,hc9]; simp [hx]
     rw [hc9,hv9]
     clear hc9 hv9 hcv hfv hz hn hU hD hUs hDs hUe hx hs
     obtain ⟨hG,Bq⟩:=en1_ w (.cells #[.slice none 0 0,.bool false,.slice none 0 0,.bool false] 28)
     go_enter Tryz.func11,Tryz.ntmps11
     obtain ⟨Cq0,Cq1,Cq2,Cq3,Fq0,Fq1,Fq2,Fq3⟩:=b_ Bq
     go_wp2_with fail
     generalize (w.alloc (.cells #[.slice none 0 0,.bool false,.slice none 0 0,.bool false] 28)) = w0 at *
     clear Cq0 Fq0 Cq1 Fq1 Cq2 Fq2 Cq3 Fq3
     refine (HCUT.out w0).mono ?_
     rintro e s0z3w1 ⟨rfl,gs0z3w1⟩
     replace Bq:=a_ gs0z3w1 Bq
     replace hG:=d_ hG gs0z3w1
     clear gs0z3w1
     obtain ⟨Cq0,Cq1,Cq2,Cq3,Fq0,Fq1,Fq2,Fq3⟩:=b_ Bq
     go_wp2_with fail
     clear Cq0 Fq0 Cq1 Fq1 Cq2 Fq2 Cq3 Fq3
     refine (HZP.out s0z3w1).mono ?_
     rintro e s0z3w2 ⟨_,rfl,⟨su,xu,bu,rfl,hu,vu,tu⟩,gs0z3w2⟩
     have iu : IntV s0z3w2 (.agg #[.slice su xu.length xu.length,.bool bu]) (aL_ U):=⟨su,xu,bu,rfl,hu,vu,tu⟩
     replace Bq:=a_ gs0z3w2 Bq
     replace hG:=d_ hG gs0z3w2
     clear gs0z3w2
     clear hu vu tu
     obtain ⟨Cq0,Cq1,Cq2,Cq3,Fq0,Fq1,Fq2,Fq3⟩:=b_ Bq
     have gbs0z3w2:=(wg_ s0z3w2 (.cells #[.slice su xu.length xu.length,.bool bu] 26) none)
     have Bu:=(f_ s0z3w2 (.cells #[.slice su xu.length xu.length,.bool bu] 26) (s0z3w2.heap.size) rfl)
     have hzs0z3w2 : Hid (w.heap.size ≤ s0z3w2.heap.size):=H_ hG.size
     have hlqs0z3w2 : Hid (w.heap.size < s0z3w2.heap.size):=H_ (Array.getElem?_eq_some_iff.1 Bq).1
     clear Cq0 Fq0 Cq1 Fq1 Cq2 Fq2 Cq3 Fq3
     replace Bq:=a_ gbs0z3w2 Bq
     replace hG:=d_ hG gbs0z3w2
     clear gbs0z3w2
     obtain ⟨Cq0,Cq1,Cq2,Cq3,Fq0,Fq1,Fq2,Fq3⟩:=b_ Bq
     obtain ⟨Cu0,Cu1,Fu0,Fu1⟩:=c_ Bu
     go_wp2_with fail
     skip
     generalize (s0z3w2.alloc (.cells #[.slice su xu.length xu.length,.bool bu] 26)) = s0z3w3 at *
     generalize s0z3w2.heap.size = as0z3w2 at *
     replace hzs0z3w2:=hzs0z3w2.out
     replace hlqs0z3w2:=hlqs0z3w2.out
     have qd : RatV s0z3w3 (.agg #[.slice none 0 0,.bool false,.slice none 0 0,.bool false]) 0:=RatV.zero _
     clear Cq0 Fq0 Cq1 Fq1 Cq2 Fq2 Cq3 Fq3 Cu0 Fu0 Cu1 Fu1
     obtain ⟨k90,k91,k92,k93,k94,k95,k96,k97⟩:=b_ Bq
     obtain ⟨q90,q91,q92,q93,q94,q95,q96,q97⟩:=b_ (r_ Bq (.slice none 0 0) (.bool false) (.slice none 0 0) (.bool false))
     have hF : Hid (V_ w (0) 3 (.returned (.tuple #[.agg #[.slice none 0 0,.bool false,.slice none 0 0,.bool false],.int .i64 3])) ((((s0z3w3.setCell ⟨w.heap.size,0,none⟩ (.slice none 0 0)).setCell ⟨w.heap.size,1,none⟩ (.bool false)).setCell ⟨w.heap.size,2,none⟩ (.slice none 0 0)).setCell ⟨w.heap.size,3,none⟩ (.bool false))):=av_ hG Bq (by omega) qd
     clear iu qd
     obtain ⟨Cu0,Cu1,Fu0,Fu1⟩:=c_ Bu
     go_wp2_with fail
     exact bodyPost_ret (v:=.tuple #[.agg #[.slice none 0 0,.bool false,.slice none 0 0,.bool false],.int .i64 3]) (by simp [results,Tryz.results11,go_sem,q90,q91,q92,q93]) rfl hF.out
 · skip
   have hUe : U = s.extract 0 k:=by rw [← hU]; unfold fup; rw [if_neg (by omega),hx]; rfl
   have hDe : D9 = s.extract (k + 1) s.size:=by rw [← hD]; unfold dq_; rw [hx]; rfl
   have HCUT : Hid (∀ W,Calls Tryz.prog 50 #[.string s,.string { data:=#[47] }] W (fun e w'=>e = .returned (.tuple #[.string U,.string D9,.bool true]) ∧ W.grownBy w' none)):=fun W=>(kT_ W s k hx hk (by omega)).mono fun e w' ⟨h1,h2⟩=>⟨by rw [hUe,hDe]; exact h1,h2⟩
   rcases hz with hz | hz
   · skip
     have HZP : Hid (∀ W,Calls Tryz.prog 51 #[.string U] W (aQ_ W (aL_ U) 0)):=fun W=>hz ▸ cp_ W U
     rcases hn with hn | hn
     · skip
       have HNQ : Hid (∀ W,Calls Tryz.prog 52 #[.string D9] W (bC_ W (bf_ D9) 0)):=fun W=>hn ▸ HNP.out W
       obtain ⟨c9,hc0⟩ : ∃ c : Int,(if bf_ D9 = 0 then 5 else 0) = c:=⟨_,rfl⟩
       have HC9 : Hid ((if ((bf_ D9 : Nat) : Int) = 0 then (5 : Int) else 0) = c9):=by show _ = _; rw [← hc0]; simp
       have hc9 : dc_ s = c9:=by rw [hcv,← hc0]; simp [hz,hx,hn,show ¬ ((k : Int) < 0) by omega]
       have hv9 : cG_ s = Rat.divInt (aL_ U) (bf_ D9 : Int):=by
        rw [hfv,hc9,← hc0]
        by_cases h0 : bf_ D9 = 0
        · simp [h0]
        · rw [if_pos (by rw [if_neg h0]),if_neg (by omega)]
       rw [hc9,hv9]
       clear hc0 hc9 hv9 hcv hfv hz hn hU hD hUs hDs hUe hx hs hDe hk
       obtain ⟨hG,Bq⟩:=en1_ w (.cells #[.slice none 0 0,.bool false,.slice none 0 0,.bool false] 28)
       go_enter Tryz.func11,Tryz.ntmps11
       obtain ⟨Cq0,Cq1,Cq2,Cq3,Fq0,Fq1,Fq2,Fq3⟩:=b_ Bq
       go_wp2_with fail
       generalize (w.alloc (.cells #[.slice none 0 0,.bool false,.slice none 0 0,.bool false] 28)) = w0 at *
       clear Cq0 Fq0 Cq1 Fq1 Cq2 Fq2 Cq3 Fq3
       refine (HCUT.out w0).mono ?_
       rintro e s1z0n0w1 ⟨rfl,gs1z0n0w1⟩
       replace Bq:=a_ gs1z0n0w1 Bq
       replace hG:=d_ hG gs1z0n0w1
       clear gs1z0n0w1
       obtain ⟨Cq0,Cq1,Cq2,Cq3,Fq0,Fq1,Fq2,Fq3⟩:=b_ Bq
       go_wp2_with fail
       clear Cq0 Fq0 Cq1 Fq1 Cq2 Fq2 Cq3 Fq3
       refine (HZP.out s1z0n0w1).mono ?_
       rintro e s1z0n0w2 ⟨_,rfl,⟨su,xu,bu,rfl,hu,vu,tu⟩,gs1z0n0w2⟩
       have iu : IntV s1z0n0w2 (.agg #[.slice su xu.length xu.length,.bool bu]) (aL_ U):=⟨su,xu,bu,rfl,hu,vu,tu⟩
       replace Bq:=a_ gs1z0n0w2 Bq
       replace hG:=d_ hG gs1z0n0w2
       clear gs1z0n0w2
       clear hu vu tu
       obtain ⟨Cq0,Cq1,Cq2,Cq3,Fq0,Fq1,Fq2,Fq3⟩:=b_ Bq
       have gbs1z0n0w2:=(wg_ s1z0n0w2 (.cells #[.slice su xu.length xu.length,.bool bu] 26) none)
       have Bu:=(f_ s1z0n0w2 (.cells #[.slice su xu.length xu.length,.bool bu] 26) (s1z0n0w2.heap.size) rfl)
       have hzs1z0n0w2 : Hid (w.heap.size ≤ s1z0n0w2.heap.size):=H_ hG.size
       have hlqs1z0n0w2 : Hid (w.heap.size < s1z0n0w2.heap.size):=H_ (Array.getElem?_eq_some_iff.1 Bq).1
       clear Cq0 Fq0 Cq1 Fq1 Cq2 Fq2 Cq3 Fq3
       replace Bq:=a_ gbs1z0n0w2 Bq
       replace iu:=iu.kept gbs1z0n0w2
       replace hG:=d_ hG gbs1z0n0w2
       clear gbs1z0n0w2
       obtain ⟨Cq0,Cq1,Cq2,Cq3,Fq0,Fq1,Fq2,Fq3⟩:=b_ Bq
       obtain ⟨Cu0,Cu1,Fu0,Fu1⟩:=c_ Bu
       go_wp2_with fail
       generalize (s1z0n0w2.alloc (.cells #[.slice su xu.length xu.length,.bool bu] 26)) = s1z0n0w3 at *
       generalize s1z0n0w2.heap.size = as1z0n0w2 at *
       replace hzs1z0n0w2:=hzs1z0n0w2.out
       replace hlqs1z0n0w2:=hlqs1z0n0w2.out
       clear Cq0 Fq0 Cq1 Fq1 Cq2 Fq2 Cq3 Fq3 Cu0 Fu0 Cu1 Fu1
       refine (HNQ.out s1z0n0w3).mono ?_
       rintro e s1z0n0w4 ⟨_,rfl,⟨sm,xm,rfl,hm,vm⟩,gs1z0n0w4⟩
       have nm : NatV s1z0n0w4 (.agg #[.slice sm xm.length xm.length]) (bf_ D9):=⟨sm,xm,rfl,hm,vm⟩
       replace Bq:=a_ gs1z0n0w4 Bq
       replace Bu:=a_ gs1z0n0w4 Bu
       replace iu:=iu.kept gs1z0n0w4
       replace hG:=d_ hG gs1z0n0w4
       clear gs1z0n0w4
       clear hm vm
       obtain ⟨Cq0,Cq1,Cq2,Cq3,Fq0,Fq1,Fq2,Fq3⟩:=b_ Bq
       obtain ⟨Cu0,Cu1,Fu0,Fu1⟩:=c_ Bu
       have gbs1z0n0w4:=(wg_ s1z0n0w4 (.cells #[.slice sm xm.length xm.length] 24) none)
       have Bm:=(f_ s1z0n0w4 (.cells #[.slice sm xm.length xm.length] 24) (s1z0n0w4.heap.size) rfl)
       have hzs1z0n0w4 : Hid (w.heap.size ≤ s1z0n0w4.heap.size):=H_ hG.size
       have hlqs1z0n0w4 : Hid (w.heap.size < s1z0n0w4.heap.size):=H_ (Array.getElem?_eq_some_iff.1 Bq).1
       have hlus1z0n0w4 : Hid (as1z0n0w2 < s1z0n0w4.heap.size):=H_ (Array.getElem?_eq_some_iff.1 Bu).1
       clear Cq0 Fq0 Cq1 Fq1 Cq2 Fq2 Cq3 Fq3 Cu0 Fu0 Cu1 Fu1
       replace Bq:=a_ gbs1z0n0w4 Bq
       replace Bu:=a_ gbs1z0n0w4 Bu
       replace iu:=iu.kept gbs1z0n0w4
       replace nm:=nm.kept gbs1z0n0w4
       replace hG:=d_ hG gbs1z0n0w4
       clear gbs1z0n0w4
       obtain ⟨Cq0,Cq1,Cq2,Cq3,Fq0,Fq1,Fq2,Fq3⟩:=b_ Bq
       obtain ⟨Cu0,Cu1,Fu0,Fu1⟩:=c_ Bu
       obtain ⟨Cm0,Fm0⟩:=j_ Bm
       go_wp2_with fail
       generalize (s1z0n0w4.alloc (.cells #[.slice sm xm.length xm.length] 24)) = s1z0n0w5 at *
       generalize s1z0n0w4.heap.size = as1z0n0w4 at *
       replace hzs1z0n0w4:=hzs1z0n0w4.out
       replace hlqs1z0n0w4:=hlqs1z0n0w4.out
       replace hlus1z0n0w4:=hlus1z0n0w4.out
       have HT3 : Hid (∀ W,s1z0n0w5.grownBy W none → Tab W):=fun W hW=>HTB.out _ (d_ hG hW)
       go_region_held3 (fun w'=>w'.cell? ⟨as1z0n0w2,0,none⟩ = some (.slice su xu.length xu.length) ∧ w'.cell? ⟨as1z0n0w2,1,none⟩ = some (.bool bu) ∧ w'.cell? ⟨as1z0n0w4,0,none⟩ = some (.slice sm xm.length xm.length))
        (first | assumption | exact ⟨Cu0,Cu1,Cm0⟩ | exact HSs1z0n0w6_20 | go_keep)
        (first
          | (go_at_call 53; (with_reducible refine (jr_ s1z0n0w5.drew _ (bf_ D9) 211 (nm.kept (k_ (h_ _ _))) (by omega) HNB.out).mono ?_); rintro e s1z0n0w6_1 ⟨v1,rfl,n1,gs1z0n0w6_1⟩; have hGs1z0n0w6_1:=o_ s1z0n0w5 gs1z0n0w6_1 rfl rfl rfl rfl; have hSs1z0n0w6_1:=(n_ (hGs1z0n0w6_1.cell Cu0 (by simp)) (n_ (hGs1z0n0w6_1.cell Cu1 (by simp)) (hGs1z0n0w6_1.cell Cm0 (by simp)))); clear gs1z0n0w6_1)
          | (go_at_call 23; (with_reducible refine (db_ s1z0n0w6_1 _ _ (aL_ U) ((bf_ D9 : Nat) : Int) 211 (iu.kept hGs1z0n0w6_1) n1 (by omega) HZB.out HNBI.out (HT3.out _ hGs1z0n0w6_1)).mono ?_); rintro e s1z0n0w6_2 ⟨_,rfl,⟨sd,xd,bd,sd',xd',bd',rfl,hd,hd'⟩,gs1z0n0w6_2⟩; rw [HC9.out]; have hGs1z0n0w6_2:=d_ hGs1z0n0w6_1 gs1z0n0w6_2; replace n1:=n1.kept gs1z0n0w6_2; have qd : RatV s1z0n0w6_2 (.agg #[.slice sd xd.length xd.length,.bool bd,.slice sd' xd'.length xd'.length,.bool bd']) (Rat.divInt (aL_ U) ((bf_ D9 : Nat) : Int)):=⟨sd,xd,bd,sd',xd',bd',rfl,hd,hd'⟩; have hSs1z0n0w6_2:=(n_ (hGs1z0n0w6_2.cell Cu0 (by simp)) (n_ (hGs1z0n0w6_2.cell Cu1 (by simp)) (hGs1z0n0w6_2.cell Cm0 (by simp)))); clear gs1z0n0w6_2; clear hd hd'; (obtain ⟨dq0,dq1,dq2,dq3,dq4,dq5,dq6,dq7⟩:=b_ (a_ hGs1z0n0w6_2 Bq)); have HSs1z0n0w6_20:=(n_ ((c_ (i_ (a_ hGs1z0n0w6_2 Bu) (show as1z0n0w2 ≠ w.heap.size by omega) (.slice sd xd.length xd.length) (.bool bd) (.slice sd' xd'.length xd'.length) (.bool bd'))).1) (n_ ((c_ (i_ (a_ hGs1z0n0w6_2 Bu) (show as1z0n0w2 ≠ w.heap.size by omega) (.slice sd xd.length xd.length) (.bool bd) (.slice sd' xd'.length xd'.length) (.bool bd'))).2.1) ((j_ (i_ (a_ hGs1z0n0w6_2 Bm) (show as1z0n0w4 ≠ w.heap.size by omega) (.slice sd xd.length xd.length) (.bool bd) (.slice sd' xd'.length xd'.length) (.bool bd'))).1)))))
       replace Bq:=a_ hGs1z0n0w6_2 Bq
       replace Bu:=a_ hGs1z0n0w6_2 Bu
       replace Bm:=a_ hGs1z0n0w6_2 Bm
       replace hG:=d_ hG hGs1z0n0w6_2
       clear Cq0 Fq0 Cq1 Fq1 Cq2 Fq2 Cq3 Fq3 Cu0 Fu0 Cu1 Fu1 Cm0 Fm0
       obtain ⟨k90,k91,k92,k93,k94,k95,k96,k97⟩:=b_ Bq
       obtain ⟨q90,q91,q92,q93,q94,q95,q96,q97⟩:=b_ (r_ Bq (.slice sd xd.length xd.length) (.bool bd) (.slice sd' xd'.length xd'.length) (.bool bd'))
       have hF : Hid (V_ w (Rat.divInt (aL_ U) ((bf_ D9 : Nat) : Int)) c9 (.returned (.tuple #[.agg #[.slice sd xd.length xd.length,.bool bd,.slice sd' xd'.length xd'.length,.bool bd'],.int .i64 c9])) ((((s1z0n0w6_2.setCell ⟨w.heap.size,0,none⟩ (.slice sd xd.length xd.length)).setCell ⟨w.heap.size,1,none⟩ (.bool bd)).setCell ⟨w.heap.size,2,none⟩ (.slice sd' xd'.length xd'.length)).setCell ⟨w.heap.size,3,none⟩ (.bool bd'))):=av_ hG Bq (by omega) qd
       clear iu nm n1 qd
       obtain ⟨Cu0,Cu1,Fu0,Fu1⟩:=c_ Bu
       obtain ⟨Cm0,Fm0⟩:=j_ Bm
       go_wp2_with fail
       exact bodyPost_ret (v:=.tuple #[.agg #[.slice sd xd.length xd.length,.bool bd,.slice sd' xd'.length xd'.length,.bool bd'],.int .i64 c9]) (by simp [results,Tryz.results11,go_sem,q90,q91,q92,q93]) rfl hF.out
     · skip
       have HNQ : Hid (∀ W,Calls Tryz.prog 52 #[.string D9] W (bC_ W (bf_ D9) 3)):=fun W=>hn ▸ HNP.out W
       have hc9 : dc_ s = 3:=by rw [hcv]; simp [hz,hx,hn]
       have hv9 : cG_ s = 0:=by rw [hfv,hc9]; simp [hx]
       rw [hc9,hv9]
       clear hc9 hv9 hcv hfv hz hn hU hD hUs hDs hUe hx hs hDe hk
       obtain ⟨hG,Bq⟩:=en1_ w (.cells #[.slice none 0 0,.bool false,.slice none 0 0,.bool false] 28)
       go_enter Tryz.func11,Tryz.ntmps11
       obtain ⟨Cq0,Cq1,Cq2,Cq3,Fq0,Fq1,Fq2,Fq3⟩:=b_ Bq
       go_wp2_with fail
       generalize (w.alloc (.cells #[.slice none 0 0,.bool false,.slice none 0 0,.bool false] 28)) = w0 at *
       clear Cq0 Fq0 Cq1 Fq1 Cq2 Fq2 Cq3 Fq3
       refine (HCUT.out w0).mono ?_
       rintro e s1z0n3w1 ⟨rfl,gs1z0n3w1⟩
       replace Bq:=a_ gs1z0n3w1 Bq
       replace hG:=d_ hG gs1z0n3w1
       clear gs1z0n3w1
       obtain ⟨Cq0,Cq1,Cq2,Cq3,Fq0,Fq1,Fq2,Fq3⟩:=b_ Bq
       go_wp2_with fail
       clear Cq0 Fq0 Cq1 Fq1 Cq2 Fq2 Cq3 Fq3
       refine (HZP.out s1z0n3w1).mono ?_
       rintro e s1z0n3w2 ⟨_,rfl,⟨su,xu,bu,rfl,hu,vu,tu⟩,gs1z0n3w2⟩
       have iu : IntV s1z0n3w2 (.agg #[.slice su xu.length xu.length,.bool bu]) (aL_ U):=⟨su,xu,bu,rfl,hu,vu,tu⟩
       replace Bq:=a_ gs1z0n3w2 Bq
       replace hG:=d_ hG gs1z0n3w2
       clear gs1z0n3w2
       clear hu vu tu
       obtain ⟨Cq0,Cq1,Cq2,Cq3,Fq0,Fq1,Fq2,Fq3⟩:=b_ Bq
       have gbs1z0n3w2:=(wg_ s1z0n3w2 (.cells #[.slice su xu.length xu.length,.bool bu] 26) none)
       have Bu:=(f_ s1z0n3w2 (.cells #[.slice su xu.length xu.length,.bool bu] 26) (s1z0n3w2.heap.size) rfl)
       have hzs1z0n3w2 : Hid (w.heap.size ≤ s1z0n3w2.heap.size):=H_ hG.size
       have hlqs1z0n3w2 : Hid (w.heap.size < s1z0n3w2.heap.size):=H_ (Array.getElem?_eq_some_iff.1 Bq).1
       clear Cq0 Fq0 Cq1 Fq1 Cq2 Fq2 Cq3 Fq3
       replace Bq:=a_ gbs1z0n3w2 Bq
       replace hG:=d_ hG gbs1z0n3w2
       clear gbs1z0n3w2
       obtain ⟨Cq0,Cq1,Cq2,Cq3,Fq0,Fq1,Fq2,Fq3⟩:=b_ Bq
       obtain ⟨Cu0,Cu1,Fu0,Fu1⟩:=c_ Bu
       go_wp2_with fail
       generalize (s1z0n3w2.alloc (.cells #[.slice su xu.length xu.length,.bool bu] 26)) = s1z0n3w3 at *
       generalize s1z0n3w2.heap.size = as1z0n3w2 at *
       replace hzs1z0n3w2:=hzs1z0n3w2.out
       replace hlqs1z0n3w2:=hlqs1z0n3w2.out
       clear Cq0 Fq0 Cq1 Fq1 Cq2 Fq2 Cq3 Fq3 Cu0 Fu0 Cu1 Fu1
       refine (HNQ.out s1z0n3w3).mono ?_
       rintro e s1z0n3w4 ⟨_,rfl,⟨sm,xm,rfl,hm,vm⟩,gs1z0n3w4⟩
       have nm : NatV s1z0n3w4 (.agg #[.slice sm xm.length xm.length]) (bf_ D9):=⟨sm,xm,rfl,hm,vm⟩
       replace Bq:=a_ gs1z0n3w4 Bq
       replace Bu:=a_ gs1z0n3w4 Bu
       replace hG:=d_ hG gs1z0n3w4
       clear gs1z0n3w4
       clear hm vm
       obtain ⟨Cq0,Cq1,Cq2,Cq3,Fq0,Fq1,Fq2,Fq3⟩:=b_ Bq
       obtain ⟨Cu0,Cu1,Fu0,Fu1⟩:=c_ Bu
       have gbs1z0n3w4:=(wg_ s1z0n3w4 (.cells #[.slice sm xm.length xm.length] 24) none)
       have Bm:=(f_ s1z0n3w4 (.cells #[.slice sm xm.length xm.length] 24) (s1z0n3w4.heap.size) rfl)
       have hzs1z0n3w4 : Hid (w.heap.size ≤ s1z0n3w4.heap.size):=H_ hG.size
       have hlqs1z0n3w4 : Hid (w.heap.size < s1z0n3w4.heap.size):=H_ (Array.getElem?_eq_some_iff.1 Bq).1
       have hlus1z0n3w4 : Hid (as1z0n3w2 < s1z0n3w4.heap.size):=H_ (Array.getElem?_eq_some_iff.1 Bu).1
       clear Cq0 Fq0 Cq1 Fq1 Cq2 Fq2 Cq3 Fq3 Cu0 Fu0 Cu1 Fu1
       replace Bq:=a_ gbs1z0n3w4 Bq
       replace Bu:=a_ gbs1z0n3w4 Bu
       replace hG:=d_ hG gbs1z0n3w4
       clear gbs1z0n3w4
       obtain ⟨Cq0,Cq1,Cq2,Cq3,Fq0,Fq1,Fq2,Fq3⟩:=b_ Bq
       obtain ⟨Cu0,Cu1,Fu0,Fu1⟩:=c_ Bu
       obtain ⟨Cm0,Fm0⟩:=j_ Bm
       go_wp2_with fail
       generalize (s1z0n3w4.alloc (.cells #[.slice sm xm.length xm.length] 24)) = s1z0n3w5 at *
       generalize s1z0n3w4.heap.size = as1z0n3w4 at *
       replace hzs1z0n3w4:=hzs1z0n3w4.out
       replace hlqs1z0n3w4:=hlqs1z0n3w4.out
       replace hlus1z0n3w4:=hlus1z0n3w4.out
       have qd : RatV s1z0n3w5 (.agg #[.slice none 0 0,.bool false,.slice none 0 0,.bool false]) 0:=RatV.zero _
       clear Cq0 Fq0 Cq1 Fq1 Cq2 Fq2 Cq3 Fq3 Cu0 Fu0 Cu1 Fu1 Cm0 Fm0
       obtain ⟨k90,k91,k92,k93,k94,k95,k96,k97⟩:=b_ Bq
       obtain ⟨q90,q91,q92,q93,q94,q95,q96,q97⟩:=b_ (r_ Bq (.slice none 0 0) (.bool false) (.slice none 0 0) (.bool false))
       have hF : Hid (V_ w (0) 3 (.returned (.tuple #[.agg #[.slice none 0 0,.bool false,.slice none 0 0,.bool false],.int .i64 3])) ((((s1z0n3w5.setCell ⟨w.heap.size,0,none⟩ (.slice none 0 0)).setCell ⟨w.heap.size,1,none⟩ (.bool false)).setCell ⟨w.heap.size,2,none⟩ (.slice none 0 0)).setCell ⟨w.heap.size,3,none⟩ (.bool false))):=av_ hG Bq (by omega) qd
       clear iu nm qd
       obtain ⟨Cu0,Cu1,Fu0,Fu1⟩:=c_ Bu
       obtain ⟨Cm0,Fm0⟩:=j_ Bm
       go_wp2_with fail
       exact bodyPost_ret (v:=.tuple #[.agg #[.slice none 0 0,.bool false,.slice none 0 0,.bool false],.int .i64 3]) (by simp [results,Tryz.results11,go_sem,q90,q91,q92,q93]) rfl hF.out
   · skip
     have HZP : Hid (∀ W,Calls Tryz.prog 51 #[.string U] W (aQ_ W (aL_ U) 3)):=fun W=>hz ▸ cp_ W U
     have hc9 : dc_ s = 3:=by rw [hcv]; simp [hz,hx]
     have hv9 : cG_ s = 0:=by rw [hfv,hc9]; simp [hx]
     rw [hc9,hv9]
     clear hc9 hv9 hcv hfv hz hn hU hD hUs hDs hUe hx hs hDe hk
     obtain ⟨hG,Bq⟩:=en1_ w (.cells #[.slice none 0 0,.bool false,.slice none 0 0,.bool false] 28)
     go_enter Tryz.func11,Tryz.ntmps11
     obtain ⟨Cq0,Cq1,Cq2,Cq3,Fq0,Fq1,Fq2,Fq3⟩:=b_ Bq
     go_wp2_with fail
     generalize (w.alloc (.cells #[.slice none 0 0,.bool false,.slice none 0 0,.bool false] 28)) = w0 at *
     clear Cq0 Fq0 Cq1 Fq1 Cq2 Fq2 Cq3 Fq3
     refine (HCUT.out w0).mono ?_
     rintro e s1z3w1 ⟨rfl,gs1z3w1⟩
     replace Bq:=a_ gs1z3w1 Bq
     replace hG:=d_ hG gs1z3w1
     clear gs1z3w1
     obtain ⟨Cq0,Cq1,Cq2,Cq3,Fq0,Fq1,Fq2,Fq3⟩:=b_ Bq
     go_wp2_with fail
     clear Cq0 Fq0 Cq1 Fq1 Cq2 Fq2 Cq3 Fq3
     refine (HZP.out s1z3w1).mono ?_
     rintro e s1z3w2 ⟨_,rfl,⟨su,xu,bu,rfl,hu,vu,tu⟩,gs1z3w2⟩
     have iu : IntV s1z3w2 (.agg #[.slice su xu.length xu.length,.bool bu]) (aL_ U):=⟨su,xu,bu,rfl,hu,vu,tu⟩
     replace Bq:=a_ gs1z3w2 Bq
     replace hG:=d_ hG gs1z3w2
     clear gs1z3w2
     clear hu vu tu
     obtain ⟨Cq0,Cq1,Cq2,Cq3,Fq0,Fq1,Fq2,Fq3⟩:=b_ Bq
     have gbs1z3w2:=(wg_ s1z3w2 (.cells #[.slice su xu.length xu.length,.bool bu] 26) none)
     have Bu:=(f_ s1z3w2 (.cells #[.slice su xu.length xu.length,.bool bu] 26) (s1z3w2.heap.size) rfl)
     have hzs1z3w2 : Hid (w.heap.size ≤ s1z3w2.heap.size):=H_ hG.size
     have hlqs1z3w2 : Hid (w.heap.size < s1z3w2.heap.size):=H_ (Array.getElem?_eq_some_iff.1 Bq).1
     clear Cq0 Fq0 Cq1 Fq1 Cq2 Fq2 Cq3 Fq3
     replace Bq:=a_ gbs1z3w2 Bq
     replace hG:=d_ hG gbs1z3w2
     clear gbs1z3w2
     obtain ⟨Cq0,Cq1,Cq2,Cq3,Fq0,Fq1,Fq2,Fq3⟩:=b_ Bq
     obtain ⟨Cu0,Cu1,Fu0,Fu1⟩:=c_ Bu
     go_wp2_with fail
     skip
     generalize (s1z3w2.alloc (.cells #[.slice su xu.length xu.length,.bool bu] 26)) = s1z3w3 at *
     generalize s1z3w2.heap.size = as1z3w2 at *
     replace hzs1z3w2:=hzs1z3w2.out
     replace hlqs1z3w2:=hlqs1z3w2.out
     have qd : RatV s1z3w3 (.agg #[.slice none 0 0,.bool false,.slice none 0 0,.bool false]) 0:=RatV.zero _
     clear Cq0 Fq0 Cq1 Fq1 Cq2 Fq2 Cq3 Fq3 Cu0 Fu0 Cu1 Fu1
     obtain ⟨k90,k91,k92,k93,k94,k95,k96,k97⟩:=b_ Bq
     obtain ⟨q90,q91,q92,q93,q94,q95,q96,q97⟩:=b_ (r_ Bq (.slice none 0 0) (.bool false) (.slice none 0 0) (.bool false))
     have hF : Hid (V_ w (0) 3 (.returned (.tuple #[.agg #[.slice none 0 0,.bool false,.slice none 0 0,.bool false],.int .i64 3])) ((((s1z3w3.setCell ⟨w.heap.size,0,none⟩ (.slice none 0 0)).setCell ⟨w.heap.size,1,none⟩ (.bool false)).setCell ⟨w.heap.size,2,none⟩ (.slice none 0 0)).setCell ⟨w.heap.size,3,none⟩ (.bool false))):=av_ hG Bq (by omega) qd
     clear iu qd
     obtain ⟨Cu0,Cu1,Fu0,Fu1⟩:=c_ Bu
     go_wp2_with fail
     exact bodyPost_ret (v:=.tuple #[.agg #[.slice none 0 0,.bool false,.slice none 0 0,.bool false],.int .i64 3]) (by simp [results,Tryz.results11,go_sem,q90,q91,q92,q93]) rfl hF.out
end Go.Proofs.YtgbbdgioohaknaaGreatDoor
