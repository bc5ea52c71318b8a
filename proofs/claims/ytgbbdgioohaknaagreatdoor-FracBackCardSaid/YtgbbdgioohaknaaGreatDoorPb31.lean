/- What the laws lean on, part 31. -/
import Derived.Test.YtgbbdgioohaknaaGreatDoorRows
import Derived.WalkKit
import Derived.ProofKit
import Derived.OpenShut
import Derived.Deep.DeepHandedRow
import Derived.Test.YtgbbdgioohaknaaGreatDoorPb15
import Derived.Test.YtgbbdgioohaknaaGreatDoorPb39
import Derived.Test.YtgbbdgioohaknaaGreatDoorPb42
import Derived.Test.YtgbbdgioohaknaaGreatDoorPb46
namespace Go.Proofs.YtgbbdgioohaknaaGreatDoor
open Go.ChangeShapes Go.WideShapes Go.ChangeAt Go.RowKit Go.ChangeMaps Mat
set_option maxRecDepth 100000
set_option linter.unusedVariables false
set_option linter.unusedSimpArgs false
theorem eX_ {x y : Int} (h : x = y) : bt_ x y = 0:=by unfold bt_; rw [if_neg (by omega),if_pos h]
end Go.Proofs.YtgbbdgioohaknaaGreatDoor
namespace Go.Proofs.YtgbbdgioohaknaaGreatDoor
open Go.RowKit Mat
set_option maxRecDepth 100000
set_option linter.unusedVariables false
set_option linter.unusedSimpArgs false
theorem kV_ {a : Rat} : rsg a = 1 ↔ 0 < a:=by
 unfold rsg
 rw [Int.sign_eq_one_iff_pos,Rat.lt_iff]; simp
theorem jJ_ {a : Rat} : rsg a = 0 ↔ a = 0:=by
 unfold rsg
 rw [Int.sign_eq_zero_iff_zero,Rat.num_eq_zero]
theorem lw_ {a : Rat} : rsg a = -1 ↔ a < 0:=by
 unfold rsg
 rw [Int.sign_eq_neg_one_iff_neg,Rat.lt_iff]; simp
theorem rcmp_lt {a b : Rat} : bT_ a b = -1 ↔ a < b:=by rw [aA_,lw_]; constructor <;> intro h <;> grind
theorem rcmp_gt {a b : Rat} : bT_ a b = 1 ↔ b < a:=by rw [aA_,kV_]; constructor <;> intro h <;> grind
theorem rcmp_zero {a b : Rat} : bT_ a b = 0 ↔ a = b:=by rw [aA_,jJ_]; constructor <;> intro h <;> grind
theorem hv_ (r : Rat) : r - ((bE_ r : Int) : Rat) ≤ 1 / 2 ∧ ((bE_ r : Int) : Rat) - r ≤ 1 / 2:=by
 have h1:=Rat.floor_le r
 have h2:=Rat.lt_floor_add_one r
 rw [Rat.intCast_add] at h2
 rcases dv_ r with ⟨h,e⟩ | ⟨h,e⟩
 · have h3 : r - (r.floor : Int) ≤ ((r.floor + 1 : Int) : Rat) - r:=by
    rcases dh_ (r - (r.floor : Int)) (((r.floor + 1 : Int) : Rat) - r) with c | c | c
    · exact Rat.le_of_lt (rcmp_lt.1 c)
    · rw [rcmp_zero.1 c]; exact Rat.le_refl
    · omega
   rw [Rat.intCast_add] at h3
   rw [e]
   constructor <;> grind
 · have h3 : ((r.floor + 1 : Int) : Rat) - r ≤ r - (r.floor : Int):=by
    rcases dh_ (r - (r.floor : Int)) (((r.floor + 1 : Int) : Rat) - r) with c | c | c
    · omega
    · rw [rcmp_zero.1 c]; exact Rat.le_refl
    · exact Rat.le_of_lt (rcmp_gt.1 c)
   rw [e]
   rw [Rat.intCast_add] at h3 ⊢
   constructor <;> grind
end Go.Proofs.YtgbbdgioohaknaaGreatDoor
namespace Go.Proofs.YtgbbdgioohaknaaGreatDoor
open Go.RowKit Mat
set_option linter.unusedVariables false
set_option linter.unusedSimpArgs false
theorem iX_ {l : List Nat} (h : cF_ l) : ∀ d ∈ l,48 ≤ d ∧ d ≤ 57:=by
 intro d hd
 obtain ⟨k,hk,e⟩:=List.mem_iff_getElem.1 hd
 rw [← e]; exact h.1 k hk
theorem lo_ {s : ByteArray} (h : (47 : UInt8) ∈ s.data.toList) : 47 ∈ bts s:=by
 unfold bts
 exact List.mem_map.2 ⟨47,h,rfl⟩
theorem eD_ {s : ByteArray} {z : Int} (h : ar_ s z) (hs : s.size ≤ 4000) : de_ s = 0 ∧ aL_ s = z ∧ (47 : UInt8) ∉ s.data.toList:=by
 obtain ⟨l,hl,vl,el⟩:=h
 have hr:=iX_ hl
 have hne : l ≠ []:=by
  rintro rfl
  have:=hl.2
  simp at this
 have hn : eE_ (bts s) = decide (z < 0) ∧ dC_ (bts s) = l:=by
  rw [el]
  by_cases hz : z < 0
  · rw [if_pos hz,decide_eq_true hz]
    have : eE_ (45 :: l) = true:=rfl
    exact ⟨this,eV_ this⟩
  · rw [if_neg hz,decide_eq_false hz]
    have : eE_ l = false:=by
     cases l with
     | nil=>rfl
     | cons d t =>
      have:=hr d (List.mem_cons_self ..)
      unfold eE_
      simp
      omega
    exact ⟨this,eU_ this⟩
 have hok : zok (bts s) = true:=by
  refine (aS_ _).2 ⟨by rw [hn.2]; exact hl,?_⟩
  rw [hn.1,hn.2]
  rintro ⟨h1,h2⟩
  have:=of_decide_eq_true h1
  omega
 have hlen : (dC_ (bts s)).length ≤ 4096:=by
  rw [hn.2]
  have:=congrArg List.length el
  rw [z_] at this
  split at this
  · rw [List.length_cons] at this; omega
  · omega
 obtain ⟨c0,v0⟩:=fE_ (by omega) hok hlen
 refine ⟨c0,?_,?_⟩
 · rw [v0]
   unfold hm_
   rw [hn.1,hn.2,vl]
   by_cases hz : z < 0
   · rw [decide_eq_true hz,if_pos rfl]; omega
   · rw [decide_eq_false hz,if_neg (by decide)]; omega
 · intro hm
   have h1:=lo_ hm
   rw [el] at h1
   split at h1
   · rcases List.mem_cons.1 h1 with h2 | h2
     · exact absurd h2 (by decide)
     · have:=hr 47 h2; omega
   · have:=hr 47 h1; omega
theorem hG_ {s : ByteArray} {n : Nat} (h : ar_ s (n : Int)) : fP_ s = 0 ∧ bf_ s = n:=by
 obtain ⟨l,hl,vl,el⟩:=h
 rw [if_neg (by omega)] at el
 have hd:=(cd_ _).2 hl
 unfold fP_ bf_
 rw [el,if_pos hd,if_pos hd]
 exact ⟨rfl,by rw [vl]; simp⟩
theorem ht_ {t : ByteArray} {r : Rat} (h : ch_ t r) (ht : t.size ≤ 4000) : dc_ t = 0 ∧ cG_ t = r:=by
 rcases h with ⟨h1,h2⟩ | ⟨h1,p,q,h2,h3,h4⟩
 · obtain ⟨c0,v0,m0⟩:=eD_ h2 ht
   have hx : slx t = -1:=by
    rcases cJ_ t with ⟨h,_⟩ | ⟨k,hk,_,h,_⟩
    · exact h
    · exact absurd (List.mem_of_getElem? h) m0
   have hu : fup t = t:=by unfold fup; rw [hx]; rfl
   have hc : dc_ t = 0:=by unfold dc_; rw [hu,c0,hx]; rfl
   refine ⟨hc,?_⟩
   unfold cG_
   rw [if_pos hc,hx,if_pos (by decide),hu,v0]
   exact Rat.ext rfl h1.symm
 · have hp : p.size ≤ t.size ∧ q.size ≤ t.size:=by
    rw [h4,ByteArray.size_append,ByteArray.size_append]; omega
   obtain ⟨c0,v0,m0⟩:=eD_ h2 (by omega)
   obtain ⟨c1,v1⟩:=hG_ h3
   have hd : t.data.toList = p.data.toList ++ 47 :: q.data.toList:=by
    rw [h4,ByteArray.data_append,ByteArray.data_append]; simp
   have hs : p.size = p.data.toList.length:=by simp
   have hx : slx t = (p.size : Int):=by
    rcases cJ_ t with ⟨_,h⟩ | ⟨k,hk,h,h5,h6⟩
    · exact absurd (by rw [hd]; simp) h
    · rw [h]
      rw [hd] at h5 h6
      rcases Nat.lt_trichotomy k p.size with hlt | heq | hgt
      · rw [List.getElem?_append_left (by omega)] at h5
        exact absurd (List.mem_of_getElem? h5) m0
      · rw [heq]
      · exfalso
        apply h6
        rw [List.take_append]
        refine List.mem_append.2 (Or.inr ?_)
        obtain ⟨j,hj⟩ : ∃ j,k - p.data.toList.length = j + 1:=⟨k - p.data.toList.length - 1,by omega⟩
        rw [hj,List.take_succ_cons]; exact List.mem_cons_self ..
   have hu : fup t = p:=by
    unfold fup
    rw [hx,if_neg (by omega)]
    apply ByteArray.ext
    apply Array.ext'
    rw [ByteArray.data_extract,Array.toList_extract]
    show List.extract t.data.toList 0 p.size = _
    rw [hd,List.extract_eq_take_drop,hs]
    simp
   have hw : dq_ t = q:=by
    unfold dq_
    rw [hx]
    apply ByteArray.ext
    apply Array.ext'
    rw [ByteArray.data_extract,Array.toList_extract]
    have ets : t.size = t.data.toList.length:=by simp
    show List.extract t.data.toList ((p.size : Int).toNat + 1) t.size = _
    rw [ets,hd,List.extract_eq_take_drop,Int.toNat_natCast,hs]
    rw [show p.data.toList ++ 47 :: q.data.toList = (p.data.toList ++ [47]) ++ q.data.toList by simp]
    rw [show p.data.toList.length + 1 = (p.data.toList ++ [47]).length by simp,List.drop_left]
    exact List.take_of_length_le (by simp; omega)
   have hq:=r.den_pos
   have hc : dc_ t = 0:=by
    unfold dc_
    rw [hu,hw,c0,c1,v1,hx,if_neg (by decide),if_neg (by omega),if_neg (by decide),if_neg (by omega)]
   refine ⟨hc,?_⟩
   unfold cG_
   rw [if_pos hc,hx,if_neg (by omega),hu,hw,v0,v1]
   exact bk_ r
end Go.Proofs.YtgbbdgioohaknaaGreatDoor
