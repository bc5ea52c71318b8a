/- What the laws lean on, part 36. -/
import Derived.Deep.RegionHeld3
import Derived.Test.YtgbbdgioohaknaaGreatDoorPb16
namespace Go.Proofs.YtgbbdgioohaknaaGreatDoor
open Go.RowKit Mat
set_option maxRecDepth 100000
set_option linter.unusedVariables false
set_option linter.unusedSimpArgs false
set_option maxHeartbeats 8000000 in
theorem S_ (w : World) (va : Value) (r : Rat) (K : Nat) (Ha : RatV w va r) (hK : K ≤ 800000) (ln : r.num.natAbs < B ^ K) :
    Calls Tryz.prog 21 #[va] w (fun e w'=>e = .returned (.int .i64 r.num.sign) ∧ w.grownBy w' none):=by
 have Hln:=H_ ln
 clear ln
 obtain ⟨sa,xa,ba,sa',xa',ba',rfl,ha,ha'⟩:=Ha
 obtain ⟨hG,Ba⟩:=en1_ w (.cells #[.slice sa xa.length xa.length,.bool ba,.slice sa' xa'.length xa'.length,.bool ba'] 28)
 have oa : RatV w (.agg #[.slice sa xa.length xa.length,.bool ba,.slice sa' xa'.length xa'.length,.bool ba']) (r):=⟨sa,xa,ba,sa',xa',ba',rfl,ha,ha'⟩
 have qa:=oa.kept hG
 have ia:=(show IntV w (.agg #[.slice sa xa.length xa.length,.bool ba]) (r).num from ha).kept hG
 have ia':=(show IntV w (.agg #[.slice sa' xa'.length xa'.length,.bool ba']) (dn (r)) from ha').kept hG
 clear ha ha'
 go_enter Tryz.func21,Tryz.ntmps21
 obtain ⟨Ca0,Ca1,Ca2,Ca3,Fa0,Fa1,Fa2,Fa3⟩:=b_ Ba
 go_wp2_with fail
 generalize (w.alloc (.cells #[.slice sa xa.length xa.length,.bool ba,.slice sa' xa'.length xa'.length,.bool ba'] 28)) = w0 at *
 clear Ca0 Fa0 Ca1 Fa1 Ca2 Fa2 Ca3 Fa3
 refine (N_ w0 _ r.num K ia (by omega) Hln.out).mono ?_
 rintro e w1 ⟨rfl,gw1⟩
 replace Ba:=a_ gw1 Ba
 replace hG:=d_ hG gw1
 clear gw1
 obtain ⟨Ca0,Ca1,Ca2,Ca3,Fa0,Fa1,Fa2,Fa3⟩:=b_ Ba
 go_wp2_with fail
 go_ret
 exact ⟨rfl,hG⟩
theorem ik_ {n d : Int} {r : Rat} (hd : 0 < d) (h1 : Rat.divInt n d = r) : n.sign = r.num.sign:=by
 have h:=bD_ (n:=n) hd
 rw [h1] at h; exact h.symm
theorem RQ.sign {w : World} {g g' : Int} {s s' : Option Addr} {l c l' c' : Nat} {r : Rat} {E : Nat} (h : RQ w (.agg #[.int .i64 g,.slice s l c,.int .i64 g',.slice s' l' c']) r E) : Hid (g = r.num.sign):=by
 obtain ⟨g1,s1,l1,c1,g2,s2,l2,c2,n,d,e,h1,h2,h3⟩:=h
 cases e
 exact h1.nat.2.out.trans (ik_ h3.out.1 h3.out.2.1)
end Go.Proofs.YtgbbdgioohaknaaGreatDoor
