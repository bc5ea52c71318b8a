/- What the laws lean on, part 38. -/
import Derived.Deep.RegionHeld3
import Derived.Test.YtgbbdgioohaknaaGreatDoorPb13
namespace Go.Proofs.YtgbbdgioohaknaaGreatDoor
open Go.RowKit Mat
set_option maxRecDepth 100000
set_option linter.unusedVariables false
set_option linter.unusedSimpArgs false
set_option maxHeartbeats 8000000 in
theorem fC_ (w : World) (va : Value) (r : Rat) (K : Nat) (Ha : RatV w va r) (hK : K ≤ 800000) (ld : r.den < B ^ K) :
    Calls Tryz.prog 20 #[va] w (x_ w (r.den : Int)) := by
 have Hld := H_ ld
 clear ld
 obtain ⟨sa, xa, ba, sa', xa', ba', rfl, ha, ha'⟩ := Ha
 obtain ⟨hG, Ba, Bq⟩ := en2_ w (.cells #[.slice sa xa.length xa.length, .bool ba, .slice sa' xa'.length xa'.length, .bool ba'] 28) (.cells #[.slice none 0 0, .bool false] 26)
 have oa : RatV w (.agg #[.slice sa xa.length xa.length, .bool ba, .slice sa' xa'.length xa'.length, .bool ba']) (r) := ⟨sa, xa, ba, sa', xa', ba', rfl, ha, ha'⟩
 have qa := oa.kept hG
 clear ha ha'
 go_enter Tryz.func20, Tryz.ntmps20
 obtain ⟨Ca0, Ca1, Ca2, Ca3, Fa0, Fa1, Fa2, Fa3⟩ := b_ Ba
 obtain ⟨Cq0, Cq1, Fq0, Fq1⟩ := c_ Bq
 go_wp2_with fail
 generalize ((w.alloc (.cells #[.slice sa xa.length xa.length, .bool ba, .slice sa' xa'.length xa'.length, .bool ba'] 28)).alloc (.cells #[.slice none 0 0, .bool false] 26)) = w0 at *
 clear Ca0 Fa0 Ca1 Fa1 Ca2 Fa2 Ca3 Fa3 Cq0 Fq0 Cq1 Fq1
 refine (u_ w0 _ r K qa (by omega) Hld.out).mono ?_
 rintro e w1 ⟨_, rfl, ⟨su, xu, bu, rfl, hu, vu, tu⟩, gw1⟩
 have iu : IntV w1 (.agg #[.slice su xu.length xu.length, .bool bu]) ((r.den : Int)) := ⟨su, xu, bu, rfl, hu, vu, tu⟩
 replace Ba := a_ gw1 Ba
 replace Bq := a_ gw1 Bq
 replace hG := d_ hG gw1
 clear gw1
 clear hu vu tu
 obtain ⟨Ca0, Ca1, Ca2, Ca3, Fa0, Fa1, Fa2, Fa3⟩ := b_ Ba
 obtain ⟨Cq0, Cq1, Fq0, Fq1⟩ := c_ Bq
 go_wp2_with fail
 clear Ca0 Fa0 Ca1 Fa1 Ca2 Fa2 Ca3 Fa3 Cq0 Fq0 Cq1 Fq1
 refine (af_ w1 _ (r.den : Int) K iu (by omega) (by rw [Int.natAbs_natCast]; exact Hld.out)).mono ?_
 rintro e w2 ⟨_, rfl, ⟨sd, xd, bd, rfl, hd, vd, td⟩, gw2⟩
 have id : IntV w2 (.agg #[.slice sd xd.length xd.length, .bool bd]) ((r.den : Int)) := ⟨sd, xd, bd, rfl, hd, vd, td⟩
 replace Ba := a_ gw2 Ba
 replace Bq := a_ gw2 Bq
 replace hG := d_ hG gw2
 clear gw2
 clear hd vd td
 obtain ⟨Ca0, Ca1, Ca2, Ca3, Fa0, Fa1, Fa2, Fa3⟩ := b_ Ba
 obtain ⟨Cq0, Cq1, Fq0, Fq1⟩ := c_ Bq
 clear Ca0 Fa0 Ca1 Fa1 Ca2 Fa2 Ca3 Fa3 Cq0 Fq0 Cq1 Fq1
 obtain ⟨k90, k91, k92, k93⟩ := c_ Bq
 obtain ⟨q90, q91, q92, q93⟩ := c_ (m_ Bq (.slice sd xd.length xd.length) (.bool bd))
 have hF : Hid (x_ w ((r.den : Int)) (.returned (.agg #[.slice sd xd.length xd.length, .bool bd])) ((w2.setCell ⟨w.heap.size + 1, 0, none⟩ (.slice sd xd.length xd.length)).setCell ⟨w.heap.size + 1, 1, none⟩ (.bool bd))) := ao_ hG Bq (by omega) id
 clear qa iu id
 go_wp2_with fail
 exact bodyPost_ret (v := .agg #[.slice sd xd.length xd.length, .bool bd]) (by simp [results, Tryz.results20, go_sem, q90, q91]) rfl hF.out
end Go.Proofs.YtgbbdgioohaknaaGreatDoor
