/- Texts read twice, by the program and as the document has it; whether a number is the document's. -/
import Derived.Test.YtljfhiikoimdiaaZRParse
import Derived.Deep.RegionHeld3
import Derived.BigRegion
namespace Go.Proofs.Ytljfhiikoimdiaa
open Go.RowKit Mat
set_option maxRecDepth 100000
set_option linter.unusedVariables false
set_option linter.unusedSimpArgs false

def fewB (s : ByteArray) (n : Nat) : ByteArray := if n < s.size then s.extract 0 n else s
theorem fewB_size (s : ByteArray) (n : Nat) : (fewB s n).size ≤ n := by
  unfold fewB
  split
  · rw [ByteArray.size_extract]; omega
  · omega
theorem few_any (w : World) (s : ByteArray) :
    Calls Try.prog 60 #[.string s] w (fun e w' => e = .returned (.string (fewB s 150)) ∧ w = w') := by
  by_cases h : 150 < s.size
  · have f1 : decide ((150 : Int) < (s.size : Int)) = true := decide_eq_true (by omega)
    have hF : Hid (fewB s 150 = s.extract 0 150) := by unfold fewB; rw [if_pos h]; rfl
    go_enter Try.func60, Try.ntmps60
    go_wp2_with fail
    go_ret
    exact ⟨by rw [hF.out]; try rfl, rfl⟩
  · have f1 : decide ((150 : Int) < (s.size : Int)) = false := decide_eq_false (by omega)
    have hF : Hid (fewB s 150 = s) := by unfold fewB; rw [if_neg h]; rfl
    go_enter Try.func60, Try.ntmps60
    go_wp2_with fail
    go_ret
    exact ⟨by rw [hF.out]; try rfl, rfl⟩
def zfine (p : ByteArray) : Bool := zcod p == 0
def RetOne (w : World) (p : ByteArray) (e : Ending) (w' : World) : Prop :=
  ∃ va vx, e = .returned (.tuple #[va, vx, .bool (zfine p)]) ∧ IntV w' va (zval p) ∧ RIntV w' vx (zval p) ∧ w.grownBy w' none
theorem two_set {W : World} {g : Nat} {u0 u1 v0 v1 a0 a1 b0 b1 : Value} (h1 : W.heap[g]? = some (.cells #[u0, u1] 26 (0, 0))) (h2 : W.heap[g + 1]? = some (.cells #[v0, v1] 34 (0, 0))) {S : World}
    (hS : S = ((((W.setCell ⟨g, 0, none⟩ a0).setCell ⟨g, 1, none⟩ a1).setCell ⟨g + 1, 0, none⟩ b0).setCell ⟨g + 1, 1, none⟩ b1).drew) :
    S.heap[g]? = some (.cells #[a0, a1] 26 (0, 0)) ∧ S.heap[g + 1]? = some (.cells #[b0, b1] 34 (0, 0)) ∧
    (∀ v n, IntV W v n → IntV S v n) ∧ (∀ v n, RIntV W v n → RIntV S v n) ∧ (∀ w : World, w.grownBy W none → w.heap.size ≤ g → w.grownBy S none) := by
  subst hS
  have gd : ∀ X : World, X.grownBy X.drew none := fun X => grown_drew (grown_refl _ _)
  have k2 := heap_unset2 h2 (show g + 1 ≠ g by omega) a0 a1
  have k1 := heap_unset2 (heap_set2 h1 a0 a1) (show g ≠ g + 1 by omega) b0 b1
  refine ⟨heap_kept (gd _) k1, heap_kept (gd _) (heap_set2 k2 b0 b1), fun v n h => ?_, fun v n h => ?_, fun w hg hw => ?_⟩
  · exact (((h.set2 h1 a0 a1).set_other k2 (by decide) 0 b0).set_other (heap_setfst k2 b0) (by decide) 1 b1).kept (gd _)
  · exact ((((h.set_other h1 (by decide) 0 a0).set_other (heap_setfst h1 a0) (by decide) 1 a1).set_other k2 (by decide) 0 b0).set_other (heap_setfst k2 b0) (by decide) 1 b1).kept (gd _)
  · exact grown_drew (grown_two (grown_two hg hw a0 a1) (by omega) b0 b1)
set_option maxHeartbeats 8000000 in
theorem one_any (w : World) (s : ByteArray) :
    Calls Try.prog 27 #[.string s] w (RetOne w (fewB s 150)) := by
  obtain ⟨p, hp⟩ : ∃ p, fewB s 150 = p := ⟨_, rfl⟩
  have F1 : Hid (∀ W, Calls Try.prog 60 #[.string s] W (fun e w' => e = .returned (.string p) ∧ W = w')) := fun W => by rw [← hp]; exact few_any W s
  rw [hp]
  clear hp
  obtain ⟨c, hc⟩ : ∃ c, zcod p = c := ⟨_, rfl⟩
  obtain ⟨z, hz⟩ : ∃ z, zval p = z := ⟨_, rfl⟩
  have P1 : Hid (∀ W, Calls Try.prog 12 #[.string p] W (RetIntE W z c)) := fun W => by rw [← hc, ← hz]; exact ZParse_any W p
  have P2 : Hid (∀ W, Calls Try.prog 13 #[.string p] W (RetRIntE W z c)) := fun W => by rw [← hc, ← hz]; exact rZParse_any W p
  unfold RetOne
  rw [hz]
  obtain ⟨o, ho⟩ : ∃ o, zfine p = o := ⟨_, rfl⟩
  rw [ho]
  have K1 : Hid ((c == 0) = o) := by show _ = _; rw [← hc, ← ho]; rfl
  clear hc hz ho
  have hG : w.grownBy ((w.alloc (.cells #[.slice none 0 0, .bool false] 26)).alloc (.cells #[.int .i64 0, .slice none 0 0] 34)) none := (grown_alloc (World.grownBy_alloc _ _ _) _)
  have Bq := heap_kept (World.grownBy_alloc _ (.cells #[.int .i64 0, .slice none 0 0] 34) none) (heap_new w (.cells #[.slice none 0 0, .bool false] 26) (w.heap.size) rfl)
  have Br := (heap_new (w.alloc (.cells #[.slice none 0 0, .bool false] 26)) (.cells #[.int .i64 0, .slice none 0 0] 34) (w.heap.size + 1) (by simp))
  go_enter Try.func27, Try.ntmps27
  obtain ⟨Cq0, Cq1, Fq0, Fq1⟩ := box_cells Bq
  obtain ⟨Cr0, Cr1, Fr0, Fr1⟩ := box_cells Br
  go_wp2_with fail
  generalize ((w.alloc (.cells #[.slice none 0 0, .bool false] 26)).alloc (.cells #[.int .i64 0, .slice none 0 0] 34)) = w0 at *
  refine (F1.out w0).mono ?_
  rintro e w1 ⟨rfl, rfl⟩
  go_wp2_with fail
  clear Cq0 Fq0 Cq1 Fq1 Cr0 Fr0 Cr1 Fr1
  refine (P1.out w0).mono ?_
  rintro e w2 ⟨_, rfl, ⟨sa, xa, ba, rfl, ha, va, ta⟩, gw2⟩
  have ia : IntV w2 (.agg #[.slice sa xa.length xa.length, .bool ba]) (z) := ⟨sa, xa, ba, rfl, ha, va, ta⟩
  replace Bq := heap_kept gw2 Bq
  replace Br := heap_kept gw2 Br
  replace hG := grown_trans hG gw2
  clear gw2
  clear ha va ta
  obtain ⟨Cq0, Cq1, Fq0, Fq1⟩ := box_cells Bq
  obtain ⟨Cr0, Cr1, Fr0, Fr1⟩ := box_cells Br
  have gbw2 := (World.grownBy_alloc w2 (.cells #[.slice sa xa.length xa.length, .bool ba] 26) none)
  have Ba := (heap_new w2 (.cells #[.slice sa xa.length xa.length, .bool ba] 26) (w2.heap.size) rfl)
  have hzw2 : Hid (w.heap.size ≤ w2.heap.size) := Lib.hid hG.size
  have hlqw2 : Hid (w.heap.size < w2.heap.size) := Lib.hid (Array.getElem?_eq_some_iff.1 Bq).1
  have hlrw2 : Hid (w.heap.size + 1 < w2.heap.size) := Lib.hid (Array.getElem?_eq_some_iff.1 Br).1
  clear Cq0 Fq0 Cq1 Fq1 Cr0 Fr0 Cr1 Fr1
  replace Bq := heap_kept gbw2 Bq
  replace Br := heap_kept gbw2 Br
  replace ia := ia.kept gbw2
  replace hG := grown_trans hG gbw2
  clear gbw2
  obtain ⟨Cq0, Cq1, Fq0, Fq1⟩ := box_cells Bq
  obtain ⟨Cr0, Cr1, Fr0, Fr1⟩ := box_cells Br
  obtain ⟨Ca0, Ca1, Fa0, Fa1⟩ := box_cells Ba
  go_wp2_with fail
  generalize (w2.alloc (.cells #[.slice sa xa.length xa.length, .bool ba] 26)) = w3 at *
  generalize w2.heap.size = aw2 at *
  replace hzw2 := hzw2.out
  replace hlqw2 := hlqw2.out
  replace hlrw2 := hlrw2.out
  refine (F1.out w3).mono ?_
  rintro e w4 ⟨rfl, rfl⟩
  go_wp2_with fail
  clear Cq0 Fq0 Cq1 Fq1 Cr0 Fr0 Cr1 Fr1 Ca0 Fa0 Ca1 Fa1
  refine (P2.out w3).mono ?_
  rintro e w5 ⟨_, rfl, ⟨gx, sx, lx, cx, rfl, hx, mx⟩, gw5⟩
  have rx : RIntV w5 (.agg #[.int .i64 gx, .slice sx lx cx]) (z) := ⟨gx, sx, lx, cx, rfl, hx, mx⟩
  replace Bq := heap_kept gw5 Bq
  replace Br := heap_kept gw5 Br
  replace Ba := heap_kept gw5 Ba
  replace ia := ia.kept gw5
  replace hG := grown_trans hG gw5
  clear gw5
  clear mx
  obtain ⟨Cq0, Cq1, Fq0, Fq1⟩ := box_cells Bq
  obtain ⟨Cr0, Cr1, Fr0, Fr1⟩ := box_cells Br
  obtain ⟨Ca0, Ca1, Fa0, Fa1⟩ := box_cells Ba
  have gbw5 := (World.grownBy_alloc w5 (.cells #[.int .i64 gx, .slice sx lx cx] 34) none)
  have Bx := (heap_new w5 (.cells #[.int .i64 gx, .slice sx lx cx] 34) (w5.heap.size) rfl)
  have hzw5 : Hid (w.heap.size ≤ w5.heap.size) := Lib.hid hG.size
  have hlqw5 : Hid (w.heap.size < w5.heap.size) := Lib.hid (Array.getElem?_eq_some_iff.1 Bq).1
  have hlrw5 : Hid (w.heap.size + 1 < w5.heap.size) := Lib.hid (Array.getElem?_eq_some_iff.1 Br).1
  have hlaw5 : Hid (aw2 < w5.heap.size) := Lib.hid (Array.getElem?_eq_some_iff.1 Ba).1
  clear Cq0 Fq0 Cq1 Fq1 Cr0 Fr0 Cr1 Fr1 Ca0 Fa0 Ca1 Fa1
  replace Bq := heap_kept gbw5 Bq
  replace Br := heap_kept gbw5 Br
  replace Ba := heap_kept gbw5 Ba
  replace ia := ia.kept gbw5
  replace rx := rx.kept gbw5
  replace hG := grown_trans hG gbw5
  clear gbw5
  obtain ⟨Cq0, Cq1, Fq0, Fq1⟩ := box_cells Bq
  obtain ⟨Cr0, Cr1, Fr0, Fr1⟩ := box_cells Br
  obtain ⟨Ca0, Ca1, Fa0, Fa1⟩ := box_cells Ba
  obtain ⟨Cx0, Cx1, Fx0, Fx1⟩ := box_cells Bx
  go_wp2_with fail
  generalize (w5.alloc (.cells #[.int .i64 gx, .slice sx lx cx] 34)) = w6 at *
  generalize w5.heap.size = aw5 at *
  replace hzw5 := hzw5.out
  replace hlqw5 := hlqw5.out
  replace hlrw5 := hlrw5.out
  replace hlaw5 := hlaw5.out
  have hk := K1.out
  clear K1 P1 P2 F1
  cases o
  · skip
    have hk2 : (c == c) = true := by simp
    obtain ⟨W5, hW5⟩ : ∃ W5, W5 = ((((w6.setCell ⟨w.heap.size, 0, none⟩ (.slice sa xa.length xa.length)).setCell ⟨w.heap.size, 1, none⟩ (.bool ba)).setCell ⟨w.heap.size + 1, 0, none⟩ (.int .i64 gx)).setCell ⟨w.heap.size + 1, 1, none⟩ (.slice sx lx cx)).drew := ⟨_, rfl⟩
    obtain ⟨q1, q2, qn, qr, qg⟩ := two_set Bq Br hW5
    have HF : Hid (∃ va vx, Ending.returned (.tuple #[.agg #[.slice sa xa.length xa.length, .bool ba], .agg #[.int .i64 gx, .slice sx lx cx], .bool false]) = Ending.returned (.tuple #[va, vx, .bool false]) ∧ IntV W5 va z ∧ RIntV W5 vx z ∧ w.grownBy W5 none) := ⟨_, _, rfl, qn _ _ ia, qr _ _ rx, qg w hG (Nat.le_refl _)⟩
    clear qn qr qg ia rx hx
    go_region
    rw [← hW5]
    clear hW5
    obtain ⟨k1, k2, k3, k4⟩ := box_cells q1
    obtain ⟨k5, k6, k7, k8⟩ := box_cells q2
    go_wp2_with fail
    exact bodyPost_ret (v := .tuple #[.agg #[.slice sa xa.length xa.length, .bool ba], .agg #[.int .i64 gx, .slice sx lx cx], .bool false]) (by simp [results, Try.results27, go_sem, k1, k2, k5, k6]) rfl HF.out
  · skip
    obtain rfl : c = 0 := by simpa using hk
    clear hk
    obtain ⟨W5, hW5⟩ : ∃ W5, W5 = ((((w6.setCell ⟨w.heap.size, 0, none⟩ (.slice sa xa.length xa.length)).setCell ⟨w.heap.size, 1, none⟩ (.bool ba)).setCell ⟨w.heap.size + 1, 0, none⟩ (.int .i64 gx)).setCell ⟨w.heap.size + 1, 1, none⟩ (.slice sx lx cx)).drew := ⟨_, rfl⟩
    obtain ⟨q1, q2, qn, qr, qg⟩ := two_set Bq Br hW5
    have HF : Hid (∃ va vx, Ending.returned (.tuple #[.agg #[.slice sa xa.length xa.length, .bool ba], .agg #[.int .i64 gx, .slice sx lx cx], .bool true]) = Ending.returned (.tuple #[va, vx, .bool true]) ∧ IntV W5 va z ∧ RIntV W5 vx z ∧ w.grownBy W5 none) := ⟨_, _, rfl, qn _ _ ia, qr _ _ rx, qg w hG (Nat.le_refl _)⟩
    clear qn qr qg ia rx hx
    go_region
    rw [← hW5]
    clear hW5
    obtain ⟨k1, k2, k3, k4⟩ := box_cells q1
    obtain ⟨k5, k6, k7, k8⟩ := box_cells q2
    go_wp2_with fail
    exact bodyPost_ret (v := .tuple #[.agg #[.slice sa xa.length xa.length, .bool ba], .agg #[.int .i64 gx, .slice sx lx cx], .bool true]) (by simp [results, Try.results27, go_sem, k1, k2, k5, k6]) rfl HF.out
set_option maxHeartbeats 8000000 in
theorem apart_any (w : World) (s : ByteArray) :
    Calls Try.prog 28 #[.string s] w (fun e w' => e = .returned (.bool false) ∧ w.grownBy w' none) := by
  obtain ⟨p, hp⟩ : ∃ p, fewB s 150 = p := ⟨_, rfl⟩
  have F1 : Hid (∀ W, Calls Try.prog 60 #[.string s] W (fun e w' => e = .returned (.string p) ∧ W = w')) := fun W => by rw [← hp]; exact few_any W s
  clear hp
  obtain ⟨c, hc⟩ : ∃ c, zcod p = c := ⟨_, rfl⟩
  obtain ⟨z, hz⟩ : ∃ z, zval p = z := ⟨_, rfl⟩
  have P1 : Hid (∀ W, Calls Try.prog 12 #[.string p] W (RetIntE W z c)) := fun W => by rw [← hc, ← hz]; exact ZParse_any W p
  have P2 : Hid (∀ W, Calls Try.prog 13 #[.string p] W (RetRIntE W z c)) := fun W => by rw [← hc, ← hz]; exact rZParse_any W p
  clear hc hz
  have hG : w.grownBy w none := grown_refl _ _
  go_enter Try.func28, Try.ntmps28
  go_wp2_with fail
  refine (F1.out w).mono ?_
  rintro e w1 ⟨rfl, rfl⟩
  go_wp2_with fail
  refine (P1.out w).mono ?_
  rintro e w2 ⟨_, rfl, ⟨sa, xa, ba, rfl, ha, va, ta⟩, gw2⟩
  have ia : IntV w2 (.agg #[.slice sa xa.length xa.length, .bool ba]) (z) := ⟨sa, xa, ba, rfl, ha, va, ta⟩
  replace hG := grown_trans hG gw2
  clear gw2
  clear ha va ta
  have gbw2 := (World.grownBy_alloc w2 (.cells #[.slice sa xa.length xa.length, .bool ba] 26) none)
  have Ba := (heap_new w2 (.cells #[.slice sa xa.length xa.length, .bool ba] 26) (w2.heap.size) rfl)
  have hzw2 : Hid (w.heap.size ≤ w2.heap.size) := Lib.hid hG.size
  replace ia := ia.kept gbw2
  replace hG := grown_trans hG gbw2
  clear gbw2
  obtain ⟨Ca0, Ca1, Fa0, Fa1⟩ := box_cells Ba
  go_wp2_with fail
  generalize (w2.alloc (.cells #[.slice sa xa.length xa.length, .bool ba] 26)) = w3 at *
  generalize w2.heap.size = aw2 at *
  replace hzw2 := hzw2.out
  refine (F1.out w3).mono ?_
  rintro e w4 ⟨rfl, rfl⟩
  go_wp2_with fail
  clear Ca0 Fa0 Ca1 Fa1
  refine (P2.out w3).mono ?_
  rintro e w5 ⟨_, rfl, ⟨gx, sx, lx, cx, rfl, hx, mx⟩, gw5⟩
  have rx : RIntV w5 (.agg #[.int .i64 gx, .slice sx lx cx]) (z) := ⟨gx, sx, lx, cx, rfl, hx, mx⟩
  replace Ba := heap_kept gw5 Ba
  replace ia := ia.kept gw5
  replace hG := grown_trans hG gw5
  clear gw5
  clear mx
  obtain ⟨Ca0, Ca1, Fa0, Fa1⟩ := box_cells Ba
  have gbw5 := (World.grownBy_alloc w5 (.cells #[.int .i64 gx, .slice sx lx cx] 34) none)
  have Bx := (heap_new w5 (.cells #[.int .i64 gx, .slice sx lx cx] 34) (w5.heap.size) rfl)
  have hzw5 : Hid (w.heap.size ≤ w5.heap.size) := Lib.hid hG.size
  have hlaw5 : Hid (aw2 < w5.heap.size) := Lib.hid (Array.getElem?_eq_some_iff.1 Ba).1
  clear Ca0 Fa0 Ca1 Fa1
  replace Ba := heap_kept gbw5 Ba
  replace ia := ia.kept gbw5
  replace rx := rx.kept gbw5
  replace hG := grown_trans hG gbw5
  clear gbw5
  obtain ⟨Ca0, Ca1, Fa0, Fa1⟩ := box_cells Ba
  obtain ⟨Cx0, Cx1, Fx0, Fx1⟩ := box_cells Bx
  go_wp2_with fail
  go_ret
  exact ⟨by simp, hG⟩
theorem ztext_uniq {s t : ByteArray} {z : Int} (hs : ZTextOf s z) (ht : ZTextOf t z) : s = t := by
  obtain ⟨l, hl, vl, el⟩ := hs
  obtain ⟨m, hm, vm, em⟩ := ht
  have : l = m := dec_uniqL hl hm (vl.trans vm.symm)
  subst this
  exact bts_inj (el.trans em.symm)
theorem NZText_any (w : World) (va : Value) (z : Int) (K : Nat) (ha : IntV w va z) (hK : K ≤ 900000) (la : z.natAbs < B ^ K) :
    Calls Try.prog 15 #[va] w (RetZText w z) := ZText_any w va z K ha hK la
def RetB (w : World) (b : Bool) (e : Ending) (w' : World) : Prop := e = .returned (.bool b) ∧ w.grownBy w' none
set_option maxHeartbeats 8000000 in
theorem same_any (w : World) (va vb : Value) (x : Int) (K : Nat) (Ha : IntV w va x) (Hb : RIntV w vb x) (hK : K ≤ 200000) (la' : x.natAbs < B ^ K) :
    Calls Try.prog 18 #[va, vb] w (RetB w true) := by
  have Hla := Lib.hid la'
  have Hlb := Lib.hid (toD la' hK)
  clear la'
  obtain ⟨sa, xa, ba, rfl, ha, va, ta⟩ := Ha
  obtain ⟨gb, sb, lb, cb, rfl, hb, mb⟩ := Hb
  have hG : w.grownBy ((w.alloc (.cells #[.slice sa xa.length xa.length, .bool ba] 26)).alloc (.cells #[.int .i64 gb, .slice sb lb cb] 34)) none := (grown_alloc (World.grownBy_alloc _ _ _) _)
  have Ba := heap_kept (World.grownBy_alloc _ (.cells #[.int .i64 gb, .slice sb lb cb] 34) none) (heap_new w (.cells #[.slice sa xa.length xa.length, .bool ba] 26) (w.heap.size) rfl)
  have Bb := (heap_new (w.alloc (.cells #[.slice sa xa.length xa.length, .bool ba] 26)) (.cells #[.int .i64 gb, .slice sb lb cb] 34) (w.heap.size + 1) (by simp))
  have ia : IntV ((w.alloc (.cells #[.slice sa xa.length xa.length, .bool ba] 26)).alloc (.cells #[.int .i64 gb, .slice sb lb cb] 34)) (.agg #[.slice sa xa.length xa.length, .bool ba]) (x) := ⟨sa, xa, ba, rfl, ha.kept hG, va, ta⟩
  have rb : RIntV ((w.alloc (.cells #[.slice sa xa.length xa.length, .bool ba] 26)).alloc (.cells #[.int .i64 gb, .slice sb lb cb] 34)) (.agg #[.int .i64 gb, .slice sb lb cb]) (x) := ⟨gb, sb, lb, cb, rfl, hb, mb.kept hG⟩
  have oa : IntV w (.agg #[.slice sa xa.length xa.length, .bool ba]) (x) := ⟨sa, xa, ba, rfl, ha, va, ta⟩
  clear ha va ta
  have ob : RIntV w (.agg #[.int .i64 gb, .slice sb lb cb]) (x) := ⟨gb, sb, lb, cb, rfl, hb, mb⟩
  clear mb
  go_enter Try.func18, Try.ntmps18
  obtain ⟨Ca0, Ca1, Fa0, Fa1⟩ := box_cells Ba
  obtain ⟨Cb0, Cb1, Fb0, Fb1⟩ := box_cells Bb
  go_wp2_with fail
  generalize ((w.alloc (.cells #[.slice sa xa.length xa.length, .bool ba] 26)).alloc (.cells #[.int .i64 gb, .slice sb lb cb] 34)) = w0 at *
  go_region_held3 (fun w' => w'.cell? ⟨w.heap.size, 0, none⟩ = some (.slice sa xa.length xa.length) ∧ w'.cell? ⟨w.heap.size, 1, none⟩ = some (.bool ba) ∧ w'.cell? ⟨w.heap.size + 1, 0, none⟩ = some (.int .i64 gb) ∧ w'.cell? ⟨w.heap.size + 1, 1, none⟩ = some (.slice sb lb cb))
    (first | assumption | exact ⟨Ca0, Ca1, Cb0, Cb1⟩ | go_keep)
    (first
      | (go_at_call 15; (with_reducible refine (NZText_any w0.drew _ x K (ia.kept (grown_drew (grown_refl _ _))) (by omega) Hla.out).mono ?_); rintro e w1_1 ⟨s1, rfl, hs1, gw1_1⟩; have hGw1_1 := grown_pre w0 gw1_1 rfl rfl rfl rfl; have hSw1_1 := (And.intro (hGw1_1.cell Ca0 (by simp)) (And.intro (hGw1_1.cell Ca1 (by simp)) (And.intro (hGw1_1.cell Cb0 (by simp)) (hGw1_1.cell Cb1 (by simp))))); clear gw1_1)
      | (go_at_call 52; (with_reducible refine (rZText_any w1_1 _ x (rb.kept hGw1_1) Hlb.out).mono ?_); rintro e w1_2 ⟨s2, rfl, hs2, gw1_2⟩; obtain rfl : s2 = s1 := ztext_uniq hs2 hs1; have hGw1_2 := grown_trans hGw1_1 gw1_2; have hSw1_2 := (And.intro (hGw1_2.cell Ca0 (by simp)) (And.intro (hGw1_2.cell Ca1 (by simp)) (And.intro (hGw1_2.cell Cb0 (by simp)) (hGw1_2.cell Cb1 (by simp))))); clear gw1_2))
  replace Ba := heap_kept hGw1_2 Ba
  replace Bb := heap_kept hGw1_2 Bb
  replace ia := ia.kept hGw1_2
  replace rb := rb.kept hGw1_2
  replace hG := grown_trans hG hGw1_2
  clear Ca0 Fa0 Ca1 Fa1 Cb0 Fb0 Cb1 Fb1
  obtain ⟨Ca0, Ca1, Fa0, Fa1⟩ := box_cells Ba
  obtain ⟨Cb0, Cb1, Fb0, Fb1⟩ := box_cells Bb
  go_wp2_with fail
  go_ret
  exact ⟨by simp, hG⟩
end Go.Proofs.Ytljfhiikoimdiaa
