/- What the laws lean on, part 5. -/
import Derived.Deep.AppendLies
import Derived.Test.YtgbbdgioohaknaaGreatDoorPb4
namespace Go.Proofs.YtgbbdgioohaknaaGreatDoor
open Go.RowKit Mat
set_option maxRecDepth 100000
set_option linter.unusedVariables false
set_option linter.unusedSimpArgs false
set_option maxHeartbeats 2000000 in
theorem eP_ (w : World) (sa sb : Option Addr) (n ca m cb : Nat) (xs ys : List Nat) (hx : Lm w sa xs) (hy : Lm w sb ys) (hn : xs.length = n) (hm : ys.length = m) (hm0 : 0 < m) (hc0 : n = 0 → ca = 0) (hca : n ≤ ca) (bn : n ≤ 1073741000) (bm : m ≤ 1073741000) :
    Calls Tryz.prog 122 #[.slice sa n ca, .slice sb m cb] w (aX_ w (val B xs) (val B ys) n) := by
 have Hn := H_ hn
 have Hm := H_ hm
 by_cases hlt : n < m
 · have hv := I_ B T_ xs ys hx.dig hy.top (by omega)
   have hq : Hid (0 = val B xs / val B ys) := (Nat.div_eq_of_lt hv).symm
   have hr : Hid (val B xs = val B xs % val B ys) := (Nat.mod_eq_of_lt hv).symm
   clear hv hn hm
   by_cases h0 : n = 0
   · subst h0
     obtain rfl : xs = [] := List.length_eq_zero_iff.1 Hn.out
     obtain rfl := hx.nil rfl
     obtain rfl := hc0 rfl
     clear hc0
     go_enter Tryz.func122, Tryz.ntmps122
     go_wp2_with fail
     refine (er_ _).mono ?_
     rintro e w' ⟨rfl, rfl⟩
     go_wp2_with fail
     go_ret2
     exact ⟨none, none, 0, 0, 0, 0, [], [], rfl, rfl, by omega, by omega, rfl, by omega, by omega, Or.inl rfl, Or.inl rfl, Dig.nil _, Dig.nil _, hq.out, hr.out, h_ _ _, FreshAt.none _⟩
   · obtain ⟨b1, o1, cs1, rfl, hb1, hat1⟩ := hx.rd.get 0 (by rw [Hn.out]; omega)
     clear hc0
     go_enter Tryz.func122, Tryz.ntmps122
     go_wp2_with fail
     refine (dO_ _ b1 o1 n _ cs1 xs Hn.out hb1 hat1 (by omega) (by omega)).mono ?_
     rintro e w2 ⟨g, cap, cs2, rfl, hge, hb2, hat2, hcap, hg2⟩
     rw [Hn.out] at hcap ⊢
     have HF : Hid (aX_ w (val B xs) (val B ys) n (.returned (.tuple #[.slice none 0 0, .slice (some ⟨g, 0, none⟩) n cap])) w2) :=
      ⟨none, _, 0, 0, n, cap, [], xs, rfl, rfl, by omega, by omega, Hn.out, hcap, by omega, Or.inl rfl, Rdo.of hb2 hat2, Dig.nil _, hx.dig, hq.out, hr.out, hg2, FreshAt.some hge⟩
     clear hge hb2 hat2 hg2 hb1 hat1
     go_wp2_with fail
     go_ret2
     exact HF
 · by_cases h1 : m = 1
   · subst h1
     obtain ⟨b1, o1, cs1, rfl, hb1, hat1⟩ := hx.rd.get 0 (by omega)
     obtain ⟨b2, o2, rfl, cy⟩ := hy.rd.cell (by omega)
     have c0 := cy 0 (by omega)
     obtain ⟨y, rfl⟩ : ∃ y, ys = [y] := List.length_eq_one_iff.1 hm
     have hyB : y < B := hy.dig y (by simp)
     have hy0 : 0 < y := by
      have := hy.top y (by simp)
      omega
     simp only [List.getElem_cons_zero, Nat.add_zero] at c0
     clear hn hm hc0 cy
     go_enter Tryz.func122, Tryz.ntmps122
     go_wp2_with fail
     refine (dO_ _ b1 o1 n _ cs1 xs Hn.out hb1 hat1 (by omega) (by omega)).mono ?_
     rintro e w2 ⟨g, cap, cs2, rfl, hge, hbk2, hat2, hcap, hg2⟩
     rw [Hn.out] at hcap ⊢
     have c02 : w2.cell? ⟨b2, o2, none⟩ = some (.int .u64 (y : Int)) := hg2.cell c0 (by simp)
     clear c0 hb1 hat1
     go_wp2_with fail
     refine (cx_ _ g 0 n _ xs cs2 y Hn.out hbk2 hat2 (by omega) hx.dig hyB hy0).mono ?_
     rintro e w3 ⟨zs, cs3, rfl, hb3, hw3, hg3, hl3, hd3, hv3⟩
     have hgw3 := s_ hg2 hg3 hge
     have hrB : val B xs % y < B := Nat.lt_trans (Nat.mod_lt _ hy0) hyB
     obtain ⟨r, hr⟩ : ∃ r, val B xs % y = r := ⟨_, rfl⟩
     rw [hr] at hrB ⊢
     have hat4 : At #[.int .u64 (r : Int)] 0 [r] := fun i hi => by
      obtain rfl : i = 0 := by simpa using hi
      rfl
     have HF : Hid (aX_ w (val B xs) (val B [y]) n (.returned (.tuple #[.slice (some ⟨g, 0, none⟩) n cap, .slice (some ⟨w3.heap.size, 0, none⟩) 1 1])) (w3.alloc (.cells #[.int .u64 (r : Int)] 96))) := by
      refine ⟨_, _, n, cap, 1, 1, zs, [r], rfl, by rw [hl3, Hn.out], hcap, by omega, rfl, by omega, by omega, Rdo.of (hb3.alloc _) hw3.lies, Rdo.of (en_ _ _) hat4, hd3, Dig.cons hrB (Dig.nil _), ?_, ?_, l_ hgw3 _, FreshAt.some hgw3.size⟩
      · rw [hv3]; simp [val]
      · simp [val, hr]
     clear hge hbk2 hat2 hg2 hgw3 hb3 hw3 hg3 hl3 hv3 c02 hr
     go_wp2_with fail
     go_ret2
     exact HF
   · obtain ⟨m', rfl⟩ : ∃ m', m = m' + 2 := ⟨m - 2, by omega⟩
     obtain ⟨d, rfl⟩ : ∃ d, n = m' + 2 + d := ⟨n - (m' + 2), by omega⟩
     have f1 : ((m' : Int) + 2 == 1) = false := beq_eq_false_iff_ne.2 (by omega)
     clear hc0 h1
     go_enter Tryz.func122, Tryz.ntmps122
     go_wp2_with fail
     refine (eC_ _ sa sb ca cb xs ys m' d hx hy hm hn bn).mono ?_
     rintro e w' ⟨sq, sr, nq, cq, nr, cr, qs, rs, rfl, h⟩
     have HF : Hid (aX_ w (val B xs) (val B ys) (m' + 2 + d) (.returned (.tuple #[.slice sq nq cq, .slice sr nr cr])) w') := ⟨sq, sr, nq, cq, nr, cr, qs, rs, rfl, h⟩
     clear h hn hm
     go_wp2_with fail
     go_ret2
     exact HF
def hk_ (w : World) (n k : Nat) (code : Int) (e : Ending) (w' : World) : Prop := ∃ v u, e = .returned (.tuple #[v, u, .int .i64 code]) ∧ NatV w' v n ∧ NatV w' u k ∧ w.grownBy w' none
set_option maxHeartbeats 2000000 in
theorem cu_ (w : World) (va vb : Value) (a b K : Nat) (ha : NatV w va a) (hb : NatV w vb b) (hK : K ≤ 1073741000) (la : a < B ^ K) (lb : b < B ^ K) (h0 : 0 < b) :
    Calls Tryz.prog 127 #[va, vb] w (hk_ w (a / b) (a % b) 0) := by
 obtain ⟨sa, xs, rfl, hx, rfl⟩ := ha
 obtain ⟨sb, ys, rfl, hy, rfl⟩ := hb
 have h1 := hx.len la
 have h2 := hy.len lb
 have h3 := eG_ hy h0
 clear la lb h0
 have hgw : w.grownBy ((((w.alloc (.cells #[.slice sa xs.length xs.length] 24)).alloc (.cells #[.slice sb ys.length ys.length] 24)).alloc (.cells #[.slice none 0 0] 24)).alloc (.cells #[.slice none 0 0] 24)) none := l_ (l_ (l_ (wg_ _ _ _) _) _) _
 have hbox1 := (Below.heap_alloc _ (.cells #[.slice none 0 0] 24) (w.heap.size + 1 + 1) (by simp)).trans (f_ ((w.alloc (.cells #[.slice sa xs.length xs.length] 24)).alloc (.cells #[.slice sb ys.length ys.length] 24)) (.cells #[.slice none 0 0] 24) (w.heap.size + 1 + 1) (by simp))
 have hbox2 := f_ (((w.alloc (.cells #[.slice sa xs.length xs.length] 24)).alloc (.cells #[.slice sb ys.length ys.length] 24)).alloc (.cells #[.slice none 0 0] 24)) (.cells #[.slice none 0 0] 24) (w.heap.size + 1 + 1 + 1) (by simp)
 have f1 : ((ys.length : Int) == 0) = false := beq_eq_false_iff_ne.2 (by omega)
 go_enter Tryz.func127, Tryz.ntmps127
 go_wp2_with fail
 refine (eP_ _ sa sb _ _ _ _ xs ys (hx.kept hgw) (hy.kept hgw) rfl rfl h3 (fun h => h) (Nat.le_refl _) (by omega) (by omega)).mono ?_
 rintro e w2 ⟨sq, sr, nq, cq, nr, cr, qs, rs, rfl, hlq, hcq, hnq, hlr, hcr, hnr, hrq, hrr, hdq, hdr, hvq, hvr, hg2, _⟩
 have hgw2 := d_ hgw hg2
 have hb1 := a_ hg2 hbox1
 have hb2 := a_ hg2 hbox2
 have HLQ := H_ hlq
 have HLR := H_ hlr
 have HVQ := H_ hvq
 have HVR := H_ hvr
 clear hlq hlr hvq hvr hg2 hgw hbox1 hbox2
 go_wp2_with fail
 refine (ee_ _ sq nq cq qs HLQ.out hrq (by omega) hcq hdq).mono ?_
 rintro e w3 ⟨v, rfl, ⟨s1, q1, rfl, hl3, hv3⟩, hg3⟩
 have hgw3 := d_ hgw2 hg3
 have hb13 := a_ hg3 hb1
 have hb23 := a_ hg3 hb2
 have hrr3 := hrr.kept hg3
 have HV3 := H_ (hv3.trans HVQ.out)
 clear hv3 hg3 hgw2 hb1 hb2 hrr hrq
 go_wp2_with fail
 refine (ee_ _ sr nr cr rs HLR.out hrr3 (by omega) hcr hdr).mono ?_
 rintro e w4 ⟨v, rfl, ⟨s2, q2, rfl, hl4, hv4⟩, hg4⟩
 have hgw4 := d_ hgw3 hg4
 have hb14 := a_ hg4 hb13
 have hb24 := a_ hg4 hb23
 have hl34 := hl3.kept hg4
 have HV4 := H_ (hv4.trans HVR.out)
 obtain ⟨hc1, hf1⟩ := j_ hb14
 obtain ⟨hc2, hf2⟩ := j_ hb24
 have HF : Hid (∀ u1 u2, hk_ w (val B xs / val B ys) (val B xs % val B ys) 0 (.returned (.tuple #[.agg #[.slice s1 q1.length q1.length], .agg #[.slice s2 q2.length q2.length], .int .i64 0])) ((w4.setCell ⟨w.heap.size + 1 + 1, 0, none⟩ u1).setCell ⟨w.heap.size + 1 + 1 + 1, 0, none⟩ u2)) := by
  intro u1 u2
  have hb5 : (w4.setCell ⟨w.heap.size + 1 + 1, 0, none⟩ u1).heap[w.heap.size + 1 + 1 + 1]? = some (.cells #[.slice none 0 0] 24 (0, 0)) := by
   rw [Below.heap_setCell _ _ _ _ (by simp)]; exact hb24
  exact ⟨_, _, rfl, ⟨s1, q1, rfl, (hl34.set_other hb14 (by decide) 0 u1).set_other hb5 (by decide) 0 u2, HV3.out⟩, ⟨s2, q2, rfl, (hl4.set_other hb14 (by decide) 0 u1).set_other hb5 (by decide) 0 u2, HV4.out⟩,
   s_ (s_ hgw4 (q_ (h_ _ _) _ _) (by omega)) (q_ (h_ _ _) _ _) (by omega)⟩
 clear hv4 hg4 hgw3 hgw4 hb13 hb23 hb14 hb24 hrr3
 go_wp2_with fail
 exact bodyPost_ret (v := .tuple #[.agg #[.slice s1 q1.length q1.length], .agg #[.slice s2 q2.length q2.length], .int .i64 0]) (by simp [results, Tryz.results127, go_sem, hc1, hc2]) rfl (HF.out _ _)
def nb (a : Nat) : Nat := if a = 0 then 0 else Nat.log2 a + 1
theorem dx_ {a : Nat} (h : 0 < a) : 2 ^ (nb a - 1) ≤ a ∧ a < 2 ^ nb a ∧ 1 ≤ nb a := by
 unfold nb
 rw [if_neg (by omega), Nat.add_sub_cancel]
 exact ⟨Nat.log2_self_le (by omega), Nat.lt_log2_self, by omega⟩
theorem lW_ {a k : Nat} (h1 : 2 ^ k ≤ a) (h2 : a < 2 ^ (k + 1)) : nb a = k + 1 := by
 obtain ⟨a1, a2, a3⟩ := dx_ (a := a) (Nat.lt_of_lt_of_le (Nat.two_pow_pos k) h1)
 rcases Nat.lt_trichotomy (nb a) (k + 1) with h | h | h
 · have : 2 ^ nb a ≤ 2 ^ k := Nat.pow_le_pow_right (by omega) (by omega)
   omega
 · exact h
 · have : 2 ^ (k + 1) ≤ 2 ^ (nb a - 1) := Nat.pow_le_pow_right (by omega) (by omega)
   omega
theorem jX_ {xs : List Nat} (dx : Dig B xs) (n t : Nat) (hn : xs.length = n + 1) (ht : xs.getD n 0 = t) (h0 : t ≠ 0) : nb (val B xs) = n * 64 + Lib.bitLen t := by
 have h1 := P_ B xs n (by omega)
 rw [List.take_of_length_le (by omega), ht] at h1
 have h2 := ba_ B (xs.take n) (dx.take n)
 rw [List.length_take, Nat.min_eq_left (by omega)] at h2
 have htB : t < B := by rw [← ht]; exact dx.getD T_ n
 obtain ⟨s1, s2, s3⟩ := br_ (t + 1) t (by omega) h0 (by rw [← dt_]; exact htB)
 obtain ⟨L, hL⟩ : ∃ L, Lib.bitLen t = L + 1 := ⟨Lib.bitLen t - 1, by omega⟩
 rw [hL, Nat.add_sub_cancel] at s1
 rw [hL] at s2 ⊢
 have hB : B ^ n = 2 ^ (n * 64) := by rw [dt_, ← Nat.pow_mul, Nat.mul_comm]
 rw [show n * 64 + (L + 1) = (n * 64 + L) + 1 from by omega]
 refine lW_ ?_ ?_
 · rw [h1, Nat.pow_add, ← hB]
   have : B ^ n * 2 ^ L ≤ B ^ n * t := Nat.mul_le_mul_left _ s1
   omega
 · rw [h1, show n * 64 + L + 1 = n * 64 + (L + 1) from by omega, Nat.pow_add, ← hB]
   have : B ^ n * (t + 1) ≤ B ^ n * 2 ^ (L + 1) := Nat.mul_le_mul_left _ s2
   rw [Nat.mul_add, Nat.mul_one] at this
   omega
set_option maxHeartbeats 1000000 in
theorem bj_ (w : World) (va : Value) (a K : Nat) (ha : NatV w va a) (hK : K ≤ 1073741824) (la : a < B ^ K) :
    Calls Tryz.prog 92 #[va] w fun e w' => e = .returned (.int .i64 (nb a : Int)) ∧ w.grownBy w' none := by
 obtain ⟨sa, xs, rfl, hx, rfl⟩ := ha
 have h1 := hx.len la
 clear la
 by_cases h0 : xs.length = 0
 · obtain rfl : xs = [] := List.length_eq_zero_iff.1 h0
   simp only [List.length_nil]
   go_enter Tryz.func92, Tryz.ntmps92
   go_wp2_with fail
   go_ret
   exact ⟨rfl, wg_ _ _ _⟩
 · obtain ⟨n, hn⟩ : ∃ n, xs.length = n + 1 := ⟨xs.length - 1, by omega⟩
   obtain ⟨b, o, rfl, cx⟩ := hx.rd.cell (by omega)
   obtain ⟨t, ht⟩ : ∃ t, xs.getD n 0 = t := ⟨_, rfl⟩
   have ct := cx n (by omega)
   rw [bv_, ht] at ct
   have ht0 : t ≠ 0 := by
    refine hx.top _ ?_
    rw [List.getLast?_eq_getElem?, hn, Nat.add_sub_cancel, List.getElem?_eq_getElem (by omega), bv_, ht]
   have htB : t < B := by rw [← ht]; exact hx.dig.getD T_ _
   have HB := H_ (jX_ hx.dig n t hn ht ht0)
   have hl := cX_ t htB
   rw [hn]
   rw [hn] at h1
   have ct2 := (wg_ w (.cells #[.slice (some ⟨b, o, none⟩) (n + 1) (n + 1)] 24) none).cell ct (by simp)
   have f1 : ((n : Int) + 1 == 0) = false := beq_eq_false_iff_ne.2 (by omega)
   clear cx ht hn h0 ct
   go_enter Tryz.func92, Tryz.ntmps92
   go_wp2_with fail
   refine (fR_ t htB _).mono ?_
   rintro e w' ⟨rfl, rfl⟩
   go_wp2_with fail
   go_ret
   refine ⟨?_, wg_ _ _ _⟩
   rw [HB.out]
   exact congrArg Ending.returned (congrArg (Value.int IntKind.i64) (by omega))
theorem hI_ {w W : World} (h : W.heap = w.heap) (h1 : W.os = w.os) (h2 : W.tape = w.tape) (h3 : W.output = w.output) : w.grownBy W none := ⟨h1, h2, h3, by rw [h]; exact Nat.le_refl _, fun k _ _ => by rw [h]⟩
theorem o_ (w : World) {W W' : World} (hg : W.grownBy W' none) (h : W.heap = w.heap) (h1 : W.os = w.os) (h2 : W.tape = w.tape) (h3 : W.output = w.output) : w.grownBy W' none := d_ (hI_ h h1 h2 h3) hg
theorem aY_ {w : World} {g : Nat} {v0 : Value} {t : TypeId} (h : w.heap[g]? = some (.cells #[v0] t (0, 0))) (v : Value) : (w.setCell ⟨g, 0, none⟩ v).heap[g]? = some (.cells #[v] t (0, 0)) := by
 simp [World.setCell, Array.getElem?_modify, h]
theorem y_ {w : World} {g k : Nat} {o : Obj} (h : w.heap[k]? = some o) (hk : k ≠ g) (v : Value) : (w.setCell ⟨g, 0, none⟩ v).heap[k]? = some o := (Below.heap_setCell _ _ _ _ (by simpa using hk)).trans h
theorem aF_ {a b : World} {N g : Nat} (h : a.grownBy b (some g)) (hN : N ≤ g) (hs : N ≤ a.heap.size) : Below N a b :=
 ⟨h.os, h.tape, h.output, h.size, fun k hk => h.block k (by omega) (by intro e; cases e; omega)⟩
theorem L_ {a b : World} {N : Nat} (h : a.grownBy b none) (hs : N ≤ a.heap.size) : Below N a b :=
 ⟨h.os, h.tape, h.output, h.size, fun k hk => h.block k (by omega) (by simp)⟩
theorem dr_ (w : World) (sa sb : Option Addr) (n m : Nat) (xs ys : List Nat) (hn : xs.length = n) (hm : ys.length = m) (hx : Lm w sa xs) (hy : Lm w sb ys) (bn : n ≤ 1099511627776) (bm : m ≤ 1099511627776) :
    Calls Tryz.prog 112 #[.slice sa n n, .slice sb m m] w (fD_ w (val B xs) (val B ys)) := by
 subst hn; subst hm; exact bq_ w sa sb xs ys hx hy bn bm
theorem FreshAt.mono {n m : Nat} {s : Option Addr} (h : FreshAt n s) (hm : m ≤ n) : FreshAt m s := fun ad e => ⟨Nat.le_trans hm (h ad e).1, (h ad e).2⟩
theorem FreshAt.sa {n k : Nat} {s : Option Addr} (h : FreshAt n s) : FreshAt n (Sa s k) := by
 unfold Sa; split
 · exact FreshAt.none n
 · exact h
theorem Lm.lt {w : World} {s : Option Addr} {xs : List Nat} (h : Lm w s xs) {ad : Addr} (e : s = some ad) : ad.block < w.heap.size := by
 rcases h.rd with hn | ⟨b, off, cs, e1, h1, _⟩
 · rw [h.nil hn] at e; cases e
 · rw [e1] at e; cases e; exact h1.lt
theorem Lm.pos {w : World} {s : Option Addr} {xs : List Nat} (h : Lm w s xs) (h0 : 0 < xs.length) : 0 < val B xs := by
 rcases Nat.eq_zero_or_pos (val B xs) with e | e
 · rw [(aZ_ B T_ xs h.top).1 e] at h0; simp at h0
 · exact e
def kt_ (w : World) (n : Nat) (xs : List Nat) (e : Ending) (w' : World) : Prop :=
 ∃ (s : Option Addr) (cap : Nat), e = .returned (.slice s n cap) ∧ Lm w' s xs ∧ n ≤ cap ∧ (n = 0 → cap = 0) ∧ FreshAt w.heap.size s ∧ w.grownBy w' none
theorem dN_ (w : World) (sa : Option Addr) (n : Nat) (xs : List Nat) (hn : xs.length = n) (hx : Lm w sa xs) (bn : n ≤ 1099511627776) :
    Calls Tryz.prog 101 #[.slice sa n n] w (kt_ w n xs) := by
 rcases Nat.eq_zero_or_pos n with h0 | h0
 · subst h0
   obtain rfl := List.length_eq_zero_iff.1 hn
   obtain rfl := hx.nil rfl
   refine (er_ w).mono ?_
   rintro e w' ⟨rfl, rfl⟩
   exact ⟨none, 0, rfl, hx, Nat.le_refl _, fun _ => rfl, FreshAt.none _, h_ _ _⟩
 · obtain ⟨b1, o1, cs1, rfl, hb1, hat1⟩ := hx.rd.get 0 (by omega)
   refine (dO_ w b1 o1 n n cs1 xs hn hb1 hat1 h0 bn).mono ?_
   rintro e w' ⟨g, cap, cs2, rfl, hge, hb2, hat2, hcap, hg2⟩
   rw [hn] at hcap ⊢
   exact ⟨_, cap, rfl, ⟨Rdo.of hb2 hat2, by rintro rfl; simp at hn; omega, hx.top, hx.dig⟩, hcap, fun e => absurd e (by omega), FreshAt.some hge, hg2⟩
def fx_ (w : World) (a : Nat) (e : Ending) (w' : World) : Prop :=
 (∃ x : Nat, e = .returned (.tuple #[.int .u64 (x : Int), .bool (decide (a < B))]) ∧ (a < B → x = a) ∧ (¬ a < B → x = 0)) ∧ w.grownBy w' none
set_option maxHeartbeats 1000000 in
theorem kq_ (w : World) (va : Value) (a K : Nat) (ha : NatV w va a) (hK : K ≤ 1073741824) (la : a < B ^ K) :
    Calls Tryz.prog 137 #[va] w (fx_ w a) := by
 obtain ⟨sa, xs, rfl, hx, rfl⟩ := ha
 have h1 := hx.len la
 clear la
 rcases Nat.lt_trichotomy xs.length 1 with h | h | h
 · obtain rfl : xs = [] := List.length_eq_zero_iff.1 (by omega)
   have e0 : val B [] = 0 := rfl
   have hF : Hid (fx_ w (val B []) (.returned (.tuple #[.int .u64 0, .bool true])) (w.alloc (.cells #[.slice sa 0 0] 24))) := ⟨⟨0, by rw [e0]; rfl, fun _ => rfl, fun _ => rfl⟩, wg_ _ _ _⟩
   simp only [List.length_nil]
   go_enter Tryz.func137, Tryz.ntmps137
   go_wp2_with fail
   go_ret2
   exact hF.out
 · obtain ⟨x, rfl⟩ := List.length_eq_one_iff.1 h
   obtain ⟨b, o, rfl, cx⟩ := hx.rd.cell (by simp)
   have ct := cx 0 (by simp)
   have ev : val B [x] = x := by simp [val]
   have hxB : x < B := hx.dig x (by simp)
   have ct2 := (wg_ w (.cells #[.slice (some ⟨b, o, none⟩) 1 1] 24) none).cell ct (by simp)
   simp only [List.getElem_cons_zero, Nat.add_zero] at ct2
   have hF : Hid (fx_ w (val B [x]) (.returned (.tuple #[.int .u64 (x : Int), .bool true])) (w.alloc (.cells #[.slice (some ⟨b, o, none⟩) 1 1] 24))) := by
    refine ⟨⟨x, ?_, fun _ => ev.symm, fun h => absurd (by rw [ev]; exact hxB) h⟩, wg_ _ _ _⟩
    rw [ev, decide_eq_true hxB]
   clear cx ct hxB ev
   simp only [List.length_singleton]
   go_enter Tryz.func137, Tryz.ntmps137
   go_wp2_with fail
   go_ret2
   exact hF.out
 · obtain ⟨n, hn⟩ : ∃ n, xs.length = n := ⟨_, rfl⟩
   have hge : ¬ val B xs < B := by
    have h2 := eH_ B xs (by rintro rfl; simp at h) hx.top
    have h3 : B ^ 1 ≤ B ^ (xs.length - 1) := Nat.pow_le_pow_right T_ (by omega)
    rw [Nat.pow_one] at h3
    omega
   have hF : Hid (fx_ w (val B xs) (.returned (.tuple #[.int .u64 0, .bool false])) (w.alloc (.cells #[.slice sa n n] 24))) := by
    refine ⟨⟨0, by rw [decide_eq_false hge]; rfl, fun h => absurd h hge, fun _ => rfl⟩, wg_ _ _ _⟩
   rw [hn] at h h1 ⊢
   have f1 : ((n : Int) == 0) = false := beq_eq_false_iff_ne.2 (by omega)
   have f2 : ((n : Int) == 1) = false := beq_eq_false_iff_ne.2 (by omega)
   clear hn hge
   go_enter Tryz.func137, Tryz.ntmps137
   go_wp2_with fail
   go_ret2
   exact hF.out
def uv (x : Nat) : Value := .int .u64 (x : Int)
theorem iA_ {w : World} {base g n cap : Nat} {cs : Array Value} {zs : List Nat} (hb : Blk w g (Put cs 0 zs)) (hz : zs.length = n) (hn : n ≤ cap) (hc : cap ≤ maxLen) (hs : cs.size = cap) (hl : base ≤ g) :
    w.ownsRow base 96 1 (.slice (some ⟨g, 0, none⟩) n cap) n (zs.map uv) := by
 refine ⟨by rw [List.length_map, hz, Nat.mul_one], Or.inr ⟨g, cap, Put cs 0 zs, rfl, hl, hb, hn, hc, by rw [cK_, hs, Nat.mul_one], ?_⟩⟩
 have hat := ep_ zs cs 0 (by omega)
 apply List.ext_getElem?
 intro i
 rw [Nat.mul_one, List.getElem?_take]
 by_cases hi : i < n
 · rw [if_pos hi, List.getElem?_map, List.getElem?_eq_getElem (l := zs) (by omega)]
   have := hat i (by omega)
   rw [Nat.zero_add] at this
   rw [Array.getElem?_toList, this]
   rfl
 · rw [if_neg hi, List.getElem?_eq_none (by rw [List.length_map]; omega)]
theorem iz_ {w : World} {base : Nat} {s : Option Addr} {n cap : Nat} {xs : List Nat} (h : w.ownsRow base 96 1 (.slice s n cap) n (xs.map uv)) (hn : 0 < n) :
    ∃ g cs, s = some ⟨g, 0, none⟩ ∧ base ≤ g ∧ Blk w g cs ∧ n ≤ cap ∧ cap ≤ maxLen ∧ cs.size = cap ∧ At cs 0 xs := by
 obtain ⟨h1, h2 | ⟨g, cap', cur, e, hg, hb, hc, hm, hs, ht⟩⟩ := h
 · omega
 · cases e
   refine ⟨g, cur, rfl, hg, hb, hc, hm, by omega, ?_⟩
   intro i hi
   rw [List.length_map, Nat.mul_one] at h1
   have h3 : (cur.toList.take (n * 1))[i]? = (xs.map uv)[i]? := by rw [ht]
   rw [Nat.mul_one, List.getElem?_take, if_pos (by omega), Array.getElem?_toList, List.getElem?_map, List.getElem?_eq_getElem hi] at h3
   rw [Nat.zero_add]; exact h3
theorem fO_ {w : World} {base : Nat} {v : Value} {n : Nat} {xs : List Value} (h : w.ownsRow base 96 1 v n xs) (o : Obj) : (w.alloc o).ownsRow base 96 1 v n xs := by
 obtain ⟨h1, h2 | ⟨g, cap', cur, e, hg, hb, hr⟩⟩ := h
 · exact ⟨h1, Or.inl h2⟩
 · exact ⟨h1, Or.inr ⟨g, cap', cur, e, hg, (Below.heap_alloc w o g (Array.getElem?_eq_some_iff.1 hb).1).trans hb, hr⟩⟩
theorem kB_ {ad : Nat} : ∀ u ∈ ([uv ad] : List Value), u.oneCell' = true := by intro u hu; simp at hu; subst hu; rfl
def cZ_ (w : World) (base : Nat) (xs : List Nat) (by' add : Nat) (e : Ending) (w' : World) : Prop :=
 ∃ (s : Option Addr) (n cap : Nat) (zs : List Nat), e = .returned (.slice s n cap) ∧ w'.ownsRow base 96 1 (.slice s n cap) n (zs.map uv) ∧ zs.length = n ∧ n ≤ xs.length + 1 ∧ Dig B zs ∧ val B zs = val B xs * by' + add ∧ Below base w w' ∧ (n = 0 → s = none ∧ cap = 0)
theorem hs_ (k v x by' add s : Nat) (h : v + add * B ^ k = s) :
    v + B ^ k * Q_ (C_ x by') add 0 + (bH_ x by' + an_ (C_ x by') add 0) * B ^ (k + 1) = s + B ^ k * (x * by') := by
 have e1 := eM_ x by'
 have e2 : Q_ (C_ x by') add 0 + B * an_ (C_ x by') add 0 = C_ x by' + add + 0 := Nat.mod_add_div ..
 generalize Q_ (C_ x by') add 0 = r2 at *
 generalize an_ (C_ x by') add 0 = c2 at *
 generalize C_ x by' = r1 at *
 generalize bH_ x by' = q1 at *
 rw [← e1, Nat.pow_succ]
 grind
set_option maxHeartbeats 2000000 in
theorem gh_ (w : World) (base g n cap : Nat) (cs : Array Value) (xs : List Nat) (by' add : Nat) (hn : xs.length = n) (h0 : 0 < n) (hg0 : base ≤ g) (hb : Blk w g cs) (hx : At cs 0 xs) (hnc : n ≤ cap) (hcm : cap ≤ maxLen) (hcs : cs.size = cap) (dx : Dig B xs) (bn : n ≤ 1000000) (hby : by' < B) (had : add < B) :
    Calls Tryz.prog 94 #[.slice (some ⟨g, 0, none⟩) n cap, .int .u64 (by' : Int), .int .u64 (add : Int)] w (cZ_ w base xs by' add) := by
 have Hn := H_ hn
 have hbyN : by' < 18446744073709551616 := hby
 have HCM := H_ hcm
 have hsz := hb.lt
 obtain ⟨i0, hi, hz0, hz1, hz2⟩ := info_parts Tryz.infoU64
 clear hn hcm
 go_enter Tryz.func94, Tryz.ntmps94
 go_wp2_with fail
 go_loopw [2, 14] (fun c i wr => ∃ (k ad : Nat) (zs : List Nat), k ≤ n ∧ i = .int .i64 k ∧ c = .int .u64 ad ∧ ad < B ∧ Hid (zs.length = k) ∧ Dig B zs ∧ Blk wr g (Put cs 0 zs) ∧ w.grownBy wr (some g) ∧ Hid (val B zs + ad * B ^ k = val B (xs.take k) * by' + add))
  (fun _ i _ => n - (intOf i).toNat)
 case atStart => exact ⟨0, add, [], Nat.zero_le _, rfl, rfl, had, rfl, Dig.nil _, hb, h_ _ _, by show _ = _; simp [val]⟩
 case round =>
  obtain ⟨k, ad, zs, hk, rfl, rfl, hc, hzl, hzd, hbk, hg, hv⟩ := hrel
  by_cases hlt : k < n
  · obtain ⟨x, ex⟩ : ∃ x, xs[k]'(by rw [Hn.out]; omega) = x := ⟨_, rfl⟩
    have hxB : x < B := ex ▸ dx.get k _
    have cx : wr.cell? ⟨g, k, none⟩ = some (.int .u64 (x : Int)) := by
     have := hx k (by rw [Hn.out]; omega)
     rw [Nat.zero_add, ex] at this
     rw [hbk.cell, ay_ _ _ _ _ (by rw [hzl.out]; omega), this]
    have fx : wr.frozen? ⟨g, k, none⟩ = false := hbk.frozen _
    have EX := H_ ex
    clear ex
    have ha1 : ∀ w, (callFunc 119 #[.int .u64 (C_ x by' : Int), .int .u64 (ad : Int), .int .u64 0]).run Tryz.prog w = .ok (.value (.tuple #[.int .u64 (Q_ (C_ x by') ad 0 : Int), .int .u64 (an_ (C_ x by') ad 0 : Int)])) w := fun w => hO_ _ _ 0 (Nat.zero_le _) w
    obtain ⟨b1, _⟩ := ef_ hxB hxB hby hc
    have b2 := b1
    have b1 : bH_ x by' + an_ (C_ x by') ad 0 < 18446744073709551616 := b1
    go_wp2_with (go_at_call 118; refine (bZ_ x by' hxB hby _).mono ?_; rintro e w' ⟨rfl, rfl⟩)
    clear ha1 cx fx
    go_roundw
    case rel =>
     refine ⟨k + 1, bH_ x by' + an_ (C_ x by') ad 0, zs ++ [Q_ (C_ x by') ad 0], by omega, by go_num, by go_num, b2, ?_, hzd.snoc (cY_ _ _ _), ?_, q_ hg _ _, ?_⟩
     · show _ = _; rw [List.length_append, hzl.out]; rfl
     · rw [aR_, hzl.out, Nat.zero_add]; exact hbk.setCell _ _
     · show _ = _
       rw [G_, hzl.out, hs_ k _ x by' ad _ hv.out, w_ B xs k (by rw [Hn.out]; omega), EX.out, Nat.add_mul, Nat.mul_assoc]; omega
    case measure => simp [intOf]; omega
  · obtain rfl : k = n := by omega
    have hvv : Hid (val B zs + ad * B ^ k = val B xs * by' + add) := by
     show _ = _; rw [hv.out, List.take_of_length_le (by rw [Hn.out]; omega)]
    clear hv
    by_cases ha0 : ad = 0
    · subst ha0
      have hF : Hid (cZ_ w base xs by' add (.returned (.slice (some ⟨g, 0, none⟩) k cap)) wr) := by
       refine ⟨_, k, cap, zs, rfl, iA_ hbk hzl.out hnc HCM.out hcs hg0, hzl.out, by rw [Hn.out]; omega, hzd, ?_, aF_ hg hg0 (by omega), fun e => absurd e (by omega)⟩
       have := hvv.out; omega
      clear hvv
      go_wp2_with fail
      go_ret
      exact hF.out
    · have f1 : decide ((0 : Int) < (ad : Int)) = true := decide_eq_true (by omega)
      have hown := fO_ (iA_ hbk hzl.out hnc HCM.out hcs hg0) (.cells #[.int .u64 (ad : Int)] 96)
      have hnews : ∀ j u, ([uv ad] : List Value)[j]? = some u → (wr.alloc (.cells #[.int .u64 (ad : Int)] 96)).cell? ((⟨wr.heap.size, 0, none⟩ : Addr).add j) = some u := World.news_of_block (heap_alloc_new wr _)
      have HVV := hvv
      have hbl : Below base w (wr.alloc (.cells #[.int .u64 (ad : Int)] 96)) := (aF_ hg hg0 (by omega)).trans (L_ (wg_ _ _ _) (by have := hg.size; omega))
      have hbs : base ≤ (wr.alloc (.cells #[.int .u64 (ad : Int)] 96)).heap.size := by have := hg.size; simp; omega
      go_wp2_with (at_builtin; refine wpList_append_lies _ rfl _ _ _ rfl base 96 i0 (.int .u64 0) 1 8 Tryz.underlying22 hi hz0 hz1 hz2 rfl (by omega) (.slice (some ⟨g, 0, none⟩) k cap) k (zs.map uv) rfl hown ⟨wr.heap.size, 0, none⟩ 1 1 [uv ad] rfl rfl hnews kB_ (by omega) (by unfold maxLen; omega) (by omega) hbs (wr.heap.size + 1) (by simp) ?_; intro g2 cap2 w2 hown2 hgrow hat hlt2)
      go_ret
      refine ⟨_, k + 1, cap2, zs ++ [ad], rfl, ?_, ?_, by rw [Hn.out]; omega, hzd.snoc hc, ?_, hbl.trans (aF_ (g := g) hgrow hg0 hbs), fun e => absurd e (by omega)⟩
      · rw [List.map_append]; exact hown2
      · rw [List.length_append, hzl.out]; rfl
      · rw [G_, hzl.out, Nat.mul_comm (B ^ k)]; exact hvv.out
set_option maxHeartbeats 2000000 in
theorem hq_ (w : World) (base : Nat) (by' add : Nat) (hbs0 : base ≤ w.heap.size) (had : add < B) :
    Calls Tryz.prog 94 #[.slice none 0 0, .int .u64 (by' : Int), .int .u64 (add : Int)] w (cZ_ w base [] by' add) := by
 obtain ⟨i0, hi, hz0, hz1, hz2⟩ := info_parts Tryz.infoU64
 have hnil : w.ownsRow base 96 1 (.slice none 0 0) 0 (([] : List Nat).map uv) := ⟨rfl, Or.inl ⟨rfl, rfl⟩⟩
 by_cases ha0 : add = 0
 · subst ha0
   have hF : Hid (cZ_ w base [] by' 0 (.returned (.slice none 0 0)) w) := ⟨none, 0, 0, [], rfl, hnil, rfl, by simp, Dig.nil _, by simp [val], Below.refl _ _, fun _ => ⟨rfl, rfl⟩⟩
   go_enter Tryz.func94, Tryz.ntmps94
   go_wp2_with fail
   go_loopw [2, 14] (fun c i wr => c = .int .u64 0 ∧ i = .int .i64 0 ∧ wr = w) (fun _ _ _ => 0)
   case atStart => exact ⟨rfl, rfl, rfl⟩
   case round =>
    obtain ⟨rfl, rfl, rfl⟩ := hrel
    go_wp2_with fail
    go_ret
    exact hF.out
 · have f1 : decide ((0 : Int) < (add : Int)) = true := decide_eq_true (by omega)
   have hown := fO_ hnil (.cells #[.int .u64 (add : Int)] 96)
   have hnews : ∀ j u, ([uv add] : List Value)[j]? = some u → (w.alloc (.cells #[.int .u64 (add : Int)] 96)).cell? ((⟨w.heap.size, 0, none⟩ : Addr).add j) = some u := World.news_of_block (heap_alloc_new w _)
   have hbl : Below base w (w.alloc (.cells #[.int .u64 (add : Int)] 96)) := L_ (wg_ _ _ _) hbs0
   have hbs : base ≤ (w.alloc (.cells #[.int .u64 (add : Int)] 96)).heap.size := by simp; omega
   go_enter Tryz.func94, Tryz.ntmps94
   go_wp2_with fail
   go_loopw [2, 14] (fun c i wr => c = .int .u64 (add : Int) ∧ i = .int .i64 0 ∧ wr = w) (fun _ _ _ => 0)
   case atStart => exact ⟨rfl, rfl, rfl⟩
   case round =>
    obtain ⟨rfl, rfl, rfl⟩ := hrel
    go_wp2_with (at_builtin; refine wpList_append_lies _ rfl _ _ _ rfl base 96 i0 (.int .u64 0) 1 8 Tryz.underlying22 hi hz0 hz1 hz2 rfl (by omega) (.slice none 0 0) 0 (([] : List Nat).map uv) rfl hown ⟨wr.heap.size, 0, none⟩ 1 1 [uv add] rfl rfl hnews kB_ (by omega) (by unfold maxLen; omega) (by omega) hbs (wr.heap.size + 1) (by simp) ?_; intro g2 cap2 w2 hown2 hgrow hat hlt2)
    go_ret
    refine ⟨_, 1, cap2, [add], rfl, hown2, rfl, by simp, Dig.cons had (Dig.nil _), by simp [val], hbl.trans (L_ hgrow hbs), fun e => absurd e (by omega)⟩
theorem hr_ (w : World) (base : Nat) (s : Option Addr) (n cap : Nat) (xs : List Nat) (by' add : Nat) (hn : xs.length = n) (ho : w.ownsRow base 96 1 (.slice s n cap) n (xs.map uv)) (dx : Dig B xs) (bn : n ≤ 1000000) (hby : by' < B) (had : add < B) (hbs : base ≤ w.heap.size) (hz : n = 0 → s = none ∧ cap = 0) :
    Calls Tryz.prog 94 #[.slice s n cap, .int .u64 (by' : Int), .int .u64 (add : Int)] w (cZ_ w base xs by' add) := by
 rcases Nat.eq_zero_or_pos n with h0 | h0
 · subst h0
   obtain rfl := List.length_eq_zero_iff.1 hn
   obtain ⟨rfl, rfl⟩ := hz rfl
   exact hq_ w base by' add hbs had
 · obtain ⟨g, cs, rfl, hg, hb, hc, hm, hs, hat⟩ := iz_ ho h0
   exact gh_ w base g n cap cs xs by' add hn h0 hg hb hat hc hm hs dx bn hby had
def bts (s : ByteArray) : List Nat := s.data.toList.map UInt8.toNat
theorem z_ (s : ByteArray) : (bts s).length = s.size := by simp [bts]
theorem bd_ (s : ByteArray) (k : Nat) (h : k < s.size) : (bts s)[k]'(by rw [z_]; exact h) = (s[k]'h).toNat := by
 unfold bts
 rw [List.getElem_map]
 rfl
theorem jg_ (s : ByteArray) : bts s = [48] ↔ s.toList = [48] := by
 rw [ByteArray.toList_eq]
 unfold bts
 generalize s.data.toList = l
 constructor
 · intro h
   obtain ⟨x, rfl⟩ : ∃ x, l = [x] := List.length_eq_one_iff.1 (by have := congrArg List.length h; simpa using this)
   have : x.toNat = 48 := by simpa using h
   have : x = 48 := UInt8.toNat_inj.1 this
   rw [this]
 · intro h; rw [h]; rfl
theorem ft_ (s : ByteArray) : bts s = [] ↔ s.toList = [] := by
 rw [ByteArray.toList_eq]; unfold bts; simp
theorem aO_ (s : ByteArray) (h : 0 < s.size) : (bts s).head? = some (s[0]'h).toNat := by
 have h2 : 0 < (bts s).length := by rw [z_]; exact h
 rw [List.head?_eq_getElem?, List.getElem?_eq_getElem h2, bd_ s 0 h]
def cF_ (l : List Nat) : Prop := (∀ k (h : k < l.length), 48 ≤ l[k] ∧ l[k] ≤ 57) ∧ (l = [48] ∨ (l ≠ [] ∧ l.head? ≠ some 48))
def eR_ (w : World) (s : ByteArray) (e : Ending) (w' : World) : Prop := ∃ b : Bool, e = .returned (.bool b) ∧ (b = true ↔ cF_ (bts s)) ∧ w = w'
theorem jc_ {w : World} {s : ByteArray} (k : Nat) (h : k < s.size) (hx : ¬ (48 ≤ (s[k]'h).toNat ∧ (s[k]'h).toNat ≤ 57)) : eR_ w s (.returned (.bool false)) w := by
 refine ⟨false, rfl, ⟨(fun e => by cases e), fun hd => ?_⟩, rfl⟩
 have := hd.1 k (by rw [z_]; exact h)
 rw [bd_ s k h] at this
 exact absurd this hx
theorem jb_ {w : World} {s : ByteArray} (hd : ∀ j (h : j < s.size), j < s.size → 48 ≤ (s[j]'h).toNat ∧ (s[j]'h).toNat ≤ 57) (b : Bool) (hb : b = true ↔ (s.toList = [48] ∨ (s.toList ≠ [] ∧ (bts s).head? ≠ some 48))) : eR_ w s (.returned (.bool b)) w := by
 refine ⟨b, rfl, ?_, rfl⟩
 rw [hb, ← jg_, ne_eq, ← ft_]
 unfold cF_
 constructor
 · intro h
   refine ⟨fun k hk => ?_, h⟩
   have hk' : k < s.size := by rw [z_] at hk; exact hk
   rw [bd_ s k hk']; exact hd k hk' hk'
 · exact fun h => h.2
set_option maxHeartbeats 2000000 in
theorem el_ (w : World) (s : ByteArray) (hs : s.size ≤ 4096) :
    Calls Tryz.prog 93 #[.string s] w (eR_ w s) := by
 go_enter Tryz.func93, Tryz.ntmps93
 go_wp2_with fail
 go_loopw [6] (fun i wr => ∃ k : Nat, k ≤ s.size ∧ i = .int .i64 k ∧ w = wr ∧ Hid (∀ j (h : j < s.size), j < k → 48 ≤ (s[j]'h).toNat ∧ (s[j]'h).toNat ≤ 57)) (fun i _ => s.size - (intOf i).toNat)
 case atStart => exact ⟨0, Nat.zero_le _, rfl, rfl, fun j h h0 => absurd h0 (by omega)⟩
 case round =>
  obtain ⟨k, hk, rfl, rfl, hd⟩ := hrel
  by_cases hlt : k < s.size
  · obtain ⟨x, ex⟩ : ∃ x, (s[k]'hlt).toNat = x := ⟨_, rfl⟩
    by_cases hx : 48 ≤ x ∧ x ≤ 57
    · have f1 : decide ((x : Int) < 48) = false := decide_eq_false (by omega)
      have f2 : decide ((57 : Int) < (x : Int)) = false := decide_eq_false (by omega)
      go_wp2_with fail
      go_roundw
      case rel =>
       refine ⟨k + 1, by omega, by go_num, by trivial, fun j h hj => ?_⟩
       rcases Nat.lt_or_ge j k with h1 | h1
       · exact hd.out j h h1
       · obtain rfl : j = k := by omega
         rw [ex]; exact hx
      case measure => simp [intOf]; omega
    · have HF : Hid (eR_ w s (.returned (.bool false)) w) := jc_ k hlt (by rw [ex]; exact hx)
      go_wp2_with fail
      all_goals first | (go_ret; exact HF.out) | (exfalso; omega)
  · obtain rfl : k = s.size := by omega
    have HE := H_ (jb_ (w := w) hd.out)
    clear hd
    have hz : s.toList = [] ∨ 0 < s.size := by
     rcases Nat.eq_zero_or_pos s.size with h | h
     · left
       rw [← ft_]
       exact List.length_eq_zero_iff.1 (by rw [z_]; exact h)
     · exact Or.inr h
    rcases hz with hz | hz
    · go_wp2_with fail
      all_goals go_ret
      all_goals exact HE.out _ (by simp [*])
    · have hne : s.toList ≠ [] := by
       intro h
       rw [← ft_] at h
       have := z_ s
       rw [h] at this; simp at this; omega
      have hne2 : s.toList.isEmpty = false := by simpa using hne
      go_wp2_with fail
      all_goals go_ret
      all_goals refine HE.out _ ?_
      all_goals rw [aO_ s hz]
      all_goals simp [*]
      all_goals omega
end Go.Proofs.YtgbbdgioohaknaaGreatDoor
