/- Streams as trees: Field, a copy's body; the document's Field. -/
import Derived.Test.YtpkemijpggpdaaaGA3
import Derived.Test.YtpkemijpggpdaaaGA1
namespace Go.Proofs.Ytpkemijpggpdaaa
open Go.RowKit
set_option maxRecDepth 100000
set_option linter.unusedVariables false
set_option linter.unusedSimpArgs false

/-- A row of bytes of the call's own. -/
def RetClone (w : World) (l : List Nat) (e : Ending) (w' : World) : Prop := ∃ u, e = .returned u ∧ OwnB w' w.heap.size u l ∧ w.grownBy w' none
set_option maxHeartbeats 16000000 in
theorem CloneO_any (w : World) (s : Option Addr) (n cap : Nat) (l : List Nat) (hn : l.length = n) (hl : BySl w s l) (hz : s = none → n = 0 ∧ cap = 0) (h64 : n ≤ 140737488355328) :
    Calls Try.prog 44 #[.slice s n cap] w (RetClone w l) := by
  cases s with
  | none =>
    obtain ⟨rfl, rfl⟩ := hz rfl
    obtain rfl := List.length_eq_zero_iff.1 hn
    have heq : ∀ W, (binOp .eql 22 (.slice none 0 0) (.slice none 0 0)).run Try.prog W = .ok (.bool true) W := fun _ => by kernel_rfl
    go_enter Try.func44, Try.ntmps44
    go_wp2_with fail
    go_ret
    exact ⟨_, rfl, OwnB.nil _ _, grown_refl _ _⟩
  | some a =>
    obtain ⟨i1, hi, hz0, hz1, hz2⟩ := info_partsU
    have hG := World.grownBy_alloc w (.cells #[] 5) none
    have HO := Lib.hid (own_empty w)
    have hs1 : (w.alloc (.cells #[] 5)).heap.size = w.heap.size + 1 := by simp
    have HSZ := Lib.hid hs1
    clear hs1
    have HW : Hid (∀ j u, (bvs l)[j]? = some u → (w.alloc (.cells #[] 5)).cell? (a.add j) = some u) := Lib.hid fun j u hj => hG.cell (hl.news j u hj) (by simp)
    have HB63 : Hid (0 + n ≤ maxLen) := Lib.hid (by unfold maxLen; omega)
    have HLN : Hid ((bvs l).length = n * 1) := Lib.hid (by rw [bvs_len, hn, Nat.mul_one])
    have HBS : Hid (w.heap.size ≤ (w.alloc (.cells #[] 5)).heap.size) := Lib.hid hG.size
    have HL := Lib.hid hl
    have HN := Lib.hid hn
    clear hl hn
    have heq : ∀ W, (binOp .eql 22 (.slice (some a) n cap) (.slice none 0 0)).run Try.prog W = .ok (.bool false) W := fun _ => by kernel_rfl
    go_enter Try.func44, Try.ntmps44
    go_wp2_with (at_builtin; refine wpList_own_some rfl (.tmp 5) (.tmp 6) 22 rfl w.heap.size 5 i1 (.int .u8 0) 1 1 Try.underlying22 hi hz0 hz1 hz2 rfl (by decide) (.slice (some ⟨w.heap.size, 0, none⟩) 0 0) 0 [] rfl HO.out a n cap (bvs l) rfl HLN.out HW.out (bvs_one l) HB63.out (by omega) HBS.out (Or.inl (by simp)) n (Nat.zero_add _) ?_)
    intro g c1 w1 hown1 hgrow1 hb1 hc1 hm1
    have hg1 : w.grownBy w1 none := grown_new (g := w.heap.size) hG hgrow1 (Nat.le_refl _)
    have hF : Hid (RetClone w l (.returned (.slice (some ⟨g, 0, none⟩) n c1)) w1) := Lib.hid ⟨_, rfl, ⟨by rw [HN.out]; exact hown1, HL.out.2⟩, hg1⟩
    clear hown1 hgrow1 hg1 HL HN HW HLN HO
    go_wp2_with fail
    go_ret
    exact hF.out
/-- A record whose body is new. -/
def RecOwn (W : World) (base : Nat) (u : Value) (r : KRec) : Prop := ∃ b, u = .agg #[.int .u8 (r.1 : Int), .int .u8 (r.2.1 : Int), b] ∧ OwnB W base b r.2.2
def RetOwnF (w : World) (x : Bool × KRec) (e : Ending) (w' : World) : Prop := ∃ u, e = .returned (.tuple #[u, .bool x.1]) ∧ RecOwn w' w.heap.size u x.2 ∧ w.grownBy w' none
theorem field_siz {rs : List KRec} {kd : Nat} (h : ∀ r ∈ rs, r.2.2.length ≤ 140737488351232) : (fieldD rs kd).2.2.2.length ≤ 140737488351232 := by
  unfold fieldD
  split
  · rename_i r hr; exact h r (List.mem_of_find?_eq_some hr)
  · exact Nat.zero_le _
theorem OwnB.base {W : World} {b b' : Nat} {v : Value} {l : List Nat} (h : OwnB W b v l) (hb : b' ≤ b) : OwnB W b' v l := by
  obtain ⟨⟨k1, k2⟩, k3⟩ := h
  refine ⟨⟨k1, ?_⟩, k3⟩
  rcases k2 with h | ⟨g, cap', cur, e, hg', hr⟩
  · exact Or.inl h
  · exact Or.inr ⟨g, cap', cur, e, Nat.le_trans hb hg', hr⟩
theorem OwnB.past {W W' : World} {base g : Nat} {v : Value} {l : List Nat} (h : OwnB W base v l) (hg : W.grownBy W' (some g)) (hb : g < base) : OwnB W' base v l := by
  refine ⟨h.1.kept hg ?_, h.2⟩
  rcases h.1.2 with ⟨e, _⟩ | ⟨q, cap', cur, e, hq, _⟩
  · left; rw [e]; rfl
  · right; rw [e]; intro h2; have h3 : q = g := Option.some.inj h2; omega
set_option maxHeartbeats 16000000 in
theorem Field_any (w : World) (u0 u1 : Value) (rs : List KRec) (kd : Nat) (hv : RecsV w u0 rs) (hz : ∀ r ∈ rs, r.2.2.length ≤ 140737488351232) (h1 : ∃ s n c, u1 = .slice s n c) :
    Calls Try.prog 23 #[.agg #[u0, u1], .int .u8 (kd : Int)] w (RetOwnF w (fieldD rs kd)) := by
  obtain ⟨s1, n1, c1, rfl⟩ := h1
  obtain ⟨s0, c0, rfl, _⟩ := hv.shape
  obtain ⟨n0, hn0⟩ : ∃ n, rs.length = n := ⟨_, rfl⟩
  rw [hn0] at hv ⊢
  have g1 := World.grownBy_alloc w (.cells #[.slice s0 n0 c0, .slice s1 n1 c1] 55) none
  have b1 := heap_new w (.cells #[.slice s0 n0 c0, .slice s1 n1 c1] 55) w.heap.size rfl
  have g2 := World.grownBy_alloc (w.alloc (.cells #[.slice s0 n0 c0, .slice s1 n1 c1] 55)) (.cells #[.int .u8 0, .int .u8 0, .slice none 0 0] 45) none
  have b2 := heap_new (w.alloc (.cells #[.slice s0 n0 c0, .slice s1 n1 c1] 55)) (.cells #[.int .u8 0, .int .u8 0, .slice none 0 0] 45) (w.heap.size + 1) (by simp)
  replace b1 := heap_kept g2 b1
  have HG := Lib.hid (grown_trans g1 g2)
  have HV := Lib.hid hv
  have HZ := Lib.hid (field_siz (kd := kd) hz)
  have HB2 := Lib.hid b2
  obtain ⟨C0, C1, _, _⟩ := box_cells2 b1
  clear hv hz hn0 g1 g2 b1 b2
  go_enter Try.func23, Try.ntmps23
  go_wp2_with fail
  generalize ((w.alloc (.cells #[.slice s0 n0 c0, .slice s1 n1 c1] 55)).alloc (.cells #[.int .u8 0, .int .u8 0, .slice none 0 0] 45)) = wa at *
  refine (First_any7 wa wa _ rs kd (HV.out.kept HG.out) (grown_refl _ _)).mono ?_
  obtain ⟨⟨bo, kr, dt, bd⟩, hx⟩ : ∃ x, fieldD rs kd = x := ⟨_, rfl⟩
  rw [hx] at HZ ⊢
  have HX := Lib.hid hx
  clear hx
  rintro e w1 ⟨u, rfl, ⟨sb, cb, rfl, hy, hok⟩, hg1⟩
  dsimp only at hy hok HZ ⊢
  obtain ⟨m, hm⟩ : ∃ m, bd.length = m := ⟨_, rfl⟩
  rw [hm] at hok HZ ⊢
  have gA := World.grownBy_alloc w1 (.cells #[.int .u8 (kr : Int), .int .u8 (dt : Int), .slice sb m cb] 45) none
  have b3 := heap_new w1 (.cells #[.int .u8 (kr : Int), .int .u8 (dt : Int), .slice sb m cb] 45) w1.heap.size rfl
  obtain ⟨D0, D1, D2, _⟩ := box_cells3 b3
  have hsz : w.heap.size + 1 < w1.heap.size := by
    have h2 := hg1.size
    obtain ⟨h3, _⟩ := Array.getElem?_eq_some_iff.1 HB2.out
    omega
  have HY := Lib.hid (hy.kept (grown_trans hg1 gA))
  have HM := Lib.hid hm
  have HG1 := Lib.hid (grown_trans HG.out (grown_trans hg1 gA))
  have HB3 := Lib.hid b3
  have HB4 := Lib.hid (heap_kept (grown_trans hg1 gA) HB2.out)
  clear hy hm hg1 gA b3 C0 C1
  go_wp2_with fail
  generalize (w1.alloc (.cells #[.int .u8 (kr : Int), .int .u8 (dt : Int), .slice sb m cb] 45)) = w2 at *
  refine (CloneO_any w2 sb m cb bd HM.out HY.out hok.1 (by have := HZ.out; omega)).mono ?_
  rintro e w3 ⟨b, rfl, hO, hg3⟩
  obtain ⟨s5, c5, rfl, _⟩ := hO.shape
  have hO2 := hO
  rw [HM.out] at hO2 ⊢
  have HO := Lib.hid hO2
  have hB5 := heap_kept hg3 HB3.out
  have hB6 := heap_kept hg3 HB4.out
  obtain ⟨E0, E1, E2, F0, F1, F2⟩ := box_cells3 hB5
  obtain ⟨G0, G1, G2, K0, K1, K2⟩ := box_cells3 hB6
  have HG3 := Lib.hid (grown_trans HG1.out hg3)
  have hB7 : (w3.setCell ⟨w1.heap.size, 2, none⟩ (.slice s5 m c5)).heap[w1.heap.size]? = some (.cells #[.int .u8 (kr : Int), .int .u8 (dt : Int), .slice s5 m c5] 45 (0, 0)) := by
    simp [World.setCell, Array.getElem?_modify, hB5]
  have hB8 : (w3.setCell ⟨w1.heap.size, 2, none⟩ (.slice s5 m c5)).heap[w.heap.size + 1]? = some (.cells #[.int .u8 0, .int .u8 0, .slice none 0 0] 45 (0, 0)) := heap_unset hB6 (by omega) _
  have hg7 : w3.grownBy (w3.setCell ⟨w1.heap.size, 2, none⟩ (.slice s5 m c5)) (some w1.heap.size) := grown_set (grown_refl _ _) 2 _
  have hG7 : w.grownBy (w3.setCell ⟨w1.heap.size, 2, none⟩ (.slice s5 m c5)) none := grown_new (g := w1.heap.size) HG3.out hg7 (by omega)
  have hlt3 : w1.heap.size < w2.heap.size := (Array.getElem?_eq_some_iff.1 HB3.out).1
  have hO4 := (HO.out.past hg7 hlt3).base (b' := w.heap.size) (by omega)
  obtain ⟨M0, M1, M2, _⟩ := box_cells3 hB7
  obtain ⟨N0, N1, N2, P0, P1, P2⟩ := box_cells3 hB8
  obtain ⟨gp, hp⟩ := put_rec (g := w.heap.size + 1) hG7 (Nat.le_succ _) hB8 (.int .u8 (kr : Int)) (.int .u8 (dt : Int)) (.slice s5 m c5)
  obtain ⟨R0, R1, R2, _⟩ := box_cells3 hp
  have g9 : (w3.setCell ⟨w1.heap.size, 2, none⟩ (.slice s5 m c5)).grownBy ((((w3.setCell ⟨w1.heap.size, 2, none⟩ (.slice s5 m c5)).setCell ⟨w.heap.size + 1, 0, none⟩ (.int .u8 (kr : Int))).setCell ⟨w.heap.size + 1, 1, none⟩ (.int .u8 (dt : Int))).setCell ⟨w.heap.size + 1, 2, none⟩ (.slice s5 m c5)) (some (w.heap.size + 1)) := grown_set (grown_set (grown_set (grown_refl _ _) 0 _) 1 _) 2 _
  have hO5 := ((HO.out.past hg7 hlt3).past g9 (by omega)).base (b' := w.heap.size) (by omega)
  have HF : Hid (RetOwnF w (fieldD rs kd) (.returned (.tuple #[.agg #[.int .u8 (kr : Int), .int .u8 (dt : Int), .slice s5 m c5], .bool bo])) _) := Lib.hid (by rw [HX.out]; exact ⟨_, rfl, ⟨_, rfl, hO5⟩, gp⟩)
  clear hG7 hO4 hO5 g9 gp hp hB5 hB6 hB7 hB8 hg7 hg3
  go_wp2_with fail
  exact bodyPost_ret (v := .tuple #[.agg #[.int .u8 (kr : Int), .int .u8 (dt : Int), .slice s5 m c5], .bool bo]) (by simp [results, Try.results23, go_sem, R0, R1, R2]) rfl HF.out
end Go.Proofs.Ytpkemijpggpdaaa
