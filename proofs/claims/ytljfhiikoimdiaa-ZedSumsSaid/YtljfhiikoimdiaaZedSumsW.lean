/- ZedSums: the sum of any number of parts is the document's. -/
import Derived.Test.YtljfhiikoimdiaaZSumsL
import Derived.Deep.RegionHeld3
import Derived.Deep.LoopGhost
import Derived.Deep.CutRange
import Derived.Deep.AppendLies
import Derived.Laws.AppendOwnNone
import Derived.OwnWalk
namespace Go.Proofs.Ytljfhiikoimdiaa
open Go.RowKit Mat
set_option maxRecDepth 100000
set_option linter.unusedVariables false
set_option linter.unusedSimpArgs false

def BoxR (W : World) (p : Nat) (z : Int) : Prop := ∃ u0 u1, W.heap[p]? = some (.cells #[u0, u1] 34 (0, 0)) ∧ RIntV W (.agg #[u0, u1]) z
theorem BoxR.open {W : World} {p : Nat} {z : Int} (h : BoxR W p z) : ∃ (g : Int) (s : Option Addr) (l c : Nat), W.heap[p]? = some (.cells #[.int .i64 g, .slice s l c] 34 (0, 0)) ∧ RIntV W (.agg #[.int .i64 g, .slice s l c]) z := by
  obtain ⟨u0, u1, h1, h2⟩ := h
  obtain ⟨g, s, l, c, e, h3⟩ := h2
  cases e
  exact ⟨g, s, l, c, h1, g, s, l, c, rfl, h3⟩
theorem OwnI.cast {W : World} {base n m : Nat} {v : Value} {zs : List Int} (h : OwnI W base v n zs) (e : n = m) : OwnI W base v m zs := by subst e; exact h
theorem OwnI.shape {W : World} {base n : Nat} {v : Value} {zs : List Int} (h : OwnI W base v n zs) : ∃ s c, v = .slice s n c := by
  obtain ⟨xs, ⟨h0, h1⟩, h2, h3, h4⟩ := h
  rcases h1 with ⟨e, e2⟩ | ⟨g, cap', cur, e, _⟩
  · subst e2; exact ⟨_, _, e⟩
  · exact ⟨_, _, e⟩
theorem OwnI.setr {W : World} {base n p : Nat} {v a0 a1 : Value} {zs : List Int} (h : OwnI W base v n zs) (hb : W.heap[p]? = some (.cells #[a0, a1] 34 (0, 0))) (v0 v1 : Value) : OwnI ((W.setCell ⟨p, 0, none⟩ v0).setCell ⟨p, 1, none⟩ v1) base v n zs := by
  obtain ⟨xs, ⟨h0, h1⟩, h2, h3, h4⟩ := h
  refine ⟨xs, ⟨h0, ?_⟩, h2, h3, fun i h => ?_⟩
  · rcases h1 with e | ⟨g, cap', cur, e, hg, hc, hr⟩
    · exact Or.inl e
    · refine Or.inr ⟨g, cap', cur, e, hg, heap_unset2 hc (fun e => ?_) v0 v1, hr⟩
      subst e; rw [hb] at hc; cases hc
  · obtain ⟨u0, u1, a1', a2, a3⟩ := h4 i h
    exact ⟨u0, u1, a1', a2, (a3.set_other hb (by decide) 0 v0).set_other (heap_setfst hb v0) (by decide) 1 v1⟩
theorem OwnI.lt {W : World} {base n : Nat} {v : Value} {zs : List Int} (h : OwnI W base v n zs) (g : Nat) (e : v.ownBlock = some g) : g < W.heap.size := by
  obtain ⟨xs, ⟨h0, h1⟩, _⟩ := h
  rcases h1 with ⟨e2, _⟩ | ⟨g', cap', cur, e2, hg, hc, hr⟩
  · subst e2; cases e
  · subst e2; cases e; exact (Array.getElem?_eq_some_iff.1 hc).1
theorem news_of {W : World} {base n g cap : Nat} {xs : List Value} (h : W.ownsRow base 26 2 (.slice (some ⟨g, 0, none⟩) n cap) n xs) : ∀ j u, xs[j]? = some u → W.cell? ((⟨g, 0, none⟩ : Addr).add j) = some u := h.cells (g := g) rfl
def Lesser (M : Nat) (zs : List Int) : Prop := ∀ z ∈ zs, z.natAbs < M
theorem Lesser.snoc {M : Nat} {zs : List Int} {z : Int} (h : Lesser M zs) (hz : z.natAbs < M) : Lesser M (zs ++ [z]) := by
  intro x hx
  rcases List.mem_append.1 hx with h1 | h1
  · exact h x h1
  · simp at h1; subst h1; exact hz
theorem Lesser.rev {M : Nat} {zs : List Int} (h : Lesser M zs) : Lesser M zs.reverse := fun x hx => h x (List.mem_reverse.1 hx)
theorem isum_all {zs : List Int} {K : Nat} (h : Lesser (B ^ K) zs) (hn : zs.length ≤ 1000) : (isum zs).natAbs < B ^ (K + 1) := by
  have := isum_lt h hn zs.length (Nat.le_refl _)
  rw [List.take_length] at this; exact this
def Kept (u v : Value) : Prop := ∀ g, u.ownBlock = some g → v.ownBlock ≠ some g
set_option maxHeartbeats 32000000 in
theorem zedSums_walk (w : World) (sl : Option Addr) (len cap : Nat) (ss : Nat → ByteArray) (hlen : len ≤ maxLen) (hcs : len = 0 ∨ ∃ a, sl = some a ∧ ∀ i, i < len → w.cell? (a.add i) = some (.string (ss i))) :
    Calls Try.prog 8 #[.slice sl len cap] w (fun e w' => e = .returned (.bool true) ∧ w.grownBy w' none) := by
  unfold maxLen at hlen
  obtain ⟨i1, hi, hz0, hz1, hz2⟩ := info_partsZ
  have hG1 := World.grownBy_alloc w (.cells #[.int .i64 0, .slice none 0 0] 34) none
  have Bk1 := heap_new w (.cells #[.int .i64 0, .slice none 0 0] 34) w.heap.size rfl
  have hsz1 : (w.alloc (.cells #[.int .i64 0, .slice none 0 0] 34)).heap.size = w.heap.size + 1 := by simp
  have HG1 := Lib.hid hG1
  have HB1 := Lib.hid Bk1
  have HSZ := Lib.hid hsz1
  have HCS : Hid (len = 0 ∨ ∃ a, sl = some a ∧ ∀ i, i < len → w.cell? (a.add i) = some (.string (ss i))) := hcs
  clear hG1 Bk1 hsz1 hcs
  go_enter Try.func8, Try.ntmps8
  go_wp2_with fail
  generalize (w.alloc (.cells #[.int .i64 0, .slice none 0 0] 34)) = w1 at *
  go_loopg [3, 4, 6] len (fun gh va vb i wr => ∃ (k : Nat) (zs : List Int), k ≤ len ∧ k ≤ 40 ∧ len - k ≤ gh ∧ i = .int .i64 (k : Int) ∧ OwnI wr (w.heap.size + 1) va k zs ∧ OwnI wr (w.heap.size + 1) vb k zs.reverse ∧ Hid (Kept vb va) ∧ Hid (k = 0 → vb = .slice none 0 0) ∧ BoxR wr w.heap.size (isum zs) ∧ Hid (Lesser (B ^ 8) zs) ∧ w.grownBy wr none ∧ Hid (w.heap.size + 1 ≤ wr.heap.size))
  case atStart => exact ⟨0, [], Nat.zero_le _, by omega, by omega, rfl, OwnI.nil _ _, OwnI.nil _ _, (fun g e => by cases e), (fun _ => rfl), ⟨_, _, HB1.out, RIntV.zero _⟩, (fun z hz => by cases hz), HG1.out, by show _ ≤ _; rw [HSZ.out]; exact Nat.le_refl _⟩
  case round =>
    obtain ⟨k, zs, hk, hk4, hgh, rfl, Ia, Ib, HAP, HNB, Kk, HLS, hG, HBS⟩ := hrel
    obtain ⟨gk, sk, lk, ck, Bk, rk⟩ := Kk.open
    have hzl : zs.length = k := by obtain ⟨xs, _, h, _⟩ := Ia; exact h
    have HZL := Lib.hid hzl
    clear hzl
    have LSUM := Lib.hid (isum_all HLS.out (show zs.length ≤ 1000 by rw [HZL.out]; omega))
    by_cases hlt : k < len ∧ k < 40
    · skip
      obtain ⟨hl1, hl2⟩ := hlt
      obtain ⟨a, rfl, hc⟩ := HCS.out.resolve_left (by omega)
      have f1 : decide (k < len) = true := decide_eq_true hl1
      have f2 : decide ((k : Int) < 40) = true := decide_eq_true (by omega)
      have f3 : decide ((k : Int) < (len : Int)) = true := decide_eq_true (by omega)
      have HC := Lib.hid (hc k hl1)
      clear hc
      obtain ⟨s, hs⟩ : ∃ s, ss k = s := ⟨_, rfl⟩
      rw [hs] at HC
      clear hs
      obtain ⟨A1, o1, lA1, p1⟩ := one_val s
      have P1 := Lib.hid p1
      clear p1
      have cs0 := hG.cell HC.out (by simp)
      obtain ⟨Ck0, Ck1, Fk0, Fk1⟩ := box_cells Bk
      go_wp2_with fail
      clear cs0
      clear Ck0 Fk0 Ck1 Fk1
      refine (P1.out wr).mono ?_
      rintro e rw1 ⟨_, _, rfl, ⟨sa, xa, ba, rfl, ha, va, ta⟩, ⟨gx, sx, lx, cx, rfl, hx, mx⟩, grw1⟩
      have ia : IntV rw1 (.agg #[.slice sa xa.length xa.length, .bool ba]) (A1) := ⟨sa, xa, ba, rfl, ha, va, ta⟩
      have rx : RIntV rw1 (.agg #[.int .i64 gx, .slice sx lx cx]) (A1) := ⟨gx, sx, lx, cx, rfl, hx, mx⟩
      replace Bk := heap_kept grw1 Bk
      replace Ia := Ia.kept grw1
      replace Ib := Ib.kept grw1
      replace rk := rk.kept grw1
      replace hG := grown_trans hG grw1
      clear grw1
      clear ha va ta
      clear mx
      obtain ⟨Ck0, Ck1, Fk0, Fk1⟩ := box_cells Bk
      have HLT := Lib.hid Ia.lt
      have gbrw1 := (grown_alloc (World.grownBy_alloc rw1 (.cells #[.slice sa xa.length xa.length, .bool ba] 26) none) (.cells #[.int .i64 gx, .slice sx lx cx] 34))
      have Ba := heap_kept (World.grownBy_alloc _ (.cells #[.int .i64 gx, .slice sx lx cx] 34) none) (heap_new rw1 (.cells #[.slice sa xa.length xa.length, .bool ba] 26) (rw1.heap.size) rfl)
      have Bx := (heap_new (rw1.alloc (.cells #[.slice sa xa.length xa.length, .bool ba] 26)) (.cells #[.int .i64 gx, .slice sx lx cx] 34) (rw1.heap.size + 1) (by simp))
      have hzrw1 : Hid (w.heap.size ≤ rw1.heap.size) := Lib.hid hG.size
      have hlkrw1 : Hid (w.heap.size < rw1.heap.size) := Lib.hid (Array.getElem?_eq_some_iff.1 Bk).1
      clear Ck0 Fk0 Ck1 Fk1
      replace Bk := heap_kept gbrw1 Bk
      replace Ia := Ia.kept gbrw1
      replace Ib := Ib.kept gbrw1
      replace rk := rk.kept gbrw1
      replace ia := ia.kept gbrw1
      replace rx := rx.kept gbrw1
      replace hG := grown_trans hG gbrw1
      clear gbrw1
      obtain ⟨Ck0, Ck1, Fk0, Fk1⟩ := box_cells Bk
      obtain ⟨Ca0, Ca1, Fa0, Fa1⟩ := box_cells Ba
      obtain ⟨Cx0, Cx1, Fx0, Fx1⟩ := box_cells Bx
      have cs0 := hG.cell HC.out (by simp)
      cases o1
      · skip
        go_wp2_with fail
        generalize ((rw1.alloc (.cells #[.slice sa xa.length xa.length, .bool ba] 26)).alloc (.cells #[.int .i64 gx, .slice sx lx cx] 34)) = rw2 at *
        generalize rw1.heap.size = arw1 at *
        replace hzrw1 := hzrw1.out
        replace hlkrw1 := hlkrw1.out
        clear Ck0 Fk0 Ck1 Fk1 Ca0 Fa0 Ca1 Fa1 Cx0 Fx0 Cx1 Fx1
        refine (known_any rw2).mono ?_
        rintro e rnw3 ⟨rfl, grnw3⟩
        replace Bk := heap_kept grnw3 Bk
        replace Ba := heap_kept grnw3 Ba
        replace Bx := heap_kept grnw3 Bx
        replace Ia := Ia.kept grnw3
        replace Ib := Ib.kept grnw3
        replace rk := rk.kept grnw3
        replace ia := ia.kept grnw3
        replace rx := rx.kept grnw3
        replace hG := grown_trans hG grnw3
        clear grnw3
        obtain ⟨Ck0, Ck1, Fk0, Fk1⟩ := box_cells Bk
        obtain ⟨Ca0, Ca1, Fa0, Fa1⟩ := box_cells Ba
        obtain ⟨Cx0, Cx1, Fx0, Fx1⟩ := box_cells Bx
        try clear cs0
        have cs0 := hG.cell HC.out (by simp)
        go_wp2_with fail
        clear Ck0 Fk0 Ck1 Fk1 Ca0 Fa0 Ca1 Fa1 Cx0 Fx0 Cx1 Fx1
        refine (apart_any rnw3 s).mono ?_
        rintro e rnw4 ⟨rfl, grnw4⟩
        replace Bk := heap_kept grnw4 Bk
        replace Ba := heap_kept grnw4 Ba
        replace Bx := heap_kept grnw4 Bx
        replace Ia := Ia.kept grnw4
        replace Ib := Ib.kept grnw4
        replace rk := rk.kept grnw4
        replace ia := ia.kept grnw4
        replace rx := rx.kept grnw4
        replace hG := grown_trans hG grnw4
        clear grnw4
        obtain ⟨Ck0, Ck1, Fk0, Fk1⟩ := box_cells Bk
        obtain ⟨Ca0, Ca1, Fa0, Fa1⟩ := box_cells Ba
        obtain ⟨Cx0, Cx1, Fx0, Fx1⟩ := box_cells Bx
        go_wp2_with fail
        go_ret
        exact ⟨by first | rfl | simp, hG⟩
      · skip
        clear cs0
        obtain ⟨xs, hown, hxl, hx1, hxe⟩ := Ia
        have hxs := hown.1
        have gL := World.grownBy_alloc ((rw1.alloc (.cells #[.slice sa xa.length xa.length, .bool ba] 26)).alloc (.cells #[.int .i64 gx, .slice sx lx cx] 34)) (.cells #[.slice sa xa.length xa.length, .bool ba] 26) none
        have hown1 := ownsZ_kept hown gL
        have hnews : ∀ j u, ([.slice sa xa.length xa.length, .bool ba] : List Value)[j]? = some u → (((rw1.alloc (.cells #[.slice sa xa.length xa.length, .bool ba] 26)).alloc (.cells #[.int .i64 gx, .slice sx lx cx] 34)).alloc (.cells #[.slice sa xa.length xa.length, .bool ba] 26)).cell? ((⟨((rw1.alloc (.cells #[.slice sa xa.length xa.length, .bool ba] 26)).alloc (.cells #[.int .i64 gx, .slice sx lx cx] 34)).heap.size, 0, none⟩ : Addr).add j) = some u := World.news_of_block (heap_alloc_new ((rw1.alloc (.cells #[.slice sa xa.length xa.length, .bool ba] 26)).alloc (.cells #[.int .i64 gx, .slice sx lx cx] 34)) _)
        have hsE : ((rw1.alloc (.cells #[.slice sa xa.length xa.length, .bool ba] 26)).alloc (.cells #[.int .i64 gx, .slice sx lx cx] 34)).heap.size = rw1.heap.size + 1 + 1 := by simp
        rw [hsE] at hnews
        clear hsE
        have hor := one_row ia
        have HOR := Lib.hid hor.1
        clear hor
        have hbase : w.heap.size + 1 ≤ (((rw1.alloc (.cells #[.slice sa xa.length xa.length, .bool ba] 26)).alloc (.cells #[.int .i64 gx, .slice sx lx cx] 34)).alloc (.cells #[.slice sa xa.length xa.length, .bool ba] 26)).heap.size := by have h1 := heap_lt Ba; have h2 := heap_lt Bk; have := (gL.4); omega
        have HXE := Lib.hid hxe
        have HXS := Lib.hid hxs
        have HXL := Lib.hid hxl
        have HX1 := Lib.hid hx1
        replace Ba := heap_kept gL Ba
        replace Bx := heap_kept gL Bx
        replace Bk := heap_kept gL Bk
        replace ia := ia.kept gL
        replace rx := rx.kept gL
        replace rk := rk.kept gL
        replace Ib := Ib.kept gL
        have HGL := Lib.hid gL
        replace hG := grown_trans hG gL
        clear gL hown hxe hxs hxl hx1
        go_upto_region 10 with (at_builtin; refine wpList_append_lies _ rfl _ _ _ rfl (w.heap.size + 1) 26 i1 (.agg #[.slice none 0 0, .bool false]) 2 32 Try.underlying65 hi hz0 hz1 hz2 rfl (by omega) u3 k xs rfl hown1 ⟨rw1.heap.size + 1 + 1, 0, none⟩ 1 1 [.slice sa xa.length xa.length, .bool ba] rfl rfl hnews HOR.out (by omega) (by unfold maxLen; omega) (by omega) hbase (rw1.heap.size + 1 + 1 + 1) (by simp) ?_; intro g2 cap2 w5 hown5 hgrow hat9 hlt9)
        have hne : u3.ownBlock ≠ some rw1.heap.size := fun e => by have := HLT.out _ e; omega
        have Ba5 := heap_own hown1 hgrow Ba hne
        have Bx5 := heap_own hown1 hgrow Bx (own_type hown1 Bx (by decide))
        have Bk5 := heap_own hown1 hgrow Bk (own_type hown1 Bk (by decide))
        have ia5 := ia.own hown1 hgrow
        have rx5 := rx.own hown1 hgrow
        have rk5 := rk.own hown1 hgrow
        have Ib5 := Ib.own hown1 hgrow HAP.out
        have hG5 := grown_own hG hown1 hgrow (Nat.le_succ _)
        have Ia5 : OwnI w5 (w.heap.size + 1) (.slice (some ⟨g2, 0, none⟩) (k + 1) cap2) (k + 1) (zs ++ [A1]) := by
          refine OwnI.mk hown5 (by rw [HXS.out, HXL.out]) (by rw [HXL.out]; rfl) HX1.out HOR.out (fun i h => ?_) (one_row ia5).2
          obtain ⟨v0, v1, b1, b2, b3⟩ := HXE.out i h
          exact ⟨v0, v1, b1, b2, (b3.kept HGL.out).own hown1 hgrow⟩
        have hsz5 : w.heap.size + 1 ≤ w5.heap.size := heap_lt Bk5
        have HG2 : Hid (g2 < w5.heap.size) := hlt9
        clear hown1 hgrow hown5 hat9 hlt9 Ba Bx Bk ia rx rk Ib hG hnews hbase hne HGL HXE HXS HX1 HOR HXL HLT HAP
        have gM := World.grownBy_alloc w5 (.cells #[.slice sa xa.length xa.length, .bool ba] 26) none
        have hown2 : (w5.alloc (.cells #[.slice sa xa.length xa.length, .bool ba] 26)).ownsRow (w.heap.size + 1) 26 2 (.slice (some ⟨w5.heap.size, 0, none⟩) 1 1) 1 [.slice sa xa.length xa.length, .bool ba] := own_oneZ rfl hsz5
        obtain ⟨Ca0, Ca1, Fa0, Fa1⟩ := box_cells Ba5
        have ho1 := one_row ia5
        have HO1 := Lib.hid ho1.1
        clear ho1
        rcases Nat.eq_zero_or_pos k with hk0 | hk0
        · skip
          have hnb := HNB.out hk0
          subst hk0
          subst hnb
          obtain rfl : zs = [] := List.length_eq_zero_iff.1 HZL.out
          go_upto_region 11 with (at_builtin; refine wpList_append_own_none _ rfl _ _ _ rfl (w.heap.size + 1) 26 i1 2 Try.underlying65 hi (.slice (some ⟨w5.heap.size, 0, none⟩) 1 1) 1 [.slice sa xa.length xa.length, .bool ba] rfl hown2 rfl ?_)
          have Ib : OwnI (w5.alloc (.cells #[.slice sa xa.length xa.length, .bool ba] 26)) (w.heap.size + 1) (.slice (some ⟨w5.heap.size, 0, none⟩) 1 1) (0 + 1) ([] ++ [A1]).reverse := ⟨_, hown2, rfl, HO1.out, (one_row (ia5.kept gM)).2⟩
          have Ia := Ia5.kept gM
          have Bx := heap_kept gM Bx5
          have Bk := heap_kept gM Bk5
          have rx := rx5.kept gM
          have rk := rk5.kept gM
          have hG := grown_trans hG5 gM
          have HKP : Hid (Kept (.slice (some ⟨w5.heap.size, 0, none⟩) 1 1) (.slice (some ⟨g2, 0, none⟩) (0 + 1) cap2)) := fun g e e2 => by
            have h1 : w5.heap.size = g := Option.some.inj e
            have h2 : g2 = g := Option.some.inj e2
            have h3 := HG2.out
            omega
          clear Ca0 Ca1 Fa0 Fa1 Ia5 Ib5 Bx5 Bk5 rx5 rk5 hG5 Ba5 hown2 gM ia5
          generalize (w5.alloc (.cells #[.slice sa xa.length xa.length, .bool ba] 26)) = w6 at *
          generalize w5.heap.size = H5 at *
          obtain ⟨Ck0, Ck1, Fk0, Fk1⟩ := box_cells Bk
          obtain ⟨Cx0, Cx1, Fx0, Fx1⟩ := box_cells Bx
          go_wp2_with fail
          clear Ck0 Fk0 Ck1 Fk1 Cx0 Fx0 Cx1 Fx1
          refine (rZAdd_any w6 _ _ (isum []) A1 rk rx (toD LSUM.out (by omega)) (toD lA1 (by omega))).mono ?_
          rintro e ryzw3 ⟨_, rfl, ⟨gd, sd, ld, cd, rfl, hd, md⟩, gryzw3⟩
          have rd : RIntV ryzw3 (.agg #[.int .i64 gd, .slice sd ld cd]) (isum [] + A1) := ⟨gd, sd, ld, cd, rfl, hd, md⟩
          replace Bk := heap_kept gryzw3 Bk
          replace Bx := heap_kept gryzw3 Bx
          replace rk := rk.kept gryzw3
          replace rx := rx.kept gryzw3
          replace Ia := Ia.kept gryzw3
          replace Ib := Ib.kept gryzw3
          replace hG := grown_trans hG gryzw3
          clear gryzw3
          clear md
          obtain ⟨Ck0, Ck1, Fk0, Fk1⟩ := box_cells Bk
          obtain ⟨Cx0, Cx1, Fx0, Fx1⟩ := box_cells Bx
          have K9 : BoxR _ w.heap.size (isum ([] ++ [A1])) := ⟨_, _, heap_set2 Bk (.int .i64 gd) (.slice sd ld cd), by rw [isum_app]; exact (rd.set_other Bk (by decide) 0 _).set_other (heap_setfst Bk _) (by decide) 1 _⟩
          have G9 := grown_two hG (Nat.le_refl w.heap.size) (.int .i64 gd) (.slice sd ld cd)
          have A9 := Ia.setr Bk (.int .i64 gd) (.slice sd ld cd)
          have B9 := Ib.setr Bk (.int .i64 gd) (.slice sd ld cd)
          have S9 := heap_lt (heap_set2 Bk (.int .i64 gd) (.slice sd ld cd))
          have HK9 := Lib.hid K9
          clear K9
          have HG9 := Lib.hid G9
          clear G9
          have HA9 := Lib.hid A9
          clear A9
          have HB9 := Lib.hid B9
          clear B9
          have HS9 := Lib.hid S9
          clear S9
          clear rk rx Ia Ib rd hG
          go_wp2_with fail
          go_roundg (len - (0 + 1))
          case measure => omega
          case rel => exact ⟨0 + 1, [] ++ [A1], by omega, by omega, Nat.le_refl _, by go_num, HA9.out, HB9.out, HKP.out, (fun h => by omega), HK9.out, HLS.out.snoc lA1, HG9.out, HS9.out⟩
        · skip
          obtain ⟨ys, hob, hbl, hb1, hbe⟩ := Ib5
          obtain ⟨gb, capb, rfl⟩ : ∃ gb capb, u4 = .slice (some ⟨gb, 0, none⟩) k capb := by
            rcases hob.2 with ⟨_, e⟩ | ⟨g, cp, cur, e, _⟩
            · omega
            · exact ⟨g, cp, e⟩
          have hyl := hob.1
          have hnb := news_of (ownsZ_kept hob gM)
          have HBE := Lib.hid hbe
          have HB1 := Lib.hid hb1
          have HBL := Lib.hid hbl
          have HYL := Lib.hid hyl
          have hbase : w.heap.size + 1 ≤ (w5.alloc (.cells #[.slice sa xa.length xa.length, .bool ba] 26)).heap.size := Nat.le_trans hsz5 gM.size
          clear hob hbe hb1 hbl hyl
          go_upto_region 11 with (at_builtin; refine wpList_append_lies _ rfl _ _ _ rfl (w.heap.size + 1) 26 i1 (.agg #[.slice none 0 0, .bool false]) 2 32 Try.underlying65 hi hz0 hz1 hz2 rfl (by omega) (.slice (some ⟨w5.heap.size, 0, none⟩) 1 1) 1 [.slice sa xa.length xa.length, .bool ba] rfl hown2 ⟨gb, 0, none⟩ k capb ys rfl HYL.out hnb HB1.out hk0 (by unfold maxLen; omega) (by omega) hbase (w5.heap.size + 1) (by simp) ?_; intro g3 cap3 w6 hown6 hgrow6 hat6 hlt6)
          have ha6 : ∀ g, (Value.slice (some ⟨g2, 0, none⟩) (k + 1) cap2).ownBlock = some g → (Value.slice (some ⟨w5.heap.size, 0, none⟩) 1 1).ownBlock ≠ some g := fun g e e2 => by
            have h1 : g2 = g := Option.some.inj e
            have h2 : w5.heap.size = g := Option.some.inj e2
            have h3 := HG2.out
            omega
          have Ia := (Ia5.kept gM).own hown2 hgrow6 ha6
          have Bx := heap_own hown2 hgrow6 (heap_kept gM Bx5) (own_type hown2 (heap_kept gM Bx5) (by decide))
          have Bk := heap_own hown2 hgrow6 (heap_kept gM Bk5) (own_type hown2 (heap_kept gM Bk5) (by decide))
          have rx := (rx5.kept gM).own hown2 hgrow6
          have rk := (rk5.kept gM).own hown2 hgrow6
          have hG := grown_own (grown_trans hG5 gM) hown2 hgrow6 (Nat.le_succ _)
          have Ib0 := OwnI.mk (zs := [A1]) (ws := zs.reverse) hown6 rfl (by rw [HBL.out]; rfl) HO1.out HB1.out (one_row ((ia5.kept gM).own hown2 hgrow6)).2 (fun i h => by
            obtain ⟨v0, v1, b1, b2, b3⟩ := HBE.out i h
            exact ⟨v0, v1, b1, b2, (b3.kept gM).own hown2 hgrow6⟩)
          have Ib : OwnI w6 (w.heap.size + 1) (.slice (some ⟨g3, 0, none⟩) (1 + k) cap3) (k + 1) (zs ++ [A1]).reverse := by
            rw [List.reverse_append]
            exact Ib0.cast (Nat.add_comm 1 k)
          have HKP : Hid (Kept (.slice (some ⟨g3, 0, none⟩) (1 + k) cap3) (.slice (some ⟨g2, 0, none⟩) (k + 1) cap2)) := fun g e e2 => by
            have h1 : g3 = g := Option.some.inj e
            have h2 : g2 = g := Option.some.inj e2
            have h3 := HG2.out
            rcases hat6 with h | h
            · have h4 := h
              have h5 : w5.heap.size = g3 := Option.some.inj h4
              omega
            · omega
          clear Ca0 Ca1 Fa0 Fa1 Ia5 Bx5 Bk5 rx5 rk5 hG5 Ba5 hown2 gM ia5 hgrow6 hown6 hat6 hlt6 hnb hbase ha6 Ib0 HBE HB1 HBL HYL
          obtain ⟨Ck0, Ck1, Fk0, Fk1⟩ := box_cells Bk
          obtain ⟨Cx0, Cx1, Fx0, Fx1⟩ := box_cells Bx
          go_wp2_with fail
          clear Ck0 Fk0 Ck1 Fk1 Cx0 Fx0 Cx1 Fx1
          refine (rZAdd_any w6 _ _ (isum zs) A1 rk rx (toD LSUM.out (by omega)) (toD lA1 (by omega))).mono ?_
          rintro e rypw3 ⟨_, rfl, ⟨gd, sd, ld, cd, rfl, hd, md⟩, grypw3⟩
          have rd : RIntV rypw3 (.agg #[.int .i64 gd, .slice sd ld cd]) (isum zs + A1) := ⟨gd, sd, ld, cd, rfl, hd, md⟩
          replace Bk := heap_kept grypw3 Bk
          replace Bx := heap_kept grypw3 Bx
          replace rk := rk.kept grypw3
          replace rx := rx.kept grypw3
          replace Ia := Ia.kept grypw3
          replace Ib := Ib.kept grypw3
          replace hG := grown_trans hG grypw3
          clear grypw3
          clear md
          obtain ⟨Ck0, Ck1, Fk0, Fk1⟩ := box_cells Bk
          obtain ⟨Cx0, Cx1, Fx0, Fx1⟩ := box_cells Bx
          have K9 : BoxR _ w.heap.size (isum (zs ++ [A1])) := ⟨_, _, heap_set2 Bk (.int .i64 gd) (.slice sd ld cd), by rw [isum_app]; exact (rd.set_other Bk (by decide) 0 _).set_other (heap_setfst Bk _) (by decide) 1 _⟩
          have G9 := grown_two hG (Nat.le_refl w.heap.size) (.int .i64 gd) (.slice sd ld cd)
          have A9 := Ia.setr Bk (.int .i64 gd) (.slice sd ld cd)
          have B9 := Ib.setr Bk (.int .i64 gd) (.slice sd ld cd)
          have S9 := heap_lt (heap_set2 Bk (.int .i64 gd) (.slice sd ld cd))
          have HK9 := Lib.hid K9
          clear K9
          have HG9 := Lib.hid G9
          clear G9
          have HA9 := Lib.hid A9
          clear A9
          have HB9 := Lib.hid B9
          clear B9
          have HS9 := Lib.hid S9
          clear S9
          clear rk rx Ia Ib rd hG
          go_wp2_with fail
          go_roundg (len - (k + 1))
          case measure => omega
          case rel => exact ⟨k + 1, zs ++ [A1], by omega, by omega, Nat.le_refl _, by go_num, HA9.out, HB9.out, HKP.out, (fun h => by omega), HK9.out, HLS.out.snoc lA1, HG9.out, HS9.out⟩
    · skip
      obtain ⟨s1, c1, rfl⟩ := Ia.shape
      obtain ⟨s2, c2, rfl⟩ := Ib.shape
      have isl1 := Ia.isl
      have isl2 := Ib.isl
      clear Ia Ib
      have hex : (decide (k < len) = false ∧ decide ((k : Int) < (len : Int)) = false) ∨ (decide (k < len) = true ∧ decide ((k : Int) < (len : Int)) = true ∧ decide ((k : Int) < 40) = false) := by
        by_cases h : k < len
        · right; exact ⟨decide_eq_true h, decide_eq_true (by omega), decide_eq_false (by omega)⟩
        · left; exact ⟨decide_eq_false h, decide_eq_false (by omega)⟩
      clear hlt
      rcases hex with ⟨f1, f3⟩ | ⟨f1, f3, f2⟩
      · skip
        obtain ⟨Ck0, Ck1, Fk0, Fk1⟩ := box_cells Bk
        go_wp2_with fail
        have LX1 : Hid (∀ z ∈ zs, z.natAbs < B ^ 8) := HLS.out
        have LX2 : Hid (∀ z ∈ zs.reverse, z.natAbs < B ^ 8) := HLS.out.rev
        go_region_held3 (fun w' => w'.cell? ⟨w.heap.size, 0, none⟩ = some (.int .i64 gk) ∧ w'.cell? ⟨w.heap.size, 1, none⟩ = some (.slice sk lk ck))
          (first | assumption | exact ⟨Ck0, Ck1⟩ | go_keep)
          (first
            | (go_at_call 14; (with_reducible refine (known_any wr.drew).mono ?_); rintro e ex0w1_1 ⟨rfl, gex0w1_1⟩; have hGex0w1_1 := grown_pre wr gex0w1_1 rfl rfl rfl rfl; have hSex0w1_1 := (And.intro (hGex0w1_1.cell Ck0 (by simp)) (hGex0w1_1.cell Ck1 (by simp))); clear gex0w1_1)
            | (go_at_call 40; (with_reducible refine (ZSum_any ex0w1_1 s1 k c1 zs 8 (isl1.kept hGex0w1_1) (by omega) (by omega) LX1.out).mono ?_); rintro e ex0w1_2 ⟨vs1, rfl, zs1, gex0w1_2⟩; have hGex0w1_2 := grown_trans hGex0w1_1 gex0w1_2; have hSex0w1_2 := (And.intro (hGex0w1_2.cell Ck0 (by simp)) (hGex0w1_2.cell Ck1 (by simp))); clear gex0w1_2)
            | (go_at_call 18; (with_reducible refine (same_any ex0w1_2 _ _ (isum zs) 9 zs1 (rk.kept hGex0w1_2) (by omega) LSUM.out).mono ?_); rintro e ex0w1_3 ⟨rfl, gex0w1_3⟩; have hGex0w1_3 := grown_trans hGex0w1_2 gex0w1_3; replace zs1 := zs1.kept gex0w1_3; have hSex0w1_3 := (And.intro (hGex0w1_3.cell Ck0 (by simp)) (hGex0w1_3.cell Ck1 (by simp))); clear gex0w1_3)
            | (go_at_call 40; (with_reducible refine (ZSum_any ex0w1_3 s2 k c2 zs.reverse 8 (isl2.kept hGex0w1_3) (by omega) (by omega) LX2.out).mono ?_); rintro e ex0w1_4 ⟨vs2, rfl, zs2, gex0w1_4⟩; rw [isum_cons_rev] at zs2; have hGex0w1_4 := grown_trans hGex0w1_3 gex0w1_4; replace zs1 := zs1.kept gex0w1_4; have hSex0w1_4 := (And.intro (hGex0w1_4.cell Ck0 (by simp)) (hGex0w1_4.cell Ck1 (by simp))); clear gex0w1_4)
            | (go_at_call 18; (with_reducible refine (same_any ex0w1_4 _ _ (isum zs) 9 zs2 (rk.kept hGex0w1_4) (by omega) LSUM.out).mono ?_); rintro e ex0w1_5 ⟨rfl, gex0w1_5⟩; have hGex0w1_5 := grown_trans hGex0w1_4 gex0w1_5; replace zs1 := zs1.kept gex0w1_5; replace zs2 := zs2.kept gex0w1_5; have hSex0w1_5 := (And.intro (hGex0w1_5.cell Ck0 (by simp)) (hGex0w1_5.cell Ck1 (by simp))); clear gex0w1_5))
        replace Bk := heap_kept hGex0w1_5 Bk
        replace isl1 := isl1.kept hGex0w1_5
        replace isl2 := isl2.kept hGex0w1_5
        replace rk := rk.kept hGex0w1_5
        replace hG := grown_trans hG hGex0w1_5
        clear Ck0 Fk0 Ck1 Fk1
        obtain ⟨Ck0, Ck1, Fk0, Fk1⟩ := box_cells Bk
        go_wp2_with fail
        go_ret
        exact ⟨by first | rfl | simp, hG⟩
      · skip
        obtain ⟨Ck0, Ck1, Fk0, Fk1⟩ := box_cells Bk
        go_wp2_with fail
        have LX1 : Hid (∀ z ∈ zs, z.natAbs < B ^ 8) := HLS.out
        have LX2 : Hid (∀ z ∈ zs.reverse, z.natAbs < B ^ 8) := HLS.out.rev
        go_region_held3 (fun w' => w'.cell? ⟨w.heap.size, 0, none⟩ = some (.int .i64 gk) ∧ w'.cell? ⟨w.heap.size, 1, none⟩ = some (.slice sk lk ck))
          (first | assumption | exact ⟨Ck0, Ck1⟩ | go_keep)
          (first
            | (go_at_call 14; (with_reducible refine (known_any wr.drew).mono ?_); rintro e ex1w1_1 ⟨rfl, gex1w1_1⟩; have hGex1w1_1 := grown_pre wr gex1w1_1 rfl rfl rfl rfl; have hSex1w1_1 := (And.intro (hGex1w1_1.cell Ck0 (by simp)) (hGex1w1_1.cell Ck1 (by simp))); clear gex1w1_1)
            | (go_at_call 40; (with_reducible refine (ZSum_any ex1w1_1 s1 k c1 zs 8 (isl1.kept hGex1w1_1) (by omega) (by omega) LX1.out).mono ?_); rintro e ex1w1_2 ⟨vs1, rfl, zs1, gex1w1_2⟩; have hGex1w1_2 := grown_trans hGex1w1_1 gex1w1_2; have hSex1w1_2 := (And.intro (hGex1w1_2.cell Ck0 (by simp)) (hGex1w1_2.cell Ck1 (by simp))); clear gex1w1_2)
            | (go_at_call 18; (with_reducible refine (same_any ex1w1_2 _ _ (isum zs) 9 zs1 (rk.kept hGex1w1_2) (by omega) LSUM.out).mono ?_); rintro e ex1w1_3 ⟨rfl, gex1w1_3⟩; have hGex1w1_3 := grown_trans hGex1w1_2 gex1w1_3; replace zs1 := zs1.kept gex1w1_3; have hSex1w1_3 := (And.intro (hGex1w1_3.cell Ck0 (by simp)) (hGex1w1_3.cell Ck1 (by simp))); clear gex1w1_3)
            | (go_at_call 40; (with_reducible refine (ZSum_any ex1w1_3 s2 k c2 zs.reverse 8 (isl2.kept hGex1w1_3) (by omega) (by omega) LX2.out).mono ?_); rintro e ex1w1_4 ⟨vs2, rfl, zs2, gex1w1_4⟩; rw [isum_cons_rev] at zs2; have hGex1w1_4 := grown_trans hGex1w1_3 gex1w1_4; replace zs1 := zs1.kept gex1w1_4; have hSex1w1_4 := (And.intro (hGex1w1_4.cell Ck0 (by simp)) (hGex1w1_4.cell Ck1 (by simp))); clear gex1w1_4)
            | (go_at_call 18; (with_reducible refine (same_any ex1w1_4 _ _ (isum zs) 9 zs2 (rk.kept hGex1w1_4) (by omega) LSUM.out).mono ?_); rintro e ex1w1_5 ⟨rfl, gex1w1_5⟩; have hGex1w1_5 := grown_trans hGex1w1_4 gex1w1_5; replace zs1 := zs1.kept gex1w1_5; replace zs2 := zs2.kept gex1w1_5; have hSex1w1_5 := (And.intro (hGex1w1_5.cell Ck0 (by simp)) (hGex1w1_5.cell Ck1 (by simp))); clear gex1w1_5))
        replace Bk := heap_kept hGex1w1_5 Bk
        replace isl1 := isl1.kept hGex1w1_5
        replace isl2 := isl2.kept hGex1w1_5
        replace rk := rk.kept hGex1w1_5
        replace hG := grown_trans hG hGex1w1_5
        clear Ck0 Fk0 Ck1 Fk1
        obtain ⟨Ck0, Ck1, Fk0, Fk1⟩ := box_cells Bk
        go_wp2_with fail
        go_ret
        exact ⟨by first | rfl | simp, hG⟩
end Go.Proofs.Ytljfhiikoimdiaa
