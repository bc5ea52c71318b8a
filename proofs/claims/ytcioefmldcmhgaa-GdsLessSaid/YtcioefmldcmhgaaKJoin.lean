/- Records: rows of bytes of the call's own; Join. -/
import Derived.Test.YtcioefmldcmhgaaKJoinM
import Derived.Test.YtcioefmldcmhgaaKStep
import Derived.Test.YtcioefmldcmhgaaKSp
namespace Go.Proofs.Ytcioefmldcmhgaa
open Go.RowKit
set_option maxRecDepth 100000
set_option linter.unusedVariables false
set_option linter.unusedSimpArgs false

/-- A row of bytes of the call's own. -/
def OwnB (W : World) (base : Nat) (v : Value) (l : List Nat) : Prop := W.ownsRow base 5 1 v l.length (bvs l) ∧ ∀ x ∈ l, x < 256
theorem own_kept {W W' : World} {base n size : Nat} {e : TypeId} {v : Value} {xs : List Value} (h : W.ownsRow base e size v n xs) (hg : W.grownBy W' none) : W'.ownsRow base e size v n xs := by
  obtain ⟨h1, h2 | ⟨g, cap', cur, e, hg', hb, hr⟩⟩ := h
  · exact ⟨h1, Or.inl h2⟩
  · exact ⟨h1, Or.inr ⟨g, cap', cur, e, hg', heap_kept hg hb, hr⟩⟩
theorem OwnB.kept {W W' : World} {base : Nat} {v : Value} {l : List Nat} (h : OwnB W base v l) (hg : W.grownBy W' none) : OwnB W' base v l := ⟨own_kept h.1 hg, h.2⟩
theorem OwnB.nil (W : World) (base : Nat) : OwnB W base (.slice none 0 0) [] := ⟨⟨rfl, Or.inl ⟨rfl, rfl⟩⟩, by simp⟩
theorem OwnB.shape {W : World} {base : Nat} {v : Value} {l : List Nat} (h : OwnB W base v l) : ∃ s c, v = .slice s l.length c ∧ BySl W s l ∧ (s = none → l.length = 0 ∧ c = 0) ∧ l.length ≤ c ∧ c ≤ 9223372036854775807 := by
  obtain ⟨⟨h1, ⟨rfl, h2⟩ | ⟨g, cap, cur, rfl, hb, hh, hc, hm, hs, ht⟩⟩, hx⟩ := h
  · obtain rfl : l = [] := List.length_eq_zero_iff.1 h2
    exact ⟨none, 0, rfl, BySl.nil _ _, fun _ => ⟨rfl, rfl⟩, Nat.le_refl _, by omega⟩
  · refine ⟨_, cap, rfl, ⟨Or.inr ⟨_, rfl, fun i hi => ?_⟩, hx⟩, fun e => (by cases e), hc, by unfold maxLen at hm; exact hm⟩
    have hown : W.ownsRow base 5 1 (.slice (some ⟨g, 0, none⟩) l.length cap) l.length (bvs l) := ⟨h1, Or.inr ⟨g, cap, cur, rfl, hb, hh, hc, hm, hs, ht⟩⟩
    exact hown.cells rfl _ _ (by simp [bvs, List.getElem?_eq_getElem hi])
theorem own_type {W : World} {base n size k : Nat} {e : TypeId} {v : Value} {xs : List Value} {cs : Array Value} {t : TypeId} {fz : Nat × Nat} (h : W.ownsRow base e size v n xs) (hk : W.heap[k]? = some (.cells cs t fz)) (ht : t ≠ e) : v.ownBlock ≠ some k := by
  obtain ⟨h1, ⟨e, _⟩ | ⟨g, cap', cur, e, hg', hb, hr⟩⟩ := h
  · subst e; intro e; cases e
  · subst e; intro e
    have e2 : g = k := Option.some.inj e
    subst e2
    rw [hb] at hk; cases hk; exact ht rfl
theorem grown_own {w W W' : World} {base n size : Nat} {e : TypeId} {v : Value} {xs : List Value} (hw : w.grownBy W none) (ho : W.ownsRow base e size v n xs) (hg : W.grownBy W' v.ownBlock) (hb : w.heap.size ≤ base) : w.grownBy W' none := by
  obtain ⟨h1, ⟨e, _⟩ | ⟨g, cap', cur, e, hg', hb', hr⟩⟩ := ho
  · subst e; exact grown_trans hw hg
  · subst e; exact grown_new (g := g) hw hg (by omega)
theorem OwnB.of {W : World} {base nm : Nat} {v : Value} {l m : List Nat} (h : W.ownsRow base 5 1 v nm (bvs l ++ bvs m)) (hn : l.length + m.length = nm) (hl : ∀ x ∈ l, x < 256) (hm : ∀ x ∈ m, x < 256) : OwnB W base v (l ++ m) := by
  subst hn
  refine ⟨by rw [List.length_append, ← bvs_append]; exact h, fun x hx => ?_⟩
  rcases List.mem_append.1 hx with hx | hx
  · exact hl x hx
  · exact hm x hx
theorem news_new (W : World) (l : List Nat) : ∀ j u, (bvs l)[j]? = some u → (W.alloc (.cells (bvs l).toArray 5)).cell? ((⟨W.heap.size, 0, none⟩ : Addr).add j) = some u := by
  intro j u hj
  have e : (⟨W.heap.size, 0, none⟩ : Addr).add j = ⟨W.heap.size, j, none⟩ := by unfold Addr.add; split <;> simp_all
  rw [e]
  have h := heap_new W (.cells (bvs l).toArray 5) W.heap.size rfl
  simp only [World.cell?, h]
  simpa using hj
def RetJoin (w : World) (x : Nat × List Nat) (e : Ending) (w' : World) : Prop :=
  ∃ v, e = .returned (.tuple #[v, .int .i64 (x.1 : Int)]) ∧ OwnB w' w.heap.size v x.2 ∧ w.grownBy w' none
set_option maxHeartbeats 32000000 in
theorem Join_any (w : World) (s : Option Addr) (n cap : Nat) (rs : List KRec) (hn : rs.length = n) (hl : RcSl w s rs) (hk : ∀ r ∈ rs, r.1 < 256 ∧ r.2.1 < 256) (hb : (joinB rs).length ≤ 1099511627776) (hm : n ≤ 9223372036854775807) :
    Calls Try.prog 36 #[.slice s n cap] w (RetJoin w (joinD rs)) := by
  obtain ⟨i1, hi, hz0, hz1, hz2⟩ := info_partsU
  have HR := Lib.hid hl
  have HN := Lib.hid hn
  have HK := Lib.hid hk
  have HB := Lib.hid hb
  have HQ : Hid (∀ x, x = joinD rs → ∀ W v, OwnB W w.heap.size v x.2 → w.grownBy W none → RetJoin w (joinD rs) (.returned (.tuple #[v, .int .i64 (x.1 : Int)])) W) := Lib.hid (fun x hx W v h1 h2 => by rw [← hx]; exact ⟨v, rfl, h1, h2⟩)
  obtain ⟨P, hP⟩ : ∃ P, RetJoin w (joinD rs) = P := ⟨_, rfl⟩
  rw [hP] at HQ ⊢
  clear hP hl hn hk hb
  have hG : w.grownBy w none := grown_refl _ _
  go_enter Try.func36, Try.ntmps36
  go_wp2_with fail
  go_loopg [4, 10] n (fun gh v i wr => ∃ k : Nat, k ≤ n ∧ n - k ≤ gh ∧ i = .int .i64 (k : Int) ∧ OwnB wr w.heap.size v (joinB (rs.take k)) ∧ Hid (∀ j (hj : j < rs.length), j < k → okR rs[j]) ∧ w.grownBy wr none)
  case atStart => exact ⟨0, Nat.zero_le _, Nat.le_refl _, rfl, OwnB.nil _ _, Lib.hid (fun j _ h => by omega), hG⟩
  case round =>
    clear hG
    obtain ⟨k, hk, hgh, rfl, hO, HOK, hG⟩ := hrel
    by_cases hlt : k < n
    · have f1 : decide ((k : Int) < (n : Int)) = true := decide_eq_true (by omega)
      have hkr : k < rs.length := by rw [HN.out]; exact hlt
      obtain ⟨a, q, sb, cb, kd, dt, bd, rfl, hq, hr, A0, A1, A2, HBY, hz, hcb, hmb⟩ := HR.out.at k hkr
      have HRR := Lib.hid hr
      have hk2 := HK.out _ (List.getElem_mem hkr)
      rw [hr] at hk2
      dsimp only at hk2
      obtain ⟨hkd, hdt⟩ := hk2
      replace A0 := hG.cell A0 (by simp)
      replace A1 := hG.cell A1 (by simp)
      replace A2 := hG.cell A2 (by simp)
      have HY := Lib.hid HBY
      have HG := Lib.hid hG
      have HO := Lib.hid hO
      obtain ⟨s0, c0, hv, _, _, _, _⟩ := hO.shape
      have hlen0 := joinB_len_take rs k
      have hlen1 : (joinB (rs.take k)).length + 4 + bd.length ≤ 1099511627776 := by
        have h1 := joinB_take rs k hkr
        have h2 := joinB_len_take rs (k + 1)
        have h3 : (recB (kd, dt, bd)).length = bd.length + 4 := recB_len _
        rw [h1, List.length_append, hr, h3] at h2
        have := HB.out
        omega
      have HOKR : Hid (okR rs[k] ↔ (bd.length % 2 = 0 ∧ bd.length ≤ 65530)) := Lib.hid (by rw [hr]; exact Iff.rfl)
      have HTK : Hid (joinB (rs.take (k + 1)) = joinB (rs.take k) ++ recB (kd, dt, bd)) := Lib.hid (by rw [joinB_take rs k hkr, hr])
      obtain ⟨L, hL⟩ : ∃ L, joinB (rs.take k) = L := ⟨_, rfl⟩
      rw [hL] at HO hv hlen0 hlen1 HTK
      subst hv
      clear hr HBY hG hO hL
      have q1 := tmod_nat bd.length 2
      have q2 : ((bd.length : Int) % 2) = ((bd.length % 2 : Nat) : Int) := by omega
      have gA := World.grownBy_alloc wr (.cells #[.int .u8 (kd : Int), .int .u8 (dt : Int), .slice sb bd.length cb] 45) none
      have Bt := heap_new wr (.cells #[.int .u8 (kd : Int), .int .u8 (dt : Int), .slice sb bd.length cb] 45) wr.heap.size rfl
      have HGA := Lib.hid (grown_trans HG.out gA)
      replace HO := Lib.hid (HO.out.kept gA)
      obtain ⟨C0, C1, C2, _, _, _⟩ := box_cells3 Bt
      have hwr := Lib.hid HG.out.size
      clear gA
      by_cases hodd : bd.length % 2 = 0
      · have f2 : (((bd.length % 2 : Nat) : Int) != 0) = false := by rw [hodd]; rfl
        by_cases hbig : 65530 < bd.length
        · have f3 : decide ((65530 : Int) < (bd.length : Int)) = true := decide_eq_true (by omega)
          have hF := Lib.hid (HQ.out (3, []) (joinD_at hkr (fun h => by have := HOKR.out.1 h; omega)).symm _ (.slice none 0 0) (OwnB.nil _ _) HGA.out)
          obtain ⟨R, hR⟩ : ∃ R, bd.length % 2 = R := ⟨_, rfl⟩
          rw [hR] at q1 q2 f2
          clear hR hodd hbig
          go_wp2_with fail
          exact hF.out
        · have f3 : decide ((65530 : Int) < (bd.length : Int)) = false := decide_eq_false (by omega)
          have HOK2 : Hid (okR rs[k]) := Lib.hid (HOKR.out.2 ⟨hodd, by omega⟩)
          obtain ⟨y0, hy0⟩ : ∃ y, (bd.length + 4) / 256 = y := ⟨_, rfl⟩
          obtain ⟨y1, hy1⟩ : ∃ y, (bd.length + 4) % 256 = y := ⟨_, rfl⟩
          have z0 : ((bd.length : Int) + 4) / 256 % 256 = (y0 : Int) := by omega
          have z2 : ((bd.length : Int) + 4) / 256 = (y0 : Int) := by omega
          have z1 : ((bd.length : Int) + 4) % 256 = (y1 : Int) := by omega
          have HREC : Hid (recB (kd, dt, bd) = [y0, y1, kd, dt] ++ bd) := Lib.hid (by unfold recB; rw [hy0, hy1])
          have HY4 : Hid (∀ x ∈ [y0, y1, kd, dt], x < 256) := Lib.hid (by intro x hx; simp at hx; omega)
          obtain ⟨R, hR⟩ : ∃ R, bd.length % 2 = R := ⟨_, rfl⟩
          rw [hR] at q1 q2 f2
          have hlb : bd.length ≤ 65530 := by omega
          clear hR hodd hbig hy0 hy1
          have hns := news_new (wr.alloc (.cells #[.int .u8 (kd : Int), .int .u8 (dt : Int), .slice sb bd.length cb] 45)) [y0, y1, kd, dt]
          have gB := World.grownBy_alloc (wr.alloc (.cells #[.int .u8 (kd : Int), .int .u8 (dt : Int), .slice sb bd.length cb] 45)) (.cells (bvs [y0, y1, kd, dt]).toArray 5) none
          change ∀ j u, (bvs [y0, y1, kd, dt])[j]? = some u → ((wr.alloc (.cells #[.int .u8 (kd : Int), .int .u8 (dt : Int), .slice sb bd.length cb] 45)).alloc (.cells #[.int .u8 (y0 : Int), .int .u8 (y1 : Int), .int .u8 (kd : Int), .int .u8 (dt : Int)] 5)).cell? _ = some u at hns
          change (wr.alloc (.cells #[.int .u8 (kd : Int), .int .u8 (dt : Int), .slice sb bd.length cb] 45)).grownBy ((wr.alloc (.cells #[.int .u8 (kd : Int), .int .u8 (dt : Int), .slice sb bd.length cb] 45)).alloc (.cells #[.int .u8 (y0 : Int), .int .u8 (y1 : Int), .int .u8 (kd : Int), .int .u8 (dt : Int)] 5)) none at gB
          have hsz : (wr.alloc (.cells #[.int .u8 (kd : Int), .int .u8 (dt : Int), .slice sb bd.length cb] 45)).heap.size = wr.heap.size + 1 := by simp
          rw [hsz] at hns
          have HNEW := Lib.hid hns
          have HOWN := Lib.hid (HO.out.kept gB).1
          have HGB := Lib.hid (grown_trans HGA.out gB)
          have HBT := Lib.hid (heap_kept gB Bt)
          have HBASE : Hid (w.heap.size ≤ ((wr.alloc (.cells #[.int .u8 (kd : Int), .int .u8 (dt : Int), .slice sb bd.length cb] 45)).alloc (.cells #[.int .u8 (y0 : Int), .int .u8 (y1 : Int), .int .u8 (kd : Int), .int .u8 (dt : Int)] 5)).heap.size) := Lib.hid HGB.out.size
          have HL8 := Lib.hid HO.out.2
          have HB63 : Hid (L.length + 4 ≤ maxLen) := Lib.hid (by unfold maxLen; omega)
          clear hns gB hsz
          go_wp2_with (at_builtin; refine wpList_own_some rfl (.tmp 26) (.tmp 36) 22 rfl w.heap.size 5 i1 (.int .u8 0) 1 1 Try.underlying22 hi hz0 hz1 hz2 rfl (by decide) (.slice s0 L.length c0) L.length (bvs L) rfl HOWN.out ⟨wr.heap.size + 1, 0, none⟩ 4 4 (bvs [y0, y1, kd, dt]) rfl rfl HNEW.out (bvs_one _) HB63.out (by omega) HBASE.out (Or.inr (by decide)) _ rfl ?_)
          intro g1 c1 w1 hown1 hgrow1 hb1 hc1 hm1
          have HG1 := Lib.hid (grown_own HGB.out HOWN.out hgrow1 (Nat.le_refl _))
          have Bt1 := heap_off hgrow1 HBT.out (fun e => own_type HOWN.out HBT.out (by decide) e.symm)
          have HO1 := Lib.hid (OwnB.of (m := [y0, y1, kd, dt]) hown1 rfl HL8.out HY4.out)
          clear hown1 hgrow1 HOWN HNEW HGB HBT HBASE C0 C1 C2 Bt
          obtain ⟨C0, C1, C2, _, _, _⟩ := box_cells3 Bt1
          have HLN : Hid ((L ++ [y0, y1, kd, dt]).length = L.length + 4) := Lib.hid (by simp)
          have HOWN1 : Hid (w1.ownsRow w.heap.size 5 1 (.slice (some ⟨g1, 0, none⟩) (L.length + 4) c1) (L.length + 4) (bvs (L ++ [y0, y1, kd, dt]))) := Lib.hid (by
            have := HO1.out.1
            rwa [HLN.out] at this)
          have HB63b : Hid (L.length + 4 + bd.length ≤ maxLen) := Lib.hid (by unfold maxLen; omega)
          have HBASE1 := Lib.hid HG1.out.size
          have HYY := Lib.hid (HY.out.kept HG1.out)
          cases sb with
          | some ab =>
            have HNEW := Lib.hid HYY.out.news
            have HD8 := Lib.hid HYY.out.2
            go_wp2_with (at_builtin; refine wpList_own_some rfl (.tmp 38) (.tmp 40) 22 rfl w.heap.size 5 i1 (.int .u8 0) 1 1 Try.underlying22 hi hz0 hz1 hz2 rfl (by decide) (.slice (some ⟨g1, 0, none⟩) (L.length + 4) c1) (L.length + 4) (bvs (L ++ [y0, y1, kd, dt])) rfl HOWN1.out ab bd.length cb (bvs bd) rfl (by rw [bvs_len, Nat.mul_one]) HNEW.out (bvs_one _) HB63b.out (by omega) HBASE1.out (Or.inl (by simp)) _ rfl ?_)
            intro g2 c2 w2 hown2 hgrow2 hb2 hc2 hm2
            have HG2 := Lib.hid (grown_own HG1.out HOWN1.out hgrow2 (Nat.le_refl _))
            have HO2 := Lib.hid (OwnB.of (m := bd) hown2 (by rw [HLN.out]) HO1.out.2 HD8.out)
            clear hown2 hgrow2
            go_wp2_with fail
            go_roundg (n - (k + 1))
            case measure => omega
            case rel => exact ⟨k + 1, by omega, Nat.le_refl _, by go_num, by rw [HTK.out, HREC.out, ← List.append_assoc]; exact HO2.out, Lib.hid (fun j hj h => by
              rcases Nat.lt_or_ge j k with h2 | h2
              · exact HOK.out j hj h2
              · obtain rfl : j = k := by omega
                exact HOK2.out), HG2.out⟩
          | none =>
            obtain ⟨hl0, rfl⟩ := hz rfl
            obtain rfl : bd = [] := List.length_eq_zero_iff.1 hl0
            go_wp2_with (at_builtin; refine wpList_append_own_none rfl (.tmp 38) (.tmp 40) 22 rfl w.heap.size 5 i1 1 Try.underlying22 hi (.slice (some ⟨g1, 0, none⟩) (L.length + 4) c1) (L.length + 4) (bvs (L ++ [y0, y1, kd, dt])) rfl HOWN1.out rfl ?_)
            go_wp2_with fail
            go_roundg (n - (k + 1))
            case measure => omega
            case rel => exact ⟨k + 1, by omega, Nat.le_refl _, by go_num, by rw [HTK.out, HREC.out, List.append_nil]; exact HO1.out, Lib.hid (fun j hj h => by
              rcases Nat.lt_or_ge j k with h2 | h2
              · exact HOK.out j hj h2
              · obtain rfl : j = k := by omega
                exact HOK2.out), HG1.out⟩
      · have f2 : (((bd.length % 2 : Nat) : Int) != 0) = true := bne_iff_ne.2 (by omega)
        have hF := Lib.hid (HQ.out (3, []) (joinD_at hkr (fun h => by have := HOKR.out.1 h; omega)).symm _ (.slice none 0 0) (OwnB.nil _ _) HGA.out)
        obtain ⟨R, hR⟩ : ∃ R, bd.length % 2 = R := ⟨_, rfl⟩
        rw [hR] at q1 q2 f2
        clear hR hodd
        go_wp2_with fail
        exact hF.out
    · have f1 : decide ((k : Int) < (n : Int)) = false := decide_eq_false (by omega)
      have hkn : k = n := by omega
      have hF := Lib.hid (HQ.out (0, joinB rs) (joinD_all (fun i hi => HOK.out i hi (by have := HN.out; omega))).symm wr)
      have hT : Hid (joinB (rs.take k) = joinB rs) := Lib.hid (by rw [hkn, ← HN.out, List.take_length])
      rw [hT.out] at hO
      obtain ⟨s0, c0, rfl, _, _, _, _⟩ := hO.shape
      have HO := Lib.hid hO
      have HG := Lib.hid hG
      clear hO hG hkn
      go_wp2_with fail
      exact hF.out _ HO.out HG.out
end Go.Proofs.Ytcioefmldcmhgaa
