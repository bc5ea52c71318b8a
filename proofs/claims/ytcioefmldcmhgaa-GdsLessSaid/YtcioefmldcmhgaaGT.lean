/- Streams as trees: since, taken. -/
import Derived.Test.YtcioefmldcmhgaaGS
namespace Go.Proofs.Ytcioefmldcmhgaa
open Go.RowKit
set_option maxRecDepth 100000
set_option linter.unusedVariables false
set_option linter.unusedSimpArgs false

/-- An append of nothing to none. -/
theorem step_own_nil {P : Program} {w : World} {ops : Array Oper} {o : Oper} {a : Act} {K : Act → World → Prop} {Q : Exit → Act → World → Prop} {E : Prop} (hgd : o.guard = none) (s x : Operand) (t : TypeId)
    (ho : o.op = .call { callee := .builtin .append, args := #[s, x], argTypes := #[t, t] })
    (e : TypeId) (i : TypeInfo) (z : Value) (size bytes : Nat) (ht : P.underlying t = some (.slice e)) (hi : P.info? e = some i) (hz : i.zero = some z)
    (hsize : i.size = size) (hby : i.bytes = bytes) (hzs : z.cells.size = size) (hsz : 0 < size)
    (hs : a.eval s = .slice none 0 0) (ad : Addr) (c : Nat) (hx : a.eval x = .slice (some ad) 0 c)
    (h : ∀ w', w.grownBy w' none → K (a.put o.dst (.slice none 0 0)) w') :
    if Region.wanted o (yielded ops a.tmps) = true then Oper.wp P o a w K Q else E := by
  have hw : Region.wanted o (yielded ops a.tmps) = true := by simp [Region.wanted, hgd]
  rw [if_pos hw]
  refine wp_append_own w s x t ho w.heap.size e i z size bytes ht hi hz hsize hby hzs hsz _ 0 [] hs ⟨by simp, Or.inl ⟨rfl, rfl⟩⟩ ad 0 c [] hx (by simp) (by simp) (by simp) (by unfold maxLen; omega) (by omega) (Nat.le_refl _) fun v' w' h2 h3 h4 => ?_
  rw [h4.2 ⟨rfl, rfl⟩]
  exact h w' h3
set_option maxHeartbeats 16000000 in
theorem Since_any (c : Lst) (hc : c.ok) (w : World) (g : Nat) (p l : List KRec) (a : Addr) (hs : c.lies a) (hp : Ps c g w l) (hpl : (p ++ l).length ≤ c.n) (hdr : c.rs.drop (c.n - (p ++ l).length) = p ++ l) (hbig : c.n ≤ 4398046511104) (k : Nat) (hk : c.n - (p ++ l).length = k) :
    Calls Try.prog 66 #[.pointer (some ⟨g, 0, none⟩), .int .i64 (k : Int)] w (fun e w' => w.grownBy w' none ∧ ∃ v, e = .returned v ∧ RowT c.w0 w' v p) := by
  obtain ⟨i1, hi, hz0, hz1, hz2⟩ := info_partsR
  obtain ⟨h1, h2, h3, h4, h5⟩ := hp
  obtain ⟨c1, c2, c3, c4, c5, c6⟩ := hc
  obtain ⟨hs, hT⟩ := hs
  rw [hs] at h5 hT
  obtain ⟨C0, C1, F0, F1⟩ := box_cells2 h5
  rw [List.length_append] at hpl hdr hk
  obtain ⟨j, hj⟩ : ∃ j, c.n - l.length = j := ⟨_, rfl⟩
  rw [hk] at hdr
  rw [hj] at C1
  have hkj : k + p.length = j := by omega
  have hjn : j ≤ c.n := by omega
  obtain ⟨xs, x1, x2, x3, x4⟩ := hT.vals k p.length (by omega)
  have hx4 : ∀ i (hi : i < p.length), ∃ sb cb, xs[i * 3]? = some (.int .u8 (p[i].1 : Int)) ∧ xs[i * 3 + 1]? = some (.int .u8 (p[i].2.1 : Int)) ∧ xs[i * 3 + 2]? = some (.slice sb p[i].2.2.length cb) ∧ BodyT c.w0 w sb p[i].2.2 ∧ (sb = none → p[i].2.2.length = 0 ∧ cb = 0) ∧ p[i].2.2.length ≤ cb ∧ cb ≤ 9223372036854775807 := fun i hi => by
    obtain ⟨sb, cb, b0, b1, b2, b3, b4⟩ := x4 i hi
    have e : c.rs[k + i]'(by omega) = p[i] := by
      have h0 := flat_get (rs := c.rs) (k := k) (i := i) (by omega)
      rw [← h0]
      simp only [hdr]
      rw [List.getElem_append_left hi]
    rw [e] at b0 b1 b2 b3 b4
    exact ⟨sb, cb, b0, b1, b2, BodyT.kept b3 h1, b4⟩
  have ik : (0 : Int) ≤ (k : Int) := by omega
  have ikj : (k : Int) ≤ (j : Int) := by omega
  have ijn : (j : Int) ≤ (c.cap : Int) := by omega
  have ijn2 : (j : Int) ≤ (c.n : Int) := by omega
  have hnw : ∀ W, w.grownBy W none → ∀ i u, xs[i]? = some u → W.cell? ((a.add (k * 3)).add i) = some u := fun W hW i u hu => (grown_trans h1 hW).cell (x3 i u hu) (by simp)
  have HX1 := Lib.hid x1
  have HX2 := Lib.hid x2
  have HX4 := Lib.hid hx4
  have HNW := Lib.hid hnw
  have HKJ := Lib.hid hkj
  have HB := Lib.hid hbig
  have HJN := Lib.hid hjn
  clear h1 h2 h3 h4 h5 c1 c2 c3 c4 c6 hT x1 x2 x3 x4 hx4 hnw hkj hk hj hpl hdr hbig hjn c5
  have hG : w.grownBy w none := grown_refl _ _
  obtain ⟨q, hq⟩ : ∃ q : Addr, a.add (k * 3) = q := ⟨_, rfl⟩
  obtain ⟨qq, hqq⟩ : ∃ qq : Addr, (if c.cap = k then some a else some q) = some qq := by split <;> exact ⟨_, rfl⟩
  by_cases hm0 : p.length = 0
  · have hp0 : p = [] := List.length_eq_zero_iff.1 hm0
    have hjk : j - k = 0 := by have := HKJ.out; omega
    go_enter Try.func66, Try.ntmps66
    go_wp2_with fail
    go_region_held3 (fun w' => w'.cell? ⟨g, 0, none⟩ = some (.slice (some a) c.n c.cap) ∧ w'.cell? ⟨g, 1, none⟩ = some (.int .i64 (j : Int)))
      (first | assumption | exact ⟨C0, C1⟩ | exact ⟨D0, D1⟩ | go_keep)
      (first
        | (refine step_own_nil rfl (.const (.slice none 0 0)) (.tmp 14) 24 rfl 45 i1 (.agg #[.int .u8 0, .int .u8 0, .slice none 0 0]) 3 32 Try.underlying24 hi hz0 hz1 hz2 rfl (by decide) rfl _ _ rfl ?_; intro w1 hg1; have hG1 := grown_trans (grown_drew (row := none) hG) hg1; have D0 := hG1.cell C0 (by simp); have D1 := hG1.cell C1 (by simp); clear hg1))
    go_wp2_with fail
    go_ret
    exact ⟨hG1, _, rfl, Or.inl ⟨hp0, rfl⟩⟩
  · have HLN : Hid (xs.length = (j - k) * 3) := Lib.hid (by have := HKJ.out; rw [HX1.out, show j - k = p.length from by omega])
    have HPL : Hid (p.length = j - k) := Lib.hid (by have := HKJ.out; omega)
    have HM1 : Hid (0 + (j - k) ≤ maxLen) := Lib.hid (by unfold maxLen; have := HJN.out; have := HB.out; omega)
    have HM2 : Hid ((0 + (j - k)) * 32 ≤ 140737488355328) := Lib.hid (by have := HJN.out; have := HB.out; omega)
    have HNE : Hid (0 < j - k) := Lib.hid (by have := HPL.out; omega)
    have hqa : k = c.cap → False := fun e => by have := HKJ.out; omega
    have HNQ : Hid (∀ W, w.grownBy W none → ∀ i u, xs[i]? = some u → W.cell? (qq.add i) = some u) := Lib.hid (by
      rw [if_neg (fun e => hqa e.symm)] at hqq
      have e := Option.some.inj hqq
      rw [← e, ← hq]
      exact HNW.out)
    clear hqa
    go_enter Try.func66, Try.ntmps66
    go_wp2_with fail
    go_region_held3 (fun w' => w'.cell? ⟨g, 0, none⟩ = some (.slice (some a) c.n c.cap) ∧ w'.cell? ⟨g, 1, none⟩ = some (.int .i64 (j : Int)))
      (first | assumption | exact ⟨C0, C1⟩ | exact ⟨D0, D1⟩ | go_keep)
      (first
        | (refine step_own_some rfl (.const (.slice none 0 0)) (.tmp 14) 24 rfl w.heap.size 45 i1 (.agg #[.int .u8 0, .int .u8 0, .slice none 0 0]) 3 32 Try.underlying24 hi hz0 hz1 hz2 rfl (by decide) (.slice none 0 0) 0 [] rfl ⟨by simp, Or.inl ⟨rfl, rfl⟩⟩ qq (j - k) _ xs rfl HLN.out (HNQ.out _ (grown_drew hG)) HX2.out HM1.out HM2.out (Nat.le_refl _) (Or.inr HNE.out) (j - k) (Nat.zero_add _) ?_; intro gb cb w1 hown hg1 hgb hcb hmb; have hG1 := grown_trans (grown_drew (row := none) hG) hg1; have D0 := hG1.cell C0 (by simp); have D1 := hG1.cell C1 (by simp); clear hg1 hgb hcb hmb; have HOWN := Lib.hid hown; clear hown))
    have hF : Hid (RowT c.w0 w1 (.slice (some ⟨gb, 0, none⟩) (j - k) cb) p) := Lib.hid (RowT.of HOWN.out HPL.out (fun i hi => by
      obtain ⟨sb, cb, b0, b1, b2, b3, b4⟩ := HX4.out i hi
      exact ⟨sb, cb, b0, b1, b2, b3.kept hG1, b4⟩))
    go_wp2_with fail
    go_ret
    exact ⟨hG1, _, rfl, hF.out⟩
theorem run_callFunc_enter {P : Program} {f : FuncId} {fn : Func} (hf : P.funcs[f]? = some fn) (hname : (fn.name == "runtime.NumGoroutine") = false) (hb : fn.body.isNone = false) (args : Array Value) (w : World) : (callFunc f args).run P w = .ok (.enter f args) w := by
  have h1 : fn.name ≠ "runtime.NumGoroutine" := by simpa using hname
  have h2 : fn.body ≠ none := by intro h; rw [h] at hb; cases hb
  simp [callFunc, hf, h1, h2, Sem.run]
theorem cf_head (args : Array Value) (W : World) : (callFunc 49 args).run Try.prog W = .ok (.enter 49 args) W := 
  run_callFunc_enter Try.func49 (by kernel_rfl) (by kernel_rfl) args W
theorem cf_title (args : Array Value) (W : World) : (callFunc 60 args).run Try.prog W = .ok (.enter 60 args) W := 
  run_callFunc_enter Try.func60 (by kernel_rfl) (by kernel_rfl) args W
theorem cf_element (args : Array Value) (W : World) : (callFunc 61 args).run Try.prog W = .ok (.enter 61 args) W := 
  run_callFunc_enter Try.func61 (by kernel_rfl) (by kernel_rfl) args W
theorem cf_props (args : Array Value) (W : World) : (callFunc 62 args).run Try.prog W = .ok (.enter 62 args) W := 
  run_callFunc_enter Try.func62 (by kernel_rfl) (by kernel_rfl) args W
/-- What taken answers: a misfit, or the records that a rule has let go by. -/
def RetTaken (c : Lst) (g : Nat) (w : World) (l : List KRec) (x : Option (List KRec)) (e : Ending) (w' : World) : Prop :=
  (x = none ∧ e = mis ∧ w.grownBy w' (some g)) ∨ (∃ t v, x = some t ∧ e = .returned v ∧ RowT c.w0 w' v (cutL l t) ∧ w.grownBy w' (some g) ∧ Ps c g w' t)
theorem Ps.part {c : Lst} {g : Nat} {W W' : World} {p l : List KRec} (h : Ps c g W (p ++ l)) (h' : Ps c g W' l) : (p ++ l).length ≤ c.n ∧ c.rs.drop (c.n - (p ++ l).length) = p ++ l := ⟨h.2.2.1, h.2.2.2.1⟩
set_option maxHeartbeats 16000000 in
theorem Taken_any (c : Lst) (hc : c.ok) (w : World) (g F : Nat) (r : Ru) (l : List KRec) (a : Addr) (hs : c.lies a) (hbig : c.n ≤ 4398046511104) (hp : Ps c g w l)
    (hcf : ∀ (args : Array Value) (W : World), (callFunc F args).run Try.prog W = .ok (.enter F args) W) (HR : Hid (∀ W m, Ps c g W m → Calls Try.prog F #[.pointer (some ⟨g, 0, none⟩)] W (RetRu c g W (run r m)))) :
    Calls Try.prog 48 #[.pointer (some ⟨g, 0, none⟩), .func (.func F) #[.pointer (some ⟨g, 0, none⟩)] #[]] w (RetTaken c g w l (run r l)) := by
  have HP := Lib.hid hp
  have HC := Lib.hid hc
  have HS := Lib.hid hs
  have HB := Lib.hid hbig
  obtain ⟨C0, C1, F0, F1⟩ := box_cells2 hp.2.2.2.2
  obtain ⟨k, hk⟩ : ∃ k, c.n - l.length = k := ⟨_, rfl⟩
  rw [hk] at C1
  have HK := Lib.hid hk
  clear hp hc hs hbig hk
  go_enter Try.func48, Try.ntmps48
  go_wp2_with fail
  refine (HR.out w l HP.out).mono ?_
  rintro e w1 (⟨hT, rfl, hg1⟩ | ⟨t, hT, rfl, hg1, hp1⟩)
  · have hF : Hid (RetTaken c g w l (run r l) mis w1) := Lib.hid (Or.inl ⟨hT, rfl, hg1⟩)
    clear hT hg1 C0 C1 F0 F1
    go_wp2_with fail
    exact ⟨rfl, hF.out⟩
  · have HT := Lib.hid hT
    have HP1 := Lib.hid hp1
    have HG1 := Lib.hid hg1
    obtain ⟨p, rfl, _⟩ := run_pre hT
    clear hT hp1 hg1 C0 C1 F0 F1
    go_wp2_with fail
    refine (Since_any c HC.out w1 g p t a HS.out HP1.out (HP.out.part HP1.out).1 (HP.out.part HP1.out).2 HB.out k HK.out).mono ?_
    rintro e w2 ⟨hg2, v, rfl, hv⟩
    have hF : Hid (RetTaken c g w (p ++ t) (run r (p ++ t)) (.returned v) w2) := Lib.hid (Or.inr ⟨t, v, HT.out, rfl, by rw [cutL_app]; exact hv, grown_trans HG1.out (grown_any hg2), HP1.out.kept hg2⟩)
    clear hg2 hv
    go_wp2_with fail
    go_ret
    exact hF.out
end Go.Proofs.Ytcioefmldcmhgaa
