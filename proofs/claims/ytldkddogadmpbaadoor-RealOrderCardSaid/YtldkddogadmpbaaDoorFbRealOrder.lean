/- RealOrder: whatever the two rows of bytes, with one exponent the greater m is the greater number, and a step of the exponent makes it sixteen times as great: the law returns true and leaves its arguments. No condition. -/
import Derived.Deep.RegionHeld3
import Derived.Deep.LoopGhost
import Derived.Deep.QuietTactic
import Derived.BigQuiet
import Derived.Test.YtldkddogadmpbaaDoorMb3
import Derived.Test.YtldkddogadmpbaaDoorMa14
import Derived.Test.YtldkddogadmpbaaDoorMa26
namespace Go.Proofs.YtldkddogadmpbaaDoor
open Go.RowKit Mat
set_option maxRecDepth 100000
set_option linter.unusedVariables false
set_option linter.unusedSimpArgs false
theorem low_lay {e : Nat} {t : List Nat} (he : e < 128) (ht : t.length = 7) : bval (e :: t) = rv false e (mv t) := by
  unfold bval
  rw [if_pos (by simp [ht])]
  show rv (decide (128 ≤ e)) (e % 128) (mv t) = _
  rw [decide_eq_false (by omega), Nat.mod_eq_of_lt he]
theorem bord_snoc (xs ys : List Nat) (j : Nat) (hx : j < xs.length) (hy : j < ys.length) : bord (xs.drop j) (ys.drop j) = if xs[j] < ys[j] then -1 else if ys[j] < xs[j] then 1 else bord (xs.drop (j + 1)) (ys.drop (j + 1)) := by
  rw [List.drop_eq_getElem_cons hx, List.drop_eq_getElem_cons hy]; rfl
theorem sixteen_val : Rat.divInt 16 1 = 16 := by decide +kernel
theorem sixteen_bd : (16 : Rat).num.natAbs < B ^ 5 ∧ (16 : Rat).den < B ^ 5 := ⟨by unfold B; decide +kernel, by unfold B; decide +kernel⟩
theorem rv_bd (e m : Nat) (hm : m < 2 ^ 56) (he : e < 128) : (rv false e m).num.natAbs < B ^ 5 ∧ (rv false e m).den < B ^ 5 := by
  have h1 := sh_bd m e hm he
  unfold rv
  constructor
  · refine rdiv_nb ?_
    rw [Int.natAbs_mul, Int.natAbs_natCast]
    exact Nat.lt_of_le_of_lt (Nat.le_of_eq (Nat.one_mul _)) h1.1
  · exact rdiv_db (by rw [Int.natAbs_natCast]; exact h1.2) pow_ne
set_option maxHeartbeats 16000000 in
theorem realOrder_walk (w : World) (s t : Option Addr) (n m cap cap' : Nat) (l k : List Nat) (hn : l.length = n) (hb : BySl w s l) (hz : s = none → n = 0 ∧ cap = 0) (hr : n ≤ cap) (hc : cap ≤ 9223372036854775807) (hm : k.length = m) (kb : BySl w t k) (kz : t = none → m = 0 ∧ cap' = 0) (kr : m ≤ cap') (kc : cap' ≤ 9223372036854775807) (hTab : Tab w) :
    Calls Tryd.prog 6 #[.slice s n cap, .slice t m cap'] w (fun e w' => e = .returned (.bool true) ∧ w.grownBy w' none) := by
  have HTB : Hid (∀ W, w.grownBy W none → Tab W) := fun W hW => hTab.kept hW (by simp)
  clear hTab
  have hG : w.grownBy w none := grown_refl _ _
  by_cases h8 : n < 8
  · skip
    go_enter Tryd.func6, Tryd.ntmps6
    go_wp2_with fail
    refine (known_any w (HTB.out _ hG)).mono ?_
    rintro e aw1 ⟨rfl, gaw1⟩
    replace hG := grown_trans hG gaw1
    clear gaw1
    go_wp2_with fail
    go_ret
    exact ⟨rfl, hG⟩
  by_cases k8 : m < 8
  · skip
    go_enter Tryd.func6, Tryd.ntmps6
    go_wp2_with fail
    refine (known_any w (HTB.out _ hG)).mono ?_
    rintro e bw1 ⟨rfl, gbw1⟩
    replace hG := grown_trans hG gbw1
    clear gbw1
    go_wp2_with fail
    go_ret
    exact ⟨rfl, hG⟩
  have HI := BIn.take hn hb hz hr hc 8 (by omega) (by omega)
  have KI := BIn.take hm kb kz kr kc 8 (by omega) (by omega)
  obtain ⟨a0, rfl⟩ : ∃ a0, s = some a0 := by
    cases s with
    | none => have := hz rfl; omega
    | some a => exact ⟨a, rfl⟩
  obtain ⟨a1, rfl⟩ : ∃ a1, t = some a1 := by
    cases t with
    | none => have := kz rfl; omega
    | some a => exact ⟨a, rfl⟩
  clear hn hb hz hm kb kz
  obtain ⟨x0, tA, hA⟩ : ∃ x t, l.take 8 = x :: t := by
    cases h : l.take 8 with
    | nil => have := HI.len; rw [h] at this; simp at this
    | cons x t => exact ⟨x, t, rfl⟩
  obtain ⟨y0, tB, hB⟩ : ∃ x t, k.take 8 = x :: t := by
    cases h : k.take 8 with
    | nil => have := KI.len; rw [h] at this; simp at this
    | cons x t => exact ⟨x, t, rfl⟩
  rw [hA] at HI
  rw [hB] at KI
  clear hA hB
  have lA : tA.length = 7 := by have := HI.len; simpa using this
  have lB : tB.length = 7 := by have := KI.len; simpa using this
  have dA : ∀ x ∈ tA, x < 256 := fun x hx => HI.by'.2 x (List.mem_cons_of_mem _ hx)
  have dB : ∀ x ∈ tB, x < 256 := fun x hx => KI.by'.2 x (List.mem_cons_of_mem _ hx)
  have hx0 : x0 < 256 := HI.by'.2 x0 (by simp)
  have mA := mv_7 tA lA dA
  have mB := mv_7 tB lB dB
  have a1' := and127' x0 hx0
  obtain ⟨ex, hex⟩ : ∃ e, x0 % 128 = e := ⟨_, rfl⟩
  rw [hex] at a1'
  have he7 : ex < 128 := by omega
  obtain ⟨ez, hez⟩ : ∃ e, (ex + 1) % 128 = e := ⟨_, rfl⟩
  have he8 : ez < 128 := by omega
  have a2' : bits .and .u8 ((ex : Int) + 1) 127 = (ez : Int) := by
    have := and127' (ex + 1) (by omega)
    rw [hez] at this
    exact this
  have A1 := Lib.hid a1'
  have A2 := Lib.hid a2'
  obtain ⟨rA, hrA⟩ : ∃ r, rv false ex (mv tA) = r := ⟨_, rfl⟩
  obtain ⟨rB, hrB⟩ : ∃ r, rv false ex (mv tB) = r := ⟨_, rfl⟩
  obtain ⟨rZ, hrZ⟩ : ∃ r, rv false ez (mv tA) = r := ⟨_, rfl⟩
  have bA := rv_bd ex (mv tA) mA he7
  have bB := rv_bd ex (mv tB) mB he7
  have bZ := rv_bd ez (mv tA) mA he8
  rw [hrA] at bA
  rw [hrB] at bB
  rw [hrZ] at bZ
  have hcmp : rcmp rA rB = bord tA tB := by
    rw [← hrA, ← hrB, rcmp_rv]
    exact (bord_mv (l := 0 :: tA) (k := 0 :: tB) (by simp [lA]) (by simp [lB]) (fun x hx => by rcases List.mem_cons.1 hx with rfl | h; omega; exact dA x h) (fun x hx => by rcases List.mem_cons.1 hx with rfl | h; omega; exact dB x h)).symm
  have hstep : ez = 0 ∨ (0 < ez ∧ rZ = rA * 16) := by
    by_cases h : ex = 127
    · left; rw [← hez, h]
    · right
      have e1 : ez = ex + 1 := by rw [← hez]; exact Nat.mod_eq_of_lt (by omega)
      exact ⟨by omega, by rw [← hrZ, ← hrA, e1]; exact rv_step ex (mv tA)⟩
  have bM : (rA * 16).num.natAbs < B ^ 10 ∧ (rA * 16).den < B ^ 10 := ⟨qmul_nb bA.1 sixteen_bd.1, qmul_db bA.2 sixteen_bd.2⟩
  have C1 : Hid (∀ W, w.grownBy W none → Calls Tryd.prog 7 #[.slice (some a0) 8 cap] W (RetCopyB W (x0 :: tA))) := fun W hW => copied_blk W a0 8 cap _ HI.len (HI.by'.kept hW) rfl
  have C2 : Hid (∀ W, w.grownBy W none → Calls Tryd.prog 7 #[.slice (some a1) 8 cap'] W (RetCopyB W (y0 :: tB))) := fun W hW => copied_blk W a1 8 cap' _ KI.len (KI.by'.kept hW) rfl
  have C3 : Hid (∀ W g c, ByBlk W g (ex :: tA) → Calls Tryd.prog 7 #[.slice (some ⟨g, 0, none⟩) 8 c] W (RetCopyB W (ex :: tA))) := fun W g c h => copied_blk W _ 8 c _ (by simp [lA]) h.sl rfl
  have DA : Hid (∀ W g c, ByBlk W g (ex :: tA) → 8 ≤ c → c ≤ 9223372036854775807 → Tab W → Calls Tryd.prog 8 #[.slice (some ⟨g, 0, none⟩) 8 c] W (RetRatE W rA 0)) := fun W g c h h1 h2 hT => by
    have := Dec_any W (some ⟨g, 0, none⟩) 8 c _ (by simp [lA]) h.sl h1 h2 hT
    rw [low_lay he7 lA, hrA] at this
    have e : bcod (ex :: tA) = 0 := by unfold bcod; rw [if_pos (by simp [lA])]
    rw [e] at this; exact this
  have DB : Hid (∀ W g c, ByBlk W g (ex :: tB) → 8 ≤ c → c ≤ 9223372036854775807 → Tab W → Calls Tryd.prog 8 #[.slice (some ⟨g, 0, none⟩) 8 c] W (RetRatE W rB 0)) := fun W g c h h1 h2 hT => by
    have := Dec_any W (some ⟨g, 0, none⟩) 8 c _ (by simp [lB]) h.sl h1 h2 hT
    rw [low_lay he7 lB, hrB] at this
    have e : bcod (ex :: tB) = 0 := by unfold bcod; rw [if_pos (by simp [lB])]
    rw [e] at this; exact this
  have DZ : Hid (∀ W g c, ByBlk W g (ez :: tA) → 8 ≤ c → c ≤ 9223372036854775807 → Tab W → Calls Tryd.prog 8 #[.slice (some ⟨g, 0, none⟩) 8 c] W (RetRatE W rZ 0)) := fun W g c h h1 h2 hT => by
    have := Dec_any W (some ⟨g, 0, none⟩) 8 c _ (by simp [lA]) h.sl h1 h2 hT
    rw [low_lay he8 lA, hrZ] at this
    have e : bcod (ez :: tA) = 0 := by unfold bcod; rw [if_pos (by simp [lA])]
    rw [e] at this; exact this
  have O16 : Hid (∀ W, Tab W → Calls Tryd.prog 19 #[.int .i64 16, .int .i64 1] W (RetRatE W 16 0)) := fun W hT => by
    have h := FOf_any W 16 1 (by omega) (by omega) (by omega) (by omega) hT
    rw [sixteen_val, if_neg (by decide)] at h; exact h
  have CMP : Hid (∀ W v u, RatV W v rA → RatV W u rB → Calls Tryd.prog 16 #[v, u] W (fun e w' => e = .returned (.int .i64 (bord tA tB)) ∧ W.grownBy w' none)) := fun W v u h1 h2 => by have h := FCmp_any W v u rA rB 5 h1 h2 (by omega) bA.1 bA.2 bB.1 bB.2; rw [hcmp] at h; exact h
  have MUL : Hid (∀ W v u, RatV W v rA → RatV W u 16 → Tab W → Calls Tryd.prog 20 #[v, u] W (RetRat W (rA * 16))) := fun W v u h1 h2 hT => FMul_any W v u rA 16 5 h1 h2 (by omega) bA.1 bA.2 sixteen_bd.1 sixteen_bd.2 hT
  have CMZ : Hid (rZ = rA * 16 → ∀ W v u, RatV W v rZ → RatV W u (rA * 16) → Calls Tryd.prog 16 #[v, u] W (fun e w' => e = .returned (.int .i64 0) ∧ W.grownBy w' none)) := fun he W v u h1 h2 => by rw [← he] at h2 bM; have h := FCmp_any W v u rZ rZ 10 h1 h2 (by omega) bM.1 bM.2 bM.1 bM.2; rw [rcmp_self] at h; exact h
  have HST := Lib.hid hstep
  have HLA := Lib.hid lA
  have HLB := Lib.hid lB
  clear a1' a2' hex hez hrA hrB hrZ bA bB bZ hcmp hstep bM mA mB lA lB dA dB
  replace HI := Lib.hid HI
  replace KI := Lib.hid KI
  go_enter Tryd.func6, Tryd.ntmps6
  go_wp2_with fail
  have hcap8 : (8 : Int) ≤ (cap : Int) := by omega
  have hcap9 : (8 : Int) ≤ (cap' : Int) := by omega
  have hcapn : 8 ≤ cap := by omega
  have hcapm : 8 ≤ cap' := by omega
  have HG9 := Lib.hid hG
  go_cut [0, 1] (fun p q wx => ∃ ga ca gb cb, p = .slice (some ⟨ga, 0, none⟩) 8 ca ∧ q = .slice (some ⟨gb, 0, none⟩) 8 cb ∧ ByBlk wx ga (x0 :: tA) ∧ ByBlk wx gb (y0 :: tB) ∧ ga < gb ∧ w.heap.size ≤ ga ∧ 8 ≤ ca ∧ ca ≤ 9223372036854775807 ∧ 8 ≤ cb ∧ cb ≤ 9223372036854775807 ∧ w.grownBy wx none)
  case first =>
   go_region_held3 (fun w' => True)
     (first | assumption | exact trivial | go_keep)
     (first
       | (go_at_call 7; (with_reducible refine (C1.out w.drew (grown_trans hG (grown_drew (grown_refl _ _)))).mono ?_); rintro e rw1_1 ⟨ga, ca, rfl, pa, hga, ha8, ham, grw1_1⟩; have hGrw1_1 := grown_pre w grw1_1 rfl rfl rfl rfl; clear grw1_1)
       | (go_at_call 7; (with_reducible refine (C2.out rw1_1 (grown_trans hG hGrw1_1)).mono ?_); rintro e rw1_2 ⟨gb, cb, rfl, pb, hgb, hb8, hbm, grw1_2⟩; have hab := Nat.lt_of_lt_of_le pa.lt hgb; have hGrw1_2 := grown_trans hGrw1_1 grw1_2; replace pa := pa.kept grw1_2; clear grw1_2))
   all_goals (
     go_wp2_with fail
     go_meet
     exact ⟨ga, ca, gb, cb, rfl, rfl, pa, pb, hab, hga, ha8, ham, hb8, hbm, grown_trans hG hGrw1_2⟩)
  case rest =>
   clear hG
   obtain ⟨ga, ca, gb, cb, rfl, rfl, pa, pb, hab, hga, ha8, ham, hb8, hbm, hG⟩ := hcut
   have ca0 : wc.cell? ⟨ga, 0, none⟩ = some (.int .u8 (x0 : Int)) := pa.cell 0 (by simp)
   have fa0 := pa.free 0
   have fb0 := pb.free 0
   have cb0 : wc.cell? ⟨gb, 0, none⟩ = some (.int .u8 (y0 : Int)) := pb.cell 0 (by simp)
   have a1' := A1.out
   go_wp2_with fail
   replace pb := (pb.unset (show gb ≠ ga by omega) (.int .u8 (ex : Int))).set (show ex < 256 by omega)
   replace pa := (pa.set (show ex < 256 by omega)).unset (show ga ≠ gb by omega) (.int .u8 (ex : Int))
   replace hG := grown_set1 (g := gb) (grown_set1 (g := ga) hG (by omega) (.int .u8 (ex : Int))) (by omega) (.int .u8 (ex : Int))
   generalize ((wc.setCell ⟨ga, 0, none⟩ (.int .u8 (ex : Int))).setCell ⟨gb, 0, none⟩ (.int .u8 (ex : Int))) = w0 at *
   clear ca0 fa0 fb0 cb0 a1'
   refine (DA.out w0 _ _ pa ha8 ham (HTB.out _ hG)).mono ?_
   rintro e w1 ⟨_, rfl, ⟨sa, xa, ba, sa', xa', ba', rfl, ha, ha'⟩, gw1⟩
   have qa : RatV w1 (.agg #[.slice sa xa.length xa.length, .bool ba, .slice sa' xa'.length xa'.length, .bool ba']) (rA) := ⟨sa, xa, ba, sa', xa', ba', rfl, ha, ha'⟩
   replace pa := pa.kept gw1
   replace pb := pb.kept gw1
   replace hG := grown_trans hG gw1
   clear gw1
   clear ha ha'
   have gbw1 := (World.grownBy_alloc w1 (.cells #[.slice sa xa.length xa.length, .bool ba, .slice sa' xa'.length xa'.length, .bool ba'] 30) none)
   have Ba := (heap_new w1 (.cells #[.slice sa xa.length xa.length, .bool ba, .slice sa' xa'.length xa'.length, .bool ba'] 30) (w1.heap.size) rfl)
   have hzw1 : Hid (w.heap.size ≤ w1.heap.size) := Lib.hid hG.size
   replace pa := pa.kept gbw1
   replace pb := pb.kept gbw1
   replace qa := qa.kept gbw1
   replace hG := grown_trans hG gbw1
   clear gbw1
   obtain ⟨Ca0, Ca1, Ca2, Ca3, Fa0, Fa1, Fa2, Fa3⟩ := box_cells4 Ba
   go_wp2_with fail
   generalize (w1.alloc (.cells #[.slice sa xa.length xa.length, .bool ba, .slice sa' xa'.length xa'.length, .bool ba'] 30)) = w2 at *
   generalize w1.heap.size = aw1 at *
   replace hzw1 := hzw1.out
   clear Ca0 Ca1 Ca2 Ca3 Fa0 Fa1 Fa2 Fa3
   refine (DB.out w2 _ _ pb hb8 hbm (HTB.out _ hG)).mono ?_
   rintro e w3 ⟨_, rfl, ⟨sb, xb, bb, sb', xb', bb', rfl, hb, hb'⟩, gw3⟩
   have qb : RatV w3 (.agg #[.slice sb xb.length xb.length, .bool bb, .slice sb' xb'.length xb'.length, .bool bb']) (rB) := ⟨sb, xb, bb, sb', xb', bb', rfl, hb, hb'⟩
   replace Ba := heap_kept gw3 Ba
   replace pa := pa.kept gw3
   replace pb := pb.kept gw3
   replace qa := qa.kept gw3
   replace hG := grown_trans hG gw3
   clear gw3
   clear hb hb'
   obtain ⟨Ca0, Ca1, Ca2, Ca3, Fa0, Fa1, Fa2, Fa3⟩ := box_cells4 Ba
   have gbw3 := (World.grownBy_alloc w3 (.cells #[.slice sb xb.length xb.length, .bool bb, .slice sb' xb'.length xb'.length, .bool bb'] 30) none)
   have Bb := (heap_new w3 (.cells #[.slice sb xb.length xb.length, .bool bb, .slice sb' xb'.length xb'.length, .bool bb'] 30) (w3.heap.size) rfl)
   have hzw3 : Hid (w.heap.size ≤ w3.heap.size) := Lib.hid hG.size
   have hlaw3 : Hid (aw1 < w3.heap.size) := Lib.hid (Array.getElem?_eq_some_iff.1 Ba).1
   clear Ca0 Ca1 Ca2 Ca3 Fa0 Fa1 Fa2 Fa3
   replace Ba := heap_kept gbw3 Ba
   replace pa := pa.kept gbw3
   replace pb := pb.kept gbw3
   replace qa := qa.kept gbw3
   replace qb := qb.kept gbw3
   replace hG := grown_trans hG gbw3
   clear gbw3
   obtain ⟨Ca0, Ca1, Ca2, Ca3, Fa0, Fa1, Fa2, Fa3⟩ := box_cells4 Ba
   obtain ⟨Cb0, Cb1, Cb2, Cb3, Fb0, Fb1, Fb2, Fb3⟩ := box_cells4 Bb
   go_wp2_with fail
   generalize (w3.alloc (.cells #[.slice sb xb.length xb.length, .bool bb, .slice sb' xb'.length xb'.length, .bool bb'] 30)) = w4 at *
   generalize w3.heap.size = aw3 at *
   replace hzw3 := hzw3.out
   replace hlaw3 := hlaw3.out
   clear Ca0 Ca1 Ca2 Ca3 Fa0 Fa1 Fa2 Fa3 Cb0 Cb1 Cb2 Cb3 Fb0 Fb1 Fb2 Fb3
   refine (C3.out w4 _ _ pa).mono ?_
   rintro e w5 ⟨gc, cc, rfl, pc, hgc, hc8, hcm, gw5⟩
   have hac := Nat.lt_of_lt_of_le pa.lt hgc; have hbc := Nat.lt_of_lt_of_le pb.lt hgc
   have hac1 := Nat.lt_of_lt_of_le (heap_lt Ba) hgc; have hac2 := Nat.lt_of_lt_of_le (heap_lt Bb) hgc
   have hwc := Nat.le_trans hG.size hgc
   replace Ba := heap_kept gw5 Ba
   replace Bb := heap_kept gw5 Bb
   replace pa := pa.kept gw5
   replace pb := pb.kept gw5
   replace qa := qa.kept gw5
   replace qb := qb.kept gw5
   replace hG := grown_trans hG gw5
   clear gw5
   obtain ⟨Ca0, Ca1, Ca2, Ca3, Fa0, Fa1, Fa2, Fa3⟩ := box_cells4 Ba
   obtain ⟨Cb0, Cb1, Cb2, Cb3, Fb0, Fb1, Fb2, Fb3⟩ := box_cells4 Bb
   have cc0 : w5.cell? ⟨gc, 0, none⟩ = some (.int .u8 (ex : Int)) := pc.cell 0 (by simp)
   have fc0 := pc.free 0
   have a2' := A2.out
   go_wp2_with fail
   clear Ca0 Ca1 Ca2 Ca3 Fa0 Fa1 Fa2 Fa3 Cb0 Cb1 Cb2 Cb3 Fb0 Fb1 Fb2 Fb3
   clear cc0 fc0 a2'
   replace qa := qa.setu pc (.int .u8 (ez : Int))
   replace qb := qb.setu pc (.int .u8 (ez : Int))
   replace pa := pa.unset (show ga ≠ gc by omega) (.int .u8 (ez : Int))
   replace pb := pb.unset (show gb ≠ gc by omega) (.int .u8 (ez : Int))
   replace Ba := heap_unset Ba (show aw1 ≠ gc by omega) (.int .u8 (ez : Int))
   replace Bb := heap_unset Bb (show aw3 ≠ gc by omega) (.int .u8 (ez : Int))
   replace pc := pc.set (show ez < 256 by omega)
   replace hG := grown_set1 (g := gc) hG (by omega) (.int .u8 (ez : Int))
   generalize (w5.setCell ⟨gc, 0, none⟩ (.int .u8 (ez : Int))) = w6 at *
   refine (DZ.out w6 _ _ pc hc8 hcm (HTB.out _ hG)).mono ?_
   rintro e w7 ⟨_, rfl, ⟨sz, xz, bz, sz', xz', bz', rfl, hz, hz'⟩, gw7⟩
   have qz : RatV w7 (.agg #[.slice sz xz.length xz.length, .bool bz, .slice sz' xz'.length xz'.length, .bool bz']) (rZ) := ⟨sz, xz, bz, sz', xz', bz', rfl, hz, hz'⟩
   replace Ba := heap_kept gw7 Ba
   replace Bb := heap_kept gw7 Bb
   replace pa := pa.kept gw7
   replace pb := pb.kept gw7
   replace qa := qa.kept gw7
   replace qb := qb.kept gw7
   replace pc := pc.kept gw7
   replace hG := grown_trans hG gw7
   clear gw7
   clear hz hz'
   obtain ⟨Ca0, Ca1, Ca2, Ca3, Fa0, Fa1, Fa2, Fa3⟩ := box_cells4 Ba
   obtain ⟨Cb0, Cb1, Cb2, Cb3, Fb0, Fb1, Fb2, Fb3⟩ := box_cells4 Bb
   have gbw7 := (World.grownBy_alloc w7 (.cells #[.slice sz xz.length xz.length, .bool bz, .slice sz' xz'.length xz'.length, .bool bz'] 30) none)
   have Bz := (heap_new w7 (.cells #[.slice sz xz.length xz.length, .bool bz, .slice sz' xz'.length xz'.length, .bool bz'] 30) (w7.heap.size) rfl)
   have hzw7 : Hid (w.heap.size ≤ w7.heap.size) := Lib.hid hG.size
   have hlaw7 : Hid (aw1 < w7.heap.size) := Lib.hid (Array.getElem?_eq_some_iff.1 Ba).1
   have hlbw7 : Hid (aw3 < w7.heap.size) := Lib.hid (Array.getElem?_eq_some_iff.1 Bb).1
   clear Ca0 Ca1 Ca2 Ca3 Fa0 Fa1 Fa2 Fa3 Cb0 Cb1 Cb2 Cb3 Fb0 Fb1 Fb2 Fb3
   replace Ba := heap_kept gbw7 Ba
   replace Bb := heap_kept gbw7 Bb
   replace pa := pa.kept gbw7
   replace pb := pb.kept gbw7
   replace qa := qa.kept gbw7
   replace qb := qb.kept gbw7
   replace pc := pc.kept gbw7
   replace qz := qz.kept gbw7
   replace hG := grown_trans hG gbw7
   clear gbw7
   obtain ⟨Ca0, Ca1, Ca2, Ca3, Fa0, Fa1, Fa2, Fa3⟩ := box_cells4 Ba
   obtain ⟨Cb0, Cb1, Cb2, Cb3, Fb0, Fb1, Fb2, Fb3⟩ := box_cells4 Bb
   obtain ⟨Cz0, Cz1, Cz2, Cz3, Fz0, Fz1, Fz2, Fz3⟩ := box_cells4 Bz
   go_wp2_with fail
   generalize (w7.alloc (.cells #[.slice sz xz.length xz.length, .bool bz, .slice sz' xz'.length xz'.length, .bool bz'] 30)) = w8 at *
   generalize w7.heap.size = aw7 at *
   replace hzw7 := hzw7.out
   replace hlaw7 := hlaw7.out
   replace hlbw7 := hlbw7.out
   clear Ca0 Ca1 Ca2 Ca3 Fa0 Fa1 Fa2 Fa3 Cb0 Cb1 Cb2 Cb3 Fb0 Fb1 Fb2 Fb3 Cz0 Cz1 Cz2 Cz3 Fz0 Fz1 Fz2 Fz3
   refine (O16.out w8 (HTB.out _ hG)).mono ?_
   rintro e w9 ⟨_, rfl, ⟨ss, xs, bs, ss', xs', bs', rfl, hs, hs'⟩, gw9⟩
   have qs : RatV w9 (.agg #[.slice ss xs.length xs.length, .bool bs, .slice ss' xs'.length xs'.length, .bool bs']) (16) := ⟨ss, xs, bs, ss', xs', bs', rfl, hs, hs'⟩
   replace Ba := heap_kept gw9 Ba
   replace Bb := heap_kept gw9 Bb
   replace Bz := heap_kept gw9 Bz
   replace pa := pa.kept gw9
   replace pb := pb.kept gw9
   replace qa := qa.kept gw9
   replace qb := qb.kept gw9
   replace pc := pc.kept gw9
   replace qz := qz.kept gw9
   replace hG := grown_trans hG gw9
   clear gw9
   clear hs hs'
   obtain ⟨Ca0, Ca1, Ca2, Ca3, Fa0, Fa1, Fa2, Fa3⟩ := box_cells4 Ba
   obtain ⟨Cb0, Cb1, Cb2, Cb3, Fb0, Fb1, Fb2, Fb3⟩ := box_cells4 Bb
   obtain ⟨Cz0, Cz1, Cz2, Cz3, Fz0, Fz1, Fz2, Fz3⟩ := box_cells4 Bz
   have gbw9 := (World.grownBy_alloc w9 (.cells #[.slice ss xs.length xs.length, .bool bs, .slice ss' xs'.length xs'.length, .bool bs'] 30) none)
   have Bs := (heap_new w9 (.cells #[.slice ss xs.length xs.length, .bool bs, .slice ss' xs'.length xs'.length, .bool bs'] 30) (w9.heap.size) rfl)
   have hzw9 : Hid (w.heap.size ≤ w9.heap.size) := Lib.hid hG.size
   have hlaw9 : Hid (aw1 < w9.heap.size) := Lib.hid (Array.getElem?_eq_some_iff.1 Ba).1
   have hlbw9 : Hid (aw3 < w9.heap.size) := Lib.hid (Array.getElem?_eq_some_iff.1 Bb).1
   have hlzw9 : Hid (aw7 < w9.heap.size) := Lib.hid (Array.getElem?_eq_some_iff.1 Bz).1
   clear Ca0 Ca1 Ca2 Ca3 Fa0 Fa1 Fa2 Fa3 Cb0 Cb1 Cb2 Cb3 Fb0 Fb1 Fb2 Fb3 Cz0 Cz1 Cz2 Cz3 Fz0 Fz1 Fz2 Fz3
   replace Ba := heap_kept gbw9 Ba
   replace Bb := heap_kept gbw9 Bb
   replace Bz := heap_kept gbw9 Bz
   replace pa := pa.kept gbw9
   replace pb := pb.kept gbw9
   replace qa := qa.kept gbw9
   replace qb := qb.kept gbw9
   replace pc := pc.kept gbw9
   replace qz := qz.kept gbw9
   replace qs := qs.kept gbw9
   replace hG := grown_trans hG gbw9
   clear gbw9
   obtain ⟨Ca0, Ca1, Ca2, Ca3, Fa0, Fa1, Fa2, Fa3⟩ := box_cells4 Ba
   obtain ⟨Cb0, Cb1, Cb2, Cb3, Fb0, Fb1, Fb2, Fb3⟩ := box_cells4 Bb
   obtain ⟨Cz0, Cz1, Cz2, Cz3, Fz0, Fz1, Fz2, Fz3⟩ := box_cells4 Bz
   obtain ⟨Cs0, Cs1, Cs2, Cs3, Fs0, Fs1, Fs2, Fs3⟩ := box_cells4 Bs
   go_wp2_with fail
   generalize (w9.alloc (.cells #[.slice ss xs.length xs.length, .bool bs, .slice ss' xs'.length xs'.length, .bool bs'] 30)) = w10 at *
   generalize w9.heap.size = aw9 at *
   replace hzw9 := hzw9.out
   replace hlaw9 := hlaw9.out
   replace hlbw9 := hlbw9.out
   replace hlzw9 := hlzw9.out
   clear Ca0 Ca1 Ca2 Ca3 Fa0 Fa1 Fa2 Fa3 Cb0 Cb1 Cb2 Cb3 Fb0 Fb1 Fb2 Fb3 Cz0 Cz1 Cz2 Cz3 Fz0 Fz1 Fz2 Fz3 Cs0 Cs1 Cs2 Cs3 Fs0 Fs1 Fs2 Fs3
   refine (known_any w10 (HTB.out _ hG)).mono ?_
   rintro e w11 ⟨rfl, gw11⟩
   replace Ba := heap_kept gw11 Ba
   replace Bb := heap_kept gw11 Bb
   replace Bz := heap_kept gw11 Bz
   replace Bs := heap_kept gw11 Bs
   replace pa := pa.kept gw11
   replace pb := pb.kept gw11
   replace qa := qa.kept gw11
   replace qb := qb.kept gw11
   replace pc := pc.kept gw11
   replace qz := qz.kept gw11
   replace qs := qs.kept gw11
   replace hG := grown_trans hG gw11
   clear gw11
   obtain ⟨Ca0, Ca1, Ca2, Ca3, Fa0, Fa1, Fa2, Fa3⟩ := box_cells4 Ba
   obtain ⟨Cb0, Cb1, Cb2, Cb3, Fb0, Fb1, Fb2, Fb3⟩ := box_cells4 Bb
   obtain ⟨Cz0, Cz1, Cz2, Cz3, Fz0, Fz1, Fz2, Fz3⟩ := box_cells4 Bz
   obtain ⟨Cs0, Cs1, Cs2, Cs3, Fs0, Fs1, Fs2, Fs3⟩ := box_cells4 Bs
   go_wp2_with fail
   clear Ca0 Ca1 Ca2 Ca3 Fa0 Fa1 Fa2 Fa3 Cb0 Cb1 Cb2 Cb3 Fb0 Fb1 Fb2 Fb3 Cz0 Cz1 Cz2 Cz3 Fz0 Fz1 Fz2 Fz3 Cs0 Cs1 Cs2 Cs3 Fs0 Fs1 Fs2 Fs3
   go_loopw [14, 15] (fun o i wr => ∃ k q : Nat, k ≤ 7 ∧ i = .int .i64 (k : Int) ∧ o = .int .i64 (bord (tA.drop k) (tB.drop k)) ∧ wr = w11.drewN q) (fun _ i _ => (intOf i).toNat)
   case atStart => exact ⟨7, 0, Nat.le_refl _, rfl, by rw [List.drop_eq_nil_of_le (by rw [HLA.out]; omega), List.drop_eq_nil_of_le (by rw [HLB.out]; omega)]; rfl, rfl⟩
   case round =>
     obtain ⟨k, q, hk, rfl, rfl, rfl⟩ := hrel
     by_cases h0 : 0 < k
     · obtain ⟨j, rfl⟩ : ∃ j, k = j + 1 := ⟨k - 1, by omega⟩
       have hja : j < tA.length := by rw [HLA.out]; omega
       have hjb : j < tB.length := by rw [HLB.out]; omega
       have hs := bord_snoc tA tB j hja hjb
       have ca := pa.cell (j + 1) (by simp; omega)
       have cb' := pb.cell (j + 1) (by simp; omega)
       simp only [List.getElem_cons_succ] at ca cb'
       generalize tA[j] = x at *
       generalize tB[j] = y at *
       have HS := Lib.hid hs
       clear hs
       generalize bord (tA.drop (j + 1)) (tB.drop (j + 1)) = o at *
       rcases Nat.lt_trichotomy x y with hxy | hxy | hxy
       · have e1 : decide ((x : Int) < (y : Int)) = true := decide_eq_true (by omega)
         have e2 : decide ((y : Int) < (x : Int)) = false := decide_eq_false (by omega)
         have HV : Hid ((-1 : Int) = bord (tA.drop j) (tB.drop j)) := Lib.hid (by rw [HS.out, if_pos hxy])
         go_wp2_with fail
         go_quiet (fail)
         go_wp2_with fail
         go_quiet (fail)
         go_wp2_with fail
         exact ⟨⟨j, _, by omega, rfl, by rw [HV.out], rfl⟩, by simp [intOf]⟩
       · have e1 : decide ((x : Int) < (y : Int)) = false := decide_eq_false (by omega)
         have e2 : decide ((y : Int) < (x : Int)) = false := decide_eq_false (by omega)
         have HV : Hid (o = bord (tA.drop j) (tB.drop j)) := Lib.hid (by rw [HS.out, if_neg (by omega), if_neg (by omega)])
         go_wp2_with fail
         go_quiet (fail)
         go_wp2_with fail
         go_quiet (fail)
         go_wp2_with fail
         exact ⟨⟨j, _, by omega, rfl, by rw [HV.out], rfl⟩, by simp [intOf]⟩
       · have e1 : decide ((x : Int) < (y : Int)) = false := decide_eq_false (by omega)
         have e2 : decide ((y : Int) < (x : Int)) = true := decide_eq_true (by omega)
         have HV : Hid ((1 : Int) = bord (tA.drop j) (tB.drop j)) := Lib.hid (by rw [HS.out, if_neg (by omega), if_pos hxy])
         go_wp2_with fail
         go_quiet (fail)
         go_wp2_with fail
         go_quiet (fail)
         go_wp2_with fail
         exact ⟨⟨j, _, by omega, rfl, by rw [HV.out], rfl⟩, by simp [intOf]⟩
     · obtain rfl : k = 0 := by omega
       simp only [List.drop_zero]
       generalize bord tA tB = o at *
       have gq := grown_drewN w11 q none
       replace Ba := heap_kept gq Ba
       replace Bb := heap_kept gq Bb
       replace Bz := heap_kept gq Bz
       replace Bs := heap_kept gq Bs
       replace pa := pa.kept gq
       replace pb := pb.kept gq
       replace qa := qa.kept gq
       replace qb := qb.kept gq
       replace pc := pc.kept gq
       replace qz := qz.kept gq
       replace qs := qs.kept gq
       replace hG := grown_trans hG gq
       clear gq
       generalize w11.drewN q = w12 at *
       rcases HST.out with h9 | ⟨h9, he9⟩
       · skip
         clear HST
         obtain ⟨Ca0, Ca1, Ca2, Ca3, Fa0, Fa1, Fa2, Fa3⟩ := box_cells4 Ba
         obtain ⟨Cb0, Cb1, Cb2, Cb3, Fb0, Fb1, Fb2, Fb3⟩ := box_cells4 Bb
         obtain ⟨Cz0, Cz1, Cz2, Cz3, Fz0, Fz1, Fz2, Fz3⟩ := box_cells4 Bz
         obtain ⟨Cs0, Cs1, Cs2, Cs3, Fs0, Fs1, Fs2, Fs3⟩ := box_cells4 Bs
         subst h9
         go_wp2_with fail
         have cc0 : w12.cell? ⟨gc, 0, none⟩ = some (.int .u8 (0)) := pc.cell 0 (by simp)
         refine wp_region_held_drew (S := fun w' => w'.cell? ⟨aw1, 0, none⟩ = some (.slice sa xa.length xa.length) ∧ w'.cell? ⟨aw1, 1, none⟩ = some (.bool ba) ∧ w'.cell? ⟨aw1, 2, none⟩ = some (.slice sa' xa'.length xa'.length) ∧ w'.cell? ⟨aw1, 3, none⟩ = some (.bool ba') ∧ w'.cell? ⟨aw3, 0, none⟩ = some (.slice sb xb.length xb.length) ∧ w'.cell? ⟨aw3, 1, none⟩ = some (.bool bb) ∧ w'.cell? ⟨aw3, 2, none⟩ = some (.slice sb' xb'.length xb'.length) ∧ w'.cell? ⟨aw3, 3, none⟩ = some (.bool bb') ∧ w'.cell? ⟨gc, 0, none⟩ = some (.int .u8 (0))) (by kernel_rfl) (by exact ⟨Ca0, Ca1, Ca2, Ca3, Cb0, Cb1, Cb2, Cb3, cc0⟩) (fun hHeld => ?_)
         refine wpAnyH_take (i := 0) (v := ?_) rfl (by kernel_rfl) (by kernel_rfl) (by kernel_rfl) (fun _ _ _ h => h) (Or.inl ⟨by rfl, ?_⟩) (by assumption) ?_
         rotate_left
         · (intro w hSw; (try dsimp only at hSw); go_simp; (try with_reducible rfl))
         try simp only [Act.put, List.getElem_toArray, List.getElem_cons_zero, List.getElem_cons_succ, List.setIfInBounds_toArray, List.set_cons_zero, List.set_cons_succ]
         refine wpAnyH_take (i := 1) (v := ?_) rfl (by kernel_rfl) (by kernel_rfl) (by kernel_rfl) (fun _ _ _ h => h) (Or.inl ⟨by rfl, ?_⟩) (by assumption) ?_
         rotate_left
         · (intro w hSw; (try dsimp only at hSw); go_simp; (try with_reducible rfl))
         try simp only [Act.put, List.getElem_toArray, List.getElem_cons_zero, List.getElem_cons_succ, List.setIfInBounds_toArray, List.set_cons_zero, List.set_cons_succ]
         refine wpAnyH_take (i := 3) (v := ?_) rfl (by kernel_rfl) (by kernel_rfl) (by kernel_rfl) (fun _ _ _ h => h) (Or.inl ⟨by rfl, ?_⟩) (by assumption) ?_
         rotate_left
         · (intro w hSw; (try dsimp only at hSw); go_simp; (try with_reducible rfl))
         try simp only [Act.put, List.getElem_toArray, List.getElem_cons_zero, List.getElem_cons_succ, List.setIfInBounds_toArray, List.set_cons_zero, List.set_cons_succ]
         refine wpAnyH_ready (rs := [2]) (by kernel_rfl) (by simp) ?_
         refine AllReadyH.cons rfl (fun KQ hKQ => ?_) AllReadyH.nil
         go_simp
         (go_at_call 16; (with_reducible refine (CMP.out w12.drew _ _ (qa.kept (grown_drew (grown_refl _ _))) (qb.kept (grown_drew (grown_refl _ _)))).mono ?_); rintro e xw13_1 ⟨rfl, gxw13_1⟩; have hGxw13_1 := grown_pre w12 gxw13_1 rfl rfl rfl rfl; have hSxw13_1 := (And.intro (hGxw13_1.cell Ca0 (by simp)) (And.intro (hGxw13_1.cell Ca1 (by simp)) (And.intro (hGxw13_1.cell Ca2 (by simp)) (And.intro (hGxw13_1.cell Ca3 (by simp)) (And.intro (hGxw13_1.cell Cb0 (by simp)) (And.intro (hGxw13_1.cell Cb1 (by simp)) (And.intro (hGxw13_1.cell Cb2 (by simp)) (And.intro (hGxw13_1.cell Cb3 (by simp)) (hGxw13_1.cell cc0 (by simp)))))))))); clear gxw13_1)
         (try go_wp2_with fail)
         refine hKQ.out _ _ (by exact hSxw13_1) (fun hHeld => ?_)
         clear hKQ KQ
         try simp only [Act.put, List.getElem_toArray, List.getElem_cons_zero, List.getElem_cons_succ, List.setIfInBounds_toArray, List.set_cons_zero, List.set_cons_succ]
         refine wpAnyH_take (i := 4) (v := ?_) rfl (by kernel_rfl) (by kernel_rfl) (by kernel_rfl) (fun _ _ _ h => h) (Or.inl ⟨by rfl, ?_⟩) (by assumption) ?_
         rotate_left
         · (intro w hSw; (try dsimp only at hSw); go_simp; (try with_reducible rfl))
         try simp only [Act.put, List.getElem_toArray, List.getElem_cons_zero, List.getElem_cons_succ, List.setIfInBounds_toArray, List.set_cons_zero, List.set_cons_succ]
         refine wpAnyH_take (i := 5) (v := ?_) rfl (by kernel_rfl) (by kernel_rfl) (by kernel_rfl) (fun _ _ _ h => h) (Or.inl ⟨by rfl, ?_⟩) (by assumption) ?_
         rotate_left
         · (intro w hSw; (try dsimp only at hSw); go_simp; (try with_reducible rfl))
         try simp only [Act.put, List.getElem_toArray, List.getElem_cons_zero, List.getElem_cons_succ, List.setIfInBounds_toArray, List.set_cons_zero, List.set_cons_succ]
         refine wpAnyH_take (i := 6) (v := ?_) rfl (by kernel_rfl) (by kernel_rfl) (by kernel_rfl) (fun _ _ _ h => h) (Or.inl ⟨by rfl, ?_⟩) (by assumption) ?_
         rotate_left
         · (intro w hSw; (try dsimp only at hSw); go_simp; (try with_reducible rfl))
         try simp only [Act.put, List.getElem_toArray, List.getElem_cons_zero, List.getElem_cons_succ, List.setIfInBounds_toArray, List.set_cons_zero, List.set_cons_succ]
         refine wpAnyH_take (i := 7) (v := ?_) rfl (by kernel_rfl) (by kernel_rfl) (by kernel_rfl) (fun _ _ _ h => h) (Or.inl ⟨by rfl, ?_⟩) (by assumption) ?_
         rotate_left
         · (intro w hSw; (try dsimp only at hSw); go_simp; (try with_reducible rfl))
         try simp only [Act.put, List.getElem_toArray, List.getElem_cons_zero, List.getElem_cons_succ, List.setIfInBounds_toArray, List.set_cons_zero, List.set_cons_succ]
         refine wpAnyH_take (i := 8) (v := ?_) rfl (by kernel_rfl) (by kernel_rfl) (by kernel_rfl) (fun _ _ _ h => h) (Or.inl ⟨by rfl, ?_⟩) (by assumption) ?_
         rotate_left
         · (intro w hSw; (try dsimp only at hSw); go_simp; (try with_reducible rfl))
         try simp only [Act.put, List.getElem_toArray, List.getElem_cons_zero, List.getElem_cons_succ, List.setIfInBounds_toArray, List.set_cons_zero, List.set_cons_succ]
         refine wpAnyH_take (i := 9) (v := ?_) rfl (by kernel_rfl) (by kernel_rfl) (by kernel_rfl) (fun _ _ _ h => h) (Or.inl ⟨by rfl, ?_⟩) (by assumption) ?_
         rotate_left
         · (intro w hSw; (try dsimp only at hSw); go_simp; (try with_reducible rfl))
         try simp only [Act.put, List.getElem_toArray, List.getElem_cons_zero, List.getElem_cons_succ, List.setIfInBounds_toArray, List.set_cons_zero, List.set_cons_succ]
         refine wpAnyH_take (i := 10) (v := ?_) rfl (by kernel_rfl) (by kernel_rfl) (by kernel_rfl) (fun _ _ _ h => h) (Or.inl ⟨by rfl, ?_⟩) (by assumption) ?_
         rotate_left
         · (intro w hSw; (try dsimp only at hSw); go_simp; (try with_reducible rfl))
         try simp only [Act.put, List.getElem_toArray, List.getElem_cons_zero, List.getElem_cons_succ, List.setIfInBounds_toArray, List.set_cons_zero, List.set_cons_succ]
         refine wpAnyH_take (i := 11) (v := undef) rfl (by kernel_rfl) (by kernel_rfl) (by kernel_rfl) (fun _ _ _ h => h) (Or.inr ⟨by rfl, rfl⟩) (by assumption) ?_
         try simp only [Act.put, List.getElem_toArray, List.getElem_cons_zero, List.getElem_cons_succ, List.setIfInBounds_toArray, List.set_cons_zero, List.set_cons_succ]
         refine wpAnyH_take (i := 12) (v := undef) rfl (by kernel_rfl) (by kernel_rfl) (by kernel_rfl) (fun _ _ _ h => h) (Or.inr ⟨by rfl, rfl⟩) (by assumption) ?_
         try simp only [Act.put, List.getElem_toArray, List.getElem_cons_zero, List.getElem_cons_succ, List.setIfInBounds_toArray, List.set_cons_zero, List.set_cons_succ]
         refine wpAnyH_take (i := 13) (v := undef) rfl (by kernel_rfl) (by kernel_rfl) (by kernel_rfl) (fun _ _ _ h => h) (Or.inr ⟨by rfl, rfl⟩) (by assumption) ?_
         try simp only [Act.put, List.getElem_toArray, List.getElem_cons_zero, List.getElem_cons_succ, List.setIfInBounds_toArray, List.set_cons_zero, List.set_cons_succ]
         refine wpAnyH_take (i := 14) (v := undef) rfl (by kernel_rfl) (by kernel_rfl) (by kernel_rfl) (fun _ _ _ h => h) (Or.inr ⟨by rfl, rfl⟩) (by assumption) ?_
         try simp only [Act.put, List.getElem_toArray, List.getElem_cons_zero, List.getElem_cons_succ, List.setIfInBounds_toArray, List.set_cons_zero, List.set_cons_succ]
         refine wpAnyH_take (i := 15) (v := undef) rfl (by kernel_rfl) (by kernel_rfl) (by kernel_rfl) (fun _ _ _ h => h) (Or.inr ⟨by rfl, rfl⟩) (by assumption) ?_
         try simp only [Act.put, List.getElem_toArray, List.getElem_cons_zero, List.getElem_cons_succ, List.setIfInBounds_toArray, List.set_cons_zero, List.set_cons_succ]
         refine wpAnyH_take (i := 16) (v := undef) rfl (by kernel_rfl) (by kernel_rfl) (by kernel_rfl) (fun _ _ _ h => h) (Or.inr ⟨by rfl, rfl⟩) (by assumption) ?_
         try simp only [Act.put, List.getElem_toArray, List.getElem_cons_zero, List.getElem_cons_succ, List.setIfInBounds_toArray, List.set_cons_zero, List.set_cons_succ]
         refine wpAnyH_take (i := 17) (v := ?_) rfl (by kernel_rfl) (by kernel_rfl) (by kernel_rfl) (fun _ _ _ h => h) (Or.inl ⟨by rfl, ?_⟩) (by assumption) ?_
         rotate_left
         · (intro w hSw; (try dsimp only at hSw); go_simp; (try with_reducible rfl))
         try simp only [Act.put, List.getElem_toArray, List.getElem_cons_zero, List.getElem_cons_succ, List.setIfInBounds_toArray, List.set_cons_zero, List.set_cons_succ]
         refine wpAnyH_take (i := 18) (v := ?_) rfl (by kernel_rfl) (by kernel_rfl) (by kernel_rfl) (fun _ _ _ h => h) (Or.inl ⟨by rfl, ?_⟩) (by assumption) ?_
         rotate_left
         · (intro w hSw; (try dsimp only at hSw); go_simp; (try with_reducible rfl))
         try simp only [Act.put, List.getElem_toArray, List.getElem_cons_zero, List.getElem_cons_succ, List.setIfInBounds_toArray, List.set_cons_zero, List.set_cons_succ]
         refine wpAnyH_take (i := 19) (v := ?_) rfl (by kernel_rfl) (by kernel_rfl) (by kernel_rfl) (fun _ _ _ h => h) (Or.inl ⟨by rfl, ?_⟩) (by assumption) ?_
         rotate_left
         · (intro w hSw; (try dsimp only at hSw); go_simp; (try with_reducible rfl))
         try simp only [Act.put, List.getElem_toArray, List.getElem_cons_zero, List.getElem_cons_succ, List.setIfInBounds_toArray, List.set_cons_zero, List.set_cons_succ]
         refine wpAnyH_done (by kernel_rfl) ?_ _
         replace Ba := heap_kept hGxw13_1 Ba
         replace Bb := heap_kept hGxw13_1 Bb
         replace Bz := heap_kept hGxw13_1 Bz
         replace Bs := heap_kept hGxw13_1 Bs
         replace pa := pa.kept hGxw13_1
         replace pb := pb.kept hGxw13_1
         replace qa := qa.kept hGxw13_1
         replace qb := qb.kept hGxw13_1
         replace pc := pc.kept hGxw13_1
         replace qz := qz.kept hGxw13_1
         replace qs := qs.kept hGxw13_1
         replace hG := grown_trans hG hGxw13_1
         clear Ca0 Ca1 Ca2 Ca3 Fa0 Fa1 Fa2 Fa3 Cb0 Cb1 Cb2 Cb3 Fb0 Fb1 Fb2 Fb3 Cz0 Cz1 Cz2 Cz3 Fz0 Fz1 Fz2 Fz3 Cs0 Cs1 Cs2 Cs3 Fs0 Fs1 Fs2 Fs3
         go_wp2_with fail
         go_ret
         exact ⟨by first | rfl | simp, hG⟩
       · skip
         clear HST
         obtain ⟨Ca0, Ca1, Ca2, Ca3, Fa0, Fa1, Fa2, Fa3⟩ := box_cells4 Ba
         obtain ⟨Cb0, Cb1, Cb2, Cb3, Fb0, Fb1, Fb2, Fb3⟩ := box_cells4 Bb
         obtain ⟨Cz0, Cz1, Cz2, Cz3, Fz0, Fz1, Fz2, Fz3⟩ := box_cells4 Bz
         obtain ⟨Cs0, Cs1, Cs2, Cs3, Fs0, Fs1, Fs2, Fs3⟩ := box_cells4 Bs
         have f9 : ((ez : Int) == 0) = false := beq_eq_false_iff_ne.2 (by omega)
         go_wp2_with fail
         have cc0 : w12.cell? ⟨gc, 0, none⟩ = some (.int .u8 ((ez : Int))) := pc.cell 0 (by simp)
         have HTr : Hid (∀ W, w12.grownBy W none → Tab W) := fun W hW => HTB.out _ (grown_trans hG hW)
         go_region_held3 (fun w' => w'.cell? ⟨aw1, 0, none⟩ = some (.slice sa xa.length xa.length) ∧ w'.cell? ⟨aw1, 1, none⟩ = some (.bool ba) ∧ w'.cell? ⟨aw1, 2, none⟩ = some (.slice sa' xa'.length xa'.length) ∧ w'.cell? ⟨aw1, 3, none⟩ = some (.bool ba') ∧ w'.cell? ⟨aw3, 0, none⟩ = some (.slice sb xb.length xb.length) ∧ w'.cell? ⟨aw3, 1, none⟩ = some (.bool bb) ∧ w'.cell? ⟨aw3, 2, none⟩ = some (.slice sb' xb'.length xb'.length) ∧ w'.cell? ⟨aw3, 3, none⟩ = some (.bool bb') ∧ w'.cell? ⟨aw7, 0, none⟩ = some (.slice sz xz.length xz.length) ∧ w'.cell? ⟨aw7, 1, none⟩ = some (.bool bz) ∧ w'.cell? ⟨aw7, 2, none⟩ = some (.slice sz' xz'.length xz'.length) ∧ w'.cell? ⟨aw7, 3, none⟩ = some (.bool bz') ∧ w'.cell? ⟨aw9, 0, none⟩ = some (.slice ss xs.length xs.length) ∧ w'.cell? ⟨aw9, 1, none⟩ = some (.bool bs) ∧ w'.cell? ⟨aw9, 2, none⟩ = some (.slice ss' xs'.length xs'.length) ∧ w'.cell? ⟨aw9, 3, none⟩ = some (.bool bs') ∧ w'.cell? ⟨gc, 0, none⟩ = some (.int .u8 ((ez : Int))))
           (first | assumption | exact ⟨Ca0, Ca1, Ca2, Ca3, Cb0, Cb1, Cb2, Cb3, Cz0, Cz1, Cz2, Cz3, Cs0, Cs1, Cs2, Cs3, cc0⟩ | go_keep)
           (first
             | (go_at_call 16; (with_reducible refine (CMP.out w12.drew _ _ (qa.kept (grown_drew (grown_refl _ _))) (qb.kept (grown_drew (grown_refl _ _)))).mono ?_); rintro e yw13_1 ⟨rfl, gyw13_1⟩; have hGyw13_1 := grown_pre w12 gyw13_1 rfl rfl rfl rfl; have hSyw13_1 := (And.intro (hGyw13_1.cell Ca0 (by simp)) (And.intro (hGyw13_1.cell Ca1 (by simp)) (And.intro (hGyw13_1.cell Ca2 (by simp)) (And.intro (hGyw13_1.cell Ca3 (by simp)) (And.intro (hGyw13_1.cell Cb0 (by simp)) (And.intro (hGyw13_1.cell Cb1 (by simp)) (And.intro (hGyw13_1.cell Cb2 (by simp)) (And.intro (hGyw13_1.cell Cb3 (by simp)) (And.intro (hGyw13_1.cell Cz0 (by simp)) (And.intro (hGyw13_1.cell Cz1 (by simp)) (And.intro (hGyw13_1.cell Cz2 (by simp)) (And.intro (hGyw13_1.cell Cz3 (by simp)) (And.intro (hGyw13_1.cell Cs0 (by simp)) (And.intro (hGyw13_1.cell Cs1 (by simp)) (And.intro (hGyw13_1.cell Cs2 (by simp)) (And.intro (hGyw13_1.cell Cs3 (by simp)) (hGyw13_1.cell cc0 (by simp)))))))))))))))))); clear gyw13_1)
             | (go_at_call 20; (with_reducible refine (MUL.out yw13_1 _ _ (qa.kept hGyw13_1) (qs.kept hGyw13_1) (HTr.out _ hGyw13_1)).mono ?_); rintro e yw13_2 ⟨_, rfl, ⟨sp, xp, bp, sp', xp', bp', rfl, hp, hp'⟩, gyw13_2⟩; have hGyw13_2 := grown_trans hGyw13_1 gyw13_2; have qp : RatV yw13_2 (.agg #[.slice sp xp.length xp.length, .bool bp, .slice sp' xp'.length xp'.length, .bool bp']) (rA * 16) := ⟨sp, xp, bp, sp', xp', bp', rfl, hp, hp'⟩; have hSyw13_2 := (And.intro (hGyw13_2.cell Ca0 (by simp)) (And.intro (hGyw13_2.cell Ca1 (by simp)) (And.intro (hGyw13_2.cell Ca2 (by simp)) (And.intro (hGyw13_2.cell Ca3 (by simp)) (And.intro (hGyw13_2.cell Cb0 (by simp)) (And.intro (hGyw13_2.cell Cb1 (by simp)) (And.intro (hGyw13_2.cell Cb2 (by simp)) (And.intro (hGyw13_2.cell Cb3 (by simp)) (And.intro (hGyw13_2.cell Cz0 (by simp)) (And.intro (hGyw13_2.cell Cz1 (by simp)) (And.intro (hGyw13_2.cell Cz2 (by simp)) (And.intro (hGyw13_2.cell Cz3 (by simp)) (And.intro (hGyw13_2.cell Cs0 (by simp)) (And.intro (hGyw13_2.cell Cs1 (by simp)) (And.intro (hGyw13_2.cell Cs2 (by simp)) (And.intro (hGyw13_2.cell Cs3 (by simp)) (hGyw13_2.cell cc0 (by simp)))))))))))))))))); clear gyw13_2; clear hp hp')
             | (go_at_call 16; (with_reducible refine (CMZ.out he9 yw13_2 _ _ (qz.kept hGyw13_2) qp).mono ?_); rintro e yw13_3 ⟨rfl, gyw13_3⟩; have hGyw13_3 := grown_trans hGyw13_2 gyw13_3; replace qp := qp.kept gyw13_3; have hSyw13_3 := (And.intro (hGyw13_3.cell Ca0 (by simp)) (And.intro (hGyw13_3.cell Ca1 (by simp)) (And.intro (hGyw13_3.cell Ca2 (by simp)) (And.intro (hGyw13_3.cell Ca3 (by simp)) (And.intro (hGyw13_3.cell Cb0 (by simp)) (And.intro (hGyw13_3.cell Cb1 (by simp)) (And.intro (hGyw13_3.cell Cb2 (by simp)) (And.intro (hGyw13_3.cell Cb3 (by simp)) (And.intro (hGyw13_3.cell Cz0 (by simp)) (And.intro (hGyw13_3.cell Cz1 (by simp)) (And.intro (hGyw13_3.cell Cz2 (by simp)) (And.intro (hGyw13_3.cell Cz3 (by simp)) (And.intro (hGyw13_3.cell Cs0 (by simp)) (And.intro (hGyw13_3.cell Cs1 (by simp)) (And.intro (hGyw13_3.cell Cs2 (by simp)) (And.intro (hGyw13_3.cell Cs3 (by simp)) (hGyw13_3.cell cc0 (by simp)))))))))))))))))); clear gyw13_3))
         replace Ba := heap_kept hGyw13_3 Ba
         replace Bb := heap_kept hGyw13_3 Bb
         replace Bz := heap_kept hGyw13_3 Bz
         replace Bs := heap_kept hGyw13_3 Bs
         replace pa := pa.kept hGyw13_3
         replace pb := pb.kept hGyw13_3
         replace qa := qa.kept hGyw13_3
         replace qb := qb.kept hGyw13_3
         replace pc := pc.kept hGyw13_3
         replace qz := qz.kept hGyw13_3
         replace qs := qs.kept hGyw13_3
         replace hG := grown_trans hG hGyw13_3
         clear Ca0 Ca1 Ca2 Ca3 Fa0 Fa1 Fa2 Fa3 Cb0 Cb1 Cb2 Cb3 Fb0 Fb1 Fb2 Fb3 Cz0 Cz1 Cz2 Cz3 Fz0 Fz1 Fz2 Fz3 Cs0 Cs1 Cs2 Cs3 Fs0 Fs1 Fs2 Fs3
         go_wp2_with fail
         go_ret
         exact ⟨by first | rfl | simp, hG⟩
end Go.Proofs.YtldkddogadmpbaaDoor
namespace Go.Proofs.YtldkddogadmpbaaDoor.RealOrder
open Go.ChangeShapes Go.WideShapes Go.ChangeAt Go.RowKit Go.ChangeMaps Go.Deep
set_option linter.unusedVariables false
set_option linter.unusedSimpArgs false
set_option maxRecDepth 100000
theorem contract (H : Type) (enc : TypeId × Value → H) (W : World) (base : Nat) (args : Array Value) (ds gs : List (DataW H)) (before : List MemPlace)
    (hval : ∀ (j : Nat) t v, Tryd.f6.params[j]? = some t → args[j]? = some v → Value.okWide Tryd.prog W .any base t v)
    (hW : DataW.Whole enc Tryd.prog Tryd.f6.params.toList Rows.realOrderSpec.vars false W args.toList ds gs before) (hL : laidMetH Tryd.prog Rows.realOrderRow.laid W) :
    Calls Tryd.prog 6 args W fun e W' => ∃ v, e = .returned v ∧ Rows.realOrderSpec.post enc Tryd.prog Tryd.f6 false true false false W args v W' := by
  have hW' := hW
  obtain ⟨p, q, hA0, hV, rfl, hfz, hnd⟩ := hW
  have hA : DataW.TrodAll enc Tryd.prog W 0 (fun _ => true) true Tryd.f6.params.toList args.toList ds p := hA0
  rw [Tryd.params6] at hA hval
  obtain ⟨v0, vs0, d0, ds0, p0, q0, hargs, rfl, rfl, h0, r0⟩ := trodAll_cons hA
  obtain ⟨v1, vs1, d1, ds1, p1, q1, hargs1, rfl, rfl, h1, r1⟩ := trodAll_cons r0
  obtain ⟨rfl, rfl, rfl⟩ := trodAll_nil r1
  obtain rfl : args = #[v0, v1] := by cases args; simp_all
  obtain ⟨rfl, rfl⟩ := trodVars_none hV
  simp only [List.append_nil] at hW' hfz
  have hlt : ∀ p ∈ p0 ++ p1, p.block < W.heap.size := fun p hp => by
    have := DataW.TrodAll.lt hA p (by simpa using hp)
    exact this
  obtain ⟨a0, len, cap, rfl⟩ := okWide_slice Tryd.underlying22 (hval 0 22 v0 rfl rfl)
  obtain ⟨a1, len', cap', rfl⟩ := okWide_slice Tryd.underlying22 (hval 1 22 v1 rfl rfl)
  obtain ⟨l, hl1, hl2, hl3, hl4, hl5⟩ := open_by h0
  obtain ⟨k, hk1, hk2, hk3, hk4, hk5⟩ := open_by h1
  clear hA0
  refine (realOrder_walk W a0 a1 len len' cap cap' l k hl1 hl2 hl3 hl4 hl5 hk1 hk2 hk3 hk4 hk5 (tab_of hL)).mono fun e W' ⟨he, hg⟩ => ?_
  subst he
  have hstay0 : ∀ sp : Nat → Bool, (∀ p ∈ p0, sp p.block = true) → DataW.Trod enc Tryd.prog W' 0 sp true 22 (.slice a0 len cap) d0 p0 := fun sp hsp =>
    Go.WideElems.Trod_stays (by kernel_rfl) (by kernel_rfl) (of_decide_eq_true (by kernel_rfl)) h0 (fun p hp => grown_same hg (hlt p (by simp [hp]))) hsp
  have hstay1 : ∀ sp : Nat → Bool, (∀ p ∈ p1, sp p.block = true) → DataW.Trod enc Tryd.prog W' 0 sp true 22 (.slice a1 len' cap') d1 p1 := fun sp hsp =>
    Go.WideElems.Trod_stays (by kernel_rfl) (by kernel_rfl) (of_decide_eq_true (by kernel_rfl)) h1 (fun p hp => grown_same hg (hlt p (by simp [hp]))) hsp
  exact ⟨_, rfl, post_places hW' hlt (fun _ _ _ => trodAll_cons_mk (shut_bool Tryd.underlying4 _) trodAll_mk0) (fun sp hsp => by
    have := trodAll_cons_mk (hstay0 sp (fun p hp => hsp p (by simp [hp]))) (trodAll_cons_mk (hstay1 sp (fun p hp => hsp p (by simp [hp]))) trodAll_mk0)
    rw [List.append_nil] at this
    exact this) (fun _ => rfl) hg (ok_one (by kernel_rfl) rfl (okWide_bool_mk Tryd.underlying4 _))⟩
theorem laid_met (os : Os) : laidMet Tryd.prog Rows.realOrderRow.laid ((laidWorld os).forCall (fun _ _ => 0) ⟨#[], #[.slice none 0 0, .slice none 0 0], []⟩).memory :=
  laidMet_of_run' 80 (by kernel_rfl) (by kernel_rfl)
theorem reads (os : Os) {H : Type} (enc : TypeId × Value → H) : ∃ places, DataW.whole enc Tryd.prog ((laidWorld os).forCall (fun _ _ => 0) ⟨#[], #[.slice none 0 0, .slice none 0 0], []⟩).memory Tryd.f6.params.toList Rows.realOrderSpec.vars false #[Value.slice none 0 0, .slice none 0 0].toList 8 = some ([.nil, .nil], [], places) :=
  ⟨[], by kernel_rfl⟩
set_option maxRecDepth 100000 in
theorem lifted (os : Os) (started : os.Started) (H : Type) (enc : TypeId × Value → H) (F : Stop.Interp) :
    ReturnsInHanded {} Tryd.checked os 6 .any ((OpenSpec.ofChange Rows.realOrderSpec).preRow enc Tryd.prog Tryd.f6 Rows.realOrderRow.domain false Rows.realOrderRow.laid) (((OpenSpec.ofChange Rows.realOrderSpec).at F).post enc Tryd.prog Tryd.f6 false true false false) := by
  obtain ⟨places, hx⟩ := reads os enc
  refine returnsInHanded_of_row (C := Tryd.checked) (s := OpenSpec.ofChange Rows.realOrderSpec) law_own started (by kernel_rfl) Tryd.func6
    (witness_row_at (enc := enc) (C := Tryd.checked) false (laidWorld os) #[.slice none 0 0, .slice none 0 0] rfl (by kernel_rfl) (by kernel_rfl) (by kernel_rfl)
      (OpenSpec.preRow_of_cond 8 hx (by kernel_rfl) (fun k hk => by cases hk) (by kernel_rfl) (laid_met os))) ?_
  intro W base args ds gs before hval hW _ _ _ hL _ _
  exact contract H enc W base args ds gs before hval hW hL
theorem said : Rows.RealOrderSaid :=
  OpenClaim.holds_of_cond 6 Tryd.f6 rfl rfl rfl rfl rfl rfl rfl ⟨rfl, rfl, rfl, rfl, rfl⟩ rfl rfl rfl rfl rfl (by kernel_rfl) Tryd.func6 (by kernel_rfl)
    (of_decide_eq_true (by kernel_rfl)) (by unfold Func.isWrapper; first | (rw [if_pos (by decide +kernel)]; kernel_rfl) | (rw [if_neg (by decide +kernel)]; exact ⟨rfl, rfl⟩))
    (fun os started H enc _ F => by rw [OpenClaim.pre_eq_preRow]; exact lifted os started H enc F)
theorem plain (f : FuncId) (fn : Func) (hf : Tryd.pinned.checked.prog.funcNamed "pellicle/pelliclelaw05.RealOrder" = some f) (hfn : Tryd.pinned.checked.prog.funcs[f]? = some fn) :
    false = Tryd.pinned.checked.prog.looks [] ∧ ∀ (j : Nat) t, fn.params[j]? = some t → Tryd.pinned.checked.prog.wantsStandIn t = false := by
  obtain rfl : f = 6 := Option.some.inj ((show Tryd.prog.funcNamed "pellicle/pelliclelaw05.RealOrder" = some 6 by kernel_rfl).symm.trans hf) |>.symm
  obtain rfl : fn = Tryd.f6 := (Option.some.inj (Tryd.func6.symm.trans hfn)).symm
  refine ⟨by kernel_rfl, fun j t ht => ?_⟩
  rw [Tryd.params6] at ht
  have ht2 := Array.mem_of_getElem? ht
  simp at ht2
  first | (rcases ht2 with rfl | rfl | rfl) | (rcases ht2 with rfl | rfl) | subst ht2
  all_goals exact (show Tryd.prog.wantsStandIn _ = false by kernel_rfl)
theorem card : Rows.RealOrderCardSaid :=
  Claim7.holds_tied_plain_at .later [] _ _ _ _ said (fun _ h => by cases h) (by kernel_rfl) (fun _ h => by cases h) realOrder_row_tie rfl ⟨rfl, rfl⟩ (by kernel_rfl) rfl plain (by kernel_rfl)
end Go.Proofs.YtldkddogadmpbaaDoor.RealOrder
