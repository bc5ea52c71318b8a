/- What the laws lean on, part 21. -/
import Derived.Deep.RegionHeld3
import Derived.OwnWalk
import Derived.Laws.AppendOwn
import Derived.Laws.AppendOwnNone
import Derived.Laws.BytesString
import Derived.Laws.BytesArg
import Derived.Laws.Cells
import Derived.Lib.Bytealg
import Derived.Lib.Strings
import Derived.Lib.Slices
import Derived.Lib.Walk
import Derived.Test.YtldkddogadmpbaaDoorMa20
import Derived.Test.YtldkddogadmpbaaDoorMa1
import Derived.Test.YtldkddogadmpbaaDoorMa12
import Derived.Test.YtldkddogadmpbaaDoorMa15
import Derived.Test.YtldkddogadmpbaaDoorMa18
namespace Go.Proofs.YtldkddogadmpbaaDoor
open Go.RowKit Mat
set_option maxRecDepth 100000
set_option linter.unusedVariables false
set_option linter.unusedSimpArgs false
def encL (r : Rat) : Option (Nat × Nat) → List Nat
  | none => []
  | some (e, m) => lay8 (decide (r.num < 0)) e m
def encC : Option (Nat × Nat) → Int
  | none => 4
  | some _ => 0
def RetEnc (w : World) (r : Rat) (e : Ending) (w' : World) : Prop := ∃ o s n cap, e = .returned (.tuple #[.slice s n cap, .int .i64 (encC o)]) ∧ EncIs r o ∧ n = (encL r o).length ∧ BySl w' s (encL r o) ∧ n ≤ cap ∧ cap ≤ 8 ∧ w.grownBy w' none
theorem BySl.nil (w : World) (s : Option Addr) : BySl w s [] := ⟨Or.inl rfl, fun _ h => by cases h⟩
theorem units_bd {r : Rat} {U K : Nat} (ln : r.num.natAbs < B ^ K) (h : Units r U true) : U < B ^ (K + 5) := by
  rcases h with ⟨_, sh, h1, h2, h3⟩ | ⟨h, _⟩
  · rw [← h3, Nat.pow_add]
    refine Nat.mul_lt_mul'' ln ?_
    have hB : B = 2 ^ 64 := by unfold B; decide
    obtain ⟨M, hM⟩ : ∃ M, 64 * 5 = M := ⟨_, rfl⟩
    rw [hB, ← Nat.pow_mul, hM]
    exact Nat.pow_lt_pow_right (by omega) (by omega)
  · cases h
theorem enc_units {r : Rat} {U : Nat} {x y : Int} (h : Units r U true) (k : LeastE U x y true) : ∃ e m : Nat, x = (e : Int) ∧ y = (m : Int) ∧ e < 128 ∧ m < 2 ^ 56 ∧ EncIs r (some (e, m)) := by
  rcases h with ⟨_, sh, h1, h2, h3⟩ | ⟨h, _⟩
  · rcases k with ⟨_, k1, k2, k3, k4⟩ | ⟨k, _⟩
    · have hE := enc_least h2 h1 h3 (e0 := ex0 U) (fun e he => ex0_lo he) (ex0_hi U)
      rw [if_pos ⟨k1, k2⟩] at hE
      exact ⟨_, _, k3, k4, k1, Nat.div_lt_of_lt_mul (by rw [Nat.mul_comm]; exact ex0_hi U), hE⟩
    · cases k
  · cases h
theorem enc_wide {r : Rat} {U : Nat} {x y : Int} (h : Units r U true) (k : LeastE U x y false) : EncIs r none := by
  rcases h with ⟨_, sh, h1, h2, h3⟩ | ⟨h, _⟩
  · rcases k with ⟨k, _⟩ | ⟨_, k1⟩
    · cases k
    · have hE := enc_least h2 h1 h3 (e0 := ex0 U) (fun e he => ex0_lo he) (ex0_hi U)
      rw [if_neg k1] at hE
      exact hE
  · cases h
theorem enc_odd {r : Rat} {U : Nat} (h : Units r U false) : EncIs r none := by
  rcases h with ⟨h, _⟩ | ⟨_, h⟩
  · cases h
  · exact enc_none h
set_option maxHeartbeats 16000000 in
theorem Enc_any (w : World) (va : Value) (r : Rat) (K : Nat) (Ha : RatV w va r) (hK : K ≤ 300000) (ln : r.num.natAbs < B ^ K) (ld : r.den < B ^ K) :
    Calls Tryd.prog 14 #[va] w (RetEnc w r) := by
  have Hln := Lib.hid ln
  have Hld := Lib.hid ld
  clear ln ld
  obtain ⟨P, hP⟩ : ∃ P, RetEnc w r = P := ⟨_, rfl⟩
  have no : ∀ W, w.grownBy W none → Hid (EncIs r none) → P (.returned (.tuple #[.slice none 0 0, .int .i64 4])) W := fun W hg h => by
    rw [← hP]; exact ⟨none, none, 0, 0, rfl, h.out, rfl, BySl.nil _ _, Nat.le_refl _, by omega, hg⟩
  have yes : ∀ W g (e m : Nat), w.grownBy W none → Hid (EncIs r (some (e, m))) → BySl W (some ⟨g, 0, none⟩) (lay8 (decide (r.num < 0)) e m) → P (.returned (.tuple #[.slice (some ⟨g, 0, none⟩) 8 8, .int .i64 0])) W := fun W g e m hg h hb => by
    rw [← hP]
    exact ⟨some (e, m), _, 8, 8, rfl, h.out, rfl, hb, Nat.le_refl _, Nat.le_refl _, hg⟩
  have HNO := Lib.hid no
  have HYES := Lib.hid yes
  rw [hP]
  clear hP no yes
  obtain ⟨sa, xa, ba, sa', xa', ba', rfl, ha, ha'⟩ := Ha
  have hG : w.grownBy (w.alloc (.cells #[.slice sa xa.length xa.length, .bool ba, .slice sa' xa'.length xa'.length, .bool ba'] 30)) none := (World.grownBy_alloc _ _ _)
  have Ba := (heap_new w (.cells #[.slice sa xa.length xa.length, .bool ba, .slice sa' xa'.length xa'.length, .bool ba'] 30) (w.heap.size) rfl)
  have qa : RatV (w.alloc (.cells #[.slice sa xa.length xa.length, .bool ba, .slice sa' xa'.length xa'.length, .bool ba'] 30)) (.agg #[.slice sa xa.length xa.length, .bool ba, .slice sa' xa'.length xa'.length, .bool ba']) (r) := ⟨sa, xa, ba, sa', xa', ba', rfl, ha.kept hG, ha'.kept hG⟩
  have oa : RatV w (.agg #[.slice sa xa.length xa.length, .bool ba, .slice sa' xa'.length xa'.length, .bool ba']) (r) := ⟨sa, xa, ba, sa', xa', ba', rfl, ha, ha'⟩
  clear ha ha'
  go_enter Tryd.func14, Tryd.ntmps14
  obtain ⟨Ca0, Ca1, Ca2, Ca3, Fa0, Fa1, Fa2, Fa3⟩ := box_cells4 Ba
  go_wp2_with fail
  generalize (w.alloc (.cells #[.slice sa xa.length xa.length, .bool ba, .slice sa' xa'.length xa'.length, .bool ba'] 30)) = w0 at *
  clear Ca0 Ca1 Ca2 Ca3 Fa0 Fa1 Fa2 Fa3
  refine (Units_any w0 _ r K qa (by omega) Hln.out Hld.out).mono ?_
  rintro e w1 ⟨_, U, b, rfl, ⟨su, xu, rfl, hu, vu⟩, HU, gw1⟩
  replace HU := Lib.hid HU
  have nu : NatV w1 (.agg #[.slice su xu.length xu.length]) (U) := ⟨su, xu, rfl, hu, vu⟩
  replace Ba := heap_kept gw1 Ba
  replace qa := qa.kept gw1
  replace hG := grown_trans hG gw1
  clear gw1
  clear hu vu
  obtain ⟨Ca0, Ca1, Ca2, Ca3, Fa0, Fa1, Fa2, Fa3⟩ := box_cells4 Ba
  have gbw1 := (World.grownBy_alloc w1 (.cells #[.slice su xu.length xu.length] 26) none)
  have Bu := (heap_new w1 (.cells #[.slice su xu.length xu.length] 26) (w1.heap.size) rfl)
  have hzw1 : Hid (w.heap.size ≤ w1.heap.size) := Lib.hid hG.size
  have hlaw1 : Hid (w.heap.size < w1.heap.size) := Lib.hid (Array.getElem?_eq_some_iff.1 Ba).1
  clear Ca0 Ca1 Ca2 Ca3 Fa0 Fa1 Fa2 Fa3
  replace Ba := heap_kept gbw1 Ba
  replace qa := qa.kept gbw1
  replace nu := nu.kept gbw1
  replace hG := grown_trans hG gbw1
  clear gbw1
  obtain ⟨Ca0, Ca1, Ca2, Ca3, Fa0, Fa1, Fa2, Fa3⟩ := box_cells4 Ba
  obtain ⟨Cu0, Fu0⟩ := box_cell Bu
  cases b
  · skip
    go_wp2_with fail
    exact HNO.out _ hG (Lib.hid (enc_odd HU.out))
  · skip
    have lu := units_bd Hln.out HU.out
    go_wp2_with fail
    generalize (w1.alloc (.cells #[.slice su xu.length xu.length] 26)) = w2 at *
    generalize w1.heap.size = aw1 at *
    replace hzw1 := hzw1.out
    replace hlaw1 := hlaw1.out
    clear Ca0 Ca1 Ca2 Ca3 Fa0 Fa1 Fa2 Fa3 Cu0 Fu0
    refine (Least_any w2 _ U (K + 5) nu (by omega) lu).mono ?_
    rintro e tw3 ⟨x, y, b, rfl, HL, gtw3⟩
    replace HL := Lib.hid HL
    replace Ba := heap_kept gtw3 Ba
    replace Bu := heap_kept gtw3 Bu
    replace qa := qa.kept gtw3
    replace nu := nu.kept gtw3
    replace hG := grown_trans hG gtw3
    clear gtw3
    obtain ⟨Ca0, Ca1, Ca2, Ca3, Fa0, Fa1, Fa2, Fa3⟩ := box_cells4 Ba
    obtain ⟨Cu0, Fu0⟩ := box_cell Bu
    clear lu
    cases b
    · skip
      go_wp2_with fail
      exact HNO.out _ hG (Lib.hid (enc_wide HU.out HL.out))
    · skip
      obtain ⟨e9, m9, rfl, rfl, he9, hm9, hE9⟩ := enc_units HU.out HL.out
      have HE9 := Lib.hid hE9; clear hE9
      go_wp2_with fail
      clear Ca0 Ca1 Ca2 Ca3 Fa0 Fa1 Fa2 Fa3 Cu0 Fu0
      refine (FSign_any tw3 _ r K qa (by omega) Hln.out).mono ?_
      rintro e tyw4 ⟨rfl, gtyw4⟩
      replace Ba := heap_kept gtyw4 Ba
      replace Bu := heap_kept gtyw4 Bu
      replace qa := qa.kept gtyw4
      replace nu := nu.kept gtyw4
      replace hG := grown_trans hG gtyw4
      clear gtyw4
      obtain ⟨Ca0, Ca1, Ca2, Ca3, Fa0, Fa1, Fa2, Fa3⟩ := box_cells4 Ba
      obtain ⟨Cu0, Fu0⟩ := box_cell Bu
      go_wp2_with fail
      clear Ca0 Ca1 Ca2 Ca3 Fa0 Fa1 Fa2 Fa3 Cu0 Fu0
      refine (laid_any tyw4 _ e9 m9 he9 hm9).mono ?_
      rintro e tyw5 ⟨g9, rfl, hb9, hs9, gtyw5⟩
      replace Ba := heap_kept gtyw5 Ba
      replace Bu := heap_kept gtyw5 Bu
      replace qa := qa.kept gtyw5
      replace nu := nu.kept gtyw5
      replace hG := grown_trans hG gtyw5
      clear gtyw5
      obtain ⟨Ca0, Ca1, Ca2, Ca3, Fa0, Fa1, Fa2, Fa3⟩ := box_cells4 Ba
      obtain ⟨Cu0, Fu0⟩ := box_cell Bu
      go_wp2_with fail
      exact HYES.out _ _ _ _ hG HE9 hb9
theorem bval_bd {l : List Nat} (h : ∀ x ∈ l, x < 256) : (bval l).num.natAbs < B ^ 5 ∧ (bval l).den < B ^ 5 := by
  unfold bval
  split
  · rename_i h8
    have h1 := sh_bd (mv l.tail) (l.headD 0 % 128) (mv7 l h h8) (by omega)
    unfold rv
    constructor
    · refine rdiv_nb ?_
      rw [Int.natAbs_mul, Int.natAbs_natCast]
      refine Nat.lt_of_le_of_lt ?_ h1.1
      split <;> exact Nat.le_of_eq (Nat.one_mul _)
    · exact rdiv_db (by rw [Int.natAbs_natCast]; exact h1.2) pow_ne
  · exact ⟨by unfold B; decide, by unfold B; decide⟩
def sameB (l k : List Nat) : Bool := decide (l.length = 8) && decide (k.length = 8) && decide (rcmp (bval l) (bval k) = 0)
set_option maxHeartbeats 16000000 in
theorem Same_any (w : World) (s t : Option Addr) (n m cap cap' : Nat) (l k : List Nat) (hn : l.length = n) (hm : k.length = m) (hl : BySl w s l) (hk : BySl w t k) (hcap : n ≤ cap) (hc : cap ≤ 9223372036854775807) (hcap' : m ≤ cap') (hc' : cap' ≤ 9223372036854775807) (hTab : Tab w) :
    Calls Tryd.prog 17 #[.slice s n cap, .slice t m cap'] w (RetB w (sameB l k)) := by
  have HTB : Hid (∀ W, w.grownBy W none → Tab W) := fun W hW => hTab.kept hW (by simp)
  clear hTab
  have HL := Lib.hid hl
  have HK := Lib.hid hk
  have HN := Lib.hid hn
  have HM := Lib.hid hm
  have bl := bval_bd hl.2
  have bk := bval_bd hk.2
  have HBL := Lib.hid bl
  have HBK := Lib.hid bk
  obtain ⟨P, hP⟩ : ∃ P, RetB w (sameB l k) = P := ⟨_, rfl⟩
  have no : ∀ W, w.grownBy W none → Hid (¬ (l.length = 8 ∧ k.length = 8)) → P (.returned (.bool false)) W := fun W hg h => by
    rw [← hP]
    refine ⟨?_, hg⟩
    have : sameB l k = false := by
      unfold sameB
      by_cases h1 : l.length = 8
      · have h2 : ¬ k.length = 8 := fun h2 => h.out ⟨h1, h2⟩
        rw [decide_eq_false h2]; simp
      · rw [decide_eq_false h1]; simp
    rw [this]
  have yes : ∀ W, w.grownBy W none → Hid (l.length = 8 ∧ k.length = 8) → P (.returned (.bool (decide (rcmp (bval l) (bval k) = 0)))) W := fun W hg h => by
    rw [← hP]
    refine ⟨?_, hg⟩
    have : sameB l k = decide (rcmp (bval l) (bval k) = 0) := by
      unfold sameB; rw [decide_eq_true h.out.1, decide_eq_true h.out.2]; simp
    rw [this]
  have HNO := Lib.hid no
  have HYES := Lib.hid yes
  rw [hP]
  obtain ⟨x, hx⟩ : ∃ x, bval l = x := ⟨_, rfl⟩
  obtain ⟨y, hy⟩ : ∃ y, bval k = y := ⟨_, rfl⟩
  rw [hx] at HBL HYES
  rw [hy] at HBK HYES
  have CX : Hid (∀ W, w.grownBy W none → Calls Tryd.prog 8 #[.slice s n cap] W (RetRatE W x (if n = 8 then 0 else 3))) := fun W hW => by
    have h := Dec_any W s n cap l HN.out (HL.out.kept hW) hcap hc (HTB.out W hW)
    rw [hx] at h; unfold bcod at h; rw [HN.out] at h; exact h
  have CY : Hid (∀ W, w.grownBy W none → Calls Tryd.prog 8 #[.slice t m cap'] W (RetRatE W y (if m = 8 then 0 else 3))) := fun W hW => by
    have h := Dec_any W t m cap' k HM.out (HK.out.kept hW) hcap' hc' (HTB.out W hW)
    rw [hy] at h; unfold bcod at h; rw [HM.out] at h; exact h
  obtain ⟨cx, hcx⟩ : ∃ c : Int, (if n = 8 then 0 else 3) = c := ⟨_, rfl⟩
  obtain ⟨cy, hcy⟩ : ∃ c : Int, (if m = 8 then 0 else 3) = c := ⟨_, rfl⟩
  rw [hcx] at CX
  rw [hcy] at CY
  have hc : (cx = 0 ∧ cy = 0 ∧ Hid (l.length = 8 ∧ k.length = 8)) ∨ (cx = 0 ∧ cy = 3 ∧ Hid (¬ (l.length = 8 ∧ k.length = 8))) ∨ (cx = 3 ∧ Hid (¬ (l.length = 8 ∧ k.length = 8))) := by
    rw [← hcx, ← hcy]
    by_cases h1 : n = 8
    · by_cases h2 : m = 8
      · left; exact ⟨by simp [h1], by simp [h2], ⟨by omega, by omega⟩⟩
      · right; left; exact ⟨by simp [h1], by simp [h2], fun h => h2 (by omega)⟩
    · right; right; exact ⟨by simp [h1], fun h => h1 (by omega)⟩
  have HCC := Lib.hid hc
  clear hc hP no yes hx hy hcx hcy hl hk hn hm bl bk
  have hG : w.grownBy w none := grown_refl _ _
  go_enter Tryd.func17, Tryd.ntmps17
  go_wp2_with fail
  refine (CX.out w hG).mono ?_
  rintro e w1 ⟨_, rfl, ⟨sa, xa, ba, sa', xa', ba', rfl, ha, ha'⟩, gw1⟩
  have qa : RatV w1 (.agg #[.slice sa xa.length xa.length, .bool ba, .slice sa' xa'.length xa'.length, .bool ba']) (x) := ⟨sa, xa, ba, sa', xa', ba', rfl, ha, ha'⟩
  replace hG := grown_trans hG gw1
  clear gw1
  clear ha ha'
  have gbw1 := (World.grownBy_alloc w1 (.cells #[.slice sa xa.length xa.length, .bool ba, .slice sa' xa'.length xa'.length, .bool ba'] 30) none)
  have Ba := (heap_new w1 (.cells #[.slice sa xa.length xa.length, .bool ba, .slice sa' xa'.length xa'.length, .bool ba'] 30) (w1.heap.size) rfl)
  have hzw1 : Hid (w.heap.size ≤ w1.heap.size) := Lib.hid hG.size
  replace qa := qa.kept gbw1
  replace hG := grown_trans hG gbw1
  clear gbw1
  obtain ⟨Ca0, Ca1, Ca2, Ca3, Fa0, Fa1, Fa2, Fa3⟩ := box_cells4 Ba
  go_wp2_with fail
  generalize (w1.alloc (.cells #[.slice sa xa.length xa.length, .bool ba, .slice sa' xa'.length xa'.length, .bool ba'] 30)) = w2 at *
  generalize w1.heap.size = aw1 at *
  replace hzw1 := hzw1.out
  clear Ca0 Ca1 Ca2 Ca3 Fa0 Fa1 Fa2 Fa3
  refine (CY.out w2 hG).mono ?_
  rintro e w3 ⟨_, rfl, ⟨sb, xb, bb, sb', xb', bb', rfl, hb, hb'⟩, gw3⟩
  have qb : RatV w3 (.agg #[.slice sb xb.length xb.length, .bool bb, .slice sb' xb'.length xb'.length, .bool bb']) (y) := ⟨sb, xb, bb, sb', xb', bb', rfl, hb, hb'⟩
  replace Ba := heap_kept gw3 Ba
  replace qa := qa.kept gw3
  replace hG := grown_trans hG gw3
  clear gw3
  clear hb hb'
  obtain ⟨Ca0, Ca1, Ca2, Ca3, Fa0, Fa1, Fa2, Fa3⟩ := box_cells4 Ba
  have gbw3 := (World.grownBy_alloc w3 (.cells #[.slice sb xb.length xb.length, .bool bb, .slice sb' xb'.length xb'.length, .bool bb'] 30) none)
  have Bb := (heap_new w3 (.cells #[.slice sb xb.length xb.length, .bool bb, .slice sb' xb'.length xb'.length, .bool bb'] 30) (w3.heap.size) rfl)
  have hzw3 : Hid (w.heap.size ≤ w3.heap.size) := Lib.hid hG.size
  have hlaw3 : Hid (aw1 < w3.heap.size) := Lib.hid (Array.getElem?_eq_some_iff.1 Ba).1
  clear Ca0 Ca1 Ca2 Ca3 Fa0 Fa1 Fa2 Fa3
  replace Ba := heap_kept gbw3 Ba
  replace qa := qa.kept gbw3
  replace qb := qb.kept gbw3
  replace hG := grown_trans hG gbw3
  clear gbw3
  obtain ⟨Ca0, Ca1, Ca2, Ca3, Fa0, Fa1, Fa2, Fa3⟩ := box_cells4 Ba
  obtain ⟨Cb0, Cb1, Cb2, Cb3, Fb0, Fb1, Fb2, Fb3⟩ := box_cells4 Bb
  rcases HCC.out with ⟨rfl, rfl, HC⟩ | ⟨rfl, rfl, HC⟩ | ⟨rfl, HC⟩
  · skip
    clear HCC
    go_wp2_with fail
    generalize (w3.alloc (.cells #[.slice sb xb.length xb.length, .bool bb, .slice sb' xb'.length xb'.length, .bool bb'] 30)) = w4 at *
    generalize w3.heap.size = aw3 at *
    replace hzw3 := hzw3.out
    replace hlaw3 := hlaw3.out
    clear Ca0 Ca1 Ca2 Ca3 Fa0 Fa1 Fa2 Fa3 Cb0 Cb1 Cb2 Cb3 Fb0 Fb1 Fb2 Fb3
    refine (FCmp_any w4 _ _ x y 5 qa qb (by omega) HBL.out.1 HBL.out.2 HBK.out.1 HBK.out.2).mono ?_
    rintro e aw5 ⟨rfl, gaw5⟩
    replace Ba := heap_kept gaw5 Ba
    replace Bb := heap_kept gaw5 Bb
    replace qa := qa.kept gaw5
    replace qb := qb.kept gaw5
    replace hG := grown_trans hG gaw5
    clear gaw5
    obtain ⟨Ca0, Ca1, Ca2, Ca3, Fa0, Fa1, Fa2, Fa3⟩ := box_cells4 Ba
    obtain ⟨Cb0, Cb1, Cb2, Cb3, Fb0, Fb1, Fb2, Fb3⟩ := box_cells4 Bb
    go_wp2_with fail
    exact HYES.out _ hG HC
  · skip
    clear HCC
    go_wp2_with fail
    exact HNO.out _ hG HC
  · skip
    clear HCC
    go_wp2_with fail
    exact HNO.out _ hG HC
end Go.Proofs.YtldkddogadmpbaaDoor
namespace Go.Proofs.YtldkddogadmpbaaDoor
open Go.RowKit Mat
set_option maxRecDepth 100000
set_option linter.unusedVariables false
set_option linter.unusedSimpArgs false
def RetBy (w : World) (l : List Nat) (e : Ending) (w' : World) : Prop := ∃ g cap, e = .returned (.slice (some ⟨g, 0, none⟩) l.length cap) ∧ BySl w' (some ⟨g, 0, none⟩) l ∧ w.heap.size ≤ g ∧ l.length ≤ cap ∧ cap ≤ 9223372036854775807 ∧ w.grownBy w' none
theorem info_partsU : ∃ i, Tryd.prog.info? 5 = some i ∧ i.zero = some (.int .u8 0) ∧ i.size = 1 ∧ i.bytes = 1 := by
  have h : (Tryd.prog.info? 5).map (fun i => (i.zero, i.size, i.bytes)) = some (some (.int .u8 0), 1, 1) := by kernel_rfl
  cases e : Tryd.prog.info? 5 with
  | none => rw [e] at h; cases h
  | some i =>
    rw [e] at h
    simp only [Option.map_some, Option.some.injEq, Prod.mk.injEq] at h
    exact ⟨i, rfl, h.1, h.2.1, h.2.2⟩
def bvs (l : List Nat) : List Value := l.map fun x : Nat => .int .u8 (x : Int)
theorem own_empty (w : World) : (w.alloc (.cells #[] 5)).ownsRow w.heap.size 5 1 (.slice (some ⟨w.heap.size, 0, none⟩) 0 0) 0 [] :=
  ⟨rfl, Or.inr ⟨w.heap.size, 0, #[], rfl, Nat.le_refl _, heap_new w (.cells #[] 5) w.heap.size rfl, Nat.le_refl _, Nat.zero_le _, rfl, rfl⟩⟩
theorem own_by {w : World} {base g n cap : Nat} {l : List Nat} (h : w.ownsRow base 5 1 (.slice (some ⟨g, 0, none⟩) n cap) n (bvs l)) (hd : ∀ x ∈ l, x < 256) : BySl w (some ⟨g, 0, none⟩) l := by
  refine ⟨Or.inr ⟨_, rfl, fun i hi => ?_⟩, hd⟩
  exact h.cells (g := g) rfl i _ (by simp [bvs, List.getElem?_eq_getElem hi])
set_option maxHeartbeats 16000000 in
theorem copied_any (w : World) (s : Option Addr) (n cap : Nat) (l : List Nat) (hn : l.length = n) (hl : BySl w s l) (hz : s = none → n = 0 ∧ cap = 0) (h64 : n ≤ 64) :
    Calls Tryd.prog 7 #[.slice s n cap] w (RetBy w l) := by
  obtain ⟨i1, hi, hz0, hz1, hz2⟩ := info_partsU
  have hG := World.grownBy_alloc w (.cells #[] 5) none
  have HO := Lib.hid (own_empty w)
  have hs1 : (w.alloc (.cells #[] 5)).heap.size = w.heap.size + 1 := by simp
  have HSZ := Lib.hid hs1
  clear hs1
  cases s with
  | none =>
    obtain ⟨rfl, rfl⟩ := hz rfl
    obtain rfl : l = [] := List.length_eq_zero_iff.1 hn
    go_enter Tryd.func7, Tryd.ntmps7
    go_wp2_with (at_builtin; refine wpList_append_own_none rfl (.tmp 3) (.tmp 4) 22 rfl w.heap.size 5 i1 1 Tryd.underlying22 hi (.slice (some ⟨w.heap.size, 0, none⟩) 0 0) 0 [] rfl HO.out rfl ?_)
    go_ret
    exact ⟨w.heap.size, 0, rfl, BySl.nil _ _, Nat.le_refl _, Nat.le_refl _, by omega, hG⟩
  | some a =>
    have hnews : ∀ j u, (bvs l)[j]? = some u → w.cell? (a.add j) = some u := fun j u hj => by
      obtain ⟨h1, h2⟩ := hl
      have hj2 : j < l.length := by
        rcases Nat.lt_or_ge j l.length with h | h
        · exact h
        · rw [List.getElem?_eq_none (by simpa [bvs] using h)] at hj; cases hj
      rcases h1 with rfl | ⟨a', e, hc⟩
      · simp at hj2
      · cases e
        simp [bvs, List.getElem?_eq_getElem hj2] at hj
        rw [hc j hj2, hj]
    have HW : Hid (∀ j u, (bvs l)[j]? = some u → (w.alloc (.cells #[] 5)).cell? (a.add j) = some u) := Lib.hid fun j u hj => hG.cell (hnews j u hj) (by simp)
    have H1 : Hid (∀ u ∈ bvs l, u.oneCell' = true) := Lib.hid fun u hu => by
      unfold bvs at hu
      rw [List.mem_map] at hu
      obtain ⟨x, _, rfl⟩ := hu
      rfl
    have HLN : Hid ((bvs l).length = n * 1) := Lib.hid (by unfold bvs; rw [List.length_map, hn, Nat.mul_one])
    have HL := Lib.hid hl
    have HN := Lib.hid hn
    clear hnews hl hn hz
    go_enter Tryd.func7, Tryd.ntmps7
    go_wp2_with (at_builtin; refine wpList_append_own _ rfl (.tmp 3) (.tmp 4) 22 rfl w.heap.size 5 i1 (.int .u8 0) 1 1 Tryd.underlying22 hi hz0 hz1 hz2 rfl (by decide) (.slice (some ⟨w.heap.size, 0, none⟩) 0 0) 0 [] rfl HO.out a n cap (bvs l) rfl HLN.out HW.out H1.out (by unfold maxLen; omega) (by omega) (by simp) ?_)
    intro v1 w1 hown1 hgrow1 hnil1
    have hg1 : w.grownBy w1 none := grown_new (g := w.heap.size) hG hgrow1 (Nat.le_refl _)
    have hF : Hid (RetBy w l (.returned v1) w1) := by
      have hown2 := hown1
      try simp only [List.nil_append, Nat.zero_add] at hown2
      have hown3 := hown2
      obtain ⟨_, h⟩ := hown2
      rcases h with ⟨e, _⟩ | ⟨g, c1, cur, rfl, hb, _, hc1, hc2, _⟩
      · exact absurd e (fun e => by first | exact hnil1 e | (have := (hnil1.1 e).1; cases this))
      · have hg : g = w.heap.size ∨ True := Or.inr trivial
        have hbb : w.heap.size ≤ g := hb
        rw [← HN.out] at hown3 hc1
        exact ⟨g, c1, by rw [HN.out], own_by hown3 HL.out.2, hbb, hc1, hc2, hg1⟩
    clear hown1 hgrow1 hnil1 hg1 HL HN HW H1 HLN HO
    go_wp2_with fail
    go_ret
    exact hF.out
def strOf (l : List Nat) : ByteArray := ⟨(l.map UInt8.ofNat).toArray⟩
theorem conv_by (w : World) (s : Option Addr) (n cap : Nat) (l : List Nat) (hn : l.length = n) (hl : BySl w s l) : (convert 22 9 (.slice s n cap)).run Tryd.prog w = .ok (.string (strOf l)) w := by
  subst hn
  cases s with
  | none =>
    have : l = [] := hl.1.resolve_right (fun ⟨a, e, _⟩ => by cases e)
    subst this
    exact run_convert_bytes_nil w 22 5 Tryd.underlying22 Tryd.underlying5 _ cap 9 Tryd.underlying9
  | some a =>
    have hload : (loadCells a l.length).run Tryd.prog w = .ok ((l.map fun x : Nat => (x : Int)).map (Value.int .u8)).toArray w := by
      have := run_loadCells_list (P := Tryd.prog) w a (bvs l) (fun j u hj => by
        have hj2 : j < l.length := by
          rcases Nat.lt_or_ge j l.length with h | h
          · exact h
          · rw [List.getElem?_eq_none (by simpa [bvs] using h)] at hj; cases hj
        rcases hl.1 with rfl | ⟨a', e, hc⟩
        · simp at hj2
        · cases e
          simp [bvs, List.getElem?_eq_getElem hj2] at hj
          rw [hc j hj2, hj])
      simpa [bvs, Function.comp_def] using this
    rw [run_convert_bytes_string w 22 9 5 _ l.length cap Tryd.underlying22 Tryd.underlying5 Tryd.underlying9, run_bytesToString w _ l.length cap _ hload, foldl_push_bytes]
    simp [strOf, ByteArray.empty, ByteArray.emptyWithCapacity, Function.comp_def]
    rfl
set_option maxHeartbeats 16000000 in
theorem same_any (w : World) (s t : Option Addr) (n m cap cap' : Nat) (l : List Nat) (hn : l.length = n) (hm : l.length = m) (hl : BySl w s l) (hk : BySl w t l) :
    Calls Tryd.prog 11 #[.slice s n cap, .slice t m cap'] w (fun e w' => e = .returned (.bool true) ∧ w = w') := by
  have c1 := conv_by w s n cap l hn hl
  have c2 := conv_by w t m cap' l hm hk
  clear hn hm hl hk
  go_enter Tryd.func11, Tryd.ntmps11
  go_wp2_with (simp only [c1, c2])
  go_ret
  exact ⟨rfl, rfl⟩
end Go.Proofs.YtldkddogadmpbaaDoor
namespace Go.Proofs.YtldkddogadmpbaaDoor
open Go.RowKit Mat
set_option maxRecDepth 100000
set_option linter.unusedVariables false
set_option linter.unusedSimpArgs false
def slx (s : ByteArray) : Int := Lib.indexByte s.data.toList 47
theorem ix_spec (c : UInt8) : ∀ l : List UInt8, (Lib.indexByte l c = -1 ∧ c ∉ l) ∨ ∃ k : Nat, k < l.length ∧ Lib.indexByte l c = (k : Int) ∧ l[k]? = some c ∧ c ∉ l.take k
  | [] => Or.inl ⟨rfl, by simp⟩
  | b :: l => by
    unfold Lib.indexByte
    by_cases h : b = c
    · subst h
      right; exact ⟨0, by simp, by simp, by simp, by simp⟩
    · have hb : (b == c) = false := beq_eq_false_iff_ne.2 h
      rw [hb]
      rcases ix_spec c l with ⟨h1, h2⟩ | ⟨k, h1, h2, h3, h4⟩
      · left; rw [h1]; exact ⟨rfl, by simp [h2, Ne.symm h]⟩
      · right
        rw [h2]
        have : ((k : Int) == -1) = false := beq_eq_false_iff_ne.2 (by omega)
        rw [this]
        exact ⟨k + 1, by simp; omega, by simp, by simpa using h3, by simp [h4, Ne.symm h]⟩
theorem slx_spec (s : ByteArray) : (slx s = -1 ∧ (47 : UInt8) ∉ s.data.toList) ∨ ∃ k : Nat, k < s.size ∧ slx s = (k : Int) ∧ s.data.toList[k]? = some 47 ∧ (47 : UInt8) ∉ s.data.toList.take k := by
  rcases ix_spec 47 s.data.toList with h | ⟨k, h1, h2⟩
  · exact Or.inl h
  · exact Or.inr ⟨k, by simpa using h1, h2⟩
end Go.Proofs.YtldkddogadmpbaaDoor
namespace Go.Proofs.YtldkddogadmpbaaDoor
open Go.RowKit Mat
set_option maxRecDepth 100000
set_option linter.unusedVariables false
set_option linter.unusedSimpArgs false
def RetIntE (w : World) (z : Int) (code : Int) (e : Ending) (w' : World) : Prop := ∃ v, e = .returned (.tuple #[v, .int .i64 code]) ∧ IntV w' v z ∧ w.grownBy w' none
theorem ret_intvE {w w' : World} {z code : Int} {g : Nat} {a0 a1 v0 v1 : Value} (hg : w.grownBy w' none) (hbox : w'.heap[g]? = some (.cells #[a0, a1] 28 (0, 0))) (hl : w.heap.size ≤ g) (h : IntV w' (.agg #[v0, v1]) z) :
    RetIntE w z code (.returned (.tuple #[.agg #[v0, v1], .int .i64 code])) ((w'.setCell ⟨g, 0, none⟩ v0).setCell ⟨g, 1, none⟩ v1) :=
  ⟨_, rfl, h.set2 hbox v0 v1, grown_set2 hg hl v0 v1⟩
theorem intv_of_nat {w : World} {s : Option Addr} {k c m : Nat} (h : NatV w (.agg #[.slice s k c]) m) : IntV w (.agg #[.slice s k c, .bool false]) (m : Int) := by
  obtain ⟨s', xs, e, h1, hv⟩ := h
  cases e
  exact ⟨_, xs, false, rfl, h1, by simpa using hv, by constructor <;> intro h <;> first | cases h | omega⟩
theorem intv_of_neg {w : World} {s : Option Addr} {k c m : Nat} (h : NatV w (.agg #[.slice s k c]) m) (hm : 0 < m) : IntV w (.agg #[.slice s k c, .bool true]) (-(m : Int)) := by
  obtain ⟨s', xs, e, h1, hv⟩ := h
  cases e
  exact ⟨_, xs, true, rfl, h1, by omega, by constructor <;> intro h <;> first | rfl | omega⟩
end Go.Proofs.YtldkddogadmpbaaDoor
namespace Go.Proofs.YtldkddogadmpbaaDoor
open Go.RowKit Mat
set_option maxRecDepth 100000
set_option linter.unusedVariables false
set_option linter.unusedSimpArgs false
theorem ztext_uniq {s t : ByteArray} {z : Int} (hs : ZTextOf s z) (ht : ZTextOf t z) : s = t := by
  obtain ⟨l, hl, vl, el⟩ := hs
  obtain ⟨m, hm, vm, em⟩ := ht
  have : l = m := dec_uniqL hl hm (vl.trans vm.symm)
  subst this
  exact bts_inj (el.trans em.symm)
theorem NZText_any (w : World) (va : Value) (z : Int) (K : Nat) (ha : IntV w va z) (hK : K ≤ 900000) (la : z.natAbs < B ^ K) :
    Calls Tryd.prog 33 #[va] w (RetZText w z) := ZText_any w va z K ha hK la
theorem ztext_len {s : ByteArray} {z : Int} {K : Nat} (h : ZTextOf s z) (la : z.natAbs < B ^ K) : s.size ≤ 20 * K + 2 := by
  obtain ⟨l, hl, vl, el⟩ := h
  have h1 : l.length ≤ 20 * K + 1 := by
    refine dec_len hl ?_ (by omega)
    rw [vl]
    refine Nat.lt_of_lt_of_le la ?_
    have q1 : B ^ K ≤ (10 ^ 20) ^ K := Nat.pow_le_pow_left (by decide) K
    rw [← Nat.pow_mul] at q1
    exact Nat.le_trans q1 (Nat.pow_le_pow_right (by omega) (by omega))
  have h2 := congrArg List.length el
  rw [bts_len] at h2
  rw [h2]
  split
  · rw [List.length_cons]; omega
  · omega
theorem ztext_sh1 {a K : Nat} (h : a ≤ 20 * K + 2) (hK : K ≤ 800000) : ¬ (9223372036854775807 < a + 1) := by omega
theorem ztext_sh2 {a b K : Nat} (h : a ≤ 20 * K + 2) (h' : b ≤ 20 * K + 2) (hK : K ≤ 800000) : ¬ (9223372036854775807 < a + 1 + b) := by omega
def RTextOf (s : ByteArray) (r : Rat) : Prop := (r.den = 1 ∧ ZTextOf s r.num) ∨ (r.den ≠ 1 ∧ ∃ p q : ByteArray, ZTextOf p r.num ∧ ZTextOf q (r.den : Int) ∧ s = p ++ { data := #[47] } ++ q)
theorem rtext_uniq {s t : ByteArray} {r : Rat} (hs : RTextOf s r) (ht : RTextOf t r) : s = t := by
  rcases hs with ⟨h1, h2⟩ | ⟨h1, p, q, h2, h3, h4⟩
  · rcases ht with ⟨g1, g2⟩ | ⟨g1, _⟩
    · exact ztext_uniq h2 g2
    · exact absurd h1 g1
  · rcases ht with ⟨g1, g2⟩ | ⟨g1, p', q', g2, g3, g4⟩
    · exact absurd g1 h1
    · rw [h4, g4, ztext_uniq h2 g2, ztext_uniq h3 g3]
def RetRText (w : World) (r : Rat) (e : Ending) (w' : World) : Prop := ∃ s, e = .returned (.string s) ∧ RTextOf s r ∧ w.grownBy w' none
set_option maxHeartbeats 16000000 in
theorem FText_any (w : World) (va : Value) (r : Rat) (K : Nat) (Ha : RatV w va r) (hK : K ≤ 800000) (ln : r.num.natAbs < B ^ K) (ld : r.den < B ^ K) :
    Calls Tryd.prog 12 #[va] w (RetRText w r) := by
  have HD : Hid ((r.den : Int).natAbs < B ^ K) := by show _ < _; rw [Int.natAbs_natCast]; exact ld
  have HDN : Hid (¬ r.den = 1 → dn r = (r.den : Int)) := fun h => by unfold dn; rw [if_neg h]
  have Hln := Lib.hid ln
  have Hld := Lib.hid ld
  clear ln ld
  by_cases h1 : r.den = 1
  · skip
    have H1 := Lib.hid h1
    have hd : decide (r.den = 1) = true := decide_eq_true h1
    have HDE := Lib.hid hd
    clear h1 hd
    obtain ⟨sa, xa, ba, sa', xa', ba', rfl, ha, ha'⟩ := Ha
    have hG : w.grownBy (w.alloc (.cells #[.slice sa xa.length xa.length, .bool ba, .slice sa' xa'.length xa'.length, .bool ba'] 30)) none := (World.grownBy_alloc _ _ _)
    have Ba := (heap_new w (.cells #[.slice sa xa.length xa.length, .bool ba, .slice sa' xa'.length xa'.length, .bool ba'] 30) (w.heap.size) rfl)
    have qa : RatV (w.alloc (.cells #[.slice sa xa.length xa.length, .bool ba, .slice sa' xa'.length xa'.length, .bool ba'] 30)) (.agg #[.slice sa xa.length xa.length, .bool ba, .slice sa' xa'.length xa'.length, .bool ba']) (r) := ⟨sa, xa, ba, sa', xa', ba', rfl, ha.kept hG, ha'.kept hG⟩
    have ia : IntV (w.alloc (.cells #[.slice sa xa.length xa.length, .bool ba, .slice sa' xa'.length xa'.length, .bool ba'] 30)) (.agg #[.slice sa xa.length xa.length, .bool ba]) (r).num := ha.kept hG
    have ia' : IntV (w.alloc (.cells #[.slice sa xa.length xa.length, .bool ba, .slice sa' xa'.length xa'.length, .bool ba'] 30)) (.agg #[.slice sa' xa'.length xa'.length, .bool ba']) (dn (r)) := ha'.kept hG
    have oa : RatV w (.agg #[.slice sa xa.length xa.length, .bool ba, .slice sa' xa'.length xa'.length, .bool ba']) (r) := ⟨sa, xa, ba, sa', xa', ba', rfl, ha, ha'⟩
    clear ha ha'
    go_enter Tryd.func12, Tryd.ntmps12
    obtain ⟨Ca0, Ca1, Ca2, Ca3, Fa0, Fa1, Fa2, Fa3⟩ := box_cells4 Ba
    go_wp2_with fail
    generalize (w.alloc (.cells #[.slice sa xa.length xa.length, .bool ba, .slice sa' xa'.length xa'.length, .bool ba'] 30)) = w0 at *
    clear Ca0 Fa0 Ca1 Fa1 Ca2 Fa2 Ca3 Fa3
    refine (FWhole_any w0 _ r K qa (by omega) Hld.out).mono ?_
    rintro e t1w1 ⟨rfl, gt1w1⟩
    rw [HDE.out]
    replace Ba := heap_kept gt1w1 Ba
    replace qa := qa.kept gt1w1
    replace ia := ia.kept gt1w1
    replace ia' := ia'.kept gt1w1
    replace hG := grown_trans hG gt1w1
    clear gt1w1
    obtain ⟨Ca0, Ca1, Ca2, Ca3, Fa0, Fa1, Fa2, Fa3⟩ := box_cells4 Ba
    go_wp2_with fail
    clear Ca0 Fa0 Ca1 Fa1 Ca2 Fa2 Ca3 Fa3
    refine (NZText_any t1w1 _ r.num K ia (by omega) Hln.out).mono ?_
    rintro e t1w2 ⟨s, rfl, hs, gt1w2⟩
    have HS := Lib.hid hs
    clear hs
    replace Ba := heap_kept gt1w2 Ba
    replace qa := qa.kept gt1w2
    replace ia := ia.kept gt1w2
    replace ia' := ia'.kept gt1w2
    replace hG := grown_trans hG gt1w2
    clear gt1w2
    obtain ⟨Ca0, Ca1, Ca2, Ca3, Fa0, Fa1, Fa2, Fa3⟩ := box_cells4 Ba
    go_wp2_with fail
    go_ret
    exact ⟨_, rfl, Or.inl ⟨H1.out, HS.out⟩, hG⟩
  · skip
    have H1 := Lib.hid h1
    have hd : decide (r.den = 1) = false := decide_eq_false h1
    have HDE := Lib.hid hd
    clear h1 hd
    obtain ⟨sa, xa, ba, sa', xa', ba', rfl, ha, ha'⟩ := Ha
    have hG : w.grownBy (w.alloc (.cells #[.slice sa xa.length xa.length, .bool ba, .slice sa' xa'.length xa'.length, .bool ba'] 30)) none := (World.grownBy_alloc _ _ _)
    have Ba := (heap_new w (.cells #[.slice sa xa.length xa.length, .bool ba, .slice sa' xa'.length xa'.length, .bool ba'] 30) (w.heap.size) rfl)
    have qa : RatV (w.alloc (.cells #[.slice sa xa.length xa.length, .bool ba, .slice sa' xa'.length xa'.length, .bool ba'] 30)) (.agg #[.slice sa xa.length xa.length, .bool ba, .slice sa' xa'.length xa'.length, .bool ba']) (r) := ⟨sa, xa, ba, sa', xa', ba', rfl, ha.kept hG, ha'.kept hG⟩
    have ia : IntV (w.alloc (.cells #[.slice sa xa.length xa.length, .bool ba, .slice sa' xa'.length xa'.length, .bool ba'] 30)) (.agg #[.slice sa xa.length xa.length, .bool ba]) (r).num := ha.kept hG
    have ia' : IntV (w.alloc (.cells #[.slice sa xa.length xa.length, .bool ba, .slice sa' xa'.length xa'.length, .bool ba'] 30)) (.agg #[.slice sa' xa'.length xa'.length, .bool ba']) (dn (r)) := ha'.kept hG
    have oa : RatV w (.agg #[.slice sa xa.length xa.length, .bool ba, .slice sa' xa'.length xa'.length, .bool ba']) (r) := ⟨sa, xa, ba, sa', xa', ba', rfl, ha, ha'⟩
    clear ha ha'
    go_enter Tryd.func12, Tryd.ntmps12
    obtain ⟨Ca0, Ca1, Ca2, Ca3, Fa0, Fa1, Fa2, Fa3⟩ := box_cells4 Ba
    go_wp2_with fail
    generalize (w.alloc (.cells #[.slice sa xa.length xa.length, .bool ba, .slice sa' xa'.length xa'.length, .bool ba'] 30)) = w0 at *
    clear Ca0 Fa0 Ca1 Fa1 Ca2 Fa2 Ca3 Fa3
    refine (FWhole_any w0 _ r K qa (by omega) Hld.out).mono ?_
    rintro e t0w1 ⟨rfl, gt0w1⟩
    rw [HDE.out]
    replace Ba := heap_kept gt0w1 Ba
    replace qa := qa.kept gt0w1
    replace ia := ia.kept gt0w1
    replace ia' := ia'.kept gt0w1
    replace hG := grown_trans hG gt0w1
    clear gt0w1
    obtain ⟨Ca0, Ca1, Ca2, Ca3, Fa0, Fa1, Fa2, Fa3⟩ := box_cells4 Ba
    go_wp2_with fail
    rw [HDN.out H1.out] at ia'
    go_region_held3 (fun w' => w'.cell? ⟨w.heap.size, 0, none⟩ = some (.slice sa xa.length xa.length) ∧ w'.cell? ⟨w.heap.size, 1, none⟩ = some (.bool ba) ∧ w'.cell? ⟨w.heap.size, 2, none⟩ = some (.slice sa' xa'.length xa'.length) ∧ w'.cell? ⟨w.heap.size, 3, none⟩ = some (.bool ba'))
      (first | assumption | exact ⟨Ca0, Ca1, Ca2, Ca3⟩ | go_keep)
      (first
        | (go_at_call 33; (with_reducible refine (NZText_any t0w1.drew _ r.num K (ia.kept (grown_drew (grown_refl _ _))) (by omega) Hln.out).mono ?_); rintro e t0w2_1 ⟨s, rfl, hs, gt0w2_1⟩; have HS := Lib.hid hs; have hz := ztext_len hs Hln.out; have hz1 := ztext_sh1 hz hK; clear hs; have hGt0w2_1 := grown_pre t0w1 gt0w2_1 rfl rfl rfl rfl; have hSt0w2_1 := (And.intro (hGt0w2_1.cell Ca0 (by simp)) (And.intro (hGt0w2_1.cell Ca1 (by simp)) (And.intro (hGt0w2_1.cell Ca2 (by simp)) (hGt0w2_1.cell Ca3 (by simp))))); clear gt0w2_1)
        | (go_at_call 33; (with_reducible refine (NZText_any t0w2_1 _ (r.den : Int) K (ia'.kept hGt0w2_1) (by omega) HD.out).mono ?_); rintro e t0w2_2 ⟨t, rfl, ht, gt0w2_2⟩; have HT := Lib.hid ht; have hy := ztext_len ht HD.out; have hz2 := ztext_sh2 hz hy hK; clear ht; have hGt0w2_2 := grown_trans hGt0w2_1 gt0w2_2; have hSt0w2_2 := (And.intro (hGt0w2_2.cell Ca0 (by simp)) (And.intro (hGt0w2_2.cell Ca1 (by simp)) (And.intro (hGt0w2_2.cell Ca2 (by simp)) (hGt0w2_2.cell Ca3 (by simp))))); clear gt0w2_2))
    replace Ba := heap_kept hGt0w2_2 Ba
    replace qa := qa.kept hGt0w2_2
    replace ia := ia.kept hGt0w2_2
    replace ia' := ia'.kept hGt0w2_2
    replace hG := grown_trans hG hGt0w2_2
    clear Ca0 Fa0 Ca1 Fa1 Ca2 Fa2 Ca3 Fa3
    obtain ⟨Ca0, Ca1, Ca2, Ca3, Fa0, Fa1, Fa2, Fa3⟩ := box_cells4 Ba
    go_wp2_with fail
    go_ret
    exact ⟨_, rfl, Or.inr ⟨H1.out, _, _, HS.out, HT.out, by first | rfl | simp⟩, hG⟩
def fup (s : ByteArray) : ByteArray := if slx s < 0 then s else s.extract 0 (slx s).toNat
def fdown (s : ByteArray) : ByteArray := s.extract ((slx s).toNat + 1) s.size
def ncod (s : ByteArray) : Int := if decB (bts s) = true then 0 else 3
def nval (s : ByteArray) : Nat := if decB (bts s) = true then dval (bts s) else 0
def fcod (s : ByteArray) : Int := if zcod (fup s) ≠ 0 then zcod (fup s) else if slx s < 0 then 0 else if ncod (fdown s) ≠ 0 then ncod (fdown s) else if nval (fdown s) = 0 then 5 else 0
def fval (s : ByteArray) : Rat := if fcod s = 0 then (if slx s < 0 then (zval (fup s) : Rat) else Rat.divInt (zval (fup s)) (nval (fdown s) : Int)) else 0
theorem ncod_or (s : ByteArray) : ncod s = 0 ∨ ncod s = 3 := by unfold ncod; split <;> simp
theorem zcod_or {s : ByteArray} (h : s.size ≤ 4000) : zcod s = 0 ∨ zcod s = 3 := by
  have h1 : (zdig (bts s)).length ≤ 4096 := by
    unfold zdig
    split
    · rw [List.length_tail, bts_len]; omega
    · rw [bts_len]; omega
  unfold zcod
  rw [if_neg (by omega)]
  split
  · right; rfl
  · left; rw [if_neg (by omega)]
theorem fup_size (s : ByteArray) : (fup s).size ≤ s.size := by
  unfold fup
  split
  · exact Nat.le_refl _
  · rw [ByteArray.size_extract]; omega
theorem fdown_size (s : ByteArray) : (fdown s).size ≤ s.size := by
  unfold fdown
  rw [ByteArray.size_extract]; omega
theorem nval_bd (s : ByteArray) {n k : Nat} (h : s.size ≤ n) (hk : n ≤ 19 * k) : nval s < B ^ k := by
  unfold nval
  split
  · next hd => exact dval_bdE ((dec_iff _).1 hd) (by rw [bts_len]; omega)
  · exact Nat.pow_pos B_pos
theorem fval_nb (s : ByteArray) {n k : Nat} (h : s.size ≤ n) (hk : n ≤ 19 * k) : (fval s).num.natAbs < B ^ k := by
  have h1 := zval_bd (fup s) (Nat.le_trans (fup_size s) h) hk
  unfold fval
  split
  · split
    · exact h1
    · exact rdiv_nb h1
  · exact Nat.pow_pos B_pos
theorem fval_db (s : ByteArray) {n k : Nat} (h : s.size ≤ n) (hk : n ≤ 19 * k) (k1 : 1 ≤ k) : (fval s).den < B ^ k := by
  have h1 := nval_bd (fdown s) (Nat.le_trans (fdown_size s) h) hk
  have h3 : 1 < B ^ k := Nat.lt_of_lt_of_le (show 1 < B ^ 1 by unfold B; omega) (Nat.pow_le_pow_right B_pos k1)
  unfold fval
  split
  · next hc =>
    split
    · exact h3
    · next hs =>
      refine rdiv_db (by rw [Int.natAbs_natCast]; exact h1) ?_
      intro e
      unfold fcod at hc
      split at hc
      · next hz => exact hz hc
      · try rw [if_neg hs] at hc
        split at hc
        · next hn => exact hn hc
        · rw [if_pos (by omega)] at hc; omega
  · exact h3
end Go.Proofs.YtldkddogadmpbaaDoor
