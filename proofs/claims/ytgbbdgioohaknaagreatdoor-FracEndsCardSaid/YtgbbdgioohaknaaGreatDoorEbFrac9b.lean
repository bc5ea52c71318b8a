/- Quotients: the least, the greatest of a list. -/
import Derived.Deep.RegionHeld3
import Derived.Deep.CutRange
import Derived.Test.YtgbbdgioohaknaaGreatDoorPb1
import Derived.Test.YtgbbdgioohaknaaGreatDoorPb10
import Derived.Test.YtgbbdgioohaknaaGreatDoorPb11
import Derived.Test.YtgbbdgioohaknaaGreatDoorPb12
import Derived.Test.YtgbbdgioohaknaaGreatDoorPb13
import Derived.Test.YtgbbdgioohaknaaGreatDoorPb14
import Derived.Test.YtgbbdgioohaknaaGreatDoorPb17
import Derived.Test.YtgbbdgioohaknaaGreatDoorPb18
import Derived.Test.YtgbbdgioohaknaaGreatDoorPb2
import Derived.Test.YtgbbdgioohaknaaGreatDoorPb21
import Derived.Test.YtgbbdgioohaknaaGreatDoorPb3
import Derived.Test.YtgbbdgioohaknaaGreatDoorPb34
import Derived.Test.YtgbbdgioohaknaaGreatDoorPb4
import Derived.Test.YtgbbdgioohaknaaGreatDoorPb5
import Derived.Test.YtgbbdgioohaknaaGreatDoorPb6
import Derived.Test.YtgbbdgioohaknaaGreatDoorPb7
import Derived.Test.YtgbbdgioohaknaaGreatDoorPb8
import Derived.Test.YtgbbdgioohaknaaGreatDoorPb9
namespace Go.Proofs.YtgbbdgioohaknaaGreatDoor
open Go.RowKit Mat
set_option maxRecDepth 100000
set_option linter.unusedVariables false
set_option linter.unusedSimpArgs false

theorem RatV.parts9 {W : World} {s s' : Option Addr} {xs xs' : List Nat} {b b' : Bool} {r : Rat} (h : RatV W (.agg #[.slice s xs.length xs.length, .bool b, .slice s' xs'.length xs'.length, .bool b']) r) : IntV W (.agg #[.slice s xs.length xs.length, .bool b]) r.num ∧ IntV W (.agg #[.slice s' xs'.length xs'.length, .bool b']) (dn r) := by
  obtain ⟨s1, x1, b1, s2, x2, b2, e, h1, h2⟩ := h
  injection e with e
  injection e with e
  simp only [List.cons.injEq, Value.slice.injEq, Value.bool.injEq, and_true] at e
  obtain ⟨⟨e1, e2, _⟩, e3, ⟨e4, e5, _⟩, e6⟩ := e
  rw [e1, e3, e4, e6]
  simp only [e2, e5]
  exact ⟨h1, h2⟩
/-- The outmost of some: the least if side is -1, the greatest if it is 1; of none 0. -/
def cv_ (side : Int) (rs : List Rat) : Rat := rs.tail.foldl (fun b a => if bT_ a b = side then a else b) (rs.headD 0)
theorem gN_ (side : Int) (rs : List Rat) (h : 0 < rs.length) : cv_ side (rs.take 1) = rs[0] := by
  cases rs with
  | nil => simp at h
  | cons r t => rfl
theorem fL_ (side : Int) (rs : List Rat) (k : Nat) (h : k + 1 < rs.length) : cv_ side (rs.take (k + 2)) = if bT_ rs[k + 1] (cv_ side (rs.take (k + 1))) = side then rs[k + 1] else cv_ side (rs.take (k + 1)) := by
  cases rs with
  | nil => simp at h
  | cons r t =>
    have hk : k < t.length := by simpa using h
    unfold cv_
    simp only [List.take_succ_cons, List.tail_cons, List.headD_cons, List.getElem_cons_succ]
    rw [List.take_succ_eq_append_getElem hk, List.foldl_append]; rfl
theorem jK_ (side : Int) (rs : List Rat) (k : Nat) (hk : k < rs.length) : cv_ side (rs.take (k + 1)) ∈ rs := by
  induction k with
  | zero => rw [gN_ side rs hk]; exact List.getElem_mem _
  | succ k ih =>
    rw [fL_ side rs k hk]
    split
    · exact List.getElem_mem _
    · exact ih (by omega)
theorem jL_ (side : Int) (rs : List Rat) : cv_ side (rs.take rs.length) = cv_ side rs := by rw [List.take_length]
set_option maxHeartbeats 16000000 in
theorem dB_ (w : World) (s : Option Addr) (n cap : Nat) (rs : List Rat) (side : Int) (K : Nat) (Hs : QSl w s n rs) (hcap : n ≤ cap) (hn : n ≤ 1000000000) (hside : side = -1 ∨ side = 1) (hK : K ≤ 400000) (hb : ∀ r ∈ rs, r.num.natAbs < B ^ K ∧ r.den < B ^ K) :
    Calls Tryz.prog 86 #[.slice s n cap, .int .i64 side] w (aa_ w (cv_ side rs)) := by
  have hl := Hs.1
  have hcase : n = 0 ∨ ∃ b, s = some ⟨b, 0, none⟩ := by
    rcases Hs.2 with h | ⟨b, cs, e, _⟩
    · exact Or.inl h
    · exact Or.inr ⟨b, e⟩
  have HBD : Hid (∀ k, k < n → (cv_ side (rs.take (k + 1))).num.natAbs < B ^ K ∧ (cv_ side (rs.take (k + 1))).den < B ^ K) := fun k hk => hb _ (jK_ side rs k (by omega))
  have HEL : Hid (∀ k (h : k < rs.length), (rs[k]'h).num.natAbs < B ^ K ∧ (rs[k]'h).den < B ^ K) := fun k h => hb _ (List.getElem_mem h)
  have HSN : Hid (∀ k (h : k + 1 < rs.length), cv_ side (rs.take (k + 2)) = if bT_ (rs[k + 1]'h) (cv_ side (rs.take (k + 1))) = side then rs[k + 1]'h else cv_ side (rs.take (k + 1))) := fun k h => fL_ side rs k h
  have HON : Hid (∀ h : 0 < rs.length, cv_ side (rs.take 1) = rs[0]'h) := fun h => gN_ side rs h
  have HALL : Hid (cv_ side (rs.take n) = cv_ side rs) := by show _ = _; rw [← hl]; exact jL_ side rs
  have HL := H_ hl
  by_cases h0 : n = 0
  · skip
    have hrs : rs = [] := List.eq_nil_of_length_eq_zero (by omega)
    rw [hrs, show cv_ side [] = 0 from rfl]
    clear HBD HEL HSN HON HALL HL hb hl hcase Hs hrs
    subst h0
    have hG : w.grownBy (w.alloc (.cells #[.slice none 0 0, .bool false, .slice none 0 0, .bool false] 28)) none := (wg_ _ _ _)
    have Bq := (f_ w (.cells #[.slice none 0 0, .bool false, .slice none 0 0, .bool false] 28) (w.heap.size) rfl)
    go_enter Tryz.func86, Tryz.ntmps86
    obtain ⟨Cq0, Cq1, Cq2, Cq3, Fq0, Fq1, Fq2, Fq3⟩ := b_ Bq
    have hG' : w.grownBy (w.alloc (.cells #[.slice none 0 0, .bool false, .slice none 0 0, .bool false] 28)) none := (wg_ _ _ _)
    have hF : Hid (aa_ w (0) (.returned (.agg #[.slice none 0 0, .bool false, .slice none 0 0, .bool false])) (w.alloc (.cells #[.slice none 0 0, .bool false, .slice none 0 0, .bool false] 28))) := ⟨_, rfl, RatV.zero _, hG'⟩
    clear hG' 
    go_wp2_with fail
    exact bodyPost_ret (v := .agg #[.slice none 0 0, .bool false, .slice none 0 0, .bool false]) (by simp [results, Tryz.results86, go_sem]) rfl hF.out
  · skip
    obtain ⟨b, rfl⟩ := hcase.resolve_left h0
    have h0' : 0 < n := by omega
    clear h0 hl hb
    obtain ⟨s0, x0, f0, s0', x0', f0', c00, c01, c02, c03, i0⟩ := Hs.at 0 (by rw [HL.out]; exact h0')
    rw [← HON.out (by rw [HL.out]; exact h0')] at i0
    have hG : w.grownBy (w.alloc (.cells #[.slice none 0 0, .bool false, .slice none 0 0, .bool false] 28)) none := (wg_ _ _ _)
    have Bq := (f_ w (.cells #[.slice none 0 0, .bool false, .slice none 0 0, .bool false] 28) (w.heap.size) rfl)
    go_enter Tryz.func86, Tryz.ntmps86
    have g1 : w.grownBy (w.alloc (.cells #[.slice none 0 0, .bool false, .slice none 0 0, .bool false] 28)) none := wg_ _ _ _
    have d00 := g1.cell c00 (by simp)
    have d01 := g1.cell c01 (by simp)
    have d02 := g1.cell c02 (by simp)
    have d03 := g1.cell c03 (by simp)
    have gB := wg_ (w.alloc (.cells #[.slice none 0 0, .bool false, .slice none 0 0, .bool false] 28)) (.cells #[.slice s0 x0.length x0.length, .bool f0, .slice s0' x0'.length x0'.length, .bool f0'] 28) none
    have Bs0 := f_ (w.alloc (.cells #[.slice none 0 0, .bool false, .slice none 0 0, .bool false] 28)) (.cells #[.slice s0 x0.length x0.length, .bool f0, .slice s0' x0'.length x0'.length, .bool f0'] 28) (w.heap.size + 1) (by simp)
    have Bq0 := a_ gB Bq
    have i1 := (i0.kept g1).kept gB
    have HS0 := H_ (Hs.kept g1)
    have HG0 := H_ g1
    have HT1 := H_ gB
    have HI1 := H_ i1
    have HBS := H_ Bs0
    have HBQ1 := H_ Bq
    have hsz1 : (w.alloc (.cells #[.slice none 0 0, .bool false, .slice none 0 0, .bool false] 28)).heap.size = w.heap.size + 1 := by simp
    have HZ1 := H_ hsz1
    clear hsz1
    clear g1 gB Bs0 Bq0 i0 i1 hG Bq Hs c00 c01 c02 c03
    go_wp2_with fail
    all_goals skip
    · skip
      generalize (w.alloc (.cells #[.slice none 0 0, .bool false, .slice none 0 0, .bool false] 28)) = w1 at *
      generalize (w1.alloc (.cells #[.slice s0 x0.length x0.length, .bool f0, .slice s0' x0'.length x0'.length, .bool f0'] 28)) = w2 at *
      go_loopw [18] (fun i wr => ∃ k : Nat, k ≤ n - 1 ∧ i = .int .i64 k ∧ BoxR wr (w.heap.size + 1) (cv_ side (rs.take (k + 1))) ∧ w1.grownBy wr none) (fun i _ => n - (intOf i).toNat)
      case atStart => exact ⟨0, Nat.zero_le _, rfl, ⟨_, _, _, _, HBS.out, HI1.out⟩, HT1.out⟩
      case round =>
        obtain ⟨k, hk, rfl, Ks, hT⟩ := hrel
        obtain ⟨ss, xs, bs, ss', xs', bs', Bs, qs⟩ := Ks.open
        have Bq := a_ hT HBQ1.out
        have hG := d_ HG0.out hT
        by_cases hlt : k < n - 1
        · skip
          omega
        · skip
          obtain rfl : k = n - 1 := by omega
          have hb1 := HBD.out (n - 1) (by omega)
          rw [show n - 1 + 1 = n by omega, HALL.out] at qs hb1
          have HB9 := H_ hb1
          clear hlt hk hb1
          generalize cv_ side rs = R at *
          have is := qs.parts9.1
          have is' := qs.parts9.2
          clear qs hT
          obtain ⟨Cq0, Cq1, Cq2, Cq3, Fq0, Fq1, Fq2, Fq3⟩ := b_ Bq
          obtain ⟨Cs0, Cs1, Cs2, Cs3, Fs0, Fs1, Fs2, Fs3⟩ := b_ Bs
          go_wp2_with fail
          go_region_held3 (fun w' => w'.cell? ⟨w.heap.size + 1, 0, none⟩ = some (.slice ss xs.length xs.length) ∧ w'.cell? ⟨w.heap.size + 1, 1, none⟩ = some (.bool bs) ∧ w'.cell? ⟨w.heap.size + 1, 2, none⟩ = some (.slice ss' xs'.length xs'.length) ∧ w'.cell? ⟨w.heap.size + 1, 3, none⟩ = some (.bool bs'))
            (first | assumption | exact ⟨Cs0, Cs1, Cs2, Cs3⟩ | exact HSsi1ew1_20 | go_keep)
            (first
              | (go_at_call 62; (with_reducible refine (af_ wr.drew _ R.num K (is.kept (k_ (h_ _ _))) (by omega) HB9.out.1).mono ?_); rintro e si1ew1_1 ⟨_, rfl, ⟨sd, xd, bd, rfl, hd, vd, td⟩, gsi1ew1_1⟩; have hGsi1ew1_1 := o_ wr gsi1ew1_1 rfl rfl rfl rfl; have id : IntV si1ew1_1 (.agg #[.slice sd xd.length xd.length, .bool bd]) (R.num) := ⟨sd, xd, bd, rfl, hd, vd, td⟩; have hSsi1ew1_1 := (n_ (hGsi1ew1_1.cell Cs0 (by simp)) (n_ (hGsi1ew1_1.cell Cs1 (by simp)) (n_ (hGsi1ew1_1.cell Cs2 (by simp)) (hGsi1ew1_1.cell Cs3 (by simp))))); clear gsi1ew1_1; clear hd vd td)
              | (go_at_call 62; (with_reducible refine (af_ si1ew1_1 _ (dn R) K (is'.kept hGsi1ew1_1) (by omega) (ke_ HB9.out.2)).mono ?_); rintro e si1ew1_2 ⟨_, rfl, ⟨se, xe, be, rfl, he, ve, te⟩, gsi1ew1_2⟩; have hGsi1ew1_2 := d_ hGsi1ew1_1 gsi1ew1_2; replace id := id.kept gsi1ew1_2; have ie : IntV si1ew1_2 (.agg #[.slice se xe.length xe.length, .bool be]) (dn R) := ⟨se, xe, be, rfl, he, ve, te⟩; have hSsi1ew1_2 := (n_ (hGsi1ew1_2.cell Cs0 (by simp)) (n_ (hGsi1ew1_2.cell Cs1 (by simp)) (n_ (hGsi1ew1_2.cell Cs2 (by simp)) (hGsi1ew1_2.cell Cs3 (by simp))))); clear gsi1ew1_2; clear he ve te; (obtain ⟨dq0, dq1, dq2, dq3, dq4, dq5, dq6, dq7⟩ := b_ (a_ hGsi1ew1_2 Bq)); have HSsi1ew1_20 := (n_ ((b_ (i_ (a_ hGsi1ew1_2 Bs) (show w.heap.size + 1 ≠ w.heap.size by omega) (.slice sd xd.length xd.length) (.bool bd) (.slice se xe.length xe.length) (.bool be))).1) (n_ ((b_ (i_ (a_ hGsi1ew1_2 Bs) (show w.heap.size + 1 ≠ w.heap.size by omega) (.slice sd xd.length xd.length) (.bool bd) (.slice se xe.length xe.length) (.bool be))).2.1) (n_ ((b_ (i_ (a_ hGsi1ew1_2 Bs) (show w.heap.size + 1 ≠ w.heap.size by omega) (.slice sd xd.length xd.length) (.bool bd) (.slice se xe.length xe.length) (.bool be))).2.2.1) ((b_ (i_ (a_ hGsi1ew1_2 Bs) (show w.heap.size + 1 ≠ w.heap.size by omega) (.slice sd xd.length xd.length) (.bool bd) (.slice se xe.length xe.length) (.bool be))).2.2.2.1))))))
          replace Bq := a_ hGsi1ew1_2 Bq
          replace Bs := a_ hGsi1ew1_2 Bs
          replace is := is.kept hGsi1ew1_2
          replace is' := is'.kept hGsi1ew1_2
          replace hG := d_ hG hGsi1ew1_2
          clear Cq0 Fq0 Cq1 Fq1 Cq2 Fq2 Cq3 Fq3 Cs0 Fs0 Cs1 Fs1 Cs2 Fs2 Cs3 Fs3
          have qd : RatV si1ew1_2 (.agg #[.slice sd xd.length xd.length, .bool bd, .slice se xe.length xe.length, .bool be]) R := ⟨_, _, _, _, _, _, rfl, id, ie⟩
          obtain ⟨k90, k91, k92, k93, k94, k95, k96, k97⟩ := b_ Bq
          obtain ⟨q90, q91, q92, q93, q94, q95, q96, q97⟩ := b_ (r_ Bq (.slice sd xd.length xd.length) (.bool bd) (.slice se xe.length xe.length) (.bool be))
          have hF : Hid (aa_ w (R) (.returned (.agg #[.slice sd xd.length xd.length, .bool bd, .slice se xe.length xe.length, .bool be])) ((((si1ew1_2.setCell ⟨w.heap.size, 0, none⟩ (.slice sd xd.length xd.length)).setCell ⟨w.heap.size, 1, none⟩ (.bool bd)).setCell ⟨w.heap.size, 2, none⟩ (.slice se xe.length xe.length)).setCell ⟨w.heap.size, 3, none⟩ (.bool be))) := X_ hG Bq (by omega) qd
          clear is is' id ie qd
          go_wp2_with fail
          exact bodyPost_ret (v := .agg #[.slice sd xd.length xd.length, .bool bd, .slice se xe.length xe.length, .bool be]) (by simp [results, Tryz.results86, go_sem, q90, q91, q92, q93]) rfl hF.out
    · skip
      generalize (w.alloc (.cells #[.slice none 0 0, .bool false, .slice none 0 0, .bool false] 28)) = w1 at *
      generalize (w1.alloc (.cells #[.slice s0 x0.length x0.length, .bool f0, .slice s0' x0'.length x0'.length, .bool f0'] 28)) = w2 at *
      go_loopw [18] (fun i wr => ∃ k : Nat, k ≤ n - 1 ∧ i = .int .i64 k ∧ BoxR wr (w.heap.size + 1) (cv_ side (rs.take (k + 1))) ∧ w1.grownBy wr none) (fun i _ => n - (intOf i).toNat)
      case atStart => exact ⟨0, Nat.zero_le _, rfl, ⟨_, _, _, _, HBS.out, HI1.out⟩, HT1.out⟩
      case round =>
        obtain ⟨k, hk, rfl, Ks, hT⟩ := hrel
        obtain ⟨ss, xs, bs, ss', xs', bs', Bs, qs⟩ := Ks.open
        have Bq := a_ hT HBQ1.out
        have hG := d_ HG0.out hT
        by_cases hlt : k < n - 1
        · skip
          have hkl : k + 1 < rs.length := by rw [HL.out]; omega
          obtain ⟨sa, xa, ba, sa', xa', ba', ca0, ca1, ca2, ca3, qa⟩ := (HS0.out.kept hT).at (k + 1) hkl
          rw [show (k + 1) * 4 = 4 + k * 4 by omega] at ca0 ca1 ca2 ca3
          have hs1 := HSN.out k hkl
          have he1 := HEL.out (k + 1) hkl
          have hb1 := HBD.out k (by omega)
          generalize rs[k + 1] = z at *
          generalize hbst : cv_ side (rs.take (k + 1)) = bst at *
          obtain ⟨c, hc⟩ : ∃ c, bT_ z bst = c := ⟨_, rfl⟩
          have hcc : ((c == side) = true ∧ Hid (cv_ side (rs.take (k + 2)) = z)) ∨ ((c == side) = false ∧ Hid (cv_ side (rs.take (k + 2)) = bst)) := by
            rw [hc] at hs1
            by_cases h : c = side
            · left; exact ⟨beq_iff_eq.2 h, by rw [if_pos h] at hs1; exact hs1⟩
            · right; exact ⟨beq_eq_false_iff_ne.2 h, by rw [if_neg h] at hs1; exact hs1⟩
          have HC := H_ hc
          have HE9 := H_ he1
          have HB9 := H_ hb1
          clear hs1 he1 hb1 hkl hbst hc
          obtain ⟨Cq0, Cq1, Cq2, Cq3, Fq0, Fq1, Fq2, Fq3⟩ := b_ Bq
          obtain ⟨Cs0, Cs1, Cs2, Cs3, Fs0, Fs1, Fs2, Fs3⟩ := b_ Bs
          rcases hcc with ⟨fc, HR⟩ | ⟨fc, HR⟩
          · skip
            have gbwr := (wg_ wr (.cells #[.slice sa xa.length xa.length, .bool ba, .slice sa' xa'.length xa'.length, .bool ba'] 28) none)
            have Ba := (f_ wr (.cells #[.slice sa xa.length xa.length, .bool ba, .slice sa' xa'.length xa'.length, .bool ba'] 28) (wr.heap.size) rfl)
            have hzwr : Hid (w.heap.size ≤ wr.heap.size) := H_ hG.size
            have hlqwr : Hid (w.heap.size < wr.heap.size) := H_ (Array.getElem?_eq_some_iff.1 Bq).1
            have hlswr : Hid (w.heap.size + 1 < wr.heap.size) := H_ (Array.getElem?_eq_some_iff.1 Bs).1
            clear Cq0 Fq0 Cq1 Fq1 Cq2 Fq2 Cq3 Fq3 Cs0 Fs0 Cs1 Fs1 Cs2 Fs2 Cs3 Fs3
            replace Bq := a_ gbwr Bq
            replace Bs := a_ gbwr Bs
            replace qs := qs.kept gbwr
            replace qa := qa.kept gbwr
            replace hG := d_ hG gbwr
            replace hT := d_ hT gbwr
            clear gbwr
            obtain ⟨Cq0, Cq1, Cq2, Cq3, Fq0, Fq1, Fq2, Fq3⟩ := b_ Bq
            obtain ⟨Cs0, Cs1, Cs2, Cs3, Fs0, Fs1, Fs2, Fs3⟩ := b_ Bs
            obtain ⟨Ca0, Ca1, Ca2, Ca3, Fa0, Fa1, Fa2, Fa3⟩ := b_ Ba
            go_wp2_with fail
            generalize (wr.alloc (.cells #[.slice sa xa.length xa.length, .bool ba, .slice sa' xa'.length xa'.length, .bool ba'] 28)) = si0rh1w1 at *
            generalize wr.heap.size = awr at *
            replace hzwr := hzwr.out
            replace hlqwr := hlqwr.out
            replace hlswr := hlswr.out
            clear Cq0 Fq0 Cq1 Fq1 Cq2 Fq2 Cq3 Fq3 Cs0 Fs0 Cs1 Fs1 Cs2 Fs2 Cs3 Fs3 Ca0 Fa0 Ca1 Fa1 Ca2 Fa2 Ca3 Fa3
            refine (D_ si0rh1w1 _ _ z bst K qa qs (by omega) HE9.out.1 HE9.out.2 HB9.out.1 HB9.out.2).mono ?_
            rintro e si0rh1w2 ⟨rfl, gsi0rh1w2⟩
            rw [HC.out]
            replace Bq := a_ gsi0rh1w2 Bq
            replace Bs := a_ gsi0rh1w2 Bs
            replace Ba := a_ gsi0rh1w2 Ba
            replace qs := qs.kept gsi0rh1w2
            replace qa := qa.kept gsi0rh1w2
            replace hG := d_ hG gsi0rh1w2
            replace hT := d_ hT gsi0rh1w2
            clear gsi0rh1w2
            obtain ⟨Cq0, Cq1, Cq2, Cq3, Fq0, Fq1, Fq2, Fq3⟩ := b_ Bq
            obtain ⟨Cs0, Cs1, Cs2, Cs3, Fs0, Fs1, Fs2, Fs3⟩ := b_ Bs
            obtain ⟨Ca0, Ca1, Ca2, Ca3, Fa0, Fa1, Fa2, Fa3⟩ := b_ Ba
            have hT2 := aw_ (g := w.heap.size + 1) hT (by rw [HZ1.out]; exact Nat.le_refl _) (.slice sa xa.length xa.length) (.bool ba) (.slice sa' xa'.length xa'.length) (.bool ba')
            have Ks : BoxR _ (w.heap.size + 1) (cv_ side (rs.take (k + 1 + 1))) := ⟨_, _, _, _, r_ Bs (.slice sa xa.length xa.length) (.bool ba) (.slice sa' xa'.length xa'.length) (.bool ba'), by rw [HR.out]; exact qa.set4 Bs (.slice sa xa.length xa.length) (.bool ba) (.slice sa' xa'.length xa'.length) (.bool ba')⟩
            clear qs qa hT hG
            have HT9 := H_ hT2
            have HK9 := H_ Ks
            clear hT2 Ks
            go_wp2_with fail
            go_roundw
            case rel => exact ⟨k + 1, by omega, by go_num, HK9.out, HT9.out⟩
            case measure => simp [intOf]; omega
          · skip
            have gbwr := (wg_ wr (.cells #[.slice sa xa.length xa.length, .bool ba, .slice sa' xa'.length xa'.length, .bool ba'] 28) none)
            have Ba := (f_ wr (.cells #[.slice sa xa.length xa.length, .bool ba, .slice sa' xa'.length xa'.length, .bool ba'] 28) (wr.heap.size) rfl)
            have hzwr : Hid (w.heap.size ≤ wr.heap.size) := H_ hG.size
            have hlqwr : Hid (w.heap.size < wr.heap.size) := H_ (Array.getElem?_eq_some_iff.1 Bq).1
            have hlswr : Hid (w.heap.size + 1 < wr.heap.size) := H_ (Array.getElem?_eq_some_iff.1 Bs).1
            clear Cq0 Fq0 Cq1 Fq1 Cq2 Fq2 Cq3 Fq3 Cs0 Fs0 Cs1 Fs1 Cs2 Fs2 Cs3 Fs3
            replace Bq := a_ gbwr Bq
            replace Bs := a_ gbwr Bs
            replace qs := qs.kept gbwr
            replace qa := qa.kept gbwr
            replace hG := d_ hG gbwr
            replace hT := d_ hT gbwr
            clear gbwr
            obtain ⟨Cq0, Cq1, Cq2, Cq3, Fq0, Fq1, Fq2, Fq3⟩ := b_ Bq
            obtain ⟨Cs0, Cs1, Cs2, Cs3, Fs0, Fs1, Fs2, Fs3⟩ := b_ Bs
            obtain ⟨Ca0, Ca1, Ca2, Ca3, Fa0, Fa1, Fa2, Fa3⟩ := b_ Ba
            go_wp2_with fail
            generalize (wr.alloc (.cells #[.slice sa xa.length xa.length, .bool ba, .slice sa' xa'.length xa'.length, .bool ba'] 28)) = si0rh0w1 at *
            generalize wr.heap.size = awr at *
            replace hzwr := hzwr.out
            replace hlqwr := hlqwr.out
            replace hlswr := hlswr.out
            clear Cq0 Fq0 Cq1 Fq1 Cq2 Fq2 Cq3 Fq3 Cs0 Fs0 Cs1 Fs1 Cs2 Fs2 Cs3 Fs3 Ca0 Fa0 Ca1 Fa1 Ca2 Fa2 Ca3 Fa3
            refine (D_ si0rh0w1 _ _ z bst K qa qs (by omega) HE9.out.1 HE9.out.2 HB9.out.1 HB9.out.2).mono ?_
            rintro e si0rh0w2 ⟨rfl, gsi0rh0w2⟩
            rw [HC.out]
            replace Bq := a_ gsi0rh0w2 Bq
            replace Bs := a_ gsi0rh0w2 Bs
            replace Ba := a_ gsi0rh0w2 Ba
            replace qs := qs.kept gsi0rh0w2
            replace qa := qa.kept gsi0rh0w2
            replace hG := d_ hG gsi0rh0w2
            replace hT := d_ hT gsi0rh0w2
            clear gsi0rh0w2
            obtain ⟨Cq0, Cq1, Cq2, Cq3, Fq0, Fq1, Fq2, Fq3⟩ := b_ Bq
            obtain ⟨Cs0, Cs1, Cs2, Cs3, Fs0, Fs1, Fs2, Fs3⟩ := b_ Bs
            obtain ⟨Ca0, Ca1, Ca2, Ca3, Fa0, Fa1, Fa2, Fa3⟩ := b_ Ba
            have hT2 := hT
            have Ks : BoxR si0rh0w2 (w.heap.size + 1) (cv_ side (rs.take (k + 1 + 1))) := ⟨_, _, _, _, Bs, by rw [HR.out]; exact qs⟩
            clear qs qa hT hG
            have HT9 := H_ hT2
            have HK9 := H_ Ks
            clear hT2 Ks
            go_wp2_with fail
            go_roundw
            case rel => exact ⟨k + 1, by omega, by go_num, HK9.out, HT9.out⟩
            case measure => simp [intOf]; omega
        · skip
          obtain rfl : k = n - 1 := by omega
          have hb1 := HBD.out (n - 1) (by omega)
          rw [show n - 1 + 1 = n by omega, HALL.out] at qs hb1
          have HB9 := H_ hb1
          clear hlt hk hb1
          generalize cv_ side rs = R at *
          have is := qs.parts9.1
          have is' := qs.parts9.2
          clear qs hT
          obtain ⟨Cq0, Cq1, Cq2, Cq3, Fq0, Fq1, Fq2, Fq3⟩ := b_ Bq
          obtain ⟨Cs0, Cs1, Cs2, Cs3, Fs0, Fs1, Fs2, Fs3⟩ := b_ Bs
          go_wp2_with fail
          go_region_held3 (fun w' => w'.cell? ⟨w.heap.size + 1, 0, none⟩ = some (.slice ss xs.length xs.length) ∧ w'.cell? ⟨w.heap.size + 1, 1, none⟩ = some (.bool bs) ∧ w'.cell? ⟨w.heap.size + 1, 2, none⟩ = some (.slice ss' xs'.length xs'.length) ∧ w'.cell? ⟨w.heap.size + 1, 3, none⟩ = some (.bool bs'))
            (first | assumption | exact ⟨Cs0, Cs1, Cs2, Cs3⟩ | exact HSsi0ew1_20 | go_keep)
            (first
              | (go_at_call 62; (with_reducible refine (af_ wr.drew _ R.num K (is.kept (k_ (h_ _ _))) (by omega) HB9.out.1).mono ?_); rintro e si0ew1_1 ⟨_, rfl, ⟨sd, xd, bd, rfl, hd, vd, td⟩, gsi0ew1_1⟩; have hGsi0ew1_1 := o_ wr gsi0ew1_1 rfl rfl rfl rfl; have id : IntV si0ew1_1 (.agg #[.slice sd xd.length xd.length, .bool bd]) (R.num) := ⟨sd, xd, bd, rfl, hd, vd, td⟩; have hSsi0ew1_1 := (n_ (hGsi0ew1_1.cell Cs0 (by simp)) (n_ (hGsi0ew1_1.cell Cs1 (by simp)) (n_ (hGsi0ew1_1.cell Cs2 (by simp)) (hGsi0ew1_1.cell Cs3 (by simp))))); clear gsi0ew1_1; clear hd vd td)
              | (go_at_call 62; (with_reducible refine (af_ si0ew1_1 _ (dn R) K (is'.kept hGsi0ew1_1) (by omega) (ke_ HB9.out.2)).mono ?_); rintro e si0ew1_2 ⟨_, rfl, ⟨se, xe, be, rfl, he, ve, te⟩, gsi0ew1_2⟩; have hGsi0ew1_2 := d_ hGsi0ew1_1 gsi0ew1_2; replace id := id.kept gsi0ew1_2; have ie : IntV si0ew1_2 (.agg #[.slice se xe.length xe.length, .bool be]) (dn R) := ⟨se, xe, be, rfl, he, ve, te⟩; have hSsi0ew1_2 := (n_ (hGsi0ew1_2.cell Cs0 (by simp)) (n_ (hGsi0ew1_2.cell Cs1 (by simp)) (n_ (hGsi0ew1_2.cell Cs2 (by simp)) (hGsi0ew1_2.cell Cs3 (by simp))))); clear gsi0ew1_2; clear he ve te; (obtain ⟨dq0, dq1, dq2, dq3, dq4, dq5, dq6, dq7⟩ := b_ (a_ hGsi0ew1_2 Bq)); have HSsi0ew1_20 := (n_ ((b_ (i_ (a_ hGsi0ew1_2 Bs) (show w.heap.size + 1 ≠ w.heap.size by omega) (.slice sd xd.length xd.length) (.bool bd) (.slice se xe.length xe.length) (.bool be))).1) (n_ ((b_ (i_ (a_ hGsi0ew1_2 Bs) (show w.heap.size + 1 ≠ w.heap.size by omega) (.slice sd xd.length xd.length) (.bool bd) (.slice se xe.length xe.length) (.bool be))).2.1) (n_ ((b_ (i_ (a_ hGsi0ew1_2 Bs) (show w.heap.size + 1 ≠ w.heap.size by omega) (.slice sd xd.length xd.length) (.bool bd) (.slice se xe.length xe.length) (.bool be))).2.2.1) ((b_ (i_ (a_ hGsi0ew1_2 Bs) (show w.heap.size + 1 ≠ w.heap.size by omega) (.slice sd xd.length xd.length) (.bool bd) (.slice se xe.length xe.length) (.bool be))).2.2.2.1))))))
          replace Bq := a_ hGsi0ew1_2 Bq
          replace Bs := a_ hGsi0ew1_2 Bs
          replace is := is.kept hGsi0ew1_2
          replace is' := is'.kept hGsi0ew1_2
          replace hG := d_ hG hGsi0ew1_2
          clear Cq0 Fq0 Cq1 Fq1 Cq2 Fq2 Cq3 Fq3 Cs0 Fs0 Cs1 Fs1 Cs2 Fs2 Cs3 Fs3
          have qd : RatV si0ew1_2 (.agg #[.slice sd xd.length xd.length, .bool bd, .slice se xe.length xe.length, .bool be]) R := ⟨_, _, _, _, _, _, rfl, id, ie⟩
          obtain ⟨k90, k91, k92, k93, k94, k95, k96, k97⟩ := b_ Bq
          obtain ⟨q90, q91, q92, q93, q94, q95, q96, q97⟩ := b_ (r_ Bq (.slice sd xd.length xd.length) (.bool bd) (.slice se xe.length xe.length) (.bool be))
          have hF : Hid (aa_ w (R) (.returned (.agg #[.slice sd xd.length xd.length, .bool bd, .slice se xe.length xe.length, .bool be])) ((((si0ew1_2.setCell ⟨w.heap.size, 0, none⟩ (.slice sd xd.length xd.length)).setCell ⟨w.heap.size, 1, none⟩ (.bool bd)).setCell ⟨w.heap.size, 2, none⟩ (.slice se xe.length xe.length)).setCell ⟨w.heap.size, 3, none⟩ (.bool be))) := X_ hG Bq (by omega) qd
          clear is is' id ie qd
          go_wp2_with fail
          exact bodyPost_ret (v := .agg #[.slice sd xd.length xd.length, .bool bd, .slice se xe.length xe.length, .bool be]) (by simp [results, Tryz.results86, go_sem, q90, q91, q92, q93]) rfl hF.out
set_option maxHeartbeats 16000000 in
theorem hR_ (w : World) (s : Option Addr) (n cap : Nat) (rs : List Rat) (K : Nat) (Hs : QSl w s n rs) (hcap : n ≤ cap) (hn : n ≤ 1000000000) (hK : K ≤ 400000) (hb : ∀ r ∈ rs, r.num.natAbs < B ^ K ∧ r.den < B ^ K) :
    Calls Tryz.prog 46 #[.slice s n cap] w (aa_ w (cv_ (-1) rs)) := by
  have HS := H_ Hs
  have HB : Hid (∀ r ∈ rs, r.num.natAbs < B ^ K ∧ r.den < B ^ K) := hb
  have HCA : Hid (n ≤ cap ∧ n ≤ 1000000000) := ⟨hcap, hn⟩
  clear Hs hb hcap hn
  have hG : w.grownBy (w.alloc (.cells #[.slice none 0 0, .bool false, .slice none 0 0, .bool false] 28)) none := (wg_ _ _ _)
  have Bq := (f_ w (.cells #[.slice none 0 0, .bool false, .slice none 0 0, .bool false] 28) (w.heap.size) rfl)
  go_enter Tryz.func46, Tryz.ntmps46
  obtain ⟨Cq0, Cq1, Cq2, Cq3, Fq0, Fq1, Fq2, Fq3⟩ := b_ Bq
  go_wp2_with fail
  generalize (w.alloc (.cells #[.slice none 0 0, .bool false, .slice none 0 0, .bool false] 28)) = w0 at *
  clear Cq0 Fq0 Cq1 Fq1 Cq2 Fq2 Cq3 Fq3
  refine (dB_ w0 s n cap rs (-1) K (HS.out.kept hG) HCA.out.1 HCA.out.2 (by decide) (by omega) HB.out).mono ?_
  rintro e w1 ⟨_, rfl, ⟨sd, xd, bd, sd', xd', bd', rfl, hd, hd'⟩, gw1⟩
  have qd : RatV w1 (.agg #[.slice sd xd.length xd.length, .bool bd, .slice sd' xd'.length xd'.length, .bool bd']) (cv_ (-1) rs) := ⟨sd, xd, bd, sd', xd', bd', rfl, hd, hd'⟩
  replace Bq := a_ gw1 Bq
  replace hG := d_ hG gw1
  clear gw1
  clear hd hd'
  obtain ⟨Cq0, Cq1, Cq2, Cq3, Fq0, Fq1, Fq2, Fq3⟩ := b_ Bq
  clear Cq0 Fq0 Cq1 Fq1 Cq2 Fq2 Cq3 Fq3
  obtain ⟨k90, k91, k92, k93, k94, k95, k96, k97⟩ := b_ Bq
  obtain ⟨q90, q91, q92, q93, q94, q95, q96, q97⟩ := b_ (r_ Bq (.slice sd xd.length xd.length) (.bool bd) (.slice sd' xd'.length xd'.length) (.bool bd'))
  have hF : Hid (aa_ w (cv_ (-1) rs) (.returned (.agg #[.slice sd xd.length xd.length, .bool bd, .slice sd' xd'.length xd'.length, .bool bd'])) ((((w1.setCell ⟨w.heap.size, 0, none⟩ (.slice sd xd.length xd.length)).setCell ⟨w.heap.size, 1, none⟩ (.bool bd)).setCell ⟨w.heap.size, 2, none⟩ (.slice sd' xd'.length xd'.length)).setCell ⟨w.heap.size, 3, none⟩ (.bool bd'))) := X_ hG Bq (by omega) qd
  clear qd
  go_wp2_with fail
  exact bodyPost_ret (v := .agg #[.slice sd xd.length xd.length, .bool bd, .slice sd' xd'.length xd'.length, .bool bd']) (by simp [results, Tryz.results46, go_sem, q90, q91, q92, q93]) rfl hF.out
set_option maxHeartbeats 16000000 in
theorem jp_ (w : World) (s : Option Addr) (n cap : Nat) (rs : List Rat) (K : Nat) (Hs : QSl w s n rs) (hcap : n ≤ cap) (hn : n ≤ 1000000000) (hK : K ≤ 400000) (hb : ∀ r ∈ rs, r.num.natAbs < B ^ K ∧ r.den < B ^ K) :
    Calls Tryz.prog 47 #[.slice s n cap] w (aa_ w (cv_ 1 rs)) := by
  have HS := H_ Hs
  have HB : Hid (∀ r ∈ rs, r.num.natAbs < B ^ K ∧ r.den < B ^ K) := hb
  have HCA : Hid (n ≤ cap ∧ n ≤ 1000000000) := ⟨hcap, hn⟩
  clear Hs hb hcap hn
  have hG : w.grownBy (w.alloc (.cells #[.slice none 0 0, .bool false, .slice none 0 0, .bool false] 28)) none := (wg_ _ _ _)
  have Bq := (f_ w (.cells #[.slice none 0 0, .bool false, .slice none 0 0, .bool false] 28) (w.heap.size) rfl)
  go_enter Tryz.func47, Tryz.ntmps47
  obtain ⟨Cq0, Cq1, Cq2, Cq3, Fq0, Fq1, Fq2, Fq3⟩ := b_ Bq
  go_wp2_with fail
  generalize (w.alloc (.cells #[.slice none 0 0, .bool false, .slice none 0 0, .bool false] 28)) = w0 at *
  clear Cq0 Fq0 Cq1 Fq1 Cq2 Fq2 Cq3 Fq3
  refine (dB_ w0 s n cap rs 1 K (HS.out.kept hG) HCA.out.1 HCA.out.2 (by decide) (by omega) HB.out).mono ?_
  rintro e w1 ⟨_, rfl, ⟨sd, xd, bd, sd', xd', bd', rfl, hd, hd'⟩, gw1⟩
  have qd : RatV w1 (.agg #[.slice sd xd.length xd.length, .bool bd, .slice sd' xd'.length xd'.length, .bool bd']) (cv_ 1 rs) := ⟨sd, xd, bd, sd', xd', bd', rfl, hd, hd'⟩
  replace Bq := a_ gw1 Bq
  replace hG := d_ hG gw1
  clear gw1
  clear hd hd'
  obtain ⟨Cq0, Cq1, Cq2, Cq3, Fq0, Fq1, Fq2, Fq3⟩ := b_ Bq
  clear Cq0 Fq0 Cq1 Fq1 Cq2 Fq2 Cq3 Fq3
  obtain ⟨k90, k91, k92, k93, k94, k95, k96, k97⟩ := b_ Bq
  obtain ⟨q90, q91, q92, q93, q94, q95, q96, q97⟩ := b_ (r_ Bq (.slice sd xd.length xd.length) (.bool bd) (.slice sd' xd'.length xd'.length) (.bool bd'))
  have hF : Hid (aa_ w (cv_ 1 rs) (.returned (.agg #[.slice sd xd.length xd.length, .bool bd, .slice sd' xd'.length xd'.length, .bool bd'])) ((((w1.setCell ⟨w.heap.size, 0, none⟩ (.slice sd xd.length xd.length)).setCell ⟨w.heap.size, 1, none⟩ (.bool bd)).setCell ⟨w.heap.size, 2, none⟩ (.slice sd' xd'.length xd'.length)).setCell ⟨w.heap.size, 3, none⟩ (.bool bd'))) := X_ hG Bq (by omega) qd
  clear qd
  go_wp2_with fail
  exact bodyPost_ret (v := .agg #[.slice sd xd.length xd.length, .bool bd, .slice sd' xd'.length xd'.length, .bool bd']) (by simp [results, Tryz.results47, go_sem, q90, q91, q92, q93]) rfl hF.out
end Go.Proofs.YtgbbdgioohaknaaGreatDoor
