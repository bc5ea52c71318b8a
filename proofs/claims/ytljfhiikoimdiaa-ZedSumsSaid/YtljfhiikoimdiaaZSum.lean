/- The sum of a list of numbers. -/
import Derived.Test.YtljfhiikoimdiaaZBezL
import Derived.Deep.RegionHeld3
namespace Go.Proofs.Ytljfhiikoimdiaa
open Go.RowKit Mat
set_option maxRecDepth 100000
set_option linter.unusedVariables false
set_option linter.unusedSimpArgs false

/-- A slice that reads as these numbers. -/
def ISl (W : World) (s : Option Addr) (n : Nat) (zs : List Int) : Prop := zs.length = n ∧ (n = 0 ∨ ∃ (b : Nat) (cs : Array Value), s = some ⟨b, 0, none⟩ ∧ W.heap[b]? = some (.cells cs 26 (0, 0)) ∧ ∀ i (h : i < zs.length), ∃ u0 u1, cs[i * 2]? = some u0 ∧ cs[i * 2 + 1]? = some u1 ∧ IntV W (.agg #[u0, u1]) zs[i])
theorem ISl.kept {W W' : World} {s : Option Addr} {n : Nat} {zs : List Int} (h : ISl W s n zs) (hg : W.grownBy W' none) : ISl W' s n zs := by
  obtain ⟨h1, h2⟩ := h
  refine ⟨h1, ?_⟩
  rcases h2 with h2 | ⟨b, cs, e, hb, hc⟩
  · exact Or.inl h2
  · refine Or.inr ⟨b, cs, e, heap_kept hg hb, fun i h => ?_⟩
    obtain ⟨u0, u1, a1, a2, a3⟩ := hc i h
    exact ⟨u0, u1, a1, a2, a3.kept hg⟩
theorem ISl.at {W : World} {b n : Nat} {zs : List Int} (h : ISl W (some ⟨b, 0, none⟩) n zs) (k : Nat) (hk : k < zs.length) : ∃ (s : Option Addr) (xs : List Nat) (f : Bool), W.cell? ⟨b, k * 2, none⟩ = some (.slice s xs.length xs.length) ∧ W.cell? ⟨b, k * 2 + 1, none⟩ = some (.bool f) ∧ IntV W (.agg #[.slice s xs.length xs.length, .bool f]) (zs[k]'hk) := by
  obtain ⟨h1, h2⟩ := h
  rcases h2 with h2 | ⟨b', cs, e, hb, hc⟩
  · omega
  · cases e
    obtain ⟨u0, u1, a1, a2, a3⟩ := hc k hk
    obtain ⟨s, xs, f, e, h3⟩ := a3
    cases e
    exact ⟨s, xs, f, by simp [World.cell?, hb, a1], by simp [World.cell?, hb, a2], s, xs, f, rfl, h3⟩
def isum (zs : List Int) : Int := zs.foldl (· + ·) 0
theorem isum_snoc (zs : List Int) (k : Nat) (h : k < zs.length) : isum (zs.take (k + 1)) = isum (zs.take k) + zs[k] := by
  unfold isum
  rw [List.take_succ_eq_append_getElem h, List.foldl_append]; rfl
theorem isum_bd {zs : List Int} {M : Nat} (hb : ∀ z ∈ zs, z.natAbs ≤ M) (k : Nat) (hk : k ≤ zs.length) : (isum (zs.take k)).natAbs ≤ k * M := by
  induction k with
  | zero => simp [isum]
  | succ k ih =>
    rw [isum_snoc zs k (by omega)]
    have h1 := ih (by omega)
    have h2 := hb zs[k] (List.getElem_mem (by omega))
    have h3 := Int.natAbs_add_le (isum (zs.take k)) zs[k]
    rw [Nat.succ_mul]; omega
theorem isum_lt {zs : List Int} {K : Nat} (hb : ∀ z ∈ zs, z.natAbs < B ^ K) (hn : zs.length ≤ 1000) (k : Nat) (hk : k ≤ zs.length) : (isum (zs.take k)).natAbs < B ^ (K + 1) := by
  have h1 := isum_bd (M := B ^ K) (fun z hz => Nat.le_of_lt (hb z hz)) k hk
  have h2 : k * B ^ K ≤ 1000 * B ^ K := Nat.mul_le_mul_right _ (by omega)
  have h3 : 1001 * B ^ K ≤ B * B ^ K := Nat.mul_le_mul_right _ (by unfold B; omega)
  have h4 : B ^ (K + 1) = B * B ^ K := by rw [Nat.pow_succ, Nat.mul_comm]
  have h5 : 0 < B ^ K := Nat.pow_pos B_pos
  rw [h4]; omega
set_option maxHeartbeats 8000000 in
theorem ZSum_any (w : World) (s : Option Addr) (n cap : Nat) (zs : List Int) (K : Nat) (Hs : ISl w s n zs) (hK : K ≤ 100000) (hn : n ≤ 1000) (hb : ∀ z ∈ zs, z.natAbs < B ^ K) :
    Calls Try.prog 40 #[.slice s n cap] w (RetInt w (isum zs)) := by
  have hl := Hs.1
  have hcase : n = 0 ∨ ∃ b, s = some ⟨b, 0, none⟩ := by
    rcases Hs.2 with h | ⟨b, cs, e, _⟩
    · exact Or.inl h
    · exact Or.inr ⟨b, e⟩
  have HBK : Hid (∀ k, k ≤ n → (isum (zs.take k)).natAbs < B ^ (K + 1)) := fun k hk => isum_lt hb (by omega) k (by omega)
  have HEL : Hid (∀ k (h : k < zs.length), (zs[k]'h).natAbs < B ^ (K + 1)) := fun k h => bw (hb _ (List.getElem_mem h)) (by omega)
  have HSN : Hid (∀ k (h : k < zs.length), isum (zs.take (k + 1)) = isum (zs.take k) + zs[k]'h) := fun k h => isum_snoc zs k h
  have HALL : Hid (isum (zs.take n) = isum zs) := by show _ = _; rw [← hl, List.take_length]
  have HL := Lib.hid hl
  clear hl hb
  have hcap : n ≤ n := Nat.le_refl _
  have hG : w.grownBy (w.alloc (.cells #[.slice none 0 0, .bool false] 26)) none := (World.grownBy_alloc _ _ _)
  have Bq := (heap_new w (.cells #[.slice none 0 0, .bool false] 26) (w.heap.size) rfl)
  go_enter Try.func40, Try.ntmps40
  have hT0 := World.grownBy_alloc (w.alloc (.cells #[.slice none 0 0, .bool false] 26)) (.cells #[.slice none 0 0, .bool false] 26) none
  have Bs0 := heap_new (w.alloc (.cells #[.slice none 0 0, .bool false] 26)) (.cells #[.slice none 0 0, .bool false] 26) (w.heap.size + 1) (by simp)
  have hsz0 : (w.alloc (.cells #[.slice none 0 0, .bool false] 26)).heap.size = w.heap.size + 1 := by simp
  have HS1 := Lib.hid (Hs.kept hG)
  have HZ1 := Lib.hid hsz0
  have HT1 := Lib.hid hT0
  have HBS := Lib.hid Bs0
  have HBQ := Lib.hid Bq
  have HG1 := Lib.hid hG
  clear hsz0 hT0 Bs0 Bq hG Hs
  go_wp2_with fail
  generalize (w.alloc (.cells #[.slice none 0 0, .bool false] 26)) = w1 at *
  generalize (w1.alloc (.cells #[.slice none 0 0, .bool false] 26)) = w2 at *
  go_loopw [8] (fun i wr => ∃ k : Nat, k ≤ n ∧ i = .int .i64 k ∧ BoxI wr (w.heap.size + 1) (isum (zs.take k)) ∧ w1.grownBy wr none) (fun i _ => n - (intOf i).toNat)
  case atStart => exact ⟨0, Nat.zero_le _, rfl, ⟨_, _, HBS.out, IntV.zero _⟩, HT1.out⟩
  case round =>
    obtain ⟨k, hk, rfl, Ks, hT⟩ := hrel
    obtain ⟨ss, xs, bs, Bs, is⟩ := Ks.open
    have Bq := heap_kept hT HBQ.out
    have hG := grown_trans HG1.out hT
    by_cases hlt : k < n
    · skip
      obtain ⟨b, rfl⟩ := hcase.resolve_left (by omega)
      have hkl : k < zs.length := by rw [HL.out]; exact hlt
      obtain ⟨sa, xa, fa, ca0, ca1, ia⟩ := (HS1.out.kept hT).at k hkl
      have hs1 := HSN.out k hkl
      have he1 := HEL.out k hkl
      generalize zs[k] = z at *
      have HS9 := Lib.hid hs1
      have HE9 := Lib.hid he1
      clear hs1 he1 hkl
      obtain ⟨Cq0, Cq1, Fq0, Fq1⟩ := box_cells Bq
      obtain ⟨Cs0, Cs1, Fs0, Fs1⟩ := box_cells Bs
      have gbwr := (World.grownBy_alloc wr (.cells #[.slice sa xa.length xa.length, .bool fa] 26) none)
      have Ba := (heap_new wr (.cells #[.slice sa xa.length xa.length, .bool fa] 26) (wr.heap.size) rfl)
      have hzwr : Hid (w.heap.size ≤ wr.heap.size) := Lib.hid hG.size
      have hlqwr : Hid (w.heap.size < wr.heap.size) := Lib.hid (Array.getElem?_eq_some_iff.1 Bq).1
      have hlswr : Hid (w.heap.size + 1 < wr.heap.size) := Lib.hid (Array.getElem?_eq_some_iff.1 Bs).1
      clear Cq0 Fq0 Cq1 Fq1 Cs0 Fs0 Cs1 Fs1
      replace Bq := heap_kept gbwr Bq
      replace Bs := heap_kept gbwr Bs
      replace is := is.kept gbwr
      replace ia := ia.kept gbwr
      replace hG := grown_trans hG gbwr
      replace hT := grown_trans hT gbwr
      clear gbwr
      obtain ⟨Cq0, Cq1, Fq0, Fq1⟩ := box_cells Bq
      obtain ⟨Cs0, Cs1, Fs0, Fs1⟩ := box_cells Bs
      obtain ⟨Ca0, Ca1, Fa0, Fa1⟩ := box_cells Ba
      go_wp2_with fail
      generalize (wr.alloc (.cells #[.slice sa xa.length xa.length, .bool fa] 26)) = rw1 at *
      generalize wr.heap.size = awr at *
      replace hzwr := hzwr.out
      replace hlqwr := hlqwr.out
      replace hlswr := hlswr.out
      clear Cq0 Fq0 Cq1 Fq1 Cs0 Fs0 Cs1 Fs1 Ca0 Fa0 Ca1 Fa1
      refine (ZAdd_any rw1 _ _ (isum (zs.take k)) z (K + 1) is ia (by omega) (HBK.out k (by omega)) HE9.out).mono ?_
      rintro e rw2 ⟨_, rfl, ⟨sd, xd, bd, rfl, hd, vd, td⟩, grw2⟩
      have id : IntV rw2 (.agg #[.slice sd xd.length xd.length, .bool bd]) (isum (zs.take k) + z) := ⟨sd, xd, bd, rfl, hd, vd, td⟩
      replace Bq := heap_kept grw2 Bq
      replace Bs := heap_kept grw2 Bs
      replace Ba := heap_kept grw2 Ba
      replace is := is.kept grw2
      replace ia := ia.kept grw2
      replace hG := grown_trans hG grw2
      replace hT := grown_trans hT grw2
      clear grw2
      clear hd vd td
      obtain ⟨Cq0, Cq1, Fq0, Fq1⟩ := box_cells Bq
      obtain ⟨Cs0, Cs1, Fs0, Fs1⟩ := box_cells Bs
      obtain ⟨Ca0, Ca1, Fa0, Fa1⟩ := box_cells Ba
      have hT2 := grown_set2 (g := w.heap.size + 1) hT (by rw [HZ1.out]; exact Nat.le_refl _) (.slice sd xd.length xd.length) (.bool bd)
      have Ks : BoxI _ (w.heap.size + 1) (isum (zs.take (k + 1))) := ⟨_, _, heap_set2 Bs (.slice sd xd.length xd.length) (.bool bd), by rw [HS9.out]; exact id.set2 Bs (.slice sd xd.length xd.length) (.bool bd)⟩
      clear is ia id hT hG
      have HT9 := Lib.hid hT2
      have HK9 := Lib.hid Ks
      clear hT2 Ks
      go_wp2_with fail
      go_roundw
      case rel => exact ⟨k + 1, by omega, by go_num, HK9.out, HT9.out⟩
      case measure => simp [intOf]; omega
    · skip
      obtain rfl : k = n := by omega
      rw [HALL.out] at is
      clear hlt hk
      obtain ⟨Cq0, Cq1, Fq0, Fq1⟩ := box_cells Bq
      obtain ⟨Cs0, Cs1, Fs0, Fs1⟩ := box_cells Bs
      clear Cq0 Fq0 Cq1 Fq1 Cs0 Fs0 Cs1 Fs1
      obtain ⟨k90, k91, k92, k93⟩ := box_cells Bq
      obtain ⟨q90, q91, q92, q93⟩ := box_cells (heap_set2 Bq (.slice ss xs.length xs.length) (.bool bs))
      have hF : Hid (RetInt w (isum zs) (.returned (.agg #[.slice ss xs.length xs.length, .bool bs])) ((wr.setCell ⟨w.heap.size, 0, none⟩ (.slice ss xs.length xs.length)).setCell ⟨w.heap.size, 1, none⟩ (.bool bs))) := ret_intv hG Bq (by omega) is
      clear is
      obtain ⟨Cs0, Cs1, Fs0, Fs1⟩ := box_cells Bs
      go_wp2_with fail
      exact bodyPost_ret (v := .agg #[.slice ss xs.length xs.length, .bool bs]) (by simp [results, Try.results40, go_sem, q90, q91]) rfl hF.out
end Go.Proofs.Ytljfhiikoimdiaa
