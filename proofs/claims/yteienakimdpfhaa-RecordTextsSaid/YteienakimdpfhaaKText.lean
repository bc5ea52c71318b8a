/- Records: texts. -/
import Derived.Test.YteienakimdpfhaaKSp
import Derived.ArgAppend
import Derived.Lib.ConvBytes
namespace Go.Proofs.Yteienakimdpfhaa
open Go.RowKit
set_option maxRecDepth 100000
set_option linter.unusedVariables false
set_option linter.unusedSimpArgs false

/-- A text's bytes. -/
def btl (s : ByteArray) : List Nat := s.data.toList.map UInt8.toNat
theorem btl_len (s : ByteArray) : (btl s).length = s.size := by
  unfold btl
  rw [List.length_map]
  exact Array.length_toList
theorem btl_lt (s : ByteArray) : ∀ x ∈ btl s, x < 256 := by
  intro x hx
  unfold btl at hx
  rw [List.mem_map] at hx
  obtain ⟨y, _, rfl⟩ := hx
  exact y.toNat_lt
theorem strOf_btl (s : ByteArray) : strOf (btl s) = s := by
  unfold strOf btl
  rw [List.map_map]
  have e : (UInt8.ofNat ∘ UInt8.toNat) = id := by funext x; simp
  rw [e, List.map_id]
def RetStr (w : World) (S : ByteArray) (e : Ending) (w' : World) : Prop := e = .returned (.string S) ∧ w.grownBy w' none
set_option maxHeartbeats 16000000 in
theorem Text_str (w : World) (s : Option Addr) (n cap : Nat) (l : List Nat) (hn : l.length = n) (hl : BySl w s l) (hz : s = none → n = 0 ∧ cap = 0) (hc : n ≤ cap) (hm : cap ≤ 9223372036854775807) :
    Calls Try.prog 26 #[.slice s n cap] w (RetStr w (strOf (lettersL l))) := by
  have HL := Lib.hid (Letters_any w s n cap l hn hl hz hc hm)
  have HS : Hid (BySl w s (lettersL l)) := Lib.hid (by rw [letters_take]; exact hl.take _)
  unfold RetLet at HL
  obtain ⟨m, hm2⟩ : ∃ m, lettersL l = m := ⟨_, rfl⟩
  rw [hm2] at HL HS ⊢
  clear hm2 hl hz hn
  go_enter Try.func26, Try.ntmps26
  go_wp2_with fail
  refine HL.out.mono ?_
  rintro e w1 ⟨rfl, hg⟩
  have k1 := conv_by w1 s m.length cap m rfl (HS.out.kept hg)
  obtain ⟨S, hS⟩ : ∃ S, strOf m = S := ⟨_, rfl⟩
  rw [hS] at k1
  have HSS := Lib.hid hS
  clear hS
  go_wp2_with (simp only [k1])
  go_ret
  exact ⟨by rw [HSS.out]; rfl, hg⟩
set_option maxHeartbeats 16000000 in
theorem RText_str (w : World) (s : Option Addr) (n cap : Nat) (l : List Nat) (hn : l.length = n) (hl : BySl w s l) (hz : s = none → n = 0 ∧ cap = 0) (hc : n ≤ cap) (hm : cap ≤ 9223372036854775807) :
    Calls Try.prog 27 #[.slice s n cap] w (RetStr w (strOf (lettersL l))) := by
  have k1 := conv_by w s n cap l hn hl
  rcases Nat.eq_zero_or_pos n with h0 | h0
  · have f1 : decide ((0 : Int) < (n : Int)) = false := decide_eq_false (by omega)
    have e : lettersL l = l := letters_none (by
      obtain rfl : l = [] := List.length_eq_zero_iff.1 (by omega)
      simp)
    rw [e]
    obtain ⟨S, hS⟩ : ∃ S, strOf l = S := ⟨_, rfl⟩
    rw [hS] at k1 ⊢
    subst h0
    clear hS e hn hl hz
    go_enter Try.func27, Try.ntmps27
    go_wp2_with (simp only [k1])
    go_ret
    exact ⟨rfl, grown_refl _ _⟩
  · obtain ⟨a, rfl⟩ : ∃ a, s = some a := by
      cases s with
      | none => have := (hz rfl).1; omega
      | some a => exact ⟨a, rfl⟩
    obtain ⟨k, hk⟩ : ∃ k, n = k + 1 := ⟨n - 1, by omega⟩
    subst hk
    have f1 : decide ((0 : Int) < ((k + 1 : Nat) : Int)) = true := decide_eq_true (by omega)
    have hcell := hl.get k (by omega)
    have hlast : l.getLast? = some (l.getD k 0) := by
      rw [List.getLast?_eq_getElem?, List.getD_eq_getElem?_getD, show l.length - 1 = k from by omega, List.getElem?_eq_getElem (by omega)]; rfl
    obtain ⟨x, hx⟩ : ∃ x, l.getD k 0 = x := ⟨_, rfl⟩
    rw [hx] at hcell hlast
    clear hx
    have i1 : (k : Int) ≤ (cap : Int) := by omega
    by_cases hx0 : x = 0
    · have f2 : ((x : Int) == 0) = true := beq_iff_eq.2 (by omega)
      have e : lettersL l = l.take k := by rw [letters_end (by rw [hlast, hx0]), List.dropLast_eq_take, show l.length - 1 = k from by omega]
      rw [e]
      have k2 := conv_by w (some a) k cap (l.take k) (by rw [List.length_take]; omega) (hl.take k)
      obtain ⟨S, hS⟩ : ∃ S, strOf (l.take k) = S := ⟨_, rfl⟩
      rw [hS] at k2 ⊢
      clear hS e hn hl hz k1 hlast hx0
      go_enter Try.func27, Try.ntmps27
      go_wp2_with (simp only [k2])
      go_ret
      exact ⟨rfl, grown_refl _ _⟩
    · have f2 : ((x : Int) == 0) = false := beq_eq_false_iff_ne.2 (by omega)
      have e : lettersL l = l := letters_none (by rw [hlast]; simpa using hx0)
      rw [e]
      obtain ⟨S, hS⟩ : ∃ S, strOf l = S := ⟨_, rfl⟩
      rw [hS] at k1 ⊢
      clear hS e hn hl hz hlast hx0
      go_enter Try.func27, Try.ntmps27
      go_wp2_with (simp only [k1])
      go_ret
      exact ⟨rfl, grown_refl _ _⟩
/-- A text's bytes, an even number. -/
def evenL (l : List Nat) : List Nat := if l.length % 2 = 0 then l else l ++ [0]
theorem evenL_len (l : List Nat) : (evenL l).length % 2 = 0 ∧ l.length ≤ (evenL l).length ∧ (evenL l).length < l.length + 2 := by
  unfold evenL
  split
  · omega
  · rw [List.length_append]; simp; omega
theorem evenL_take (l : List Nat) : (evenL l).take l.length = l := by
  unfold evenL
  split
  · rw [List.take_length]
  · exact List.take_left
theorem evenL_letters {l : List Nat} (h : l.getLast? ≠ some 0) : lettersL (evenL l) = l := by
  unfold evenL
  split
  · exact letters_none h
  · rw [letters_end (by simp)]; simp
def RetOT (w : World) (l : List Nat) (e : Ending) (w' : World) : Prop :=
  ∃ g c, e = .returned (.slice (some ⟨g, 0, none⟩) (evenL l).length c) ∧ BySl w' (some ⟨g, 0, none⟩) (evenL l) ∧ (evenL l).length ≤ c ∧ c ≤ 9223372036854775807 ∧ w.grownBy w' none
theorem world_grown (w : World) (S : ByteArray) : w.grownBy (Lib.bytesWorld w 5 S) none :=
  ⟨rfl, rfl, rfl, by rw [Lib.bytesWorld_size]; omega, fun i hi _ => Lib.bytesWorld_at_old w _ S i hi⟩
theorem world_sl (w : World) (S : ByteArray) : BySl (Lib.bytesWorld w 5 S) (some ⟨w.heap.size, 0, none⟩) (btl S) := by
  refine ⟨Or.inr ⟨_, rfl, fun i hi => ?_⟩, btl_lt S⟩
  have e : (⟨w.heap.size, 0, none⟩ : Addr).add i = ⟨w.heap.size, i, none⟩ := by unfold Addr.add; split <;> simp_all
  rw [btl_len] at hi
  rw [e, Lib.bytesWorld_cell w _ S i hi]
  have h2 : i < S.data.toList.length := by rw [Array.length_toList]; exact hi
  have e2 : S.data.toList.getD i 0 = S.data.toList[i] := by rw [List.getD_eq_getElem?_getD, List.getElem?_eq_getElem h2]; rfl
  rw [e2]
  simp only [btl, List.getElem_map]
theorem world_spare (w : World) (S : ByteArray) (h : S.size + 1 ≤ grownCap w S.size 0 5) : ((Lib.bytesWorld w 5 S).cell? ⟨w.heap.size, S.size, none⟩).isSome = true ∧ (Lib.bytesWorld w 5 S).frozen? ⟨w.heap.size, S.size, none⟩ = false := by
  have hs : (Lib.bytesCells w 5 S).size = grownCap w S.size 0 5 := by
    unfold Lib.bytesCells
    rw [Array.size_append, Array.size_map, Array.size_replicate]
    have : S.data.size = S.size := rfl
    omega
  have hb := Lib.bytesWorld_at_new w 5 S
  constructor
  · simp only [World.cell?, hb]
    simp
    omega
  · simp only [World.frozen?, hb]
    simp
    omega
theorem OwnB0 {W : World} {base g c n : Nat} {l : List Nat} (h : W.ownsRow base 5 1 (.slice (some ⟨g, 0, none⟩) n c) n (bvs l ++ [.int .u8 0])) : ∀ i (hi : i < (l ++ [0]).length), W.cell? ((⟨g, 0, none⟩ : Addr).add i) = some (.int .u8 (((l ++ [0])[i] : Nat) : Int)) := fun i hi => by
  refine h.cells rfl _ _ ?_
  rw [show bvs l ++ [.int .u8 0] = bvs (l ++ [0]) from by unfold bvs; rw [List.map_append]; rfl]
  unfold bvs
  rw [List.getElem?_map, List.getElem?_eq_getElem hi]
  rfl
set_option maxHeartbeats 16000000 in
theorem OfText_any (w : World) (S : ByteArray) (hS : S.size ≤ 4000) :
    Calls Try.prog 25 #[.string S] w (RetOT w (btl S)) := by
  obtain ⟨i1, hi, hz0, hz1, hz2⟩ := info_partsU
  have hcv := Lib.run_convert_string_bytes (P := Try.prog) w 9 22 5 S Try.underlying9 Try.underlying22 Try.underlying5
  have hG := world_grown w S
  have hB := world_sl w S
  have hSP := world_spare w S
  have hcg := grownCap_ge w S.size 0 5
  have hcm := grownCap_le_maxLen w S.size 0 5 (by unfold maxLen; omega)
  obtain ⟨c, hc⟩ : ∃ c, grownCap w S.size 0 5 = c := ⟨_, rfl⟩
  rw [hc] at hcv hcg hcm hSP
  have hcm2 : c ≤ 9223372036854775807 := by unfold maxLen at hcm; exact hcm
  have hbl := btl_len S
  obtain ⟨l, hl⟩ : ∃ l, btl S = l := ⟨_, rfl⟩
  rw [hl] at hB hbl ⊢
  obtain ⟨n, hn⟩ : ∃ n, S.size = n := ⟨_, rfl⟩
  rw [hn] at hcv hcg hSP hbl hS
  obtain ⟨W0, hW0⟩ : ∃ W0, Lib.bytesWorld w 5 S = W0 := ⟨_, rfl⟩
  rw [hW0] at hcv hG hB hSP
  have HG := Lib.hid hG
  have HB := Lib.hid hB
  have HSP := Lib.hid hSP
  have HBL := Lib.hid hbl
  have q1 := tmod_nat n 2
  have q2 : ((n : Int) % 2) = ((n % 2 : Nat) : Int) := by omega
  clear hG hB hSP hbl hl hn hc hW0 hcm
  by_cases hodd : n % 2 = 0
  · have f2 : (((n % 2 : Nat) : Int) != 0) = false := by rw [hodd]; rfl
    have HE : Hid (evenL l = l) := Lib.hid (by unfold evenL; rw [if_pos (by rw [HBL.out]; exact hodd)])
    obtain ⟨R, hR⟩ : ∃ R, n % 2 = R := ⟨_, rfl⟩
    rw [hR] at q1 q2 f2
    clear hR hodd
    go_enter Try.func25, Try.ntmps25
    go_wp2_with (simp only [hcv])
    go_ret
    exact ⟨w.heap.size, c, by rw [HE.out, HBL.out]; rfl, by rw [HE.out]; exact HB.out, by rw [HE.out, HBL.out]; exact hcg, hcm2, HG.out⟩
  · have f2 : (((n % 2 : Nat) : Int) != 0) = true := bne_iff_ne.2 (by omega)
    have HE : Hid (evenL l = l ++ [0]) := Lib.hid (by unfold evenL; rw [if_neg (by rw [HBL.out]; exact hodd)])
    have HEL : Hid ((evenL l).length = n + 1) := Lib.hid (by rw [HE.out, List.length_append, HBL.out]; rfl)
    obtain ⟨R, hR⟩ : ∃ R, n % 2 = R := ⟨_, rfl⟩
    rw [hR] at q1 q2 f2
    clear hR hodd
    have gA := World.grownBy_alloc W0 (.cells #[.int .u8 0] 5) none
    have HNW := Lib.hid (World.news_of_block (cs := #[.int .u8 0]) (heap_new W0 (.cells #[.int .u8 0] 5) W0.heap.size rfl))
    have HGA := Lib.hid gA
    have HLO : Hid ((bvs l).length = n * 1) := Lib.hid (by rw [bvs_len, HBL.out, Nat.mul_one])
    have HOL : Hid (∀ j u, (bvs l)[j]? = some u → (W0.alloc (.cells #[.int .u8 0] 5)).cell? ⟨w.heap.size, 0 + j, none⟩ = some u) := Lib.hid (fun j u hj => by
      have := gA.cell (HB.out.news j u hj) (by simp)
      rwa [show (⟨w.heap.size, 0, none⟩ : Addr).add j = ⟨w.heap.size, 0 + j, none⟩ from by unfold Addr.add; split <;> simp_all] at this)
    have HSPA : Hid (n + 1 ≤ c → ∀ j, j < ([.int .u8 0] : List Value).length → ((W0.alloc (.cells #[.int .u8 0] 5)).cell? ⟨w.heap.size, 0 + n * 1 + j, none⟩).isSome = true ∧ (W0.alloc (.cells #[.int .u8 0] 5)).frozen? ⟨w.heap.size, 0 + n * 1 + j, none⟩ = false) := Lib.hid (fun h j hj => by
      obtain rfl : j = 0 := by simpa using hj
      obtain ⟨h1, h2⟩ := HSP.out h
      rw [show 0 + n * 1 + 0 = n from by omega]
      obtain ⟨u, hu⟩ := Option.isSome_iff_exists.1 h1
      have hlt : w.heap.size < W0.heap.size := by
        rcases Nat.lt_or_ge w.heap.size W0.heap.size with h | h
        · exact h
        · simp [World.cell?, Array.getElem?_eq_none h] at hu
      refine ⟨by rw [gA.cell hu (by simp)]; rfl, ?_⟩
      unfold World.frozen? at h2 ⊢
      rwa [gA.block _ hlt (by simp)])
    clear gA
    go_enter Try.func25, Try.ntmps25
    go_wp2_with (first | simp only [hcv] | (at_builtin; refine wpList_append_arg _ rfl (.tmp 10) (.tmp 11) 22 rfl 5 i1 (.int .u8 0) 1 1 Try.underlying22 hi hz0 hz1 hz2 rfl (by decide) w.heap.size 0 n c (bvs l) rfl HLO.out HOL.out ⟨W0.heap.size, 0, none⟩ 1 1 [.int .u8 0] rfl rfl HNW.out (by simp [Value.oneCell']) HSPA.out (by unfold maxLen; omega) (by omega) ?room ?grow))
    case room =>
      intro hroom
      obtain ⟨W1, hW1⟩ : ∃ W1, (W0.alloc (.cells #[.int .u8 0] 5)).setCells w.heap.size n [.int .u8 0] = W1 := ⟨_, rfl⟩
      have hF : Hid (RetOT w l (.returned (.slice (some ⟨w.heap.size, 0, none⟩) (n + 1) c)) W1) := Lib.hid (by
        refine ⟨_, c, by rw [HEL.out], ?_, by rw [HEL.out]; exact hroom, hcm2, ?_⟩
        · rw [HE.out, ← hW1]
          refine ⟨Or.inr ⟨_, rfl, fun i hi => ?_⟩, fun x hx => ?_⟩
          · have e : (⟨w.heap.size, 0, none⟩ : Addr).add i = ⟨w.heap.size, i, none⟩ := by unfold Addr.add; split <;> simp_all
            rw [e]
            rw [List.length_append, HBL.out] at hi
            rcases Nat.lt_or_ge i n with h | h
            · rw [World.cell?_setCells_out _ _ _ _ _ (fun _ _ => Or.inl (by show i < _; omega))]
              have h1 := HOL.out i (.int .u8 (l[i]'(by rw [HBL.out]; exact h) : Int)) (by simp [bvs, List.getElem?_eq_getElem (show i < l.length by rw [HBL.out]; exact h)])
              rw [List.getElem_append_left (by rw [HBL.out]; exact h)]
              rw [Nat.zero_add] at h1
              exact h1
            · obtain rfl : i = n := by simp at hi; omega
              have h1 := World.cell?_setCells_in w.heap.size [.int .u8 0] i (W0.alloc (.cells #[.int .u8 0] 5)) (fun j hj => by have := (HSPA.out hroom j hj).1; rwa [show 0 + i * 1 + j = i + j from by omega] at this) 0 (by simp)
              rw [Nat.add_zero] at h1
              rw [h1, List.getElem_append_right (by rw [HBL.out]; exact Nat.le_refl _)]
              simp
          · rcases List.mem_append.1 hx with hx | hx
            · exact HB.out.2 x hx
            · simp at hx; omega
        · rw [← hW1]
          exact grown_put (grown_trans HG.out HGA.out) (Nat.le_refl _) _ _)
      rw [hW1]
      clear hW1
      go_wp2_with fail
      go_ret
      exact hF.out
    case grow =>
      intro hlt v1 w1 hown hg1
      obtain ⟨_, ⟨rfl, h0⟩ | ⟨g, c1, cur, rfl, hb, hh, hc1, hm1, hs1, ht1⟩⟩ := id hown
      · omega
      · have hO := OwnB0 hown
        have hF : Hid (RetOT w l (.returned (.slice (some ⟨g, 0, none⟩) (n + 1) c1)) w1) := Lib.hid (by
          refine ⟨g, c1, by rw [HEL.out], ?_, by rw [HEL.out]; exact hc1, by unfold maxLen at hm1; exact hm1, grown_trans (grown_trans HG.out HGA.out) hg1⟩
          rw [HE.out]
          refine ⟨Or.inr ⟨_, rfl, fun i hi => ?_⟩, fun x hx => ?_⟩
          · exact hO i hi
          · rcases List.mem_append.1 hx with hx | hx
            · exact HB.out.2 x hx
            · simp at hx; omega)
        clear hown hO hg1 hh ht1 hs1
        go_wp2_with fail
        go_ret
        exact hF.out
end Go.Proofs.Yteienakimdpfhaa
