/- Records: texts. -/
import Derived.Test.YtpkemijpggpdaaaKSp
import Derived.ArgAppend
import Derived.Lib.ConvBytes
namespace Go.Proofs.Ytpkemijpggpdaaa
open Go.RowKit
set_option maxRecDepth 100000
set_option linter.unusedVariables false
set_option linter.unusedSimpArgs false

/-- A text's bytes. -/
def btl (s : ByteArray) : List Nat := s.data.toList.map UInt8.toNat
theorem btl_len (s : ByteArray) : (btl s).length = s.size := by
  unfold btl
  rw [List.length_map]
  exact Array.length_toList
theorem btl_lt (s : ByteArray) : ∀ x ∈ btl s, x < 256 := by
  intro x hx
  unfold btl at hx
  rw [List.mem_map] at hx
  obtain ⟨y, _, rfl⟩ := hx
  exact y.toNat_lt
theorem strOf_btl (s : ByteArray) : strOf (btl s) = s := by
  unfold strOf btl
  rw [List.map_map]
  have e : (UInt8.ofNat ∘ UInt8.toNat) = id := by funext x; simp
  rw [e, List.map_id]
def RetStr (w : World) (S : ByteArray) (e : Ending) (w' : World) : Prop := e = .returned (.string S) ∧ w.grownBy w' none
set_option maxHeartbeats 16000000 in
theorem Text_str (w : World) (s : Option Addr) (n cap : Nat) (l : List Nat) (hn : l.length = n) (hl : BySl w s l) (hz : s = none → n = 0 ∧ cap = 0) (hc : n ≤ cap) (hm : cap ≤ 9223372036854775807) :
    Calls Try.prog 42 #[.slice s n cap] w (RetStr w (strOf (lettersL l))) := by
  have HL := Lib.hid (Letters_any w s n cap l hn hl hz hc hm)
  have HS : Hid (BySl w s (lettersL l)) := Lib.hid (by rw [letters_take]; exact hl.take _)
  unfold RetLet at HL
  obtain ⟨m, hm2⟩ : ∃ m, lettersL l = m := ⟨_, rfl⟩
  rw [hm2] at HL HS ⊢
  clear hm2 hl hz hn
  go_enter Try.func42, Try.ntmps42
  go_wp2_with fail
  refine HL.out.mono ?_
  rintro e w1 ⟨rfl, hg⟩
  have k1 := conv_by w1 s m.length cap m rfl (HS.out.kept hg)
  obtain ⟨S, hS⟩ : ∃ S, strOf m = S := ⟨_, rfl⟩
  rw [hS] at k1
  have HSS := Lib.hid hS
  clear hS
  go_wp2_with (simp only [k1])
  go_ret
  exact ⟨by rw [HSS.out]; rfl, hg⟩
set_option maxHeartbeats 16000000 in
theorem RText_str (w : World) (s : Option Addr) (n cap : Nat) (l : List Nat) (hn : l.length = n) (hl : BySl w s l) (hz : s = none → n = 0 ∧ cap = 0) (hc : n ≤ cap) (hm : cap ≤ 9223372036854775807) :
    Calls Try.prog 43 #[.slice s n cap] w (RetStr w (strOf (lettersL l))) := by
  have k1 := conv_by w s n cap l hn hl
  rcases Nat.eq_zero_or_pos n with h0 | h0
  · have f1 : decide ((0 : Int) < (n : Int)) = false := decide_eq_false (by omega)
    have e : lettersL l = l := letters_none (by
      obtain rfl : l = [] := List.length_eq_zero_iff.1 (by omega)
      simp)
    rw [e]
    obtain ⟨S, hS⟩ : ∃ S, strOf l = S := ⟨_, rfl⟩
    rw [hS] at k1 ⊢
    subst h0
    clear hS e hn hl hz
    go_enter Try.func43, Try.ntmps43
    go_wp2_with (simp only [k1])
    go_ret
    exact ⟨rfl, grown_refl _ _⟩
  · obtain ⟨a, rfl⟩ : ∃ a, s = some a := by
      cases s with
      | none => have := (hz rfl).1; omega
      | some a => exact ⟨a, rfl⟩
    obtain ⟨k, hk⟩ : ∃ k, n = k + 1 := ⟨n - 1, by omega⟩
    subst hk
    have f1 : decide ((0 : Int) < ((k + 1 : Nat) : Int)) = true := decide_eq_true (by omega)
    have hcell := hl.get k (by omega)
    have hlast : l.getLast? = some (l.getD k 0) := by
      rw [List.getLast?_eq_getElem?, List.getD_eq_getElem?_getD, show l.length - 1 = k from by omega, List.getElem?_eq_getElem (by omega)]; rfl
    obtain ⟨x, hx⟩ : ∃ x, l.getD k 0 = x := ⟨_, rfl⟩
    rw [hx] at hcell hlast
    clear hx
    have i1 : (k : Int) ≤ (cap : Int) := by omega
    by_cases hx0 : x = 0
    · have f2 : ((x : Int) == 0) = true := beq_iff_eq.2 (by omega)
      have e : lettersL l = l.take k := by rw [letters_end (by rw [hlast, hx0]), List.dropLast_eq_take, show l.length - 1 = k from by omega]
      rw [e]
      have k2 := conv_by w (some a) k cap (l.take k) (by rw [List.length_take]; omega) (hl.take k)
      obtain ⟨S, hS⟩ : ∃ S, strOf (l.take k) = S := ⟨_, rfl⟩
      rw [hS] at k2 ⊢
      clear hS e hn hl hz k1 hlast hx0
      go_enter Try.func43, Try.ntmps43
      go_wp2_with (simp only [k2])
      go_ret
      exact ⟨rfl, grown_refl _ _⟩
    · have f2 : ((x : Int) == 0) = false := beq_eq_false_iff_ne.2 (by omega)
      have e : lettersL l = l := letters_none (by rw [hlast]; simpa using hx0)
      rw [e]
      obtain ⟨S, hS⟩ : ∃ S, strOf l = S := ⟨_, rfl⟩
      rw [hS] at k1 ⊢
      clear hS e hn hl hz hlast hx0
      go_enter Try.func43, Try.ntmps43
      go_wp2_with (simp only [k1])
      go_ret
      exact ⟨rfl, grown_refl _ _⟩
/-- A text's bytes, an even number. -/
def evenL (l : List Nat) : List Nat := if l.length % 2 = 0 then l else l ++ [0]
theorem evenL_len (l : List Nat) : (evenL l).length % 2 = 0 ∧ l.length ≤ (evenL l).length ∧ (evenL l).length < l.length + 2 := by
  unfold evenL
  split
  · omega
  · rw [List.length_append]; simp; omega
theorem evenL_take (l : List Nat) : (evenL l).take l.length = l := by
  unfold evenL
  split
  · rw [List.take_length]
  · exact List.take_left
theorem evenL_letters {l : List Nat} (h : l.getLast? ≠ some 0) : lettersL (evenL l) = l := by
  unfold evenL
  split
  · exact letters_none h
  · rw [letters_end (by simp)]; simp
def RetOT (w : World) (l : List Nat) (e : Ending) (w' : World) : Prop :=
  ∃ g c, e = .returned (.slice (some ⟨g, 0, none⟩) (evenL l).length c) ∧ BySl w' (some ⟨g, 0, none⟩) (evenL l) ∧ (evenL l).length ≤ c ∧ c ≤ 9223372036854775807 ∧ w.grownBy w' none
theorem world_grown (w : World) (S : ByteArray) : w.grownBy (Lib.bytesWorld w 5 S) none :=
  ⟨rfl, rfl, rfl, by rw [Lib.bytesWorld_size]; omega, fun i hi _ => Lib.bytesWorld_at_old w _ S i hi⟩
theorem world_sl (w : World) (S : ByteArray) : BySl (Lib.bytesWorld w 5 S) (some ⟨w.heap.size, 0, none⟩) (btl S) := by
  refine ⟨Or.inr ⟨_, rfl, fun i hi => ?_⟩, btl_lt S⟩
  have e : (⟨w.heap.size, 0, none⟩ : Addr).add i = ⟨w.heap.size, i, none⟩ := by unfold Addr.add; split <;> simp_all
  rw [btl_len] at hi
  rw [e, Lib.bytesWorld_cell w _ S i hi]
  have h2 : i < S.data.toList.length := by rw [Array.length_toList]; exact hi
  have e2 : S.data.toList.getD i 0 = S.data.toList[i] := by rw [List.getD_eq_getElem?_getD, List.getElem?_eq_getElem h2]; rfl
  rw [e2]
  simp only [btl, List.getElem_map]
theorem world_spare (w : World) (S : ByteArray) (h : S.size + 1 ≤ grownCap w S.size 0 5) : ((Lib.bytesWorld w 5 S).cell? ⟨w.heap.size, S.size, none⟩).isSome = true ∧ (Lib.bytesWorld w 5 S).frozen? ⟨w.heap.size, S.size, none⟩ = false := by
  have hs : (Lib.bytesCells w 5 S).size = grownCap w S.size 0 5 := by
    unfold Lib.bytesCells
    rw [Array.size_append, Array.size_map, Array.size_replicate]
    have : S.data.size = S.size := rfl
    omega
  have hb := Lib.bytesWorld_at_new w 5 S
  constructor
  · simp only [World.cell?, hb]
    simp
    omega
  · simp only [World.frozen?, hb]
    simp
    omega
theorem OwnB0 {W : World} {base g c n : Nat} {l : List Nat} (h : W.ownsRow base 5 1 (.slice (some ⟨g, 0, none⟩) n c) n (bvs l ++ [.int .u8 0])) : ∀ i (hi : i < (l ++ [0]).length), W.cell? ((⟨g, 0, none⟩ : Addr).add i) = some (.int .u8 (((l ++ [0])[i] : Nat) : Int)) := fun i hi => by
  refine h.cells rfl _ _ ?_
  rw [show bvs l ++ [.int .u8 0] = bvs (l ++ [0]) from by unfold bvs; rw [List.map_append]; rfl]
  unfold bvs
  rw [List.getElem?_map, List.getElem?_eq_getElem hi]
  rfl
end Go.Proofs.Ytpkemijpggpdaaa
