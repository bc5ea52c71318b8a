/- GdsBack: the law's walk. -/
import Derived.Test.YtpkemijpggpdaaaGO
namespace Go.Proofs.Ytpkemijpggpdaaa
open Go.RowKit
set_option maxRecDepth 100000
set_option linter.unusedVariables false
set_option linter.unusedSimpArgs false

set_option maxHeartbeats 32000000 in
theorem gdsBack_walk (w : World) (s : Option Addr) (n cap : Nat) (l : List Nat) (hn : l.length = n) (hl : BySl w s l) (hz : s = none → n = 0 ∧ cap = 0) (hc : n ≤ cap) (hm : cap ≤ 9223372036854775807) :
    Calls Try.prog 5 #[.slice s n cap] w (RetYes w) := by
  by_cases hbig : 400000 < n
  · have q0 : decide ((400000 : Int) < (n : Int)) = true := decide_eq_true (by omega)
    obtain ⟨L, hL⟩ : ∃ L, l.take 400000 = L := ⟨_, rfl⟩
    have hLn : L.length = 400000 := by rw [← hL, List.length_take]; omega
    have hLs : BySl w s L := by rw [← hL]; exact hl.take _
    have i4 : (400000 : Int) ≤ (cap : Int) := by omega
    obtain ⟨M, hM⟩ : ∃ M, M = 400000 := ⟨_, rfl⟩
    have hzs : s = none → M = 0 ∧ cap = 0 := fun e => by have := hz e; omega
    have hMc : M ≤ cap := by omega
    have hMl : M ≤ 400000 := by omega
    have HLN : Hid (L.length = M) := Lib.hid (by rw [hM]; exact hLn)
    have HMM := Lib.hid hM
    have HLS := Lib.hid hLs
    have HZS := Lib.hid hzs
    clear hl hn hz hbig hL hLn hLs hzs hc hM
    go_enter Try.func5, Try.ntmps5
    go_wp2_with fail
    have HE : Hid (@Eq Int (400000 : Int) (M : Int)) := Lib.hid (by have := HMM.out; omega)
    (rw [show (400000 : Nat) = M from HMM.out.symm])
    refine (Parse_any w s M cap L HLN.out HLS.out HZS.out hMc hm (by omega)).mono ?_
    have hco := parse_code L
    have HBW := Lib.hid (fun (t : KLib) (n9 : Nat) => back_write (l := L) (t := t) (n := n9) HLS.out.2 (by rw [HLN.out]; omega))
    obtain ⟨⟨c, t, n1⟩, hx⟩ : ∃ x, parseD L = x := ⟨_, rfl⟩
    rw [hx] at hco HBW ⊢
    rintro e w1 ⟨v, rfl, hv, hg1⟩
    dsimp only at hco hv ⊢
    obtain ⟨sa, ca, sb, cb, rfl⟩ := hv.v.two
    have gA := World.grownBy_alloc w1 (.cells #[.slice sa t.1.length ca, .slice sb t.2.length cb] 27) none
    have Bu := heap_new w1 (.cells #[.slice sa t.1.length ca, .slice sb t.2.length cb] 27) w1.heap.size rfl
    have HV := Lib.hid (hv.v.kept gA)
    have hG := grown_trans hg1 gA
    clear hv hg1 gA hx
    rcases hco with rfl | rfl
    · have q1 : (((0 : Nat) : Int) != 0) = false := by decide
      obtain ⟨hok, hwr, hle, hsz⟩ := HBW.out t n1 rfl
      go_wp2_with fail
      generalize (w1.alloc (.cells #[.slice sa t.1.length ca, .slice sb t.2.length cb] 27)) = w2 at *
      refine (GKnown_any w2).mono ?_
      rintro e w3 ⟨rfl, hg3⟩
      have Bu3 := heap_kept hg3 Bu
      have hG3 := grown_trans hG hg3
      have HV3 := Lib.hid (HV.out.kept hg3)
      obtain ⟨C0, C1, _, _⟩ := box_cells2 Bu3
      clear hg3 hG Bu HV
      go_wp2_with fail
      refine (Write_any w3 _ t HV3.out hsz).mono ?_
      rw [hwr]
      rintro e w4 ⟨vb, rfl, hb, hg4⟩
      obtain ⟨s4, c4, rfl, hs4, _⟩ := hb.shape
      have hn1 : (L.take n1).length = n1 := by rw [List.length_take]; omega
      have HN1 := Lib.hid hn1
      rw [hn1]
      have Bu4 := heap_kept hg4 Bu3
      have hG4 := grown_trans hG3 hg4
      have HV4 := Lib.hid (HV3.out.kept hg4)
      have hk1 : ∀ W, w4.grownBy W none → (convert 22 9 (.slice s4 n1 c4)).run Try.prog W = .ok (.string (strOf (L.take n1))) W := fun W hW => conv_by W s4 n1 c4 _ HN1.out (hs4.kept hW)
      have hk2 : ∀ W, w4.grownBy W none → (convert 22 9 (.slice s n1 cap)).run Try.prog W = .ok (.string (strOf (L.take n1))) W := fun W hW => conv_by W s n1 cap _ HN1.out ((HLS.out.take n1).kept (grown_trans hG4 hW))
      have HK1 := Lib.hid hk1
      have HK2 := Lib.hid hk2
      have hls : M = 0 → True := fun _ => trivial
      obtain ⟨C0, C1, _, _⟩ := box_cells2 Bu4
      have HBU := Lib.hid Bu4
      have HOK := Lib.hid hok
      have HG4 := Lib.hid hG4
      have i1 : (n1 : Int) ≤ (M : Int) := by have := HLN.out; omega
      have i2 : (n1 : Int) ≤ (cap : Int) := by omega
      have i3 : decide ((n1 : Int) ≤ (M : Int)) = true := decide_eq_true i1
      clear hb hs4 hg4 hG3 Bu3 HV3 hok hwr hk1 hk2 hls Bu4 hG4 HBW hle hsz hn1
      have kA := HK1.out w4 (grown_refl _ _)
      have kB := HK2.out w4 (grown_refl _ _)
      go_wp2_with fail
      go_region_held3 (fun w' => w'.cell? ⟨w1.heap.size, 0, none⟩ = some (.slice sa t.1.length ca) ∧ w'.cell? ⟨w1.heap.size, 1, none⟩ = some (.slice sb t.2.length cb) ∧ (convert 22 9 (.slice s4 n1 c4)).run Try.prog w' = .ok (.string (strOf (L.take n1))) w' ∧ (convert 22 9 (.slice s n1 cap)).run Try.prog w' = .ok (.string (strOf (L.take n1))) w')
        (first | assumption | exact ⟨C0, C1, kA, kB⟩ | exact ⟨C0, C1, HK1.out _ (grown_drew (grown_refl _ _)), HK2.out _ (grown_drew (grown_refl _ _))⟩ | exact ⟨D0, D1, HK1.out _ g5, HK2.out _ g5⟩ | go_keep)
        (first
          | (go_at_call 17; (with_reducible refine (Valid_any _ _ t (HV4.out.kept (grown_drew (grown_refl _ _)))).mono ?_); rw [HOK.out]; rintro e w5 ⟨rfl, hg5⟩; have g5 := grown_trans (grown_drew (grown_refl w4 none)) hg5; obtain ⟨D0, D1, _, _⟩ := box_cells2 (heap_kept g5 HBU.out); clear hg5))
      have hF := Lib.hid (grown_trans HG4.out g5)
      go_wp2_with fail
      go_ret
      exact ⟨rfl, hF.out⟩
    · have q1 : (((20 : Nat) : Int) != 0) = true := by decide
      go_wp2_with fail
      generalize (w1.alloc (.cells #[.slice sa t.1.length ca, .slice sb t.2.length cb] 27)) = w2 at *
      refine (GKnown_any w2).mono ?_
      rintro e w3 ⟨rfl, hg3⟩
      have hG3 := grown_trans hG hg3
      clear hg3 hG Bu
      go_wp2_with fail
      refine (GKnown_any w3).mono ?_
      rintro e w4 ⟨rfl, hg4⟩
      have HG4 := Lib.hid (grown_trans hG3 hg4)
      clear hg4 hG3
      go_wp2_with fail
      go_ret
      exact ⟨rfl, HG4.out⟩
  · have q0 : decide ((400000 : Int) < (n : Int)) = false := decide_eq_false (by omega)
    have hMl : n ≤ 400000 := by omega
    have hMc := hc
    have HLN := Lib.hid hn
    have HLS := Lib.hid hl
    have HZS := Lib.hid hz
    clear hl hn hz hbig hc
    go_enter Try.func5, Try.ntmps5
    go_wp2_with fail
    refine (Parse_any w s n cap l HLN.out HLS.out HZS.out hMc hm (by omega)).mono ?_
    have hco := parse_code l
    have HBW := Lib.hid (fun (t : KLib) (n9 : Nat) => back_write (l := l) (t := t) (n := n9) HLS.out.2 (by rw [HLN.out]; omega))
    obtain ⟨⟨c, t, n1⟩, hx⟩ : ∃ x, parseD l = x := ⟨_, rfl⟩
    rw [hx] at hco HBW ⊢
    rintro e w1 ⟨v, rfl, hv, hg1⟩
    dsimp only at hco hv ⊢
    obtain ⟨sa, ca, sb, cb, rfl⟩ := hv.v.two
    have gA := World.grownBy_alloc w1 (.cells #[.slice sa t.1.length ca, .slice sb t.2.length cb] 27) none
    have Bu := heap_new w1 (.cells #[.slice sa t.1.length ca, .slice sb t.2.length cb] 27) w1.heap.size rfl
    have HV := Lib.hid (hv.v.kept gA)
    have hG := grown_trans hg1 gA
    clear hv hg1 gA hx
    rcases hco with rfl | rfl
    · have q1 : (((0 : Nat) : Int) != 0) = false := by decide
      obtain ⟨hok, hwr, hle, hsz⟩ := HBW.out t n1 rfl
      go_wp2_with fail
      generalize (w1.alloc (.cells #[.slice sa t.1.length ca, .slice sb t.2.length cb] 27)) = w2 at *
      refine (GKnown_any w2).mono ?_
      rintro e w3 ⟨rfl, hg3⟩
      have Bu3 := heap_kept hg3 Bu
      have hG3 := grown_trans hG hg3
      have HV3 := Lib.hid (HV.out.kept hg3)
      obtain ⟨C0, C1, _, _⟩ := box_cells2 Bu3
      clear hg3 hG Bu HV
      go_wp2_with fail
      refine (Write_any w3 _ t HV3.out hsz).mono ?_
      rw [hwr]
      rintro e w4 ⟨vb, rfl, hb, hg4⟩
      obtain ⟨s4, c4, rfl, hs4, _⟩ := hb.shape
      have hn1 : (l.take n1).length = n1 := by rw [List.length_take]; omega
      have HN1 := Lib.hid hn1
      rw [hn1]
      have Bu4 := heap_kept hg4 Bu3
      have hG4 := grown_trans hG3 hg4
      have HV4 := Lib.hid (HV3.out.kept hg4)
      have hk1 : ∀ W, w4.grownBy W none → (convert 22 9 (.slice s4 n1 c4)).run Try.prog W = .ok (.string (strOf (l.take n1))) W := fun W hW => conv_by W s4 n1 c4 _ HN1.out (hs4.kept hW)
      have hk2 : ∀ W, w4.grownBy W none → (convert 22 9 (.slice s n1 cap)).run Try.prog W = .ok (.string (strOf (l.take n1))) W := fun W hW => conv_by W s n1 cap _ HN1.out ((HLS.out.take n1).kept (grown_trans hG4 hW))
      have HK1 := Lib.hid hk1
      have HK2 := Lib.hid hk2
      have hls : n = 0 → True := fun _ => trivial
      obtain ⟨C0, C1, _, _⟩ := box_cells2 Bu4
      have HBU := Lib.hid Bu4
      have HOK := Lib.hid hok
      have HG4 := Lib.hid hG4
      have i1 : (n1 : Int) ≤ (n : Int) := by have := HLN.out; omega
      have i2 : (n1 : Int) ≤ (cap : Int) := by omega
      have i3 : decide ((n1 : Int) ≤ (n : Int)) = true := decide_eq_true i1
      clear hb hs4 hg4 hG3 Bu3 HV3 hok hwr hk1 hk2 hls Bu4 hG4 HBW hle hsz hn1
      have kA := HK1.out w4 (grown_refl _ _)
      have kB := HK2.out w4 (grown_refl _ _)
      go_wp2_with fail
      go_region_held3 (fun w' => w'.cell? ⟨w1.heap.size, 0, none⟩ = some (.slice sa t.1.length ca) ∧ w'.cell? ⟨w1.heap.size, 1, none⟩ = some (.slice sb t.2.length cb) ∧ (convert 22 9 (.slice s4 n1 c4)).run Try.prog w' = .ok (.string (strOf (l.take n1))) w' ∧ (convert 22 9 (.slice s n1 cap)).run Try.prog w' = .ok (.string (strOf (l.take n1))) w')
        (first | assumption | exact ⟨C0, C1, kA, kB⟩ | exact ⟨C0, C1, HK1.out _ (grown_drew (grown_refl _ _)), HK2.out _ (grown_drew (grown_refl _ _))⟩ | exact ⟨D0, D1, HK1.out _ g5, HK2.out _ g5⟩ | go_keep)
        (first
          | (go_at_call 17; (with_reducible refine (Valid_any _ _ t (HV4.out.kept (grown_drew (grown_refl _ _)))).mono ?_); rw [HOK.out]; rintro e w5 ⟨rfl, hg5⟩; have g5 := grown_trans (grown_drew (grown_refl w4 none)) hg5; obtain ⟨D0, D1, _, _⟩ := box_cells2 (heap_kept g5 HBU.out); clear hg5))
      have hF := Lib.hid (grown_trans HG4.out g5)
      go_wp2_with fail
      go_ret
      exact ⟨rfl, hF.out⟩
    · have q1 : (((20 : Nat) : Int) != 0) = true := by decide
      go_wp2_with fail
      generalize (w1.alloc (.cells #[.slice sa t.1.length ca, .slice sb t.2.length cb] 27)) = w2 at *
      refine (GKnown_any w2).mono ?_
      rintro e w3 ⟨rfl, hg3⟩
      have hG3 := grown_trans hG hg3
      clear hg3 hG Bu
      go_wp2_with fail
      refine (GKnown_any w3).mono ?_
      rintro e w4 ⟨rfl, hg4⟩
      have HG4 := Lib.hid (grown_trans hG3 hg4)
      clear hg4 hG3
      go_wp2_with fail
      go_ret
      exact ⟨rfl, HG4.out⟩
end Go.Proofs.Ytpkemijpggpdaaa
