/- Bytes turned round. -/
import Derived.Test.YtldkddogadmpbaaGreatDoorParse
import Derived.BigRegion
namespace Go.Proofs.YtldkddogadmpbaaGreatDoor
open Go.RowKit Mat
set_option maxRecDepth 100000
set_option linter.unusedVariables false
set_option linter.unusedSimpArgs false

/-- A byte as a value; a block of bytes of the call's own. -/
def bv (x : Nat) : Value := .int .u8 (x : Int)
def BBlk (w : World) (b : Nat) (cs : Array Value) : Prop := w.heap[b]? = some (.cells cs 5 (0, 0))
theorem BBlk.cell {w : World} {b : Nat} {cs : Array Value} (h : BBlk w b cs) (o : Nat) : w.cell? ⟨b, o, none⟩ = cs[o]? := by
  unfold BBlk at h; simp [World.cell?, h]
theorem BBlk.frozen {w : World} {b : Nat} {cs : Array Value} (h : BBlk w b cs) (o : Nat) : w.frozen? ⟨b, o, none⟩ = false := by
  unfold BBlk at h; simp [World.frozen?, h]
theorem BBlk.setCell {w : World} {b : Nat} {cs : Array Value} (h : BBlk w b cs) (o : Nat) (v : Value) : BBlk (w.setCell ⟨b, o, none⟩ v) b (cs.setIfInBounds o v) := by
  unfold BBlk at *
  simp [World.setCell, Array.getElem?_modify, h]

/-- What Reverse leaves. -/
def Reved (w : World) (g : Nat) (ds : List Nat) (cs : Array Value) (e : Ending) (w' : World) : Prop :=
  ∃ cs', e = .returned (.tuple #[]) ∧ BBlk w' g cs' ∧ cs'.size = cs.size ∧ (∀ p (h : p < ds.length), cs'[p]? = some (bv (ds[ds.length - 1 - p]'(by omega)))) ∧ w.grownBy w' (some g)

set_option maxHeartbeats 4000000 in
theorem Reverse_any (w : World) (g n cap : Nat) (cs : Array Value) (ds : List Nat) (hn : ds.length = n) (h0 : 0 < n) (bn : n ≤ 1099511627776) (hb : BBlk w g cs) (hat : ∀ p (h : p < ds.length), cs[p]? = some (bv ds[p])) (hcap : n ≤ cap) :
    Calls Tryz.prog 99 #[.slice (some ⟨g, 0, none⟩) n cap] w (Reved w g ds cs) := by
  have Hn := Lib.hid hn
  go_enter Tryz.func99, Tryz.ntmps99
  go_wp2_with fail
  have hn1 : (n : Int) - 1 = ((n - 1 : Nat) : Int) := by omega
  go_loopw [2, 3] (fun i j wr => ∃ (k q : Nat) (cur : Array Value), k + q + 1 = n ∧ k ≤ q + 1 ∧ i = .int .i64 k ∧ j = .int .i64 q ∧ BBlk wr g cur ∧ cur.size = cs.size ∧ w.grownBy wr (some g) ∧ Hid (∀ p (h : p < ds.length), cur[p]? = some (bv (if p < k ∨ q < p then ds[ds.length - 1 - p]'(by omega) else ds[p])))) (fun i _ _ => n - (intOf i).toNat)
  case atStart => exact ⟨0, n - 1, cs, by omega, by omega, rfl, by rw [hn1], hb, rfl, grown_refl _ _, fun p h => by rw [if_neg (by omega)]; exact hat p h⟩
  case round =>
    obtain ⟨k, q, cur, hkq, hk, rfl, rfl, hbk, hsz, hg, hc⟩ := hrel
    by_cases hlt : k < q
    · have f1 : decide ((k : Int) < (q : Int)) = true := decide_eq_true (by omega)
      obtain ⟨x, hx⟩ : ∃ x, ds[k]'(by omega) = x := ⟨_, rfl⟩
      obtain ⟨y, hy⟩ : ∃ y, ds[q]'(by omega) = y := ⟨_, rfl⟩
      have cx : wr.cell? ⟨g, k, none⟩ = some (.int .u8 (x : Int)) := by
        rw [hbk.cell, hc.out k (by omega), if_neg (by omega), hx]; rfl
      have cy : wr.cell? ⟨g, q, none⟩ = some (.int .u8 (y : Int)) := by
        rw [hbk.cell, hc.out q (by omega), if_neg (by omega), hy]; rfl
      have fx : wr.frozen? ⟨g, k, none⟩ = false := hbk.frozen _
      have fy : wr.frozen? ⟨g, q, none⟩ = false := hbk.frozen _
      have hnen : ¬ q = k := by omega
      have hnek : ¬ k = q := by omega
      have l1 : k < n := by omega
      have l2 : q < n := by omega
      go_wp2_with fail
      go_region
      have hq1 : (q : Int) - 1 = ((q - 1 : Nat) : Int) := by omega
      have hkz : k < cur.size := by
        have := hbk.cell k
        rw [cx] at this
        exact (Array.getElem?_eq_some_iff.1 this.symm).1
      have hqz : q < cur.size := by
        have := hbk.cell q
        rw [cy] at this
        exact (Array.getElem?_eq_some_iff.1 this.symm).1
      have hrel2 : Hid (∀ p (h : p < ds.length), ((cur.setIfInBounds k (.int .u8 (y : Int))).setIfInBounds q (.int .u8 (x : Int)))[p]? = some (bv (if p < k + 1 ∨ q - 1 < p then ds[ds.length - 1 - p]'(by omega) else ds[p]))) := by
        intro p h
        by_cases hp : p = q
        · subst hp
          rw [Array.getElem?_setIfInBounds_self_of_lt (by simpa using hqz), if_pos (by omega)]
          have e : ds.length - 1 - p = k := by omega
          simp only [e, hx]; rfl
        · rw [Array.getElem?_setIfInBounds_ne (by omega)]
          by_cases hp2 : p = k
          · subst hp2
            rw [Array.getElem?_setIfInBounds_self_of_lt hkz, if_pos (by omega)]
            have e : ds.length - 1 - p = q := by omega
            simp only [e, hy]; rfl
          · rw [Array.getElem?_setIfInBounds_ne (by omega), hc.out p h]
            by_cases hp3 : p < k ∨ q < p
            · rw [if_pos hp3, if_pos (by omega)]
            · rw [if_neg hp3, if_neg (by omega)]
      have hb2 : BBlk ((wr.setCell ⟨g, k, none⟩ (.int .u8 (y : Int))).setCell ⟨g, q, none⟩ (.int .u8 (x : Int))).drew g ((cur.setIfInBounds k (.int .u8 (y : Int))).setIfInBounds q (.int .u8 (x : Int))) := (hbk.setCell k _).setCell q _
      have hg2 : w.grownBy ((wr.setCell ⟨g, k, none⟩ (.int .u8 (y : Int))).setCell ⟨g, q, none⟩ (.int .u8 (x : Int))).drew (some g) := grown_drew (grown_set (grown_set hg _ _) _ _)
      clear cx cy fx fy hc hbk hg
      go_wp2_with fail
      go_roundw
      case rel => exact ⟨k + 1, q - 1, _, by omega, by omega, by go_num, (by first | rfl | rw [hq1]), hb2, by simp [hsz], hg2, hrel2⟩
      case measure => simp [intOf]; omega
    · have f1 : decide ((k : Int) < (q : Int)) = false := decide_eq_false (by omega)
      have hF : Hid (Reved w g ds cs (.returned (.tuple #[])) wr) := by
        refine ⟨cur, rfl, hbk, hsz, fun p h => ?_, hg⟩
        rw [hc.out p h]
        by_cases hp : p < k ∨ q < p
        · rw [if_pos hp]
        · rw [if_neg hp]
          have : ds.length - 1 - p = p := by omega
          simp only [this]
      go_wp2_with fail
      go_end0
      exact hF
end Go.Proofs.YtldkddogadmpbaaGreatDoor
