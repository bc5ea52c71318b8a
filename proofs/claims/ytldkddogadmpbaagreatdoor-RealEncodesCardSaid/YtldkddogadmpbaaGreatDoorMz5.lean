/- What the laws lean on, part 5. -/
import Derived.Deep.RegionHeld3
import Derived.LoopN
import Derived.Laws.Bits128
import Derived.OwnWalk
import Derived.Laws.AppendOwn
import Derived.Laws.AppendOwnNone
import Derived.Laws.BytesString
import Derived.Laws.BytesArg
import Derived.Laws.Cells
import Derived.Lib.Bytealg
import Derived.Lib.Strings
import Derived.Lib.Slices
import Derived.Lib.Walk
import Derived.Test.YtldkddogadmpbaaGreatDoorMz4
import Derived.Test.YtldkddogadmpbaaGreatDoorBase
import Derived.Test.YtldkddogadmpbaaGreatDoorZDec
import Derived.Test.YtldkddogadmpbaaGreatDoorMz2
namespace Go.Proofs.YtldkddogadmpbaaGreatDoor
open Go.RowKit Mat
set_option maxRecDepth 100000
set_option linter.unusedVariables false
set_option linter.unusedSimpArgs false
def RetLaid (w : World) (l : List Nat) (e : Ending) (w' : World) : Prop := ∃ g, e = .returned (.slice (some ⟨g, 0, none⟩) 8 8) ∧ BySl w' (some ⟨g, 0, none⟩) l ∧ w.heap.size ≤ g ∧ w.grownBy w' none
theorem by_new (w : World) (T : TypeId) (x0 x1 x2 x3 x4 x5 x6 x7 : Nat) (hd : ∀ x ∈ [x0, x1, x2, x3, x4, x5, x6, x7], x < 256) :
    BySl (w.alloc (.cells #[.int .u8 (x0 : Int), .int .u8 (x1 : Int), .int .u8 (x2 : Int), .int .u8 (x3 : Int), .int .u8 (x4 : Int), .int .u8 (x5 : Int), .int .u8 (x6 : Int), .int .u8 (x7 : Int)] T)) (some ⟨w.heap.size, 0, none⟩) [x0, x1, x2, x3, x4, x5, x6, x7] := by
  refine ⟨Or.inr ⟨_, rfl, fun i hi => ?_⟩, hd⟩
  have hb := heap_new w (.cells #[.int .u8 (x0 : Int), .int .u8 (x1 : Int), .int .u8 (x2 : Int), .int .u8 (x3 : Int), .int .u8 (x4 : Int), .int .u8 (x5 : Int), .int .u8 (x6 : Int), .int .u8 (x7 : Int)] T) w.heap.size rfl
  have key : ∀ a : Addr, a.block = w.heap.size → a.spot = none → a.off = i → (w.alloc (.cells #[.int .u8 (x0 : Int), .int .u8 (x1 : Int), .int .u8 (x2 : Int), .int .u8 (x3 : Int), .int .u8 (x4 : Int), .int .u8 (x5 : Int), .int .u8 (x6 : Int), .int .u8 (x7 : Int)] T)).cell? a = some (.int .u8 (([x0, x1, x2, x3, x4, x5, x6, x7][i] : Nat) : Int)) := by
    intro a h1 h2 h3
    obtain ⟨ab, ao, ap⟩ := a
    simp only at h1 h2 h3
    subst h1 h2 h3
    simp only [World.cell?, hb]
    have : ao = 0 ∨ ao = 1 ∨ ao = 2 ∨ ao = 3 ∨ ao = 4 ∨ ao = 5 ∨ ao = 6 ∨ ao = 7 := by simp at hi; omega
    rcases this with rfl | rfl | rfl | rfl | rfl | rfl | rfl | rfl <;> rfl
  refine key _ ?_ ?_ ?_
  all_goals (unfold Addr.add; split <;> simp_all)
set_option maxHeartbeats 16000000 in
theorem laid_f (w : World) (e m : Nat) (he : e < 128) (hm : m < 2 ^ 56) :
    Calls Tryz.prog 27 #[.bool false, .int .i64 (e : Int), .int .u64 (m : Int)] w (RetLaid w (lay8 false e m)) := by
  have hd := lay_dig false e m he
  unfold lay8 at hd ⊢
  have h8 : m < 72057594037927936 := hm
  obtain ⟨y0, hy0⟩ : ∃ y, e + (if false = true then 128 else 0) = y := ⟨_, rfl⟩
  obtain ⟨y1, hy1⟩ : ∃ y, m / 2 ^ 48 % 256 = y := ⟨_, rfl⟩
  obtain ⟨y2, hy2⟩ : ∃ y, m / 2 ^ 40 % 256 = y := ⟨_, rfl⟩
  obtain ⟨y3, hy3⟩ : ∃ y, m / 2 ^ 32 % 256 = y := ⟨_, rfl⟩
  obtain ⟨y4, hy4⟩ : ∃ y, m / 2 ^ 24 % 256 = y := ⟨_, rfl⟩
  obtain ⟨y5, hy5⟩ : ∃ y, m / 2 ^ 16 % 256 = y := ⟨_, rfl⟩
  obtain ⟨y6, hy6⟩ : ∃ y, m / 2 ^ 8 % 256 = y := ⟨_, rfl⟩
  obtain ⟨y7, hy7⟩ : ∃ y, m % 256 = y := ⟨_, rfl⟩
  rw [hy0, hy1, hy2, hy3, hy4, hy5, hy6, hy7] at hd ⊢
  have z0 : (e : Int) + 0 = (y0 : Int) := by simp at hy0; omega
  have z1 : (m : Int) / 281474976710656 = (y1 : Int) := by omega
  have z2 : (m : Int) / 1099511627776 % 256 = (y2 : Int) := by omega
  have z3 : (m : Int) / 4294967296 % 256 = (y3 : Int) := by omega
  have z4 : (m : Int) / 16777216 % 256 = (y4 : Int) := by omega
  have z5 : (m : Int) / 65536 % 256 = (y5 : Int) := by omega
  have z6 : (m : Int) / 256 % 256 = (y6 : Int) := by omega
  have z7 : (m : Int) % 256 = (y7 : Int) := by omega
  have HN := Lib.hid (by_new w 103 y0 y1 y2 y3 y4 y5 y6 y7 hd)
  have HZ : Hid ((e : Int) + 0 = (y0 : Int) ∧ (m : Int) / 281474976710656 = (y1 : Int) ∧ (m : Int) / 1099511627776 % 256 = (y2 : Int) ∧ (m : Int) / 4294967296 % 256 = (y3 : Int) ∧ (m : Int) / 16777216 % 256 = (y4 : Int) ∧ (m : Int) / 65536 % 256 = (y5 : Int) ∧ (m : Int) / 256 % 256 = (y6 : Int) ∧ (m : Int) % 256 = (y7 : Int)) := ⟨z0, z1, z2, z3, z4, z5, z6, z7⟩
  clear hy0 hy1 hy2 hy3 hy4 hy5 hy6 hy7 z0 z1 z2 z3 z4 z5 z6 z7 hd
  go_enter Tryz.func27, Tryz.ntmps27
  go_wp2_with fail
  refine wp_loop_rounds 8 ?_
  rw [rounds_succ]; go_wp2_with fail
  rw [rounds_succ]; go_wp2_with fail
  rw [rounds_succ]; go_wp2_with fail
  rw [rounds_succ]; go_wp2_with fail
  rw [rounds_succ]; go_wp2_with fail
  rw [rounds_succ]; go_wp2_with fail
  rw [rounds_succ]; go_wp2_with fail
  rw [rounds_succ]; go_wp2_with fail
  go_ret
  obtain ⟨z0, z1, z2, z3, z4, z5, z6, z7⟩ := HZ.out
  rw [Int.add_zero] at z0
  rw [z0, z1, z2, z3, z4, z5, z6, z7]
  exact ⟨w.heap.size, rfl, HN.out, Nat.le_refl _, World.grownBy_alloc _ _ _⟩
set_option maxHeartbeats 16000000 in
theorem laid_t (w : World) (e m : Nat) (he : e < 128) (hm : m < 2 ^ 56) :
    Calls Tryz.prog 27 #[.bool true, .int .i64 (e : Int), .int .u64 (m : Int)] w (RetLaid w (lay8 true e m)) := by
  have hd := lay_dig true e m he
  unfold lay8 at hd ⊢
  have h8 : m < 72057594037927936 := hm
  obtain ⟨y0, hy0⟩ : ∃ y, e + (if true = true then 128 else 0) = y := ⟨_, rfl⟩
  obtain ⟨y1, hy1⟩ : ∃ y, m / 2 ^ 48 % 256 = y := ⟨_, rfl⟩
  obtain ⟨y2, hy2⟩ : ∃ y, m / 2 ^ 40 % 256 = y := ⟨_, rfl⟩
  obtain ⟨y3, hy3⟩ : ∃ y, m / 2 ^ 32 % 256 = y := ⟨_, rfl⟩
  obtain ⟨y4, hy4⟩ : ∃ y, m / 2 ^ 24 % 256 = y := ⟨_, rfl⟩
  obtain ⟨y5, hy5⟩ : ∃ y, m / 2 ^ 16 % 256 = y := ⟨_, rfl⟩
  obtain ⟨y6, hy6⟩ : ∃ y, m / 2 ^ 8 % 256 = y := ⟨_, rfl⟩
  obtain ⟨y7, hy7⟩ : ∃ y, m % 256 = y := ⟨_, rfl⟩
  rw [hy0, hy1, hy2, hy3, hy4, hy5, hy6, hy7] at hd ⊢
  have z0 : (e : Int) + 128 = (y0 : Int) := by simp at hy0; omega
  have z1 : (m : Int) / 281474976710656 = (y1 : Int) := by omega
  have z2 : (m : Int) / 1099511627776 % 256 = (y2 : Int) := by omega
  have z3 : (m : Int) / 4294967296 % 256 = (y3 : Int) := by omega
  have z4 : (m : Int) / 16777216 % 256 = (y4 : Int) := by omega
  have z5 : (m : Int) / 65536 % 256 = (y5 : Int) := by omega
  have z6 : (m : Int) / 256 % 256 = (y6 : Int) := by omega
  have z7 : (m : Int) % 256 = (y7 : Int) := by omega
  have HN := Lib.hid (by_new w 103 y0 y1 y2 y3 y4 y5 y6 y7 hd)
  have HZ : Hid ((e : Int) + 128 = (y0 : Int) ∧ (m : Int) / 281474976710656 = (y1 : Int) ∧ (m : Int) / 1099511627776 % 256 = (y2 : Int) ∧ (m : Int) / 4294967296 % 256 = (y3 : Int) ∧ (m : Int) / 16777216 % 256 = (y4 : Int) ∧ (m : Int) / 65536 % 256 = (y5 : Int) ∧ (m : Int) / 256 % 256 = (y6 : Int) ∧ (m : Int) % 256 = (y7 : Int)) := ⟨z0, z1, z2, z3, z4, z5, z6, z7⟩
  clear hy0 hy1 hy2 hy3 hy4 hy5 hy6 hy7 z0 z1 z2 z3 z4 z5 z6 z7 hd
  have g0 : bits .or .u8 (e : Int) 128 = (e : Int) + 128 := u8_or128_right _ (by omega) (by omega)
  go_enter Tryz.func27, Tryz.ntmps27
  go_wp2_with fail
  refine wp_loop_rounds 8 ?_
  rw [rounds_succ]; go_wp2_with fail
  rw [rounds_succ]; go_wp2_with fail
  rw [rounds_succ]; go_wp2_with fail
  rw [rounds_succ]; go_wp2_with fail
  rw [rounds_succ]; go_wp2_with fail
  rw [rounds_succ]; go_wp2_with fail
  rw [rounds_succ]; go_wp2_with fail
  rw [rounds_succ]; go_wp2_with fail
  go_ret
  obtain ⟨z0, z1, z2, z3, z4, z5, z6, z7⟩ := HZ.out
  rw [z0, z1, z2, z3, z4, z5, z6, z7]
  exact ⟨w.heap.size, rfl, HN.out, Nat.le_refl _, World.grownBy_alloc _ _ _⟩
theorem laid_any (w : World) (b : Bool) (e m : Nat) (he : e < 128) (hm : m < 2 ^ 56) :
    Calls Tryz.prog 27 #[.bool b, .int .i64 (e : Int), .int .u64 (m : Int)] w (RetLaid w (lay8 b e m)) := by
  cases b
  · exact laid_f w e m he hm
  · exact laid_t w e m he hm
end Go.Proofs.YtldkddogadmpbaaGreatDoor
namespace Go.Proofs.YtldkddogadmpbaaGreatDoor
open Go.RowKit Mat
set_option maxRecDepth 100000
set_option linter.unusedVariables false
set_option linter.unusedSimpArgs false
def encL (r : Rat) : Option (Nat × Nat) → List Nat
  | none => []
  | some (e, m) => lay8 (decide (r.num < 0)) e m
def encC : Option (Nat × Nat) → Int
  | none => 4
  | some _ => 0
def RetEnc (w : World) (r : Rat) (e : Ending) (w' : World) : Prop := ∃ o s n cap, e = .returned (.tuple #[.slice s n cap, .int .i64 (encC o)]) ∧ EncIs r o ∧ n = (encL r o).length ∧ BySl w' s (encL r o) ∧ n ≤ cap ∧ cap ≤ 8 ∧ w.grownBy w' none
theorem BySl.nil (w : World) (s : Option Addr) : BySl w s [] := ⟨Or.inl rfl, fun _ h => by cases h⟩
theorem units_bd {r : Rat} {U K : Nat} (ln : r.num.natAbs < B ^ K) (h : Units r U true) : U < B ^ (K + 5) := by
  rcases h with ⟨_, sh, h1, h2, h3⟩ | ⟨h, _⟩
  · rw [← h3, Nat.pow_add]
    refine Nat.mul_lt_mul'' ln ?_
    have hB : B = 2 ^ 64 := by unfold B; decide
    obtain ⟨M, hM⟩ : ∃ M, 64 * 5 = M := ⟨_, rfl⟩
    rw [hB, ← Nat.pow_mul, hM]
    exact Nat.pow_lt_pow_right (by omega) (by omega)
  · cases h
theorem enc_units {r : Rat} {U : Nat} {x y : Int} (h : Units r U true) (k : LeastE U x y true) : ∃ e m : Nat, x = (e : Int) ∧ y = (m : Int) ∧ e < 128 ∧ m < 2 ^ 56 ∧ EncIs r (some (e, m)) := by
  rcases h with ⟨_, sh, h1, h2, h3⟩ | ⟨h, _⟩
  · rcases k with ⟨_, k1, k2, k3, k4⟩ | ⟨k, _⟩
    · have hE := enc_least h2 h1 h3 (e0 := ex0 U) (fun e he => ex0_lo he) (ex0_hi U)
      rw [if_pos ⟨k1, k2⟩] at hE
      exact ⟨_, _, k3, k4, k1, Nat.div_lt_of_lt_mul (by rw [Nat.mul_comm]; exact ex0_hi U), hE⟩
    · cases k
  · cases h
theorem enc_wide {r : Rat} {U : Nat} {x y : Int} (h : Units r U true) (k : LeastE U x y false) : EncIs r none := by
  rcases h with ⟨_, sh, h1, h2, h3⟩ | ⟨h, _⟩
  · rcases k with ⟨k, _⟩ | ⟨_, k1⟩
    · cases k
    · have hE := enc_least h2 h1 h3 (e0 := ex0 U) (fun e he => ex0_lo he) (ex0_hi U)
      rw [if_neg k1] at hE
      exact hE
  · cases h
theorem enc_odd {r : Rat} {U : Nat} (h : Units r U false) : EncIs r none := by
  rcases h with ⟨h, _⟩ | ⟨_, h⟩
  · cases h
  · exact enc_none h
set_option maxHeartbeats 16000000 in
theorem Enc_any (w : World) (va : Value) (r : Rat) (K : Nat) (Ha : RatV w va r) (hK : K ≤ 300000) (ln : r.num.natAbs < B ^ K) (ld : r.den < B ^ K) :
    Calls Tryz.prog 7 #[va] w (RetEnc w r) := by
  have Hln := Lib.hid ln
  have Hld := Lib.hid ld
  clear ln ld
  obtain ⟨P, hP⟩ : ∃ P, RetEnc w r = P := ⟨_, rfl⟩
  have no : ∀ W, w.grownBy W none → Hid (EncIs r none) → P (.returned (.tuple #[.slice none 0 0, .int .i64 4])) W := fun W hg h => by
    rw [← hP]; exact ⟨none, none, 0, 0, rfl, h.out, rfl, BySl.nil _ _, Nat.le_refl _, by omega, hg⟩
  have yes : ∀ W g (e m : Nat), w.grownBy W none → Hid (EncIs r (some (e, m))) → BySl W (some ⟨g, 0, none⟩) (lay8 (decide (r.num < 0)) e m) → P (.returned (.tuple #[.slice (some ⟨g, 0, none⟩) 8 8, .int .i64 0])) W := fun W g e m hg h hb => by
    rw [← hP]
    exact ⟨some (e, m), _, 8, 8, rfl, h.out, rfl, hb, Nat.le_refl _, Nat.le_refl _, hg⟩
  have HNO := Lib.hid no
  have HYES := Lib.hid yes
  rw [hP]
  clear hP no yes
  obtain ⟨sa, xa, ba, sa', xa', ba', rfl, ha, ha'⟩ := Ha
  have hG : w.grownBy (w.alloc (.cells #[.slice sa xa.length xa.length, .bool ba, .slice sa' xa'.length xa'.length, .bool ba'] 28)) none := (World.grownBy_alloc _ _ _)
  have Ba := (heap_new w (.cells #[.slice sa xa.length xa.length, .bool ba, .slice sa' xa'.length xa'.length, .bool ba'] 28) (w.heap.size) rfl)
  have qa : RatV (w.alloc (.cells #[.slice sa xa.length xa.length, .bool ba, .slice sa' xa'.length xa'.length, .bool ba'] 28)) (.agg #[.slice sa xa.length xa.length, .bool ba, .slice sa' xa'.length xa'.length, .bool ba']) (r) := ⟨sa, xa, ba, sa', xa', ba', rfl, ha.kept hG, ha'.kept hG⟩
  have oa : RatV w (.agg #[.slice sa xa.length xa.length, .bool ba, .slice sa' xa'.length xa'.length, .bool ba']) (r) := ⟨sa, xa, ba, sa', xa', ba', rfl, ha, ha'⟩
  clear ha ha'
  go_enter Tryz.func7, Tryz.ntmps7
  obtain ⟨Ca0, Ca1, Ca2, Ca3, Fa0, Fa1, Fa2, Fa3⟩ := box_cells4 Ba
  go_wp2_with fail
  generalize (w.alloc (.cells #[.slice sa xa.length xa.length, .bool ba, .slice sa' xa'.length xa'.length, .bool ba'] 28)) = w0 at *
  clear Ca0 Ca1 Ca2 Ca3 Fa0 Fa1 Fa2 Fa3
  refine (Units_any w0 _ r K qa (by omega) Hln.out Hld.out).mono ?_
  rintro e w1 ⟨_, U, b, rfl, ⟨su, xu, rfl, hu, vu⟩, HU, gw1⟩
  replace HU := Lib.hid HU
  have nu : NatV w1 (.agg #[.slice su xu.length xu.length]) (U) := ⟨su, xu, rfl, hu, vu⟩
  replace Ba := heap_kept gw1 Ba
  replace qa := qa.kept gw1
  replace hG := grown_trans hG gw1
  clear gw1
  clear hu vu
  obtain ⟨Ca0, Ca1, Ca2, Ca3, Fa0, Fa1, Fa2, Fa3⟩ := box_cells4 Ba
  have gbw1 := (World.grownBy_alloc w1 (.cells #[.slice su xu.length xu.length] 24) none)
  have Bu := (heap_new w1 (.cells #[.slice su xu.length xu.length] 24) (w1.heap.size) rfl)
  have hzw1 : Hid (w.heap.size ≤ w1.heap.size) := Lib.hid hG.size
  have hlaw1 : Hid (w.heap.size < w1.heap.size) := Lib.hid (Array.getElem?_eq_some_iff.1 Ba).1
  clear Ca0 Ca1 Ca2 Ca3 Fa0 Fa1 Fa2 Fa3
  replace Ba := heap_kept gbw1 Ba
  replace qa := qa.kept gbw1
  replace nu := nu.kept gbw1
  replace hG := grown_trans hG gbw1
  clear gbw1
  obtain ⟨Ca0, Ca1, Ca2, Ca3, Fa0, Fa1, Fa2, Fa3⟩ := box_cells4 Ba
  obtain ⟨Cu0, Fu0⟩ := box_cell Bu
  cases b
  · skip
    go_wp2_with fail
    exact HNO.out _ hG (Lib.hid (enc_odd HU.out))
  · skip
    have lu := units_bd Hln.out HU.out
    go_wp2_with fail
    generalize (w1.alloc (.cells #[.slice su xu.length xu.length] 24)) = w2 at *
    generalize w1.heap.size = aw1 at *
    replace hzw1 := hzw1.out
    replace hlaw1 := hlaw1.out
    clear Ca0 Ca1 Ca2 Ca3 Fa0 Fa1 Fa2 Fa3 Cu0 Fu0
    refine (Least_any w2 _ U (K + 5) nu (by omega) lu).mono ?_
    rintro e tw3 ⟨x, y, b, rfl, HL, gtw3⟩
    replace HL := Lib.hid HL
    replace Ba := heap_kept gtw3 Ba
    replace Bu := heap_kept gtw3 Bu
    replace qa := qa.kept gtw3
    replace nu := nu.kept gtw3
    replace hG := grown_trans hG gtw3
    clear gtw3
    obtain ⟨Ca0, Ca1, Ca2, Ca3, Fa0, Fa1, Fa2, Fa3⟩ := box_cells4 Ba
    obtain ⟨Cu0, Fu0⟩ := box_cell Bu
    clear lu
    cases b
    · skip
      go_wp2_with fail
      exact HNO.out _ hG (Lib.hid (enc_wide HU.out HL.out))
    · skip
      obtain ⟨e9, m9, rfl, rfl, he9, hm9, hE9⟩ := enc_units HU.out HL.out
      have HE9 := Lib.hid hE9; clear hE9
      go_wp2_with fail
      clear Ca0 Ca1 Ca2 Ca3 Fa0 Fa1 Fa2 Fa3 Cu0 Fu0
      refine (FSign_any tw3 _ r K qa (by omega) Hln.out).mono ?_
      rintro e tyw4 ⟨rfl, gtyw4⟩
      replace Ba := heap_kept gtyw4 Ba
      replace Bu := heap_kept gtyw4 Bu
      replace qa := qa.kept gtyw4
      replace nu := nu.kept gtyw4
      replace hG := grown_trans hG gtyw4
      clear gtyw4
      obtain ⟨Ca0, Ca1, Ca2, Ca3, Fa0, Fa1, Fa2, Fa3⟩ := box_cells4 Ba
      obtain ⟨Cu0, Fu0⟩ := box_cell Bu
      go_wp2_with fail
      clear Ca0 Ca1 Ca2 Ca3 Fa0 Fa1 Fa2 Fa3 Cu0 Fu0
      refine (laid_any tyw4 _ e9 m9 he9 hm9).mono ?_
      rintro e tyw5 ⟨g9, rfl, hb9, hs9, gtyw5⟩
      replace Ba := heap_kept gtyw5 Ba
      replace Bu := heap_kept gtyw5 Bu
      replace qa := qa.kept gtyw5
      replace nu := nu.kept gtyw5
      replace hG := grown_trans hG gtyw5
      clear gtyw5
      obtain ⟨Ca0, Ca1, Ca2, Ca3, Fa0, Fa1, Fa2, Fa3⟩ := box_cells4 Ba
      obtain ⟨Cu0, Fu0⟩ := box_cell Bu
      go_wp2_with fail
      exact HYES.out _ _ _ _ hG HE9 hb9
theorem bval_bd {l : List Nat} (h : ∀ x ∈ l, x < 256) : (bval l).num.natAbs < B ^ 5 ∧ (bval l).den < B ^ 5 := by
  unfold bval
  split
  · rename_i h8
    have h1 := sh_bd (mv l.tail) (l.headD 0 % 128) (mv7 l h h8) (by omega)
    unfold rv
    constructor
    · refine rdiv_nb ?_
      rw [Int.natAbs_mul, Int.natAbs_natCast]
      refine Nat.lt_of_le_of_lt ?_ h1.1
      split <;> exact Nat.le_of_eq (Nat.one_mul _)
    · exact rdiv_db (by rw [Int.natAbs_natCast]; exact h1.2) pow_ne
  · exact ⟨by unfold B; decide, by unfold B; decide⟩
def sameB (l k : List Nat) : Bool := decide (l.length = 8) && decide (k.length = 8) && decide (rcmp (bval l) (bval k) = 0)
end Go.Proofs.YtldkddogadmpbaaGreatDoor
namespace Go.Proofs.YtldkddogadmpbaaGreatDoor
open Go.RowKit Mat
set_option maxRecDepth 100000
set_option linter.unusedVariables false
set_option linter.unusedSimpArgs false
def RetBy (w : World) (l : List Nat) (e : Ending) (w' : World) : Prop := ∃ g cap, e = .returned (.slice (some ⟨g, 0, none⟩) l.length cap) ∧ BySl w' (some ⟨g, 0, none⟩) l ∧ w.heap.size ≤ g ∧ l.length ≤ cap ∧ cap ≤ 9223372036854775807 ∧ w.grownBy w' none
theorem info_partsU : ∃ i, Tryz.prog.info? 5 = some i ∧ i.zero = some (.int .u8 0) ∧ i.size = 1 ∧ i.bytes = 1 := by
  have h : (Tryz.prog.info? 5).map (fun i => (i.zero, i.size, i.bytes)) = some (some (.int .u8 0), 1, 1) := by kernel_rfl
  cases e : Tryz.prog.info? 5 with
  | none => rw [e] at h; cases h
  | some i =>
    rw [e] at h
    simp only [Option.map_some, Option.some.injEq, Prod.mk.injEq] at h
    exact ⟨i, rfl, h.1, h.2.1, h.2.2⟩
def bvs (l : List Nat) : List Value := l.map fun x : Nat => .int .u8 (x : Int)
theorem own_empty (w : World) : (w.alloc (.cells #[] 5)).ownsRow w.heap.size 5 1 (.slice (some ⟨w.heap.size, 0, none⟩) 0 0) 0 [] :=
  ⟨rfl, Or.inr ⟨w.heap.size, 0, #[], rfl, Nat.le_refl _, heap_new w (.cells #[] 5) w.heap.size rfl, Nat.le_refl _, Nat.zero_le _, rfl, rfl⟩⟩
theorem own_by {w : World} {base g n cap : Nat} {l : List Nat} (h : w.ownsRow base 5 1 (.slice (some ⟨g, 0, none⟩) n cap) n (bvs l)) (hd : ∀ x ∈ l, x < 256) : BySl w (some ⟨g, 0, none⟩) l := by
  refine ⟨Or.inr ⟨_, rfl, fun i hi => ?_⟩, hd⟩
  exact h.cells (g := g) rfl i _ (by simp [bvs, List.getElem?_eq_getElem hi])
def strOf (l : List Nat) : ByteArray := ⟨(l.map UInt8.ofNat).toArray⟩
theorem conv_by (w : World) (s : Option Addr) (n cap : Nat) (l : List Nat) (hn : l.length = n) (hl : BySl w s l) : (convert 42 9 (.slice s n cap)).run Tryz.prog w = .ok (.string (strOf l)) w := by
  subst hn
  cases s with
  | none =>
    have : l = [] := hl.1.resolve_right (fun ⟨a, e, _⟩ => by cases e)
    subst this
    exact run_convert_bytes_nil w 42 5 Tryz.underlying42 Tryz.underlying5 _ cap 9 Tryz.underlying9
  | some a =>
    have hload : (loadCells a l.length).run Tryz.prog w = .ok ((l.map fun x : Nat => (x : Int)).map (Value.int .u8)).toArray w := by
      have := run_loadCells_list (P := Tryz.prog) w a (bvs l) (fun j u hj => by
        have hj2 : j < l.length := by
          rcases Nat.lt_or_ge j l.length with h | h
          · exact h
          · rw [List.getElem?_eq_none (by simpa [bvs] using h)] at hj; cases hj
        rcases hl.1 with rfl | ⟨a', e, hc⟩
        · simp at hj2
        · cases e
          simp [bvs, List.getElem?_eq_getElem hj2] at hj
          rw [hc j hj2, hj])
      simpa [bvs, Function.comp_def] using this
    rw [run_convert_bytes_string w 42 9 5 _ l.length cap Tryz.underlying42 Tryz.underlying5 Tryz.underlying9, run_bytesToString w _ l.length cap _ hload, foldl_push_bytes]
    simp [strOf, ByteArray.empty, ByteArray.emptyWithCapacity, Function.comp_def]
    rfl
set_option maxHeartbeats 16000000 in
theorem same_any (w : World) (s t : Option Addr) (n m cap cap' : Nat) (l : List Nat) (hn : l.length = n) (hm : l.length = m) (hl : BySl w s l) (hk : BySl w t l) :
    Calls Tryz.prog 9 #[.slice s n cap, .slice t m cap'] w (fun e w' => e = .returned (.bool true) ∧ w = w') := by
  have c1 := conv_by w s n cap l hn hl
  have c2 := conv_by w t m cap' l hm hk
  clear hn hm hl hk
  go_enter Tryz.func9, Tryz.ntmps9
  go_wp2_with (simp only [c1, c2])
  go_ret
  exact ⟨rfl, rfl⟩
end Go.Proofs.YtldkddogadmpbaaGreatDoor
namespace Go.Proofs.YtldkddogadmpbaaGreatDoor
open Go.RowKit Mat
set_option maxRecDepth 100000
set_option linter.unusedVariables false
set_option linter.unusedSimpArgs false
def slx (s : ByteArray) : Int := Lib.indexByte s.data.toList 47
theorem ix_spec (c : UInt8) : ∀ l : List UInt8, (Lib.indexByte l c = -1 ∧ c ∉ l) ∨ ∃ k : Nat, k < l.length ∧ Lib.indexByte l c = (k : Int) ∧ l[k]? = some c ∧ c ∉ l.take k
  | [] => Or.inl ⟨rfl, by simp⟩
  | b :: l => by
    unfold Lib.indexByte
    by_cases h : b = c
    · subst h
      right; exact ⟨0, by simp, by simp, by simp, by simp⟩
    · have hb : (b == c) = false := beq_eq_false_iff_ne.2 h
      rw [hb]
      rcases ix_spec c l with ⟨h1, h2⟩ | ⟨k, h1, h2, h3, h4⟩
      · left; rw [h1]; exact ⟨rfl, by simp [h2, Ne.symm h]⟩
      · right
        rw [h2]
        have : ((k : Int) == -1) = false := beq_eq_false_iff_ne.2 (by omega)
        rw [this]
        exact ⟨k + 1, by simp; omega, by simp, by simpa using h3, by simp [h4, Ne.symm h]⟩
theorem slx_spec (s : ByteArray) : (slx s = -1 ∧ (47 : UInt8) ∉ s.data.toList) ∨ ∃ k : Nat, k < s.size ∧ slx s = (k : Int) ∧ s.data.toList[k]? = some 47 ∧ (47 : UInt8) ∉ s.data.toList.take k := by
  rcases ix_spec 47 s.data.toList with h | ⟨k, h1, h2⟩
  · exact Or.inl h
  · exact Or.inr ⟨k, by simpa using h1, h2⟩
theorem ixb_any (w : World) (s : ByteArray) :
    Calls Tryz.prog 85 #[.string s, .int .u8 47] w (fun e w' => e = .returned (.int .i64 (slx s)) ∧ w = w') := by
  go_enter Tryz.func85, Tryz.ntmps85
  go_wp2
  rw [run_callFunc_extern Tryz.func100 (by kernel_rfl) (by kernel_rfl) (by kernel_rfl) (e := Extern.BytealgIndexByte.indexByte) (by kernel_rfl), Lib.run_indexByteString]
  simp only [Result.andThen]
  rw [Oper.upon_value]
  go_wp2
  go_ret
  exact ⟨rfl, rfl⟩
theorem ixs_any (w : World) (s : ByteArray) :
    Calls Tryz.prog 67 #[.string s, .string { data := #[47] }] w (fun e w' => e = .returned (.int .i64 (slx s)) ∧ w = w') := by
  cases hs : (([47] : List UInt8) == s.toList)
  · go_enter Tryz.func67, Tryz.ntmps67
    go_wp2_with fail
    refine (ixb_any w s).mono ?_
    rintro e w' ⟨rfl, rfl⟩
    go_wp2_with fail
    go_ret
    exact ⟨rfl, rfl⟩
  · have h0 : slx s = 0 := by
      have : s.data.toList = [47] := by rw [← ByteArray.toList_eq]; exact (beq_iff_eq.1 hs).symm
      unfold slx; rw [this]; rfl
    rw [h0]
    clear h0
    go_enter Tryz.func67, Tryz.ntmps67
    go_wp2_with fail
    go_ret
    exact ⟨rfl, rfl⟩
theorem cutl_sl (w : World) (s : ByteArray) (k : Nat) (h : slx s = (k : Int)) (hk : k < s.size) (hs : s.size ≤ 4611686018427387904) :
    Calls Tryz.prog 35 #[.string s, .string { data := #[47] }] w (fun e w' => e = .returned (.tuple #[.string (s.extract 0 k), .string (s.extract (k + 1) s.size), .bool true]) ∧ w.grownBy w' none) := by
  have H := Lib.hid h
  clear h
  go_enter Tryz.func35, Tryz.ntmps35
  go_wp2_with fail
  refine (ixs_any w s).mono ?_
  rintro e w' ⟨rfl, rfl⟩
  rw [H.out]
  go_wp2_with fail
  go_quiet (fail)
  go_wp2_with fail
  go_ret3
  exact ⟨rfl, grown_drewN _ _ _⟩
theorem cutl_no (w : World) (s : ByteArray) (h : slx s = -1) :
    Calls Tryz.prog 35 #[.string s, .string { data := #[47] }] w (fun e w' => e = .returned (.tuple #[.string s, .string { data := #[] }, .bool false]) ∧ w = w') := by
  have H := Lib.hid h
  clear h
  go_enter Tryz.func35, Tryz.ntmps35
  go_wp2_with fail
  refine (ixs_any w s).mono ?_
  rintro e w' ⟨rfl, rfl⟩
  rw [H.out]
  go_wp2_with fail
  go_ret3
  exact ⟨rfl, rfl⟩
theorem scut_sl (w : World) (s : ByteArray) (k : Nat) (h : slx s = (k : Int)) (hk : k < s.size) (hs : s.size ≤ 4611686018427387904) :
    Calls Tryz.prog 10 #[.string s, .string { data := #[47] }] w (fun e w' => e = .returned (.tuple #[.string (s.extract 0 k), .string (s.extract (k + 1) s.size), .bool true]) ∧ w.grownBy w' none) := by
  have H := Lib.hid h
  have HK := Lib.hid hk
  have HS := Lib.hid hs
  clear h hk hs
  go_enter Tryz.func10, Tryz.ntmps10
  go_wp2_with fail
  refine (cutl_sl w s k H.out HK.out HS.out).mono ?_
  rintro e w' ⟨rfl, g⟩
  go_wp2_with fail
  go_ret3
  exact ⟨rfl, g⟩
theorem scut_no (w : World) (s : ByteArray) (h : slx s = -1) :
    Calls Tryz.prog 10 #[.string s, .string { data := #[47] }] w (fun e w' => e = .returned (.tuple #[.string s, .string { data := #[] }, .bool false]) ∧ w = w') := by
  have H := Lib.hid h
  clear h
  go_enter Tryz.func10, Tryz.ntmps10
  go_wp2_with fail
  refine (cutl_no w s H.out).mono ?_
  rintro e w' ⟨rfl, rfl⟩
  go_wp2_with fail
  go_ret3
  exact ⟨rfl, rfl⟩
end Go.Proofs.YtldkddogadmpbaaGreatDoor
namespace Go.Proofs.YtldkddogadmpbaaGreatDoor
open Go.RowKit Mat
set_option maxRecDepth 100000
set_option linter.unusedVariables false
set_option linter.unusedSimpArgs false
def RetIntE (w : World) (z : Int) (code : Int) (e : Ending) (w' : World) : Prop := ∃ v, e = .returned (.tuple #[v, .int .i64 code]) ∧ IntV w' v z ∧ w.grownBy w' none
theorem ret_intvE {w w' : World} {z code : Int} {g : Nat} {a0 a1 v0 v1 : Value} (hg : w.grownBy w' none) (hbox : w'.heap[g]? = some (.cells #[a0, a1] 26 (0, 0))) (hl : w.heap.size ≤ g) (h : IntV w' (.agg #[v0, v1]) z) :
    RetIntE w z code (.returned (.tuple #[.agg #[v0, v1], .int .i64 code])) ((w'.setCell ⟨g, 0, none⟩ v0).setCell ⟨g, 1, none⟩ v1) :=
  ⟨_, rfl, h.set2 hbox v0 v1, grown_set2 hg hl v0 v1⟩
theorem intv_of_nat {w : World} {s : Option Addr} {k c m : Nat} (h : NatV w (.agg #[.slice s k c]) m) : IntV w (.agg #[.slice s k c, .bool false]) (m : Int) := by
  obtain ⟨s', xs, e, h1, hv⟩ := h
  cases e
  exact ⟨_, xs, false, rfl, h1, by simpa using hv, by constructor <;> intro h <;> first | cases h | omega⟩
theorem intv_of_neg {w : World} {s : Option Addr} {k c m : Nat} (h : NatV w (.agg #[.slice s k c]) m) (hm : 0 < m) : IntV w (.agg #[.slice s k c, .bool true]) (-(m : Int)) := by
  obtain ⟨s', xs, e, h1, hv⟩ := h
  cases e
  exact ⟨_, xs, true, rfl, h1, by omega, by constructor <;> intro h <;> first | rfl | omega⟩
theorem cutd_hit (w : World) (s : ByteArray) (h : zneg (bts s) = true) :
    Calls Tryz.prog 36 #[.string s, .string { data := #[45] }] w (fun e w' => e = .returned (.tuple #[.string (s.extract 1 s.size), .bool true]) ∧ w = w') := cut_hit w s { data := #[45] } (by rw [pfx_dash]; exact h)
theorem cutd_miss (w : World) (s : ByteArray) (h : zneg (bts s) = false) :
    Calls Tryz.prog 36 #[.string s, .string { data := #[45] }] w (fun e w' => e = .returned (.tuple #[.string s, .bool false]) ∧ w = w') := cut_miss w s { data := #[45] } (by rw [pfx_dash]; exact h)
set_option maxHeartbeats 8000000 in
theorem ZParse_any (w : World) (s : ByteArray) :
    Calls Tryz.prog 11 #[.string s] w (RetIntE w (zval s) (zcod s)) := by
  by_cases h0 : 4097 < s.size
  · skip
    obtain ⟨e1, e2⟩ := zc_long h0
    rw [e1, e2]
    clear e1 e2
    have f1 : decide ((4097 : Int) < (s.size : Int)) = true := decide_eq_true (by omega)
    have hG : w.grownBy (w.alloc (.cells #[.slice none 0 0, .bool false] 26)) none := (World.grownBy_alloc _ _ _)
    have Bq := (heap_new w (.cells #[.slice none 0 0, .bool false] 26) (w.heap.size) rfl)
    go_enter Tryz.func11, Tryz.ntmps11
    obtain ⟨Cq0, Cq1, Fq0, Fq1⟩ := box_cells Bq
    have hG' : w.grownBy (w.alloc (.cells #[.slice none 0 0, .bool false] 26)) none := (World.grownBy_alloc _ _ _)
    have hF : Hid (RetIntE w (0) 2 (.returned (.tuple #[.agg #[.slice none 0 0, .bool false], .int .i64 2])) (w.alloc (.cells #[.slice none 0 0, .bool false] 26))) := ⟨_, rfl, (IntV.zero _), hG'⟩
    clear hG'
    go_wp2_with fail
    exact bodyPost_ret (v := .tuple #[.agg #[.slice none 0 0, .bool false], .int .i64 2]) (by simp [results, Tryz.results11, go_sem]) rfl hF.out
  have f1 : decide ((4097 : Int) < (s.size : Int)) = false := decide_eq_false (by omega)
  have hs : s.size ≤ 4097 := by omega
  clear h0
  cases hn : zneg (bts s)
  · skip
    have hz := zdig_pos hn
    by_cases hd : DecL (bts s)
    · skip
      have hok : zok (bts s) = true := (zok_iff _).2 ⟨by rw [hz]; exact hd, by rw [hn]; simp⟩
      by_cases h4 : s.size ≤ 4096
      · skip
        obtain ⟨e1, e2⟩ := zc_num hs hok (by rw [hz, bts_len]; exact h4)
        obtain ⟨m, hm⟩ : ∃ m, dval (bts s) = m := ⟨_, rfl⟩
        rw [e1, e2, show znum (bts s) = (m : Int) from by unfold znum; rw [hn, hz, hm]; rfl]
        clear e1 e2 hok hz hs
        have HD := Lib.hid hd
        have HZ := Lib.hid h4
        have HV := Lib.hid hm
        clear hd h4 hm
        have HN := Lib.hid hn
        clear hn
        have hG : w.grownBy (w.alloc (.cells #[.slice none 0 0, .bool false] 26)) none := (World.grownBy_alloc _ _ _)
        have Bq := (heap_new w (.cells #[.slice none 0 0, .bool false] 26) (w.heap.size) rfl)
        go_enter Tryz.func11, Tryz.ntmps11
        obtain ⟨Cq0, Cq1, Fq0, Fq1⟩ := box_cells Bq
        go_wp2_with fail
        generalize (w.alloc (.cells #[.slice none 0 0, .bool false] 26)) = w0 at *
        refine (cutd_miss w0 s HN.out).mono ?_
        rintro e w1 ⟨rfl, rfl⟩
        go_wp2_with fail
        clear Cq0 Fq0 Cq1 Fq1
        refine (Parse_some w0 s HZ.out HD.out).mono ?_
        rintro e w2 ⟨_, rfl, ⟨sn, xn, rfl, hn, vn⟩, gw2⟩
        rw [HV.out] at vn
        have nn : NatV _ (.agg #[.slice sn xn.length xn.length]) (m) := ⟨sn, xn, rfl, hn, vn⟩
        clear hn vn
        replace Bq := heap_kept gw2 Bq
        replace hG := grown_trans hG gw2
        clear gw2
        obtain ⟨Cq0, Cq1, Fq0, Fq1⟩ := box_cells Bq
        have gbw2 := (World.grownBy_alloc w2 (.cells #[.slice sn xn.length xn.length] 24) none)
        have Bn := (heap_new w2 (.cells #[.slice sn xn.length xn.length] 24) (w2.heap.size) rfl)
        have hzw2 : Hid (w.heap.size ≤ w2.heap.size) := Lib.hid hG.size
        have hlqw2 : Hid (w.heap.size < w2.heap.size) := Lib.hid (Array.getElem?_eq_some_iff.1 Bq).1
        clear Cq0 Fq0 Cq1 Fq1
        replace Bq := heap_kept gbw2 Bq
        replace nn := nn.kept gbw2
        replace hG := grown_trans hG gbw2
        clear gbw2
        obtain ⟨Cq0, Cq1, Fq0, Fq1⟩ := box_cells Bq
        obtain ⟨Cn0, Fn0⟩ := box_cell Bn
        have hi : IntV (w2.alloc (.cells #[.slice sn xn.length xn.length] 24)) (.agg #[.slice sn xn.length xn.length, .bool false]) (m : Int) := intv_of_nat nn
        clear Cq0 Fq0 Cq1 Fq1 Cn0 Fn0
        obtain ⟨k90, k91, k92, k93⟩ := box_cells Bq
        obtain ⟨q90, q91, q92, q93⟩ := box_cells (heap_set2 Bq (.slice sn xn.length xn.length) (.bool false))
        have hF : Hid (RetIntE w ((m : Int)) 0 (.returned (.tuple #[.agg #[.slice sn xn.length xn.length, .bool false], .int .i64 0])) (((w2.alloc (.cells #[.slice sn xn.length xn.length] 24)).setCell ⟨w.heap.size, 0, none⟩ (.slice sn xn.length xn.length)).setCell ⟨w.heap.size, 1, none⟩ (.bool false))) := ret_intvE hG Bq (by omega) hi
        clear nn hi
        obtain ⟨Cn0, Fn0⟩ := box_cell Bn
        go_wp2_with fail
        exact bodyPost_ret (v := .tuple #[.agg #[.slice sn xn.length xn.length, .bool false], .int .i64 0]) (by simp [results, Tryz.results11, go_sem, q90, q91]) rfl hF.out
      · skip
        have h5 : 4096 < s.size := by omega
        obtain ⟨e1, e2⟩ := zc_many hs hok (by rw [hz, bts_len]; exact h5)
        rw [e1, e2]
        clear e1 e2 hok hz h4
        have HD := Lib.hid hd
        have HZ := Lib.hid h5
        have HS := Lib.hid hs
        clear hd h5 hs
        have HN := Lib.hid hn
        clear hn
        have hG : w.grownBy (w.alloc (.cells #[.slice none 0 0, .bool false] 26)) none := (World.grownBy_alloc _ _ _)
        have Bq := (heap_new w (.cells #[.slice none 0 0, .bool false] 26) (w.heap.size) rfl)
        go_enter Tryz.func11, Tryz.ntmps11
        obtain ⟨Cq0, Cq1, Fq0, Fq1⟩ := box_cells Bq
        go_wp2_with fail
        generalize (w.alloc (.cells #[.slice none 0 0, .bool false] 26)) = w0 at *
        refine (cutd_miss w0 s HN.out).mono ?_
        rintro e w1 ⟨rfl, rfl⟩
        go_wp2_with fail
        clear Cq0 Fq0 Cq1 Fq1
        refine (Parse_long w0 s HZ.out).mono ?_
        rintro e w2 ⟨_, rfl, ⟨sn, xn, rfl, hn, vn⟩, gw2⟩
        have nn : NatV w2 (.agg #[.slice sn xn.length xn.length]) (0) := ⟨sn, xn, rfl, hn, vn⟩
        replace Bq := heap_kept gw2 Bq
        replace hG := grown_trans hG gw2
        clear gw2
        clear hn vn
        obtain ⟨Cq0, Cq1, Fq0, Fq1⟩ := box_cells Bq
        have gbw2 := (World.grownBy_alloc w2 (.cells #[.slice sn xn.length xn.length] 24) none)
        have Bn := (heap_new w2 (.cells #[.slice sn xn.length xn.length] 24) (w2.heap.size) rfl)
        have hzw2 : Hid (w.heap.size ≤ w2.heap.size) := Lib.hid hG.size
        have hlqw2 : Hid (w.heap.size < w2.heap.size) := Lib.hid (Array.getElem?_eq_some_iff.1 Bq).1
        clear Cq0 Fq0 Cq1 Fq1
        replace Bq := heap_kept gbw2 Bq
        replace nn := nn.kept gbw2
        replace hG := grown_trans hG gbw2
        clear gbw2
        obtain ⟨Cq0, Cq1, Fq0, Fq1⟩ := box_cells Bq
        obtain ⟨Cn0, Fn0⟩ := box_cell Bn
        go_wp2_with fail
        generalize (w2.alloc (.cells #[.slice sn xn.length xn.length] 24)) = w3 at *
        generalize w2.heap.size = aw2 at *
        replace hzw2 := hzw2.out
        replace hlqw2 := hlqw2.out
        refine (long_any w3 s HS.out (by have := HZ.out; omega)).mono ?_
        rintro e w4 ⟨b, rfl, hb, rfl⟩
        obtain rfl : b = true := hb.2 HD.out
        clear hb
        clear Cq0 Fq0 Cq1 Fq1 Cn0 Fn0
        obtain ⟨k90, k91, k92, k93⟩ := box_cells Bq
        obtain ⟨q90, q91, q92, q93⟩ := box_cells (heap_set2 Bq (.slice none 0 0) (.bool false))
        have hF : Hid (RetIntE w (0) 2 (.returned (.tuple #[.agg #[.slice none 0 0, .bool false], .int .i64 2])) ((w3.setCell ⟨w.heap.size, 0, none⟩ (.slice none 0 0)).setCell ⟨w.heap.size, 1, none⟩ (.bool false))) := ret_intvE hG Bq (by omega) (IntV.zero _)
        clear nn
        obtain ⟨Cn0, Fn0⟩ := box_cell Bn
        go_wp2_with fail
        exact bodyPost_ret (v := .tuple #[.agg #[.slice none 0 0, .bool false], .int .i64 2]) (by simp [results, Tryz.results11, go_sem, q90, q91]) rfl hF.out
    · skip
      obtain ⟨e1, e2⟩ := zc_form hs (fun h => hd (by have := ((zok_iff _).1 h).1; rw [hz] at this; exact this))
      rw [e1, e2]
      clear e1 e2 hz
      by_cases h4 : s.size ≤ 4096
      · skip
        clear hs
        have HD := Lib.hid hd
        have HZ := Lib.hid h4
        clear hd h4
        have HN := Lib.hid hn
        clear hn
        have hG : w.grownBy (w.alloc (.cells #[.slice none 0 0, .bool false] 26)) none := (World.grownBy_alloc _ _ _)
        have Bq := (heap_new w (.cells #[.slice none 0 0, .bool false] 26) (w.heap.size) rfl)
        go_enter Tryz.func11, Tryz.ntmps11
        obtain ⟨Cq0, Cq1, Fq0, Fq1⟩ := box_cells Bq
        go_wp2_with fail
        generalize (w.alloc (.cells #[.slice none 0 0, .bool false] 26)) = w0 at *
        refine (cutd_miss w0 s HN.out).mono ?_
        rintro e w1 ⟨rfl, rfl⟩
        go_wp2_with fail
        clear Cq0 Fq0 Cq1 Fq1
        refine (Parse_form w0 s HZ.out HD.out).mono ?_
        rintro e w2 ⟨_, rfl, ⟨sn, xn, rfl, hn, vn⟩, gw2⟩
        have nn : NatV w2 (.agg #[.slice sn xn.length xn.length]) (0) := ⟨sn, xn, rfl, hn, vn⟩
        replace Bq := heap_kept gw2 Bq
        replace hG := grown_trans hG gw2
        clear gw2
        clear hn vn
        obtain ⟨Cq0, Cq1, Fq0, Fq1⟩ := box_cells Bq
        have gbw2 := (World.grownBy_alloc w2 (.cells #[.slice sn xn.length xn.length] 24) none)
        have Bn := (heap_new w2 (.cells #[.slice sn xn.length xn.length] 24) (w2.heap.size) rfl)
        have hzw2 : Hid (w.heap.size ≤ w2.heap.size) := Lib.hid hG.size
        have hlqw2 : Hid (w.heap.size < w2.heap.size) := Lib.hid (Array.getElem?_eq_some_iff.1 Bq).1
        clear Cq0 Fq0 Cq1 Fq1
        replace Bq := heap_kept gbw2 Bq
        replace nn := nn.kept gbw2
        replace hG := grown_trans hG gbw2
        clear gbw2
        obtain ⟨Cq0, Cq1, Fq0, Fq1⟩ := box_cells Bq
        obtain ⟨Cn0, Fn0⟩ := box_cell Bn
        clear Cq0 Fq0 Cq1 Fq1 Cn0 Fn0
        obtain ⟨k90, k91, k92, k93⟩ := box_cells Bq
        obtain ⟨q90, q91, q92, q93⟩ := box_cells (heap_set2 Bq (.slice none 0 0) (.bool false))
        have hF : Hid (RetIntE w (0) 3 (.returned (.tuple #[.agg #[.slice none 0 0, .bool false], .int .i64 3])) (((w2.alloc (.cells #[.slice sn xn.length xn.length] 24)).setCell ⟨w.heap.size, 0, none⟩ (.slice none 0 0)).setCell ⟨w.heap.size, 1, none⟩ (.bool false))) := ret_intvE hG Bq (by omega) (IntV.zero _)
        clear nn
        obtain ⟨Cn0, Fn0⟩ := box_cell Bn
        go_wp2_with fail
        exact bodyPost_ret (v := .tuple #[.agg #[.slice none 0 0, .bool false], .int .i64 3]) (by simp [results, Tryz.results11, go_sem, q90, q91]) rfl hF.out
      · skip
        have h5 : 4096 < s.size := by omega
        clear h4
        have HD := Lib.hid hd
        have HZ := Lib.hid h5
        have HS := Lib.hid hs
        clear hd h5 hs
        have HN := Lib.hid hn
        clear hn
        have hG : w.grownBy (w.alloc (.cells #[.slice none 0 0, .bool false] 26)) none := (World.grownBy_alloc _ _ _)
        have Bq := (heap_new w (.cells #[.slice none 0 0, .bool false] 26) (w.heap.size) rfl)
        go_enter Tryz.func11, Tryz.ntmps11
        obtain ⟨Cq0, Cq1, Fq0, Fq1⟩ := box_cells Bq
        go_wp2_with fail
        generalize (w.alloc (.cells #[.slice none 0 0, .bool false] 26)) = w0 at *
        refine (cutd_miss w0 s HN.out).mono ?_
        rintro e w1 ⟨rfl, rfl⟩
        go_wp2_with fail
        clear Cq0 Fq0 Cq1 Fq1
        refine (Parse_long w0 s HZ.out).mono ?_
        rintro e w2 ⟨_, rfl, ⟨sn, xn, rfl, hn, vn⟩, gw2⟩
        have nn : NatV w2 (.agg #[.slice sn xn.length xn.length]) (0) := ⟨sn, xn, rfl, hn, vn⟩
        replace Bq := heap_kept gw2 Bq
        replace hG := grown_trans hG gw2
        clear gw2
        clear hn vn
        obtain ⟨Cq0, Cq1, Fq0, Fq1⟩ := box_cells Bq
        have gbw2 := (World.grownBy_alloc w2 (.cells #[.slice sn xn.length xn.length] 24) none)
        have Bn := (heap_new w2 (.cells #[.slice sn xn.length xn.length] 24) (w2.heap.size) rfl)
        have hzw2 : Hid (w.heap.size ≤ w2.heap.size) := Lib.hid hG.size
        have hlqw2 : Hid (w.heap.size < w2.heap.size) := Lib.hid (Array.getElem?_eq_some_iff.1 Bq).1
        clear Cq0 Fq0 Cq1 Fq1
        replace Bq := heap_kept gbw2 Bq
        replace nn := nn.kept gbw2
        replace hG := grown_trans hG gbw2
        clear gbw2
        obtain ⟨Cq0, Cq1, Fq0, Fq1⟩ := box_cells Bq
        obtain ⟨Cn0, Fn0⟩ := box_cell Bn
        go_wp2_with fail
        generalize (w2.alloc (.cells #[.slice sn xn.length xn.length] 24)) = w3 at *
        generalize w2.heap.size = aw2 at *
        replace hzw2 := hzw2.out
        replace hlqw2 := hlqw2.out
        refine (long_any w3 s HS.out (by have := HZ.out; omega)).mono ?_
        rintro e w4 ⟨b, rfl, hb, rfl⟩
        obtain rfl : b = false := by cases b <;> first | rfl | exact absurd (hb.1 rfl) HD.out
        clear hb
        clear Cq0 Fq0 Cq1 Fq1 Cn0 Fn0
        obtain ⟨k90, k91, k92, k93⟩ := box_cells Bq
        obtain ⟨q90, q91, q92, q93⟩ := box_cells (heap_set2 Bq (.slice none 0 0) (.bool false))
        have hF : Hid (RetIntE w (0) 3 (.returned (.tuple #[.agg #[.slice none 0 0, .bool false], .int .i64 3])) ((w3.setCell ⟨w.heap.size, 0, none⟩ (.slice none 0 0)).setCell ⟨w.heap.size, 1, none⟩ (.bool false))) := ret_intvE hG Bq (by omega) (IntV.zero _)
        clear nn
        obtain ⟨Cn0, Fn0⟩ := box_cell Bn
        go_wp2_with fail
        exact bodyPost_ret (v := .tuple #[.agg #[.slice none 0 0, .bool false], .int .i64 3]) (by simp [results, Tryz.results11, go_sem, q90, q91]) rfl hF.out
  · skip
    obtain ⟨t, ht⟩ : ∃ t, s.extract 1 s.size = t := ⟨_, rfl⟩
    have hp : 0 < s.size := by
      rcases Nat.eq_zero_or_pos s.size with h | h
      · have : bts s = [] := List.length_eq_zero_iff.1 (by rw [bts_len]; exact h)
        rw [this] at hn; cases hn
      · exact h
    have hbt : bts t = zdig (bts s) := by rw [← ht, bts_extract, zdig_neg hn, List.drop_one]
    have htz : t.size ≤ 4096 := by rw [← ht, ByteArray.size_extract]; omega
    by_cases hd : DecL (bts t)
    · skip
      obtain ⟨m, hm⟩ : ∃ m, dval (bts t) = m := ⟨_, rfl⟩
      rcases Nat.eq_zero_or_pos m with h6 | h6
      · skip
        subst h6
        obtain ⟨e1, e2⟩ := zc_form hs (fun h => ((zok_iff _).1 h).2 ⟨hn, by rw [← hbt]; exact hm⟩)
        rw [e1, e2]
        clear e1 e2 hbt hs hp
        rw [← ht] at hd htz hm
        clear ht t
        have HD := Lib.hid hd
        have HZ := Lib.hid htz
        have HV := Lib.hid hm
        clear hd htz hm
        have HN := Lib.hid hn
        clear hn
        have hG : w.grownBy (w.alloc (.cells #[.slice none 0 0, .bool false] 26)) none := (World.grownBy_alloc _ _ _)
        have Bq := (heap_new w (.cells #[.slice none 0 0, .bool false] 26) (w.heap.size) rfl)
        go_enter Tryz.func11, Tryz.ntmps11
        obtain ⟨Cq0, Cq1, Fq0, Fq1⟩ := box_cells Bq
        go_wp2_with fail
        generalize (w.alloc (.cells #[.slice none 0 0, .bool false] 26)) = w0 at *
        refine (cutd_hit w0 s HN.out).mono ?_
        rintro e w1 ⟨rfl, rfl⟩
        generalize hst : s.extract 1 s.size = t at *
        clear hst
        go_wp2_with fail
        clear Cq0 Fq0 Cq1 Fq1
        refine (Parse_some w0 t HZ.out HD.out).mono ?_
        rintro e w2 ⟨_, rfl, ⟨sn, xn, rfl, hn, vn⟩, gw2⟩
        rw [HV.out] at vn
        have nn : NatV _ (.agg #[.slice sn xn.length xn.length]) (0) := ⟨sn, xn, rfl, hn, vn⟩
        clear hn vn
        replace Bq := heap_kept gw2 Bq
        replace hG := grown_trans hG gw2
        clear gw2
        obtain ⟨Cq0, Cq1, Fq0, Fq1⟩ := box_cells Bq
        have gbw2 := (World.grownBy_alloc w2 (.cells #[.slice sn xn.length xn.length] 24) none)
        have Bn := (heap_new w2 (.cells #[.slice sn xn.length xn.length] 24) (w2.heap.size) rfl)
        have hzw2 : Hid (w.heap.size ≤ w2.heap.size) := Lib.hid hG.size
        have hlqw2 : Hid (w.heap.size < w2.heap.size) := Lib.hid (Array.getElem?_eq_some_iff.1 Bq).1
        clear Cq0 Fq0 Cq1 Fq1
        replace Bq := heap_kept gbw2 Bq
        replace nn := nn.kept gbw2
        replace hG := grown_trans hG gbw2
        clear gbw2
        obtain ⟨Cq0, Cq1, Fq0, Fq1⟩ := box_cells Bq
        obtain ⟨Cn0, Fn0⟩ := box_cell Bn
        go_wp2_with fail
        generalize (w2.alloc (.cells #[.slice sn xn.length xn.length] 24)) = w3 at *
        generalize w2.heap.size = aw2 at *
        replace hzw2 := hzw2.out
        replace hlqw2 := hlqw2.out
        clear Cq0 Fq0 Cq1 Fq1 Cn0 Fn0
        refine (Bits_any w3 _ 0 216 nn (by omega) (Nat.pow_pos B_pos)).mono ?_
        rintro e w4 ⟨rfl, gw4⟩
        rw [show nb 0 = 0 from rfl]
        replace Bq := heap_kept gw4 Bq
        replace Bn := heap_kept gw4 Bn
        replace nn := nn.kept gw4
        replace hG := grown_trans hG gw4
        clear gw4
        obtain ⟨Cq0, Cq1, Fq0, Fq1⟩ := box_cells Bq
        obtain ⟨Cn0, Fn0⟩ := box_cell Bn
        clear Cq0 Fq0 Cq1 Fq1 Cn0 Fn0
        obtain ⟨k90, k91, k92, k93⟩ := box_cells Bq
        obtain ⟨q90, q91, q92, q93⟩ := box_cells (heap_set2 Bq (.slice none 0 0) (.bool false))
        have hF : Hid (RetIntE w (0) 3 (.returned (.tuple #[.agg #[.slice none 0 0, .bool false], .int .i64 3])) ((w4.setCell ⟨w.heap.size, 0, none⟩ (.slice none 0 0)).setCell ⟨w.heap.size, 1, none⟩ (.bool false))) := ret_intvE hG Bq (by omega) (IntV.zero _)
        clear nn
        obtain ⟨Cn0, Fn0⟩ := box_cell Bn
        go_wp2_with fail
        exact bodyPost_ret (v := .tuple #[.agg #[.slice none 0 0, .bool false], .int .i64 3]) (by simp [results, Tryz.results11, go_sem, q90, q91]) rfl hF.out
      · skip
        have hok : zok (bts s) = true := (zok_iff _).2 ⟨by rw [← hbt]; exact hd, by rw [← hbt, hm]; omega⟩
        obtain ⟨e1, e2⟩ := zc_num hs hok (by rw [← hbt, bts_len]; exact htz)
        rw [e1, e2, show znum (bts s) = -(m : Int) from by unfold znum; rw [if_pos hn, ← hbt, hm]]
        have hM : m < B ^ 216 := by rw [← hm]; exact dval_bd hd (by rw [bts_len]; omega)
        obtain ⟨cb, hcb⟩ : ∃ c, nb m = c := ⟨_, rfl⟩
        have f7 : ((cb : Int) == 0) = false := beq_eq_false_iff_ne.2 (by have := nb_pos h6; omega)
        clear e1 e2 hbt hs hp hok
        rw [← ht] at hd htz hm
        clear ht t
        have HD := Lib.hid hd
        have HZ := Lib.hid htz
        have HV := Lib.hid hm
        have HM := Lib.hid hM
        have HC := Lib.hid hcb
        have HP := Lib.hid h6
        clear hd htz hm hM hcb h6
        have HN := Lib.hid hn
        clear hn
        have hG : w.grownBy (w.alloc (.cells #[.slice none 0 0, .bool false] 26)) none := (World.grownBy_alloc _ _ _)
        have Bq := (heap_new w (.cells #[.slice none 0 0, .bool false] 26) (w.heap.size) rfl)
        go_enter Tryz.func11, Tryz.ntmps11
        obtain ⟨Cq0, Cq1, Fq0, Fq1⟩ := box_cells Bq
        go_wp2_with fail
        generalize (w.alloc (.cells #[.slice none 0 0, .bool false] 26)) = w0 at *
        refine (cutd_hit w0 s HN.out).mono ?_
        rintro e w1 ⟨rfl, rfl⟩
        generalize hst : s.extract 1 s.size = t at *
        clear hst
        go_wp2_with fail
        clear Cq0 Fq0 Cq1 Fq1
        refine (Parse_some w0 t HZ.out HD.out).mono ?_
        rintro e w2 ⟨_, rfl, ⟨sn, xn, rfl, hn, vn⟩, gw2⟩
        rw [HV.out] at vn
        have nn : NatV _ (.agg #[.slice sn xn.length xn.length]) (m) := ⟨sn, xn, rfl, hn, vn⟩
        clear hn vn
        replace Bq := heap_kept gw2 Bq
        replace hG := grown_trans hG gw2
        clear gw2
        obtain ⟨Cq0, Cq1, Fq0, Fq1⟩ := box_cells Bq
        have gbw2 := (World.grownBy_alloc w2 (.cells #[.slice sn xn.length xn.length] 24) none)
        have Bn := (heap_new w2 (.cells #[.slice sn xn.length xn.length] 24) (w2.heap.size) rfl)
        have hzw2 : Hid (w.heap.size ≤ w2.heap.size) := Lib.hid hG.size
        have hlqw2 : Hid (w.heap.size < w2.heap.size) := Lib.hid (Array.getElem?_eq_some_iff.1 Bq).1
        clear Cq0 Fq0 Cq1 Fq1
        replace Bq := heap_kept gbw2 Bq
        replace nn := nn.kept gbw2
        replace hG := grown_trans hG gbw2
        clear gbw2
        obtain ⟨Cq0, Cq1, Fq0, Fq1⟩ := box_cells Bq
        obtain ⟨Cn0, Fn0⟩ := box_cell Bn
        go_wp2_with fail
        generalize (w2.alloc (.cells #[.slice sn xn.length xn.length] 24)) = w3 at *
        generalize w2.heap.size = aw2 at *
        replace hzw2 := hzw2.out
        replace hlqw2 := hlqw2.out
        clear Cq0 Fq0 Cq1 Fq1 Cn0 Fn0
        refine (Bits_any w3 _ m 216 nn (by omega) HM.out).mono ?_
        rintro e w4 ⟨rfl, gw4⟩
        rw [HC.out]
        replace Bq := heap_kept gw4 Bq
        replace Bn := heap_kept gw4 Bn
        replace nn := nn.kept gw4
        replace hG := grown_trans hG gw4
        clear gw4
        obtain ⟨Cq0, Cq1, Fq0, Fq1⟩ := box_cells Bq
        obtain ⟨Cn0, Fn0⟩ := box_cell Bn
        have hi : IntV w4 (.agg #[.slice sn xn.length xn.length, .bool true]) (-(m : Int)) := intv_of_neg nn HP.out
        clear Cq0 Fq0 Cq1 Fq1 Cn0 Fn0
        obtain ⟨k90, k91, k92, k93⟩ := box_cells Bq
        obtain ⟨q90, q91, q92, q93⟩ := box_cells (heap_set2 Bq (.slice sn xn.length xn.length) (.bool true))
        have hF : Hid (RetIntE w (-(m : Int)) 0 (.returned (.tuple #[.agg #[.slice sn xn.length xn.length, .bool true], .int .i64 0])) ((w4.setCell ⟨w.heap.size, 0, none⟩ (.slice sn xn.length xn.length)).setCell ⟨w.heap.size, 1, none⟩ (.bool true))) := ret_intvE hG Bq (by omega) hi
        clear nn hi
        obtain ⟨Cn0, Fn0⟩ := box_cell Bn
        go_wp2_with fail
        exact bodyPost_ret (v := .tuple #[.agg #[.slice sn xn.length xn.length, .bool true], .int .i64 0]) (by simp [results, Tryz.results11, go_sem, q90, q91]) rfl hF.out
    · skip
      obtain ⟨e1, e2⟩ := zc_form hs (fun h => hd (by rw [hbt]; exact ((zok_iff _).1 h).1))
      rw [e1, e2]
      clear e1 e2 hbt hs hp
      rw [← ht] at hd htz
      clear ht t
      have HD := Lib.hid hd
      have HZ := Lib.hid htz
      clear hd htz
      have HN := Lib.hid hn
      clear hn
      have hG : w.grownBy (w.alloc (.cells #[.slice none 0 0, .bool false] 26)) none := (World.grownBy_alloc _ _ _)
      have Bq := (heap_new w (.cells #[.slice none 0 0, .bool false] 26) (w.heap.size) rfl)
      go_enter Tryz.func11, Tryz.ntmps11
      obtain ⟨Cq0, Cq1, Fq0, Fq1⟩ := box_cells Bq
      go_wp2_with fail
      generalize (w.alloc (.cells #[.slice none 0 0, .bool false] 26)) = w0 at *
      refine (cutd_hit w0 s HN.out).mono ?_
      rintro e w1 ⟨rfl, rfl⟩
      generalize hst : s.extract 1 s.size = t at *
      clear hst
      go_wp2_with fail
      clear Cq0 Fq0 Cq1 Fq1
      refine (Parse_form w0 t HZ.out HD.out).mono ?_
      rintro e w2 ⟨_, rfl, ⟨sn, xn, rfl, hn, vn⟩, gw2⟩
      have nn : NatV w2 (.agg #[.slice sn xn.length xn.length]) (0) := ⟨sn, xn, rfl, hn, vn⟩
      replace Bq := heap_kept gw2 Bq
      replace hG := grown_trans hG gw2
      clear gw2
      clear hn vn
      obtain ⟨Cq0, Cq1, Fq0, Fq1⟩ := box_cells Bq
      have gbw2 := (World.grownBy_alloc w2 (.cells #[.slice sn xn.length xn.length] 24) none)
      have Bn := (heap_new w2 (.cells #[.slice sn xn.length xn.length] 24) (w2.heap.size) rfl)
      have hzw2 : Hid (w.heap.size ≤ w2.heap.size) := Lib.hid hG.size
      have hlqw2 : Hid (w.heap.size < w2.heap.size) := Lib.hid (Array.getElem?_eq_some_iff.1 Bq).1
      clear Cq0 Fq0 Cq1 Fq1
      replace Bq := heap_kept gbw2 Bq
      replace nn := nn.kept gbw2
      replace hG := grown_trans hG gbw2
      clear gbw2
      obtain ⟨Cq0, Cq1, Fq0, Fq1⟩ := box_cells Bq
      obtain ⟨Cn0, Fn0⟩ := box_cell Bn
      clear Cq0 Fq0 Cq1 Fq1 Cn0 Fn0
      obtain ⟨k90, k91, k92, k93⟩ := box_cells Bq
      obtain ⟨q90, q91, q92, q93⟩ := box_cells (heap_set2 Bq (.slice none 0 0) (.bool false))
      have hF : Hid (RetIntE w (0) 3 (.returned (.tuple #[.agg #[.slice none 0 0, .bool false], .int .i64 3])) (((w2.alloc (.cells #[.slice sn xn.length xn.length] 24)).setCell ⟨w.heap.size, 0, none⟩ (.slice none 0 0)).setCell ⟨w.heap.size, 1, none⟩ (.bool false))) := ret_intvE hG Bq (by omega) (IntV.zero _)
      clear nn
      obtain ⟨Cn0, Fn0⟩ := box_cell Bn
      go_wp2_with fail
      exact bodyPost_ret (v := .tuple #[.agg #[.slice none 0 0, .bool false], .int .i64 3]) (by simp [results, Tryz.results11, go_sem, q90, q91]) rfl hF.out
end Go.Proofs.YtldkddogadmpbaaGreatDoor
