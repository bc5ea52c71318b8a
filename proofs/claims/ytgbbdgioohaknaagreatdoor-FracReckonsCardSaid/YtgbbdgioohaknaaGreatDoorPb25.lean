/- What the laws lean on, part 25. -/
import Derived.Deep.RegionHeld3
import Derived.Test.YtgbbdgioohaknaaGreatDoorPb12
namespace Go.Proofs.YtgbbdgioohaknaaGreatDoor
open Go.RowKit Mat
set_option maxRecDepth 100000
set_option linter.unusedVariables false
set_option linter.unusedSimpArgs false
def bB_ (w : World) (n : Nat) (code : Int) (e : Ending) (w' : World) : Prop:=∃ v,e = .returned (.tuple #[v,.int .i64 code]) ∧ RefV w' v n ∧ w.grownBy w' none
theorem lV_ {w w' : World} {v : Value} {n g : Nat} {code : Int} {c : Array Value} {t : TypeId} (hg : w.grownBy w' none) (hbox : w'.heap[g]? = some (.cells c t (0,0))) (ht : t ≠ 3) (hl : w.heap.size ≤ g) (h : RefV w' v n) (u : Value) :
    bB_ w n code (.returned (.tuple #[v,.int .i64 code])) (w'.setCell ⟨g,0,none⟩ u):=⟨v,rfl,h.set_other hbox ht 0 u,s_ hg (q_ (h_ _ _) _ _) hl⟩
theorem gi_ {l : List Nat} {n e f m k : Nat} (hl : l.length = n) (hfm : f + m = e) (hek : e + 4 * k = n) : aC_ (l.drop e) + D ^ k * aC_ ((l.drop f).take m) = aC_ (l.drop f):=by
 have h : (l.drop f).take m ++ l.drop e = l.drop f:=by rw [← hfm,← List.drop_drop,List.take_append_drop]
 rw [← congrArg aC_ h,bo_,List.length_drop,hl,show n - e = 4 * k from by omega]
 have : (10 : Nat) ^ (4 * k) = D ^ k:=by rw [Nat.pow_mul]; rfl
 rw [this]; grind
set_option maxHeartbeats 2000000 in
theorem ea_ (w : World) (s : ByteArray) (hs : 4096 < s.size) :
    Calls Tryz.prog 56 #[.string s] w (bB_ w 0 2):=by
 have f1 : decide ((4096 : Int) < (s.size : Int)) = true:=decide_eq_true (by omega)
 go_enter Tryz.func56,Tryz.ntmps56
 go_wp2_with fail
 exact bodyPost_ret (v:=.tuple #[.agg #[.slice none 0 0],.int .i64 2]) (by simp [results,Tryz.results56,go_sem]) rfl ⟨_,rfl,RefV.zero _,by repeat (first | exact wg_ _ _ _ | refine l_ ?_ _ | refine s_ (g:=w.heap.size) ?_ (q_ (h_ _ _) _ _) (by omega))⟩
set_option maxHeartbeats 4000000 in
theorem gn_ (w : World) (s : ByteArray) (hs : s.size ≤ 4096) (hd : ¬ cF_ (bts s)) :
    Calls Tryz.prog 56 #[.string s] w (bB_ w 0 3):=by
 have f1 : decide ((4096 : Int) < (s.size : Int)) = false:=decide_eq_false (by omega)
 have hgw0:=wg_ w (.cells #[.slice none 0 0] 34) none
 have hF : Hid (∀ u,bB_ w 0 3 (.returned (.tuple #[.agg #[.slice none 0 0],.int .i64 3])) ((w.alloc (.cells #[.slice none 0 0] 34)).setCell ⟨w.heap.size,0,none⟩ u)):=fun u=>⟨_,rfl,RefV.zero _,s_ hgw0 (q_ (h_ _ _) _ _) (Nat.le_refl _)⟩
 have hF0 : Hid (bB_ w 0 3 (.returned (.tuple #[.agg #[.slice none 0 0],.int .i64 3])) (w.alloc (.cells #[.slice none 0 0] 34))):=⟨_,rfl,RefV.zero _,hgw0⟩
 obtain ⟨hc0,hf0⟩:=j_ (f_ w (.cells #[.slice none 0 0] 34) w.heap.size rfl)
 rcases Nat.eq_zero_or_pos s.size with h0 | h0
 · have f2 : ((s.size : Int) == 0) = true:=by rw [h0]; rfl
   go_enter Tryz.func56,Tryz.ntmps56
   go_wp2_with fail
   exact bodyPost_ret (v:=.tuple #[.agg #[.slice none 0 0],.int .i64 3]) (by simp [results,Tryz.results56,go_sem]) rfl hF0.out
 · have f2 : ((s.size : Int) == 0) = false:=beq_eq_false_iff_ne.2 (by omega)
   obtain ⟨x,ex⟩ : ∃ x,(s[0]'h0).toNat = x:=⟨_,rfl⟩
   by_cases hb : 1 < s.size ∧ x = 48
   · obtain ⟨hb1,rfl⟩:=hb
     have f3 : decide ((1 : Int) < (s.size : Int)) = true:=decide_eq_true (by omega)
     go_enter Tryz.func56,Tryz.ntmps56
     go_wp2_with fail
     exact bodyPost_ret (v:=.tuple #[.agg #[.slice none 0 0],.int .i64 3]) (by simp [results,Tryz.results56,go_sem]) rfl hF0.out
   · have hdec : Hid (¬ ∀ j (h : j < s.size),j < s.size → 48 ≤ (s[j]'h).toNat ∧ (s[j]'h).toNat ≤ 57):=by
      intro h
      refine hd ⟨fun k hk=>?_,?_⟩
      · have hk' : k < s.size:=by rw [z_] at hk; exact hk
        rw [bd_ s k hk']; exact h k hk' hk'
      · by_cases h1 : s.size = 1
        · have hl : (bts s).length = 1:=by rw [z_]; exact h1
          obtain ⟨y,hy⟩:=List.length_eq_one_iff.1 hl
          by_cases h48 : y = 48
          · left; rw [hy,h48]
          · right; rw [hy]; simpa using h48
        · right
          refine ⟨fun e=>?_,fun e=>?_⟩
          · have:=z_ s; rw [e] at this; simp at this; omega
          · rw [aO_ s h0,ex] at e
            exact hb ⟨by omega,Option.some.inj e⟩
     have key : decide ((1 : Int) < (s.size : Int)) = false ∨ (decide ((1 : Int) < (s.size : Int)) = true ∧ ((x : Int) == 48) = false):=by
      by_cases h1 : 1 < s.size
      · right; exact ⟨decide_eq_true (by omega),beq_eq_false_iff_ne.2 (by omega)⟩
      · left; exact decide_eq_false (by omega)
     clear hb hd
     rcases key with f3 | ⟨f3,f4⟩
     all_goals (
      go_enter Tryz.func56,Tryz.ntmps56
      go_wp2_with fail
      generalize (w.alloc (.cells #[.slice none 0 0] 34)) = w0 at *
      go_loopw [4] (fun i wr=>∃ k : Nat,k ≤ s.size ∧ i = .int .i64 k ∧ w0 = wr ∧ Hid (∀ j (h : j < s.size),j < k → 48 ≤ (s[j]'h).toNat ∧ (s[j]'h).toNat ≤ 57)) (fun i _=>s.size - (intOf i).toNat)
      case atStart=>exact ⟨0,Nat.zero_le _,rfl,rfl,fun j h h0=>absurd h0 (by omega)⟩
      case round =>
       obtain ⟨k,hk,rfl,rfl,hd⟩:=hrel
       by_cases hlt : k < s.size
       · obtain ⟨y,ey⟩ : ∃ y,(s[k]'hlt).toNat = y:=⟨_,rfl⟩
         by_cases hy : 48 ≤ y ∧ y ≤ 57
         · have f5 : decide ((y : Int) < 48) = false:=decide_eq_false (by omega)
           have f6 : decide ((57 : Int) < (y : Int)) = false:=decide_eq_false (by omega)
           go_wp2_with fail
           go_roundw
           case rel =>
            refine ⟨k + 1,by omega,by go_num,by trivial,fun j h hj=>?_⟩
            rcases Nat.lt_or_ge j k with h1 | h1
            · exact hd.out j h h1
            · obtain rfl : j = k:=by omega
              rw [ey]; exact hy
           case measure=>simp [intOf]; omega
         · go_wp2_with fail
           all_goals first | exact bodyPost_ret (v:=.tuple #[.agg #[.slice none 0 0],.int .i64 3]) (by simp [results,Tryz.results56,go_sem,hc0]) rfl (hF.out _) | (exfalso; omega)
       · obtain rfl : k = s.size:=by omega
         exact absurd hd.out hdec.out)
set_option maxHeartbeats 8000000 in
theorem bO_ (w : World) (s : ByteArray) (hs : s.size ≤ 4096) (hd : cF_ (bts s)) :
    Calls Tryz.prog 56 #[.string s] w (bB_ w (aC_ (bts s)) 0):=by
 have f1 : decide ((4096 : Int) < (s.size : Int)) = false:=decide_eq_false (by omega)
 obtain ⟨i1,hi,hz0,hz1,hz2⟩:=aI_
 have hgw0:=wg_ w (.cells #[.slice none 0 0] 34) none
 have hbox0:=f_ w (.cells #[.slice none 0 0] 34) w.heap.size rfl
 have hs0 : (w.alloc (.cells #[.slice none 0 0] 34)).heap.size = w.heap.size + 1:=by simp
 have HB:=H_ (z_ s)
 have h0 : 0 < s.size:=by
  rcases Nat.eq_zero_or_pos s.size with h | h
  · have h2:=z_ s
    rw [h] at h2
    have h3:=List.length_eq_zero_iff.1 h2
    rcases hd.2 with h4 | h4
    · rw [h3] at h4; simp at h4
    · exact absurd h3 h4.1
  · exact h
 have f2 : ((s.size : Int) == 0) = false:=beq_eq_false_iff_ne.2 (by omega)
 obtain ⟨x0,ex⟩ : ∃ x0,(s[0]'h0).toNat = x0:=⟨_,rfl⟩
 have HDG : Hid (∀ j (h : j < s.size),48 ≤ (s[j]'h).toNat ∧ (s[j]'h).toNat ≤ 57):=by
  intro j h
  have:=hd.1 j (by rw [z_]; exact h)
  rw [bd_ s j h] at this; exact this
 have key : decide ((1 : Int) < (s.size : Int)) = false ∨ (decide ((1 : Int) < (s.size : Int)) = true ∧ ((x0 : Int) == 48) = false):=by
  by_cases h1 : 1 < s.size
  · right
    refine ⟨decide_eq_true (by omega),beq_eq_false_iff_ne.2 ?_⟩
    rcases hd.2 with h4 | h4
    · have:=z_ s; rw [h4] at this; simp at this; omega
    · intro e
      apply h4.2
      rw [aO_ s h0,ex]
      congr 1; omega
  · left; exact decide_eq_false (by omega)
 clear hd
 rcases key with f3 | ⟨f3,f4⟩
 all_goals (
  go_enter Tryz.func56,Tryz.ntmps56
  go_wp2_with fail
  generalize (w.alloc (.cells #[.slice none 0 0] 34)) = w0 at *
  go_loopw [4] (fun i wr=>∃ k : Nat,k ≤ s.size ∧ i = .int .i64 k ∧ w0 = wr) (fun i _=>s.size - (intOf i).toNat)
  case atStart=>exact ⟨0,Nat.zero_le _,rfl,rfl⟩
  case round =>
   obtain ⟨k,hk,rfl,rfl⟩:=hrel
   by_cases hlt : k < s.size
   · obtain ⟨y,ey⟩ : ∃ y,(s[k]'hlt).toNat = y:=⟨_,rfl⟩
     have hy : 48 ≤ y ∧ y ≤ 57:=ey ▸ HDG.out k hlt
     have f5 : decide ((y : Int) < 48) = false:=decide_eq_false (by omega)
     have f6 : decide ((57 : Int) < (y : Int)) = false:=decide_eq_false (by omega)
     go_wp2_with fail
     go_roundw
     case rel=>exact ⟨k + 1,by omega,by go_num,by trivial⟩
     case measure=>simp [intOf]; omega
   · obtain rfl : k = s.size:=by omega
     clear f3 f2 f1
     go_wp2_with fail
     go_loopg [5,6] s.size (fun gh a b wr=>∃ (k : Nat) (E : Int) (sl : Option Addr) (cl : Nat) (ds : List Nat),a = .slice sl k cl ∧ b = .int .i64 E ∧ Hid (E = (s.size : Int) - 4 * (k : Int)) ∧ -4 < E ∧ E ≤ 4096 ∧ E.toNat ≤ gh ∧ k ≤ 1024 ∧ wr.ownsRow (w.heap.size + 1) 3 1 (.slice sl k cl) k (ds.map iv) ∧ Hid (ds.length = k) ∧ Dig D ds ∧ Hid (val D ds = aC_ ((bts s).drop E.toNat)) ∧ Below (w.heap.size + 1) w0 wr)
     case atStart=>exact ⟨0,s.size,none,0,[],rfl,rfl,by show _ = _; omega,by omega,by omega,by omega,by omega,⟨rfl,Or.inl ⟨rfl,rfl⟩⟩,rfl,Dig.nil _,by show _ = _; rw [List.drop_of_length_le (by rw [HB.out]; simp)]; rfl,Below.refl _ _⟩
     case round =>
      obtain ⟨k,E,sl,cl,ds,rfl,rfl,hE,hE0,hE1,hgh,hk,hown,hdl,hdd,hv,hbl⟩:=hrel
      by_cases hpos : 0 < E
      · obtain ⟨e,rfl⟩ : ∃ e : Nat,E = (e : Int):=⟨E.toNat,by omega⟩
        have f7 : decide ((0 : Int) < (e : Int)) = true:=decide_eq_true (by omega)
        have hek : Hid (e + 4 * k = s.size):=by show _ = _; have:=hE.out; omega
        have hk2 : k < 1024:=by have:=hek.out; omega
        obtain ⟨f,hf⟩ : ∃ f,e - 4 = f:=⟨_,rfl⟩
        obtain ⟨m,hm⟩ : ∃ m,e - f = m:=⟨_,rfl⟩
        have hfm : f + m = e:=by omega
        have hm4 : m ≤ 4:=by omega
        have hes : e ≤ s.size:=by have:=hek.out; omega
        have key2 : (decide ((e : Int) - 4 < 0) = true ∧ f = 0) ∨ (decide ((e : Int) - 4 < 0) = false ∧ (e : Int) - 4 = (f : Int)):=by
         by_cases h4 : e < 4
         · left; exact ⟨decide_eq_true (by omega),by omega⟩
         · right; exact ⟨decide_eq_false (by omega),by omega⟩
        have hsr : w.heap.size + 1 ≤ wr.heap.size:=by have:=hbl.size; omega
        have hv2 : Hid (val D ds + D ^ k * aC_ (((bts s).drop f).take m) = aC_ ((bts s).drop f)):=by
         show _ = _
         rw [hv.out]; exact gi_ HB.out hfm hek.out
        have hEn : Hid ((e : Int) - 4 = (s.size : Int) - 4 * ((k + 1 : Nat) : Int)):=by show _ = _; have:=hek.out; omega
        have hef : ((e : Int) - 4).toNat = f:=by omega
        clear hE hm hv hf
        rcases key2 with ⟨g1,hf0⟩ | ⟨g1,g2⟩
        all_goals (
         go_wp2_with fail
         go_loopw [8,9] (fun v i wi=>∃ (j x : Nat),j ≤ m ∧ i = .int .i64 ((f : Int) + (j : Int)) ∧ v = .int .i64 x ∧ Hid (x < 10 ^ j) ∧ x < 10000 ∧ Hid (x = aC_ (((bts s).drop f).take j)) ∧ wr = wi) (fun _ i _=>e - (intOf i).toNat)
         case atStart=>exact ⟨0,0,Nat.zero_le _,by go_num,rfl,by show _ < _; simp,by omega,rfl,rfl⟩
         case round =>
          obtain ⟨j,x,hj,rfl,rfl,hx,hx4,hxv,rfl⟩:=hrel
          by_cases hlt2 : j < m
          · obtain ⟨p,hp⟩ : ∃ p,f + j = p:=⟨_,rfl⟩
            have hps : p < s.size:=by omega
            obtain ⟨d,ed⟩ : ∃ d,(s[p]'hps).toNat = d:=⟨_,rfl⟩
            have hds : 48 ≤ d ∧ d ≤ 57:=ed ▸ HDG.out p hps
            obtain ⟨q,hq⟩ : ∃ q,d - 48 = q:=⟨_,rfl⟩
            have g3 : IntKind.u8.wrap ((d : Int) - 48) = (q : Int):=by rw [IntKind.wrap_u8]; omega
            have g4 : (f : Int) + (j : Int) = (p : Int):=by omega
            have g5 : decide ((p : Int) < (e : Int)) = true:=decide_eq_true (by omega)
            have hx9 : x < 1000:=by
             have h1 : 10 ^ j ≤ 10 ^ 3:=Nat.pow_le_pow_right (by omega) (by omega)
             have:=hx.out; omega
            have hxn : Hid (10 * x + q < 10 ^ (j + 1)):=by show _ < _; have:=hx.out; rw [Nat.pow_succ]; omega
            have hxvn : Hid (10 * x + q = aC_ (((bts s).drop f).take (j + 1))):=by
             show _ = _
             rw [fU_ ((bts s).drop f) j d (by rw [List.length_drop,HB.out]; omega) (by rw [List.getElem_drop]; simp only [hp]; rw [bd_ s p hps]; exact ed),← hxv.out,hq]; omega
            have hq9 : q ≤ 9:=by omega
            have g6 : (p : Int) + 1 = (f : Int) + ((j + 1 : Nat) : Int):=by omega
            rw [g4]
            clear hq hp
            go_wp2_with fail
            go_roundw
            case rel=>exact ⟨j + 1,10 * x + q,by omega,by first | (rw [g6]; done) | (rw [← g6]; go_num) | go_num,by go_num,hxn,by omega,hxvn,by trivial⟩
            case measure=>simp [intOf]; omega
          · obtain rfl : j = m:=by omega
            have g4 : (f : Int) + (j : Int) = (e : Int):=by omega
            rw [g4]
            have hownA:=aU_ hown (.cells #[iv x] 3)
            have hnews : ∀ j u,([iv x] : List Value)[j]? = some u → (wr.alloc (.cells #[iv x] 3)).cell? ((⟨wr.heap.size,0,none⟩ : Addr).add j) = some u:=World.news_of_block (heap_alloc_new wr _)
            have hsi : w.heap.size + 1 ≤ (wr.alloc (.cells #[iv x] 3)).heap.size:=by simp; omega
            have hblA : Below (w.heap.size + 1) w0 (wr.alloc (.cells #[iv x] 3)):=hbl.trans (L_ (wg_ _ _ _) hsr)
            have hvn : Hid (val D (ds ++ [x]) = aC_ ((bts s).drop ((e : Int) - 4).toNat)):=by
             show _ = _
             rw [G_,hdl.out,hxv.out,hv2.out,hef]
            clear hown hbl hv2 hxv
            go_wp2_with (at_builtin; refine wpList_append_lies _ rfl _ _ _ rfl (w.heap.size + 1) 3 i1 (.int .i64 0) 1 8 Tryz.underlying32 hi hz0 hz1 hz2 rfl (by omega) (.slice sl k cl) k (ds.map iv) rfl hownA ⟨wr.heap.size,0,none⟩ 1 1 [iv x] rfl rfl hnews cw_ (by omega) (by unfold maxLen; omega) (by omega) hsi (wr.heap.size + 1) (by simp) ?_; intro g2 cap2 w5 hown5 hgrow hat9 hlt9)
            have hbl5:=hblA.trans (aG_ hownA hgrow hsi)
            have hmap : ds.map iv ++ [iv x] = (ds ++ [x]).map iv:=by rw [List.map_append]; rfl
            rw [hmap] at hown5
            have hl5 : Hid ((ds ++ [x]).length = k + 1):=by show _ = _; rw [List.length_append,hdl.out]; rfl
            clear hgrow hownA hnews hblA hmap
            go_roundg (((e : Int) - 4).toNat)
            case measure=>omega
            case rel=>exact ⟨k + 1,(e : Int) - 4,_,cap2,ds ++ [x],rfl,by go_num,hEn,by omega,by omega,Nat.le_refl _,by omega,hown5,hl5,hdd.snoc hx4,hvn,hbl5⟩)
      · have f7 : decide ((0 : Int) < E) = false:=decide_eq_false (by omega)
        obtain ⟨hrd,hcap,_⟩:=be_ hown
        have hgw:=M_ hgw0 hbl (by omega)
        have hbox:=am_ hbl hbox0 (by omega)
        have HV : Hid (val D ds = aC_ (bts s)):=by
         show _ = _
         rw [hv.out,show E.toNat = 0 from by omega]; rfl
        clear hown hbl hv hE
        go_wp2_with fail
        refine (dI_ wr sl k cl ds hdl.out hrd hcap (by omega) hdd).mono ?_
        rintro e w4 ⟨v,rfl,hv4,hg4⟩
        have hbox4:=a_ hg4 hbox
        obtain ⟨hc4,hf4⟩:=j_ hbox4
        rw [HV.out] at hv4
        obtain ⟨s4,k4,c4,zs4,rfl,hz4⟩:=hv4
        have hF:=H_ (lV_ (code:=0) (d_ hgw hg4) hbox4 (by decide) (Nat.le_refl _) ⟨s4,k4,c4,zs4,rfl,hz4⟩ (.slice s4 k4 c4))
        clear hz4 hbox4 hbox hg4 hgw hbox0 hgw0
        go_wp2_with fail
        exact bodyPost_ret (v:=.tuple #[.agg #[.slice s4 k4 c4],.int .i64 0]) (by simp [results,Tryz.results56,go_sem,hc4]) rfl hF.out)
def R_ (w : World) (z : Int) (code : Int) (e : Ending) (w' : World) : Prop:=∃ v,e = .returned (.tuple #[v,.int .i64 code]) ∧ RIntV w' v z ∧ w.grownBy w' none
theorem bF_ {w w' : World} {z code : Int} {g : Nat} {a0 a1 v0 v1 : Value} (hg : w.grownBy w' none) (hbox : w'.heap[g]? = some (.cells #[a0,a1] 36 (0,0))) (hl : w.heap.size ≤ g) (h : RIntV w' (.agg #[v0,v1]) z) :
    R_ w z code (.returned (.tuple #[.agg #[v0,v1],.int .i64 code])) ((w'.setCell ⟨g,0,none⟩ v0).setCell ⟨g,1,none⟩ v1) :=
 ⟨_,rfl,(h.set_other hbox (by decide) 0 v0).set_other (cE_ hbox v0) (by decide) 1 v1,bn_ hg hl v0 v1⟩
theorem iW_ {s : ByteArray} (h : ¬ cF_ (bts s)) : s.size = 0 ∨ (∃ hp : 0 < s.size,(s[0]'hp).toNat = 48 ∧ 1 < s.size) ∨ (0 < s.size ∧ (∀ hp : 0 < s.size,1 < s.size → (s[0]'hp).toNat ≠ 48) ∧ ¬ ∀ j (h : j < s.size),j < s.size → 48 ≤ (s[j]'h).toNat ∧ (s[j]'h).toNat ≤ 57):=by
 rcases Nat.eq_zero_or_pos s.size with h0 | h0
 · exact Or.inl h0
 · right
   by_cases h1 : 1 < s.size ∧ (s[0]'h0).toNat = 48
   · left; exact ⟨h0,h1.2,h1.1⟩
   · right
     refine ⟨h0,fun hp h2 h3=>h1 ⟨h2,h3⟩,fun hd=>h ?_⟩
     refine ⟨fun k hk=>?_,?_⟩
     · have hk' : k < s.size:=by rw [z_] at hk; exact hk
       rw [bd_ s k hk']; exact hd k hk' hk'
     · by_cases h2 : s.size = 1
       · have hl : (bts s).length = 1:=by rw [z_]; exact h2
         obtain ⟨y,hy⟩:=List.length_eq_one_iff.1 hl
         by_cases h48 : y = 48
         · left; rw [hy,h48]
         · right; rw [hy]; simpa using h48
       · right
         refine ⟨fun e=>?_,fun e=>?_⟩
         · have:=z_ s; rw [e] at this; simp at this; omega
         · rw [aO_ s h0] at e
           exact h1 ⟨by omega,Option.some.inj e⟩
theorem ja_ {s : ByteArray} (h : cF_ (bts s)) : 0 < s.size ∧ (∀ hp : 0 < s.size,1 < s.size → (s[0]'hp).toNat ≠ 48) ∧ (∀ j (h : j < s.size),j < s.size → 48 ≤ (s[j]'h).toNat ∧ (s[j]'h).toNat ≤ 57):=by
 have h0 : 0 < s.size:=by
  rcases Nat.eq_zero_or_pos s.size with h1 | h1
  · have h3 : bts s = []:=List.length_eq_zero_iff.1 (by rw [z_]; exact h1)
    rcases h.2 with h4 | h4
    · rw [h3] at h4; simp at h4
    · exact absurd h3 h4.1
  · exact h1
 refine ⟨h0,fun hp h1 e=>?_,fun j hj _=>?_⟩
 · rcases h.2 with h4 | h4
   · have:=z_ s; rw [h4] at this; simp at this; omega
   · exact h4.2 (by rw [aO_ s hp,e])
 · have:=h.1 j (by rw [z_]; exact hj)
   rw [bd_ s j hj] at this; exact this
theorem iZ_ {s : ByteArray} (h0 : 0 < s.size) (h : cF_ (bts s)) (hm : aC_ (bts s) ≠ 0) : (s[0]'h0).toNat ≠ 48:=by
 intro e
 rcases h.2 with h4 | h4
 · rw [h4] at hm; exact hm (by decide +kernel)
 · exact h4.2 (by rw [aO_ s h0,e])
theorem cL_ (m : Nat) : m = 0 ∨ (m : Int).sign = 1:=by
 rcases bl_ (m : Int) with ⟨h,e⟩ | ⟨h,e⟩ | ⟨h,e⟩
 · omega
 · left; omega
 · right; exact e
set_option maxHeartbeats 16000000 in
theorem bN_ (w : World) (s : ByteArray) :
    Calls Tryz.prog 54 #[.string s] w (R_ w (aL_ s) (de_ s)):=by
 by_cases h0 : 4097 < s.size
 · skip
   obtain ⟨e1,e2⟩:=hY_ h0
   rw [e1,e2]
   clear e1 e2
   have f1 : decide ((4097 : Int) < (s.size : Int)) = true:=decide_eq_true (by omega)
   obtain ⟨hG,Bq⟩:=en1_ w (.cells #[.int .i64 0,.slice none 0 0] 36)
   go_enter Tryz.func54,Tryz.ntmps54
   obtain ⟨Cq0,Cq1,Fq0,Fq1⟩:=c_ Bq
   have hG' : w.grownBy (w.alloc (.cells #[.int .i64 0,.slice none 0 0] 36)) none:=(wg_ _ _ _)
   have hF : Hid (R_ w (0) 2 (.returned (.tuple #[.agg #[.int .i64 0,.slice none 0 0],.int .i64 2])) (w.alloc (.cells #[.int .i64 0,.slice none 0 0] 36))):=⟨_,rfl,(RIntV.zero _),hG'⟩
   clear hG'
   go_wp2_with fail
   exact bodyPost_ret (v:=.tuple #[.agg #[.int .i64 0,.slice none 0 0],.int .i64 2]) (by simp [results,Tryz.results54,go_sem]) rfl hF.out
 have f1 : decide ((4097 : Int) < (s.size : Int)) = false:=decide_eq_false (by omega)
 have hs : s.size ≤ 4097:=by omega
 clear h0
 cases hn : eE_ (bts s)
 · skip
   have HB4:=H_ hs
   have hz:=eU_ hn
   have hsig : (decide (0 < s.size) = false ∧ decide ((0 : Int) < (s.size : Int)) = false) ∨ (decide (0 < s.size) = true ∧ decide ((0 : Int) < (s.size : Int)) = true ∧ ∃ hp : 0 < s.size,∃ x : Nat,(s[0]'hp).toNat = x ∧ ((x : Int) == 45) = false):=by
    rcases Nat.eq_zero_or_pos s.size with h | h
    · left; exact ⟨decide_eq_false (by omega),decide_eq_false (by omega)⟩
    · right; refine ⟨decide_eq_true h,decide_eq_true (by omega),h,_,rfl,?_⟩
      refine beq_eq_false_iff_ne.2 (fun e=>?_)
      have : eE_ (bts s) = true:=by unfold eE_; rw [aO_ s h]; have e2 : (s[0]'h).toNat = 45:=by omega
                                    rw [e2]; rfl
      rw [hn] at this; cases this
   by_cases hd : cF_ (bts s)
   · skip
     have hok : zok (bts s) = true:=(aS_ _).2 ⟨by rw [hz]; exact hd,by rw [hn]; simp⟩
     obtain ⟨hp9,hx9,hw9⟩:=ja_ hd
     obtain ⟨f2,f3,f4⟩ : decide (0 < s.size) = true ∧ decide ((0 : Int) < (s.size : Int)) = true ∧ (((s[0]'hp9).toNat : Int) == 45) = false:=by
      rcases hsig with ⟨h,_⟩ | ⟨h1,h2,hp,x,ex,h3⟩
      · exact absurd hp9 (of_decide_eq_false h)
      · exact ⟨h1,h2,by rw [ex]; exact h3⟩
     have HX:=H_ hx9
     have HW:=H_ hw9
     clear hw9 hx9 hsig
     by_cases h4 : s.size ≤ 4096
     · skip
       obtain ⟨e1,e2⟩:=fE_ hs hok (by rw [hz,z_]; exact h4)
       obtain ⟨m,hm⟩ : ∃ m,aC_ (bts s) = m:=⟨_,rfl⟩
       rw [e1,e2,show hm_ (bts s) = (m : Int) from by unfold hm_; rw [hn,hz,hm]; rfl]
       clear e1 e2 hok hz hs hn
       have HD:=H_ hd
       have HZ:=H_ h4
       have HV:=H_ hm
       clear hd h4 hm
       obtain ⟨x0,ex0⟩ : ∃ x,(s[0]'hp9).toNat = x:=⟨_,rfl⟩
       have HX2 : Hid (1 < s.size → x0 ≠ 48):=fun h=>by rw [← ex0]; exact HX.out hp9 h
       have EX0:=H_ ex0
       clear ex0
       clear HX
       by_cases hx0 : x0 = 48
       · skip
         subst hx0
         have h1 : s.size ≤ 1:=by have:=HX2.out; omega
         clear HX2
         have g0 : ((s.size : Int) == 0) = false:=beq_eq_false_iff_ne.2 (by omega)
         have g1 : decide ((1 : Int) < (s.size : Int)) = false:=decide_eq_false (by omega)
         have ex : (s[0]'hp9).toNat = 48:=EX0.out
         clear h1
         obtain ⟨hG,Bq⟩:=en1_ w (.cells #[.int .i64 0,.slice none 0 0] 36)
         go_enter Tryz.func54,Tryz.ntmps54
         obtain ⟨Cq0,Cq1,Fq0,Fq1⟩:=c_ Bq
         go_upto_region 8 with fail
         go_wp2_with fail
         generalize (w.alloc (.cells #[.int .i64 0,.slice none 0 0] 36)) = w0 at *
         have hb4 : s.size ≤ 4097:=HB4.out
         go_loopw [6] (fun i wr=>∃ k : Nat,k ≤ s.size ∧ i = .int .i64 k ∧ w0 = wr) (fun i _=>s.size - (intOf i).toNat)
         case atStart=>exact ⟨0,Nat.zero_le _,rfl,rfl⟩
         case round =>
          obtain ⟨k,hk,rfl,rfl⟩:=hrel
          by_cases hlt : k < s.size
          · skip
            obtain ⟨y,ey⟩ : ∃ y,(s[k]'hlt).toNat = y:=⟨_,rfl⟩
            have hy : 48 ≤ y ∧ y ≤ 57:=ey ▸ HW.out k hlt hlt
            have f5 : decide ((y : Int) < 48) = false:=decide_eq_false (by omega)
            have f6 : decide ((57 : Int) < (y : Int)) = false:=decide_eq_false (by omega)
            go_wp2_with fail
            go_roundw
            case rel=>exact ⟨k + 1,by omega,by go_num,by trivial⟩
            case measure=>simp [intOf]; omega
          · skip
            obtain rfl : k = s.size:=by omega
            go_wp2_with fail
            clear Cq0 Fq0 Cq1 Fq1
            refine (bO_ w0 s HZ.out HD.out).mono ?_
            rintro e w1 ⟨_,rfl,⟨sn,ln,cn,yn,rfl,hn⟩,gw1⟩
            have mn : RefV w1 (.agg #[.slice sn ln cn]) (aC_ (bts s)):=⟨sn,ln,cn,yn,rfl,hn⟩
            replace Bq:=a_ gw1 Bq
            replace hG:=d_ hG gw1
            clear gw1
            clear hn
            obtain ⟨Cq0,Cq1,Fq0,Fq1⟩:=c_ Bq
            have gbw1:=(wg_ w1 (.cells #[.slice sn ln cn] 34) none)
            have Bn:=(f_ w1 (.cells #[.slice sn ln cn] 34) (w1.heap.size) rfl)
            have hzw1 : Hid (w.heap.size ≤ w1.heap.size):=H_ hG.size
            have hlqw1 : Hid (w.heap.size < w1.heap.size):=H_ (Array.getElem?_eq_some_iff.1 Bq).1
            clear Cq0 Fq0 Cq1 Fq1
            replace Bq:=a_ gbw1 Bq
            replace mn:=mn.kept gbw1
            replace hG:=d_ hG gbw1
            clear gbw1
            obtain ⟨Cq0,Cq1,Fq0,Fq1⟩:=c_ Bq
            obtain ⟨Cn0,Fn0⟩:=j_ Bn
            go_wp2_with fail
            generalize (w1.alloc (.cells #[.slice sn ln cn] 34)) = w2 at *
            generalize w1.heap.size = aw1 at *
            replace hzw1:=hzw1.out
            replace hlqw1:=hlqw1.out
            clear Cq0 Fq0 Cq1 Fq1 Cn0 Fn0
            refine (K_ w2 _ 1 (aC_ (bts s)) (m : Int) mn (by rw [HV.out]; omega) (by rw [HV.out]; exact cL_ m)).mono ?_
            rintro e w3 ⟨_,rfl,⟨gd,sd,ld,cd,rfl,hd,md⟩,gw3⟩
            have rd : RIntV w3 (.agg #[.int .i64 gd,.slice sd ld cd]) ((m : Int)):=⟨gd,sd,ld,cd,rfl,hd,md⟩
            replace Bq:=a_ gw3 Bq
            replace Bn:=a_ gw3 Bn
            replace hG:=d_ hG gw3
            clear gw3
            clear md
            obtain ⟨Cq0,Cq1,Fq0,Fq1⟩:=c_ Bq
            obtain ⟨Cn0,Fn0⟩:=j_ Bn
            clear Cq0 Fq0 Cq1 Fq1 Cn0 Fn0
            obtain ⟨k90,k91,k92,k93⟩:=c_ Bq
            obtain ⟨q90,q91,q92,q93⟩:=c_ (m_ Bq (.int .i64 gd) (.slice sd ld cd))
            have hF : Hid (R_ w ((m : Int)) 0 (.returned (.tuple #[.agg #[.int .i64 gd,.slice sd ld cd],.int .i64 0])) ((w3.setCell ⟨w.heap.size,0,none⟩ (.int .i64 gd)).setCell ⟨w.heap.size,1,none⟩ (.slice sd ld cd))):=bF_ hG Bq (by omega) rd
            clear mn rd
            obtain ⟨Cn0,Fn0⟩:=j_ Bn
            go_wp2_with fail
            exact bodyPost_ret (v:=.tuple #[.agg #[.int .i64 gd,.slice sd ld cd],.int .i64 0]) (by simp [results,Tryz.results54,go_sem,q90,q91]) rfl hF.out
       · skip
         have g2 : ((x0 : Int) == 48) = false:=beq_eq_false_iff_ne.2 (by omega)
         clear hx0 HX2
         have ex : (s[0]'hp9).toNat = x0:=EX0.out
         have g0 : ((s.size : Int) == 0) = false:=beq_eq_false_iff_ne.2 (by omega)
         obtain ⟨hG,Bq⟩:=en1_ w (.cells #[.int .i64 0,.slice none 0 0] 36)
         go_enter Tryz.func54,Tryz.ntmps54
         obtain ⟨Cq0,Cq1,Fq0,Fq1⟩:=c_ Bq
         go_upto_region 8 with fail
         go_wp2_with fail
         generalize (w.alloc (.cells #[.int .i64 0,.slice none 0 0] 36)) = w0 at *
         have hb4 : s.size ≤ 4097:=HB4.out
         go_loopw [6] (fun i wr=>∃ k : Nat,k ≤ s.size ∧ i = .int .i64 k ∧ w0 = wr) (fun i _=>s.size - (intOf i).toNat)
         case atStart=>exact ⟨0,Nat.zero_le _,rfl,rfl⟩
         case round =>
          obtain ⟨k,hk,rfl,rfl⟩:=hrel
          by_cases hlt : k < s.size
          · skip
            obtain ⟨y,ey⟩ : ∃ y,(s[k]'hlt).toNat = y:=⟨_,rfl⟩
            have hy : 48 ≤ y ∧ y ≤ 57:=ey ▸ HW.out k hlt hlt
            have f5 : decide ((y : Int) < 48) = false:=decide_eq_false (by omega)
            have f6 : decide ((57 : Int) < (y : Int)) = false:=decide_eq_false (by omega)
            go_wp2_with fail
            go_roundw
            case rel=>exact ⟨k + 1,by omega,by go_num,by trivial⟩
            case measure=>simp [intOf]; omega
          · skip
            obtain rfl : k = s.size:=by omega
            go_wp2_with fail
            clear Cq0 Fq0 Cq1 Fq1
            refine (bO_ w0 s HZ.out HD.out).mono ?_
            rintro e w1 ⟨_,rfl,⟨sn,ln,cn,yn,rfl,hn⟩,gw1⟩
            have mn : RefV w1 (.agg #[.slice sn ln cn]) (aC_ (bts s)):=⟨sn,ln,cn,yn,rfl,hn⟩
            replace Bq:=a_ gw1 Bq
            replace hG:=d_ hG gw1
            clear gw1
            clear hn
            obtain ⟨Cq0,Cq1,Fq0,Fq1⟩:=c_ Bq
            have gbw1:=(wg_ w1 (.cells #[.slice sn ln cn] 34) none)
            have Bn:=(f_ w1 (.cells #[.slice sn ln cn] 34) (w1.heap.size) rfl)
            have hzw1 : Hid (w.heap.size ≤ w1.heap.size):=H_ hG.size
            have hlqw1 : Hid (w.heap.size < w1.heap.size):=H_ (Array.getElem?_eq_some_iff.1 Bq).1
            clear Cq0 Fq0 Cq1 Fq1
            replace Bq:=a_ gbw1 Bq
            replace mn:=mn.kept gbw1
            replace hG:=d_ hG gbw1
            clear gbw1
            obtain ⟨Cq0,Cq1,Fq0,Fq1⟩:=c_ Bq
            obtain ⟨Cn0,Fn0⟩:=j_ Bn
            go_wp2_with fail
            generalize (w1.alloc (.cells #[.slice sn ln cn] 34)) = w2 at *
            generalize w1.heap.size = aw1 at *
            replace hzw1:=hzw1.out
            replace hlqw1:=hlqw1.out
            clear Cq0 Fq0 Cq1 Fq1 Cn0 Fn0
            refine (K_ w2 _ 1 (aC_ (bts s)) (m : Int) mn (by rw [HV.out]; omega) (by rw [HV.out]; exact cL_ m)).mono ?_
            rintro e w3 ⟨_,rfl,⟨gd,sd,ld,cd,rfl,hd,md⟩,gw3⟩
            have rd : RIntV w3 (.agg #[.int .i64 gd,.slice sd ld cd]) ((m : Int)):=⟨gd,sd,ld,cd,rfl,hd,md⟩
            replace Bq:=a_ gw3 Bq
            replace Bn:=a_ gw3 Bn
            replace hG:=d_ hG gw3
            clear gw3
            clear md
            obtain ⟨Cq0,Cq1,Fq0,Fq1⟩:=c_ Bq
            obtain ⟨Cn0,Fn0⟩:=j_ Bn
            clear Cq0 Fq0 Cq1 Fq1 Cn0 Fn0
            obtain ⟨k90,k91,k92,k93⟩:=c_ Bq
            obtain ⟨q90,q91,q92,q93⟩:=c_ (m_ Bq (.int .i64 gd) (.slice sd ld cd))
            have hF : Hid (R_ w ((m : Int)) 0 (.returned (.tuple #[.agg #[.int .i64 gd,.slice sd ld cd],.int .i64 0])) ((w3.setCell ⟨w.heap.size,0,none⟩ (.int .i64 gd)).setCell ⟨w.heap.size,1,none⟩ (.slice sd ld cd))):=bF_ hG Bq (by omega) rd
            clear mn rd
            obtain ⟨Cn0,Fn0⟩:=j_ Bn
            go_wp2_with fail
            exact bodyPost_ret (v:=.tuple #[.agg #[.int .i64 gd,.slice sd ld cd],.int .i64 0]) (by simp [results,Tryz.results54,go_sem,q90,q91]) rfl hF.out
     · skip
       have h5 : 4096 < s.size:=by omega
       obtain ⟨e1,e2⟩:=hX_ hs hok (by rw [hz,z_]; exact h5)
       rw [e1,e2]
       clear e1 e2 hok hz h4 hn hs
       have HD:=H_ hd
       have HZ:=H_ h5
       clear hd h5
       obtain ⟨x0,ex0⟩ : ∃ x,(s[0]'hp9).toNat = x:=⟨_,rfl⟩
       have HX2 : Hid (1 < s.size → x0 ≠ 48):=fun h=>by rw [← ex0]; exact HX.out hp9 h
       have EX0:=H_ ex0
       clear ex0
       clear HX
       by_cases hx0 : x0 = 48
       · skip
         subst hx0
         have h1 : s.size ≤ 1:=by have:=HX2.out; omega
         clear HX2
         have g0 : ((s.size : Int) == 0) = false:=beq_eq_false_iff_ne.2 (by omega)
         have g1 : decide ((1 : Int) < (s.size : Int)) = false:=decide_eq_false (by omega)
         have ex : (s[0]'hp9).toNat = 48:=EX0.out
         clear h1
         obtain ⟨hG,Bq⟩:=en1_ w (.cells #[.int .i64 0,.slice none 0 0] 36)
         go_enter Tryz.func54,Tryz.ntmps54
         obtain ⟨Cq0,Cq1,Fq0,Fq1⟩:=c_ Bq
         go_upto_region 8 with fail
         go_wp2_with fail
         generalize (w.alloc (.cells #[.int .i64 0,.slice none 0 0] 36)) = w0 at *
         have hb4 : s.size ≤ 4097:=HB4.out
         go_loopw [6] (fun i wr=>∃ k : Nat,k ≤ s.size ∧ i = .int .i64 k ∧ w0 = wr) (fun i _=>s.size - (intOf i).toNat)
         case atStart=>exact ⟨0,Nat.zero_le _,rfl,rfl⟩
         case round =>
          obtain ⟨k,hk,rfl,rfl⟩:=hrel
          by_cases hlt : k < s.size
          · skip
            obtain ⟨y,ey⟩ : ∃ y,(s[k]'hlt).toNat = y:=⟨_,rfl⟩
            have hy : 48 ≤ y ∧ y ≤ 57:=ey ▸ HW.out k hlt hlt
            have f5 : decide ((y : Int) < 48) = false:=decide_eq_false (by omega)
            have f6 : decide ((57 : Int) < (y : Int)) = false:=decide_eq_false (by omega)
            go_wp2_with fail
            go_roundw
            case rel=>exact ⟨k + 1,by omega,by go_num,by trivial⟩
            case measure=>simp [intOf]; omega
          · skip
            obtain rfl : k = s.size:=by omega
            go_wp2_with fail
            clear Cq0 Fq0 Cq1 Fq1
            refine (ea_ w0 s HZ.out).mono ?_
            rintro e w1 ⟨_,rfl,⟨sn,ln,cn,yn,rfl,hn⟩,gw1⟩
            have mn : RefV w1 (.agg #[.slice sn ln cn]) (0):=⟨sn,ln,cn,yn,rfl,hn⟩
            replace Bq:=a_ gw1 Bq
            replace hG:=d_ hG gw1
            clear gw1
            clear hn
            obtain ⟨Cq0,Cq1,Fq0,Fq1⟩:=c_ Bq
            have gbw1:=(wg_ w1 (.cells #[.slice sn ln cn] 34) none)
            have Bn:=(f_ w1 (.cells #[.slice sn ln cn] 34) (w1.heap.size) rfl)
            have hzw1 : Hid (w.heap.size ≤ w1.heap.size):=H_ hG.size
            have hlqw1 : Hid (w.heap.size < w1.heap.size):=H_ (Array.getElem?_eq_some_iff.1 Bq).1
            clear Cq0 Fq0 Cq1 Fq1
            replace Bq:=a_ gbw1 Bq
            replace hG:=d_ hG gbw1
            clear gbw1
            obtain ⟨Cq0,Cq1,Fq0,Fq1⟩:=c_ Bq
            obtain ⟨Cn0,Fn0⟩:=j_ Bn
            clear Cq0 Fq0 Cq1 Fq1 Cn0 Fn0
            obtain ⟨k90,k91,k92,k93⟩:=c_ Bq
            obtain ⟨q90,q91,q92,q93⟩:=c_ (m_ Bq (.int .i64 0) (.slice none 0 0))
            have hF : Hid (R_ w (0) 2 (.returned (.tuple #[.agg #[.int .i64 0,.slice none 0 0],.int .i64 2])) (((w1.alloc (.cells #[.slice sn ln cn] 34)).setCell ⟨w.heap.size,0,none⟩ (.int .i64 0)).setCell ⟨w.heap.size,1,none⟩ (.slice none 0 0))):=bF_ hG Bq (by omega) (RIntV.zero _)
            clear mn
            obtain ⟨Cn0,Fn0⟩:=j_ Bn
            go_wp2_with fail
            exact bodyPost_ret (v:=.tuple #[.agg #[.int .i64 0,.slice none 0 0],.int .i64 2]) (by simp [results,Tryz.results54,go_sem,q90,q91]) rfl hF.out
       · skip
         have g2 : ((x0 : Int) == 48) = false:=beq_eq_false_iff_ne.2 (by omega)
         clear hx0 HX2
         have ex : (s[0]'hp9).toNat = x0:=EX0.out
         have g0 : ((s.size : Int) == 0) = false:=beq_eq_false_iff_ne.2 (by omega)
         obtain ⟨hG,Bq⟩:=en1_ w (.cells #[.int .i64 0,.slice none 0 0] 36)
         go_enter Tryz.func54,Tryz.ntmps54
         obtain ⟨Cq0,Cq1,Fq0,Fq1⟩:=c_ Bq
         go_upto_region 8 with fail
         go_wp2_with fail
         generalize (w.alloc (.cells #[.int .i64 0,.slice none 0 0] 36)) = w0 at *
         have hb4 : s.size ≤ 4097:=HB4.out
         go_loopw [6] (fun i wr=>∃ k : Nat,k ≤ s.size ∧ i = .int .i64 k ∧ w0 = wr) (fun i _=>s.size - (intOf i).toNat)
         case atStart=>exact ⟨0,Nat.zero_le _,rfl,rfl⟩
         case round =>
          obtain ⟨k,hk,rfl,rfl⟩:=hrel
          by_cases hlt : k < s.size
          · skip
            obtain ⟨y,ey⟩ : ∃ y,(s[k]'hlt).toNat = y:=⟨_,rfl⟩
            have hy : 48 ≤ y ∧ y ≤ 57:=ey ▸ HW.out k hlt hlt
            have f5 : decide ((y : Int) < 48) = false:=decide_eq_false (by omega)
            have f6 : decide ((57 : Int) < (y : Int)) = false:=decide_eq_false (by omega)
            go_wp2_with fail
            go_roundw
            case rel=>exact ⟨k + 1,by omega,by go_num,by trivial⟩
            case measure=>simp [intOf]; omega
          · skip
            obtain rfl : k = s.size:=by omega
            go_wp2_with fail
            clear Cq0 Fq0 Cq1 Fq1
            refine (ea_ w0 s HZ.out).mono ?_
            rintro e w1 ⟨_,rfl,⟨sn,ln,cn,yn,rfl,hn⟩,gw1⟩
            have mn : RefV w1 (.agg #[.slice sn ln cn]) (0):=⟨sn,ln,cn,yn,rfl,hn⟩
            replace Bq:=a_ gw1 Bq
            replace hG:=d_ hG gw1
            clear gw1
            clear hn
            obtain ⟨Cq0,Cq1,Fq0,Fq1⟩:=c_ Bq
            have gbw1:=(wg_ w1 (.cells #[.slice sn ln cn] 34) none)
            have Bn:=(f_ w1 (.cells #[.slice sn ln cn] 34) (w1.heap.size) rfl)
            have hzw1 : Hid (w.heap.size ≤ w1.heap.size):=H_ hG.size
            have hlqw1 : Hid (w.heap.size < w1.heap.size):=H_ (Array.getElem?_eq_some_iff.1 Bq).1
            clear Cq0 Fq0 Cq1 Fq1
            replace Bq:=a_ gbw1 Bq
            replace hG:=d_ hG gbw1
            clear gbw1
            obtain ⟨Cq0,Cq1,Fq0,Fq1⟩:=c_ Bq
            obtain ⟨Cn0,Fn0⟩:=j_ Bn
            clear Cq0 Fq0 Cq1 Fq1 Cn0 Fn0
            obtain ⟨k90,k91,k92,k93⟩:=c_ Bq
            obtain ⟨q90,q91,q92,q93⟩:=c_ (m_ Bq (.int .i64 0) (.slice none 0 0))
            have hF : Hid (R_ w (0) 2 (.returned (.tuple #[.agg #[.int .i64 0,.slice none 0 0],.int .i64 2])) (((w1.alloc (.cells #[.slice sn ln cn] 34)).setCell ⟨w.heap.size,0,none⟩ (.int .i64 0)).setCell ⟨w.heap.size,1,none⟩ (.slice none 0 0))):=bF_ hG Bq (by omega) (RIntV.zero _)
            clear mn
            obtain ⟨Cn0,Fn0⟩:=j_ Bn
            go_wp2_with fail
            exact bodyPost_ret (v:=.tuple #[.agg #[.int .i64 0,.slice none 0 0],.int .i64 2]) (by simp [results,Tryz.results54,go_sem,q90,q91]) rfl hF.out
   · skip
     obtain ⟨e1,e2⟩:=df_ hs (fun h=>hd (by have:=((aS_ _).1 h).1; rw [hz] at this; exact this))
     rw [e1,e2]
     clear e1 e2 hz hn hs
     have HD:=H_ hd
     clear hd
     rcases hsig with ⟨f2,f3⟩ | ⟨f2,f3,hp8,x8,ex8,f4⟩
     · skip
       have h9 : s.size = 0:=by have:=of_decide_eq_false f2; omega
       have g0 : ((s.size : Int) == 0) = true:=by rw [h9]; rfl
       clear h9
       obtain ⟨hG,Bq⟩:=en1_ w (.cells #[.int .i64 0,.slice none 0 0] 36)
       go_enter Tryz.func54,Tryz.ntmps54
       obtain ⟨Cq0,Cq1,Fq0,Fq1⟩:=c_ Bq
       have hG' : w.grownBy (w.alloc (.cells #[.int .i64 0,.slice none 0 0] 36)) none:=(wg_ _ _ _)
       have hF : Hid (R_ w (0) 3 (.returned (.tuple #[.agg #[.int .i64 0,.slice none 0 0],.int .i64 3])) (w.alloc (.cells #[.int .i64 0,.slice none 0 0] 36))):=⟨_,rfl,(RIntV.zero _),hG'⟩
       clear hG'
       go_wp2_with fail
       exact bodyPost_ret (v:=.tuple #[.agg #[.int .i64 0,.slice none 0 0],.int .i64 3]) (by simp [results,Tryz.results54,go_sem]) rfl hF.out
     · skip
       rw [← ex8] at f4
       clear ex8 x8
       rcases iW_ HD.out with h9 | ⟨hp9,ex9,h9⟩ | ⟨hp9,hx9,hw9⟩
       · omega
       · skip
         rw [ex9] at f4
         have g0 : ((s.size : Int) == 0) = false:=beq_eq_false_iff_ne.2 (by omega)
         have g1 : decide ((1 : Int) < (s.size : Int)) = true:=decide_eq_true (by omega)
         obtain ⟨hG,Bq⟩:=en1_ w (.cells #[.int .i64 0,.slice none 0 0] 36)
         go_enter Tryz.func54,Tryz.ntmps54
         obtain ⟨Cq0,Cq1,Fq0,Fq1⟩:=c_ Bq
         have hG' : w.grownBy (w.alloc (.cells #[.int .i64 0,.slice none 0 0] 36)) none:=(wg_ _ _ _)
         have hF : Hid (R_ w (0) 3 (.returned (.tuple #[.agg #[.int .i64 0,.slice none 0 0],.int .i64 3])) (w.alloc (.cells #[.int .i64 0,.slice none 0 0] 36))):=⟨_,rfl,(RIntV.zero _),hG'⟩
         clear hG'
         go_wp2_with fail
         exact bodyPost_ret (v:=.tuple #[.agg #[.int .i64 0,.slice none 0 0],.int .i64 3]) (by simp [results,Tryz.results54,go_sem]) rfl hF.out
       · skip
         have HW:=H_ hw9
         have HX:=H_ hx9
         clear hw9 hx9
         obtain ⟨x0,ex0⟩ : ∃ x,(s[0]'hp9).toNat = x:=⟨_,rfl⟩
         have HX2 : Hid (1 < s.size → x0 ≠ 48):=fun h=>by rw [← ex0]; exact HX.out hp9 h
         have EX0:=H_ ex0
         clear ex0
         clear HX
         by_cases hx0 : x0 = 48
         · skip
           subst hx0
           have h1 : s.size ≤ 1:=by have:=HX2.out; omega
           clear HX2
           have g0 : ((s.size : Int) == 0) = false:=beq_eq_false_iff_ne.2 (by omega)
           have g1 : decide ((1 : Int) < (s.size : Int)) = false:=decide_eq_false (by omega)
           have ex : (s[0]'hp9).toNat = 48:=EX0.out
           clear h1
           obtain ⟨hG,Bq⟩:=en1_ w (.cells #[.int .i64 0,.slice none 0 0] 36)
           go_enter Tryz.func54,Tryz.ntmps54
           obtain ⟨Cq0,Cq1,Fq0,Fq1⟩:=c_ Bq
           go_upto_region 8 with fail
           go_wp2_with fail
           generalize (w.alloc (.cells #[.int .i64 0,.slice none 0 0] 36)) = w0 at *
           have hb4 : s.size ≤ 4097:=HB4.out
           go_loopw [6] (fun i wr=>∃ k : Nat,k ≤ s.size ∧ i = .int .i64 k ∧ w0 = wr ∧ Hid (∀ j (h : j < s.size),j < k → 48 ≤ (s[j]'h).toNat ∧ (s[j]'h).toNat ≤ 57)) (fun i _=>s.size - (intOf i).toNat)
           case atStart=>exact ⟨0,Nat.zero_le _,rfl,rfl,fun j h h0=>absurd h0 (by omega)⟩
           case round =>
            obtain ⟨k,hk,rfl,rfl,hd⟩:=hrel
            by_cases hlt : k < s.size
            · skip
              obtain ⟨y,ey⟩ : ∃ y,(s[k]'hlt).toNat = y:=⟨_,rfl⟩
              by_cases hy : 48 ≤ y ∧ y ≤ 57
              · skip
                have f5 : decide ((y : Int) < 48) = false:=decide_eq_false (by omega)
                have f6 : decide ((57 : Int) < (y : Int)) = false:=decide_eq_false (by omega)
                go_wp2_with fail
                go_roundw
                case rel =>
                 refine ⟨k + 1,by omega,by go_num,by trivial,fun j h hj=>?_⟩
                 rcases Nat.lt_or_ge j k with h1 | h1
                 · exact hd.out j h h1
                 · obtain rfl : j = k:=by omega
                   rw [ey]; exact hy
                case measure=>simp [intOf]; omega
              · skip
                have hF : Hid (∀ u v,R_ w 0 3 (.returned (.tuple #[.agg #[.int .i64 0,.slice none 0 0],.int .i64 3])) ((w0.setCell ⟨w.heap.size,0,none⟩ u).setCell ⟨w.heap.size,1,none⟩ v)):=fun u v=>⟨_,rfl,RIntV.zero _,bn_ hG (Nat.le_refl _) u v⟩
                obtain ⟨q90,q91,q92,q93⟩:=c_ (m_ Bq (.int .i64 0) (.slice none 0 0))
                go_wp2_with fail
                all_goals first | exact bodyPost_ret (v:=.tuple #[.agg #[.int .i64 0,.slice none 0 0],.int .i64 3]) (by simp [results,Tryz.results54,go_sem,q90,q91]) rfl (hF.out _ _) | (exfalso; omega)
            · skip
              obtain rfl : k = s.size:=by omega
              exact absurd hd.out HW.out
         · skip
           have g2 : ((x0 : Int) == 48) = false:=beq_eq_false_iff_ne.2 (by omega)
           clear hx0 HX2
           have ex : (s[0]'hp9).toNat = x0:=EX0.out
           have g0 : ((s.size : Int) == 0) = false:=beq_eq_false_iff_ne.2 (by omega)
           obtain ⟨hG,Bq⟩:=en1_ w (.cells #[.int .i64 0,.slice none 0 0] 36)
           go_enter Tryz.func54,Tryz.ntmps54
           obtain ⟨Cq0,Cq1,Fq0,Fq1⟩:=c_ Bq
           go_upto_region 8 with fail
           go_wp2_with fail
           generalize (w.alloc (.cells #[.int .i64 0,.slice none 0 0] 36)) = w0 at *
           have hb4 : s.size ≤ 4097:=HB4.out
           go_loopw [6] (fun i wr=>∃ k : Nat,k ≤ s.size ∧ i = .int .i64 k ∧ w0 = wr ∧ Hid (∀ j (h : j < s.size),j < k → 48 ≤ (s[j]'h).toNat ∧ (s[j]'h).toNat ≤ 57)) (fun i _=>s.size - (intOf i).toNat)
           case atStart=>exact ⟨0,Nat.zero_le _,rfl,rfl,fun j h h0=>absurd h0 (by omega)⟩
           case round =>
            obtain ⟨k,hk,rfl,rfl,hd⟩:=hrel
            by_cases hlt : k < s.size
            · skip
              obtain ⟨y,ey⟩ : ∃ y,(s[k]'hlt).toNat = y:=⟨_,rfl⟩
              by_cases hy : 48 ≤ y ∧ y ≤ 57
              · skip
                have f5 : decide ((y : Int) < 48) = false:=decide_eq_false (by omega)
                have f6 : decide ((57 : Int) < (y : Int)) = false:=decide_eq_false (by omega)
                go_wp2_with fail
                go_roundw
                case rel =>
                 refine ⟨k + 1,by omega,by go_num,by trivial,fun j h hj=>?_⟩
                 rcases Nat.lt_or_ge j k with h1 | h1
                 · exact hd.out j h h1
                 · obtain rfl : j = k:=by omega
                   rw [ey]; exact hy
                case measure=>simp [intOf]; omega
              · skip
                have hF : Hid (∀ u v,R_ w 0 3 (.returned (.tuple #[.agg #[.int .i64 0,.slice none 0 0],.int .i64 3])) ((w0.setCell ⟨w.heap.size,0,none⟩ u).setCell ⟨w.heap.size,1,none⟩ v)):=fun u v=>⟨_,rfl,RIntV.zero _,bn_ hG (Nat.le_refl _) u v⟩
                obtain ⟨q90,q91,q92,q93⟩:=c_ (m_ Bq (.int .i64 0) (.slice none 0 0))
                go_wp2_with fail
                all_goals first | exact bodyPost_ret (v:=.tuple #[.agg #[.int .i64 0,.slice none 0 0],.int .i64 3]) (by simp [results,Tryz.results54,go_sem,q90,q91]) rfl (hF.out _ _) | (exfalso; omega)
            · skip
              obtain rfl : k = s.size:=by omega
              exact absurd hd.out HW.out
 · skip
   have hp : 0 < s.size:=by
    rcases Nat.eq_zero_or_pos s.size with h | h
    · have : bts s = []:=List.length_eq_zero_iff.1 (by rw [z_]; exact h)
      rw [this] at hn; cases hn
    · exact h
   have f2 : decide (0 < s.size) = true:=decide_eq_true hp
   have f3 : decide ((0 : Int) < (s.size : Int)) = true:=decide_eq_true (by omega)
   have ex : (s[0]'hp).toNat = 45:=by
    unfold eE_ at hn
    rw [aO_ s hp] at hn
    simpa using hn
   have hbt : bts (s.extract 1 s.size) = dC_ (bts s):=by rw [bQ_,eV_ hn,List.drop_one]
   have htz : (s.extract 1 s.size).size ≤ 4096:=by rw [ByteArray.size_extract]; omega
   have HB4 : Hid ((s.extract 1 s.size).size ≤ 4097):=H_ (Nat.le_trans htz (by omega))
   by_cases hd : cF_ (bts (s.extract 1 s.size))
   · skip
     obtain ⟨m,hm⟩ : ∃ m,aC_ (bts (s.extract 1 s.size)) = m:=⟨_,rfl⟩
     obtain ⟨hp9,hx9,hw9⟩:=ja_ hd
     have HX:=H_ hx9
     have HW:=H_ hw9
     clear hw9 hx9
     rcases Nat.eq_zero_or_pos m with h6 | h6
     · skip
       subst h6
       obtain ⟨e1,e2⟩:=df_ hs (fun h=>((aS_ _).1 h).2 ⟨hn,by rw [← hbt]; exact hm⟩)
       rw [e1,e2]
       clear e1 e2 hbt hs htz hn
       have e48 : bts (s.extract 1 s.size) = [48]:=em_ hd (cc_ (by decide +kernel)) (hm.trans (by decide +kernel))
       have ex9 : ((s.extract 1 s.size)[0]'hp9).toNat = 48:=by
        have:=aO_ (s.extract 1 s.size) hp9
        rw [e48] at this; exact (Option.some.inj this).symm
       have h1 : (s.extract 1 s.size).size ≤ 1:=by have:=z_ (s.extract 1 s.size); rw [e48] at this; simp only [List.length_cons,List.length_nil] at this; omega
       clear hd hm e48 HX HW
       have EX9:=H_ ex9
       have H1:=H_ h1
       clear ex9 h1
       obtain ⟨hG,Bq⟩:=en1_ w (.cells #[.int .i64 0,.slice none 0 0] 36)
       go_enter Tryz.func54,Tryz.ntmps54
       obtain ⟨Cq0,Cq1,Fq0,Fq1⟩:=c_ Bq
       go_upto_region 8 with fail
       generalize s.extract 1 s.size = t at *
       have h1:=H1.out
       have g0 : ((t.size : Int) == 0) = false:=beq_eq_false_iff_ne.2 (by omega)
       have g1 : decide ((1 : Int) < (t.size : Int)) = false:=decide_eq_false (by omega)
       have ex9 : (t[0]'hp9).toNat = 48:=EX9.out
       have hG' : w.grownBy (w.alloc (.cells #[.int .i64 0,.slice none 0 0] 36)) none:=(wg_ _ _ _)
       have hF : Hid (R_ w (0) 3 (.returned (.tuple #[.agg #[.int .i64 0,.slice none 0 0],.int .i64 3])) (w.alloc (.cells #[.int .i64 0,.slice none 0 0] 36))):=⟨_,rfl,(RIntV.zero _),hG'⟩
       clear hG'
       go_wp2_with fail
       exact bodyPost_ret (v:=.tuple #[.agg #[.int .i64 0,.slice none 0 0],.int .i64 3]) (by simp [results,Tryz.results54,go_sem]) rfl hF.out
     · skip
       have hok : zok (bts s) = true:=(aS_ _).2 ⟨by rw [← hbt]; exact hd,by rw [← hbt,hm]; omega⟩
       obtain ⟨e1,e2⟩:=fE_ hs hok (by rw [← hbt,z_]; exact htz)
       rw [e1,e2,show hm_ (bts s) = -(m : Int) from by unfold hm_; rw [if_pos hn,← hbt,hm]]
       clear e1 e2 hbt hs hok hn
       have HD:=H_ hd
       have HZ:=H_ htz
       have HV:=H_ hm
       have HP:=H_ h6
       clear hd htz hm h6
       obtain ⟨x0,ex0⟩ : ∃ x,((s.extract 1 s.size)[0]'hp9).toNat = x:=⟨_,rfl⟩
       have HX2 : Hid (1 < (s.extract 1 s.size).size → x0 ≠ 48):=fun h=>by rw [← ex0]; exact HX.out hp9 h
       have EX0:=H_ ex0
       clear ex0
       clear HX
       have hx0 : x0 ≠ 48:=by rw [← EX0.out]; exact iZ_ hp9 HD.out (by rw [HV.out]; have:=HP.out; omega)
       have g2 : ((x0 : Int) == 48) = false:=beq_eq_false_iff_ne.2 (by omega)
       clear hx0 HX2
       obtain ⟨hG,Bq⟩:=en1_ w (.cells #[.int .i64 0,.slice none 0 0] 36)
       go_enter Tryz.func54,Tryz.ntmps54
       obtain ⟨Cq0,Cq1,Fq0,Fq1⟩:=c_ Bq
       go_upto_region 8 with fail
       generalize s.extract 1 s.size = t at *
       have g0 : ((t.size : Int) == 0) = false:=beq_eq_false_iff_ne.2 (by omega)
       have ex : (t[0]'hp9).toNat = x0:=EX0.out
       go_wp2_with fail
       generalize (w.alloc (.cells #[.int .i64 0,.slice none 0 0] 36)) = w0 at *
       have hb4 : t.size ≤ 4097:=HB4.out
       go_loopw [6] (fun i wr=>∃ k : Nat,k ≤ t.size ∧ i = .int .i64 k ∧ w0 = wr) (fun i _=>t.size - (intOf i).toNat)
       case atStart=>exact ⟨0,Nat.zero_le _,rfl,rfl⟩
       case round =>
        obtain ⟨k,hk,rfl,rfl⟩:=hrel
        by_cases hlt : k < t.size
        · skip
          obtain ⟨y,ey⟩ : ∃ y,(t[k]'hlt).toNat = y:=⟨_,rfl⟩
          have hy : 48 ≤ y ∧ y ≤ 57:=ey ▸ HW.out k hlt hlt
          have f5 : decide ((y : Int) < 48) = false:=decide_eq_false (by omega)
          have f6 : decide ((57 : Int) < (y : Int)) = false:=decide_eq_false (by omega)
          go_wp2_with fail
          go_roundw
          case rel=>exact ⟨k + 1,by omega,by go_num,by trivial⟩
          case measure=>simp [intOf]; omega
        · skip
          obtain rfl : k = t.size:=by omega
          go_wp2_with fail
          clear Cq0 Fq0 Cq1 Fq1
          refine (bO_ w0 t HZ.out HD.out).mono ?_
          rintro e w1 ⟨_,rfl,⟨sn,ln,cn,yn,rfl,hn⟩,gw1⟩
          have mn : RefV w1 (.agg #[.slice sn ln cn]) (aC_ (bts t)):=⟨sn,ln,cn,yn,rfl,hn⟩
          replace Bq:=a_ gw1 Bq
          replace hG:=d_ hG gw1
          clear gw1
          clear hn
          obtain ⟨Cq0,Cq1,Fq0,Fq1⟩:=c_ Bq
          have gbw1:=(wg_ w1 (.cells #[.slice sn ln cn] 34) none)
          have Bn:=(f_ w1 (.cells #[.slice sn ln cn] 34) (w1.heap.size) rfl)
          have hzw1 : Hid (w.heap.size ≤ w1.heap.size):=H_ hG.size
          have hlqw1 : Hid (w.heap.size < w1.heap.size):=H_ (Array.getElem?_eq_some_iff.1 Bq).1
          clear Cq0 Fq0 Cq1 Fq1
          replace Bq:=a_ gbw1 Bq
          replace mn:=mn.kept gbw1
          replace hG:=d_ hG gbw1
          clear gbw1
          obtain ⟨Cq0,Cq1,Fq0,Fq1⟩:=c_ Bq
          obtain ⟨Cn0,Fn0⟩:=j_ Bn
          go_wp2_with fail
          generalize (w1.alloc (.cells #[.slice sn ln cn] 34)) = w2 at *
          generalize w1.heap.size = aw1 at *
          replace hzw1:=hzw1.out
          replace hlqw1:=hlqw1.out
          clear Cq0 Fq0 Cq1 Fq1 Cn0 Fn0
          refine (K_ w2 _ (-1) (aC_ (bts t)) (-(m : Int)) mn (by rw [HV.out]; omega) (Or.inr (Int.sign_eq_neg_one_of_neg (by have:=HP.out; omega)))).mono ?_
          rintro e w3 ⟨_,rfl,⟨gd,sd,ld,cd,rfl,hd,md⟩,gw3⟩
          have rd : RIntV w3 (.agg #[.int .i64 gd,.slice sd ld cd]) (-(m : Int)):=⟨gd,sd,ld,cd,rfl,hd,md⟩
          replace Bq:=a_ gw3 Bq
          replace Bn:=a_ gw3 Bn
          replace hG:=d_ hG gw3
          clear gw3
          clear md
          obtain ⟨Cq0,Cq1,Fq0,Fq1⟩:=c_ Bq
          obtain ⟨Cn0,Fn0⟩:=j_ Bn
          clear Cq0 Fq0 Cq1 Fq1 Cn0 Fn0
          obtain ⟨k90,k91,k92,k93⟩:=c_ Bq
          obtain ⟨q90,q91,q92,q93⟩:=c_ (m_ Bq (.int .i64 gd) (.slice sd ld cd))
          have hF : Hid (R_ w (-(m : Int)) 0 (.returned (.tuple #[.agg #[.int .i64 gd,.slice sd ld cd],.int .i64 0])) ((w3.setCell ⟨w.heap.size,0,none⟩ (.int .i64 gd)).setCell ⟨w.heap.size,1,none⟩ (.slice sd ld cd))):=bF_ hG Bq (by omega) rd
          clear mn rd
          obtain ⟨Cn0,Fn0⟩:=j_ Bn
          go_wp2_with fail
          exact bodyPost_ret (v:=.tuple #[.agg #[.int .i64 gd,.slice sd ld cd],.int .i64 0]) (by simp [results,Tryz.results54,go_sem,q90,q91]) rfl hF.out
   · skip
     obtain ⟨e1,e2⟩:=df_ hs (fun h=>hd (by rw [hbt]; exact ((aS_ _).1 h).1))
     rw [e1,e2]
     clear e1 e2 hbt hs htz hn
     have HD:=H_ hd
     clear hd
     rcases iW_ HD.out with h9 | ⟨hp9,ex9,h9⟩ | ⟨hp9,hx9,hw9⟩
     · skip
       have H9:=H_ h9
       clear h9
       obtain ⟨hG,Bq⟩:=en1_ w (.cells #[.int .i64 0,.slice none 0 0] 36)
       go_enter Tryz.func54,Tryz.ntmps54
       obtain ⟨Cq0,Cq1,Fq0,Fq1⟩:=c_ Bq
       go_upto_region 8 with fail
       generalize s.extract 1 s.size = t at *
       have g0 : ((t.size : Int) == 0) = true:=by rw [H9.out]; rfl
       have hG' : w.grownBy (w.alloc (.cells #[.int .i64 0,.slice none 0 0] 36)) none:=(wg_ _ _ _)
       have hF : Hid (R_ w (0) 3 (.returned (.tuple #[.agg #[.int .i64 0,.slice none 0 0],.int .i64 3])) (w.alloc (.cells #[.int .i64 0,.slice none 0 0] 36))):=⟨_,rfl,(RIntV.zero _),hG'⟩
       clear hG'
       go_wp2_with fail
       exact bodyPost_ret (v:=.tuple #[.agg #[.int .i64 0,.slice none 0 0],.int .i64 3]) (by simp [results,Tryz.results54,go_sem]) rfl hF.out
     · skip
       have H9:=H_ h9
       have EX9:=H_ ex9
       clear h9 ex9
       obtain ⟨hG,Bq⟩:=en1_ w (.cells #[.int .i64 0,.slice none 0 0] 36)
       go_enter Tryz.func54,Tryz.ntmps54
       obtain ⟨Cq0,Cq1,Fq0,Fq1⟩:=c_ Bq
       go_upto_region 8 with fail
       generalize s.extract 1 s.size = t at *
       have h9:=H9.out
       have g0 : ((t.size : Int) == 0) = false:=beq_eq_false_iff_ne.2 (by omega)
       have g1 : decide ((1 : Int) < (t.size : Int)) = true:=decide_eq_true (by omega)
       have ex : (t[0]'hp9).toNat = 48:=EX9.out
       have hG' : w.grownBy (w.alloc (.cells #[.int .i64 0,.slice none 0 0] 36)) none:=(wg_ _ _ _)
       have hF : Hid (R_ w (0) 3 (.returned (.tuple #[.agg #[.int .i64 0,.slice none 0 0],.int .i64 3])) (w.alloc (.cells #[.int .i64 0,.slice none 0 0] 36))):=⟨_,rfl,(RIntV.zero _),hG'⟩
       clear hG'
       go_wp2_with fail
       exact bodyPost_ret (v:=.tuple #[.agg #[.int .i64 0,.slice none 0 0],.int .i64 3]) (by simp [results,Tryz.results54,go_sem]) rfl hF.out
     · skip
       have HW:=H_ hw9
       have HX:=H_ hx9
       clear hw9 hx9
       obtain ⟨x0,ex0⟩ : ∃ x,((s.extract 1 s.size)[0]'hp9).toNat = x:=⟨_,rfl⟩
       have HX2 : Hid (1 < (s.extract 1 s.size).size → x0 ≠ 48):=fun h=>by rw [← ex0]; exact HX.out hp9 h
       have EX0:=H_ ex0
       clear ex0
       clear HX
       by_cases hx0 : x0 = 48
       · skip
         subst hx0
         have H1 : Hid ((s.extract 1 s.size).size ≤ 1):=by show _ ≤ 1; have:=HX2.out; omega
         clear HX2
         obtain ⟨hG,Bq⟩:=en1_ w (.cells #[.int .i64 0,.slice none 0 0] 36)
         go_enter Tryz.func54,Tryz.ntmps54
         obtain ⟨Cq0,Cq1,Fq0,Fq1⟩:=c_ Bq
         go_upto_region 8 with fail
         generalize s.extract 1 s.size = t at *
         have h1:=H1.out
         have g0 : ((t.size : Int) == 0) = false:=beq_eq_false_iff_ne.2 (by omega)
         have g1 : decide ((1 : Int) < (t.size : Int)) = false:=decide_eq_false (by omega)
         have ex : (t[0]'hp9).toNat = 48:=EX0.out
         have hG' : w.grownBy (w.alloc (.cells #[.int .i64 0,.slice none 0 0] 36)) none:=(wg_ _ _ _)
         have hF : Hid (R_ w (0) 3 (.returned (.tuple #[.agg #[.int .i64 0,.slice none 0 0],.int .i64 3])) (w.alloc (.cells #[.int .i64 0,.slice none 0 0] 36))):=⟨_,rfl,(RIntV.zero _),hG'⟩
         clear hG'
         go_wp2_with fail
         exact bodyPost_ret (v:=.tuple #[.agg #[.int .i64 0,.slice none 0 0],.int .i64 3]) (by simp [results,Tryz.results54,go_sem]) rfl hF.out
       · skip
         have g2 : ((x0 : Int) == 48) = false:=beq_eq_false_iff_ne.2 (by omega)
         clear hx0 HX2
         obtain ⟨hG,Bq⟩:=en1_ w (.cells #[.int .i64 0,.slice none 0 0] 36)
         go_enter Tryz.func54,Tryz.ntmps54
         obtain ⟨Cq0,Cq1,Fq0,Fq1⟩:=c_ Bq
         go_upto_region 8 with fail
         generalize s.extract 1 s.size = t at *
         have g0 : ((t.size : Int) == 0) = false:=beq_eq_false_iff_ne.2 (by omega)
         have ex : (t[0]'hp9).toNat = x0:=EX0.out
         go_wp2_with fail
         generalize (w.alloc (.cells #[.int .i64 0,.slice none 0 0] 36)) = w0 at *
         have hb4 : t.size ≤ 4097:=HB4.out
         go_loopw [6] (fun i wr=>∃ k : Nat,k ≤ t.size ∧ i = .int .i64 k ∧ w0 = wr ∧ Hid (∀ j (h : j < t.size),j < k → 48 ≤ (t[j]'h).toNat ∧ (t[j]'h).toNat ≤ 57)) (fun i _=>t.size - (intOf i).toNat)
         case atStart=>exact ⟨0,Nat.zero_le _,rfl,rfl,fun j h h0=>absurd h0 (by omega)⟩
         case round =>
          obtain ⟨k,hk,rfl,rfl,hd⟩:=hrel
          by_cases hlt : k < t.size
          · skip
            obtain ⟨y,ey⟩ : ∃ y,(t[k]'hlt).toNat = y:=⟨_,rfl⟩
            by_cases hy : 48 ≤ y ∧ y ≤ 57
            · skip
              have f5 : decide ((y : Int) < 48) = false:=decide_eq_false (by omega)
              have f6 : decide ((57 : Int) < (y : Int)) = false:=decide_eq_false (by omega)
              go_wp2_with fail
              go_roundw
              case rel =>
               refine ⟨k + 1,by omega,by go_num,by trivial,fun j h hj=>?_⟩
               rcases Nat.lt_or_ge j k with h1 | h1
               · exact hd.out j h h1
               · obtain rfl : j = k:=by omega
                 rw [ey]; exact hy
              case measure=>simp [intOf]; omega
            · skip
              have hF : Hid (∀ u v,R_ w 0 3 (.returned (.tuple #[.agg #[.int .i64 0,.slice none 0 0],.int .i64 3])) ((w0.setCell ⟨w.heap.size,0,none⟩ u).setCell ⟨w.heap.size,1,none⟩ v)):=fun u v=>⟨_,rfl,RIntV.zero _,bn_ hG (Nat.le_refl _) u v⟩
              obtain ⟨q90,q91,q92,q93⟩:=c_ (m_ Bq (.int .i64 0) (.slice none 0 0))
              go_wp2_with fail
              all_goals first | exact bodyPost_ret (v:=.tuple #[.agg #[.int .i64 0,.slice none 0 0],.int .i64 3]) (by simp [results,Tryz.results54,go_sem,q90,q91]) rfl (hF.out _ _) | (exfalso; omega)
          · skip
            obtain rfl : k = t.size:=by omega
            exact absurd hd.out HW.out
end Go.Proofs.YtgbbdgioohaknaaGreatDoor
