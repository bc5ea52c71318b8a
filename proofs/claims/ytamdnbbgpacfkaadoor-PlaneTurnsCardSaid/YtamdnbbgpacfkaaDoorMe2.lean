/- What the laws lean on, part 2. -/
import Derived.BigQuiet
import Derived.Deep.CutBlock
import Derived.Deep.CutRange
import Derived.Deep.DeepCutAuto
import Derived.Deep.LoopGhost
import Derived.Deep.QuietTactic
import Derived.Deep.RegionHeld3
import Derived.Laws.CopyOwn
import Derived.Laws.Externs
import Derived.Lib.BitFns
import Derived.Lib.Hide
import Derived.Lib.Slices
import Derived.Lib.Small
import Derived.Lib.Strings
import Derived.Lib.Walk
import Derived.Outline
import Derived.Shelf.Bits.Mul64
import Derived.StillTailTactics
import Derived.WalkKit
import Derived.WalkLawsBesides
import Derived.WalkSpells
import Derived.Test.YtamdnbbgpacfkaaDoorProg
import Derived.Test.YtamdnbbgpacfkaaDoorMe1
set_option linter.unusedVariables false
set_option linter.unusedSimpArgs false
set_option maxRecDepth 100000
namespace Go.Proofs.YtamdnbbgpacfkaaDoor
open Go.RowKit Mat
def S4 (x y:Nat):Nat:=x*y / B
def C5 (x y:Nat):Nat:=x*y%B
theorem mulLo_lt (x y:Nat):C5 x y<B:=Nat.mod_lt _ E5
theorem lO (x y:Nat):C5 x y+B*S4 x y=x*y:=Nat.mod_add_div ..
set_option maxHeartbeats 1000000 in
theorem cH (x y:Nat) (hx:x<B) (hy:y<B) (w:World) :
 Calls Tryd.prog 99 #[.int .u64 (x:Int),.int .u64 (y:Int)] w fun e w'=>e = .returned (.tuple #[.int .u64 (S4 x y:Int),.int .u64 (C5 x y:Int)])/\w=w':=by
 show Calls _ _ _ _ fun e w'=>e = .returned (.tuple #[.int .u64 ((x*y / 18446744073709551616:Nat):Int),.int .u64 ((x*y%18446744073709551616:Nat):Int)])/\w=w'
 have hx:x<18446744073709551616:=hx
 have hy:y<18446744073709551616:=hy
 obtain ⟨bd,bt,bw,hhi⟩:=Lib.mul64_hi x y hx hy
 have ba:=Lib.half_mul_le (a:=x / 4294967296) (b:=y / 4294967296) (by omega) (by omega)
 have bb:=Lib.half_mul_le (a:=x / 4294967296) (b:=y%4294967296) (by omega) (by omega)
 have bc:=Lib.half_mul_le (a:=x%4294967296) (b:=y / 4294967296) (by omega) (by omega)
 have ba':x / 4294967296*(y / 4294967296)<18446744073709551616:=by omega
 have bb':x / 4294967296*(y%4294967296)<18446744073709551616:=by omega
 have bc':x%4294967296*(y / 4294967296)<18446744073709551616:=by omega
 have bh1:x / 4294967296*(y / 4294967296)+(x / 4294967296*(y%4294967296)+x%4294967296*(y%4294967296) / 4294967296) / 4294967296<18446744073709551616:=by omega
 have bh:x / 4294967296*(y / 4294967296)+(x / 4294967296*(y%4294967296)+x%4294967296*(y%4294967296) / 4294967296) / 4294967296+((x / 4294967296*(y%4294967296)+x%4294967296*(y%4294967296) / 4294967296)%4294967296+x%4294967296*(y / 4294967296)) / 4294967296<18446744073709551616:=by omega
 have Hhi:=Lib.hid hhi
 clear hhi
 go_enter Tryd.func99,Tryd.ntmps99
 go_wp2
 simp only [Mul64.maskN x hx,Mul64.maskN y hy,Mul64.divN,Mul64.mulN,Mul64.addN,Mul64.wrapN _ bd,Mul64.wrapN _ bb',Mul64.wrapN _ bt,Mul64.maskN _ bt,Mul64.wrapN _ bc',Mul64.wrapN _ bw,Mul64.wrapN _ ba',Mul64.wrapN _ bh1,Mul64.wrapN _ bh,Mul64.wrapM (x*y)]
 rw [Hhi.out]
 go_ret2
 exact ⟨rfl,rfl⟩
theorem muladd_step (k v x y by' add s:Nat) (h:v+add*B^k=s) :
 v+B^k*E4 x (E4 (C5 y by') add 0) 0+(S4 y by'+G7 (C5 y by') add 0+G7 x (E4 (C5 y by') add 0) 0)*B^(k+1)=s+B^k*x+B^k*(y*by'):=by
 have e1:=lO y by'
 have e2:E4 (C5 y by') add 0+B*G7 (C5 y by') add 0=C5 y by'+add+0:=Nat.mod_add_div ..
 have e3:E4 x (E4 (C5 y by') add 0) 0+B*G7 x (E4 (C5 y by') add 0) 0=x+E4 (C5 y by') add 0+0:=Nat.mod_add_div ..
 generalize E4 x (E4 (C5 y by') add 0) 0=r3 at *
 generalize G7 x (E4 (C5 y by') add 0) 0=c3 at *
 generalize E4 (C5 y by') add 0=r2 at *
 generalize G7 (C5 y by') add 0=c2 at *
 generalize C5 y by'=r1 at *
 generalize S4 y by'=q1 at *
 rw [<- e1,Nat.pow_succ]
 grind
theorem pH {x y by' add:Nat} (hx:x<B) (hy:y<B) (hb:by'<B) (ha:add<B) :
 S4 y by'+G7 (C5 y by') add 0<B/\S4 y by'+G7 (C5 y by') add 0+G7 x (E4 (C5 y by') add 0) 0<B:=by
 have e1:=lO y by'
 have e2:E4 (C5 y by') add 0+B*G7 (C5 y by') add 0=C5 y by'+add+0:=Nat.mod_add_div ..
 have e3:E4 x (E4 (C5 y by') add 0) 0+B*G7 x (E4 (C5 y by') add 0) 0=x+E4 (C5 y by') add 0+0:=Nat.mod_add_div ..
 have h1:y*by'<=(B-1)*(B-1):=Nat.mul_le_mul (by omega) (by omega)
 have h2:(B-1)*(B-1)+(B-1)+(B-1)<B*B:=by decide +kernel
 generalize E4 x (E4 (C5 y by') add 0) 0=r3 at *
 generalize G7 x (E4 (C5 y by') add 0) 0=c3 at *
 generalize E4 (C5 y by') add 0=r2 at *
 generalize G7 (C5 y by') add 0=c2 at *
 generalize C5 y by'=r1 at *
 generalize S4 y by'=q1 at *
 have h3:B*(q1+c2+c3)<B*B:=by
  have:B*(q1+c2+c3)=B*q1+B*c2+B*c3:=by rw [Nat.mul_add,Nat.mul_add]
  omega
 have h4:=Nat.lt_of_mul_lt_mul_left h3
 omega
def jC (w:World) (b off:Nat) (xs ys:List Nat) (by':Nat) (cs:Array Value) (e:Ending) (w':World):Prop:=
 ∃ (zs:List Nat) (cs':Array Value),e = .returned (.tuple #[])/\Blk w' b cs'/\qL cs cs' off zs/\w.grownBy w' (some b)/\zs.length=ys.length+1/\Dig B zs/\val B zs=val B (xs.take ys.length)+val B ys*by'
set_option maxHeartbeats 2000000 in
theorem oI (w:World) (b off n cap:Nat) (xs:List Nat) (cs:Array Value) (sa:Option Addr) (m cap2:Nat) (ys:List Nat) (by':Nat) (hn:xs.length=n) (hmm:ys.length=m)
 (hb:Blk w b cs) (hx:At cs off xs) (hs:Rd w sa ys b) (hl:n=m+1) (hm:n<=1099511627776) (dx:Dig B xs) (dy:Dig B ys) (hby:by'<B) :
 Calls Tryd.prog 84 #[.slice (some ⟨b,off,none⟩) n cap,.slice sa m cap2,.int .u64 (by':Int)] w (jC w b off xs ys by' cs):=by
 subst hl
 have Hn:=Lib.hid hn
 have Hm:=Lib.hid hmm
 have hbyN:by'<18446744073709551616:=hby
 clear hn hmm
 go_enter Tryd.func84,Tryd.ntmps84
 go_wp2_with fail
 go_loopw [6,14] (fun c i wr=>∃ (k ad:Nat) (zs:List Nat),k<=m/\i = .int .i64 k/\c = .int .u64 ad/\ad<B/\Hid (zs.length=k)/\Dig B zs/\Blk wr b (Put cs off zs)/\w.grownBy wr (some b)/\Hid (val B zs+ad*B^k=val B (xs.take k)+val B (ys.take k)*by'))
  (fun _ i _=>m-(intOf i).toNat)
 case atStart=>exact ⟨0,0,[],Nat.zero_le _,rfl,rfl,E5,rfl,Dig.nil _,hb,B5 _ _,by show _=_;simp [val]⟩
 case round=>
  obtain ⟨k,ad,zs,hk,rfl,rfl,hc,hzl,hzd,hbk,hg,hv⟩:=hrel
  by_cases hlt:k<m
  · obtain ⟨x,ex⟩:∃ x,xs[k]'(by rw [Hn.out];omega)=x:=⟨_,rfl⟩
    obtain ⟨y,ey⟩:∃ y,ys[k]'(by rw [Hm.out];omega)=y:=⟨_,rfl⟩
    have hxB:x<B:=ex ▸ dx.get k _
    have hyB:y<B:=ey ▸ dy.get k _
    obtain ⟨b2,off2,cs2,rfl,hne,h2,hy⟩:=hs.get k (by rw [Hm.out];omega)
    have cx:wr.cell? ⟨b,off+k,none⟩=some (.int .u64 (x:Int)):=by
     rw [hbk.cell,J3 _ _ _ _ (by rw [hzl.out];omega),hx k (by rw [Hn.out];omega),ex]
    have cy:wr.cell? ⟨b2,off2+k,none⟩=some (.int .u64 (y:Int)):=by
     rw [(h2.kept hg (by simpa using hne)).cell,hy k (by rw [Hm.out];omega),ey]
    have fx:wr.frozen? ⟨b,off+k,none⟩=false:=hbk.frozen _
    have EX:=Lib.hid ex
    have EY:=Lib.hid ey
    clear ex ey
    have ha1:∀ w,(callFunc 100 #[.int .u64 (C5 y by':Int),.int .u64 (ad:Int),.int .u64 0]).run Tryd.prog w = .ok (.value (.tuple #[.int .u64 (E4 (C5 y by') ad 0:Int),.int .u64 (G7 (C5 y by') ad 0:Int)])) w:=fun w=>add64 _ _ 0 (Nat.zero_le _) w
    have ha2:∀ w,(callFunc 100 #[.int .u64 (x:Int),.int .u64 (E4 (C5 y by') ad 0:Int),.int .u64 0]).run Tryd.prog w = .ok (.value (.tuple #[.int .u64 (E4 x (E4 (C5 y by') ad 0) 0:Int),.int .u64 (G7 x (E4 (C5 y by') ad 0) 0:Int)])) w:=fun w=>add64 _ _ 0 (Nat.zero_le _) w
    obtain ⟨b1,b2'⟩:=pH hxB hyB hby hc
    have b1:S4 y by'+G7 (C5 y by') ad 0<18446744073709551616:=b1
    have b3:S4 y by'+G7 (C5 y by') ad 0+G7 x (E4 (C5 y by') ad 0) 0<18446744073709551616:=b2'
    go_wp2_with (go_at_call 99;refine (cH y by' hyB hby _).mono ?_;rintro e w' ⟨rfl,rfl⟩)
    clear ha1 ha2 cx cy fx
    go_roundw
    case rel=>
     refine ⟨k+1,S4 y by'+G7 (C5 y by') ad 0+G7 x (E4 (C5 y by') ad 0) 0,zs++[E4 x (E4 (C5 y by') ad 0) 0],by omega,by go_num,by go_num,b2', ?_,hzd.snoc (fP _ _ _), ?_,C2 hg _ _, ?_⟩
     · show _=_;rw [List.length_append,hzl.out];rfl
     · rw [N5,hzl.out];exact hbk.setCell _ _
     · show _=_
       rw [F9,hzl.out,muladd_step k _ x y by' ad _ hv.out,B9 B xs k (by rw [Hn.out];omega),B9 B ys k (by rw [Hm.out];omega),EX.out,EY.out,Nat.add_mul,Nat.mul_assoc];omega
    case measure=>simp [intOf];omega
  · obtain rfl:k=m:=by omega
    have cx:wr.cell? ⟨b,off+k,none⟩=some (.int .u64 (xs[k]'(by rw [Hn.out];omega):Int)):=by
     rw [hbk.cell,J3 _ _ _ _ (by rw [hzl.out];omega),hx k (by rw [Hn.out];omega)]
    have fx:wr.frozen? ⟨b,off+k,none⟩=false:=hbk.frozen _
    obtain ⟨xv,exv⟩:∃ xv,xs[k]'(by rw [Hn.out];omega)=xv:=⟨_,rfl⟩
    rw [exv] at cx
    clear exv
    have hsz:off+(k+1)<=cs.size:=by
     rcases hx.le with h | h
     · exfalso;have:=Hn.out;rw [h] at this;simp at this
     · rw [Hn.out] at h;omega
    have HF:Hid (jC w b off xs ys by' cs (.returned (.tuple #[])) (wr.setCell ⟨b,off+k,none⟩ (.int .u64 (ad:Int)))):=by
     have hb2:=hbk.setCell (off+k) (.int .u64 (ad:Int))
     have hp:(Put cs off zs).setIfInBounds (off+k) (.int .u64 (ad:Int))=Put cs off (zs++[ad]):=by rw [N5,hzl.out]
     rw [hp] at hb2
     have hlen:(zs++[ad]).length=k+1:=by rw [List.length_append,hzl.out];rfl
     refine ⟨zs++[ad],_,rfl,hb2,⟨eM _ _ _,fun j hj=>J3 _ _ _ _ hj,iG _ _ _ (by rw [hlen];exact hsz)⟩,C2 hg _ _,by rw [hlen,Hm.out],hzd.snoc hc, ?_⟩
     rw [F9,hzl.out,Hm.out,Nat.mul_comm,hv.out, <- Hm.out,List.take_length,Hm.out]
    clear hbk hg hv hzl hzd
    go_wp2_with fail
    go_end0
    exact HF
theorem mul_step {us ys zs:List Nat} {i x V:Nat} (hi:i<=us.length) (hv:val B us=V*val B ys) (hz:val B zs=val B ((us.drop i++[0]).take ys.length)+val B ys*x) (hl:us.length=i+ys.length) :
 val B (us.take i++zs)=(V+B^i*x)*val B ys:=by
 have e:(us.drop i++[0]).take ys.length=us.drop i:=by
  rw [List.take_append_of_le_length (by rw [List.length_drop];omega),List.take_of_length_le (by rw [List.length_drop];omega)]
 rw [e] at hz
 have h1:=J6 B us i hi
 rw [L7,List.length_take,Nat.min_eq_left hi,hz,Nat.mul_add, <- Nat.add_assoc, <- h1,hv,Nat.add_mul]
 congr 1
 rw [Nat.mul_assoc,Nat.mul_comm x]
theorem win_at {cs:Array Value} {us:List Nat} {k j:Nat} (h:At cs 0 (us++List.replicate (j+1) 0)) (hk:k<=us.length):At cs k (us.drop k++[0]):=by
 have h1:=h.drop k
 rw [Nat.zero_add,List.drop_append_of_le_length hk] at h1
 have h2:=h1.take ((us.drop k).length+1)
 rw [List.take_length_add_append,List.take_replicate,Nat.min_eq_left (by omega)] at h2
 exact h2
theorem win_put {cs cs':Array Value} {us zs:List Nat} {k j m:Nat} (h:At cs 0 (us++List.replicate (j+1) 0)) (hu:us.length=k+m) (hz:zs.length=m+1) (hw:qL cs cs' k zs):At cs' 0 ((us.take k++zs)++List.replicate j 0):=by
 have hlk:(us.take k).length=k:=by rw [List.length_take];omega
 refine At.append (At.append ?_ ?_) ?_
 · intro i hi
   rw [hlk] at hi
   rw [hw.out _ (by omega),h i (by simp;omega),List.getElem_append_left (by omega),List.getElem_take]
 · rw [hlk,Nat.zero_add];exact hw.lies
 · intro i hi
   rw [List.length_replicate] at hi
   rw [List.length_append,hlk,hz]
   rw [hw.out _ (by omega),List.getElem_replicate]
   have:=h (k+(m+1)+i) (by simp;omega)
   rw [Nat.zero_add] at this ⊢
   rw [this,List.getElem_append_right (by omega),List.getElem_replicate]
set_option maxHeartbeats 2000000 in
theorem Mul_core (w:World) (sa sb:Option Addr) (xs ys:List Nat) (hx:Lm w sa xs) (hy:Lm w sb ys) (n m:Nat) (hn:xs.length=n) (hm:ys.length=m) (bn:n<=1073741824) (bm:m<=1073741824) :
 Calls Tryd.prog 58 #[.agg #[.slice sa n n],.agg #[.slice sb m m]] w (RetFresh w (val B xs*val B ys)):=by
 have Hn:=Lib.hid hn
 have Hm:=Lib.hid hm
 clear hn hm
 obtain ⟨i0,hi,hz0,hz1,hz2⟩:=info_parts Tryd.infoU64
 have hgw0:w.grownBy (((w.alloc (.cells #[.slice sa n n] 27)).alloc (.cells #[.slice sb m m] 27)).alloc (.cells #[.slice none 0 0] 27)) none:=B1 (B1 (World.grownBy_alloc _ _ _) _) _
 have hbox0:=A9 ((w.alloc (.cells #[.slice sa n n] 27)).alloc (.cells #[.slice sb m m] 27)) (.cells #[.slice none 0 0] 27) (w.heap.size+1+1) (by simp)
 have hboxb0:=(Below.heap_alloc _ (.cells #[.slice none 0 0] 27) (w.heap.size+1) (by simp)).trans (A9 (w.alloc (.cells #[.slice sa n n] 27)) (.cells #[.slice sb m m] 27) (w.heap.size+1) (by simp))
 have hboxa0:=(Below.heap_alloc _ (.cells #[.slice none 0 0] 27) (w.heap.size) (by simp;omega)).trans ((Below.heap_alloc _ (.cells #[.slice sb m m] 27) (w.heap.size) (by simp)).trans (A9 w (.cells #[.slice sa n n] 27) (w.heap.size) rfl))
 have hs0:(((w.alloc (.cells #[.slice sa n n] 27)).alloc (.cells #[.slice sb m m] 27)).alloc (.cells #[.slice none 0 0] 27)).heap.size=w.heap.size+1+1+1:=by simp
 go_enter Tryd.func58,Tryd.ntmps58
 go_wp2_with (at_make;refine wpList_make_full _ rfl _ _ 25 rfl _ 52 i0 (.int .u64 0) 1 Tryd.underlying25 hi hz0 hz1 .i64 .i64 _ _ (n+m) rfl rfl (by omega) (by omega) (by rw [hz2];omega) (by unfold maxLen;omega) (Nat.le_refl _) ?_;intro w1 hown hg1;obtain ⟨cs,hb1,hsz,hat⟩:=aC hown;have HS:=Lib.hid hsz;have HS0:=Lib.hid hs0;rw [hs0] at hb1;clear hsz hs0 hown;have hgw:=A4 hgw0 hg1;have hbox1:=A5 hg1 hbox0;have hboxb1:=A5 hg1 hboxb0;have hboxa1:=A5 hg1 hboxa0;obtain ⟨hca,hfa⟩:=B8 hboxa1;clear hg1 hgw0 hbox0 hboxb0 hboxa0)
 go_loopw [19] (fun i wr=>∃ (k:Nat) (us:List Nat) (cs2:Array Value),k<=n/\i = .int .i64 k/\Hid (us.length=k+m)/\Dig B us/\Blk wr (w.heap.size+1+1+1) cs2/\At cs2 0 (us++List.replicate (n-k) 0)/\w1.grownBy wr (some (w.heap.size+1+1+1))/\Hid (val B us=val B (xs.take k)*val B ys))
  (fun i _=>n-(intOf i).toNat)
 case atStart=>exact ⟨0,List.replicate m 0,cs,Nat.zero_le _,rfl,by show _=_;simp,Dig.replicate E5 _,hb1,by rw [Nat.sub_zero,List.replicate_append_replicate,Nat.add_comm m n];exact hat,B5 _ _,by show _=_;rw [dG];simp [val]⟩
 case round=>
  obtain ⟨k,us,cs2,hk,rfl,hul,hud,hbk,hat2,hg,hv⟩:=hrel
  have hcb:=B8 (Y2 hg hboxb1 (by omega))
  by_cases hlt:k<n
  · obtain ⟨x,ex⟩:∃ x,xs[k]'(by rw [Hn.out];omega)=x:=⟨_,rfl⟩
    have hxB:x<B:=ex ▸ hx.dig.get k _
    obtain ⟨b2,off2,cs3,rfl,h2,hax⟩:=hx.rd.get k (by rw [Hn.out];omega)
    have cx:wr.cell? ⟨b2,off2+k,none⟩=some (.int .u64 (x:Int)):=by
     rw [((h2.kept hgw (by simp)).kept hg (by have:=h2.lt;simp;omega)).cell,hax k (by rw [Hn.out];omega),ex]
    have EX:=Lib.hid ex
    clear ex
    obtain ⟨hcb,hfb⟩:=hcb
    go_wp2_with fail
    have e1:IntKind.i64.wrap ((k:Int)+(m:Int))=(k:Int)+(m:Int):=IntWalk.i64_in _ (by omega)
    have e2:IntKind.i64.wrap ((k:Int)+(m:Int)+1)=(k:Int)+(m:Int)+1:=IntWalk.i64_in _ (by omega)
    have f1:(k:Int)<=(k:Int)+(m:Int)+1:=by omega
    have f2:(k:Int)+(m:Int)+1<=(n:Int)+(m:Int):=by omega
    have f3:((k:Int)+(m:Int)+1).toNat=k+m+1:=by omega
    have f4:(0:Int)<=(k:Int):=by omega
    have f5:k≠n+m:=by omega
    go_still_tail 12,(by kernel_rfl)
    change wpList _ _ _ _ _ wr.drew
    clear e1 e2 f1 f2 f3 f4 f5
    go_wp2_with fail
    have hr:n-k=(n-k-1)+1:=by omega
    rw [hr] at hat2
    refine (oI _ _ k _ _ (us.drop k++[0]) cs2 sb m _ ys x (by rw [List.length_append,List.length_drop,hul.out];simp;omega) Hm.out hbk.drew (win_at hat2 (by rw [hul.out];omega)) (((hy.rd.beside (g:=w.heap.size+1+1+1) (by omega)).kept_none hgw).kept (C7 hg)) (by omega) (by omega) ((hud.drop k).snoc E5) hy.dig hxB).mono ?_
    rintro e w2 ⟨zs,cs4,rfl,hb4,hw4,hg4,hl4,hd4,hv4⟩
    rw [Hm.out] at hl4
    have HZ:=Lib.hid hv4
    have HL:=Lib.hid hl4
    have hat4:=win_put hat2 hul.out hl4 hw4
    clear hv4 hl4 hr cx hcb hfb
    go_wp2_with fail
    go_roundw
    case rel=>
     refine ⟨k+1,us.take k++zs,cs4,by omega,by go_num, ?_,(hud.take k).append hd4,hb4,by rw [show n-(k+1)=n-k-1 from by omega];exact hat4,A4 (C7 hg) hg4, ?_⟩
     · show _=_;rw [List.length_append,HL.out,List.length_take,hul.out];omega
     · show _=_
       rw [mul_step (by rw [hul.out];omega) hv.out HZ.out (by rw [hul.out,Hm.out]),B9 B xs k (by rw [Hn.out];omega),EX.out]
    case measure=>simp [intOf];omega
  · obtain rfl:k=n:=by omega
    have hbox2:=Y2 hg hbox1 (by omega)
    have hgw2:=D2 hgw hg (by omega)
    rw [Nat.sub_self,List.replicate_zero,List.append_nil] at hat2
    have HV:Hid (val B us=val B xs*val B ys):=by show _=_;rw [hv.out, <- Hn.out,List.take_length]
    clear hbox1 hboxb1 hboxa1 hb1 hat hca hfa hcb hv hg hgw
    go_wp2_with fail
    refine (lH _ _ (k+m) _ us hul.out (Rdo.of hbk hat2) (by omega) (Nat.le_refl _) hud).mono ?_
    rintro e w4 ⟨sc,zs,rfl,hl4,hv4,hfr,hg4⟩
    have hbox4:=A5 hg4 hbox2
    obtain ⟨hc4,hf4⟩:=B8 hbox4
    have hF:=Lib.hid (ret_setF (A4 hgw2 hg4) hbox4 (by decide) (by omega) hl4 (hv4.trans HV.out) (fresh_of hfr (by omega)) (.slice sc zs.length zs.length))
    clear hfr hv4 hbox4 hbox2 hg4 hgw2
    go_wp2_with fail
    exact bodyPost_ret (v := .agg #[.slice sc zs.length zs.length]) (by simp [results,Tryd.results58,go_sem,hc4]) rfl hF.out
theorem Mul_fresh (w:World) (va vb:Value) (a b K:Nat) (ha:NatV w va a) (hb:NatV w vb b) (hK:K<=1073741824) (la:a<B^K) (lb:b<B^K) :
 Calls Tryd.prog 58 #[va,vb] w (RetFresh w (a*b)):=by
 obtain ⟨sa,xs,rfl,hx,rfl⟩:=ha
 obtain ⟨sb,ys,rfl,hy,rfl⟩:=hb
 have h1:=hx.len la
 have h2:=hy.len lb
 exact Mul_core w sa sb xs ys hx hy _ _ rfl rfl (by omega) (by omega)
theorem kD (w:World) (va vb:Value) (a b K:Nat) (ha:NatV w va a) (hb:NatV w vb b) (hK:K<=1073741824) (la:a<B^K) (lb:b<B^K) :
 Calls Tryd.prog 58 #[va,vb] w (RetNat w (a*b)):=
 (Mul_fresh w va vb a b K ha hb hK la lb).mono fun _ _ h=>h.nat
def shl (x p:Nat):Nat:=x*2^p%B
def shr (x p:Nat):Nat:=x / 2^p
theorem Z5:B=2^64:=by decide
theorem P8 {p:Nat} (hp:p<=64):B=2^(64-p)*2^p:=by rw [<- Nat.pow_add,Nat.sub_add_cancel hp];exact Z5
theorem oU {x p:Nat} (hp:p<=64):shr x (64-p)=x*2^p / B:=by
 unfold shr
 rw [P8 hp,Nat.mul_div_mul_right _ _ (Nat.two_pow_pos p)]
theorem shl_bd {x p:Nat} (hp:p<=64):shl x p+2^p<=B:=by
 have h:shl x p=x%2^(64-p)*2^p:=by unfold shl;rw [P8 hp,Nat.mul_mod_mul_right]
 rw [h,P8 hp, <- Nat.succ_mul]
 exact Nat.mul_le_mul_right _ (Nat.mod_lt _ (Nat.two_pow_pos _))
theorem or_shl {c x p:Nat} (hp:p<=64) (hc:c<2^p):c ||| shl x p=c+shl x p:=by
 have h:shl x p=x%2^(64-p)*2^p:=by unfold shl;rw [P8 hp,Nat.mul_mod_mul_right]
 rw [h,Nat.or_comm,Nat.add_comm, <- Nat.shiftLeft_eq,Nat.shiftLeft_add_eq_or_of_lt hc]
theorem raise_step (k v x c s p:Nat) (hp:p<=64) (h:v+c*B^k=s*2^p):v+B^k*(c+shl x p)+shr x (64-p)*B^(k+1)=(s+B^k*x)*2^p:=by
 have e:shl x p+B*shr x (64-p)=x*2^p:=by rw [oU hp];exact Nat.mod_add_div ..
 generalize shl x p=a at *
 generalize shr x (64-p)=d at *
 rw [Nat.pow_succ]
 grind
theorem qZ {x p:Nat} (hx:x<B) (hp:p<=64):shr x (64-p)<2^p:=by
 unfold shr
 rw [Nat.div_lt_iff_lt_mul (Nat.two_pow_pos _),Nat.mul_comm, <- P8 hp]
 exact hx
theorem shl_int {c x p:Nat} (hp:p<=64) (hc:c<2^p):bits .or .u64 (c:Int) (IntKind.u64.wrap ((x:Int)*2^p))=((c+shl x p:Nat):Int):=by
 have h1:IntKind.u64.wrap ((x:Int)*2^p)=((shl x p:Nat):Int):=by
  rw [IntKind.wrap_u64]
  show _=((x*2^p%18446744073709551616:Nat):Int)
  rw [Int.natCast_emod,Int.natCast_mul,Int.natCast_pow];rfl
 have hb:c<18446744073709551616:=Nat.lt_of_lt_of_le hc (by have:=Nat.pow_le_pow_right (n:=2) (by omega) hp;simpa using this)
 rw [h1,bits_or_u64_nat c (shl x p) hb (Nat.mod_lt _ E5),or_shl hp hc]
theorem jJ {x q:Nat} : (x:Int) / 2^q=((shr x q:Nat):Int):=by
 unfold shr;rw [Int.natCast_ediv,Int.natCast_pow];rfl
theorem At.put_mid {cs:Array Value} {off:Nat} {A M R Z:List Nat} (h:At cs off (A++(M++R))) (hz:Z.length=M.length):At (Put cs (off+A.length) Z) off (A++(Z++R)):=by
 refine At.append ?_ (At.append ?_ ?_)
 · refine At.put_out ?_ (Or.inl (Nat.le_refl _))
   have:=h.take A.length
   rwa [List.take_left] at this
 · rcases h.le with e | e
   · simp only [List.append_eq_nil_iff] at e
     obtain ⟨_,e2,_⟩:=e
     rw [e2] at hz
     rw [List.length_eq_zero_iff.1 hz];exact At.nil _ _
   · simp only [List.length_append] at e
     exact iG _ _ _ (by omega)
 · refine At.put_out ?_ (Or.inr (Nat.le_refl _))
   have:=h.drop (A++M).length
   rw [<- List.append_assoc,List.drop_left,List.length_append, <- Nat.add_assoc] at this
   rwa [hz]
def Raised (w:World) (xs:List Nat) (k:Nat) (e:Ending) (w':World):Prop:=
 ∃ (g n:Nat) (cs:Array Value) (zs:List Nat),e = .returned (.slice (some ⟨g,0,none⟩) n n)/\w.heap.size<=g/\Blk w' g cs/\At cs 0 zs/\zs.length=n/\n=xs.length+k / 64+1/\Dig B zs/\val B zs=val B xs*2^k/\w.grownBy w' none
set_option maxHeartbeats 2000000 in
theorem dT (w:World) (sa:Option Addr) (n cap:Nat) (xs:List Nat) (k:Nat) (hn:xs.length=n) (hx:Rdo w sa xs) (dx:Dig B xs) (bn:n<=1073741824) (bk:k<=68719476736) :
 Calls Tryd.prog 110 #[.slice sa n cap,.int .i64 (k:Int)] w (Raised w xs k):=by
 have Hn:=Lib.hid hn
 obtain ⟨wh,hwh⟩:∃ wh,wh=k / 64:=⟨_,rfl⟩
 obtain ⟨p,hp⟩:∃ p,p=k%64:=⟨_,rfl⟩
 have hp64:p<64:=by omega
 have hk:k=64*wh+p:=by omega
 have HK:=Lib.hid hk
 have hd1:(k:Int) / 64=(wh:Int):=by omega
 have hd2:(k:Int)%64=(p:Int):=by omega
 have bw:wh<=1073741824:=by omega
 clear hn hk hwh hp
 obtain ⟨i0,hi,hz0,hz1,hz2⟩:=info_parts Tryd.infoU64
 go_enter Tryd.func110,Tryd.ntmps110
 go_wp2_with (at_make;refine wpList_make_full _ rfl _ _ 25 rfl _ 52 i0 (.int .u64 0) 1 Tryd.underlying25 hi hz0 hz1 .i64 .i64 _ _ (n+wh+1) rfl rfl (by omega) (by omega) (by rw [hz2];omega) (by unfold maxLen;omega) (Nat.le_refl _) ?_;intro w1 hown hg1;obtain ⟨cs,hb1,hsz,hat⟩:=aC hown;have HS:=Lib.hid hsz;clear hsz hown)
 clear hd1 hd2
 go_loopw [22] (fun i wr=>∃ (j c:Nat) (us:List Nat) (cs2:Array Value),j<=n/\i = .int .i64 j/\Hid (us.length=j)/\Dig B us/\c<2^p/\Blk wr w.heap.size cs2/\At cs2 0 (List.replicate wh 0++(us++(c :: List.replicate (n-j) 0)))/\w1.grownBy wr (some w.heap.size)/\Hid (val B us+c*B^j=val B (xs.take j)*2^p))
  (fun i _=>n-(intOf i).toNat)
 case atStart=>exact ⟨0,0,[],cs,Nat.zero_le _,rfl,rfl,Dig.nil _,Nat.two_pow_pos _,hb1,by
  rw [Nat.sub_zero,List.nil_append, <- List.replicate_succ,List.replicate_append_replicate,show wh+(n+1)=n+wh+1 from by omega];exact hat,B5 _ _,by show _=_;simp [val]⟩
 case round=>
  obtain ⟨j,c,us,cs2,hj,rfl,hul,hud,hcp,hbk,hat2,hg,hv⟩:=hrel
  by_cases hlt:j<n
  · obtain ⟨x,ex⟩:∃ x,xs[j]'(by rw [Hn.out];omega)=x:=⟨_,rfl⟩
    have hxB:x<B:=ex ▸ dx.get j _
    obtain ⟨b2,off2,cs3,rfl,h2,hax⟩:=hx.get j (by rw [Hn.out];omega)
    have cx:wr.cell? ⟨b2,off2+j,none⟩=some (.int .u64 (x:Int)):=by
     rw [((h2.kept hg1 (by simp)).kept hg (by have:=h2.lt;simp;omega)).cell,hax j (by rw [Hn.out];omega),ex]
    have cc:wr.cell? ⟨w.heap.size,j+wh,none⟩=some (.int .u64 (c:Int)):=by
     have:=hat2 (wh+j) (by simp [hul.out])
     rw [hbk.cell,show j+wh=0+(wh+j) from by omega,this,List.getElem_append_right (by simp),List.getElem_append_right (by simp [hul.out])]
     simp [hul.out]
    have fc:wr.frozen? ⟨w.heap.size,j+wh,none⟩=false:=hbk.frozen _
    obtain ⟨y,cy⟩:∃ y,wr.cell? ⟨w.heap.size,j+wh+1,none⟩=some (.int .u64 (y:Int)):=by
     have:=hat2 (wh+j+1) (by simp [hul.out];omega)
     rw [hbk.cell,show j+wh+1=0+(wh+j+1) from by omega]
     exact ⟨_,this⟩
    have fy:wr.frozen? ⟨w.heap.size,j+wh+1,none⟩=false:=hbk.frozen _
    have EX:=Lib.hid ex
    clear ex
    have e1:IntKind.i64.wrap ((j:Int)+(wh:Int))=(j:Int)+(wh:Int):=IntWalk.i64_in _ (by omega)
    have f1:(j:Int)+(wh:Int)<(n:Int)+(wh:Int)+1:=by omega
    have f3:((j:Int)+(wh:Int)).toNat=j+wh:=by omega
    have f4:(0:Int)<=(j:Int)+(wh:Int):=by omega
    go_wp2_with fail
    go_still_tail 11,(by kernel_rfl)
    change wpList _ _ _ _ _ wr.drew
    clear e1 f1 f3 f4
    go_wp2_with fail
    clear cx cc fc fy cy
    go_roundw
    case rel=>
     have hB:=P8 (p:=p) (by omega)
     refine ⟨j+1,shr x (64-p),us++[c+shl x p],Put cs2 (0+(List.replicate wh 0++us).length) [c+shl x p,shr x (64-p)],by omega,by go_num, ?_,hud.snoc ?_,qZ hxB (by omega), ?_, ?_, ?_, ?_⟩
     · show _=_;rw [List.length_append,hul.out];rfl
     · have:=shl_bd (x:=x) (p:=p) (by omega);omega
     · rw [shl_int (by omega) hcp,jJ]
       have:=(hbk.setCell (j+wh) (.int .u64 ((c+shl x p:Nat):Int))).setCell (j+wh+1) (.int .u64 ((shr x (64-p):Nat):Int))
       simp only [Put,List.length_append,List.length_replicate,hul.out]
       rw [show 0+(wh+j)=j+wh from by omega]
       exact this
     · have h2:At cs2 0 ((List.replicate wh 0++us)++([c,0]++List.replicate (n-(j+1)) 0)):=by
        rw [show n-j=n-(j+1)+1 from by omega,List.replicate_succ] at hat2
        simpa using hat2
       have:=h2.put_mid (Z:=[c+shl x p,shr x (64-p)]) rfl
       simpa using this
     · exact C7 (C2 (C2 hg _ _) _ _)
     · show _=_
       rw [F9,hul.out,raise_step j _ x c _ p (by omega) hv.out,B9 B xs j (by rw [Hn.out];omega),EX.out]
    case measure=>simp [intOf];omega
  · obtain rfl:j=n:=by omega
    rw [Nat.sub_self,List.replicate_zero] at hat2
    have HF:Hid (Raised w xs k (.returned (.slice (some ⟨w.heap.size,0,none⟩) (j+wh+1) (j+wh+1))) wr):=by
     have hk:=HK.out
     have hc2:c<B:=Nat.lt_of_lt_of_le hcp (by rw [P8 (p:=p) (by omega)];exact Nat.le_mul_of_pos_left _ (Nat.two_pow_pos _))
     refine ⟨_,_,cs2,_,rfl,Nat.le_refl _,hbk,hat2, ?_, ?_, ?_, ?_,D2 hg1 hg (Nat.le_refl _)⟩
     · simp only [List.length_append,List.length_replicate,hul.out,List.length_cons,List.length_nil];omega
     · rw [Hn.out];omega
     · exact (Dig.replicate E5 _).append (hud.snoc hc2)
     · rw [L7,dG,List.length_replicate,Nat.zero_add,F9,hul.out,Nat.mul_comm (B^j) c,hv.out, <- Hn.out,List.take_length,hk,Nat.pow_add,Nat.pow_mul, <- Z5]
       rw [Nat.mul_left_comm,Nat.mul_comm (B^wh),Nat.mul_comm (2^p)]
    clear hbk hat2 hv hg hg1 hat hb1
    go_wp2_with fail
    go_ret
    exact HF
theorem low_bd {x y p:Nat} (hx:x<B) (hp:p<64):shr x p+shl y (64-p)<B:=by
 have h1:=shl_bd (x:=y) (p:=64-p) (by omega)
 have h2:shr x p<2^(64-p):=by
  have:=qZ (x:=x) (p:=64-p) hx (by omega)
  rwa [show 64-(64-p)=p from by omega] at this
 omega
theorem low_int {x y p:Nat} (hx:x<B) (hp:p<64):bits .or .u64 ((x:Int) / 2^p) (IntKind.u64.wrap ((y:Int)*2^(64-p)))=((shr x p+shl y (64-p):Nat):Int):=by
 rw [jJ]
 refine shl_int (by omega) ?_
 have:=qZ (x:=x) (p:=64-p) hx (by omega)
 rwa [show 64-(64-p)=p from by omega] at this
theorem shl_mod {y p:Nat} (hp:p<=64):shl y (64-p)=y%2^p*2^(64-p):=by
 unfold shl
 rw [P8 (p:=64-p) (by omega),show 64-(64-p)=p from by omega,Nat.mul_mod_mul_right]
theorem lQ (k v x y s p:Nat) (hp:p<64) (r0:Nat) (h:v*2^p+r0=s+x%2^p*B^k) :
 (v+B^k*(shr x p+shl y (64-p)))*2^p+r0=(s+B^k*x)+y%2^p*B^(k+1):=by
 have e1:x%2^p+2^p*shr x p=x:=Nat.mod_add_div ..
 have e2:=P8 (p:=p) (by omega)
 rw [shl_mod (by omega),Nat.pow_succ]
 generalize B^k=T at *
 rw [e2]
 clear e2
 generalize y%2^p=r at *
 generalize x%2^p=r1 at *
 generalize shr x p=a at *
 generalize 2^p=P at *
 generalize 2^(64-p)=Q at *
 have e3:T*x=T*r1+T*(P*a):=by rw [<- Nat.mul_add,e1]
 grind
def Lowered (w:World) (b off:Nat) (xs:List Nat) (k:Nat) (cs:Array Value) (e:Ending) (w':World):Prop:=
 ∃ (sa:Option Addr) (m cap:Nat) (cs':Array Value) (zs:List Nat),e = .returned (.slice sa m cap)/\m<=cap/\zs.length=m/\m<=xs.length/\Dig B zs/\val B zs=val B xs / 2^k/\(0<m->sa=some ⟨b,off,none⟩)/\(m=0->sa=none)/\Blk w' b cs'/\At cs' off zs/\w.grownBy w' (some b)
theorem low_div {xs:List Nat} (dx:Dig B xs) (wh p:Nat) (h:wh<=xs.length):val B xs / 2^(64*wh+p)=val B (xs.drop wh) / 2^p:=by
 have h1:=J6 B xs wh h
 have h2:=Q2 B (xs.take wh) (dx.take wh)
 rw [List.length_take,Nat.min_eq_left h] at h2
 rw [Nat.pow_add,Nat.pow_mul, <- Z5, <- Nat.div_div_eq_div_mul,h1,Nat.add_mul_div_left _ _ (Nat.pow_pos E5),Nat.div_eq_of_lt h2,Nat.zero_add]
set_option maxHeartbeats 4000000 in
theorem X7 (w:World) (b off n cap:Nat) (xs:List Nat) (cs:Array Value) (k:Nat) (hn:xs.length=n) (hb:Blk w b cs) (hx:At cs off xs) (dx:Dig B xs) (hcap:n<=cap) (bn:n<=1073741824) (bk:k<=68719476736) :
 Calls Tryd.prog 109 #[.slice (some ⟨b,off,none⟩) n cap,.int .i64 (k:Int)] w (Lowered w b off xs k cs):=by
 have Hn:=Lib.hid hn
 obtain ⟨wh,hwh⟩:∃ wh,wh=k / 64:=⟨_,rfl⟩
 obtain ⟨p,hp⟩:∃ p,p=k%64:=⟨_,rfl⟩
 have hp64:p<64:=by omega
 have hk:k=64*wh+p:=by omega
 have HK:=Lib.hid hk
 have hd1:(k:Int) / 64=(wh:Int):=by omega
 have hd2:(k:Int)%64=(p:Int):=by omega
 have bw:wh<=1073741824:=by omega
 clear hn hk hwh hp
 by_cases hw:n<=wh
 · have HF:Hid (Lowered w b off xs k cs (.returned (.slice none 0 0)) w):=by
    refine ⟨none,0,0,cs,[],rfl,Nat.le_refl _,rfl,Nat.zero_le _,Dig.nil _, ?_,by simp,fun _=>rfl,hb,At.nil _ _,B5 _ _⟩
    have h2:=Q2 B xs dx
    rw [Hn.out] at h2
    have h3:B^n<=2^k:=by
     rw [HK.out,Nat.pow_add,Nat.pow_mul, <- Z5]
     exact Nat.le_trans (Nat.pow_le_pow_right E5 hw) (Nat.le_mul_of_pos_right _ (Nat.two_pow_pos _))
    rw [Nat.div_eq_of_lt (by omega)];rfl
   go_enter Tryd.func109,Tryd.ntmps109
   go_wp2_with fail
   go_ret
   exact HF
 · have hwn:wh<n:=by omega
   have hdec:decide (n<=wh)=false:=decide_eq_false hw
   clear hw
   go_enter Tryd.func109,Tryd.ntmps109
   go_wp2_with fail
   rw [hd2]
   clear hd1 hd2
   go_loopw [23] (fun i wr=>∃ (j:Nat) (zs:List Nat),j<=n-wh/\i = .int .i64 j/\Hid (zs.length=j)/\Dig B zs/\Blk wr b (Put cs off zs)/\w.grownBy wr (some b)/\Hid (val B zs*2^p+(xs.drop wh).getD 0 0%2^p=val B ((xs.drop wh).take j)+(xs.drop wh).getD j 0%2^p*B^j))
    (fun i _=>n-wh-(intOf i).toNat)
   case atStart=>exact ⟨0,[],Nat.zero_le _,rfl,rfl,Dig.nil _,hb,B5 _ _,by show _=_;simp [val]⟩
   case round=>
    obtain ⟨j,zs,hj,rfl,hzl,hzd,hbk,hg,hv⟩:=hrel
    by_cases hlt:j+wh<n
    · obtain ⟨x,ex⟩:∃ x,xs[j+wh]'(by rw [Hn.out];omega)=x:=⟨_,rfl⟩
      have hxB:x<B:=ex ▸ dx.get _ _
      have cx:wr.cell? ⟨b,off+(j+wh),none⟩=some (.int .u64 (x:Int)):=by
       rw [hbk.cell,J3 _ _ _ _ (by rw [hzl.out];omega),hx (j+wh) (by rw [Hn.out];omega),ex]
      have fx:wr.frozen? ⟨b,off+j,none⟩=false:=hbk.frozen _
      obtain ⟨x0,cx0⟩:∃ y,wr.cell? ⟨b,off+j,none⟩=some (.int .u64 (y:Int)):=⟨_,by
       rw [hbk.cell,J3 _ _ _ _ (by rw [hzl.out];omega)];exact hx j (by rw [Hn.out];omega)⟩
      have EX:=Lib.hid ex
      clear ex
      have e1:IntKind.i64.wrap ((j:Int)+(wh:Int))=(j:Int)+(wh:Int):=IntWalk.i64_in _ (by omega)
      have e2:IntKind.i64.wrap (64-(p:Int))=64-(p:Int):=IntWalk.i64_in _ (by omega)
      have f1:(j:Int)+(wh:Int)<(n:Int):=by omega
      have f3:((j:Int)+(wh:Int)).toNat=j+wh:=by omega
      have f4:(0:Int)<=(j:Int)+(wh:Int):=by omega
      have f5:(j:Int)<(n:Int):=by omega
      have f6:(0:Int)<=64-(p:Int):=by omega
      by_cases hl2:j+1+wh<n
      · obtain ⟨y,ey⟩:∃ y,xs[j+1+wh]'(by rw [Hn.out];omega)=y:=⟨_,rfl⟩
        have cy:wr.cell? ⟨b,off+(j+1+wh),none⟩=some (.int .u64 (y:Int)):=by
         rw [hbk.cell,J3 _ _ _ _ (by rw [hzl.out];omega),hx (j+1+wh) (by rw [Hn.out];omega),ey]
        have EY:=Lib.hid ey
        clear ey
        go_wp2_with fail
        go_still_tail 16,(by kernel_rfl)
        change wpList _ _ _ _ _ wr.drew
        clear e1 e2 f1 f3 f4 f5 f6
        go_wp2_with fail
        clear cx fx cx0 cy
        go_roundw
        case rel=>
         refine ⟨j+1,zs++[shr x p+shl y (64-p)],by omega,by go_num, ?_,hzd.snoc (low_bd hxB hp64), ?_,C7 (C2 hg _ _), ?_⟩
         · show _=_;rw [List.length_append,hzl.out];rfl
         · rw [low_int hxB hp64,N5,hzl.out];exact (hbk.setCell _ _).drew
         · show _=_
           have hY:j<(xs.drop wh).length:=by rw [List.length_drop,Hn.out];omega
           have h1:(xs.drop wh).getD j 0=x:=by rw [<- EX.out];simp [List.getD_eq_getElem?_getD,Hn.out,hlt,Nat.add_comm wh]
           have h2:(xs.drop wh).getD (j+1) 0=y:=by rw [<- EY.out];simp [List.getD_eq_getElem?_getD,Hn.out,hl2,Nat.add_comm wh]
           have hv:=hv.out
           rw [h1] at hv
           rw [F9,hzl.out,h2,F5 B _ j hY,h1]
           exact lQ j _ x y _ p hp64 _ hv
        case measure=>simp [intOf];omega
      · have e0:bits .or .u64 ((x:Int) / 2^p) 0=((shr x p+shl 0 (64-p):Nat):Int):=by
         have:=low_int (y:=0) hxB hp64
         rwa [show IntKind.u64.wrap (((0:Nat):Int)*2^(64-p))=0 from by rw [IntKind.wrap_u64];simp] at this
        have E0:=Lib.hid e0
        clear e0
        go_wp2_with fail
        go_still_tail 16,(by kernel_rfl)
        change wpList _ _ _ _ _ wr.drew
        clear e1 e2 f1 f3 f4 f5 f6
        go_wp2_with fail
        clear cx fx cx0
        go_roundw
        case rel=>
         refine ⟨j+1,zs++[shr x p+shl 0 (64-p)],by omega,by go_num, ?_,hzd.snoc (low_bd hxB hp64), ?_,C7 (C2 hg _ _), ?_⟩
         · show _=_;rw [List.length_append,hzl.out];rfl
         · rw [E0.out,N5,hzl.out];exact (hbk.setCell _ _).drew
         · show _=_
           have hY:j<(xs.drop wh).length:=by rw [List.length_drop,Hn.out];omega
           have h1:(xs.drop wh).getD j 0=x:=by rw [<- EX.out];simp [List.getD_eq_getElem?_getD,Hn.out,hlt,Nat.add_comm wh]
           have h2:(xs.drop wh).getD (j+1) 0=0:=by
            rw [List.getD_eq_getElem?_getD,List.getElem?_eq_none (by rw [List.length_drop,Hn.out];omega)];rfl
           have hv:=hv.out
           rw [h1] at hv
           rw [F9,hzl.out,h2,F5 B _ j hY,h1]
           exact lQ j _ x 0 _ p hp64 _ hv
        case measure=>simp [intOf];omega
    · obtain rfl:j=n-wh:=by omega
      have hsz:off+n<=cs.size:=by
       rcases hx.le with h | h
       · exfalso;have:=Hn.out;rw [h] at this;simp at this;omega
       · rw [Hn.out] at h;exact h
      have HF:Hid (Lowered w b off xs k cs (.returned (.slice (some ⟨b,off,none⟩) (n-wh) cap)) wr):=by
       refine ⟨_,_,_,Put cs off zs,zs,rfl,by omega,hzl.out,by rw [Hn.out];omega,hzd, ?_,fun _=>rfl,fun h=>by omega,hbk,iG _ _ _ (by rw [hzl.out];omega),hg⟩
       have hv:=hv.out
       rw [show (xs.drop wh).take (n-wh)=xs.drop wh from List.take_of_length_le (by rw [List.length_drop,Hn.out];omega)] at hv
       have h2:(xs.drop wh).getD (n-wh) 0=0:=by
        rw [List.getD_eq_getElem?_getD,List.getElem?_eq_none (by rw [List.length_drop,Hn.out];omega)];rfl
       rw [h2,Nat.zero_mod,Nat.zero_mul,Nat.add_zero] at hv
       rw [HK.out,low_div dx wh p (by rw [Hn.out];omega), <- hv,Nat.mul_comm,Nat.mul_add_div (Nat.two_pow_pos _),Nat.div_eq_of_lt (Nat.mod_lt _ (Nat.two_pow_pos _)),Nat.add_zero]
      clear hbk hg hv hzl hzd
      go_wp2_with fail
      go_ret
      exact HF
theorem Lowered.rdo {b off:Nat} {w':World} {sa:Option Addr} {m:Nat} {cs':Array Value} {zs:List Nat} (hl:zs.length=m) (h : 0<m->sa=some ⟨b,off,none⟩) (hb:Blk w' b cs') (ha:At cs' off zs):Rdo w' sa zs:=by
 rcases Nat.eq_zero_or_pos m with h0 | h0
 · exact Or.inl (List.length_eq_zero_iff.1 (hl.trans h0))
 · exact Or.inr ⟨b,off,cs',h h0,hb,ha⟩
theorem fold_tab:(⟨(([0,1,2,2,3,3,3,3,4,4,4,4,4,4,4,4,5,5,5,5,5,5,5,5,5,5,5,5,5,5,5,5,6,6,6,6,6,6,6,6,6,6,6,6,6,6,6,6,6,6,6,6,6,6,6,6,6,6,6,6,6,6,6,6].append [7,7,7,7,7,7,7,7,7,7,7,7,7,7,7,7,7,7,7,7,7,7,7,7,7,7,7,7,7,7,7,7,7,7,7,7,7,7,7,7,7,7,7,7,7,7,7,7,7,7,7,7,7,7,7,7,7,7,7,7,7,7,7,7]).append ([8,8,8,8,8,8,8,8,8,8,8,8,8,8,8,8,8,8,8,8,8,8,8,8,8,8,8,8,8,8,8,8,8,8,8,8,8,8,8,8,8,8,8,8,8,8,8,8,8,8,8,8,8,8,8,8,8,8,8,8,8,8,8,8].append [8,8,8,8,8,8,8,8,8,8,8,8,8,8,8,8,8,8,8,8,8,8,8,8,8,8,8,8,8,8,8,8,8,8,8,8,8,8,8,8,8,8,8,8,8,8,8,8,8,8,8,8,8,8,8,8,8,8,8,8,8,8,8,8])).toArray⟩:ByteArray)=Lib.len8tab:=by decide +kernel
theorem tab_at (b:Int) (h0 : 0<=b) (h1:b<=255) (hs:b.toNat<Lib.len8tab.size):((Lib.len8tab[b.toNat]'hs).toNat:Int)=(Lib.bitLen b.toNat:Int):=by
 have:=Lib.len8_of b h0 h1
 rw [<- this]
 simp [Lib.len8,hs]
theorem Z6 (k b:Int) (n:Nat) (h0 : 0<=b) (h1:b<=255) (hs:b.toNat<Lib.len8tab.size) (hk : 0<=k) (hk2:k<=56) (e:(n:Int)=k+(Lib.bitLen b.toNat:Int)):wrap64 (k+wrap64 ((Lib.len8tab[b.toNat]'hs).toNat:Int))=(n:Int):=by
 have l:=Lib.bitLen_le8' b h0 h1
 rw [tab_at b h0 h1 hs,IntWalk.wrap64_in (Lib.bitLen b.toNat:Int) ⟨by omega,by omega⟩,IntWalk.wrap64_in _ ⟨by omega,by omega⟩,e]
theorem tab_one (b:Int) (h0 : 0<=b) (h1:b<=255) (hs:b.toNat<Lib.len8tab.size):wrap64 ((Lib.len8tab[b.toNat]'hs).toNat:Int)=(Lib.bitLen b.toNat:Int):=by
 have l:=Lib.bitLen_le8' b h0 h1
 rw [tab_at b h0 h1 hs,IntWalk.wrap64_in (Lib.bitLen b.toNat:Int) ⟨by omega,by omega⟩]
theorem tab_two (b:Int) (h0 : 0<=b) (h1:b<=255) (hs:b.toNat<Lib.len8tab.size):wrap64 (wrap64 ((Lib.len8tab[b.toNat]'hs).toNat:Int))=(Lib.bitLen b.toNat:Int):=by
 have l:=Lib.bitLen_le8' b h0 h1
 rw [tab_one b h0 h1 hs,IntWalk.wrap64_in (Lib.bitLen b.toNat:Int) ⟨by omega,by omega⟩]
set_option maxHeartbeats 4000000 in
theorem len64_int (x:Int) (h0 : 0<=x) (h1:x<=18446744073709551615) (w:World) :
 Calls Tryd.prog 98 #[.int .u64 x] w fun e w'=>e = .returned (.int .i64 (Lib.bitLen x.toNat:Int))/\w=w':=by
 have hsz:=Lib.len8tab_size
 go_enter Tryd.func98,Tryd.ntmps98
 rw [fold_tab]
 go_wp2
 all_goals (go_ret;refine ⟨congrArg Ending.returned (congrArg (Value.int IntKind.i64) ?_),rfl⟩)
 all_goals first
  | (have e:(x / 4294967296 / 65536 / 256).toNat=x.toNat / 72057594037927936:=by omega
     have s:=Lib.bitLen_shift56 x.toNat (by omega) (by omega)
     exact Z6 56 (x / 4294967296 / 65536 / 256) _ (by omega) (by omega) _ (by omega) (by omega) (by rw [e,s];omega))
  | (have e:(x / 4294967296 / 65536).toNat=x.toNat / 281474976710656:=by omega
     have s:=Lib.bitLen_shift48 x.toNat (by omega) (by omega)
     exact Z6 48 (x / 4294967296 / 65536) _ (by omega) (by omega) _ (by omega) (by omega) (by rw [e,s];omega))
  | (have e:(x / 4294967296 / 256).toNat=x.toNat / 1099511627776:=by omega
     have s:=Lib.bitLen_shift40 x.toNat (by omega) (by omega)
     exact Z6 40 (x / 4294967296 / 256) _ (by omega) (by omega) _ (by omega) (by omega) (by rw [e,s];omega))
  | (have e:(x / 4294967296).toNat=x.toNat / 4294967296:=by omega
     have s:=Lib.bitLen_shift32 x.toNat (by omega) (by omega)
     exact Z6 32 (x / 4294967296) _ (by omega) (by omega) _ (by omega) (by omega) (by rw [e,s];omega))
  | (have e:(x / 65536 / 256).toNat=x.toNat / 16777216:=by omega
     have s:=Lib.bitLen_shift24 x.toNat (by omega) (by omega)
     exact Z6 24 (x / 65536 / 256) _ (by omega) (by omega) _ (by omega) (by omega) (by rw [e,s];omega))
  | (have e:(x / 65536).toNat=x.toNat / 65536:=by omega
     have s:=Lib.bitLen_shift16 x.toNat (by omega) (by omega)
     exact Z6 16 (x / 65536) _ (by omega) (by omega) _ (by omega) (by omega) (by rw [e,s];omega))
  | (have e:(x / 256).toNat=x.toNat / 256:=by omega
     have s:=Lib.bitLen_shift8 x.toNat (by omega) (by omega)
     exact Z6 8 (x / 256) _ (by omega) (by omega) _ (by omega) (by omega) (by rw [e,s];omega))
  | exact tab_one x (by omega) (by omega) _
  | exact tab_two x (by omega) (by omega) _
theorem pK (x:Nat) (hx:x<B) (w:World) :
 Calls Tryd.prog 98 #[.int .u64 (x:Int)] w fun e w'=>e = .returned (.int .i64 (Lib.bitLen x:Int))/\w=w':=by
 have hx:x<18446744073709551616:=hx
 have:=len64_int (x:Int) (by omega) (by omega) w
 rwa [Int.toNat_natCast] at this
theorem R7:∀ (n x:Nat),x<n->x≠0->x<2^64->2^(Lib.bitLen x-1)<=x/\x<2^Lib.bitLen x/\1<=Lib.bitLen x:=by
 intro n
 induction n with
 | zero=>intro x h;omega
 | succ n ih=>
   intro x h h0 hx
   rw [Lib.bitLen_half x h0 hx]
   by_cases h2:x / 2=0
   · have:x=1:=by omega
     subst this
     decide
   · obtain ⟨h3,h4,h5⟩:=ih (x / 2) (by omega) h2 (by omega)
     refine ⟨?_, ?_,by omega⟩
     · rw [show 1+Lib.bitLen (x / 2)-1=(Lib.bitLen (x / 2)-1)+1 from by omega,Nat.pow_succ];omega
     · rw [Nat.add_comm,Nat.pow_succ];omega
theorem cW (x:Nat) (hx:x<B):Lib.bitLen x<=64:=by
 by_cases h:x=0
 · subst h;decide
 · obtain ⟨h1,_,h3⟩:=R7 (x+1) x (by omega) h (by rw [<- Z5];exact hx)
   rcases Nat.lt_or_ge 64 (Lib.bitLen x) with h4 | h4
   · have : 2^64<=2^(Lib.bitLen x-1):=Nat.pow_le_pow_right (by omega) (by omega)
     rw [<- Z5] at this;omega
   · exact h4
set_option maxHeartbeats 1000000 in
theorem lS (x:Nat) (hx:x<B) (w:World) :
 Calls Tryd.prog 121 #[.int .u64 (x:Int)] w fun e w'=>e = .returned (.int .i64 ((64-Lib.bitLen x:Nat):Int))/\w=w':=by
 have hl:=cW x hx
 go_enter Tryd.func121,Tryd.ntmps121
 go_wp2_with fail
 refine (pK x hx _).mono ?_
 rintro e w' ⟨rfl,rfl⟩
 go_wp2_with fail
 go_ret
 exact ⟨congrArg Ending.returned (congrArg (Value.int IntKind.i64) (by omega)),rfl⟩
def bM (hi lo y:Nat):Nat:=(hi*B+lo) / y
def jH (hi lo y:Nat):Nat:=(hi*B+lo)%y
def Dived (w:World) (hi lo y:Nat) (e:Ending) (w':World):Prop:=e = .returned (.tuple #[.int .u64 (bM hi lo y:Int),.int .u64 (jH hi lo y:Int)]) /\ ∃ q,w'=w.drewN q
set_option maxHeartbeats 1000000 in
theorem div64_zero (lo y:Nat) (hl:lo<B) (hy:y<B) (h0 : 0<y) (w:World) :
 Calls Tryd.prog 120 #[.int .u64 0,.int .u64 (lo:Int),.int .u64 (y:Int)] w (Dived w 0 lo y):=by
 have e1:((lo:Int) / (y:Int))=(bM 0 lo y:Int):=by unfold bM;rw [Nat.zero_mul,Nat.zero_add];exact (Int.natCast_ediv ..).symm
 have e2:((lo:Int)%(y:Int))=(jH 0 lo y:Int):=by unfold jH;rw [Nat.zero_mul,Nat.zero_add];exact (Int.natCast_emod ..).symm
 have hq:bM 0 lo y<B:=by
  unfold bM;rw [Nat.zero_mul,Nat.zero_add];exact Nat.lt_of_le_of_lt (Nat.div_le_self _ _) hl
 have E2:=Lib.hid e2
 have E3:=Lib.hid (Mul64.wrapN _ hq)
 clear e2 hq
 have f1:((y:Int) == 0)=false:=beq_eq_false_iff_ne.2 (by omega)
 have f2:decide ((y:Int)<=0)=false:=decide_eq_false (by omega)
 go_enter Tryd.func120,Tryd.ntmps120
 go_wp2_with fail
 go_quiet (fail)
 go_wp2_with fail
 go_ret2
 refine ⟨?_,_,rfl⟩
 show Ending.returned (.tuple #[.int .u64 (IntKind.u64.wrap (bM 0 lo y:Int)),.int .u64 ((lo:Int)%(y:Int))])=_
 rw [E2.out,E3.out]
theorem dg_ge {u y1 y0 d b:Nat} (hb : 0<b) (h1 : 0<y1) (hd:d<b):(u*b+d) / (y1*b+y0)<=u / y1:=by
 have h:(u*b+d) / (y1*b+y0)<=(u*b+d) / (b*y1):=Nat.div_le_div_left (by rw [Nat.mul_comm];omega) (Nat.mul_pos hb h1)
 rw [<- Nat.div_div_eq_div_mul,Nat.mul_comm u b,Nat.mul_add_div hb,Nat.div_eq_of_lt hd,Nat.add_zero] at h
 rwa [Nat.mul_comm u b]
theorem dg_lt {u y1 y0 d b:Nat} (hd:d<b) (hu:u<y1*b+y0):(u*b+d) / (y1*b+y0)<b:=by
 rw [Nat.div_lt_iff_lt_mul (by omega)]
 have:(u+1)*b<=(y1*b+y0)*b:=Nat.mul_le_mul_right _ hu
 rw [Nat.add_mul] at this
 rw [Nat.mul_comm b];omega
theorem dg_dec {u y1 y0 d b q r:Nat} (h:q*y1+r=u) (ht:b*r+d<q*y0):(u*b+d) / (y1*b+y0)+1<=q:=by
 have hq : 0<q:=by
  rcases Nat.eq_zero_or_pos q with h0 | h0
  · subst h0;simp at ht
  · exact h0
 have hy : 0<y0:=by
  rcases Nat.eq_zero_or_pos y0 with h0 | h0
  · subst h0;simp at ht
  · exact h0
 have:(u*b+d)<(y1*b+y0)*q:=by
  have e:(y1*b+y0)*q=(q*y1)*b+q*y0:=by grind
  have e2:u*b=(q*y1)*b+b*r:=by rw [<- h];grind
  omega
 exact Nat.div_lt_of_lt_mul this
theorem jX {u y1 y0 d b q r:Nat} (hy : 0<y1*b+y0) (h:q*y1+r=u) (ht:q*y0<=b*r+d):q<=(u*b+d) / (y1*b+y0):=by
 rw [Nat.le_div_iff_mul_le hy]
 have e:q*(y1*b+y0)=(q*y1)*b+q*y0:=by grind
 have e2:u*b=(q*y1)*b+b*r:=by rw [<- h];grind
 omega
theorem dg_stop2 {y0 d b q r:Nat} (hr:b<=r) (hq:q<=b) (hy:y0<b):q*y0<=b*r+d:=by
 have h1:q*y0<=b*b:=Nat.mul_le_mul hq (by omega)
 have h2:b*b<=b*r:=Nat.mul_le_mul_left _ hr
 omega
def W:Nat:=4294967296
theorem W_mul:W*W=B:=by decide
theorem wrap_rem {u d q y r:Nat} (h:u*W+d=q*y+r) (hr:r<B) :
 IntKind.u64.wrap (IntKind.u64.wrap (IntKind.u64.wrap ((u:Int)*4294967296)+(d:Int))-IntKind.u64.wrap ((q:Int)*(y:Int)))=(r:Int):=by
 have h2:(u:Int)*4294967296+(d:Int)=(q:Int)*(y:Int)+(r:Int):=by
  have:=congrArg (fun n:Nat=>(n:Int)) h
  simpa [W] using this
 have hr:r<18446744073709551616:=hr
 simp only [IntKind.wrap_u64]
 generalize (q:Int)*(y:Int)=p at *
 omega
theorem dived_end {u d1 d0 ys q1 v q0 hi lo y s:Nat} (h1:u*W+d1=q1*ys+v) (h2:v*W+d0=q0*ys+(v*W+d0)%ys) (hN:u*B+(d1*W+d0)=(hi*B+lo)*2^s) (hY:ys=y*2^s) (hy : 0<y) :
 q1*W+q0=bM hi lo y/\(v*W+d0)%ys / 2^s=jH hi lo y:=by
 have hp : 0<2^s:=Nat.two_pow_pos s
 have hlt:(v*W+d0)%ys<ys:=Nat.mod_lt _ (by rw [hY];exact Nat.mul_pos hy hp)
 generalize (v*W+d0)%ys=r at *
 have e1:(hi*B+lo)*2^s=(q1*W+q0)*y*2^s+r:=by
  rw [<- hN, <- W_mul]
  have:u*(W*W)+(d1*W+d0)=(u*W+d1)*W+d0:=by grind
  rw [this,h1]
  have:(q1*ys+v)*W+d0=q1*ys*W+(v*W+d0):=by grind
  rw [this,h2,hY];grind
 show q1*W+q0=(hi*B+lo) / y/\r / 2^s=(hi*B+lo)%y
 generalize hi*B+lo=N at *
 generalize q1*W+q0=Q at *
 have hQN:Q*y<=N:=by
  rcases Nat.lt_or_ge N (Q*y) with h | h
  · have:=Nat.mul_lt_mul_of_pos_right h hp;omega
  · exact h
 obtain ⟨t,ht⟩:∃ t,N=Q*y+t:=⟨N-Q*y,by omega⟩
 have hr:r=t*2^s:=by rw [ht,Nat.add_mul] at e1;omega
 have hty:t<y:=by
  rw [hr,hY] at hlt
  exact Nat.lt_of_mul_lt_mul_right hlt
 have e2:N / y=Q:=by rw [ht,Nat.mul_comm,Nat.mul_add_div hy,Nat.div_eq_of_lt hty,Nat.add_zero]
 have e3:N%y=t:=by rw [ht,Nat.mul_comm,Nat.mul_add_mod,Nat.mod_eq_of_lt hty]
 exact ⟨e2.symm,by rw [hr,Nat.mul_div_cancel _ hp];exact e3.symm⟩
set_option maxHeartbeats 8000000 in
theorem div64_core (hi lo y s u y1 y0 d1 d0:Nat) (U Y1 Y0 D1 D0 YS LS:Int) (w:World) (h0 : 0<hi) (hlt:hi<y) (hs:s=64-Lib.bitLen y) (hy:y<B) (s64:s<=64)
 (e1:IntKind.u64.wrap ((y:Int)*2^s)=YS) (e2:IntKind.u64.wrap ((lo:Int)*2^s)=LS)
 (e3:bits .or .u64 (IntKind.u64.wrap ((hi:Int)*2^s)) ((lo:Int) / 2^(64-s))=U)
 (e4:bits .and .u64 YS 4294967295=Y0) (e5:YS / 4294967296=Y1) (e6:bits .and .u64 LS 4294967295=D0) (e7:LS / 4294967296=D1)
 (by1 : 2147483648<=Y1) (by1':Y1<4294967296) (by0 : 0<=Y0) (by0':Y0<4294967296) (bd1 : 0<=D1) (bd1':D1<4294967296) (bd0 : 0<=D0) (bd0':D0<4294967296)
 (hu0 : 0<=U) (hu:U<YS) (hYS:YS<=18446744073709551615)
 (HU:Hid (U=(u:Int))) (HY1:Hid (Y1=(y1:Int))) (HY0:Hid (Y0=(y0:Int))) (HD1:Hid (D1=(d1:Int))) (HD0:Hid (D0=(d0:Int))) (HYS:Hid (YS=((y1*W+y0:Nat):Int)))
 (HN:Hid (u*B+(d1*W+d0)=(hi*B+lo)*2^s)) (HY:Hid (y1*W+y0=y*2^s)) :
 Calls Tryd.prog 120 #[.int .u64 (hi:Int),.int .u64 (lo:Int),.int .u64 (y:Int)] w (Dived w hi lo y):=by
 have f1:((y:Int) == 0)=false:=beq_eq_false_iff_ne.2 (by omega)
 have f3:((hi:Int) == 0)=false:=beq_eq_false_iff_ne.2 (by omega)
 have f2:decide (y<=hi)=false:=decide_eq_false (by omega)
 have f4:(Y1 == 0)=false:=beq_eq_false_iff_ne.2 (by omega)
 have Hs:=Lib.hid hs
 clear hs
 have hypos:Hid (0<y1*W+y0):=by show _<_;have:=HY1.out;unfold W;omega
 obtain ⟨q1,hq1⟩:∃ q1,(u*W+d1) / (y1*W+y0)=q1:=⟨_,rfl⟩
 have HQ1:=Lib.hid hq1
 have hq1b:q1<4294967296:=by rw [<- hq1];exact dg_lt (show d1<W by have:=HD1.out;unfold W;omega) (by have:=HU.out;have:=HYS.out;omega)
 clear hq1
 obtain ⟨Q1,hQ1⟩:∃ Q1:Int,Q1=(q1:Int):=⟨_,rfl⟩
 have b1 : 0<=Q1:=by omega
 have b2:Q1<4294967296:=by omega
 have HQ1I:=Lib.hid hQ1
 clear hQ1 hq1b
 obtain ⟨QA,hQA⟩:∃ QA,U / Y1=QA:=⟨_,rfl⟩
 obtain ⟨PA,hPA⟩:∃ PA,QA*Y1=PA:=⟨_,rfl⟩
 have g0 : 0<=QA:=by rw [<- hQA];exact Int.ediv_nonneg hu0 (by omega)
 have hdm:U=QA*Y1+U%Y1:=by rw [<- hQA];have:=Int.mul_ediv_add_emod U Y1;rw [Int.mul_comm] at this;omega
 have hm1 : 0<=U%Y1:=Int.emod_nonneg _ (by omega)
 have hm2:U%Y1<Y1:=Int.emod_lt_of_pos _ (by omega)
 rw [hPA] at hdm
 generalize U%Y1=RA at *
 have hPU:PA<=U:=by omega
 have hP0 : 0<=PA:=by rw [<- hPA];exact Int.mul_nonneg g0 (by omega)
 have hQU:QA<=4294967297:=by
  have hh:U<Y1*4294967298:=by have:=HYS.out;have:=HY1.out;have:=HY0.out;unfold W at this;omega
  have h5:=Int.ediv_lt_of_lt_mul (by omega) hh
  first | (rw [hQA] at h5;omega) | (rw [Int.mul_comm] at hh;have h6:=Int.ediv_lt_of_lt_mul (by omega) hh;rw [hQA] at h6;omega)
 obtain ⟨qa,hqa⟩:∃ qa:Nat,QA=(qa:Int):=⟨QA.toNat,by omega⟩
 obtain ⟨ra,hra⟩:∃ ra:Nat,RA=(ra:Int):=⟨RA.toNat,by omega⟩
 have HQA:Hid (qa*y1+ra=u):=by
  show _=_
  have h1:=HY1.out;have h2:=HU.out
  rw [<- hPA,hqa,hra,h1,h2] at hdm
  have:((qa*y1+ra:Nat):Int)=(u:Int):=by rw [Int.natCast_add,Int.natCast_mul];exact hdm.symm
  exact Int.ofNat.inj this
 have hle:Hid (q1<=qa):=by
  show _<=_
  have h3:u / y1=qa:=by
   have:=hQA;rw [HU.out,HY1.out,hqa] at this
   exact Int.ofNat.inj ((Int.natCast_ediv ..).trans this)
  rw [<- HQ1.out, <- h3]
  exact dg_ge (by decide) (by have:=HY1.out;omega) (show d1<W by have:=HD1.out;unfold W;omega)
 have e8:=hQA
 have e9:=hPA
 have n1:Hid (U-PA=RA):=by show _=_;omega
 have Hqa:=Lib.hid hqa
 have Hra:=Lib.hid hra
 have HQAe:=Lib.hid hQA
 clear hqa hra hQA hPA hdm
 go_enter Tryd.func120,Tryd.ntmps120
 go_upto_block 0 with (go_at_call 121;refine (lS y hy _).mono ?_;rintro e w' ⟨rfl,rfl⟩;rw [<- Hs.out])
 rw [n1.out]
 go_cut [15,16] (fun a _ wx=>a = .int .u64 Q1/\w=wx)
 case first=>
  clear e1 e2 e3 e4 e5 e6 e7 e8 e9 f1 f2 f3 f4
  go_wp2_with fail
  go_loop [15,16] (fun a b=>∃ (q r:Nat) (QN RN:Int),a = .int .u64 QN/\b = .int .u64 RN/\Hid (QN=(q:Int))/\Hid (RN=(r:Int))/\Hid (q*y1+r=u)/\Hid (q1<=q)/\0<=QN/\QN<=4294967297/\0<=RN/\RN<4294967296) (fun a _=>(intOf a).toNat)
  case atStart=>exact ⟨qa,ra,QA,RA,congrArg (Value.int IntKind.u64) HQAe.out,rfl,Hqa,Hra,HQA,hle,g0,hQU,hm1,by omega⟩
  case round=>
   clear HQA hle Hqa Hra
   obtain ⟨q,r,QN,RN,rfl,rfl,hQN,hRN,hqr,hle,hq0,hub,hr0,hrb⟩:=hrel
   obtain ⟨P,hP⟩:∃ P,q*y0=P:=⟨_,rfl⟩
   obtain ⟨PI,hPI⟩:∃ PI:Int,PI=(P:Int):=⟨_,rfl⟩
   have eP:QN*Y0=PI:=by rw [hQN.out,HY0.out,hPI, <- hP];exact (Int.natCast_mul ..).symm
   have bP:q<4294967296->P<=18446744065119617025:=fun h=>by rw [<- hP];exact Nat.mul_le_mul (show q<=4294967295 by omega) (show y0<=4294967295 by have:=HY0.out;omega)
   have HPq:=Lib.hid hP
   have HPI:=Lib.hid hPI
   clear hP hPI
   by_cases hgo : 4294967296<=q\/(q<4294967296/\4294967296*r+d1<P)
   · have hq1:q1+1<=q:=by
      rcases hgo with h | ⟨_,h⟩
      · have:=HQ1I.out;omega
      · rw [<- HQ1.out];exact dg_dec hqr.out (by rw [HPq.out];exact h)
     have hqr2:Hid ((q-1)*y1+(r+y1)=u):=by
      show _=_
      obtain ⟨q',rfl⟩:∃ q',q=q'+1:=⟨q-1,by omega⟩
      have:=hqr.out
      rw [Nat.add_mul,Nat.one_mul] at this
      rw [Nat.add_sub_cancel];omega
     have Hq1:=Lib.hid hq1
     clear hq1 hle
     have hQ1:=hQN.out
     have hR1:=hRN.out
     have hY:=HY1.out
     have hD:=HD1.out
     have hPP:=HPI.out
     rcases hgo with hA | ⟨hA,ht⟩
     rotate_left
     replace bP:=bP hA
     replace bP:PI<=18446744065119617025:=by omega
     have bP0 : 0<=PI:=by omega
     replace hA:QN<4294967296:=by omega
     replace ht : 4294967296*RN+D1<PI:=by omega
     rotate_left
     clear bP eP
     replace hA:(4294967296:Int)<=QN:=by omega
     all_goals
      by_cases hbr:(4294967296:Int)<=RN+Y1
      · have hend:QN-1=Q1:=by
         have h1:=jX (d:=d1) hypos.out hqr2.out (dg_stop2 (show W<=r+y1 by unfold W;omega) (show q-1<=W by unfold W;omega) (show y0<W by have:=HY0.out;unfold W;omega))
         rw [HQ1.out] at h1
         have:=HQ1I.out
         have:=Hq1.out
         omega
        have HE:=Lib.hid hend
        have hw3 : 0<=QN-1:=by have:=Hq1.out;omega
        clear hend hqr hqr2 HPq hQ1 hR1 hY hD hPP
        go_wp2_with fail
        go_meet
        exact ⟨congrArg (Value.int IntKind.u64) HE.out,rfl⟩
      · have hbr':RN+Y1<4294967296:=by omega
        have hw:Hid (RN+Y1=((r+y1:Nat):Int)):=by show _=_;omega
        have hw2:Hid (QN-1=((q-1:Nat):Int)):=by show _=_;have:=Hq1.out;omega
        have hw3 : 0<=QN-1:=by have:=Hq1.out;omega
        clear hbr hQ1 hR1 hY hD hPP hqr HPq
        go_wp2_with fail
        go_round
        case rel=>exact ⟨q-1,r+y1,QN-1,RN+Y1,by go_num,by go_num,hw2,hw,hqr2,show Hid _ from (by show _<=_;have:=Hq1.out;omega),by omega,by omega,by omega,by omega⟩
        case measure=>simp [intOf];omega
   · have hQ1:=hQN.out
     have hR1:=hRN.out
     have hD:=HD1.out
     have hPP:=HPI.out
     have hA:q<4294967296:=by omega
     have ht:P<=4294967296*r+d1:=by omega
     have hend:QN=Q1:=by
      have h1:=jX (d:=d1) hypos.out hqr.out (by rw [HPq.out];exact ht)
      rw [HQ1.out] at h1
      have:=HQ1I.out
      have:=hle.out
      omega
     have HE:=Lib.hid hend
     replace bP:=bP hA
     replace bP:PI<=18446744065119617025:=by omega
     have bP0 : 0<=PI:=by omega
     replace ht:PI<=4294967296*RN+D1:=by omega
     replace hA:QN<4294967296:=by omega
     clear hend hle hqr HPq hgo hQ1 hR1 hD hPP
     go_wp2_with fail
     go_meet
     exact ⟨by rw [HE.out],rfl⟩
 case rest=>
  obtain ⟨rfl,rfl⟩:=hcut
  obtain ⟨v,hv⟩:∃ v,(u*W+d1)%(y1*W+y0)=v:=⟨_,rfl⟩
  have hvy:v<y1*W+y0:=by rw [<- hv];exact Nat.mod_lt _ hypos.out
  have hdm:u*W+d1=q1*(y1*W+y0)+v:=by
   have:=Nat.div_add_mod (u*W+d1) (y1*W+y0)
   rw [HQ1.out,hv,Nat.mul_comm] at this
   exact this.symm
  obtain ⟨V,hV⟩:∃ V:Int,V=(v:Int):=⟨_,rfl⟩
  have gv0 : 0<=V:=by omega
  have gv1:V<YS:=by have:=HYS.out;omega
  have g1:IntKind.u64.wrap (IntKind.u64.wrap (IntKind.u64.wrap (U*4294967296)+D1)-IntKind.u64.wrap (Q1*YS))=V:=by
   rw [HU.out,HD1.out,HQ1I.out,HYS.out,hV]
   exact wrap_rem hdm (show v<18446744073709551616 by omega)
  have HV:=Lib.hid hv
  have HDM:=Lib.hid hdm
  have HVI:=Lib.hid hV
  clear hv hdm hV hvy
  obtain ⟨q0s,hq0⟩:∃ q0s,(v*W+d0) / (y1*W+y0)=q0s:=⟨_,rfl⟩
  have HZ1:=Lib.hid hq0
  have hq0b:q0s<4294967296:=by rw [<- hq0];exact dg_lt (show d0<W by have:=HD0.out;unfold W;omega) (by have:=HVI.out;have:=HYS.out;omega)
  clear hq0
  obtain ⟨Q0S,hQ0S⟩:∃ Q0S:Int,Q0S=(q0s:Int):=⟨_,rfl⟩
  have c1 : 0<=Q0S:=by omega
  have c2:Q0S<4294967296:=by omega
  have HZ1I:=Lib.hid hQ0S
  clear hQ0S hq0b
  obtain ⟨QB,hQB⟩:∃ QB,V / Y1=QB:=⟨_,rfl⟩
  obtain ⟨PB,hPB⟩:∃ PB,QB*Y1=PB:=⟨_,rfl⟩
  have k0 : 0<=QB:=by rw [<- hQB];exact Int.ediv_nonneg gv0 (by omega)
  have hdm:V=QB*Y1+V%Y1:=by rw [<- hQB];have:=Int.mul_ediv_add_emod V Y1;rw [Int.mul_comm] at this;omega
  have km1 : 0<=V%Y1:=Int.emod_nonneg _ (by omega)
  have km2:V%Y1<Y1:=Int.emod_lt_of_pos _ (by omega)
  rw [hPB] at hdm
  generalize V%Y1=RB at *
  have hPV:PB<=V:=by omega
  have hPB0 : 0<=PB:=by rw [<- hPB];exact Int.mul_nonneg k0 (by omega)
  have hQBu:QB<=4294967297:=by
   have hh:V<Y1*4294967298:=by have:=HYS.out;have:=HY1.out;have:=HY0.out;unfold W at this;omega
   have h5:=Int.ediv_lt_of_lt_mul (by omega) hh
   first | (rw [hQB] at h5;omega) | (rw [Int.mul_comm] at hh;have h6:=Int.ediv_lt_of_lt_mul (by omega) hh;rw [hQB] at h6;omega)
  obtain ⟨qb,hqb⟩:∃ qb:Nat,QB=(qb:Int):=⟨QB.toNat,by omega⟩
  obtain ⟨rb,hrb⟩:∃ rb:Nat,RB=(rb:Int):=⟨RB.toNat,by omega⟩
  have HQB:Hid (qb*y1+rb=v):=by
   show _=_
   have h1:=HY1.out;have h2:=HVI.out
   rw [<- hPB,hqb,hrb,h1,h2] at hdm
   have:((qb*y1+rb:Nat):Int)=(v:Int):=by rw [Int.natCast_add,Int.natCast_mul];exact hdm.symm
   exact Int.ofNat.inj this
  have hle2:Hid (q0s<=qb):=by
   show _<=_
   have h3:v / y1=qb:=by
    have:=hQB;rw [HVI.out,HY1.out,hqb] at this
    exact Int.ofNat.inj ((Int.natCast_ediv ..).trans this)
   rw [<- HZ1.out, <- h3]
   exact dg_ge (by decide) (by have:=HY1.out;omega) (show d0<W by have:=HD0.out;unfold W;omega)
  have g2:=hQB
  have g3:=hPB
  have n2:Hid (V-PB=RB):=by show _=_;omega
  have Hqb:=Lib.hid hqb
  have Hrb:=Lib.hid hrb
  have HQBe:=Lib.hid hQB
  clear hqb hrb hQB hPB hdm e1 e2 e3 e4 e5 e6 e7 e8 e9
  go_upto_block 2 with (fail)
  rw [n2.out]
  go_cut [18,16] (fun a _ wx=>a = .int .u64 Q0S/\w=wx)
  case first=>
   clear f1 f2 f3 f4 g1 g2 g3
   go_wp2_with fail
   go_loop [18,16] (fun a b=>∃ (q r:Nat) (QN RN:Int),a = .int .u64 QN/\b = .int .u64 RN/\Hid (QN=(q:Int))/\Hid (RN=(r:Int))/\Hid (q*y1+r=v)/\Hid (q0s<=q)/\0<=QN/\QN<=4294967297/\0<=RN/\RN<4294967296) (fun a _=>(intOf a).toNat)
   case atStart=>exact ⟨qb,rb,QB,RB,congrArg (Value.int IntKind.u64) HQBe.out,rfl,Hqb,Hrb,HQB,hle2,k0,hQBu,km1,by omega⟩
   case round=>
    clear HQB hle2 Hqb Hrb
    obtain ⟨q,r,QN,RN,rfl,rfl,hQN,hRN,hqr,hle,hq0,hub,hr0,hrb⟩:=hrel
    obtain ⟨P,hP⟩:∃ P,q*y0=P:=⟨_,rfl⟩
    obtain ⟨PI,hPI⟩:∃ PI:Int,PI=(P:Int):=⟨_,rfl⟩
    have eP:QN*Y0=PI:=by rw [hQN.out,HY0.out,hPI, <- hP];exact (Int.natCast_mul ..).symm
    have bP:q<4294967296->P<=18446744065119617025:=fun h=>by rw [<- hP];exact Nat.mul_le_mul (show q<=4294967295 by omega) (show y0<=4294967295 by have:=HY0.out;omega)
    have HPq:=Lib.hid hP
    have HPI:=Lib.hid hPI
    clear hP hPI
    by_cases hgo : 4294967296<=q\/(q<4294967296/\4294967296*r+d0<P)
    · have hq0s:q0s+1<=q:=by
       rcases hgo with h | ⟨_,h⟩
       · have:=HZ1I.out;omega
       · rw [<- HZ1.out];exact dg_dec hqr.out (by rw [HPq.out];exact h)
      have hqr2:Hid ((q-1)*y1+(r+y1)=v):=by
       show _=_
       obtain ⟨q',rfl⟩:∃ q',q=q'+1:=⟨q-1,by omega⟩
       have:=hqr.out
       rw [Nat.add_mul,Nat.one_mul] at this
       rw [Nat.add_sub_cancel];omega
      have Hq0s:=Lib.hid hq0s
      clear hq0s hle
      have hQ1:=hQN.out
      have hR1:=hRN.out
      have hY:=HY1.out
      have hD:=HD0.out
      have hPP:=HPI.out
      rcases hgo with hA | ⟨hA,ht⟩
      rotate_left
      replace bP:=bP hA
      replace bP:PI<=18446744065119617025:=by omega
      have bP0 : 0<=PI:=by omega
      replace hA:QN<4294967296:=by omega
      replace ht : 4294967296*RN+D0<PI:=by omega
      rotate_left
      clear bP eP
      replace hA:(4294967296:Int)<=QN:=by omega
      all_goals
       by_cases hbr:(4294967296:Int)<=RN+Y1
       · have hend:QN-1=Q0S:=by
          have h1:=jX (d:=d0) hypos.out hqr2.out (dg_stop2 (show W<=r+y1 by unfold W;omega) (show q-1<=W by unfold W;omega) (show y0<W by have:=HY0.out;unfold W;omega))
          rw [HZ1.out] at h1
          have:=HZ1I.out
          have:=Hq0s.out
          omega
         have HE:=Lib.hid hend
         have hw3 : 0<=QN-1:=by have:=Hq0s.out;omega
         clear hend hqr hqr2 HPq hQ1 hR1 hY hD hPP
         go_wp2_with fail
         go_meet
         exact ⟨congrArg (Value.int IntKind.u64) HE.out,rfl⟩
       · have hbr':RN+Y1<4294967296:=by omega
         have hw:Hid (RN+Y1=((r+y1:Nat):Int)):=by show _=_;omega
         have hw2:Hid (QN-1=((q-1:Nat):Int)):=by show _=_;have:=Hq0s.out;omega
         have hw3 : 0<=QN-1:=by have:=Hq0s.out;omega
         clear hbr hQ1 hR1 hY hD hPP hqr HPq
         go_wp2_with fail
         go_round
         case rel=>exact ⟨q-1,r+y1,QN-1,RN+Y1,by go_num,by go_num,hw2,hw,hqr2,show Hid _ from (by show _<=_;have:=Hq0s.out;omega),by omega,by omega,by omega,by omega⟩
         case measure=>simp [intOf];omega
    · have hQ1:=hQN.out
      have hR1:=hRN.out
      have hD:=HD0.out
      have hPP:=HPI.out
      have hA:q<4294967296:=by omega
      have ht:P<=4294967296*r+d0:=by omega
      have hend:QN=Q0S:=by
       have h1:=jX (d:=d0) hypos.out hqr.out (by rw [HPq.out];exact ht)
       rw [HZ1.out] at h1
       have:=HZ1I.out
       have:=hle.out
       omega
      have HE:=Lib.hid hend
      replace bP:=bP hA
      replace bP:PI<=18446744065119617025:=by omega
      have bP0 : 0<=PI:=by omega
      replace ht:PI<=4294967296*RN+D0:=by omega
      replace hA:QN<4294967296:=by omega
      clear hend hle hqr HPq hgo hQ1 hR1 hD hPP
      go_wp2_with fail
      go_meet
      exact ⟨by rw [HE.out],rfl⟩
  case rest=>
   obtain ⟨rfl,rfl⟩:=hcut
   go_wp2_with fail
   go_ret2
   refine ⟨?_,0,rfl⟩
   show Ending.returned (.tuple #[.int .u64 (Q1*4294967296+Q0S),.int .u64 (IntKind.u64.wrap (IntKind.u64.wrap (IntKind.u64.wrap (V*4294967296)+D0)-IntKind.u64.wrap (Q0S*YS)) / 2^s)])=_
   have hd2:v*W+d0=q0s*(y1*W+y0)+(v*W+d0)%(y1*W+y0):=by
    have:=Nat.div_add_mod (v*W+d0) (y1*W+y0)
    rw [HZ1.out,Nat.mul_comm] at this
    exact this.symm
   obtain ⟨a1,a2⟩:=dived_end HDM.out hd2 HN.out HY.out (by omega)
   have hr2:(v*W+d0)%(y1*W+y0)<B:=by
    have h1:(v*W+d0)%(y1*W+y0)<y1*W+y0:=Nat.mod_lt _ hypos.out
    have h2:=HYS.out
    show _<18446744073709551616
    omega
   rw [HVI.out,HD0.out,HZ1I.out,HYS.out,wrap_rem hd2 hr2,jJ,HQ1I.out]
   have h3:((q1:Int)*4294967296+(q0s:Int))=((q1*W+q0s:Nat):Int):=by rw [Int.natCast_add,Int.natCast_mul];rfl
   rw [h3,a1]
   show _=Ending.returned (.tuple #[.int .u64 (bM hi lo y:Int),.int .u64 (jH hi lo y:Int)])
   rw [<- a2];rfl
theorem pZ (hi lo y:Nat) (hl:lo<B) (hy:y<B) (hlt:hi<y) (w:World) :
 Calls Tryd.prog 120 #[.int .u64 (hi:Int),.int .u64 (lo:Int),.int .u64 (y:Int)] w (Dived w hi lo y):=by
 rcases Nat.eq_zero_or_pos hi with h0 | h0
 · subst h0;exact div64_zero lo y hl hy (by omega) w
 · have hL:=cW y hy
   obtain ⟨s1,s2,s3⟩:=R7 (y+1) y (by omega) (by omega) (by rw [<- Z5];exact hy)
   obtain ⟨s,hs⟩:∃ s,s=64-Lib.bitLen y:=⟨_,rfl⟩
   have hp : 0<2^s:=Nat.two_pow_pos s
   have hlen:Lib.bitLen y=64-s:=by omega
   rw [hlen] at s1 s2 s3
   have hBs:=P8 (p:=s) (by omega)
   have hysB:y*2^s<B:=by rw [hBs];exact Nat.mul_lt_mul_of_pos_right s2 hp
   have hysl : 9223372036854775808<=y*2^s:=by
    have : 2^(64-s-1)*2^s<=y*2^s:=Nat.mul_le_mul_right _ s1
    rw [<- Nat.pow_add,show 64-s-1+s=63 from by omega] at this
    exact this
   have hhi:hi*2^s<B:=Nat.lt_trans (Nat.mul_lt_mul_of_pos_right hlt hp) hysB
   have hlo:lo / 2^(64-s)<2^s:=qZ hl (by omega)
   have hu:hi*2^s+lo / 2^(64-s)<y*2^s:=by
    have:(hi+1)*2^s<=y*2^s:=Nat.mul_le_mul_right _ hlt
    rw [Nat.add_mul,Nat.one_mul] at this;omega
   have hysB:y*2^s<18446744073709551616:=hysB
   have hls:lo*2^s%B<18446744073709551616:=Nat.mod_lt _ E5
   have e1:IntKind.u64.wrap ((y:Int)*2^s)=((y*2^s:Nat):Int):=by
    rw [<- Mul64.wrapN _ hysB,Int.natCast_mul,Int.natCast_pow];rfl
   have e2:IntKind.u64.wrap ((lo:Int)*2^s)=((lo*2^s%B:Nat):Int):=by
    rw [IntKind.wrap_u64,Int.natCast_emod,Int.natCast_mul,Int.natCast_pow];rfl
   have e3:bits .or .u64 (IntKind.u64.wrap ((hi:Int)*2^s)) ((lo:Int) / 2^(64-s))=((hi*2^s+lo / 2^(64-s):Nat):Int):=by
    have h1:IntKind.u64.wrap ((hi:Int)*2^s)=((hi*2^s:Nat):Int):=by
     rw [<- Mul64.wrapN _ (show hi*2^s<18446744073709551616 from hhi),Int.natCast_mul,Int.natCast_pow];rfl
    rw [h1,jJ]
    show bits .or .u64 _ ((lo / 2^(64-s):Nat):Int)=_
    rw [bits_or_u64_nat _ _ hhi (Nat.lt_trans (Nat.lt_of_lt_of_le hlo (by have h5 : 2^s<=2^63:=Nat.pow_le_pow_right (by omega) (by omega);exact h5)) (by decide)), <- Nat.shiftLeft_eq,Nat.shiftLeft_add_eq_or_of_lt hlo]
   refine div64_core hi lo y s (hi*2^s+lo / 2^(64-s)) (y*2^s / 4294967296) (y*2^s%4294967296) (lo*2^s%B / 4294967296) (lo*2^s%B%4294967296) _ _ _ _ _ _ _ w h0 hlt hs hy (by omega) e1 e2 e3
    (Mul64.maskN _ hysB) (Mul64.divN _) (Mul64.maskN _ hls) (Mul64.divN _) ?_ ?_ ?_ ?_ ?_ ?_ ?_ ?_ ?_ ?_ ?_ rfl rfl rfl rfl rfl ?_ ?_ ?_
   all_goals try omega
   · exact Int.natCast_nonneg _
   · refine (show _=_ from ?_)
     rw [show W=4294967296 from rfl,Nat.div_add_mod']
   · refine (show _=_ from ?_)
     rw [show W=4294967296 from rfl,Nat.div_add_mod']
     have h1:lo / 2^(64-s)=lo*2^s / B:=oU (by omega)
     have h2:=Nat.div_add_mod' (lo*2^s) B
     rw [h1]
     generalize lo*2^s / B=c at *
     generalize lo*2^s%B=d at *
     rw [Nat.add_mul,Nat.add_assoc,h2,Nat.add_mul,Nat.mul_right_comm]
   · refine (show _=_ from ?_)
     rw [show W=4294967296 from rfl,Nat.div_add_mod']
end Go.Proofs.YtamdnbbgpacfkaaDoor
