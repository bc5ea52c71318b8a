/- What the laws lean on, part 3. -/
import Derived.BigQuiet
import Derived.BigRegion
import Derived.Deep.AppendLies
import Derived.Deep.CutBlock
import Derived.Deep.CutRange
import Derived.Deep.DeepCutAuto
import Derived.Deep.LoopGhost
import Derived.Deep.QuietTactic
import Derived.Deep.RegionHeld3
import Derived.Laws.CopyOwn
import Derived.Laws.Externs
import Derived.Lib.BitFns
import Derived.Lib.Hide
import Derived.Lib.Slices
import Derived.Lib.Small
import Derived.Lib.Strings
import Derived.Lib.Walk
import Derived.Outline
import Derived.Shelf.Bits.Mul64
import Derived.StillTailTactics
import Derived.WalkKit
import Derived.WalkLawsBesides
import Derived.WalkSpells
import Derived.Test.YtamdnbbgpacfkaaDoorProg
import Derived.Test.YtamdnbbgpacfkaaDoorMe2
set_option linter.unusedVariables false
set_option linter.unusedSimpArgs false
set_option maxRecDepth 100000
namespace Go.Proofs.YtamdnbbgpacfkaaDoor
open Go.RowKit Mat
theorem sub_eq {x y c:Nat} (hx:x<B) (hy:y<B) (hc:c<=1):O8 x y c+y+c=x+U3 x y c*B:=by
 unfold O8 U3
 split
 · rw [Nat.mod_eq_of_lt (by omega)];omega
 · have:x+B-y-c=(x-y-c)+B:=by omega
   rw [this,Nat.add_mod_right,Nat.mod_eq_of_lt (by omega)];omega
theorem taken_step (k v x y by' ad br s t:Nat) (hx:x<B) (hbr:br<=1) (h:v+t=s+(br+ad)*B^k) :
 v+B^k*O8 x (E4 (C5 y by') ad 0) br+(t+B^k*(y*by'))=s+B^k*x+(U3 x (E4 (C5 y by') ad 0) br+(S4 y by'+G7 (C5 y by') ad 0))*B^(k+1):=by
 have e1:=lO y by'
 have e2:E4 (C5 y by') ad 0+B*G7 (C5 y by') ad 0=C5 y by'+ad+0:=Nat.mod_add_div ..
 have e3:=sub_eq (y:=E4 (C5 y by') ad 0) hx (fP _ _ _) hbr
 generalize O8 x (E4 (C5 y by') ad 0) br=z at *
 generalize U3 x (E4 (C5 y by') ad 0) br=b2 at *
 generalize E4 (C5 y by') ad 0=r2 at *
 generalize G7 (C5 y by') ad 0=c2 at *
 generalize C5 y by'=r1 at *
 generalize S4 y by'=q1 at *
 rw [<- e1,Nat.pow_succ]
 generalize B^k=T at *
 have e4:T*z+T*r2+T*br=T*x+T*(b2*B):=by rw [<- Nat.mul_add, <- Nat.mul_add,e3,Nat.mul_add]
 grind
def nK (w:World) (b off:Nat) (xs ys:List Nat) (by':Nat) (cs:Array Value) (e:Ending) (w':World):Prop:=
 ∃ (br:Nat) (zs:List Nat) (cs':Array Value),e = .returned (.int .u64 (br:Int))/\Blk w' b cs'/\qL cs cs' off zs/\w.grownBy w' (some b)/\zs.length=ys.length+1/\Dig B zs/\br<=1/\val B zs+val B ys*by'=val B xs+br*B^(ys.length+1)
set_option maxHeartbeats 2000000 in
theorem kK (w:World) (b off n cap:Nat) (xs:List Nat) (cs:Array Value) (sa:Option Addr) (m cap2:Nat) (ys:List Nat) (by':Nat) (hn:xs.length=n) (hmm:ys.length=m)
 (hb:Blk w b cs) (hx:At cs off xs) (hs:Rd w sa ys b) (hl:n=m+1) (hm:n<=1099511627776) (dx:Dig B xs) (dy:Dig B ys) (hby:by'<B) :
 Calls Tryd.prog 123 #[.slice (some ⟨b,off,none⟩) n cap,.slice sa m cap2,.int .u64 (by':Int)] w (nK w b off xs ys by' cs):=by
 subst hl
 have Hn:=Lib.hid hn
 have Hm:=Lib.hid hmm
 clear hn hmm
 go_enter Tryd.func123,Tryd.ntmps123
 go_wp2_with fail
 go_loopw [7,8,16] (fun c d i wr=>∃ (k ad br:Nat) (zs:List Nat),k<=m/\i = .int .i64 k/\c = .int .u64 ad/\d = .int .u64 br/\ad<B/\br<=1/\Hid (zs.length=k)/\Dig B zs/\Blk wr b (Put cs off zs)/\w.grownBy wr (some b)/\Hid (val B zs+val B (ys.take k)*by'=val B (xs.take k)+(br+ad)*B^k))
  (fun _ _ i _=>m-(intOf i).toNat)
 case atStart=>exact ⟨0,0,0,[],Nat.zero_le _,rfl,rfl,rfl,E5,Nat.zero_le _,rfl,Dig.nil _,hb,B5 _ _,by show _=_;simp [val]⟩
 case round=>
  obtain ⟨k,ad,br,zs,hk,rfl,rfl,rfl,hc,hbr,hzl,hzd,hbk,hg,hv⟩:=hrel
  by_cases hlt:k<m
  · obtain ⟨x,ex⟩:∃ x,xs[k]'(by rw [Hn.out];omega)=x:=⟨_,rfl⟩
    obtain ⟨y,ey⟩:∃ y,ys[k]'(by rw [Hm.out];omega)=y:=⟨_,rfl⟩
    have hxB:x<B:=ex ▸ dx.get k _
    have hyB:y<B:=ey ▸ dy.get k _
    obtain ⟨b2,off2,cs2,rfl,hne,h2,hy⟩:=hs.get k (by rw [Hm.out];omega)
    have cx:wr.cell? ⟨b,off+k,none⟩=some (.int .u64 (x:Int)):=by
     rw [hbk.cell,J3 _ _ _ _ (by rw [hzl.out];omega),hx k (by rw [Hn.out];omega),ex]
    have cy:wr.cell? ⟨b2,off2+k,none⟩=some (.int .u64 (y:Int)):=by
     rw [(h2.kept hg (by simpa using hne)).cell,hy k (by rw [Hm.out];omega),ey]
    have fx:wr.frozen? ⟨b,off+k,none⟩=false:=hbk.frozen _
    have EX:=Lib.hid ex
    have EY:=Lib.hid ey
    clear ex ey
    have ha1:∀ w,(callFunc 100 #[.int .u64 (C5 y by':Int),.int .u64 (ad:Int),.int .u64 0]).run Tryd.prog w = .ok (.value (.tuple #[.int .u64 (E4 (C5 y by') ad 0:Int),.int .u64 (G7 (C5 y by') ad 0:Int)])) w:=fun w=>add64 _ _ 0 (Nat.zero_le _) w
    have ha2:=fun w=>sub64 x (E4 (C5 y by') ad 0) br hbr w
    obtain ⟨b1,_⟩:=pH (x:=0) E5 hyB hby hc
    have b2':=b1
    have b1:S4 y by'+G7 (C5 y by') ad 0<18446744073709551616:=b1
    go_wp2_with (go_at_call 99;refine (cH y by' hyB hby _).mono ?_;rintro e w' ⟨rfl,rfl⟩)
    clear ha1 ha2 cx cy fx
    go_roundw
    case rel=>
     refine ⟨k+1,S4 y by'+G7 (C5 y by') ad 0,U3 x (E4 (C5 y by') ad 0) br,zs++[O8 x (E4 (C5 y by') ad 0) br],by omega,by go_num,by go_num,rfl,b2',eK _ _ _, ?_,hzd.snoc (eJ _ _ _), ?_,C2 hg _ _, ?_⟩
     · show _=_;rw [List.length_append,hzl.out];rfl
     · rw [N5,hzl.out];exact hbk.setCell _ _
     · show _=_
       rw [F9,hzl.out,B9 B xs k (by rw [Hn.out];omega),B9 B ys k (by rw [Hm.out];omega),EX.out,EY.out,Nat.add_mul (val B (ys.take k)),Nat.mul_assoc (B^k)]
       exact taken_step k _ x y by' ad br _ _ hxB hbr hv.out
    case measure=>simp [intOf];omega
  · obtain rfl:k=m:=by omega
    obtain ⟨x,ex⟩:∃ x,xs[k]'(by rw [Hn.out];omega)=x:=⟨_,rfl⟩
    have hxB:x<B:=ex ▸ dx.get k _
    have cx:wr.cell? ⟨b,off+k,none⟩=some (.int .u64 (x:Int)):=by
     rw [hbk.cell,J3 _ _ _ _ (by rw [hzl.out];omega),hx k (by rw [Hn.out];omega),ex]
    have fx:wr.frozen? ⟨b,off+k,none⟩=false:=hbk.frozen _
    have hsz:off+(k+1)<=cs.size:=by
     rcases hx.le with h | h
     · exfalso;have:=Hn.out;rw [h] at this;simp at this
     · rw [Hn.out] at h;omega
    have HF:Hid (nK w b off xs ys by' cs (.returned (.int .u64 (U3 x ad br:Int))) (wr.setCell ⟨b,off+k,none⟩ (.int .u64 (O8 x ad br:Int)))):=by
     have hb2:=hbk.setCell (off+k) (.int .u64 (O8 x ad br:Int))
     have hp:(Put cs off zs).setIfInBounds (off+k) (.int .u64 (O8 x ad br:Int))=Put cs off (zs++[O8 x ad br]):=by rw [N5,hzl.out]
     rw [hp] at hb2
     have hlen:(zs++[O8 x ad br]).length=k+1:=by rw [List.length_append,hzl.out];rfl
     refine ⟨_,zs++[O8 x ad br],_,rfl,hb2,⟨eM _ _ _,fun j hj=>J3 _ _ _ _ hj,iG _ _ _ (by rw [hlen];exact hsz)⟩,C2 hg _ _,by rw [hlen,Hm.out],hzd.snoc (eJ _ _ _),eK _ _ _, ?_⟩
     have h1:=hv.out
     rw [<- Hm.out,List.take_length,Hm.out] at h1
     have h2:val B xs=val B (xs.take k)+B^k*x:=by
      have:=B9 B xs k (by rw [Hn.out];omega)
      rw [ex,List.take_of_length_le (by rw [Hn.out];omega)] at this;exact this
     have h3:=sub_eq hxB hc hbr
     rw [F9,hzl.out,Hm.out,h2,Nat.pow_succ]
     generalize O8 x ad br=z at *
     generalize U3 x ad br=b3 at *
     generalize B^k=T at *
     have e4:T*z+T*ad+T*br=T*x+T*(b3*B):=by rw [<- Nat.mul_add, <- Nat.mul_add,h3,Nat.mul_add]
     clear ex
     grind
    have ha:=fun w=>sub64 x ad br hbr w
    clear hbk hg hv hzl hzd ex
    go_wp2_with fail
    go_ret
    exact HF
theorem R5 (l:List Nat) (i:Nat) (h:i<l.length):l[i]=l.getD i 0:=by rw [List.getD_eq_getElem?_getD,List.getElem?_eq_getElem h];rfl
theorem val_top3 {xs:List Nat} (dx:Dig B xs) (m:Nat) (hl:xs.length=m+3):val B xs<((xs.getD (m+2) 0*B+xs.getD (m+1) 0)*B+xs.getD m 0+1)*B^m:=by
 have h1:=F5 B xs (m+2) (by omega)
 have h2:=F5 B xs (m+1) (by omega)
 have h3:=F5 B xs m (by omega)
 have h4:=Q2 B (xs.take m) (dx.take m)
 rw [List.length_take,Nat.min_eq_left (by omega)] at h4
 rw [List.take_of_length_le (by omega)] at h1
 generalize xs.getD (m+2) 0=t at *
 generalize xs.getD (m+1) 0=n at *
 generalize xs.getD m 0=h at *
 rw [h2,h3] at h1
 rw [h1]
 simp only [Nat.pow_succ]
 generalize B^m=T at *
 generalize val B (xs.take m)=v at *
 have:((t*B+n)*B+h+1)*T=T+T*h+T*B*n+T*B*B*t:=by grind
 rw [this]
 clear this h1 h2 h3
 generalize T*h=a at *
 generalize T*B*n=b at *
 generalize T*B*B*t=c at *
 omega
theorem val_top2 {xs:List Nat} (m:Nat) (hl:xs.length=m+2):(xs.getD (m+1) 0*B+xs.getD m 0)*B^m<=val B xs:=by
 have h2:=F5 B xs (m+1) (by omega)
 have h3:=F5 B xs m (by omega)
 rw [List.take_of_length_le (by omega)] at h2
 generalize xs.getD (m+1) 0=n at *
 generalize xs.getD m 0=h at *
 rw [h2,h3]
 simp only [Nat.pow_succ]
 generalize B^m=T at *
 have:(n*B+h)*T=T*h+T*B*n:=by grind
 rw [this];omega
theorem guess_first {u v t n h v1 v0 q l m:Nat} (hu:u<((t*B+n)*B+h+1)*B^m) (hv:(v1*B+v0)*B^m<=v) (hh:h<B) (hq:q*v1+l=t*B+n) (hl:l<v1):u<(q+1)*v:=by
 have h1:(q+1)*((v1*B+v0)*B^m)<=(q+1)*v:=Nat.mul_le_mul_left _ hv
 have h2:t*B+n+1<=(q+1)*v1:=by rw [Nat.add_mul,Nat.one_mul];omega
 have h3:(t*B+n+1)*B<=(q+1)*v1*B:=Nat.mul_le_mul_right _ h2
 have h4:(t*B+n)*B+h+1<=(q+1)*(v1*B+v0):=by
  have:(q+1)*(v1*B+v0)=(q+1)*v1*B+(q+1)*v0:=by grind
  rw [Nat.add_mul (t*B+n),Nat.one_mul] at h3
  omega
 have h5:=Nat.mul_le_mul_right (B^m) h4
 rw [Nat.mul_assoc (q+1)] at h5
 omega
theorem guess_next {u v t n h v1 v0 q l m:Nat} (hu:u<((t*B+n)*B+h+1)*B^m) (hv:(v1*B+v0)*B^m<=v) (hq:q*v1+l=t*B+n) (ht:l*B+h<q*v0):u<q*v:=by
 have h1:q*((v1*B+v0)*B^m)<=q*v:=Nat.mul_le_mul_left _ hv
 have h4:(t*B+n)*B+h+1<=q*(v1*B+v0):=by
  have e1:q*(v1*B+v0)=q*v1*B+q*v0:=by grind
  have e2:(t*B+n)*B=q*v1*B+l*B:=by rw [<- hq,Nat.add_mul]
  omega
 have h5:=Nat.mul_le_mul_right (B^m) h4
 rw [Nat.mul_assoc q] at h5
 omega
theorem words_lt {h lw l t p:Nat} (hp:lw+B*h=p) (hlw:lw<B) (ht:t<B):(l<h\/(h=l/\t<lw))->l*B+t<p:=by
 rintro (h1 | ⟨rfl,h1⟩)
 · have:B*(l+1)<=B*h:=Nat.mul_le_mul_left _ h1
   rw [Nat.mul_add,Nat.mul_one] at this
   rw [Nat.mul_comm l];omega
 · rw [Nat.mul_comm h];omega
def kE (w:World) (u v:Nat) (e:Ending) (w':World):Prop:=∃ q:Nat,e = .returned (.int .u64 (q:Int))/\q<B/\u<(q+1)*v/\w.grownBy w' none
set_option maxHeartbeats 4000000 in
theorem guess_any (w:World) (sx sy:Option Addr) (n cap cap2 m:Nat) (xs ys:List Nat) (hn:xs.length=n+1) (hm:ys.length=n) (hnm:n=m+2) (hx:Rdo w sx xs) (hy:Rdo w sy ys) (dx:Dig B xs) (dy:Dig B ys) (bn:n<=1099511627776)
 (hlt:val B xs<val B ys*B) :
 Calls Tryd.prog 122 #[.slice sx (n+1) cap,.slice sy n cap2] w (kE w (val B xs) (val B ys)):=by
 subst hnm
 obtain ⟨bb1,o1,rfl,cx⟩:=hx.cell (by omega)
 obtain ⟨bb2,o2,rfl,cy⟩:=hy.cell (by omega)
 have hu:=val_top3 dx m hn
 have hv:=val_top2 m hm
 have c1:=cx (m+2) (by omega)
 have c2:=cx (m+1) (by omega)
 have c3:=cx m (by omega)
 have d1:=cy (m+1) (by omega)
 have d0:=cy m (by omega)
 have g1:xs[m+2]'(by omega)=xs.getD (m+2) 0:=R5 _ _ (by omega)
 have g2:xs[m+1]'(by omega)=xs.getD (m+1) 0:=R5 _ _ (by omega)
 have g3:xs[m]'(by omega)=xs.getD m 0:=R5 _ _ (by omega)
 have g4:ys[m+1]'(by omega)=ys.getD (m+1) 0:=R5 _ _ (by omega)
 have g5:ys[m]'(by omega)=ys.getD m 0:=R5 _ _ (by omega)
 rw [g1] at c1
 rw [g2] at c2
 rw [g3] at c3
 rw [g4] at d1
 rw [g5] at d0
 have b1:=dx.getD E5 (m+2)
 have b2:=dx.getD E5 (m+1)
 have b3:=dx.getD E5 m
 have b4:=dy.getD E5 (m+1)
 have b5:=dy.getD E5 m
 clear g1 g2 g3 g4 g5 cx cy hx hy dx dy
 generalize xs.getD (m+2) 0=t at *
 generalize xs.getD (m+1) 0=nx at *
 generalize xs.getD m 0=h3 at *
 generalize ys.getD (m+1) 0=v1 at *
 generalize ys.getD m 0=v0 at *
 have HU:=Lib.hid hu
 have HV:=Lib.hid hv
 have HL:=Lib.hid hlt
 clear hu hv hlt hn hm
 by_cases hT:v1<=t
 · have HF:Hid (∀ w',w.grownBy w' none->kE w (val B xs) (val B ys) (.returned (.int .u64 18446744073709551615)) w'):=by
    intro w' hg
    refine ⟨18446744073709551615,rfl,by decide, ?_,hg⟩
    have:=HL.out
    rwa [Nat.mul_comm] at this
   have f1:decide (v1<=t)=true:=decide_eq_true hT
   go_enter Tryd.func122,Tryd.ntmps122
   go_wp2_with fail
   go_quiet (fail)
   go_wp2_with fail
   go_ret
   exact HF.out _ (C1 _ _ _)
 · have f1:decide (v1<=t)=false:=decide_eq_false hT
   go_enter Tryd.func122,Tryd.ntmps122
   go_wp2_with fail
   go_quiet (fail)
   go_wp2_with fail
   refine (pZ t nx v1 b2 b4 (by omega) _).mono ?_
   rintro e w' ⟨rfl,q,rfl⟩
   have hq1:bM t nx v1*v1+jH t nx v1=t*B+nx:=by unfold bM jH;exact Nat.div_add_mod' ..
   have hr1:jH t nx v1<v1:=Nat.mod_lt _ (by omega)
   have hq2:bM t nx v1<B:=by
    unfold bM
    rw [Nat.div_lt_iff_lt_mul (by omega)]
    have h5:B*(t+1)<=B*v1:=Nat.mul_le_mul_left _ (by omega)
    rw [Nat.mul_add,Nat.mul_comm] at h5
    omega
   have hG:=guess_first HU.out HV.out b3 hq1 hr1
   generalize bM t nx v1=qa at *
   generalize jH t nx v1=ra at *
   have HQ1:=Lib.hid hq1
   have HG:=Lib.hid hG
   clear hq1 hG
   go_wp2_with (go_at_call 99;refine (cH qa v0 hq2 b5 _).mono ?_;rintro e w' ⟨rfl,rfl⟩)
   have he0:=lO qa v0
   have hl0:=mulLo_lt qa v0
   have HE0:=Lib.hid he0
   clear he0
   generalize S4 qa v0=hh at *
   generalize C5 qa v0=hw at *
   have hraB:ra<B:=Nat.lt_trans hr1 b4
   clear hr1 f1 hT
   go_loop [9,10,11,12] (fun a b c d=>∃ q l h lw:Nat,a = .int .u64 (q:Int)/\b = .int .u64 (l:Int)/\c = .int .u64 (h:Int)/\d = .int .u64 (lw:Int)/\q<B/\l<B/\lw<B/\Hid (lw+B*h=q*v0)/\Hid (q*v1+l=t*B+nx)/\Hid (val B xs<(q+1)*val B ys)) (fun a _ _ _=>(intOf a).toNat)
   case atStart=>exact ⟨qa,ra,hh,hw,rfl,rfl,rfl,rfl,hq2,hraB,hl0,HE0,HQ1,HG⟩
   case round=>
    clear hq2 hraB hl0 HE0 HQ1 HG
    obtain ⟨q,l,h,lw,rfl,rfl,rfl,rfl,hqB,hlB,hlwB,hp,hq,hg⟩:=hrel
    by_cases hgo:l<h\/(h=l/\h3<lw)
    · have hlt:=words_lt hp.out hlwB b3 hgo
      have hnext:Hid (val B xs<q*val B ys):=guess_next HU.out HV.out hq.out hlt
      have hq0 : 1<=q:=by
       rcases Nat.eq_zero_or_pos q with h0 | h0
       · rw [h0,Nat.zero_mul] at hlt;omega
       · exact h0
      obtain ⟨q,rfl⟩:∃ q',q=q'+1:=⟨q-1,by omega⟩
      have HQ2:Hid (q*v1+(l+v1)=t*B+nx):=by
       show _=_
       have:=hq.out
       rw [Nat.add_mul,Nat.one_mul] at this
       omega
      have hq1B:q<B:=by omega
      have hqN:q+1<18446744073709551616:=hqB
      clear hp hq hg hlt hqB hq0
      rcases hgo with hA | ⟨hA,hA2⟩
      rotate_left
      have t1:((h:Int) == (l:Int))=true:=beq_iff_eq.2 (by omega)
      have t0:decide (l<h)=false:=decide_eq_false (by omega)
      clear hA
      rotate_left
      all_goals
       by_cases hbr:l+v1<B
       · have hbr':l+v1<18446744073709551616:=hbr
         have t2:decide (l+v1<v1)=false:=decide_eq_false (by omega)
         go_wp2_with fail
         refine (cH q v0 hq1B b5 _).mono ?_
         rintro e w' ⟨rfl,rfl⟩
         have he0:=Lib.hid (lO q v0)
         have hl0:=mulLo_lt q v0
         go_wp2_with fail
         go_round
         case rel=>exact ⟨q,l+v1,S4 q v0,C5 q v0,by go_num,by go_num,rfl,rfl,hq1B,hbr,hl0,he0,HQ2,hnext⟩
         case measure=>simp [intOf]
       · obtain ⟨z,hz⟩:∃ z,l+v1=z+18446744073709551616:=⟨l+v1-18446744073709551616,by unfold B at hbr;omega⟩
         have hzv:z<v1:=by have:l<18446744073709551616:=hlB;omega
         have nz:IntKind.u64.wrap ((l:Int)+(v1:Int))=(z:Int):=by
          rw [IntKind.wrap_u64];have:v1<18446744073709551616:=b4;omega
         have t2:decide (z<v1)=true:=decide_eq_true hzv
         clear hz hbr
         go_wp2_with fail
         go_ret
         exact ⟨q,by go_num,hq1B,hnext.out,C1 _ _ _⟩
    · have t0:decide (l<h)=false:=decide_eq_false (by omega)
      have HF:Hid (∀ w',w.grownBy w' none->kE w (val B xs) (val B ys) (.returned (.int .u64 (q:Int))) w'):=fun w' hw=>⟨q,rfl,hqB,hg.out,hw⟩
      by_cases he:h=l
      · have t1:((h:Int) == (l:Int))=true:=beq_iff_eq.2 (by omega)
        have t3:decide (h3<lw)=false:=decide_eq_false (by omega)
        clear hgo he hp hq hg
        go_wp2_with fail
        go_ret
        exact HF.out _ (C1 _ _ _)
      · have t1:((h:Int) == (l:Int))=false:=beq_eq_false_iff_ne.2 (by omega)
        clear hgo he hp hq hg
        go_wp2_with fail
        go_ret
        exact HF.out _ (C1 _ _ _)
theorem dH (xs:List Nat) (j:Nat) (h:j<xs.length):val B (xs.drop j)=xs[j]+B*val B (xs.drop (j+1)):=by
 rw [List.drop_eq_getElem_cons h];rfl
def jB (w:World) (b off:Nat) (xs:List Nat) (y:Nat) (cs:Array Value) (e:Ending) (w':World):Prop:=
 ∃ (zs:List Nat) (cs':Array Value),e = .returned (.int .u64 ((val B xs%y:Nat):Int))/\Blk w' b cs'/\qL cs cs' off zs/\w.grownBy w' (some b)/\zs.length=xs.length/\Dig B zs/\val B zs=val B xs / y
set_option maxHeartbeats 2000000 in
theorem bL (w:World) (b off n cap:Nat) (xs:List Nat) (cs:Array Value) (y:Nat) (hn:xs.length=n) (hb:Blk w b cs) (hx:At cs off xs) (bn:n<=1099511627776) (dx:Dig B xs) (hy:y<B) (h0 : 0<y) :
 Calls Tryd.prog 113 #[.slice (some ⟨b,off,none⟩) n cap,.int .u64 (y:Int)] w (jB w b off xs y cs):=by
 have Hn:=Lib.hid hn
 clear hn
 go_enter Tryd.func113,Tryd.ntmps113
 go_wp2_with fail
 go_loopw [5,6] (fun r i wr=>∃ (k rr:Nat) (zs:List Nat) (cs2:Array Value),k<=n/\i = .int .i64 ((k:Int)-1)/\r = .int .u64 (rr:Int)/\rr<y/\Hid (zs.length=n-k)/\Dig B zs/\Blk wr b cs2/\Hid (cs2.size=cs.size)/\At cs2 off (xs.take k++zs)/\(∀ j,j<off\/off+n<=j->cs2[j]?=cs[j]?)/\w.grownBy wr (some b)/\Hid (val B zs*y+rr=val B (xs.drop k)))
  (fun _ i _=>(intOf i+1).toNat)
 case atStart=>exact ⟨n,0,[],cs,Nat.le_refl _,rfl,rfl,h0,by show _=_;simp,Dig.nil _,hb,rfl,by rw [List.append_nil,List.take_of_length_le (by rw [Hn.out];omega)];exact hx,fun _ _=>rfl,B5 _ _,by show _=_;rw [List.drop_eq_nil_of_le (by rw [Hn.out];omega)];simp [val]⟩
 case round=>
  obtain ⟨k,rr,zs,cs2,hk,rfl,rfl,hr,hzl,hzd,hbk,hcs,hat,hout,hg,hv⟩:=hrel
  by_cases h1:k=0
  · subst h1
    have HF:Hid (jB w b off xs y cs (.returned (.int .u64 (rr:Int))) wr):=by
     have h2:=hv.out
     rw [List.drop_zero] at h2
     have e1:val B xs%y=rr:=by rw [<- h2,Nat.mul_comm,Nat.mul_add_mod,Nat.mod_eq_of_lt hr]
     have e2:val B xs / y=val B zs:=by rw [<- h2,Nat.mul_comm,Nat.mul_add_div h0,Nat.div_eq_of_lt hr,Nat.add_zero]
     refine ⟨zs,cs2,by rw [e1],hbk,⟨hcs.out,fun j hj=>hout j (by have:=hzl.out;omega), ?_⟩,hg,by rw [hzl.out,Hn.out];omega,hzd,e2.symm⟩
     simpa using hat
    clear hv hbk hat hout hg hzl
    go_wp2_with fail
    go_ret
    exact HF
  · obtain ⟨j,rfl⟩:∃ j,k=j+1:=⟨k-1,by omega⟩
    clear h1
    obtain ⟨x,ex⟩:∃ x,xs[j]'(by rw [Hn.out];omega)=x:=⟨_,rfl⟩
    have hxB:x<B:=ex ▸ dx.get j _
    have cx:wr.cell? ⟨b,off+j,none⟩=some (.int .u64 (x:Int)):=by
     rw [hbk.cell,hat j (by rw [List.length_append,List.length_take,Hn.out];omega),List.getElem_append_left (by rw [List.length_take,Hn.out];omega),List.getElem_take,ex]
    have fx:wr.frozen? ⟨b,off+j,none⟩=false:=hbk.frozen _
    have e1:((j+1:Nat):Int)-1=(j:Int):=by omega
    rw [e1]
    clear e1
    have hdm:=Nat.div_add_mod (rr*B+x) y
    have hq:bM rr x y<B:=by
     unfold bM
     rw [Nat.div_lt_iff_lt_mul h0]
     have h5:B*(rr+1)<=B*y:=Nat.mul_le_mul_left _ hr
     rw [Nat.mul_add,Nat.mul_comm] at h5
     omega
    have hrr:jH rr x y<y:=Nat.mod_lt _ h0
    have EX:=Lib.hid ex
    have HD:Hid (y*bM rr x y+jH rr x y=rr*B+x):=hdm
    clear hdm ex
    go_wp2_with fail
    refine (pZ rr x y hxB hy hr _).mono ?_
    rintro e w2 ⟨rfl,q,rfl⟩
    generalize bM rr x y=qq at *
    generalize jH rr x y=r2 at *
    go_wp2_with fail
    go_roundw
    case rel=>
     refine ⟨j,r2,qq :: zs,cs2.setIfInBounds (off+j) (.int .u64 (qq:Int)),by omega,by go_num,rfl,hrr, ?_,Dig.cons hq hzd,hbk.drew.setCell _ _, ?_, ?_, ?_, ?_, ?_⟩
     · show _=_;rw [List.length_cons,hzl.out];omega
     · show _=_;rw [Array.size_setIfInBounds,hcs.out]
     · have h2:At cs2 off (xs.take j++([x]++zs)):=by
        rw [List.take_succ_eq_append_getElem (by rw [Hn.out];omega),EX.out,List.append_assoc] at hat;exact hat
       have:=h2.put_mid (Z:=[qq]) rfl
       rw [List.length_take,Nat.min_eq_left (by rw [Hn.out];omega)] at this
       exact this
     · intro i hi
       rw [Array.getElem?_setIfInBounds_ne (by omega)];exact hout i hi
     · exact C2 (A4 hg (C1 _ _ _)) _ _
     · show _=_
       rw [dH xs j (by rw [Hn.out];omega),EX.out, <- hv.out]
       have:=HD.out
       simp only [val]
       generalize val B zs=vz at *
       grind
    case measure=>simp [intOf]
theorem S7 (xs:List Nat) (j:Nat) (h:val B xs<B^j):val B (xs.take j)=val B xs:=by
 rcases Nat.lt_or_ge xs.length j with hl | hl
 · rw [List.take_of_length_le (by omega)]
 · have h1:=J6 B xs j hl
   have h2:val B (xs.drop j)=0:=by
    rcases Nat.eq_zero_or_pos (val B (xs.drop j)) with h0 | h0
    · exact h0
    · have:B^j*1<=B^j*val B (xs.drop j):=Nat.mul_le_mul_left _ h0
      omega
   rw [h2] at h1;omega
theorem nY (xs:List Nat) (j:Nat) (hj:j<=xs.length) (h:val B xs<B^j):val B (xs.drop j)=0:=by
 have h1:=J6 B xs j hj
 rw [S7 xs j h] at h1
 have hp : 0<B^j:=Nat.pow_pos E5
 rcases Nat.eq_zero_or_pos (val B (xs.drop j)) with h0 | h0
 · exact h0
 · have:=Nat.mul_pos hp h0;omega
theorem raised_fits {ys:List Nat} (dy:Dig B ys) (m s:Nat) (hm:ys.length=m+1) (ht:ys.getD m 0≠0) (hs:s=64-Lib.bitLen (ys.getD m 0)):val B ys*2^s<B^(m+1)/\B^m*2^s<=val B ys*2^s:=by
 have h1:=F5 B ys m (by omega)
 have h2:=Q2 B (ys.take m) (dy.take m)
 rw [List.length_take,Nat.min_eq_left (by omega)] at h2
 rw [List.take_of_length_le (by omega)] at h1
 have h3:=dy.getD E5 m
 obtain ⟨_,s2,_⟩:=R7 (ys.getD m 0+1) (ys.getD m 0) (by omega) ht (by rw [<- Z5];exact h3)
 have hL:=cW _ h3
 have hlen:Lib.bitLen (ys.getD m 0)=64-s:=by omega
 rw [hlen] at s2
 generalize ys.getD m 0=t at *
 have h4:(t+1)*2^s<=B:=by rw [P8 (p:=s) (by omega)];exact Nat.mul_le_mul_right _ s2
 constructor
 · have h5:val B ys<B^m*(t+1):=by rw [Nat.mul_add,Nat.mul_one];omega
   have h6:val B ys*2^s<B^m*(t+1)*2^s:=Nat.mul_lt_mul_of_pos_right h5 (Nat.two_pow_pos _)
   have h7:B^m*((t+1)*2^s)<=B^m*B:=Nat.mul_le_mul_left _ h4
   rw [Nat.pow_succ]
   rw [Nat.mul_assoc] at h6
   omega
 · refine Nat.mul_le_mul_right _ ?_
   have:B^m*1<=B^m*t:=Nat.mul_le_mul_left _ (by omega)
   omega
theorem guess_at (w:World) (sx sy:Option Addr) (N n cap cap2 m:Nat) (xs ys:List Nat) (hN:N=n+1) (hn:xs.length=n+1) (hm:ys.length=n) (hnm:n=m+2) (hx:Rdo w sx xs) (hy:Rdo w sy ys) (dx:Dig B xs) (dy:Dig B ys) (bn:n<=1099511627776)
 (hlt:val B xs<val B ys*B):Calls Tryd.prog 122 #[.slice sx N cap,.slice sy n cap2] w (kE w (val B xs) (val B ys)):=by
 subst hN;exact guess_any w sx sy n cap cap2 m xs ys hn hm hnm hx hy dx dy bn hlt
theorem Blk.set_row {w:World} {b g:Nat} {cs:Array Value} (h:Blk w b cs) (hne:b≠g) (o:Nat) (u:Value):Blk (w.setCell ⟨g,o,none⟩ u) b cs:=by
 unfold Blk at *
 rw [Below.heap_setCell _ _ _ _ hne];exact h
theorem long_step {T V Z Q q u L1 L2:Nat} (k2:L2+T*u=L1+T*Z) (hv6:Z+V*q=u):Q*(T*B)*V+L1=(q+B*Q)*T*V+L2:=by
 have e5:T*Z+T*(V*q)=T*u:=by rw [<- Nat.mul_add,hv6]
 have e6:L1=L2+T*(V*q):=by omega
 rw [e6];grind
theorem win_of {cs:Array Value} {L:List Nat} {i k:Nat} (h:At cs 0 L) (hk:i+k<=L.length):At cs i ((L.drop i).take k):=by
 have:=(h.drop i).take k
 rwa [Nat.zero_add] at this
theorem win_len {L:List Nat} {i k:Nat} (hk:i+k<=L.length):((L.drop i).take k).length=k:=by
 rw [List.length_take,List.length_drop];omega
theorem win_back {cs cs':Array Value} {L zs:List Nat} {i k:Nat} (h:At cs 0 L) (hk:i+k<=L.length) (hz:zs.length=k) (hat:At cs' i zs) (hout:∀ j,j<i\/i+k<=j->cs'[j]?=cs[j]?):At cs' 0 (L.take i++(zs++L.drop (i+k))):=by
 have hli:(L.take i).length=i:=by rw [List.length_take];omega
 refine At.append ?_ (At.append ?_ ?_)
 · intro j hj
   rw [hli] at hj
   rw [hout _ (by omega),h j (by omega),List.getElem_take]
 · rw [hli,Nat.zero_add];exact hat
 · intro j hj
   rw [List.length_drop] at hj
   rw [hli,hz,hout _ (by omega),List.getElem_drop]
   have:=h (i+k+j) (by omega)
   rwa [Nat.zero_add] at this ⊢
theorem win_val {L zs:List Nat} {i k u:Nat} (hk:i+k<=L.length) (hz:zs.length=k) (hu:val B ((L.drop i).take k)=u) (h0:val B (L.drop i)<B^k) :
 val B ((L.take i++(zs++L.drop (i+k))).drop i)=val B zs/\val B (L.take i++(zs++L.drop (i+k)))+B^i*u=val B L+B^i*val B zs:=by
 have hli:(L.take i).length=i:=by rw [List.length_take];omega
 have h1:val B (L.drop (i+k))=0:=by
  have:=nY (L.drop i) k (by rw [List.length_drop];omega) h0
  rwa [List.drop_drop] at this
 have h2:val B (L.drop i)=u:=by rw [<- hu];exact (S7 _ _ h0).symm
 have e:(L.take i++(zs++L.drop (i+k))).drop i=zs++L.drop (i+k):=by
  rw [List.drop_append_of_le_length (by omega),List.drop_eq_nil_of_le (by omega),List.nil_append]
 have h3:val B (zs++L.drop (i+k))=val B zs:=by rw [L7,h1];simp
 refine ⟨by rw [e,h3], ?_⟩
 rw [L7,hli,h3,J6 B L i (by omega),h2];omega
def FreshAt (n:Nat) (s:Option Addr):Prop:=∀ ad,s=some ad->n<=ad.block/\ad=⟨ad.block,0,none⟩
theorem FreshAt.none (n:Nat):FreshAt n none:=fun _ e=>by cases e
theorem FreshAt.some {n g:Nat} (h:n<=g):FreshAt n (some ⟨g,0,Option.none⟩):=fun _ e=>by cases e;exact ⟨h,rfl⟩
theorem FreshAt.of {n g m:Nat} {s:Option Addr} (h:n<=g) (h1 : 0<m->s=Option.some ⟨g,0,Option.none⟩) (h2:m=0->s=Option.none):FreshAt n s:=by
 rcases Nat.eq_zero_or_pos m with e | e
 · rw [h2 e];exact FreshAt.none _
 · rw [h1 e];exact FreshAt.some h
def O7 (w:World) (a b:Nat) (n:Nat) (e:Ending) (w':World):Prop:=
 ∃ (sq sr:Option Addr) (nq cq nr cr:Nat) (qs rs:List Nat),e = .returned (.tuple #[.slice sq nq cq,.slice sr nr cr])/\qs.length=nq/\nq<=cq/\nq<=n+1/\rs.length=nr/\nr<=cr/\nr<=n+1 /\
   Rdo w' sq qs/\Rdo w' sr rs/\Dig B qs/\Dig B rs/\val B qs=a / b/\val B rs=a%b/\w.grownBy w' none/\FreshAt w.heap.size sr
set_option maxHeartbeats 8000000 in
theorem mK (w:World) (sa sb:Option Addr) (ca cb:Nat) (xs ys:List Nat) (m d:Nat) (hx:Lm w sa xs) (hy:Lm w sb ys) (hm:ys.length=m+2) (hn:xs.length=m+2+d) (bn:m+2+d<=1073741000) :
 Calls Tryd.prog 117 #[.slice sa (m+2+d) ca,.slice sb (m+2) cb] w (O7 w (val B xs) (val B ys) (m+2+d)):=by
 obtain ⟨b2,o2,rfl,cy⟩:=hy.rd.cell (by omega)
 obtain ⟨i0,hi,hz0,hz1,hz2⟩:=info_parts Tryd.infoU64
 obtain ⟨t,ht⟩:∃ t,ys.getD (m+1) 0=t:=⟨_,rfl⟩
 have ct:=cy (m+1) (by omega)
 rw [R5,ht] at ct
 have htB:t<B:=by rw [<- ht];exact hy.dig.getD E5 _
 have ht0:ys.getD (m+1) 0≠0:=by
  refine hy.top _ ?_
  rw [List.getLast?_eq_getElem?,hm,List.getD_eq_getElem?_getD,show m+2-1=m+1 from by omega,List.getElem?_eq_getElem (by omega)];rfl
 obtain ⟨s,hs⟩:∃ s,64-Lib.bitLen t=s:=⟨_,rfl⟩
 obtain ⟨hV1,hV2⟩:=raised_fits hy.dig (m+1) s (by omega) ht0 (by rw [ht,hs])
 have hs64:s<64:=by
  obtain ⟨_,_,h3⟩:=R7 (t+1) t (by omega) (by rw [<- ht];exact ht0) (by rw [<- Z5];exact htB)
  omega
 have HT:=Lib.hid ht
 have HS:=Lib.hid hs
 have HV1:=Lib.hid hV1
 have HV2:=Lib.hid hV2
 have Hm:=Lib.hid hm
 have Hn:=Lib.hid hn
 clear ht hs hV1 hV2 ht0 cy
 go_enter Tryd.func117,Tryd.ntmps117
 go_wp2_with fail
 refine (lS t htB _).mono ?_
 rintro e w' ⟨rfl,rfl⟩
 rw [HS.out]
 clear ct
 go_wp2_with fail
 refine (dT _ _ _ _ ys s hm hy.rd hy.dig (by omega) (by omega)).mono ?_
 rintro e w1 ⟨gb,nb,csb,bs,rfl,hgb,hbb,hatb,hlb,hnb,hdb,hvb,hg1⟩
 obtain rfl:nb=m+3:=by omega
 go_wp2_with fail
 refine (dT _ _ _ _ xs s hn (hx.rd.kept hg1) hx.dig (by omega) (by omega)).mono ?_
 rintro e w2 ⟨gr,nr,csr,rs,rfl,hgr,hbr,hatr,hlr,hnr,hdr,hvr,hg2⟩
 obtain rfl:nr=m+2+d+1:=by omega
 clear hnr hnb
 have hgr':gb<gr:=Nat.lt_of_lt_of_le hbb.lt hgr
 have hbb2:=hbb.kept hg2 (by simp)
 obtain ⟨vs,hvs⟩:∃ vs,bs.take (m+2)=vs:=⟨_,rfl⟩
 have hlv:vs.length=m+2:=by rw [<- hvs,List.length_take];omega
 have hatv:At csb 0 vs:=by rw [<- hvs];exact hatb.take _
 have hdv:Dig B vs:=by rw [<- hvs];exact hdb.take _
 have hvv:val B vs=val B ys*2^s:=by rw [<- hvs,S7 _ _ (by rw [hvb];exact HV1.out),hvb]
 have hgw2:=A4 hg1 hg2
 have Hlv:=Lib.hid hlv
 have Hvv:=Lib.hid hvv
 have Hvr:=Lib.hid hvr
 have Hlr:=Lib.hid hlr
 clear hvs hlv hvv hvr hlr hvb hlb hatb hdb hbb hg1 hg2
 go_wp2_with (at_make;refine wpList_make_full _ rfl _ _ 25 rfl _ 52 i0 (.int .u64 0) 1 Tryd.underlying25 hi hz0 hz1 .i64 .i64 _ _ (d+1) rfl rfl (by omega) (by omega) (by rw [hz2];omega) (by unfold maxLen;omega) (Nat.le_refl _) ?_;intro w3 hown hg3;obtain ⟨csq,hbq,hsq,hatq⟩:=aC hown;have HSQ:=Lib.hid hsq;clear hsq hown)
 obtain ⟨gq,hgq⟩:∃ gq,w2.heap.size=gq:=⟨_,rfl⟩
 rw [hgq] at hbq ⊢
 have hgrq:gr<gq:=by have:=hbr.lt;omega
 have hbb3:=hbb2.kept hg3 (by simp)
 have hbr3:=hbr.kept hg3 (by simp)
 have hgw3:=A4 hgw2 hg3
 clear hgq hbb2 hbr hg3 hgw2
 go_loopw [8] (fun i wr=>∃ (k:Nat) (L qs:List Nat) (cr2 cq2:Array Value),k<=d+1/\i = .int .i64 ((k:Int)-1)/\Hid (L.length=m+2+d+1)/\Dig B L/\Blk wr gr cr2/\At cr2 0 L/\Hid (qs.length=d+1-k)/\Dig B qs/\Blk wr gq cq2/\At cq2 0 (List.replicate k 0++qs)/\Blk wr gb csb/\w.grownBy wr none/\Hid (val B (L.drop k)<val B vs)/\Hid (val B xs*2^s=val B qs*B^k*val B vs+val B L))
  (fun i _=>(intOf i+1).toNat)
 case atStart=>
  refine ⟨d+1,rs,[],csr,csq,Nat.le_refl _,by go_num,Hlr,hdr,hbr3,hatr,by show _=_;simp,Dig.nil _,hbq,by rw [List.append_nil];exact hatq,hbb3,hgw3, ?_, ?_⟩
  · show _<_
    have h1:=J6 B rs (d+1) (by rw [Hlr.out];omega)
    have h2:=Q2 B xs hx.dig
    rw [Hn.out] at h2
    have h3:val B rs<B^(m+2+d)*2^s:=by rw [Hvr.out];exact Nat.mul_lt_mul_of_pos_right h2 (Nat.two_pow_pos _)
    have h4:B^(m+2+d)*2^s=B^(d+1)*(B^(m+1)*2^s):=by rw [<- Nat.mul_assoc, <- Nat.pow_add];congr 2;omega
    have h5:B^(d+1)*val B (rs.drop (d+1))<B^(d+1)*(B^(m+1)*2^s):=by omega
    have h6:=Nat.lt_of_mul_lt_mul_left h5
    rw [Hvv.out]
    exact Nat.lt_of_lt_of_le h6 HV2.out
  · show _=_
    rw [Hvr.out];simp [val]
 case round=>
  clear hbb3 hbr3 hbq hatq hatr hdr hgw3 Hlr Hvr
  obtain ⟨k,L,qs,cr2,cq2,hk,rfl,hLl,hLd,hbr,hatL,hql,hqd,hbq,hatq,hbb,hgw,hlt,hv⟩:=hrel
  by_cases h0:k=0
  · subst h0
    have hres:Hid (val B qs=val B xs / val B ys/\val B L / 2^s=val B xs%val B ys):=by
     have h1:=hv.out
     have h2:=hlt.out
     rw [Nat.pow_zero,Nat.mul_one,Hvv.out] at h1
     rw [List.drop_zero,Hvv.out] at h2
     have hp : 0<2^s:=Nat.two_pow_pos s
     have hy0 : 0<val B ys:=by
      rcases Nat.eq_zero_or_pos (val B ys) with h | h
      · rw [h,Nat.zero_mul] at h2;omega
      · exact h
     generalize val B qs=Q at *
     generalize val B L=R at *
     generalize val B xs=X at *
     generalize val B ys=Y at *
     have hQX:Q*Y<=X:=by
      rcases Nat.lt_or_ge X (Q*Y) with h | h
      · have:=Nat.mul_lt_mul_of_pos_right h hp
        rw [Nat.mul_assoc] at this;omega
      · exact h
     obtain ⟨t,ht⟩:∃ t,X=Q*Y+t:=⟨X-Q*Y,by omega⟩
     have hr:R=t*2^s:=by
      rw [ht,Nat.add_mul] at h1
      have h3:Q*Y*2^s=Q*(Y*2^s):=Nat.mul_assoc ..
      omega
     have hty:t<Y:=by rw [hr] at h2;exact Nat.lt_of_mul_lt_mul_right h2
     refine ⟨?_, ?_⟩
     · rw [ht,Nat.mul_comm,Nat.mul_add_div hy0,Nat.div_eq_of_lt hty,Nat.add_zero]
     · rw [hr,Nat.mul_div_cancel _ hp,ht,Nat.mul_comm Q,Nat.mul_add_mod,Nat.mod_eq_of_lt hty]
    rw [List.replicate_zero,List.nil_append] at hatq
    clear hv hlt
    go_wp2_with fail
    refine (X7 _ gr 0 _ _ L cr2 s hLl.out hbr hatL hLd (Nat.le_refl _) (by omega) (by omega)).mono ?_
    rintro e w6 ⟨sr,mr,cr,cs6,rs6,rfl,hm6,hl6,hlx6,hd6,hv6,hs6,hz6,hb6,hat6,hg6⟩
    have hbq6:=hbq.kept hg6 (by simp;omega)
    have hgw6:=D2 hgw hg6 (by omega)
    have hrd:=Lowered.rdo hl6 hs6 hb6 hat6
    have HF:Hid (O7 w (val B xs) (val B ys) (m+2+d) (.returned (.tuple #[.slice (some ⟨gq,0,none⟩) (d+1) (d+1),.slice sr mr cr])) w6):=by
     refine ⟨_,_,_,_,_,_,qs,rs6,rfl,by rw [hql.out];omega,Nat.le_refl _,by omega,hl6,hm6,by rw [hLl.out] at hlx6;omega,Rdo.of hbq6 hatq,hrd,hqd,hd6,hres.out.1,hv6.trans hres.out.2,hgw6,FreshAt.of (by omega) hs6 hz6⟩
    clear hbq6 hgw6 hrd hv6 hl6 hs6 hb6 hat6 hg6 hbr hbq hbb hgw
    go_wp2_with fail
    go_ret2
    exact HF
  · obtain ⟨i,rfl⟩:∃ i,k=i+1:=⟨k-1,by omega⟩
    clear h0
    have e1:((i+1:Nat):Int)-1=(i:Int):=by omega
    rw [e1]
    clear e1
    obtain ⟨u,hu⟩:∃ u,val B ((L.drop i).take (m+3))=u:=⟨_,rfl⟩
    have hik:i+(m+3)<=L.length:=by rw [hLl.out];omega
    have hdc:=dH L i (by omega)
    have hLi:L[i]'(by omega)<B:=hLd.get i _
    have hVm:=Q2 B vs hdv
    rw [Hlv.out] at hVm
    have hdu:val B (L.drop i)<val B vs*B:=by
     rw [hdc,Nat.mul_comm (val B vs)]
     have:B*(val B (L.drop (i+1))+1)<=B*val B vs:=Nat.mul_le_mul_left _ hlt.out
     rw [Nat.mul_add,Nat.mul_one] at this
     omega
    have hdB:val B (L.drop i)<B^(m+3):=by
     refine Nat.lt_trans hdu ?_
     rw [Nat.pow_succ]
     exact Nat.mul_lt_mul_of_pos_right hVm E5
    have huV:u<val B vs*B:=by rw [<- hu,S7 _ _ hdB];exact hdu
    have Hik:=Lib.hid hik
    have Hu:=Lib.hid hu
    have HdB:=Lib.hid hdB
    have HuV:=Lib.hid huV
    have hatw:=win_of hatL hik
    have hlw:=Lib.hid (win_len hik)
    have hdw:Dig B ((L.drop i).take (m+3)):=(hLd.drop i).take _
    clear hdc hLi hVm hdu hdB huV hik hu
    generalize hws:(L.drop i).take (m+3)=ws at *
    have Hws:=Lib.hid hws
    clear hws
    go_wp2_with fail
    refine (guess_at _ _ _ _ (m+2) _ _ m ws vs (by omega) hlw.out Hlv.out rfl (Rdo.of hbr hatw) (Rdo.of hbb hatv) hdw hdv (by omega) (by rw [Hu.out];exact HuV.out)).mono ?_
    rintro e w4 ⟨q,rfl,hqB,hqu,hg4⟩
    have hbr4:=hbr.kept hg4 (by simp)
    have hbq4:=hbq.kept hg4 (by simp)
    have hbb4:=hbb.kept hg4 (by simp)
    have hgw4:=A4 hgw hg4
    rw [Hu.out] at hqu
    have Hqu:=Lib.hid hqu
    clear hqu hbr hbq hbb hg4 hgw
    go_wp2_with fail
    refine (kK _ gr i _ _ ws cr2 (some ⟨gb,0,none⟩) (m+2) _ vs q (by rw [hlw.out];omega) Hlv.out hbr4 hatw (Or.inr ⟨gb,0,csb,rfl,by omega,hbb4,hatv⟩) (by omega) (by omega) hdw hdv hqB).mono ?_
    rintro e w5 ⟨br,zs,cr5,rfl,hbr5,hw5,hg5,hl5,hd5,hbr1,hv5⟩
    have hbq5:=hbq4.kept hg5 (by simp;omega)
    have hbb5:=hbb4.kept hg5 (by simp;omega)
    have hgw5:=D2 hgw4 hg5 (by omega)
    rw [Hlv.out] at hl5 hv5
    rw [Hu.out] at hv5
    have HL5:=Lib.hid hl5
    have HV5:=Lib.hid hv5
    have Hout5:∀ j,j<i\/i+(m+3)<=j->cr5[j]?=cr2[j]?:=fun j hj=>hw5.out j (by rw [HL5.out];omega)
    have hat5:=hw5.lies
    clear hl5 hv5 hbr4 hbq4 hbb4 hg5 hgw4 hw5 hatw
    obtain ⟨wo,rfl⟩:∃ wo:World,wo=wr:=⟨_,rfl⟩
    go_wp2_with fail
    go_loopw [10,11] (fun a c w6=>∃ (q sh:Nat) (zs:List Nat) (cr6:Array Value),a = .int .u64 (q:Int)/\c = .int .u64 (sh:Int)/\sh<=1/\q<B/\Hid (zs.length=m+3)/\Dig B zs/\Blk w6 gr cr6/\At cr6 i zs/\Hid (∀ j,j<i\/i+(m+3)<=j->cr6[j]?=cr2[j]?)/\Blk w6 gq cq2/\Blk w6 gb csb/\w.grownBy w6 none/\Hid (val B zs+val B vs*q=u+sh*B^(m+3))/\Hid (u<(q+1)*val B vs))
     (fun a _ _=>(intOf a).toNat)
    case atStart=>exact ⟨q,br,zs,cr5,rfl,rfl,hbr1,hqB,HL5,hd5,hbr5,hat5,Hout5,hbq5,hbb5,hgw5,HV5,Hqu⟩
    case round=>
     clear hbr1 hqB HL5 hd5 hbr5 hat5 Hout5 hbq5 hbb5 hgw5 HV5 Hqu
     obtain ⟨q,sh,zs,cr6,rfl,rfl,hsh,hqB,hl6,hd6,hbr6,hat6,hout6,hbq6,hbb6,hgw6,hv6,hqu⟩:=hrel
     by_cases hs0:sh=0
     · subst hs0
       obtain ⟨y,cy⟩:∃ y:Nat,wr.cell? ⟨gq,i,none⟩=some (.int .u64 (y:Int)):=⟨_,by
        have:=hatq i (by rw [List.length_append,List.length_replicate];omega)
        rw [Nat.zero_add] at this
        rw [hbq6.cell];exact this⟩
       have fy:wr.frozen? ⟨gq,i,none⟩=false:=hbq6.frozen _
       go_wp2_with fail
       clear cy fy
       go_roundw
       case rel=>
        have hv6:=hv6.out
        rw [Nat.zero_mul,Nat.add_zero] at hv6
        have hzV:val B zs<val B vs:=by
         have h1:=hqu.out
         rw [Nat.add_mul,Nat.one_mul,Nat.mul_comm q] at h1
         omega
        obtain ⟨k1,k2⟩:=win_val (u:=u) Hik.out hl6.out (by rw [Hws.out];exact Hu.out) HdB.out
        refine ⟨i,L.take i++(zs++L.drop (i+(m+3))),q :: qs,cr6,cq2.setIfInBounds i (.int .u64 (q:Int)),by omega,by go_num, ?_,(hLd.take _).append (hd6.append (hLd.drop _)), ?_,win_back hatL Hik.out hl6.out hat6 hout6.out, ?_,Dig.cons hqB hqd,hbq6.setCell _ _, ?_, ?_, ?_, ?_, ?_⟩
        · show _=_
          have:=Hik.out
          rw [List.length_append,List.length_append,List.length_take,List.length_drop,hl6.out,hLl.out];try omega
        · exact hbr6.set_row (by omega) _ _
        · show _=_;rw [List.length_cons,hql.out];omega
        · have h2:At cq2 0 (List.replicate i 0++([0]++qs)):=by
           have:=hatq
           rw [List.replicate_succ',List.append_assoc] at this;exact this
          have:=h2.put_mid (Z:=[q]) rfl
          rw [List.length_replicate,Nat.zero_add] at this
          exact this
        · exact hbb6.set_row (by omega) _ _
        · exact D2 hgw6 (C2 (B5 _ _) _ _) (by omega)
        · show _<_;rw [k1];exact hzV
        · show _=_
          rw [hv.out]
          simp only [val]
          rw [Nat.pow_succ]
          exact long_step k2 hv6
       case measure=>simp [intOf]
     · obtain rfl:sh=1:=by omega
       clear hs0
       have hz:=Q2 B zs hd6
       rw [hl6.out] at hz
       have hv6':=hv6.out
       rw [Nat.one_mul] at hv6'
       have hqV:u<q*val B vs:=by rw [Nat.mul_comm];omega
       have hq0 : 1<=q:=by
        rcases Nat.eq_zero_or_pos q with h0 | h0
        · rw [h0,Nat.zero_mul] at hqV;omega
        · exact h0
       obtain ⟨q,rfl⟩:∃ q',q=q'+1:=⟨q-1,by omega⟩
       have HqV:=Lib.hid hqV
       have HV6:=Lib.hid hv6'
       have hqB':q<B:=by omega
       have hqN:q+1<18446744073709551616:=hqB
       clear hz hv6' hqV hv6 hqu hqB hq0
       go_wp2_with fail
       refine (addTo_at _ gr i _ _ zs cr6 (some ⟨gb,0,none⟩) (m+2) _ vs (by rw [hl6.out];omega) Hlv.out hbr6 hat6 (Or.inr ⟨gb,0,csb,rfl,by omega,hbb6,hatv⟩) (by omega) (by omega) hd6 hdv).mono ?_
       rintro e w7 ⟨c,zs7,cr7,rfl,hbr7,hw7,hg7,hl7,hd7,hc7,hv7⟩
       have hbq7:=hbq6.kept hg7 (by simp;omega)
       have hbb7:=hbb6.kept hg7 (by simp;omega)
       have hgw7:=D2 hgw6 hg7 (by omega)
       rw [hl6.out] at hl7 hv7
       have Hout7:Hid (∀ j,j<i\/i+(m+3)<=j->cr7[j]?=cr2[j]?):=fun j hj=>(hw7.out j (by rw [hl7];omega)).trans (hout6.out j hj)
       have hat7:=hw7.lies
       have HL7:=Lib.hid hl7
       have HV7:Hid (val B zs7+val B vs*q=u+(1-c)*B^(m+3)):=by
        show _=_
        have h1:=HV6.out
        rw [Nat.mul_add,Nat.mul_one] at h1
        have h2:c=0\/c=1:=by omega
        rcases h2 with rfl | rfl<;>simp at hv7 ⊢ <;> omega
       have n1:(1:Int)-(c:Int)=((1-c:Nat):Int):=by omega
       have N1:=Lib.hid n1
       clear hl7 hv7 hg7 hw7 n1 hbr6 hat6 hout6 hbq6 hbb6 hgw6 HV6
       go_wp2_with fail
       go_roundw
       case rel=>exact ⟨q,1-c,zs7,cr7,by go_num,congrArg (Value.int IntKind.u64) N1.out,by omega,hqB',HL7,hd7,hbr7,hat7,Hout7,hbq7,hbb7,hgw7,HV7,HqV⟩
       case measure=>simp [intOf]
set_option maxHeartbeats 2000000 in
theorem mJ (w:World) (sa sb:Option Addr) (n ca m cb:Nat) (xs ys:List Nat) (hx:Lm w sa xs) (hy:Lm w sb ys) (hn:xs.length=n) (hm:ys.length=m) (hm0 : 0<m) (hc0:n=0->ca=0) (hca:n<=ca) (bn:n<=1073741000) (bm:m<=1073741000) :
 Calls Tryd.prog 106 #[.slice sa n ca,.slice sb m cb] w (O7 w (val B xs) (val B ys) n):=by
 have Hn:=Lib.hid hn
 have Hm:=Lib.hid hm
 by_cases hlt:n<m
 · have hv:=I0 B E5 xs ys hx.dig hy.top (by omega)
   have hq:Hid (0=val B xs / val B ys):=(Nat.div_eq_of_lt hv).symm
   have hr:Hid (val B xs=val B xs%val B ys):=(Nat.mod_eq_of_lt hv).symm
   clear hv hn hm
   by_cases h0:n=0
   · subst h0
     obtain rfl:xs=[]:=List.length_eq_zero_iff.1 Hn.out
     obtain rfl:=hx.nil rfl
     obtain rfl:=hc0 rfl
     clear hc0
     go_enter Tryd.func106,Tryd.ntmps106
     go_wp2_with fail
     refine (iH _).mono ?_
     rintro e w' ⟨rfl,rfl⟩
     go_wp2_with fail
     go_ret2
     exact ⟨none,none,0,0,0,0,[],[],rfl,rfl,by omega,by omega,rfl,by omega,by omega,Or.inl rfl,Or.inl rfl,Dig.nil _,Dig.nil _,hq.out,hr.out,B5 _ _,FreshAt.none _⟩
   · obtain ⟨b1,o1,cs1,rfl,hb1,hat1⟩:=hx.rd.get 0 (by rw [Hn.out];omega)
     clear hc0
     go_enter Tryd.func106,Tryd.ntmps106
     go_wp2_with fail
     refine (fW _ b1 o1 n _ cs1 xs Hn.out hb1 hat1 (by omega) (by omega)).mono ?_
     rintro e w2 ⟨g,cap,cs2,rfl,hge,hb2,hat2,hcap,hg2⟩
     rw [Hn.out] at hcap ⊢
     have HF:Hid (O7 w (val B xs) (val B ys) n (.returned (.tuple #[.slice none 0 0,.slice (some ⟨g,0,none⟩) n cap])) w2):=
      ⟨none,_,0,0,n,cap,[],xs,rfl,rfl,by omega,by omega,Hn.out,hcap,by omega,Or.inl rfl,Rdo.of hb2 hat2,Dig.nil _,hx.dig,hq.out,hr.out,hg2,FreshAt.some hge⟩
     clear hge hb2 hat2 hg2 hb1 hat1
     go_wp2_with fail
     go_ret2
     exact HF
 · by_cases h1:m=1
   · subst h1
     obtain ⟨b1,o1,cs1,rfl,hb1,hat1⟩:=hx.rd.get 0 (by omega)
     obtain ⟨b2,o2,rfl,cy⟩:=hy.rd.cell (by omega)
     have c0:=cy 0 (by omega)
     obtain ⟨y,rfl⟩:∃ y,ys=[y]:=List.length_eq_one_iff.1 hm
     have hyB:y<B:=hy.dig y (by simp)
     have hy0 : 0<y:=by
      have:=hy.top y (by simp)
      omega
     simp only [List.getElem_cons_zero,Nat.add_zero] at c0
     clear hn hm hc0 cy
     go_enter Tryd.func106,Tryd.ntmps106
     go_wp2_with fail
     refine (fW _ b1 o1 n _ cs1 xs Hn.out hb1 hat1 (by omega) (by omega)).mono ?_
     rintro e w2 ⟨g,cap,cs2,rfl,hge,hbk2,hat2,hcap,hg2⟩
     rw [Hn.out] at hcap ⊢
     have c02:w2.cell? ⟨b2,o2,none⟩=some (.int .u64 (y:Int)):=hg2.cell c0 (by simp)
     clear c0 hb1 hat1
     go_wp2_with fail
     refine (bL _ g 0 n _ xs cs2 y Hn.out hbk2 hat2 (by omega) hx.dig hyB hy0).mono ?_
     rintro e w3 ⟨zs,cs3,rfl,hb3,hw3,hg3,hl3,hd3,hv3⟩
     have hgw3:=D2 hg2 hg3 hge
     have hrB:val B xs%y<B:=Nat.lt_trans (Nat.mod_lt _ hy0) hyB
     obtain ⟨r,hr⟩:∃ r,val B xs%y=r:=⟨_,rfl⟩
     rw [hr] at hrB ⊢
     have hat4:At #[.int .u64 (r:Int)] 0 [r]:=fun i hi=>by
      obtain rfl:i=0:=by simpa using hi
      rfl
     have HF:Hid (O7 w (val B xs) (val B [y]) n (.returned (.tuple #[.slice (some ⟨g,0,none⟩) n cap,.slice (some ⟨w3.heap.size,0,none⟩) 1 1])) (w3.alloc (.cells #[.int .u64 (r:Int)] 52))):=by
      refine ⟨_,_,n,cap,1,1,zs,[r],rfl,by rw [hl3,Hn.out],hcap,by omega,rfl,by omega,by omega,Rdo.of (hb3.alloc _) hw3.lies,Rdo.of (hZ _ _) hat4,hd3,Dig.cons hrB (Dig.nil _), ?_, ?_,B1 hgw3 _,FreshAt.some hgw3.size⟩
      · rw [hv3];simp [val]
      · simp [val,hr]
     clear hge hbk2 hat2 hg2 hgw3 hb3 hw3 hg3 hl3 hv3 c02 hr
     go_wp2_with fail
     go_ret2
     exact HF
   · obtain ⟨m',rfl⟩:∃ m',m=m'+2:=⟨m-2,by omega⟩
     obtain ⟨d,rfl⟩:∃ d,n=m'+2+d:=⟨n-(m'+2),by omega⟩
     have f1:((m':Int)+2 == 1)=false:=beq_eq_false_iff_ne.2 (by omega)
     clear hc0 h1
     go_enter Tryd.func106,Tryd.ntmps106
     go_wp2_with fail
     refine (mK _ sa sb ca cb xs ys m' d hx hy hm hn bn).mono ?_
     rintro e w' ⟨sq,sr,nq,cq,nr,cr,qs,rs,rfl,h⟩
     have HF:Hid (O7 w (val B xs) (val B ys) (m'+2+d) (.returned (.tuple #[.slice sq nq cq,.slice sr nr cr])) w'):=⟨sq,sr,nq,cq,nr,cr,qs,rs,rfl,h⟩
     clear h hn hm
     go_wp2_with fail
     go_ret2
     exact HF
def nN (w:World) (n k:Nat) (code:Int) (e:Ending) (w':World):Prop:=∃ v u,e = .returned (.tuple #[v,u,.int .i64 code])/\NatV w' v n/\NatV w' u k/\w.grownBy w' none
set_option maxHeartbeats 2000000 in
theorem nT (w:World) (va vb:Value) (a b K:Nat) (ha:NatV w va a) (hb:NatV w vb b) (hK:K<=1073741000) (la:a<B^K) (lb:b<B^K) (h0 : 0<b) :
 Calls Tryd.prog 111 #[va,vb] w (nN w (a / b) (a%b) 0):=by
 obtain ⟨sa,xs,rfl,hx,rfl⟩:=ha
 obtain ⟨sb,ys,rfl,hy,rfl⟩:=hb
 have h1:=hx.len la
 have h2:=hy.len lb
 have h3:=kI hy h0
 clear la lb h0
 have hgw:w.grownBy ((((w.alloc (.cells #[.slice sa xs.length xs.length] 27)).alloc (.cells #[.slice sb ys.length ys.length] 27)).alloc (.cells #[.slice none 0 0] 27)).alloc (.cells #[.slice none 0 0] 27)) none:=B1 (B1 (B1 (World.grownBy_alloc _ _ _) _) _) _
 have hbox1:=(Below.heap_alloc _ (.cells #[.slice none 0 0] 27) (w.heap.size+1+1) (by simp)).trans (A9 ((w.alloc (.cells #[.slice sa xs.length xs.length] 27)).alloc (.cells #[.slice sb ys.length ys.length] 27)) (.cells #[.slice none 0 0] 27) (w.heap.size+1+1) (by simp))
 have hbox2:=A9 (((w.alloc (.cells #[.slice sa xs.length xs.length] 27)).alloc (.cells #[.slice sb ys.length ys.length] 27)).alloc (.cells #[.slice none 0 0] 27)) (.cells #[.slice none 0 0] 27) (w.heap.size+1+1+1) (by simp)
 have f1:((ys.length:Int) == 0)=false:=beq_eq_false_iff_ne.2 (by omega)
 go_enter Tryd.func111,Tryd.ntmps111
 go_wp2_with fail
 refine (mJ _ sa sb _ _ _ _ xs ys (hx.kept hgw) (hy.kept hgw) rfl rfl h3 (fun h=>h) (Nat.le_refl _) (by omega) (by omega)).mono ?_
 rintro e w2 ⟨sq,sr,nq,cq,nr,cr,qs,rs,rfl,hlq,hcq,hnq,hlr,hcr,hnr,hrq,hrr,hdq,hdr,hvq,hvr,hg2,_⟩
 have hgw2:=A4 hgw hg2
 have hb1:=A5 hg2 hbox1
 have hb2:=A5 hg2 hbox2
 have HLQ:=Lib.hid hlq
 have HLR:=Lib.hid hlr
 have HVQ:=Lib.hid hvq
 have HVR:=Lib.hid hvr
 clear hlq hlr hvq hvr hg2 hgw hbox1 hbox2
 go_wp2_with fail
 refine (gM _ sq nq cq qs HLQ.out hrq (by omega) hcq hdq).mono ?_
 rintro e w3 ⟨v,rfl,⟨s1,q1,rfl,hl3,hv3⟩,hg3⟩
 have hgw3:=A4 hgw2 hg3
 have hb13:=A5 hg3 hb1
 have hb23:=A5 hg3 hb2
 have hrr3:=hrr.kept hg3
 have HV3:=Lib.hid (hv3.trans HVQ.out)
 clear hv3 hg3 hgw2 hb1 hb2 hrr hrq
 go_wp2_with fail
 refine (gM _ sr nr cr rs HLR.out hrr3 (by omega) hcr hdr).mono ?_
 rintro e w4 ⟨v,rfl,⟨s2,q2,rfl,hl4,hv4⟩,hg4⟩
 have hgw4:=A4 hgw3 hg4
 have hb14:=A5 hg4 hb13
 have hb24:=A5 hg4 hb23
 have hl34:=hl3.kept hg4
 have HV4:=Lib.hid (hv4.trans HVR.out)
 obtain ⟨hc1,hf1⟩:=B8 hb14
 obtain ⟨hc2,hf2⟩:=B8 hb24
 have HF:Hid (∀ u1 u2,nN w (val B xs / val B ys) (val B xs%val B ys) 0 (.returned (.tuple #[.agg #[.slice s1 q1.length q1.length],.agg #[.slice s2 q2.length q2.length],.int .i64 0])) ((w4.setCell ⟨w.heap.size+1+1,0,none⟩ u1).setCell ⟨w.heap.size+1+1+1,0,none⟩ u2)):=by
  intro u1 u2
  have hb5:(w4.setCell ⟨w.heap.size+1+1,0,none⟩ u1).heap[w.heap.size+1+1+1]?=some (.cells #[.slice none 0 0] 27 (0,0)):=by
   rw [Below.heap_setCell _ _ _ _ (by simp)];exact hb24
  exact ⟨_,_,rfl,⟨s1,q1,rfl,(hl34.set_other hb14 (by decide) 0 u1).set_other hb5 (by decide) 0 u2,HV3.out⟩,⟨s2,q2,rfl,(hl4.set_other hb14 (by decide) 0 u1).set_other hb5 (by decide) 0 u2,HV4.out⟩,
   D2 (D2 hgw4 (C2 (B5 _ _) _ _) (by omega)) (C2 (B5 _ _) _ _) (by omega)⟩
 clear hv4 hg4 hgw3 hgw4 hb13 hb23 hb14 hb24 hrr3
 go_wp2_with fail
 exact bodyPost_ret (v := .tuple #[.agg #[.slice s1 q1.length q1.length],.agg #[.slice s2 q2.length q2.length],.int .i64 0]) (by simp [results,Tryd.results111,go_sem,hc1,hc2]) rfl (HF.out _ _)
def nb (a:Nat):Nat:=if a=0 then 0 else Nat.log2 a+1
theorem gO {a:Nat} (h : 0<a) : 2^(nb a-1)<=a/\a<2^nb a/\1<=nb a:=by
 unfold nb
 rw [if_neg (by omega),Nat.add_sub_cancel]
 exact ⟨Nat.log2_self_le (by omega),Nat.lt_log2_self,by omega⟩
theorem nb_of {a k:Nat} (h1 : 2^k<=a) (h2:a<2^(k+1)):nb a=k+1:=by
 obtain ⟨a1,a2,a3⟩:=gO (a:=a) (Nat.lt_of_lt_of_le (Nat.two_pow_pos k) h1)
 rcases Nat.lt_trichotomy (nb a) (k+1) with h | h | h
 · have : 2^nb a<=2^k:=Nat.pow_le_pow_right (by omega) (by omega)
   omega
 · exact h
 · have : 2^(k+1)<=2^(nb a-1):=Nat.pow_le_pow_right (by omega) (by omega)
   omega
theorem nb_limbs {xs:List Nat} (dx:Dig B xs) (n t:Nat) (hn:xs.length=n+1) (ht:xs.getD n 0=t) (h0:t≠0):nb (val B xs)=n*64+Lib.bitLen t:=by
 have h1:=F5 B xs n (by omega)
 rw [List.take_of_length_le (by omega),ht] at h1
 have h2:=Q2 B (xs.take n) (dx.take n)
 rw [List.length_take,Nat.min_eq_left (by omega)] at h2
 have htB:t<B:=by rw [<- ht];exact dx.getD E5 n
 obtain ⟨s1,s2,s3⟩:=R7 (t+1) t (by omega) h0 (by rw [<- Z5];exact htB)
 obtain ⟨L,hL⟩:∃ L,Lib.bitLen t=L+1:=⟨Lib.bitLen t-1,by omega⟩
 rw [hL,Nat.add_sub_cancel] at s1
 rw [hL] at s2 ⊢
 have hB:B^n=2^(n*64):=by rw [Z5, <- Nat.pow_mul,Nat.mul_comm]
 rw [show n*64+(L+1)=(n*64+L)+1 from by omega]
 refine nb_of ?_ ?_
 · rw [h1,Nat.pow_add, <- hB]
   have:B^n*2^L<=B^n*t:=Nat.mul_le_mul_left _ s1
   omega
 · rw [h1,show n*64+L+1=n*64+(L+1) from by omega,Nat.pow_add, <- hB]
   have:B^n*(t+1)<=B^n*2^(L+1):=Nat.mul_le_mul_left _ s2
   rw [Nat.mul_add,Nat.mul_one] at this
   omega
set_option maxHeartbeats 1000000 in
theorem bX (w:World) (va:Value) (a K:Nat) (ha:NatV w va a) (hK:K<=1073741824) (la:a<B^K) :
 Calls Tryd.prog 82 #[va] w fun e w'=>e = .returned (.int .i64 (nb a:Int))/\w.grownBy w' none:=by
 obtain ⟨sa,xs,rfl,hx,rfl⟩:=ha
 have h1:=hx.len la
 clear la
 by_cases h0:xs.length=0
 · obtain rfl:xs=[]:=List.length_eq_zero_iff.1 h0
   simp only [List.length_nil]
   go_enter Tryd.func82,Tryd.ntmps82
   go_wp2_with fail
   go_ret
   exact ⟨rfl,World.grownBy_alloc _ _ _⟩
 · obtain ⟨n,hn⟩:∃ n,xs.length=n+1:=⟨xs.length-1,by omega⟩
   obtain ⟨b,o,rfl,cx⟩:=hx.rd.cell (by omega)
   obtain ⟨t,ht⟩:∃ t,xs.getD n 0=t:=⟨_,rfl⟩
   have ct:=cx n (by omega)
   rw [R5,ht] at ct
   have ht0:t≠0:=by
    refine hx.top _ ?_
    rw [List.getLast?_eq_getElem?,hn,Nat.add_sub_cancel,List.getElem?_eq_getElem (by omega),R5,ht]
   have htB:t<B:=by rw [<- ht];exact hx.dig.getD E5 _
   have HB:=Lib.hid (nb_limbs hx.dig n t hn ht ht0)
   have hl:=cW t htB
   rw [hn]
   rw [hn] at h1
   have ct2:=(World.grownBy_alloc w (.cells #[.slice (some ⟨b,o,none⟩) (n+1) (n+1)] 27) none).cell ct (by simp)
   have f1:((n:Int)+1 == 0)=false:=beq_eq_false_iff_ne.2 (by omega)
   clear cx ht hn h0 ct
   go_enter Tryd.func82,Tryd.ntmps82
   go_wp2_with fail
   refine (pK t htB _).mono ?_
   rintro e w' ⟨rfl,rfl⟩
   go_wp2_with fail
   go_ret
   refine ⟨?_,World.grownBy_alloc _ _ _⟩
   rw [HB.out]
   exact congrArg Ending.returned (congrArg (Value.int IntKind.i64) (by omega))
theorem grown_heap {w W:World} (h:W.heap=w.heap) (h1:W.os=w.os) (h2:W.tape=w.tape) (h3:W.output=w.output):w.grownBy W none:=⟨h1,h2,h3,by rw [h];exact Nat.le_refl _,fun k _ _=>by rw [h]⟩
theorem O1 (w:World) {W W':World} (hg:W.grownBy W' none) (h:W.heap=w.heap) (h1:W.os=w.os) (h2:W.tape=w.tape) (h3:W.output=w.output):w.grownBy W' none:=A4 (grown_heap h h1 h2 h3) hg
theorem heap_set {w:World} {g:Nat} {v0:Value} {t:TypeId} (h:w.heap[g]?=some (.cells #[v0] t (0,0))) (v:Value):(w.setCell ⟨g,0,none⟩ v).heap[g]?=some (.cells #[v] t (0,0)):=by
 simp [World.setCell,Array.getElem?_modify,h]
theorem Q6 {a b:World} {N g:Nat} (h:a.grownBy b (some g)) (hN:N<=g) (hs:N<=a.heap.size):Below N a b:=
 ⟨h.os,h.tape,h.output,h.size,fun k hk=>h.block k (by omega) (by intro e;cases e;omega)⟩
theorem M1 {a b:World} {N:Nat} (h:a.grownBy b none) (hs:N<=a.heap.size):Below N a b:=
 ⟨h.os,h.tape,h.output,h.size,fun k hk=>h.block k (by omega) (by simp)⟩
theorem dW (w:World) (sa sb:Option Addr) (n m:Nat) (xs ys:List Nat) (hn:xs.length=n) (hm:ys.length=m) (hx:Lm w sa xs) (hy:Lm w sb ys) (bn:n<=1099511627776) (bm:m<=1099511627776) :
 Calls Tryd.prog 83 #[.slice sa n n,.slice sb m m] w (nU w (val B xs) (val B ys)):=by
 subst hn;subst hm;exact R6 w sa sb xs ys hx hy bn bm
theorem FreshAt.mono {n m:Nat} {s:Option Addr} (h:FreshAt n s) (hm:m<=n):FreshAt m s:=fun ad e=>⟨Nat.le_trans hm (h ad e).1,(h ad e).2⟩
theorem FreshAt.sa {n k:Nat} {s:Option Addr} (h:FreshAt n s):FreshAt n (Sa s k):=by
 unfold Sa;split
 · exact FreshAt.none n
 · exact h
theorem Lm.lt {w:World} {s:Option Addr} {xs:List Nat} (h:Lm w s xs) {ad:Addr} (e:s=some ad):ad.block<w.heap.size:=by
 rcases h.rd with hn | ⟨b,off,cs,e1,h1,_⟩
 · rw [h.nil hn] at e;cases e
 · rw [e1] at e;cases e;exact h1.lt
theorem Lm.pos {w:World} {s:Option Addr} {xs:List Nat} (h:Lm w s xs) (h0 : 0<xs.length) : 0<val B xs:=by
 rcases Nat.eq_zero_or_pos (val B xs) with e | e
 · rw [(S6 B E5 xs h.top).1 e] at h0;simp at h0
 · exact e
def ClonedLm (w:World) (n:Nat) (xs:List Nat) (e:Ending) (w':World):Prop:=
 ∃ (s:Option Addr) (cap:Nat),e = .returned (.slice s n cap)/\Lm w' s xs/\n<=cap/\(n=0->cap=0)/\FreshAt w.heap.size s/\w.grownBy w' none
theorem fV (w:World) (sa:Option Addr) (n:Nat) (xs:List Nat) (hn:xs.length=n) (hx:Lm w sa xs) (bn:n<=1099511627776) :
 Calls Tryd.prog 103 #[.slice sa n n] w (ClonedLm w n xs):=by
 rcases Nat.eq_zero_or_pos n with h0 | h0
 · subst h0
   obtain rfl:=List.length_eq_zero_iff.1 hn
   obtain rfl:=hx.nil rfl
   refine (iH w).mono ?_
   rintro e w' ⟨rfl,rfl⟩
   exact ⟨none,0,rfl,hx,Nat.le_refl _,fun _=>rfl,FreshAt.none _,B5 _ _⟩
 · obtain ⟨b1,o1,cs1,rfl,hb1,hat1⟩:=hx.rd.get 0 (by omega)
   refine (fW w b1 o1 n n cs1 xs hn hb1 hat1 h0 bn).mono ?_
   rintro e w' ⟨g,cap,cs2,rfl,hge,hb2,hat2,hcap,hg2⟩
   rw [hn] at hcap ⊢
   exact ⟨_,cap,rfl,⟨Rdo.of hb2 hat2,by rintro rfl;simp at hn;omega,hx.top,hx.dig⟩,hcap,fun e=>absurd e (by omega),FreshAt.some hge,hg2⟩
def kB (w:World) (a:Nat) (e:Ending) (w':World):Prop:=
 (∃ x:Nat,e = .returned (.tuple #[.int .u64 (x:Int),.bool (decide (a<B))])/\(a<B->x=a)/\(¬ a<B->x=0))/\w.grownBy w' none
set_option maxHeartbeats 1000000 in
theorem Word_any (w:World) (va:Value) (a K:Nat) (ha:NatV w va a) (hK:K<=1073741824) (la:a<B^K) :
 Calls Tryd.prog 116 #[va] w (kB w a):=by
 obtain ⟨sa,xs,rfl,hx,rfl⟩:=ha
 have h1:=hx.len la
 clear la
 rcases Nat.lt_trichotomy xs.length 1 with h | h | h
 · obtain rfl:xs=[]:=List.length_eq_zero_iff.1 (by omega)
   have e0:val B []=0:=rfl
   have hF:Hid (kB w (val B []) (.returned (.tuple #[.int .u64 0,.bool true])) (w.alloc (.cells #[.slice sa 0 0] 27))):=⟨⟨0,by rw [e0];rfl,fun _=>rfl,fun _=>rfl⟩,World.grownBy_alloc _ _ _⟩
   simp only [List.length_nil]
   go_enter Tryd.func116,Tryd.ntmps116
   go_wp2_with fail
   go_ret2
   exact hF.out
 · obtain ⟨x,rfl⟩:=List.length_eq_one_iff.1 h
   obtain ⟨b,o,rfl,cx⟩:=hx.rd.cell (by simp)
   have ct:=cx 0 (by simp)
   have ev:val B [x]=x:=by simp [val]
   have hxB:x<B:=hx.dig x (by simp)
   have ct2:=(World.grownBy_alloc w (.cells #[.slice (some ⟨b,o,none⟩) 1 1] 27) none).cell ct (by simp)
   simp only [List.getElem_cons_zero,Nat.add_zero] at ct2
   have hF:Hid (kB w (val B [x]) (.returned (.tuple #[.int .u64 (x:Int),.bool true])) (w.alloc (.cells #[.slice (some ⟨b,o,none⟩) 1 1] 27))):=by
    refine ⟨⟨x, ?_,fun _=>ev.symm,fun h=>absurd (by rw [ev];exact hxB) h⟩,World.grownBy_alloc _ _ _⟩
    rw [ev,decide_eq_true hxB]
   clear cx ct hxB ev
   simp only [List.length_singleton]
   go_enter Tryd.func116,Tryd.ntmps116
   go_wp2_with fail
   go_ret2
   exact hF.out
 · obtain ⟨n,hn⟩:∃ n,xs.length=n:=⟨_,rfl⟩
   have hge:¬ val B xs<B:=by
    have h2:=fX B xs (by rintro rfl;simp at h) hx.top
    have h3:B^1<=B^(xs.length-1):=Nat.pow_le_pow_right E5 (by omega)
    rw [Nat.pow_one] at h3
    omega
   have hF:Hid (kB w (val B xs) (.returned (.tuple #[.int .u64 0,.bool false])) (w.alloc (.cells #[.slice sa n n] 27))):=by
    refine ⟨⟨0,by rw [decide_eq_false hge];rfl,fun h=>absurd h hge,fun _=>rfl⟩,World.grownBy_alloc _ _ _⟩
   rw [hn] at h h1 ⊢
   have f1:((n:Int) == 0)=false:=beq_eq_false_iff_ne.2 (by omega)
   have f2:((n:Int) == 1)=false:=beq_eq_false_iff_ne.2 (by omega)
   clear hn hge
   go_enter Tryd.func116,Tryd.ntmps116
   go_wp2_with fail
   go_ret2
   exact hF.out
def BBlk (w:World) (b:Nat) (cs:Array Value):Prop:=w.heap[b]?=some (.cells cs 5 (0,0))
theorem BBlk.cell {w:World} {b:Nat} {cs:Array Value} (h:BBlk w b cs) (o:Nat):w.cell? ⟨b,o,none⟩=cs[o]?:=by
 unfold BBlk at h;simp [World.cell?,h]
theorem BBlk.frozen {w:World} {b:Nat} {cs:Array Value} (h:BBlk w b cs) (o:Nat):w.frozen? ⟨b,o,none⟩=false:=by
 unfold BBlk at h;simp [World.frozen?,h]
theorem BBlk.setCell {w:World} {b:Nat} {cs:Array Value} (h:BBlk w b cs) (o:Nat) (v:Value):BBlk (w.setCell ⟨b,o,none⟩ v) b (cs.setIfInBounds o v):=by
 unfold BBlk at *
 simp [World.setCell,Array.getElem?_modify,h]
end Go.Proofs.YtamdnbbgpacfkaaDoor
