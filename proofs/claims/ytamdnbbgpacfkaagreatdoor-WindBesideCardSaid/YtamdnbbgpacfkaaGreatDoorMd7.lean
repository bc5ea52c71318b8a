/- What the laws lean on, part 7. -/
import Derived.BigQuiet
import Derived.BigRegion
import Derived.Deep.AppendLies
import Derived.Deep.CutBlock
import Derived.Deep.CutRange
import Derived.Deep.DeepCutAuto
import Derived.Deep.LoopGhost
import Derived.Deep.QuietTactic
import Derived.Deep.RegionHeld3
import Derived.Laws.CopyOwn
import Derived.Laws.Externs
import Derived.Laws.IdiomStrings
import Derived.Lib.BitFns
import Derived.Lib.Hide
import Derived.Lib.Slices
import Derived.Lib.Small
import Derived.Lib.Strings
import Derived.Lib.Walk
import Derived.Outline
import Derived.OwnWalk
import Derived.Shelf.Bits.Mul64
import Derived.Shelf.Spec.TrailingZeros
import Derived.StillTailTactics
import Derived.WalkKit
import Derived.WalkLawsBesides
import Derived.WalkSpells
import Derived.Test.YtamdnbbgpacfkaaGreatDoorProg
import Derived.Test.YtamdnbbgpacfkaaGreatDoorMd6
set_option linter.unusedVariables false
set_option linter.unusedSimpArgs false
set_option maxRecDepth 100000
namespace Go.Proofs.YtamdnbbgpacfkaaGreatDoor.PM
def W7 (f:Pq->Pq->Int):List Pq->Int
 | []=>0
 | [_]=>0
 | a :: b :: l=>f a b+W7 f (b :: l)
def cyL (f:Pq->Pq->Int):List Pq->Int
 | []=>0
 | a :: l=>W7 f (a :: l++[a])
def pt0 (l:List Pq) (i:Nat):Pq:=l.getD i (0,0)
def nxt (l:List Pq) (i:Nat):Pq:=pt0 l ((i+1)%l.length)
def upS (f:Pq->Pq->Int) (l:List Pq):Nat->Int
 | 0=>0
 | k+1=>upS f l k+f (pt0 l k) (nxt l k)
def opI (f:Pq->Pq->Int) (g:Nat->Pq):Nat->Int
 | 0=>0
 | k+1=>opI f g k+f (g k) (g (k+1))
theorem pN (f:Pq->Pq->Int) (g:Nat->Pq):∀ k,opI f g (k+1)=f (g 0) (g 1)+opI f (fun i=>g (i+1)) k
 | 0=>by show 0+f (g 0) (g 1)=f (g 0) (g 1)+0;omega
 | k+1=>by
   show opI f g (k+1)+f (g (k+1)) (g (k+2))=_+(opI f (fun i=>g (i+1)) k+f (g (k+1)) (g (k+2)))
   rw [pN f g k];omega
theorem pth_op (f:Pq->Pq->Int):∀ l:List Pq,W7 f l=opI f (pt0 l) (l.length-1)
 | []=>rfl
 | [a]=>rfl
 | a :: b :: l=>by
   show f a b+W7 f (b :: l)=opI f (pt0 (a :: b :: l)) (l.length+1)
   rw [pN,pth_op f (b :: l)];rfl
theorem pO {f:Pq->Pq->Int} {g h:Nat->Pq} : ∀ {k:Nat},(∀ i,i<=k->g i=h i)->opI f g k=opI f h k
 | 0,_=>rfl
 | k+1,e=>by
   show opI f g k+_=opI f h k+_
   rw [pO (fun i hi=>e i (by omega)),e k (by omega),e (k+1) (by omega)]
theorem upS_op (f:Pq->Pq->Int) (l:List Pq):∀ k,k<l.length->upS f l k=opI f (pt0 l) k
 | 0,_=>rfl
 | k+1,h=>by
   show upS f l k+f _ (pt0 l ((k+1)%l.length))=opI f (pt0 l) k+_
   rw [upS_op f l k (by omega),Nat.mod_eq_of_lt h]
theorem upS_cy (f:Pq->Pq->Int) (l:List Pq):upS f l l.length=cyL f l:=by
 cases l with
 | nil=>rfl
 | cons a l=>
   show upS f (a :: l) (l.length+1)=W7 f (a :: l++[a])
   rw [pth_op]
   have hl:(a :: l++[a]).length-1=l.length+1:=by simp
   rw [hl]
   show upS f (a :: l) l.length+f (pt0 (a :: l) l.length) (pt0 (a :: l) ((l.length+1)%(l.length+1)))=opI f (pt0 (a :: l++[a])) l.length+f (pt0 (a :: l++[a]) l.length) (pt0 (a :: l++[a]) (l.length+1))
   rw [Nat.mod_self,upS_op f (a :: l) l.length (by simp)]
   have e:∀ i,i<=l.length->pt0 (a :: l) i=pt0 (a :: l++[a]) i:=fun i hi=>by
    unfold pt0;rw [List.getD_eq_getElem?_getD,List.getD_eq_getElem?_getD,List.getElem?_append_left (by simp;omega)]
   have e2:pt0 (a :: l++[a]) (l.length+1)=a:=by unfold pt0;simp [List.getD_eq_getElem?_getD]
   rw [pO e,e l.length (Nat.le_refl _),e2];rfl
def pass (i k:Int):Int:=if i<=0/\0<k then 1 else if 0<i/\k<=0 then -1 else 0
theorem pass_or (i k:Int):pass i k = -1\/pass i k=0\/pass i k=1:=by unfold pass;split<;>(try split)<;>omega
def ahd (lf:Pq->Int) (m a b:Pq):Int:=if rsg (A4 a b m)=pass (lf a) (lf b) then pass (lf a) (lf b) else 0
def thr (lf:Pq->Int) (m a b:Pq):Int:=if rsg (A4 a b m)=0 then pass (lf a) (lf b) else 0
def lvl (m p:Pq):Int:=E9 p.2 m.2
def upr (m p:Pq):Int:=E9 m.1 p.1
def qtr (p q:Pq):Int:=
 if 0<E9 q.1 p.1/\0<=E9 q.2 p.2 then 0 else if E9 q.1 p.1<=0/\0<E9 q.2 p.2 then 1 else if E9 q.1 p.1<0/\E9 q.2 p.2<=0 then 2 else 3
def qst (p a b:Pq):Int:=
 if (qtr p b-qtr p a+4)%4=3 then -1 else if (qtr p b-qtr p a+4)%4=2 then 2*rsg (A4 a b p) else (qtr p b-qtr p a+4)%4
def gq (p x:Pq):Int:=if E9 x.1 p.1=1/\E9 x.2 p.2=0 then 4 else qtr p x
def qtrI (x y:Int):Int:=if 0<x/\0<=y then 0 else if x<=0/\0<y then 1 else if x<0/\y<=0 then 2 else 3
def gqI (x y:Int):Int:=if x=1/\y=0 then 4 else qtrI x y
def qstI (ax ay bx by' c:Int):Int:=
 if (qtrI bx by'-qtrI ax ay+4)%4=3 then -1 else if (qtrI bx by'-qtrI ax ay+4)%4=2 then 2*c else (qtrI bx by'-qtrI ax ay+4)%4
def ahdI (ay by' c:Int):Int:=if c=pass ay by' then pass ay by' else 0
def okI (ax ay bx by' c:Int):Bool:=
 (decide (0<=ax*by'/\ay*bx<=0 /\ ¬ (ax*by'=0/\ay*bx=0)) && !decide (c=1)) || (decide (ax*by'<=0/\0<=ay*bx /\ ¬ (ax*by'=0/\ay*bx=0)) && !decide (c = -1)) ||
 (decide (ax*by'=0/\ay*bx=0) && !decide (c=0)) || (decide (c=0) && decide (ax*bx<=0/\ay*by'<=0)) ||
 decide (qstI ax ay bx by' c=4*ahdI ay by' c+gqI bx by'-gqI ax ay)
def three:List Int:=[-1,0,1]
theorem all_ok:(three.all fun a=>three.all fun b=>three.all fun c=>three.all fun d=>three.all fun e=>okI a b c d e)=true:=by decide
theorem H4 {i:Int} (h:i = -1\/i=0\/i=1):i ∈ three:=by rcases h with h | h | h<;>simp [three,h]
theorem ok_at {a b c d e:Int} (ha:a = -1\/a=0\/a=1) (hb:b = -1\/b=0\/b=1) (hc:c = -1\/c=0\/c=1) (hd:d = -1\/d=0\/d=1) (he:e = -1\/e=0\/e=1):okI a b c d e=true:=
 List.all_eq_true.1 (List.all_eq_true.1 (List.all_eq_true.1 (List.all_eq_true.1 (List.all_eq_true.1 all_ok a (H4 ha)) b (H4 hb)) c (H4 hc)) d (H4 hd)) e (H4 he)
theorem V3 {x y:Rat} (h1 : 0<=rsg x) (h2:rsg y<=0) (h3:¬ (rsg x=0/\rsg y=0)):rsg (x-y)=1:=by
 have hx:=rsg_ge.1 h1
 have hy:y<=0:=Classical.byContradiction fun e=>by have:=rsg_pos.2 (show 0<y by grind);omega
 rw [rsg_zero,rsg_zero] at h3
 exact rsg_pos.2 (by grind)
theorem bB {x y:Rat} (h1:rsg x<=0) (h2 : 0<=rsg y) (h3:¬ (rsg x=0/\rsg y=0)):rsg (x-y) = -1:=by
 have:=V3 h2 h1 (fun e=>h3 ⟨e.2,e.1⟩)
 have e:x-y = -(y-x):=by grind
 rw [e,rD,this]
theorem qst_ahd {p a b:Pq} (h:¬ InS a b p):qst p a b=4*ahd (lvl p) p a b+gq p b-gq p a:=by
 obtain ⟨a1,a2⟩:=a;obtain ⟨b1,b2⟩:=b;obtain ⟨p1,p2⟩:=p
 rw [ins_doc] at h
 have hc:A4 (a1,a2) (b1,b2) (p1,p2)=(a1-p1)*(b2-p2)-(a2-p2)*(b1-p1):=by simp only [A4];grind
 have hd:lS (p1,p2) (a1,a2) (b1,b2)=(a1-p1)*(b1-p1)+(a2-p2)*(b2-p2):=rfl
 have ok:=ok_at (F4 (a1-p1)) (F4 (a2-p2)) (F4 (b1-p1)) (F4 (b2-p2)) (F4 (A4 (a1,a2) (b1,b2) (p1,p2)))
 unfold okI at ok
 simp only [<- I3] at ok
 simp only [Bool.or_eq_true,Bool.and_eq_true,decide_eq_true_eq,Bool.not_eq_true',decide_eq_false_iff_not] at ok
 rcases ok with (((⟨⟨k1,k2,k3⟩,k4⟩ | ⟨⟨k1,k2,k3⟩,k4⟩) | ⟨⟨k1,k2⟩,k3⟩) | ⟨k1,k2,k3⟩) | k
 · rw [hc] at k4;exact absurd (V3 k1 k2 k3) k4
 · rw [hc] at k4;exact absurd (bB k1 k2 k3) k4
 · rw [hc,rsg_zero.1 k1,rsg_zero.1 k2] at k3;exact absurd (rsg_zero.2 (by grind)) k3
 · refine absurd ⟨rsg_zero.1 k1, ?_⟩ h
   rw [hd]
   have e1:(a1-p1)*(b1-p1)<=0:=Classical.byContradiction fun e=>by have:=rsg_pos.2 (show 0<(a1-p1)*(b1-p1) by grind);omega
   have e2:(a2-p2)*(b2-p2)<=0:=Classical.byContradiction fun e=>by have:=rsg_pos.2 (show 0<(a2-p2)*(b2-p2) by grind);omega
   grind
 · unfold qst ahd gq qtr lvl
   simp only [I0]
   unfold qstI ahdI gqI qtrI at k
   exact k
theorem rL (f g:Pq->Pq->Int) (k:Int) (d:Pq->Int):∀ (a:Pq) (l:List Pq),(∀ i,i<l.length->f (pt0 (a :: l) i) (pt0 (a :: l) (i+1))=k*g (pt0 (a :: l) i) (pt0 (a :: l) (i+1))+d (pt0 (a :: l) (i+1))-d (pt0 (a :: l) i)) ->
 W7 f (a :: l)=k*W7 g (a :: l)+d (pt0 (a :: l) l.length)-d a
 | a,[],_=>by show (0:Int)=k*0+d a-d a;omega
 | a,b :: l,h=>by
   show f a b+W7 f (b :: l)=k*(g a b+W7 g (b :: l))+d (pt0 (b :: l) l.length)-d a
   have h0:f a b=k*g a b+d b-d a:=h 0 (by simp)
   rw [rL f g k d b l (fun i hi=>h (i+1) (by simpa using hi)),h0,Int.mul_add];omega
def OnR (l:List Pq) (p:Pq):Prop:=∃ i,i<l.length/\InS (pt0 l i) (nxt l i) p
theorem kD {l:List Pq} {p:Pq} (h:¬ OnR l p):cyL (qst p) l=4*cyL (ahd (lvl p) p) l:=by
 cases l with
 | nil=>rfl
 | cons a l=>
   have:=rL (qst p) (ahd (lvl p) p) 4 (gq p) a (l++[a]) (fun i hi=>qst_ahd fun hin=>h ⟨i,by simpa using hi, ?_⟩)
   · show W7 (qst p) (a :: l++[a])=4*W7 _ (a :: l++[a])
     have e:pt0 (a :: (l++[a])) (l++[a]).length=a:=by unfold pt0;simp [List.getD_eq_getElem?_getD]
     rw [List.cons_append,this,e];omega
   · have hi:i<l.length+1:=by simpa using hi
     have e:pt0 (a :: (l++[a])) i=pt0 (a :: l) i:=by
      unfold pt0;rw [List.getD_eq_getElem?_getD,List.getD_eq_getElem?_getD, <- List.cons_append,List.getElem?_append_left (by simpa using hi)]
     have e2:pt0 (a :: (l++[a])) (i+1)=nxt (a :: l) i:=by
      unfold nxt
      simp only [List.length_cons]
      by_cases h1:i+1<l.length+1
      · rw [Nat.mod_eq_of_lt h1]
        unfold pt0;rw [List.getD_eq_getElem?_getD,List.getD_eq_getElem?_getD, <- List.cons_append,List.getElem?_append_left (by simpa using h1)]
      · obtain rfl:i=l.length:=by omega
        rw [Nat.mod_self];unfold pt0;simp [List.getD_eq_getElem?_getD]
     rw [e,e2] at hin;exact hin
def oY (l:List Pq) (p:Pq):Int:=cyL (ahd (lvl p) p) l
end Go.Proofs.YtamdnbbgpacfkaaGreatDoor.PM
