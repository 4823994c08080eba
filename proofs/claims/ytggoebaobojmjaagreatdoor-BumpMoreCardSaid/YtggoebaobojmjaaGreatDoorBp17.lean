
import Derived.Test.YtggoebaobojmjaaGreatDoorBp12
import Derived.Test.YtggoebaobojmjaaGreatDoorBp13
namespace Go.Proofs.YtggoebaobojmjaaGreatDoor.AM
open Go.RowKit
set_option linter.unusedVariables false
set_option linter.unusedSimpArgs false
theorem qu6 (n:Nat) (a b:Int):q9q n a b=some (q55 a b):=by
 unfold q9q qya q55
 simp only [decide_true,Bool.not_true,Option.bind_some,cond_false]
 by_cases h1:a<b
 ·simp [h1]
 ·by_cases h2:b<a
  ·simp [h1,h2]
  ·simp [h1,h2]
def qa9:List Int->Int
 | []=>0
 | x::l=>or2 x (qa9 l)
theorem qxc (n:Nat) (l:List Int) (hL:l.length<=1000000) : ∀m j:Nat,j<=l.length->l.length - j<m->qaa n m 0 l ((l.length:Nat):Int) (j:Int)=some (if qa9 (l.drop j)=0 then Sum.inr (((0:Int),()),((),())) else Sum.inl ((qa9 (l.drop j),()),((),())))
 | 0,j,_,h=>absurd h (Nat.not_lt_zero _)
 | m+1,j,hj,h=>by
  rw [qnj]
  unfold j0s
  by_cases c0:j<l.length
  ·have c0':((j:Nat):Int)<((l.length:Nat):Int):=by omega
   have ih:=qxc n l hL m (j+1) (by omega) (by omega)
   have hd:l.drop j=l[j]::l.drop (j+1):=(List.drop_eq_getElem_cons c0)
   simp only [c0',decide_true,cond_true,q0m c0,Option.bind_some,q0d,q04 (show j<4611686018427387904 by omega),ih,hd,qa9,or2]
   by_cases h0:l[j]=0
   ·simp [h0]
   ·simp [h0]
  ·have c0' : ¬ ((j:Nat):Int)<((l.length:Nat):Int):=by omega
   have:l.drop j = []:=List.drop_eq_nil_of_le (by omega)
   simp [c0',this,qa9]
theorem qxs (n:Nat) (l:List Int) (hL:l.length<=1000000) (hn:l.length<n):qr5 n l=some (qa9 l):=by
 unfold qr5
 have:=qxc n l hL n 0 (Nat.zero_le _) (by omega)
 rw [show ((0:Nat):Int)=(0:Int) from rfl] at this
 rw [this,List.drop_zero]
 by_cases h:qa9 l=0
 ·simp [h]
 ·simp [h]
theorem jg6 (n:Nat) (a b:List UInt8) (ha:a.length<=1000000) (hb:b.length<=1000000) (hn:a.length<n/\b.length<n/\3<=n):j1h n a b=some (jpy a b):=by
 unfold j1h jpy juh qhs
 rw [qa0 n a ha hn.1,qa0 n b hb hn.2.1]
 simp only [Option.bind_some,qu6,qcj]
 cases q2y a with
 | false=>cases q2y b with
  | false =>
   simp only [cond_false,Bool.false_eq_true,if_false]
   unfold qht q55 or2
   simp
  | true =>
   simp only [cond_false,cond_true,Bool.false_eq_true,if_false,if_true]
   unfold qht q55 or2
   simp
 | true=>cases q2y b with
  | false =>
   simp only [cond_false,cond_true,Bool.false_eq_true,if_false,if_true]
   unfold qht q55 or2
   simp
  | true =>
   simp only [cond_true,if_true]
   rw [qxs n _ (by simp) (by simp;omega)]
   simp only [Option.bind_some,qa9]
   unfold qht
   have e0:q55 (0:Int) 0=0:=by decide
   dsimp only
   rw [e0]
   unfold or2
   simp only [if_true]
   split
   ·split<;>simp_all
   ·rfl
theorem qng (n:Nat) (l1 l2:List (List UInt8)) (h1:l1.length<=1000000) (h2:l2.length<=1000000) (hw : ∀w,w∈l1\/w∈l2->w.length<=1000000/\w.length<n) (hn:3<=n) : ∀m j:Nat,j<=l1.length->j<=l2.length->l1.length - j<m ->
  ((q5v n m l1 l2 l1 ((l1.length:Nat):Int) (j:Int)).bind fun (o5:((Int×(Unit))×(Unit)×(Unit))⊕(((List (List UInt8))×((List (List UInt8))×(Unit)))×(Unit)×(Unit)))=>Sum.elim (fun (q6:(Int×(Unit))×(Unit)×(Unit))=>some q6.1.1) (fun (q7:((List (List UInt8))×((List (List UInt8))×(Unit)))×(Unit)×(Unit))=>(bif decide (((List.length q7.1.1:Nat):Int)<((List.length q7.1.2.1:Nat):Int)) then some (-1:Int) else some (0:Int))) o5)=some (cmpL jpy (l1.drop j) (l2.drop j))
 | 0,j,_,_,h=>absurd h (Nat.not_lt_zero _)
 | m+1,j,hj,hj2,h=>by
  rw [qiu]
  unfold qkw
  by_cases c0:j<l1.length
  ·have c0':((j:Nat):Int)<((l1.length:Nat):Int):=by omega
   have hd:l1.drop j=l1[j]::l1.drop (j+1):=(List.drop_eq_getElem_cons c0)
   by_cases c1:j<l2.length
   ·have c1' : ¬ ((l2.length:Nat):Int)<=((j:Nat):Int):=by omega
    have hd2:l2.drop j=l2[j]::l2.drop (j+1):=(List.drop_eq_getElem_cons c1)
    have ih:=qng n l1 l2 h1 h2 hw hn m (j+1) (by omega) (by omega) (by omega)
    have k1:=hw l1[j] (Or.inl (List.getElem_mem c0))
    have k2:=hw l2[j] (Or.inr (List.getElem_mem c1))
    have hp:=jg6 n l1[j] l2[j] k1.1 k2.1 ⟨k1.2,k2.2,hn⟩
    rw [hd,hd2,cmpL]
    simp only [c0',decide_true,cond_true,q0m c0,Option.bind_some,c1',decide_false,cond_false,q0m c1,hp,q0d,q04 (show j<4611686018427387904 by omega)]
    unfold or2
    by_cases h0:jpy l1[j] l2[j]=0
    ·simp only [h0,decide_true,Bool.not_true,cond_false,if_true]
     exact ih
    ·simp only [h0,decide_false,Bool.not_false,cond_true,if_false,Option.bind_some,Sum.elim_inl]
   ·have c1':((l2.length:Nat):Int)<=((j:Nat):Int):=by omega
    have hd2:l2.drop j = []:=List.drop_eq_nil_of_le (by omega)
    rw [hd,hd2,cmpL]
    simp only [c0',decide_true,cond_true,q0m c0,Option.bind_some,c1',Sum.elim_inl]
  ·have c0' : ¬ ((j:Nat):Int)<((l1.length:Nat):Int):=by omega
   have hd:l1.drop j = []:=List.drop_eq_nil_of_le (by omega)
   simp only [c0',decide_false,cond_false,Option.bind_some,Sum.elim_inr]
   have hje:j=l1.length:=by omega
   rw [hd]
   by_cases c1:j<l2.length
   ·have hd2:l2.drop j=l2[j]::l2.drop (j+1):=(List.drop_eq_getElem_cons c1)
    have c2:((l1.length:Nat):Int)<((l2.length:Nat):Int):=by omega
    rw [hd2]
    simp only [c2,decide_true,cond_true,cmpL]
   ·have hd2:l2.drop j = []:=List.drop_eq_nil_of_le (by omega)
    have c2 : ¬ ((l1.length:Nat):Int)<((l2.length:Nat):Int):=by omega
    rw [hd2]
    simp only [c2,decide_false,cond_false,cmpL]
theorem j2p (n:Nat) (l1 l2:List (List UInt8)) (h1:l1.length<=1000000) (h2:l2.length<=1000000) (hw : ∀w,w∈l1\/w∈l2->w.length<=1000000/\w.length<n) (hn:3<=n) (hn2:l1.length<n):qqd n l1 l2 ()=some (cmpL jpy l1 l2):=by
 have:=qng n l1 l2 h1 h2 hw hn n 0 (Nat.zero_le _) (Nat.zero_le _) (by omega)
 rw [List.drop_zero,List.drop_zero] at this
 exact this
theorem jmu (n:Nat) (a b:List UInt8) (ha:a.length<=100000) (hb:b.length<=100000) (hn:a.length+3<n/\b.length+3<n):jdg n a b=some (q8y a b):=by
 unfold jdg
 by_cases hab:a=b
 ·subst hab
  rw [qxr.refl]
  simp
 ·simp only [hab,decide_false,cond_false]
  by_cases h1:a = []
  ·have hb0:b ≠ []:=fun e=>hab (by rw [h1,e])
   simp only [h1,decide_true,cond_true]
   unfold q8y qht jj8 q55 or2
   simp [hb0]
  ·simp only [h1,decide_false,cond_false]
   by_cases h2:b = []
   ·simp only [h2,decide_true,cond_true]
    unfold q8y qht jj8 q55 or2
    simp [h1]
   ·simp only [h2,decide_false,cond_false]
    have s1:qev a [46]=some (spl 46 [] a):=if_pos (by omega)
    have s2:qev b [46]=some (spl 46 [] b):=if_pos (by omega)
    have k1:=q6l 46 a []
    have k2:=q6l 46 b []
    rw [s1,s2]
    simp only [Option.bind_some]
    rw [j2p n _ _ (by omega) (by omega) (fun w hw=>by
     rcases hw with hw|hw
     ·have:=q9w 46 a [] w hw;simp at this;omega
     ·have:=q9w 46 b [] w hw;simp at this;omega) (by omega) (by omega)]
    unfold q8y jj8
    simp only [h1,h2,if_false]
    unfold qht
    have e0:q55 (0:Int) 0=0:=by decide
    dsimp only
    rw [e0]
    unfold or2
    simp
theorem qhp (n:Nat) (a b:VD) (hn:100<=n):q64 n a b=some (qmq a b):=by
 unfold q64 qmq
 rw [q6k n a (by omega),q6k n b (by omega)]
 cases hca:q0y a with
 | false=>rfl
 | true=>cases hcb:q0y b with
  | false=>rfl
  | true =>
   obtain ⟨-,-,-,h4,-⟩:=q2b hca
   obtain ⟨-,-,-,k4,-⟩:=q2b hcb
   have t1:=qon h4
   have t2:=qon k4
   simp only [Option.bind_some,Bool.not_true,cond_false,qu6]
   rw [jmu n _ _ (by omega) (by omega) ⟨by omega,by omega⟩]
   simp only [Option.bind_some]
   rw [qxs n _ (by simp) (by simp;omega)]
   simp only [Option.bind_some,qa9,Bool.and_self,if_true]
   have z0 : ∀x:Int,or2 x 0=x:=fun x=>by unfold or2;split<;>simp_all
   rw [z0]
   rfl
theorem jlg {n:Int} (h:0<=n/\n<=999999999):j70 n=true:=by unfold j70;simp [h.1,h.2]
theorem q54 {a b c:Int} (h1:0<=a/\a<=999999999) (h2:0<=b/\b<=999999999) (h3:0<=c/\c<=999999999):q0y (a,(b,(c,([],[]))))=true:=by
 unfold q0y;simp only [jlg h1,jlg h2,jlg h3,q6u,decide_true,Bool.true_or,Bool.and_self]
theorem jg0 (p:List UInt8):q8y [] p=if p = [] then 0 else 1:=by
 by_cases h:p = []
 ·subst h;rw [if_pos rfl];exact qxr.refl _
 ·unfold q8y qht jj8 q55 or2;simp [h]
theorem qow (a b c:Int) (v:VD):jy4 (a,(b,(c,[]))) (core v)=or2 (q55 a v.1) (or2 (q55 b v.2.1) (or2 (q55 c v.2.2.1) (if v.2.2.2.1 = [] then 0 else 1))):=by
 rw [<-jg0];rfl
theorem jii (n:Nat) (v:VD) (l:Int) (hn:100<=n):qyg n v l=some (qe2 v l):=by
 unfold qyg qe2
 rw [q6k n v (by omega)]
 cases hc:q0y v with
 | false=>simp
 | true =>
  obtain ⟨h1,h2,h3,h4,h5⟩:=q2b hc
  simp only [Option.bind_some,Bool.not_true,cond_false]
  by_cases l1:l<1
  ·have : ¬ (1<=l):=by omega
   simp [l1,this]
  by_cases l3:3<l
  ·have : ¬ (l<=3):=by omega
   simp [l1,l3,this]
  have q1:1<=l:=by omega
  have q3:l<=3:=by omega
  simp only [l1,l3,decide_false,cond_false,qhp n _ v hn]
  have w1:IntKind.wrap .i64 (v.2.2.1+1)=v.2.2.1+1:=wrap64 (by omega) (by omega)
  have w2:IntKind.wrap .i64 (v.2.1+1)=v.2.1+1:=wrap64 (by omega) (by omega)
  have w3:IntKind.wrap .i64 (v.1+1)=v.1+1:=wrap64 (by omega) (by omega)
  simp only [q0d,w1,w2,w3]
  have i0 : ∀x:Int,q55 x x=0:=fun x=>q7q.refl x
  have z : ∀(x:Int),0<=x->x≠0->q55 0 x = -1:=fun x hx hne=>by unfold q55;rw [if_pos (by omega)]
  rcases (show l=1\/l=2\/l=3 by omega) with rfl|rfl|rfl
  ·have hv:qmq (v.1,(v.2.1,(v.2.2.1,([],[])))) v=if v.2.2.2.1 = [] then 0 else 1:=by
    unfold qmq;rw [q54 h1 h2 h3,hc]
    show jy4 (v.1,(v.2.1,(v.2.2.1,[]))) (core v)=_
    rw [qow,i0,i0,i0];unfold or2;simp
   simp only [qgz,show ¬ (1:Int)=3 by decide,show ¬ (1:Int)=2 by decide,decide_false,decide_true,cond_false,cond_true,Option.bind_some,hv]
   by_cases hp:v.2.2.2.1 = []
   ·by_cases a1:v.2.2.1<999999999
    ·simp [hp,a1]
    ·by_cases a2:v.2.1<999999999
     ·simp [hp,a1,a2]
     ·by_cases a3:v.1<999999999<;>simp [hp,a1,a2,a3]
   ·simp [hp]
  ·have hv:qmq (v.1,(v.2.1,(0,([],[])))) v=if v.2.2.1=0 then (if v.2.2.2.1 = [] then 0 else 1) else -1:=by
    unfold qmq;rw [q54 h1 h2 (by omega),hc]
    show jy4 (v.1,(v.2.1,(0,[]))) (core v)=_
    rw [qow,i0,i0]
    by_cases p0:v.2.2.1=0
    ·rw [p0,i0];unfold or2;simp
    ·rw [z _ h3.1 p0];unfold or2;simp [p0]
   simp only [qgz,show ¬ (2:Int)=3 by decide,show ¬ (2:Int)=1 by decide,decide_false,decide_true,cond_false,cond_true,Option.bind_some,hv]
   by_cases p0:v.2.2.1=0
   ·by_cases hp:v.2.2.2.1 = []
    ·by_cases a2:v.2.1<999999999
     ·simp [hp,p0,a2]
     ·by_cases a3:v.1<999999999<;>simp [hp,p0,a2,a3]
    ·simp [hp,p0]
   ·by_cases a2:v.2.1<999999999
    ·simp [p0,a2]
    ·by_cases a3:v.1<999999999<;>simp [p0,a2,a3]
  ·have hv:qmq (v.1,(0,(0,([],[])))) v=if v.2.1=0 then (if v.2.2.1=0 then (if v.2.2.2.1 = [] then 0 else 1) else -1) else -1:=by
    unfold qmq;rw [q54 h1 (by omega) (by omega),hc]
    show jy4 (v.1,(0,(0,[]))) (core v)=_
    rw [qow,i0]
    by_cases m0:v.2.1=0
    ·by_cases p0:v.2.2.1=0
     ·rw [p0,m0,i0];unfold or2;simp
     ·rw [z _ h3.1 p0,m0,i0];unfold or2;simp [p0]
    ·rw [z _ h2.1 m0];unfold or2;simp [m0]
   simp only [qgz,show ¬ (3:Int)=1 by decide,show ¬ (3:Int)=2 by decide,decide_false,decide_true,cond_false,cond_true,Option.bind_some,hv]
   by_cases m0:v.2.1=0
   ·by_cases p0:v.2.2.1=0
    ·by_cases hp:v.2.2.2.1 = []
     ·by_cases a3:v.1<999999999<;>simp [hp,p0,m0,a3]
     ·simp [hp,p0,m0]
    ·by_cases a3:v.1<999999999<;>simp [p0,m0,a3]
   ·by_cases a3:v.1<999999999<;>simp [m0,a3]
end Go.Proofs.YtggoebaobojmjaaGreatDoor.AM
namespace Go.Proofs.YtggoebaobojmjaaGreatDoor.AM
open Go.RowKit
set_option linter.unusedVariables false
set_option linter.unusedSimpArgs false
end Go.Proofs.YtggoebaobojmjaaGreatDoor.AM
namespace Go.Proofs.YtggoebaobojmjaaGreatDoor.AM
open Go.RowKit
set_option linter.unusedVariables false
set_option linter.unusedSimpArgs false
theorem jwi {a b:VD} (ha:q0y a=true) (hb:q0y b=true):qmq a b=jy4 (core a) (core b):=by unfold qmq;rw [ha,hb];rfl
theorem j12 {a b c:Int} {v:VD} (h1:0<=a/\a<=999999999) (h2:0<=b/\b<=999999999) (h3:0<=c/\c<=999999999) (hv:q0y v=true) :
  qmq (a,(b,(c,([],[])))) v=or2 (q55 a v.1) (or2 (q55 b v.2.1) (or2 (q55 c v.2.2.1) (if v.2.2.2.1 = [] then 0 else 1))):=by
 rw [jwi (q54 h1 h2 h3) hv]
 exact qow a b c v
theorem qg3 {a b:Int} : q55 a b=0↔a=b:=by unfold q55;split<;>(try split)<;>omega
theorem je5 {x y:Int} : 0<or2 x y↔(0<x\/(x=0/\0<y)):=by unfold or2;split<;>omega
theorem qy7 {a b:Int} : 0<q55 a b↔b<a:=by unfold q55;split<;>(try split)<;>omega
end Go.Proofs.YtggoebaobojmjaaGreatDoor.AM
namespace Go.Proofs.YtggoebaobojmjaaGreatDoor.AM
open Go.RowKit
set_option linter.unusedVariables false
set_option linter.unusedSimpArgs false
theorem qc6 (n:Nat) (s:List UInt8) (c:UInt8) (hs:s.length<=1000000) : ∀(m i fr:Nat) (out:List (List UInt8)),i<=s.length->s.length - i+1<m->fr<=i->out.length<=i ->
  q5p n m s ((c.toNat:Nat):Int) (fr:Int) (i:Int) out=some (((),()),((),(out++spl c ((s.drop fr).take (i - fr)) (s.drop i),())))
 | 0,i,fr,_,_,h,_,_=>absurd h (Nat.not_lt_zero _)
 | m+1,i,fr,out,hi,h,hf,ho=>by
  rw [q7z]
  unfold qdj
  have c0:((i:Nat):Int)<=((s.length:Nat):Int):=by omega
  have w1:=q04 (show i<4611686018427387904 by omega)
  have s1:qv2 s ((fr:Nat):Int) ((i:Nat):Int)=some ((s.drop fr).take (i - fr)):=sub_le hf hi
  have a1:qxh 16 out [(s.drop fr).take (i - fr)]=some (out ++ [(s.drop fr).take (i - fr)]):=qce (by simp;omega)
  by_cases c1:i=s.length
  ·have c1':((i:Nat):Int)=((s.length:Nat):Int):=by omega
   have hd:s.drop i = []:=List.drop_eq_nil_of_le (by omega)
   simp only [c0,c1',decide_true,cond_true]
   rw [<-c1',s1,Option.bind_some,a1,Option.bind_some,hd]
   simp only [q0d,w1]
   cases m with
   | zero=>omega
   | succ m =>
    rw [q7z]
    unfold qdj
    have c2 : ¬ ((i+1:Nat):Int)<=((s.length:Nat):Int):=by omega
    simp only [c2,Int.le_refl,decide_true,decide_false,cond_true,cond_false]
    rfl
  ·have c1' : ¬ ((i:Nat):Int)=((s.length:Nat):Int):=by omega
   have hi':i<s.length:=by omega
   have hd:s.drop i=s[i]::s.drop (i+1):=List.drop_eq_getElem_cons hi'
   simp only [c0,c1',decide_true,decide_false,cond_true,cond_false,q6e hi',Option.bind_some,q0d,w1,s1,a1]
   have hc:decide (((s[i].toNat:Nat):Int)=((c.toNat:Nat):Int))=decide (s[i]=c):=by
    apply decide_eq_decide.2
    constructor
    ·intro hh;exact UInt8.toNat_inj.1 (by omega)
    ·intro hh;rw [hh]
   rw [hc,hd,spl]
   by_cases c2:s[i]=c
   ·simp only [c2,decide_true,cond_true,if_true]
    rw [qc6 n s c hs m (i+1) (i+1) (out ++ [(s.drop fr).take (i - fr)]) (by omega) (by omega) (Nat.le_refl _) (by simp;omega)]
    simp
   ·simp only [c2,decide_false,cond_false,if_false]
    rw [qc6 n s c hs m (i+1) fr out (by omega) (by omega) (by omega) (by omega)]
    have e1:(s.drop fr).take (i+1 - fr)=(s.drop fr).take (i - fr) ++ [s[i]]:=by
     rw [show i+1 - fr=(i - fr)+1 from by omega,List.take_add_one,List.getElem?_drop,show fr+(i - fr)=i from by omega,List.getElem?_eq_getElem hi']
     rfl
    rw [e1]
theorem q8s (n:Nat) (s:List UInt8) (c:UInt8) (hs:s.length<=1000000) (hn:s.length+1<n):q1w n s ((c.toNat:Nat):Int)=some (spl c [] s):=by
 unfold q1w
 have h:=qc6 n s c hs n 0 0 [] (Nat.zero_le _) (by omega) (Nat.le_refl _) (Nat.zero_le _)
 rw [show ((0:Nat):Int)=(0:Int) from rfl] at h
 rw [h]
 simp
theorem qmk (n:Nat) (s:List UInt8) (hL:s.length<=1000000) : ∀m j:Nat,j<=s.length->s.length - j<m->q5k n m s (j:Int)=some (if (s.drop j).all q1n=true then Sum.inr ((s,()),((),())) else Sum.inl ((false,()),((),())))
 | 0,j,_,h=>absurd h (Nat.not_lt_zero _)
 | m+1,j,hj,h=>by
  rw [qhr]
  unfold qkr
  by_cases c0:j<s.length
  ·have c0':((j:Nat):Int)<((s.length:Nat):Int):=by omega
   have ih:=qmk n s hL m (j+1) (by omega) (by omega)
   have hd:s.drop j=s[j]::s.drop (j+1):=(List.drop_eq_getElem_cons c0)
   simp only [c0',decide_true,cond_true,q6e c0,Option.bind_some,q0d,q04 (show j<4611686018427387904 by omega),ih,hd,List.all_cons]
   unfold q1n
   by_cases h1:s[j].toNat<48
   ·have e1:((s[j].toNat:Nat):Int)<48:=by omega
    have e2 : ¬ 48<=s[j].toNat:=by omega
    simp [e1,e2]
   ·have e1 : ¬ ((s[j].toNat:Nat):Int)<48:=by omega
    have e2:48<=s[j].toNat:=by omega
    by_cases h2:57<s[j].toNat
    ·have e3:(57:Int)<((s[j].toNat:Nat):Int):=by omega
     have e4 : ¬ s[j].toNat<=57:=by omega
     simp [e1,e2,e3,e4]
    ·have e3 : ¬ (57:Int)<((s[j].toNat:Nat):Int):=by omega
     have e4:s[j].toNat<=57:=by omega
     simp [e1,e2,e3,e4]
  ·have c0' : ¬ ((j:Nat):Int)<((s.length:Nat):Int):=by omega
   have:s.drop j = []:=List.drop_eq_nil_of_le (by omega)
   simp [c0',this]
theorem qb9 (n:Nat) (s:List UInt8) (hL:s.length<=1000000) (hn:s.length<n):q95 n s=some (q2y s):=by
 unfold q95 q2y
 have:=qmk n s hL n 0 (Nat.zero_le _) (by omega)
 rw [show ((0:Nat):Int)=(0:Int) from rfl] at this
 rw [this,List.drop_zero]
 cases s.all q1n<;>rfl
theorem je0 (c:UInt8):jiq c=((decide ((97:Int)<=((c.toNat:Nat):Int))&&decide (((c.toNat:Nat):Int)<=(122:Int)))||(decide ((65:Int)<=((c.toNat:Nat):Int))&&decide (((c.toNat:Nat):Int)<=(90:Int)))||(decide ((48:Int)<=((c.toNat:Nat):Int))&&decide (((c.toNat:Nat):Int)<=(57:Int)))||decide (((c.toNat:Nat):Int)=(45:Int))):=by
 unfold jiq q1n
 have h1:decide ((97:Int)<=((c.toNat:Nat):Int))=decide (97<=c.toNat):=decide_eq_decide.2 (by omega)
 have h2:decide (((c.toNat:Nat):Int)<=(122:Int))=decide (c.toNat<=122):=decide_eq_decide.2 (by omega)
 have h3:decide ((65:Int)<=((c.toNat:Nat):Int))=decide (65<=c.toNat):=decide_eq_decide.2 (by omega)
 have h4:decide (((c.toNat:Nat):Int)<=(90:Int))=decide (c.toNat<=90):=decide_eq_decide.2 (by omega)
 have h5:decide (((c.toNat:Nat):Int)=(45:Int))=decide (c.toNat=45):=decide_eq_decide.2 (by omega)
 have h6:decide ((48:Int)<=((c.toNat:Nat):Int))=decide (48<=c.toNat):=decide_eq_decide.2 (by omega)
 have h7:decide (((c.toNat:Nat):Int)<=(57:Int))=decide (c.toNat<=57):=decide_eq_decide.2 (by omega)
 rw [h1,h2,h3,h4,h5,h6,h7]
theorem qed (n:Nat) (z:Bool) (l:List (List UInt8)) (i:Nat) (hi:i<l.length) (w:List UInt8) (hw:l[i]=w) (hL:w.length<=1000000) : ∀m j:Nat,j<=w.length->w.length - j<m->q60 n m z l (i:Int) (j:Int)=some (if (w.drop j).all jiq=true then Sum.inr ((z,(l,((i:Int),()))),((),())) else Sum.inl ((false,()),((),())))
 | 0,j,_,h=>absurd h (Nat.not_lt_zero _)
 | m+1,j,hj,h=>by
  rw [qg9]
  unfold qlc
  have e0:q1a l ((i:Nat):Int)=some w:=by rw [q0m hi,hw]
  by_cases c0:j<w.length
  ·have c0':((j:Nat):Int)<((w.length:Nat):Int):=by omega
   have ih:=qed n z l i hi w hw hL m (j+1) (by omega) (by omega)
   have hd:w.drop j=w[j]::w.drop (j+1):=(List.drop_eq_getElem_cons c0)
   simp only [e0,Option.bind_some,c0',decide_true,cond_true,q6e c0,q0d,q04 (show j<4611686018427387904 by omega),ih,hd,List.all_cons,je0]
   cases decide ((97:Int)<=((w[j].toNat:Nat):Int))<;>cases decide (((w[j].toNat:Nat):Int)<=(122:Int))<;>cases decide ((65:Int)<=((w[j].toNat:Nat):Int))<;>cases decide (((w[j].toNat:Nat):Int)<=(90:Int))<;>cases decide ((48:Int)<=((w[j].toNat:Nat):Int))<;>cases decide (((w[j].toNat:Nat):Int)<=(57:Int))<;>cases decide (((w[j].toNat:Nat):Int)=(45:Int))<;>rfl
  ·have c0' : ¬ ((j:Nat):Int)<((w.length:Nat):Int):=by omega
   have:w.drop j = []:=List.drop_eq_nil_of_le (by omega)
   simp only [e0,Option.bind_some,c0',decide_false,cond_false,this,List.all_nil,if_true]
def q87 (z:Bool) (w:List UInt8):Bool:=q2d w&&(z || !(q2y w&&(decide (1<w.length)&&decide (w.head? = some 48))))
theorem j5s (w:List UInt8):q87 true w=q2d w:=by unfold q87;simp
theorem qzi (w:List UInt8):q87 false w=q5d w:=by
 unfold q87 q5d
 cases w with
 | nil=>simp [q2d]
 | cons c r =>
  cases hn:q2y (c::r) with
  | false=>simp
  | true =>
   by_cases hc:c=48
   ·subst hc
    cases r with
    | nil=>simp
    | cons d r=>simp
   ·simp [hc]
theorem qh6 (n:Nat) (z:Bool) (l:List (List UInt8)) (hl:l.length<=1000000) (hw : ∀w∈l,w.length<=1000000/\w.length<n) : ∀m i:Nat,i<=l.length->l.length - i<m->q5w n m z l (i:Int)=some (if (l.drop i).all (q87 z)=true then Sum.inr ((),((),())) else Sum.inl ((false,()),((),())))
 | 0,j,_,h=>absurd h (Nat.not_lt_zero _)
 | m+1,i,hi,h=>by
  rw [qhd]
  unfold qkx
  by_cases c0:i<l.length
  ·have c0':((i:Nat):Int)<((l.length:Nat):Int):=by omega
   have ih:=qh6 n z l hl hw m (i+1) (by omega) (by omega)
   have hd:l.drop i=l[i]::l.drop (i+1):=(List.drop_eq_getElem_cons c0)
   have hww:=hw l[i] (List.getElem_mem c0)
   have h1:=qed n z l i c0 l[i] rfl hww.1 n 0 (Nat.zero_le _) (by omega)
   rw [show ((0:Nat):Int)=(0:Int) from rfl,List.drop_zero] at h1
   rw [hd,List.all_cons]
   simp only [c0',decide_true,cond_true,h1,Option.bind_some]
   rw [show q87 z l[i]=((l[i].all jiq && !decide (l[i] = []))&&(z || !(q2y l[i]&&(decide (1<l[i].length)&&decide (l[i].head? = some 48))))) from rfl]
   cases hs:l[i].all jiq with
   | false=>simp
   | true =>
    simp only [if_true,Sum.elim_inr,q0m c0,Option.bind_some,qb9 n _ hww.1 hww.2,q0d,q04 (show i<4611686018427387904 by omega),ih]
    generalize hx:l[i]=x at hs hww
    cases x with
    | nil=>simp
    | cons c r =>
     have h0:sAt (c::r) (0:Int)=some ((c.toNat:Nat):Int):=q6e (s:=c::r) (j:=0) (by simp)
     have h2:decide (((c.toNat:Nat):Int)=(48:Int))=decide ((c::r).head? = some 48):=decide_eq_decide.2 (by
      simp only [List.head?_cons,Option.some.injEq]
      constructor
      ·intro h;exact UInt8.toNat_inj.1 (by have e48:(48:UInt8).toNat=48:=rfl;rw [e48];omega)
      ·rintro rfl;rfl)
     have h3:decide ((1:Int)<(((c::r).length:Nat):Int))=decide (1<(c::r).length):=decide_eq_decide.2 (by omega)
     have e0:decide (c::r=([]:List UInt8))=false:=by simp
     simp only [h0,h2,h3,e0,Option.bind_some,cond_false]
     cases z<;>cases q2y (c::r)<;>cases decide (1<(c::r).length)<;>cases decide ((c::r).head? = some 48)<;>simp
  ·have c0' : ¬ ((i:Nat):Int)<((l.length:Nat):Int):=by omega
   have:l.drop i = []:=List.drop_eq_nil_of_le (by omega)
   simp only [c0',decide_false,cond_false,this,List.all_nil,if_true]
theorem qm6 (n:Nat) (s:List UInt8) (z:Bool) (hs:s.length<=100000) (hn:s.length+2<n):q8u n s z=some ((spl 46 [] s).all (q87 z)):=by
 unfold q8u
 have e1:q1w n s (46:Int)=some (spl 46 [] s):=q8s n s 46 (by omega) (by omega)
 rw [e1]
 have k:=q6l 46 s []
 have h:=qh6 n z (spl 46 [] s) (by omega) (fun w hw=>by have:=q9w 46 s [] w hw;simp at this;omega) n 0 (Nat.zero_le _) (by omega)
 rw [show ((0:Nat):Int)=(0:Int) from rfl,List.drop_zero] at h
 simp only [Option.bind_some,h]
 cases (spl 46 [] s).all (q87 z)<;>rfl
theorem jog (n:Nat) (a:Int):qx4 n a=some (j70 a):=by
 unfold qx4 j70
 cases decide ((0:Int)<=a)<;>rfl
theorem q3u (n:Nat) (v:VD) (hn:100<=n):q2k n v=some (q0y v):=by
 unfold q2k q0y
 simp only [jog,Option.bind_some]
 cases j70 v.1 with
 | false=>rfl
 | true=>cases j70 v.2.1 with
  | false=>rfl
  | true=>cases j70 v.2.2.1 with
   | false=>rfl
   | true =>
    simp only [Bool.not_true,cond_false,Bool.true_and]
    unfold q6u
    have f1:(q87 true)=q2d:=funext j5s
    have f2:(q87 false)=q5d:=funext qzi
    by_cases c1:(30:Int)<((v.2.2.2.1.length:Nat):Int)
    ·have e1:v.2.2.2.1 ≠ []:=fun e=>by rw [e] at c1;simp at c1
     have e2 : ¬ v.2.2.2.1.length<=30:=by omega
     simp [c1,e1,e2]
    ·by_cases c2:(30:Int)<((v.2.2.2.2.length:Nat):Int)
     ·have e1:v.2.2.2.2 ≠ []:=fun e=>by rw [e] at c2;simp at c2
      have e2 : ¬ v.2.2.2.2.length<=30:=by omega
      simp [c1,c2,e1,e2]
     ·have l1:v.2.2.2.1.length<=30:=by omega
      have l2:v.2.2.2.2.length<=30:=by omega
      have r1:=qm6 n v.2.2.2.1 false (by omega) (by omega)
      have r2:=qm6 n v.2.2.2.2 true (by omega) (by omega)
      rw [f2] at r1
      rw [f1] at r2
      simp only [c1,c2,decide_false,cond_false,r1,r2,l1,l2,decide_true,Bool.true_and,Option.bind_some]
      by_cases p:v.2.2.2.1 = []
      ·by_cases q:v.2.2.2.2 = []<;>simp [p,q]
      ·by_cases q:v.2.2.2.2 = []
       ·simp only [p,q,decide_false,decide_true,cond_false,cond_true,Bool.false_or,Bool.true_or,Bool.and_true]
        cases (spl 46 [] v.2.2.2.1).all q5d<;>rfl
       ·simp only [p,q,decide_false,decide_true,cond_false,cond_true,Bool.false_or]
        cases (spl 46 [] v.2.2.2.1).all q5d<;>rfl
end Go.Proofs.YtggoebaobojmjaaGreatDoor.AM
namespace Go.Proofs.YtggoebaobojmjaaGreatDoor.AM
open Go.RowKit
set_option linter.unusedVariables false
set_option linter.unusedSimpArgs false
theorem q33 (n:Nat) (a b:Int):q3g n a b=some (q55 a b):=by
 unfold q3g q55
 by_cases h1:a<b
 ·simp [h1]
 ·by_cases h2:b<a
  ·simp [h1,h2]
  ·simp [h1,h2]
theorem k03 (a b:List UInt8):(bif ltS a b then some (-1:Int) else (bif !(ltS a b||decide (a=b)) then some (1:Int) else some (0:Int)))=some (cmpL jnx a b):=by
 unfold ltS
 rw [qgj]
 have hr:=(qiq qoj).rng a b
 have hz:cmpL jnx a b=0↔a=b:=(qiq qoj).zero
 by_cases h1:cmpL jnx a b<0
 ·have:cmpL jnx a b = -1:=by omega
  simp [h1,this]
 ·by_cases h2:a=b
  ·have:=hz.2 h2
   simp [h1,h2,(qiq qoj).refl b]
  ·have:cmpL jnx a b=1:=by
    have : ¬ cmpL jnx a b=0:=fun e=>h2 (hz.1 e)
    omega
   simp [h2,this]
theorem j7s (n:Nat) (a b:List UInt8) (ha:a.length<=1000000) (hb:b.length<=1000000) (hn:a.length<n/\b.length<n):qhx n a b=some (jpy a b):=by
 unfold qhx jpy juh
 rw [qb9 n a ha hn.1,qb9 n b hb hn.2]
 simp only [Option.bind_some,k03,q33]
 cases q2y a with
 | false=>cases q2y b with
  | false =>
   simp only [cond_false,Bool.false_eq_true,if_false]
   unfold qht q55 or2
   simp
  | true =>
   simp only [cond_false,cond_true,Bool.not_false,Bool.false_eq_true,if_false,if_true]
   unfold qht q55 or2
   simp
 | true=>cases q2y b with
  | false =>
   simp only [cond_false,cond_true,Bool.not_false,Bool.false_eq_true,if_false,if_true]
   unfold qht q55 or2
   simp
  | true =>
   simp only [cond_true,cond_false,Bool.not_true,if_true]
   unfold qht
   have e0:q55 (0:Int) 0=0:=by decide
   dsimp only
   rw [e0]
   unfold or2
   simp only [if_true]
   by_cases hl:((a.length:Nat):Int)=((b.length:Nat):Int)
   ·have:q55 ((a.length:Nat):Int) ((b.length:Nat):Int)=0:=by rw [hl];exact q7q.refl _
    simp only [hl,decide_true,Bool.not_true,cond_false]
    rw [hl] at this
    rw [this];rfl
   ·have : ¬ q55 ((a.length:Nat):Int) ((b.length:Nat):Int)=0:=fun e=>hl (q7q.eq _ _ e)
    simp only [hl,decide_false,Bool.not_false,cond_true,this,if_false]
theorem qwc (n:Nat) (l1 l2:List (List UInt8)) (h1:l1.length<=1000000) (h2:l2.length<=1000000) (hw : ∀w,w∈l1\/w∈l2->w.length<=1000000/\w.length<n) : ∀m j:Nat,j<=l1.length->j<=l2.length->l1.length - j<m ->
  ((qd7 n m l1 l2 (j:Int)).bind fun (o16:((Int×(Unit))×(Unit)×(Unit))⊕(((List (List UInt8))×((List (List UInt8))×(Unit)))×(Unit)×(Unit)))=>Sum.elim (fun (q17:(Int×(Unit))×(Unit)×(Unit))=>some q17.1.1) (fun (q18:((List (List UInt8))×((List (List UInt8))×(Unit)))×(Unit)×(Unit))=>(q3g n ((List.length q18.1.1:Nat):Int) ((List.length q18.1.2.1:Nat):Int)).bind fun (r19:Int)=>some r19) o16)=some (cmpL jpy (l1.drop j) (l2.drop j))
 | 0,j,_,_,h=>absurd h (Nat.not_lt_zero _)
 | m+1,j,hj,hj2,h=>by
  rw [qsg]
  unfold j8w
  by_cases c0:j<l1.length
  ·have c0':((j:Nat):Int)<((l1.length:Nat):Int):=by omega
   have hd:l1.drop j=l1[j]::l1.drop (j+1):=(List.drop_eq_getElem_cons c0)
   by_cases c1:j<l2.length
   ·have c1':((j:Nat):Int)<((l2.length:Nat):Int):=by omega
    have hd2:l2.drop j=l2[j]::l2.drop (j+1):=(List.drop_eq_getElem_cons c1)
    have ih:=qwc n l1 l2 h1 h2 hw m (j+1) (by omega) (by omega) (by omega)
    have k1:=hw l1[j] (Or.inl (List.getElem_mem c0))
    have k2:=hw l2[j] (Or.inr (List.getElem_mem c1))
    have hp:=j7s n l1[j] l2[j] k1.1 k2.1 ⟨k1.2,k2.2⟩
    rw [hd,hd2,cmpL]
    simp only [c0',decide_true,cond_true,q0m c0,Option.bind_some,c1',q0m c1,hp,q0d,q04 (show j<4611686018427387904 by omega)]
    unfold or2
    by_cases h0:jpy l1[j] l2[j]=0
    ·simp only [h0,decide_true,Bool.not_true,cond_false,if_true]
     exact ih
    ·simp only [h0,decide_false,Bool.not_false,cond_true,if_false,Option.bind_some,Sum.elim_inl]
   ·have c1' : ¬ ((j:Nat):Int)<((l2.length:Nat):Int):=by omega
    have hd2:l2.drop j = []:=List.drop_eq_nil_of_le (by omega)
    have c3:q55 ((l1.length:Nat):Int) ((l2.length:Nat):Int)=1:=by unfold q55;rw [if_neg (by omega),if_pos (by omega)]
    rw [hd,hd2,cmpL]
    simp only [c0',decide_true,cond_true,c1',decide_false,cond_false,Option.bind_some,Sum.elim_inr,q33,c3]
  ·have c0' : ¬ ((j:Nat):Int)<((l1.length:Nat):Int):=by omega
   have hd:l1.drop j = []:=List.drop_eq_nil_of_le (by omega)
   simp only [c0',decide_false,cond_false,Option.bind_some,Sum.elim_inr,q33]
   rw [hd]
   by_cases c1:j<l2.length
   ·have hd2:l2.drop j=l2[j]::l2.drop (j+1):=(List.drop_eq_getElem_cons c1)
    have c3:q55 ((l1.length:Nat):Int) ((l2.length:Nat):Int) = -1:=by unfold q55;rw [if_pos (by omega)]
    rw [hd2,c3]
    rfl
   ·have hd2:l2.drop j = []:=List.drop_eq_nil_of_le (by omega)
    have c3:q55 ((l1.length:Nat):Int) ((l2.length:Nat):Int)=0:=by unfold q55;rw [if_neg (by omega),if_neg (by omega)]
    rw [hd2,c3]
    rfl
theorem jp1 (n:Nat) (a b:List UInt8) (ha:a.length<=100000) (hb:b.length<=100000) (hn:a.length+3<n/\b.length+3<n):jfd n a b=some (q8y a b):=by
 unfold jfd qw2
 by_cases h1:a = []
 ·by_cases h2:b = []
  ·simp only [h1,h2,decide_true,cond_true,Option.bind_some,q33]
   rfl
  ·simp only [h1,h2,decide_true,decide_false,cond_true,cond_false,Option.bind_some,q33]
   unfold q8y qht jj8 q55 or2
   simp [h2]
 ·by_cases h2:b = []
  ·simp only [h1,h2,decide_true,decide_false,cond_true,cond_false,Option.bind_some,q33]
   unfold q8y qht jj8 q55 or2
   simp [h1]
  ·simp only [h1,h2,decide_false,cond_false]
   have s1:q1w n a (46:Int)=some (spl 46 [] a):=q8s n a 46 (by omega) (by omega)
   have s2:q1w n b (46:Int)=some (spl 46 [] b):=q8s n b 46 (by omega) (by omega)
   have k1:=q6l 46 a []
   have k2:=q6l 46 b []
   rw [s1,s2]
   simp only [Option.bind_some]
   have h:=qwc n (spl 46 [] a) (spl 46 [] b) (by omega) (by omega) (fun w hw=>by
     rcases hw with hw|hw
     ·have:=q9w 46 a [] w hw;simp at this;omega
     ·have:=q9w 46 b [] w hw;simp at this;omega) n 0 (Nat.zero_le _) (Nat.zero_le _) (by omega)
   rw [show ((0:Nat):Int)=(0:Int) from rfl,List.drop_zero,List.drop_zero] at h
   rw [h]
   unfold q8y jj8
   simp only [h1,h2,if_false]
   unfold qht
   have e0:q55 (0:Int) 0=0:=by decide
   dsimp only
   rw [e0]
   unfold or2
   simp
theorem qhc (n:Nat) (a b:VD) (hn:100<=n):q1y n a b=some (qmq a b):=by
 unfold q1y qmq
 rw [q3u n a hn,q3u n b hn]
 cases hca:q0y a with
 | false=>rfl
 | true=>cases hcb:q0y b with
  | false=>rfl
  | true =>
   obtain ⟨-,-,-,h4,-⟩:=q2b hca
   obtain ⟨-,-,-,k4,-⟩:=q2b hcb
   have t1:=qon h4
   have t2:=qon k4
   simp only [Option.bind_some,Bool.not_true,cond_false,q33]
   rw [jp1 n _ _ (by omega) (by omega) ⟨by omega,by omega⟩]
   simp only [Option.bind_some,Bool.and_self,if_true]
   show _=some (or2 (q55 a.1 b.1) (or2 (q55 a.2.1 b.2.1) (or2 (q55 a.2.2.1 b.2.2.1) (q8y a.2.2.2.1 b.2.2.2.1))))
   have z : ∀x y:Int,q55 x y=0↔x=y:=fun x y=>q7q.zero
   unfold or2
   simp only [z]
   by_cases e1:a.1=b.1
   ·by_cases e2:a.2.1=b.2.1
    ·by_cases e3:a.2.2.1=b.2.2.1<;>simp [e1,e2,e3]
    ·simp [e1,e2]
   ·simp [e1]
end Go.Proofs.YtggoebaobojmjaaGreatDoor.AM
namespace Go.Proofs.YtggoebaobojmjaaGreatDoor.AM
open Go.RowKit
set_option linter.unusedVariables false
set_option linter.unusedSimpArgs false
theorem qdn (n m:Nat) (l i i':Int) (v x:VD) (z1 z2 z3:Int) (z4 z5:List UInt8) (L:List VD) (hn:100<=n) (hi:i<((L.length:Nat):Int)) (hx:q1a L i=some x) (hx':nth L (Int.toNat i)=some x) (hw:IntKind.wrap .i64 (i+1)=i') :
  q3r n (m+1) l i v.1 v.2.1 v.2.2.1 v.2.2.2.1 v.2.2.2.2 z1 z2 z3 z4 z5 L=if (2<=l/\x.2.2.1≠0)\/(l=3/\x.2.1≠0)\/q0y x=false \/ ¬ 0<qmq x v then q3r n m l i' v.1 v.2.1 v.2.2.1 v.2.2.2.1 v.2.2.2.2 z1 z2 z3 z4 z5 L else some (Sum.inl (((),((0:Int),())),((x,()),()))):=by
 rw [qb1]
 unfold qoa
 have hcmp:q1y n x (v.1,(v.2.1,(v.2.2.1,(v.2.2.2.1,v.2.2.2.2))))=some (qmq x v):=qhc n x v hn
 simp only [hi,decide_true,cond_true,hx,hx',Option.bind_some,q3u n x hn,hcmp,q0d,hw]
 by_cases a1:2<=l
 ·by_cases a2:x.2.2.1=0
  ·by_cases a3:l=3
   ·by_cases a4:x.2.1=0
    ·cases hc:q0y x with
     | false=>simp [a1,a2,a3,a4]
     | true=>by_cases a5:0<qmq x v<;>simp [a1,a2,a3,a4,a5]
    ·simp [a1,a2,a3,a4]
   ·cases hc:q0y x with
    | false=>simp [a1,a2,a3]
    | true=>by_cases a5:0<qmq x v<;>simp [a1,a2,a3,a5]
  ·simp [a1,a2]
 ·have a3 : ¬ l=3:=by omega
  cases hc:q0y x with
  | false=>simp [a1,a3]
  | true=>by_cases a5:0<qmq x v<;>simp [a1,a3,a5]
theorem jod (n m:Nat) (l i:Int) (v:VD) (z1 z2 z3:Int) (z4 z5:List UInt8) (L:List VD) (hi : ¬ i<((L.length:Nat):Int)) :
  q3r n (m+1) l i v.1 v.2.1 v.2.2.1 v.2.2.2.1 v.2.2.2.2 z1 z2 z3 z4 z5 L=some (Sum.inr ((((),()),(((z1,(z2,(z3,(z4,z5)))),()),())))):=by
 rw [qb1]
 unfold qoa
 simp only [hi,decide_false,cond_false]
theorem qpw {a b c:Int} (h : ¬ (0<=a/\a<=999999999) \/ ¬ (0<=b/\b<=999999999) \/ ¬ (0<=c/\c<=999999999)):q0y (a,(b,(c,([],[]))))=false:=by
 cases hc:q0y (a,(b,(c,([],[])))) with
 | false=>rfl
 | true =>
  obtain ⟨h1,h2,h3,-,-⟩:=q2b hc
  exact (h.elim (fun k=>k h1) fun k=>k.elim (fun k=>k h2) fun k=>k h3).elim
theorem jim (n:Nat) (v:VD) (l:Int) (hn:100<=n):qti n v l=some (qe2 v l):=by
 unfold qti
 rw [q3u n v hn]
 cases hc:q0y v with
 | false=>unfold qe2;simp [hc]
 | true =>
  obtain ⟨h1,h2,h3,h4,h5⟩:=q2b hc
  simp only [Option.bind_some,Bool.not_true,cond_false]
  by_cases l1:l<1
  ·have : ¬ (1<=l):=by omega
   unfold qe2;simp [l1,this]
  by_cases l3:3<l
  ·have : ¬ (l<=3):=by omega
   unfold qe2;simp [l1,l3,this]
  have q1:1<=l:=by omega
  have q3:l<=3:=by omega
  have w1:IntKind.wrap .i64 (v.2.2.1+1)=v.2.2.1+1:=wrap64 (by omega) (by omega)
  have w2:IntKind.wrap .i64 (v.2.1+1)=v.2.1+1:=wrap64 (by omega) (by omega)
  have w3:IntKind.wrap .i64 (v.1+1)=v.1+1:=wrap64 (by omega) (by omega)
  simp only [l1,l3,decide_false,cond_false,q0d,w1,w2,w3]
  obtain ⟨k,rfl⟩ : ∃ k,n=k+1+1+1+1+1:=⟨n - 5,by omega⟩
  rw [qdn _ _ l 0 1 v (v.1,(v.2.1,(v.2.2.1,([],[])))) _ _ _ _ _ _ hn (by simp) rfl rfl (by rfl),
   qdn _ _ l 1 2 v (v.1,(v.2.1,(v.2.2.1+1,([],[])))) _ _ _ _ _ _ hn (by simp) rfl rfl (by rfl),
   qdn _ _ l 2 3 v (v.1,(v.2.1+1,(0,([],[])))) _ _ _ _ _ _ hn (by simp) rfl rfl (by rfl),
   qdn _ _ l 3 4 v (v.1+1,(0,(0,([],[])))) _ _ _ _ _ _ hn (by simp) rfl rfl (by rfl),
   jod _ _ l 4 v _ _ _ _ _ _ (by simp)]
  have K0:((2<=l/\v.2.2.1≠0)\/(l=3/\v.2.1≠0)\/q0y (v.1,(v.2.1,(v.2.2.1,([],[]))))=false \/ ¬ 0<qmq (v.1,(v.2.1,(v.2.2.1,([],[])))) v) ↔ ¬ (v.2.2.2.1 ≠ []/\(2<=l->v.2.2.1=0)/\(l=3->v.2.1=0)):=by
   rw [j12 h1 h2 h3 hc,q54 h1 h2 h3]
   simp only [je5,qy7,qg3]
   by_cases hp:v.2.2.2.1 = []
   ·simp [hp]
   ·simp [hp];omega
  have K1:((2<=l/\v.2.2.1+1≠0)\/(l=3/\v.2.1≠0)\/q0y (v.1,(v.2.1,(v.2.2.1+1,([],[]))))=false \/ ¬ 0<qmq (v.1,(v.2.1,(v.2.2.1+1,([],[])))) v) ↔ ¬ (l=1/\v.2.2.1<999999999):=by
   by_cases hb:v.2.2.1<999999999
   ·rw [j12 h1 h2 (by omega) hc,q54 h1 h2 (by omega)]
    simp only [je5,qy7,qg3,Bool.true_eq_false,false_or,true_and]
    omega
   ·rw [qpw (by omega)]
    simp only [true_or,or_true,true_iff]
    omega
  have K2:((2<=l/\(0:Int)≠0)\/(l=3/\v.2.1+1≠0)\/q0y (v.1,(v.2.1+1,(0,([],[]))))=false \/ ¬ 0<qmq (v.1,(v.2.1+1,(0,([],[])))) v) ↔ ¬ (l<=2/\v.2.1<999999999):=by
   by_cases hb:v.2.1<999999999
   ·rw [j12 h1 (by omega) (by omega) hc,q54 h1 (by omega) (by omega)]
    simp only [je5,qy7,qg3,Bool.true_eq_false,false_or,true_and]
    omega
   ·rw [qpw (by omega)]
    simp only [true_or,or_true,true_iff]
    omega
  have K3:((2<=l/\(0:Int)≠0)\/(l=3/\(0:Int)≠0)\/q0y (v.1+1,(0,(0,([],[]))))=false \/ ¬ 0<qmq (v.1+1,(0,(0,([],[])))) v) ↔ ¬ (v.1<999999999):=by
   by_cases hb:v.1<999999999
   ·rw [j12 (by omega) (by omega) (by omega) hc,q54 (by omega) (by omega) (by omega)]
    simp only [je5,qy7,qg3,Bool.true_eq_false,false_or,true_and]
    omega
   ·rw [qpw (by omega)]
    simp only [true_or,or_true,true_iff]
    omega
  simp only [K0,K1,K2,K3,ite_not]
  unfold qe2
  rw [if_pos (show q0y v=true/\1<=l/\l<=3 from ⟨hc,q1,q3⟩)]
  clear K0 K1 K2 K3
  by_cases A:v.2.2.2.1 ≠ []/\(2<=l->v.2.2.1=0)/\(l=3->v.2.1=0)
  ·rw [if_pos A,if_pos A];rfl
  ·rw [if_neg A,if_neg A]
   by_cases B:l=1/\v.2.2.1<999999999
   ·rw [if_pos B,if_pos B];rfl
   ·rw [if_neg B,if_neg B]
    by_cases C:l<=2/\v.2.1<999999999
    ·rw [if_pos C,if_pos C];rfl
    ·rw [if_neg C,if_neg C]
     by_cases D:v.1<999999999
     ·rw [if_pos D,if_pos D];rfl
     ·rw [if_neg D,if_neg D];rfl
end Go.Proofs.YtggoebaobojmjaaGreatDoor.AM
namespace Go.Proofs.YtggoebaobojmjaaGreatDoor.AM
open Go.RowKit
set_option linter.unusedVariables false
set_option linter.unusedSimpArgs false
theorem jhf (n:Nat) (s:List UInt8) (hL:s.length<=1000000) (hn:s.length<n):j0d n s=some (q20 s):=by
 unfold j0d q20
 have hg:=jbx 47 s
 obtain ⟨k,hk⟩ : ∃ k:Nat,q93 47 s+1=(k:Int):=⟨(q93 47 s+1).toNat,by omega⟩
 rw [qvh n s hL hn]
 simp only [Option.bind_some,q0d]
 rw [hk,wrap64 (by omega) (by omega),sub_le (by omega) (Nat.le_refl _)]
 simp only [Option.bind_some,Int.toNat_natCast]
 rw [List.take_of_length_le (by rw [List.length_drop];exact Nat.le_refl _)]
theorem jt8 (s:List UInt8):(q2a s).length<=s.length:=by unfold q2a;rw [List.length_take];omega
theorem jdr (s:List UInt8):(q20 s).length<=s.length:=by unfold q20;rw [List.length_drop];omega
theorem jbl {s:List UInt8} (h:q1f s=true):q3n s=s.drop 1:=by
 unfold q1f at h
 simp only [Bool.and_eq_true,decide_eq_true_eq] at h
 unfold q3n;rw [if_pos h.1]
theorem qfd (n:Nat) (s:List UInt8) (hL:s.length<=1000000) (hn:s.length<n):qde n s=some (q3q s):=by
 have hb:=jt8 s
 have hl:=jdr s
 have e1:qpk s=some (q2a s):=if_pos hL
 have e2:j42 (q2a s)=some (anyS (q2a s)):=if_pos (by omega)
 have e3:qv7 (q20 s)=some (numOf (q3n (q20 s)),qv1 (q3n (q20 s))):=if_pos (by omega)
 have e4:j7f s=some (qe3 s):=rfl
 unfold qde q3q okS
 simp only [e1,e2,e3,e4,jhf n s hL hn,qpc n (q20 s) (by omega),Option.bind_some]
 cases qe3 s with
 | false=>rfl
 | true=>cases anyS (q2a s) with
  | true=>rfl
  | false=>cases ht:q1f (q20 s) with
   | false=>rfl
   | true =>
    rw [jbl ht]
    cases qv1 ((q20 s).drop 1) with
    | false=>rfl
    | true =>
     by_cases h0:q2a s = []
     ·simp [h0]
     ·simp [h0]
theorem j0n (s:List UInt8):(q3q s).2.2=okS s:=by
 unfold q3q
 cases okS s with
 | false=>rfl
 | true=>cases q1f (q20 s)<;>rfl
theorem jay (n:Nat) (s:List UInt8) (hL:s.length<=1000000) (hn:s.length<n):qot n s=some (okS s):=by
 unfold qot
 rw [qfd n s hL hn,<-j0n];rfl
def j91 (p:List UInt8) (v:VD):Bool:=okS p&&(q0y v&&(if (q3q p).2.1=0 then decide (v.1<2) else decide (v.1=(q3q p).2.1)))
theorem jin (n:Nat) (s:List UInt8) (v:VD) (hL:s.length<=1000000) (hn:s.length<n) (h4:4<=n):qzj n s v=some (j91 s v):=by
 unfold qzj j91
 rw [qfd n s hL hn]
 simp only [Option.bind_some,j0n,q6k n v h4]
 cases okS s with
 | false=>rfl
 | true=>cases q0y v with
  | false=>rfl
  | true =>
   by_cases h:(q3q s).2.1=0
   ·simp [h]
   ·simp [h]
theorem j8p (c:UInt8):qqe c=((decide ((97:Int)<=((c.toNat:Nat):Int))&&decide (((c.toNat:Nat):Int)<=(122:Int)))||(decide ((65:Int)<=((c.toNat:Nat):Int))&&decide (((c.toNat:Nat):Int)<=(90:Int)))||(decide ((48:Int)<=((c.toNat:Nat):Int))&&decide (((c.toNat:Nat):Int)<=(57:Int)))||decide (((c.toNat:Nat):Int)=(45:Int))||decide (((c.toNat:Nat):Int)=(95:Int))||decide (((c.toNat:Nat):Int)=(46:Int))):=by
 unfold qqe
 have h6:decide (((c.toNat:Nat):Int)=(95:Int))=decide (c.toNat=95):=decide_eq_decide.2 (by omega)
 have h7:decide (((c.toNat:Nat):Int)=(46:Int))=decide (c.toNat=46):=decide_eq_decide.2 (by omega)
 rw [h6,h7,<-je0]
theorem qp4 (n:Nat) (s:List UInt8) (hL:s.length<=1000000) : ∀m j:Nat,j<=s.length->s.length - j<m->q7f n m s (j:Int)=some (if (s.drop j).all qqe=true then Sum.inr ((s,()),((),())) else Sum.inl ((false,()),((),())))
 | 0,j,_,h=>absurd h (Nat.not_lt_zero _)
 | m+1,j,hj,h=>by
  rw [qlr]
  unfold qpv
  by_cases c0:j<s.length
  ·have c0':((j:Nat):Int)<((s.length:Nat):Int):=by omega
   have ih:=qp4 n s hL m (j+1) (by omega) (by omega)
   have hd:s.drop j=s[j]::s.drop (j+1):=(List.drop_eq_getElem_cons c0)
   simp only [c0',decide_true,cond_true,q6e c0,Option.bind_some,q0d,q04 (show j<4611686018427387904 by omega),ih,hd,List.all_cons]
   rw [j8p]
   generalize (List.drop (j+1) s).all qqe=B
   generalize decide ((97:Int)<=((s[j].toNat:Nat):Int))=b1
   generalize decide (((s[j].toNat:Nat):Int)<=(122:Int))=b2
   generalize decide ((65:Int)<=((s[j].toNat:Nat):Int))=b3
   generalize decide (((s[j].toNat:Nat):Int)<=(90:Int))=b4
   generalize decide ((48:Int)<=((s[j].toNat:Nat):Int))=b5
   generalize decide (((s[j].toNat:Nat):Int)<=(57:Int))=b6
   generalize decide (((s[j].toNat:Nat):Int)=(45:Int))=b7
   generalize decide (((s[j].toNat:Nat):Int)=(95:Int))=b8
   generalize decide (((s[j].toNat:Nat):Int)=(46:Int))=b9
   cases b1<;>cases b2<;>cases b3<;>cases b4<;>cases b5<;>cases b6<;>cases b7<;>cases b8<;>cases b9<;>rfl
  ·have c0' : ¬ ((j:Nat):Int)<((s.length:Nat):Int):=by omega
   have:s.drop j = []:=List.drop_eq_nil_of_le (by omega)
   simp [c0',this]
theorem j8q (n:Nat) (s:List UInt8) (hL:s.length<=1000000) (hn:s.length<n):qo1 n s=some (qep s):=by
 unfold qo1 qep
 have:=qp4 n s hL n 0 (Nat.zero_le _) (by omega)
 rw [show ((0:Nat):Int)=(0:Int) from rfl] at this
 rw [this,List.drop_zero]
 cases s.all qqe with
 | true =>
  simp only [if_true,Option.bind_some,Sum.elim_inr]
  cases decide (s = [])<;>cases decide (s = [46])<;>cases decide (s = [46,46])<;>rfl
 | false =>
  simp only [Bool.false_eq_true,if_false,Option.bind_some,Sum.elim_inl]
  cases decide (s = [])<;>cases decide (s = [46])<;>cases decide (s = [46,46])<;>rfl
theorem qtn (n:Nat) (l:List (List UInt8)) (hl:l.length<=1000000) (hw : ∀w∈l,w.length<=1000000/\w.length<n) : ∀m j:Nat,j<=l.length->l.length - j<m->q7j n m l (j:Int)=some (if (l.drop j).all qep=true then Sum.inr ((),((),())) else Sum.inl ((false,()),((),())))
 | 0,j,_,h=>absurd h (Nat.not_lt_zero _)
 | m+1,j,hj,h=>by
  rw [qlt]
  unfold qrn
  by_cases c0:j<l.length
  ·have c0':((j:Nat):Int)<((l.length:Nat):Int):=by omega
   have ih:=qtn n l hl hw m (j+1) (by omega) (by omega)
   have hd:l.drop j=l[j]::l.drop (j+1):=(List.drop_eq_getElem_cons c0)
   have hm:=hw l[j] (List.getElem_mem c0)
   simp only [c0',decide_true,cond_true,q0m c0,Option.bind_some,j8q n l[j] hm.1 hm.2,q0d,q04 (show j<4611686018427387904 by omega),ih,hd,List.all_cons]
   cases qep l[j]<;>simp
  ·have c0' : ¬ ((j:Nat):Int)<((l.length:Nat):Int):=by omega
   have:l.drop j = []:=List.drop_eq_nil_of_le (by omega)
   simp [c0',this]
theorem j82 (n:Nat) (s:List UInt8) (hL:s.length<=1000000) (hn:100<=n):qo2 n s=some (qe3 s):=by
 unfold qo2 qe3
 by_cases h:s.length<=60
 ·have h' : ¬ (60:Int)<((s.length:Nat):Int):=by omega
  have hlen:=q6l 47 s []
  have hw : ∀w∈spl 47 [] s,w.length<=s.length:=fun w hm=>by have:=q9w 47 s [] w hm;simpa using this
  have:=qtn n (spl 47 [] s) (by omega) (fun w hm=>⟨by have:=hw w hm;omega,by have:=hw w hm;omega⟩) n 0 (Nat.zero_le _) (by omega)
  rw [show ((0:Nat):Int)=(0:Int) from rfl] at this
  simp only [h',decide_false,cond_false]
  rw [show (47:Int)=(((47:UInt8).toNat:Nat):Int) from rfl,q8s n s 47 hL (by omega)]
  simp only [Option.bind_some]
  rw [this,List.drop_zero]
  cases (spl 47 [] s).all qep<;>simp [h]
 ·have h':(60:Int)<((s.length:Nat):Int):=by omega
  simp [h,h']
end Go.Proofs.YtggoebaobojmjaaGreatDoor.AM
namespace Go.Proofs.YtggoebaobojmjaaGreatDoor.AM
open Go.RowKit
set_option linter.unusedVariables false
set_option linter.unusedSimpArgs false
end Go.Proofs.YtggoebaobojmjaaGreatDoor.AM
namespace Go.Proofs.YtggoebaobojmjaaGreatDoor.AM
open Go.RowKit
set_option linter.unusedVariables false
set_option linter.unusedSimpArgs false
theorem jtk : ∀n:Nat,0<n->(Lib.decDigits n).head? ≠ some 48:=by
 intro n
 induction n using Nat.strongRecOn with
 | _ n ih =>
  intro h0
  rw [Lib.decDigits]
  split
  ·rename_i h
   intro h2
   have h3:UInt8.ofNat (48+n)=48:=by simpa using h2
   have h4:=congrArg UInt8.toNat h3
   rw [UInt8.toNat_ofNat'] at h4
   have e48:(48:UInt8).toNat=48:=rfl
   rw [e48] at h4;omega
  ·rename_i h
   have:=ih (n / 10) (by omega) (by omega)
   have hne:=(jjf (n / 10)).2
   generalize Lib.decDigits (n / 10)=l at this hne
   cases l with
   | nil=>exact absurd rfl hne
   | cons b r=>simpa using this
theorem jo2 : ∀(k:Nat) (d:List UInt8),d.length=k->d.all q1n=true->d ≠ []->d.head? ≠ some 48->Lib.decDigits (qdz 0 d).toNat=d
 | 0,d,hk,_,hne,_=>absurd (List.eq_nil_of_length_eq_zero hk) hne
 | k+1,d,hk,hd,hne,h48=>by
  obtain ⟨l,c,rfl⟩ : ∃ l c,d=l ++ [c]:=⟨d.dropLast,d.getLast hne,(List.dropLast_concat_getLast hne).symm⟩
  have hl:l.length=k:=by simpa using hk
  rw [List.all_append,Bool.and_eq_true] at hd
  have hc:q1n c=true:=by simpa using hd.2
  have hc2:48<=c.toNat/\c.toNat<=57:=by unfold q1n at hc;simpa using hc
  have hb:=qk3 l 0 (by decide) hd.1
  rw [qyu]
  have e1:qdz (qdz 0 l) [c]=10*qdz 0 l+c.toNat - 48:=by simp only [qdz]
  rw [e1,Lib.decDigits]
  have uc:UInt8.ofNat (48+(c.toNat - 48))=c:=by
   have:48+(c.toNat - 48)=c.toNat:=by omega
   rw [this];simp
  by_cases h0:l = []
  ·subst h0
   have:(10*qdz 0 ([]:List UInt8)+(c.toNat:Int) - 48).toNat=c.toNat - 48:=by show (10*(0:Int)+(c.toNat:Int) - 48).toNat=_;omega
   rw [this,dif_pos (by omega),uc];rfl
  ·have hh:l.head? ≠ some 48:=by
    cases l with
    | nil=>exact absurd rfl h0
    | cons b r=>simpa using h48
   have ih:=jo2 k l hl hd.1 h0 hh
   have hpos:qdz 0 l≠0:=fun h=>by
    rw [h] at ih
    have e0:Lib.decDigits (0:Int).toNat = [48]:=Lib.decDigits_one (by decide)
    rw [e0] at ih
    rw [<-ih] at hh;exact hh rfl
   have q1:(10*qdz 0 l+(c.toNat:Int) - 48).toNat / 10=(qdz 0 l).toNat:=by omega
   have q2:(10*qdz 0 l+(c.toNat:Int) - 48).toNat % 10=c.toNat - 48:=by omega
   rw [dif_neg (by omega),q1,q2,ih,uc]
def jy6 (w:List UInt8):Int:=if 10<w.length then 0 else if (w.drop 1).head? = some 48 then 0 else if qdz 0 (w.drop 1)<2 then 0 else qdz 0 (w.drop 1)
theorem j28 {w:List UInt8} (h:q1f w=true):jy6 w=if qv1 (w.drop 1) then numOf (w.drop 1) else 0:=by
 have hl:w.length=(w.drop 1).length+1:=by
  cases w with
  | nil=>exact absurd h (by decide)
  | cons b r=>simp
 unfold q1f at h
 simp only [Bool.and_eq_true] at h
 have hd:=h.2
 unfold q2y at hd
 simp only [Bool.and_eq_true,Bool.not_eq_true',decide_eq_false_iff_not] at hd
 unfold jy6
 rw [hl]
 generalize w.drop 1=d at hd
 cases hf:qv1 d with
 | true =>
  obtain ⟨n0,n1,ne⟩:=j6f hf
  have li:=jtq (n:=numOf d) (by omega)
  have ed:Lib.decDigits (numOf d).toNat=d:=by rw [<-qoz (by omega)];exact ne.symm
  have hh:=jtk (numOf d).toNat (by omega)
  have hv:=js9 (numOf d).toNat
  rw [ed] at hh hv
  rw [<-ne] at li
  rw [if_neg (by omega),if_neg hh,hv,if_neg (by omega)]
  show (((numOf d).toNat:Nat):Int)=numOf d
  omega
 | false =>
  by_cases c1:10<d.length+1
  ·rw [if_pos c1];rfl
  by_cases c2:d.head? = some 48
  ·rw [if_neg c1,if_pos c2];rfl
  by_cases c3:qdz 0 d<2
  ·rw [if_neg c1,if_neg c2,if_pos c3];rfl
  ·exfalso
   have hb:=qk3 d 0 (by decide) hd.1
   have hp:(10:Int) ^ d.length<=10 ^ 9:=by
    have:=Nat.pow_le_pow_right (n:=10) (by decide) (show d.length<=9 by omega)
    have e2:((10 ^ d.length:Nat):Int)=(10:Int) ^ d.length:=by simp
    have e3:((10 ^ 9:Nat):Int)=(10:Int) ^ 9:=by simp
    rw [<-e2,<-e3];omega
   have e9:(10:Int) ^ 9=1000000000:=by decide
   rw [e9] at hp
   have ed:=jo2 d.length d rfl hd.1 hd.2 c2
   have ei:Lib.itoa (qdz 0 d)=d:=by rw [qoz hb.1];exact ed
   have:=(jjc (n:=qdz 0 d) (by omega) (by omega)).1
   rw [ei,hf] at this;cases this
theorem qm8 (n:Nat) (s:List UInt8) (hL:s.length<=1000000) : ∀m j:Nat,j<=s.length+1->s.length+1 - j<m->q5r n m s (j:Int)=some (if (s.drop j).all q1n=true then Sum.inr ((s,()),((),())) else Sum.inl ((false,()),((),())))
 | 0,j,_,h=>absurd h (Nat.not_lt_zero _)
 | m+1,j,hj,h=>by
  rw [qgd]
  unfold qko
  by_cases c0:j<s.length
  ·have c0':((j:Nat):Int)<((s.length:Nat):Int):=by omega
   have ih:=qm8 n s hL m (j+1) (by omega) (by omega)
   have hd:s.drop j=s[j]::s.drop (j+1):=(List.drop_eq_getElem_cons c0)
   have hi:q1n s[j]=(!decide (((s[j].toNat:Nat):Int)<48) && !decide ((57:Int)<((s[j].toNat:Nat):Int))):=by
    unfold q1n
    rw [<-decide_not,<-decide_not]
    congr 1<;>exact decide_eq_decide.2 (by omega)
   simp only [c0',decide_true,cond_true,q6e c0,Option.bind_some,q0d,q04 (show j<4611686018427387904 by omega),ih,hd,List.all_cons,hi]
   cases decide (((s[j].toNat:Nat):Int)<48)<;>cases decide ((57:Int)<((s[j].toNat:Nat):Int))<;>simp
  ·have c0' : ¬ ((j:Nat):Int)<((s.length:Nat):Int):=by omega
   have:s.drop j = []:=List.drop_eq_nil_of_le (by omega)
   simp [c0',this]
theorem qn7 (n:Nat) (s:List UInt8) (hL:s.length<=1000000) (hn:s.length+1<n):qcg n s=some (q1f s):=by
 unfold qcg q1f q2y
 have:=qm8 n s hL n 1 (by omega) (by omega)
 rw [show ((1:Nat):Int)=(1:Int) from rfl] at this
 rw [this]
 cases s with
 | nil=>rfl
 | cons b r =>
  simp only [List.drop_succ_cons,List.drop_zero,List.head?_cons,Option.some.injEq]
  have h0:sAt (b::r) (0:Int)=some ((b.toNat:Nat):Int):=q6e (s:=b::r) (j:=0) (by simp)
  have h1:decide (((b.toNat:Nat):Int)=(118:Int))=decide (b=118):=decide_eq_decide.2 (by
   constructor
   ·intro h;exact UInt8.toNat_inj.1 (by have e:(118:UInt8).toNat=118:=rfl;rw [e];omega)
   ·rintro rfl;rfl)
  have h2:decide ((1:Int)<(((b::r).length:Nat):Int)) = !decide (r = []):=by
   rw [<-decide_not]
   refine decide_eq_decide.2 ?_
   cases r with
   | nil=>simp
   | cons x y=>simp;omega
  cases hr:r.all q1n with
  | true =>
   simp only [if_true,Option.bind_some,Sum.elim_inr,h2,h0,h1,Bool.true_and]
   cases decide (r = [])<;>simp
  | false=>simp
theorem qiy (n:Nat) (s:List UInt8) (hL:s.length<=10) (hd:(s.drop 1).all q1n=true) : ∀(m j:Nat) (a:Int),1<=j->j<=s.length->s.length - j<m->0<=a->a<10 ^ j->q4e n m s a (j:Int)=some ((qdz a (s.drop j),()),((),()))
 | 0,j,a,_,_,h,_,_=>absurd h (Nat.not_lt_zero _)
 | m+1,j,a,hj1,hj,h,ha,hb=>by
  rw [qeq]
  unfold qfo
  by_cases c0:j<s.length
  ·have c0':((j:Nat):Int)<((s.length:Nat):Int):=by omega
   have hp:(10:Int) ^ j<=10 ^ 10:=by
    have:=Nat.pow_le_pow_right (n:=10) (by decide) (show j<=10 by omega)
    have e2:((10 ^ j:Nat):Int)=(10:Int) ^ j:=by simp
    have e3:((10 ^ 10:Nat):Int)=(10:Int) ^ 10:=by simp
    rw [<-e2,<-e3];omega
   have e9:(10:Int) ^ 10=10000000000:=by decide
   rw [e9] at hp
   have hdr:s.drop j=s[j]::s.drop (j+1):=(List.drop_eq_getElem_cons c0)
   have hm:s[j]∈s.drop 1:=by
    have e:s.drop 1=s.drop 1:=rfl
    have:(s.drop 1)[j - 1]'(by simp;omega)=s[j]:=by simp;congr 1;omega
    rw [<-this];exact List.getElem_mem _
   have hc:=List.all_eq_true.1 hd _ hm
   have hc2:48<=s[j].toNat/\s[j].toNat<=57:=by unfold q1n at hc;simpa using hc
   have e10:(10:Int) ^ (j+1)=10*10 ^ j:=by rw [Int.pow_succ];omega
   have ih:=qiy n s hL hd m (j+1) (10*a+(s[j].toNat:Int) - 48) (by omega) (by omega) (by omega) (by omega) (by rw [e10];omega)
   simp only [c0',decide_true,cond_true,q6e c0,Option.bind_some,q0d,q04 (show j<4611686018427387904 by omega)]
   rw [wrap64 (n:=10*a) (by omega) (by omega),wrap64 (n:=((s[j].toNat:Nat):Int)) (by omega) (by omega),wrap64 (n:=10*a+((s[j].toNat:Nat):Int)) (by omega) (by omega),wrap64 (n:=10*a+((s[j].toNat:Nat):Int) - 48) (by omega) (by omega),ih,hdr]
   rfl
  ·have c0' : ¬ ((j:Nat):Int)<((s.length:Nat):Int):=by omega
   have:s.drop j = []:=List.drop_eq_nil_of_le (by omega)
   simp [c0',this,qdz]
theorem qi0 (n:Nat) (s:List UInt8) (hn:100<=n) (ht:q1f s=true):q8o n s=some (jy6 s):=by
 have hd:(s.drop 1).all q1n=true/\s.drop 1 ≠ []:=by
  unfold q1f q2y at ht
  simp only [Bool.and_eq_true,Bool.not_eq_true',decide_eq_false_iff_not] at ht
  exact ht.2
 have h2:2<=s.length:=by
  cases s with
  | nil=>exact absurd rfl hd.2
  | cons b r=>cases r with
   | nil=>exact absurd rfl hd.2
   | cons c t=>simp
 unfold q8o jy6
 by_cases c1:10<s.length
 ·have c1':(10:Int)<((s.length:Nat):Int):=by omega
  simp [c1,c1']
 ·have c1' : ¬ (10:Int)<((s.length:Nat):Int):=by omega
  have h0:sAt s (1:Int)=some ((s[1].toNat:Nat):Int):=q6e (s:=s) (j:=1) (by omega)
  have e1:(s.drop 1).head? = some s[1]:=by rw [List.head?_drop];exact List.getElem?_eq_getElem _
  have h1:decide (((s[1].toNat:Nat):Int)=(48:Int))=decide (s[1]=48):=decide_eq_decide.2 (by
   constructor
   ·intro h;exact UInt8.toNat_inj.1 (by have e:(48:UInt8).toNat=48:=rfl;rw [e];omega)
   ·intro h;rw [h];rfl)
  have hlp:=qiy n s (by omega) hd.1 n 1 0 (by omega) (by omega) (by omega) (by omega) (by decide)
  rw [show ((1:Nat):Int)=(1:Int) from rfl] at hlp
  simp only [c1,c1',decide_false,cond_false,if_false,h0,h1,hlp,Option.bind_some,e1,Option.some.injEq]
  generalize qdz 0 (s.drop 1)=V
  by_cases c2:s[1]=48
  ·simp [c2]
  ·by_cases c3:V<2
   ·simp [c2,c3]
   ·simp [c2,c3]
theorem j81 (n m:Nat) (l:List (List UInt8)):q39 n (m+1) l ((l.length:Nat):Int)=some (Sum.inr ((),((),()))):=by
 rw [q7r];unfold qct;simp
theorem qml (n:Nat) (f:List (List UInt8)) (x:List UInt8) (hl:f.length<=1000000) (hw : ∀w∈f ++ [x],w.length<=1000000/\w.length+1<n) (hn:100<=n) : ∀m j:Nat,j<=f.length->f.length+1 - j<m ->
  q39 n m (f ++ [x]) (j:Int)=some (if ((f.drop j).all (fun w=>!q1f w)&&(!q1f x||(!decide (f = []) && !decide (jy6 x=0))))=true then Sum.inr ((),((),())) else Sum.inl ((false,()),((),())))
 | 0,j,_,h=>absurd h (Nat.not_lt_zero _)
 | m+1,j,hj,h=>by
  rw [q7r]
  unfold qct
  have hlen:(f ++ [x]).length=f.length+1:=by simp
  have c0:((j:Nat):Int)<(((f ++ [x]).length:Nat):Int):=by rw [hlen];omega
  have w1:IntKind.wrap .i64 ((((f ++ [x]).length:Nat):Int) - 1)=((f.length:Nat):Int):=by rw [hlen,wrap64 (by omega) (by omega)];omega
  have hx:q1a (f ++ [x]) ((j:Nat):Int)=some ((f ++ [x])[j]'(by rw [hlen];omega)):=q0m _
  have hm:=hw _ (List.getElem_mem (show j<(f ++ [x]).length by rw [hlen];omega))
  simp only [c0,decide_true,cond_true,hx,Option.bind_some,qn7 n _ hm.1 hm.2,q0d,w1,q04 (show j<4611686018427387904 by omega)]
  by_cases c1:j<f.length
  ·have ih:=qml n f x hl hw hn m (j+1) (by omega) (by omega)
   have hd:f.drop j=f[j]::f.drop (j+1):=(List.drop_eq_getElem_cons c1)
   have he:(f ++ [x])[j]'(by rw [hlen];omega)=f[j]:=List.getElem_append_left c1
   have c1':((j:Nat):Int)<((f.length:Nat):Int):=by omega
   rw [he,ih,hd]
   simp only [c1',decide_true,cond_true,List.all_cons]
   rcases Bool.eq_false_or_eq_true (q1f f[j]) with hb|hb
   ·simp only [hb,cond_true,Bool.not_true,Bool.false_and,Bool.false_eq_true,if_false]
   ·simp only [hb,cond_false,Bool.not_false,Bool.true_and]
  ·have hj2:j=f.length:=by omega
   subst hj2
   have he:(f ++ [x])[f.length]'(by rw [hlen];omega)=x:=by simp
   obtain ⟨k,rfl⟩ : ∃ k,m=k+1:=⟨m - 1,by omega⟩
   have hend:=j81 n k (f ++ [x])
   rw [hlen] at hend
   rw [he,hend]
   have d0:decide (((f.length:Nat):Int)=0)=decide (f = []):=decide_eq_decide.2 (by
    constructor
    ·intro h;exact List.eq_nil_of_length_eq_zero (by omega)
    ·rintro rfl;rfl)
   simp only [Int.lt_irrefl,decide_false,cond_false,d0,List.drop_length,List.all_nil,Bool.true_and]
   cases ht:q1f x with
   | false=>rfl
   | true =>
    rw [qi0 n x hn ht]
    simp only [cond_true,Option.bind_some,Bool.not_true,Bool.false_or]
    cases decide (f = [])<;>cases decide (jy6 x=0)<;>rfl
theorem j5l (s:List UInt8) (hp:qe3 s=true) : ∃ f,spl 47 [] s=f ++ [q20 s]/\f.all (fun w=>!q1f w) = !anyS (q2a s)/\decide (f = [])=decide (q2a s = []):=by
 have key : ∀b,anyS b = !((spl 47 [] b).all fun x=>!q1f x):=fun b=>by unfold anyS;rw [List.any_eq_not_all_not]
 rcases jht s with ⟨_,a,b,c⟩|⟨he,hs,hc⟩
 ·refine ⟨[],by rw [b,c];rfl,?_,by rw [a];rfl⟩
  rw [a];decide
 ·refine ⟨spl 47 [] (q2a s),hc,?_,?_⟩
  ·rw [key,Bool.not_not]
  ·have h1:=jup 47 (q2a s) []
   have h2:q2a s ≠ []:=fun h=>by
    have:=(jg5 hp).2
    rw [hc,h] at this
    simp [spl] at this
    exact absurd this.1 (by decide)
   simp [h1,h2]
theorem j61 (n:Nat) (s:List UInt8) (hL:s.length<=1000) (hn:2000<=n):qik n s=some (okS s):=by
 unfold qik okS
 rw [j82 n s (by omega) (by omega)]
 cases hp:qe3 s with
 | false=>rfl
 | true =>
  obtain ⟨f,e1,e2,e3⟩:=j5l s hp
  have hlen:=q6l 47 s []
  have hw : ∀w∈spl 47 [] s,w.length<=s.length:=fun w hm=>by have:=q9w 47 s [] w hm;simpa using this
  rw [show (47:Int)=(((47:UInt8).toNat:Nat):Int) from rfl,q8s n s 47 (by omega) (by omega)]
  rw [e1] at hlen hw ⊢
  have hlen2:f.length+1<=s.length+1:=by simpa using hlen.2
  have hlp:=qml n f (q20 s) (by omega) (fun w hm=>⟨by have:=hw w hm;omega,by have:=hw w hm;omega⟩) (by omega) n 0 (Nat.zero_le _) (by omega)
  rw [show ((0:Nat):Int)=(0:Int) from rfl] at hlp
  simp only [Option.bind_some,Bool.not_true,cond_false,hlp,List.drop_zero,e2,e3,Bool.true_and]
  cases ht:q1f (q20 s) with
  | false=>cases anyS (q2a s)<;>rfl
  | true =>
   rw [j28 ht]
   generalize (q20 s).drop 1=d
   cases hf:qv1 d with
   | false=>cases anyS (q2a s)<;>simp
   | true =>
    have n0 : ¬ numOf d=0:=by have:=(j6f hf).1;omega
    cases anyS (q2a s)<;>cases decide (q2a s = [])<;>simp [n0]
theorem qsi (n:Nat) (s:List UInt8) (hL:s.length<=1000000) : ∀m j:Nat,j<=s.length->j<m->q6z n m s ((j:Int) - 1)=some (if q85 47 (s.take j).reverse = -1 then Sum.inr ((),((),())) else Sum.inl ((s.take (q85 47 (s.take j).reverse).toNat,()),((),())))
 | 0,j,_,h=>absurd h (Nat.not_lt_zero _)
 | m+1,0,_,_=>by
  rw [q97]
  unfold qic
  simp [q85]
 | m+1,j+1,hj,h=>by
  rw [q97]
  unfold qic
  have e1:((j+1:Nat):Int) - 1=((j:Nat):Int):=by omega
  have ih:=qsi n s hL m j (by omega) (by omega)
  have w1:IntKind.wrap .i64 (((j:Nat):Int) - 1)=((j:Nat):Int) - 1:=wrap64 (by omega) (by omega)
  have c0:(0:Int)<=((j:Nat):Int):=by omega
  have d1:decide (((s[j].toNat:Nat):Int)=(47:Int))=decide (s[j]=47):=decide_eq_decide.2 (by
   constructor
   ·intro h;exact UInt8.toNat_inj.1 (by have e:(47:UInt8).toNat=47:=rfl;rw [e];omega)
   ·intro h;rw [h];rfl)
  rw [e1]
  simp only [c0,decide_true,cond_true,q6e (show j<s.length by omega),Option.bind_some,d1,q0d,w1,ih,qgw s j (by omega),q85,sub_zero (show j<=s.length by omega)]
  by_cases h0:s[j]=47
  ·have l1:(s.take j).reverse.length=j:=by simp;omega
   simp only [h0,decide_true,cond_true,if_true,l1]
   rw [if_neg (by omega),Int.toNat_natCast]
  ·simp [h0]
theorem ja6 (n:Nat) (s:List UInt8) (hL:s.length<=1000000) (hn:s.length<n):qoe n s=some (q2a s):=by
 unfold qoe q2a q93
 have:=qsi n s hL n s.length (Nat.le_refl _) hn
 have w1:IntKind.wrap .i64 (((s.length:Nat):Int) - 1)=((s.length:Nat):Int) - 1:=wrap64 (by omega) (by omega)
 simp only [q0d,w1,this,List.take_length]
 by_cases h:q85 47 s.reverse = -1
 ·simp [h]
 ·simp [h]
theorem qm5 (n:Nat) (s:List UInt8) (hL:s.length<=1000) (hn:2000<=n):qbc n s=some (q3q s):=by
 unfold qbc q3q
 rw [j61 n s hL hn]
 cases ho:okS s with
 | false=>rfl
 | true =>
  obtain ⟨f,e1,_,_⟩:=j5l s (jni ho).1
  have hll:=jdr s
  have hlen:=q6l 47 s []
  rw [e1] at hlen
  have hlen2:f.length+1<=s.length+1:=by simpa using hlen.2
  rw [show (47:Int)=(((47:UInt8).toNat:Nat):Int) from rfl,q8s n s 47 (by omega) (by omega),e1]
  have hl2:(f ++ [q20 s]).length=f.length+1:=by simp
  have w1:IntKind.wrap .i64 ((((f ++ [q20 s]).length:Nat):Int) - 1)=((f.length:Nat):Int):=by rw [hl2,wrap64 (by omega) (by omega)];omega
  have hx:q1a (f ++ [q20 s]) ((f.length:Nat):Int)=some (q20 s):=by
   have:=q0m (l:=f ++ [q20 s]) (j:=f.length) (by rw [hl2];omega)
   rw [this];simp
  simp only [Option.bind_some,Bool.not_true,cond_false,q0d,w1,hx,qn7 n (q20 s) (by omega) (by omega),if_true]
  cases ht:q1f (q20 s) with
  | false=>rfl
  | true =>
   have hf:=((jni ho).2.2 ht).1
   simp only [Bool.not_true,cond_false,ja6 n s (by omega) (by omega),qi0 n (q20 s) (by omega) ht,j28 ht,hf,if_true,Option.bind_some]
theorem j84 (n:Nat) (s:List UInt8) (v:VD) (hL:s.length<=1000) (hn:2000<=n):qo7 n s v=some (j91 s v):=by
 unfold qo7 j91
 rw [qm5 n s hL hn,q3u n v (by omega)]
 simp only [Option.bind_some,j0n]
 cases okS s with
 | false=>rfl
 | true=>cases hc:q0y v with
  | false=>rfl
  | true =>
   have h1:=(q2b hc).1
   simp only [Bool.not_true,cond_false,Bool.true_and]
   by_cases c0:(q3q s).2.1=0
   ·rw [c0]
    by_cases c1:v.1=0
    ·simp [c1]
    ·have:decide (v.1=1)=decide (v.1<2):=decide_eq_decide.2 (by omega)
     simp [c1,this]
   ·by_cases c1:v.1=(q3q s).2.1
    ·simp [c0,c1]
    ·simp [c0,c1]
end Go.Proofs.YtggoebaobojmjaaGreatDoor.AM
