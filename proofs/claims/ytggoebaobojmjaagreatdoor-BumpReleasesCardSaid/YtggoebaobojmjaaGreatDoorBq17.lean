
import Derived.Test.YtggoebaobojmjaaGreatDoorBq12
import Derived.Test.YtggoebaobojmjaaGreatDoorBq13
namespace Go.Proofs.YtggoebaobojmjaaGreatDoor.AM
open Go.RowKit
set_option linter.unusedVariables false
set_option linter.unusedSimpArgs false
theorem qwj (n:Nat) (a b:Int):qda n a b=some (q6d a b):=by
 unfold qda j66 q6d
 simp only [decide_true,Bool.not_true,Option.bind_some,cond_false]
 by_cases h1:a<b
 ·simp [h1]
 ·by_cases h2:b<a
  ·simp [h1,h2]
  ·simp [h1,h2]
def qdd:List Int->Int
 | []=>0
 | x::l=>or2 x (qdd l)
theorem j5u (n:Nat) (l:List Int) (hL:l.length<=1000000) : ∀m j:Nat,j<=l.length->l.length - j<m->qcm n m 0 l ((l.length:Nat):Int) (j:Int)=some (if qdd (l.drop j)=0 then Sum.inr (((0:Int),()),((),())) else Sum.inl ((qdd (l.drop j),()),((),())))
 | 0,j,_,h=>absurd h (Nat.not_lt_zero _)
 | m+1,j,hj,h=>by
  rw [quh]
  unfold j7d
  by_cases c0:j<l.length
  ·have c0':((j:Nat):Int)<((l.length:Nat):Int):=by omega
   have ih:=j5u n l hL m (j+1) (by omega) (by omega)
   have hd:l.drop j=l[j]::l.drop (j+1):=(List.drop_eq_getElem_cons c0)
   simp only [c0',decide_true,cond_true,q0i c0,Option.bind_some,q0f,q03 (show j<4611686018427387904 by omega),ih,hd,qdd,or2]
   by_cases h0:l[j]=0
   ·simp [h0]
   ·simp [h0]
  ·have c0' : ¬ ((j:Nat):Int)<((l.length:Nat):Int):=by omega
   have:l.drop j = []:=List.drop_eq_nil_of_le (by omega)
   simp [c0',this,qdd]
theorem j32 (n:Nat) (l:List Int) (hL:l.length<=1000000) (hn:l.length<n):j07 n l=some (qdd l):=by
 unfold j07
 have:=j5u n l hL n 0 (Nat.zero_le _) (by omega)
 rw [show ((0:Nat):Int)=(0:Int) from rfl] at this
 rw [this,List.drop_zero]
 by_cases h:qdd l=0
 ·simp [h]
 ·simp [h]
theorem jpv (n:Nat) (a b:List UInt8) (ha:a.length<=1000000) (hb:b.length<=1000000) (hn:a.length<n/\b.length<n/\3<=n):j6v n a b=some (jta a b):=by
 unfold j6v jta k4q qm9
 rw [qcw n a ha hn.1,qcw n b hb hn.2.1]
 simp only [Option.bind_some,qwj,qej]
 cases q3h a with
 | false=>cases q3h b with
  | false =>
   simp only [cond_false,Bool.false_eq_true,if_false]
   unfold qld q6d or2
   simp
  | true =>
   simp only [cond_false,cond_true,Bool.false_eq_true,if_false,if_true]
   unfold qld q6d or2
   simp
 | true=>cases q3h b with
  | false =>
   simp only [cond_false,cond_true,Bool.false_eq_true,if_false,if_true]
   unfold qld q6d or2
   simp
  | true =>
   simp only [cond_true,if_true]
   rw [j32 n _ (by simp) (by simp;omega)]
   simp only [Option.bind_some,qdd]
   unfold qld
   have e0:q6d (0:Int) 0=0:=by decide
   dsimp only
   rw [e0]
   unfold or2
   simp only [if_true]
   split
   ·split<;>simp_all
   ·rfl
theorem qti (n:Nat) (l1 l2:List (List UInt8)) (h1:l1.length<=1000000) (h2:l2.length<=1000000) (hw : ∀w,w∈l1\/w∈l2->w.length<=1000000/\w.length<n) (hn:3<=n) : ∀m j:Nat,j<=l1.length->j<=l2.length->l1.length - j<m ->
  ((q7h n m l1 l2 l1 ((l1.length:Nat):Int) (j:Int)).bind fun (o5:((Int×(Unit))×(Unit)×(Unit))⊕(((List (List UInt8))×((List (List UInt8))×(Unit)))×(Unit)×(Unit)))=>Sum.elim (fun (q6:(Int×(Unit))×(Unit)×(Unit))=>some q6.1.1) (fun (q7:((List (List UInt8))×((List (List UInt8))×(Unit)))×(Unit)×(Unit))=>(bif decide (((List.length q7.1.1:Nat):Int)<((List.length q7.1.2.1:Nat):Int)) then some (-1:Int) else some (0:Int))) o5)=some (cmpL jta (l1.drop j) (l2.drop j))
 | 0,j,_,_,h=>absurd h (Nat.not_lt_zero _)
 | m+1,j,hj,hj2,h=>by
  rw [qle]
  unfold qqp
  by_cases c0:j<l1.length
  ·have c0':((j:Nat):Int)<((l1.length:Nat):Int):=by omega
   have hd:l1.drop j=l1[j]::l1.drop (j+1):=(List.drop_eq_getElem_cons c0)
   by_cases c1:j<l2.length
   ·have c1' : ¬ ((l2.length:Nat):Int)<=((j:Nat):Int):=by omega
    have hd2:l2.drop j=l2[j]::l2.drop (j+1):=(List.drop_eq_getElem_cons c1)
    have ih:=qti n l1 l2 h1 h2 hw hn m (j+1) (by omega) (by omega) (by omega)
    have k1:=hw l1[j] (Or.inl (List.getElem_mem c0))
    have k2:=hw l2[j] (Or.inr (List.getElem_mem c1))
    have hp:=jpv n l1[j] l2[j] k1.1 k2.1 ⟨k1.2,k2.2,hn⟩
    rw [hd,hd2,cmpL]
    simp only [c0',decide_true,cond_true,q0i c0,Option.bind_some,c1',decide_false,cond_false,q0i c1,hp,q0f,q03 (show j<4611686018427387904 by omega)]
    unfold or2
    by_cases h0:jta l1[j] l2[j]=0
    ·simp only [h0,decide_true,Bool.not_true,cond_false,if_true]
     exact ih
    ·simp only [h0,decide_false,Bool.not_false,cond_true,if_false,Option.bind_some,Sum.elim_inl]
   ·have c1':((l2.length:Nat):Int)<=((j:Nat):Int):=by omega
    have hd2:l2.drop j = []:=List.drop_eq_nil_of_le (by omega)
    rw [hd,hd2,cmpL]
    simp only [c0',decide_true,cond_true,q0i c0,Option.bind_some,c1',Sum.elim_inl]
  ·have c0' : ¬ ((j:Nat):Int)<((l1.length:Nat):Int):=by omega
   have hd:l1.drop j = []:=List.drop_eq_nil_of_le (by omega)
   simp only [c0',decide_false,cond_false,Option.bind_some,Sum.elim_inr]
   have hje:j=l1.length:=by omega
   rw [hd]
   by_cases c1:j<l2.length
   ·have hd2:l2.drop j=l2[j]::l2.drop (j+1):=(List.drop_eq_getElem_cons c1)
    have c2:((l1.length:Nat):Int)<((l2.length:Nat):Int):=by omega
    rw [hd2]
    simp only [c2,decide_true,cond_true,cmpL]
   ·have hd2:l2.drop j = []:=List.drop_eq_nil_of_le (by omega)
    have c2 : ¬ ((l1.length:Nat):Int)<((l2.length:Nat):Int):=by omega
    rw [hd2]
    simp only [c2,decide_false,cond_false,cmpL]
theorem jb3 (n:Nat) (l1 l2:List (List UInt8)) (h1:l1.length<=1000000) (h2:l2.length<=1000000) (hw : ∀w,w∈l1\/w∈l2->w.length<=1000000/\w.length<n) (hn:3<=n) (hn2:l1.length<n):qy4 n l1 l2 ()=some (cmpL jta l1 l2):=by
 have:=qti n l1 l2 h1 h2 hw hn n 0 (Nat.zero_le _) (Nat.zero_le _) (by omega)
 rw [List.drop_zero,List.drop_zero] at this
 exact this
theorem jug (n:Nat) (a b:List UInt8) (ha:a.length<=100000) (hb:b.length<=100000) (hn:a.length+3<n/\b.length+3<n):jmx n a b=some (qbh a b):=by
 unfold jmx
 by_cases hab:a=b
 ·subst hab
  rw [j55.refl]
  simp
 ·simp only [hab,decide_false,cond_false]
  by_cases h1:a = []
  ·have hb0:b ≠ []:=fun e=>hab (by rw [h1,e])
   simp only [h1,decide_true,cond_true]
   unfold qbh qld jt0 q6d or2
   simp [hb0]
  ·simp only [h1,decide_false,cond_false]
   by_cases h2:b = []
   ·simp only [h2,decide_true,cond_true]
    unfold qbh qld jt0 q6d or2
    simp [h1]
   ·simp only [h2,decide_false,cond_false]
    have s1:qjd a [46]=some (spl 46 [] a):=if_pos (by omega)
    have s2:qjd b [46]=some (spl 46 [] b):=if_pos (by omega)
    have k1:=q89 46 a []
    have k2:=q89 46 b []
    rw [s1,s2]
    simp only [Option.bind_some]
    rw [jb3 n _ _ (by omega) (by omega) (fun w hw=>by
     rcases hw with hw|hw
     ·have:=qca 46 a [] w hw;simp at this;omega
     ·have:=qca 46 b [] w hw;simp at this;omega) (by omega) (by omega)]
    unfold qbh jt0
    simp only [h1,h2,if_false]
    unfold qld
    have e0:q6d (0:Int) 0=0:=by decide
    dsimp only
    rw [e0]
    unfold or2
    simp
theorem qn0 (n:Nat) (a b:VD) (hn:100<=n):q7p n a b=some (qsv a b):=by
 unfold q7p qsv
 rw [q8e n a (by omega),q8e n b (by omega)]
 cases hca:q0y a with
 | false=>rfl
 | true=>cases hcb:q0y b with
  | false=>rfl
  | true =>
   obtain ⟨-,-,-,h4,-⟩:=q2n hca
   obtain ⟨-,-,-,k4,-⟩:=q2n hcb
   have t1:=qux h4
   have t2:=qux k4
   simp only [Option.bind_some,Bool.not_true,cond_false,qwj]
   rw [jug n _ _ (by omega) (by omega) ⟨by omega,by omega⟩]
   simp only [Option.bind_some]
   rw [j32 n _ (by simp) (by simp;omega)]
   simp only [Option.bind_some,qdd,Bool.and_self,if_true]
   have z0 : ∀x:Int,or2 x 0=x:=fun x=>by unfold or2;split<;>simp_all
   rw [z0]
   rfl
theorem jzu {n:Int} (h:0<=n/\n<=999999999):jfq n=true:=by unfold jfq;simp [h.1,h.2]
theorem q6f {a b c:Int} (h1:0<=a/\a<=999999999) (h2:0<=b/\b<=999999999) (h3:0<=c/\c<=999999999):q0y (a,(b,(c,([],[]))))=true:=by
 unfold q0y;simp only [jzu h1,jzu h2,jzu h3,q8s,decide_true,Bool.true_or,Bool.and_self]
theorem jsv (p:List UInt8):qbh [] p=if p = [] then 0 else 1:=by
 by_cases h:p = []
 ·subst h;rw [if_pos rfl];exact j55.refl _
 ·unfold qbh qld jt0 q6d or2;simp [h]
theorem qva (a b c:Int) (v:VD):k8a (a,(b,(c,[]))) (core v)=or2 (q6d a v.1) (or2 (q6d b v.2.1) (or2 (q6d c v.2.2.1) (if v.2.2.2.1 = [] then 0 else 1))):=by
 rw [<-jsv];rfl
theorem js3 (n:Nat) (v:VD) (l:Int) (hn:100<=n):j9p n v l=some (qhr v l):=by
 unfold j9p qhr
 rw [q8e n v (by omega)]
 cases hc:q0y v with
 | false=>simp
 | true =>
  obtain ⟨h1,h2,h3,h4,h5⟩:=q2n hc
  simp only [Option.bind_some,Bool.not_true,cond_false]
  by_cases l1:l<1
  ·have : ¬ (1<=l):=by omega
   simp [l1,this]
  by_cases l3:3<l
  ·have : ¬ (l<=3):=by omega
   simp [l1,l3,this]
  have q1:1<=l:=by omega
  have q3:l<=3:=by omega
  simp only [l1,l3,decide_false,cond_false,qn0 n _ v hn]
  have w1:IntKind.wrap .i64 (v.2.2.1+1)=v.2.2.1+1:=wrap64 (by omega) (by omega)
  have w2:IntKind.wrap .i64 (v.2.1+1)=v.2.1+1:=wrap64 (by omega) (by omega)
  have w3:IntKind.wrap .i64 (v.1+1)=v.1+1:=wrap64 (by omega) (by omega)
  simp only [q0f,w1,w2,w3]
  have i0 : ∀x:Int,q6d x x=0:=fun x=>q9j.refl x
  have z : ∀(x:Int),0<=x->x≠0->q6d 0 x = -1:=fun x hx hne=>by unfold q6d;rw [if_pos (by omega)]
  rcases (show l=1\/l=2\/l=3 by omega) with rfl|rfl|rfl
  ·have hv:qsv (v.1,(v.2.1,(v.2.2.1,([],[])))) v=if v.2.2.2.1 = [] then 0 else 1:=by
    unfold qsv;rw [q6f h1 h2 h3,hc]
    show k8a (v.1,(v.2.1,(v.2.2.1,[]))) (core v)=_
    rw [qva,i0,i0,i0];unfold or2;simp
   simp only [qlq,show ¬ (1:Int)=3 by decide,show ¬ (1:Int)=2 by decide,decide_false,decide_true,cond_false,cond_true,Option.bind_some,hv]
   by_cases hp:v.2.2.2.1 = []
   ·by_cases a1:v.2.2.1<999999999
    ·simp [hp,a1]
    ·by_cases a2:v.2.1<999999999
     ·simp [hp,a1,a2]
     ·by_cases a3:v.1<999999999<;>simp [hp,a1,a2,a3]
   ·simp [hp]
  ·have hv:qsv (v.1,(v.2.1,(0,([],[])))) v=if v.2.2.1=0 then (if v.2.2.2.1 = [] then 0 else 1) else -1:=by
    unfold qsv;rw [q6f h1 h2 (by omega),hc]
    show k8a (v.1,(v.2.1,(0,[]))) (core v)=_
    rw [qva,i0,i0]
    by_cases p0:v.2.2.1=0
    ·rw [p0,i0];unfold or2;simp
    ·rw [z _ h3.1 p0];unfold or2;simp [p0]
   simp only [qlq,show ¬ (2:Int)=3 by decide,show ¬ (2:Int)=1 by decide,decide_false,decide_true,cond_false,cond_true,Option.bind_some,hv]
   by_cases p0:v.2.2.1=0
   ·by_cases hp:v.2.2.2.1 = []
    ·by_cases a2:v.2.1<999999999
     ·simp [hp,p0,a2]
     ·by_cases a3:v.1<999999999<;>simp [hp,p0,a2,a3]
    ·simp [hp,p0]
   ·by_cases a2:v.2.1<999999999
    ·simp [p0,a2]
    ·by_cases a3:v.1<999999999<;>simp [p0,a2,a3]
  ·have hv:qsv (v.1,(0,(0,([],[])))) v=if v.2.1=0 then (if v.2.2.1=0 then (if v.2.2.2.1 = [] then 0 else 1) else -1) else -1:=by
    unfold qsv;rw [q6f h1 (by omega) (by omega),hc]
    show k8a (v.1,(0,(0,[]))) (core v)=_
    rw [qva,i0]
    by_cases m0:v.2.1=0
    ·by_cases p0:v.2.2.1=0
     ·rw [p0,m0,i0];unfold or2;simp
     ·rw [z _ h3.1 p0,m0,i0];unfold or2;simp [p0]
    ·rw [z _ h2.1 m0];unfold or2;simp [m0]
   simp only [qlq,show ¬ (3:Int)=1 by decide,show ¬ (3:Int)=2 by decide,decide_false,decide_true,cond_false,cond_true,Option.bind_some,hv]
   by_cases m0:v.2.1=0
   ·by_cases p0:v.2.2.1=0
    ·by_cases hp:v.2.2.2.1 = []
     ·by_cases a3:v.1<999999999<;>simp [hp,p0,m0,a3]
     ·simp [hp,p0,m0]
    ·by_cases a3:v.1<999999999<;>simp [p0,m0,a3]
   ·by_cases a3:v.1<999999999<;>simp [m0,a3]
end Go.Proofs.YtggoebaobojmjaaGreatDoor.AM
namespace Go.Proofs.YtggoebaobojmjaaGreatDoor.AM
open Go.RowKit
set_option linter.unusedVariables false
set_option linter.unusedSimpArgs false
end Go.Proofs.YtggoebaobojmjaaGreatDoor.AM
namespace Go.Proofs.YtggoebaobojmjaaGreatDoor.AM
open Go.RowKit
set_option linter.unusedVariables false
set_option linter.unusedSimpArgs false
theorem k5o {a b:VD} (ha:q0y a=true) (hb:q0y b=true):qsv a b=k8a (core a) (core b):=by unfold qsv;rw [ha,hb];rfl
theorem j9k {a b c:Int} {v:VD} (h1:0<=a/\a<=999999999) (h2:0<=b/\b<=999999999) (h3:0<=c/\c<=999999999) (hv:q0y v=true) :
  qsv (a,(b,(c,([],[])))) v=or2 (q6d a v.1) (or2 (q6d b v.2.1) (or2 (q6d c v.2.2.1) (if v.2.2.2.1 = [] then 0 else 1))):=by
 rw [k5o (q6f h1 h2 h3) hv]
 exact qva a b c v
theorem qni {a b:Int} : q6d a b=0↔a=b:=by unfold q6d;split<;>(try split)<;>omega
theorem joz {x y:Int} : 0<or2 x y↔(0<x\/(x=0/\0<y)):=by unfold or2;split<;>omega
theorem j91 {a b:Int} : 0<q6d a b↔b<a:=by unfold q6d;split<;>(try split)<;>omega
end Go.Proofs.YtggoebaobojmjaaGreatDoor.AM
namespace Go.Proofs.YtggoebaobojmjaaGreatDoor.AM
open Go.RowKit
set_option linter.unusedVariables false
set_option linter.unusedSimpArgs false
theorem qfj (n:Nat) (s:List UInt8) (c:UInt8) (hs:s.length<=1000000) : ∀(m i fr:Nat) (out:List (List UInt8)),i<=s.length->s.length - i+1<m->fr<=i->out.length<=i ->
  q78 n m s ((c.toNat:Nat):Int) (fr:Int) (i:Int) out=some (((),()),((),(out++spl c ((s.drop fr).take (i - fr)) (s.drop i),())))
 | 0,i,fr,_,_,h,_,_=>absurd h (Nat.not_lt_zero _)
 | m+1,i,fr,out,hi,h,hf,ho=>by
  rw [q9t]
  unfold qgy
  have c0:((i:Nat):Int)<=((s.length:Nat):Int):=by omega
  have w1:=q03 (show i<4611686018427387904 by omega)
  have s1:j2i s ((fr:Nat):Int) ((i:Nat):Int)=some ((s.drop fr).take (i - fr)):=sub_le hf hi
  have a1:ql1 16 out [(s.drop fr).take (i - fr)]=some (out ++ [(s.drop fr).take (i - fr)]):=q3u (by simp;omega)
  by_cases c1:i=s.length
  ·have c1':((i:Nat):Int)=((s.length:Nat):Int):=by omega
   have hd:s.drop i = []:=List.drop_eq_nil_of_le (by omega)
   simp only [c0,c1',decide_true,cond_true]
   rw [<-c1',s1,Option.bind_some,a1,Option.bind_some,hd]
   simp only [q0f,w1]
   cases m with
   | zero=>omega
   | succ m =>
    rw [q9t]
    unfold qgy
    have c2 : ¬ ((i+1:Nat):Int)<=((s.length:Nat):Int):=by omega
    simp only [c2,Int.le_refl,decide_true,decide_false,cond_true,cond_false]
    rfl
  ·have c1' : ¬ ((i:Nat):Int)=((s.length:Nat):Int):=by omega
   have hi':i<s.length:=by omega
   have hd:s.drop i=s[i]::s.drop (i+1):=List.drop_eq_getElem_cons hi'
   simp only [c0,c1',decide_true,decide_false,cond_true,cond_false,q8j hi',Option.bind_some,q0f,w1,s1,a1]
   have hc:decide (((s[i].toNat:Nat):Int)=((c.toNat:Nat):Int))=decide (s[i]=c):=by
    apply decide_eq_decide.2
    constructor
    ·intro hh;exact UInt8.toNat_inj.1 (by omega)
    ·intro hh;rw [hh]
   rw [hc,hd,spl]
   by_cases c2:s[i]=c
   ·simp only [c2,decide_true,cond_true,if_true]
    rw [qfj n s c hs m (i+1) (i+1) (out ++ [(s.drop fr).take (i - fr)]) (by omega) (by omega) (Nat.le_refl _) (by simp;omega)]
    simp
   ·simp only [c2,decide_false,cond_false,if_false]
    rw [qfj n s c hs m (i+1) fr out (by omega) (by omega) (by omega) (by omega)]
    have e1:(s.drop fr).take (i+1 - fr)=(s.drop fr).take (i - fr) ++ [s[i]]:=by
     rw [show i+1 - fr=(i - fr)+1 from by omega,List.take_add_one,List.getElem?_drop,show fr+(i - fr)=i from by omega,List.getElem?_eq_getElem hi']
     rfl
    rw [e1]
theorem qbi (n:Nat) (s:List UInt8) (c:UInt8) (hs:s.length<=1000000) (hn:s.length+1<n):q24 n s ((c.toNat:Nat):Int)=some (spl c [] s):=by
 unfold q24
 have h:=qfj n s c hs n 0 0 [] (Nat.zero_le _) (by omega) (Nat.le_refl _) (Nat.zero_le _)
 rw [show ((0:Nat):Int)=(0:Int) from rfl] at h
 rw [h]
 simp
theorem qt7 (n:Nat) (s:List UInt8) (hL:s.length<=1000000) : ∀m j:Nat,j<=s.length->s.length - j<m->q7l n m s (j:Int)=some (if (s.drop j).all q1v=true then Sum.inr ((s,()),((),())) else Sum.inl ((false,()),((),())))
 | 0,j,_,h=>absurd h (Nat.not_lt_zero _)
 | m+1,j,hj,h=>by
  rw [qll]
  unfold qpb
  by_cases c0:j<s.length
  ·have c0':((j:Nat):Int)<((s.length:Nat):Int):=by omega
   have ih:=qt7 n s hL m (j+1) (by omega) (by omega)
   have hd:s.drop j=s[j]::s.drop (j+1):=(List.drop_eq_getElem_cons c0)
   simp only [c0',decide_true,cond_true,q8j c0,Option.bind_some,q0f,q03 (show j<4611686018427387904 by omega),ih,hd,List.all_cons]
   unfold q1v
   by_cases h1:s[j].toNat<48
   ·have e1:((s[j].toNat:Nat):Int)<48:=by omega
    have e2 : ¬ 48<=s[j].toNat:=by omega
    simp [e1,e2]
   ·have e1 : ¬ ((s[j].toNat:Nat):Int)<48:=by omega
    have e2:48<=s[j].toNat:=by omega
    by_cases h2:57<s[j].toNat
    ·have e3:(57:Int)<((s[j].toNat:Nat):Int):=by omega
     have e4 : ¬ s[j].toNat<=57:=by omega
     simp [e1,e2,e3,e4]
    ·have e3 : ¬ (57:Int)<((s[j].toNat:Nat):Int):=by omega
     have e4:s[j].toNat<=57:=by omega
     simp [e1,e2,e3,e4]
  ·have c0' : ¬ ((j:Nat):Int)<((s.length:Nat):Int):=by omega
   have:s.drop j = []:=List.drop_eq_nil_of_le (by omega)
   simp [c0',this]
theorem qfz (n:Nat) (s:List UInt8) (hL:s.length<=1000000) (hn:s.length<n):qbq n s=some (q3h s):=by
 unfold qbq q3h
 have:=qt7 n s hL n 0 (Nat.zero_le _) (by omega)
 rw [show ((0:Nat):Int)=(0:Int) from rfl] at this
 rw [this,List.drop_zero]
 cases s.all q1v<;>rfl
theorem jmi (c:UInt8):jsf c=((decide ((97:Int)<=((c.toNat:Nat):Int))&&decide (((c.toNat:Nat):Int)<=(122:Int)))||(decide ((65:Int)<=((c.toNat:Nat):Int))&&decide (((c.toNat:Nat):Int)<=(90:Int)))||(decide ((48:Int)<=((c.toNat:Nat):Int))&&decide (((c.toNat:Nat):Int)<=(57:Int)))||decide (((c.toNat:Nat):Int)=(45:Int))):=by
 unfold jsf q1v
 have h1:decide ((97:Int)<=((c.toNat:Nat):Int))=decide (97<=c.toNat):=decide_eq_decide.2 (by omega)
 have h2:decide (((c.toNat:Nat):Int)<=(122:Int))=decide (c.toNat<=122):=decide_eq_decide.2 (by omega)
 have h3:decide ((65:Int)<=((c.toNat:Nat):Int))=decide (65<=c.toNat):=decide_eq_decide.2 (by omega)
 have h4:decide (((c.toNat:Nat):Int)<=(90:Int))=decide (c.toNat<=90):=decide_eq_decide.2 (by omega)
 have h5:decide (((c.toNat:Nat):Int)=(45:Int))=decide (c.toNat=45):=decide_eq_decide.2 (by omega)
 have h6:decide ((48:Int)<=((c.toNat:Nat):Int))=decide (48<=c.toNat):=decide_eq_decide.2 (by omega)
 have h7:decide (((c.toNat:Nat):Int)<=(57:Int))=decide (c.toNat<=57):=decide_eq_decide.2 (by omega)
 rw [h1,h2,h3,h4,h5,h6,h7]
theorem qik (n:Nat) (z:Bool) (l:List (List UInt8)) (i:Nat) (hi:i<l.length) (w:List UInt8) (hw:l[i]=w) (hL:w.length<=1000000) : ∀m j:Nat,j<=w.length->w.length - j<m->q7e n m z l (i:Int) (j:Int)=some (if (w.drop j).all jsf=true then Sum.inr ((z,(l,((i:Int),()))),((),())) else Sum.inl ((false,()),((),())))
 | 0,j,_,h=>absurd h (Nat.not_lt_zero _)
 | m+1,j,hj,h=>by
  rw [qlu]
  unfold qr2
  have e0:q0s l ((i:Nat):Int)=some w:=by rw [q0i hi,hw]
  by_cases c0:j<w.length
  ·have c0':((j:Nat):Int)<((w.length:Nat):Int):=by omega
   have ih:=qik n z l i hi w hw hL m (j+1) (by omega) (by omega)
   have hd:w.drop j=w[j]::w.drop (j+1):=(List.drop_eq_getElem_cons c0)
   simp only [e0,Option.bind_some,c0',decide_true,cond_true,q8j c0,q0f,q03 (show j<4611686018427387904 by omega),ih,hd,List.all_cons,jmi]
   cases decide ((97:Int)<=((w[j].toNat:Nat):Int))<;>cases decide (((w[j].toNat:Nat):Int)<=(122:Int))<;>cases decide ((65:Int)<=((w[j].toNat:Nat):Int))<;>cases decide (((w[j].toNat:Nat):Int)<=(90:Int))<;>cases decide ((48:Int)<=((w[j].toNat:Nat):Int))<;>cases decide (((w[j].toNat:Nat):Int)<=(57:Int))<;>cases decide (((w[j].toNat:Nat):Int)=(45:Int))<;>rfl
  ·have c0' : ¬ ((j:Nat):Int)<((w.length:Nat):Int):=by omega
   have:w.drop j = []:=List.drop_eq_nil_of_le (by omega)
   simp only [e0,Option.bind_some,c0',decide_false,cond_false,this,List.all_nil,if_true]
def qap (z:Bool) (w:List UInt8):Bool:=q2l w&&(z || !(q3h w&&(decide (1<w.length)&&decide (w.head? = some 48))))
theorem jbn (w:List UInt8):qap true w=q2l w:=by unfold qap;simp
theorem j7g (w:List UInt8):qap false w=q6q w:=by
 unfold qap q6q
 cases w with
 | nil=>simp [q2l]
 | cons c r =>
  cases hn:q3h (c::r) with
  | false=>simp
  | true =>
   by_cases hc:c=48
   ·subst hc
    cases r with
    | nil=>simp
    | cons d r=>simp
   ·simp [hc]
theorem qnp (n:Nat) (z:Bool) (l:List (List UInt8)) (hl:l.length<=1000000) (hw : ∀w∈l,w.length<=1000000/\w.length<n) : ∀m i:Nat,i<=l.length->l.length - i<m->q6w n m z l (i:Int)=some (if (l.drop i).all (qap z)=true then Sum.inr ((),((),())) else Sum.inl ((false,()),((),())))
 | 0,j,_,h=>absurd h (Nat.not_lt_zero _)
 | m+1,i,hi,h=>by
  rw [qme]
  unfold qox
  by_cases c0:i<l.length
  ·have c0':((i:Nat):Int)<((l.length:Nat):Int):=by omega
   have ih:=qnp n z l hl hw m (i+1) (by omega) (by omega)
   have hd:l.drop i=l[i]::l.drop (i+1):=(List.drop_eq_getElem_cons c0)
   have hww:=hw l[i] (List.getElem_mem c0)
   have h1:=qik n z l i c0 l[i] rfl hww.1 n 0 (Nat.zero_le _) (by omega)
   rw [show ((0:Nat):Int)=(0:Int) from rfl,List.drop_zero] at h1
   rw [hd,List.all_cons]
   simp only [c0',decide_true,cond_true,h1,Option.bind_some]
   rw [show qap z l[i]=((l[i].all jsf && !decide (l[i] = []))&&(z || !(q3h l[i]&&(decide (1<l[i].length)&&decide (l[i].head? = some 48))))) from rfl]
   cases hs:l[i].all jsf with
   | false=>simp
   | true =>
    simp only [if_true,Sum.elim_inr,q0i c0,Option.bind_some,qfz n _ hww.1 hww.2,q0f,q03 (show i<4611686018427387904 by omega),ih]
    generalize hx:l[i]=x at hs hww
    cases x with
    | nil=>simp
    | cons c r =>
     have h0:sAt (c::r) (0:Int)=some ((c.toNat:Nat):Int):=q8j (s:=c::r) (j:=0) (by simp)
     have h2:decide (((c.toNat:Nat):Int)=(48:Int))=decide ((c::r).head? = some 48):=decide_eq_decide.2 (by
      simp only [List.head?_cons,Option.some.injEq]
      constructor
      ·intro h;exact UInt8.toNat_inj.1 (by have e48:(48:UInt8).toNat=48:=rfl;rw [e48];omega)
      ·rintro rfl;rfl)
     have h3:decide ((1:Int)<(((c::r).length:Nat):Int))=decide (1<(c::r).length):=decide_eq_decide.2 (by omega)
     have e0:decide (c::r=([]:List UInt8))=false:=by simp
     simp only [h0,h2,h3,e0,Option.bind_some,cond_false]
     cases z<;>cases q3h (c::r)<;>cases decide (1<(c::r).length)<;>cases decide ((c::r).head? = some 48)<;>simp
  ·have c0' : ¬ ((i:Nat):Int)<((l.length:Nat):Int):=by omega
   have:l.drop i = []:=List.drop_eq_nil_of_le (by omega)
   simp only [c0',decide_false,cond_false,this,List.all_nil,if_true]
theorem qts (n:Nat) (s:List UInt8) (z:Bool) (hs:s.length<=100000) (hn:s.length+2<n):qb8 n s z=some ((spl 46 [] s).all (qap z)):=by
 unfold qb8
 have e1:q24 n s (46:Int)=some (spl 46 [] s):=qbi n s 46 (by omega) (by omega)
 rw [e1]
 have k:=q89 46 s []
 have h:=qnp n z (spl 46 [] s) (by omega) (fun w hw=>by have:=qca 46 s [] w hw;simp at this;omega) n 0 (Nat.zero_le _) (by omega)
 rw [show ((0:Nat):Int)=(0:Int) from rfl,List.drop_zero] at h
 simp only [Option.bind_some,h]
 cases (spl 46 [] s).all (qap z)<;>rfl
theorem jtb (n:Nat) (a:Int):j5i n a=some (jfq a):=by
 unfold j5i jfq
 cases decide ((0:Int)<=a)<;>rfl
theorem q4s (n:Nat) (v:VD) (hn:100<=n):q2y n v=some (q0y v):=by
 unfold q2y q0y
 simp only [jtb,Option.bind_some]
 cases jfq v.1 with
 | false=>rfl
 | true=>cases jfq v.2.1 with
  | false=>rfl
  | true=>cases jfq v.2.2.1 with
   | false=>rfl
   | true =>
    simp only [Bool.not_true,cond_false,Bool.true_and]
    unfold q8s
    have f1:(qap true)=q2l:=funext jbn
    have f2:(qap false)=q6q:=funext j7g
    by_cases c1:(30:Int)<((v.2.2.2.1.length:Nat):Int)
    ·have e1:v.2.2.2.1 ≠ []:=fun e=>by rw [e] at c1;simp at c1
     have e2 : ¬ v.2.2.2.1.length<=30:=by omega
     simp [c1,e1,e2]
    ·by_cases c2:(30:Int)<((v.2.2.2.2.length:Nat):Int)
     ·have e1:v.2.2.2.2 ≠ []:=fun e=>by rw [e] at c2;simp at c2
      have e2 : ¬ v.2.2.2.2.length<=30:=by omega
      simp [c1,c2,e1,e2]
     ·have l1:v.2.2.2.1.length<=30:=by omega
      have l2:v.2.2.2.2.length<=30:=by omega
      have r1:=qts n v.2.2.2.1 false (by omega) (by omega)
      have r2:=qts n v.2.2.2.2 true (by omega) (by omega)
      rw [f2] at r1
      rw [f1] at r2
      simp only [c1,c2,decide_false,cond_false,r1,r2,l1,l2,decide_true,Bool.true_and,Option.bind_some]
      by_cases p:v.2.2.2.1 = []
      ·by_cases q:v.2.2.2.2 = []<;>simp [p,q]
      ·by_cases q:v.2.2.2.2 = []
       ·simp only [p,q,decide_false,decide_true,cond_false,cond_true,Bool.false_or,Bool.true_or,Bool.and_true]
        cases (spl 46 [] v.2.2.2.1).all q6q<;>rfl
       ·simp only [p,q,decide_false,decide_true,cond_false,cond_true,Bool.false_or]
        cases (spl 46 [] v.2.2.2.1).all q6q<;>rfl
end Go.Proofs.YtggoebaobojmjaaGreatDoor.AM
namespace Go.Proofs.YtggoebaobojmjaaGreatDoor.AM
open Go.RowKit
set_option linter.unusedVariables false
set_option linter.unusedSimpArgs false
theorem q3r (n:Nat) (a b:Int):q4k n a b=some (q6d a b):=by
 unfold q4k q6d
 by_cases h1:a<b
 ·simp [h1]
 ·by_cases h2:b<a
  ·simp [h1,h2]
  ·simp [h1,h2]
theorem k91 (a b:List UInt8):(bif ltS a b then some (-1:Int) else (bif !(ltS a b||decide (a=b)) then some (1:Int) else some (0:Int)))=some (cmpL jvm a b):=by
 unfold ltS
 rw [qmk]
 have hr:=(qnw qvp).rng a b
 have hz:cmpL jvm a b=0↔a=b:=(qnw qvp).zero
 by_cases h1:cmpL jvm a b<0
 ·have:cmpL jvm a b = -1:=by omega
  simp [h1,this]
 ·by_cases h2:a=b
  ·have:=hz.2 h2
   simp [h1,h2,(qnw qvp).refl b]
  ·have:cmpL jvm a b=1:=by
    have : ¬ cmpL jvm a b=0:=fun e=>h2 (hz.1 e)
    omega
   simp [h2,this]
theorem jk7 (n:Nat) (a b:List UInt8) (ha:a.length<=1000000) (hb:b.length<=1000000) (hn:a.length<n/\b.length<n):qn5 n a b=some (jta a b):=by
 unfold qn5 jta k4q
 rw [qfz n a ha hn.1,qfz n b hb hn.2]
 simp only [Option.bind_some,k91,q3r]
 cases q3h a with
 | false=>cases q3h b with
  | false =>
   simp only [cond_false,Bool.false_eq_true,if_false]
   unfold qld q6d or2
   simp
  | true =>
   simp only [cond_false,cond_true,Bool.not_false,Bool.false_eq_true,if_false,if_true]
   unfold qld q6d or2
   simp
 | true=>cases q3h b with
  | false =>
   simp only [cond_false,cond_true,Bool.not_false,Bool.false_eq_true,if_false,if_true]
   unfold qld q6d or2
   simp
  | true =>
   simp only [cond_true,cond_false,Bool.not_true,if_true]
   unfold qld
   have e0:q6d (0:Int) 0=0:=by decide
   dsimp only
   rw [e0]
   unfold or2
   simp only [if_true]
   by_cases hl:((a.length:Nat):Int)=((b.length:Nat):Int)
   ·have:q6d ((a.length:Nat):Int) ((b.length:Nat):Int)=0:=by rw [hl];exact q9j.refl _
    simp only [hl,decide_true,Bool.not_true,cond_false]
    rw [hl] at this
    rw [this];rfl
   ·have : ¬ q6d ((a.length:Nat):Int) ((b.length:Nat):Int)=0:=fun e=>hl (q9j.eq _ _ e)
    simp only [hl,decide_false,Bool.not_false,cond_true,this,if_false]
theorem j58 (n:Nat) (l1 l2:List (List UInt8)) (h1:l1.length<=1000000) (h2:l2.length<=1000000) (hw : ∀w,w∈l1\/w∈l2->w.length<=1000000/\w.length<n) : ∀m j:Nat,j<=l1.length->j<=l2.length->l1.length - j<m ->
  ((qhn n m l1 l2 (j:Int)).bind fun (o16:((Int×(Unit))×(Unit)×(Unit))⊕(((List (List UInt8))×((List (List UInt8))×(Unit)))×(Unit)×(Unit)))=>Sum.elim (fun (q17:(Int×(Unit))×(Unit)×(Unit))=>some q17.1.1) (fun (q18:((List (List UInt8))×((List (List UInt8))×(Unit)))×(Unit)×(Unit))=>(q4k n ((List.length q18.1.1:Nat):Int) ((List.length q18.1.2.1:Nat):Int)).bind fun (r19:Int)=>some r19) o16)=some (cmpL jta (l1.drop j) (l2.drop j))
 | 0,j,_,_,h=>absurd h (Nat.not_lt_zero _)
 | m+1,j,hj,hj2,h=>by
  rw [qw3]
  unfold jk3
  by_cases c0:j<l1.length
  ·have c0':((j:Nat):Int)<((l1.length:Nat):Int):=by omega
   have hd:l1.drop j=l1[j]::l1.drop (j+1):=(List.drop_eq_getElem_cons c0)
   by_cases c1:j<l2.length
   ·have c1':((j:Nat):Int)<((l2.length:Nat):Int):=by omega
    have hd2:l2.drop j=l2[j]::l2.drop (j+1):=(List.drop_eq_getElem_cons c1)
    have ih:=j58 n l1 l2 h1 h2 hw m (j+1) (by omega) (by omega) (by omega)
    have k1:=hw l1[j] (Or.inl (List.getElem_mem c0))
    have k2:=hw l2[j] (Or.inr (List.getElem_mem c1))
    have hp:=jk7 n l1[j] l2[j] k1.1 k2.1 ⟨k1.2,k2.2⟩
    rw [hd,hd2,cmpL]
    simp only [c0',decide_true,cond_true,q0i c0,Option.bind_some,c1',q0i c1,hp,q0f,q03 (show j<4611686018427387904 by omega)]
    unfold or2
    by_cases h0:jta l1[j] l2[j]=0
    ·simp only [h0,decide_true,Bool.not_true,cond_false,if_true]
     exact ih
    ·simp only [h0,decide_false,Bool.not_false,cond_true,if_false,Option.bind_some,Sum.elim_inl]
   ·have c1' : ¬ ((j:Nat):Int)<((l2.length:Nat):Int):=by omega
    have hd2:l2.drop j = []:=List.drop_eq_nil_of_le (by omega)
    have c3:q6d ((l1.length:Nat):Int) ((l2.length:Nat):Int)=1:=by unfold q6d;rw [if_neg (by omega),if_pos (by omega)]
    rw [hd,hd2,cmpL]
    simp only [c0',decide_true,cond_true,c1',decide_false,cond_false,Option.bind_some,Sum.elim_inr,q3r,c3]
  ·have c0' : ¬ ((j:Nat):Int)<((l1.length:Nat):Int):=by omega
   have hd:l1.drop j = []:=List.drop_eq_nil_of_le (by omega)
   simp only [c0',decide_false,cond_false,Option.bind_some,Sum.elim_inr,q3r]
   rw [hd]
   by_cases c1:j<l2.length
   ·have hd2:l2.drop j=l2[j]::l2.drop (j+1):=(List.drop_eq_getElem_cons c1)
    have c3:q6d ((l1.length:Nat):Int) ((l2.length:Nat):Int) = -1:=by unfold q6d;rw [if_pos (by omega)]
    rw [hd2,c3]
    rfl
   ·have hd2:l2.drop j = []:=List.drop_eq_nil_of_le (by omega)
    have c3:q6d ((l1.length:Nat):Int) ((l2.length:Nat):Int)=0:=by unfold q6d;rw [if_neg (by omega),if_neg (by omega)]
    rw [hd2,c3]
    rfl
theorem jtw (n:Nat) (a b:List UInt8) (ha:a.length<=100000) (hb:b.length<=100000) (hn:a.length+3<n/\b.length+3<n):jlp n a b=some (qbh a b):=by
 unfold jlp j5b
 by_cases h1:a = []
 ·by_cases h2:b = []
  ·simp only [h1,h2,decide_true,cond_true,Option.bind_some,q3r]
   rfl
  ·simp only [h1,h2,decide_true,decide_false,cond_true,cond_false,Option.bind_some,q3r]
   unfold qbh qld jt0 q6d or2
   simp [h2]
 ·by_cases h2:b = []
  ·simp only [h1,h2,decide_true,decide_false,cond_true,cond_false,Option.bind_some,q3r]
   unfold qbh qld jt0 q6d or2
   simp [h1]
  ·simp only [h1,h2,decide_false,cond_false]
   have s1:q24 n a (46:Int)=some (spl 46 [] a):=qbi n a 46 (by omega) (by omega)
   have s2:q24 n b (46:Int)=some (spl 46 [] b):=qbi n b 46 (by omega) (by omega)
   have k1:=q89 46 a []
   have k2:=q89 46 b []
   rw [s1,s2]
   simp only [Option.bind_some]
   have h:=j58 n (spl 46 [] a) (spl 46 [] b) (by omega) (by omega) (fun w hw=>by
     rcases hw with hw|hw
     ·have:=qca 46 a [] w hw;simp at this;omega
     ·have:=qca 46 b [] w hw;simp at this;omega) n 0 (Nat.zero_le _) (Nat.zero_le _) (by omega)
   rw [show ((0:Nat):Int)=(0:Int) from rfl,List.drop_zero,List.drop_zero] at h
   rw [h]
   unfold qbh jt0
   simp only [h1,h2,if_false]
   unfold qld
   have e0:q6d (0:Int) 0=0:=by decide
   dsimp only
   rw [e0]
   unfold or2
   simp
theorem qlr (n:Nat) (a b:VD) (hn:100<=n):q2b n a b=some (qsv a b):=by
 unfold q2b qsv
 rw [q4s n a hn,q4s n b hn]
 cases hca:q0y a with
 | false=>rfl
 | true=>cases hcb:q0y b with
  | false=>rfl
  | true =>
   obtain ⟨-,-,-,h4,-⟩:=q2n hca
   obtain ⟨-,-,-,k4,-⟩:=q2n hcb
   have t1:=qux h4
   have t2:=qux k4
   simp only [Option.bind_some,Bool.not_true,cond_false,q3r]
   rw [jtw n _ _ (by omega) (by omega) ⟨by omega,by omega⟩]
   simp only [Option.bind_some,Bool.and_self,if_true]
   show _=some (or2 (q6d a.1 b.1) (or2 (q6d a.2.1 b.2.1) (or2 (q6d a.2.2.1 b.2.2.1) (qbh a.2.2.2.1 b.2.2.2.1))))
   have z : ∀x y:Int,q6d x y=0↔x=y:=fun x y=>q9j.zero
   unfold or2
   simp only [z]
   by_cases e1:a.1=b.1
   ·by_cases e2:a.2.1=b.2.1
    ·by_cases e3:a.2.2.1=b.2.2.1<;>simp [e1,e2,e3]
    ·simp [e1,e2]
   ·simp [e1]
end Go.Proofs.YtggoebaobojmjaaGreatDoor.AM
namespace Go.Proofs.YtggoebaobojmjaaGreatDoor.AM
open Go.RowKit
set_option linter.unusedVariables false
set_option linter.unusedSimpArgs false
theorem qhc (n m:Nat) (l i i':Int) (v x:VD) (z1 z2 z3:Int) (z4 z5:List UInt8) (L:List VD) (hn:100<=n) (hi:i<((L.length:Nat):Int)) (hx:q0s L i=some x) (hx':nth L (Int.toNat i)=some x) (hw:IntKind.wrap .i64 (i+1)=i') :
  q4v n (m+1) l i v.1 v.2.1 v.2.2.1 v.2.2.2.1 v.2.2.2.2 z1 z2 z3 z4 z5 L=if (2<=l/\x.2.2.1≠0)\/(l=3/\x.2.1≠0)\/q0y x=false \/ ¬ 0<qsv x v then q4v n m l i' v.1 v.2.1 v.2.2.1 v.2.2.2.1 v.2.2.2.2 z1 z2 z3 z4 z5 L else some (Sum.inl (((),((0:Int),())),((x,()),()))):=by
 rw [qe5]
 unfold quw
 have hcmp:q2b n x (v.1,(v.2.1,(v.2.2.1,(v.2.2.2.1,v.2.2.2.2))))=some (qsv x v):=qlr n x v hn
 simp only [hi,decide_true,cond_true,hx,hx',Option.bind_some,q4s n x hn,hcmp,q0f,hw]
 by_cases a1:2<=l
 ·by_cases a2:x.2.2.1=0
  ·by_cases a3:l=3
   ·by_cases a4:x.2.1=0
    ·cases hc:q0y x with
     | false=>simp [a1,a2,a3,a4]
     | true=>by_cases a5:0<qsv x v<;>simp [a1,a2,a3,a4,a5]
    ·simp [a1,a2,a3,a4]
   ·cases hc:q0y x with
    | false=>simp [a1,a2,a3]
    | true=>by_cases a5:0<qsv x v<;>simp [a1,a2,a3,a5]
  ·simp [a1,a2]
 ·have a3 : ¬ l=3:=by omega
  cases hc:q0y x with
  | false=>simp [a1,a3]
  | true=>by_cases a5:0<qsv x v<;>simp [a1,a3,a5]
theorem jwj (n m:Nat) (l i:Int) (v:VD) (z1 z2 z3:Int) (z4 z5:List UInt8) (L:List VD) (hi : ¬ i<((L.length:Nat):Int)) :
  q4v n (m+1) l i v.1 v.2.1 v.2.2.1 v.2.2.2.1 v.2.2.2.2 z1 z2 z3 z4 z5 L=some (Sum.inr ((((),()),(((z1,(z2,(z3,(z4,z5)))),()),())))):=by
 rw [qe5]
 unfold quw
 simp only [hi,decide_false,cond_false]
theorem qwt {a b c:Int} (h : ¬ (0<=a/\a<=999999999) \/ ¬ (0<=b/\b<=999999999) \/ ¬ (0<=c/\c<=999999999)):q0y (a,(b,(c,([],[]))))=false:=by
 cases hc:q0y (a,(b,(c,([],[])))) with
 | false=>rfl
 | true =>
  obtain ⟨h1,h2,h3,-,-⟩:=q2n hc
  exact (h.elim (fun k=>k h1) fun k=>k.elim (fun k=>k h2) fun k=>k h3).elim
theorem jrw (n:Nat) (v:VD) (l:Int) (hn:100<=n):qvz n v l=some (qhr v l):=by
 unfold qvz
 rw [q4s n v hn]
 cases hc:q0y v with
 | false=>unfold qhr;simp [hc]
 | true =>
  obtain ⟨h1,h2,h3,h4,h5⟩:=q2n hc
  simp only [Option.bind_some,Bool.not_true,cond_false]
  by_cases l1:l<1
  ·have : ¬ (1<=l):=by omega
   unfold qhr;simp [l1,this]
  by_cases l3:3<l
  ·have : ¬ (l<=3):=by omega
   unfold qhr;simp [l1,l3,this]
  have q1:1<=l:=by omega
  have q3:l<=3:=by omega
  have w1:IntKind.wrap .i64 (v.2.2.1+1)=v.2.2.1+1:=wrap64 (by omega) (by omega)
  have w2:IntKind.wrap .i64 (v.2.1+1)=v.2.1+1:=wrap64 (by omega) (by omega)
  have w3:IntKind.wrap .i64 (v.1+1)=v.1+1:=wrap64 (by omega) (by omega)
  simp only [l1,l3,decide_false,cond_false,q0f,w1,w2,w3]
  obtain ⟨k,rfl⟩ : ∃ k,n=k+1+1+1+1+1:=⟨n - 5,by omega⟩
  rw [qhc _ _ l 0 1 v (v.1,(v.2.1,(v.2.2.1,([],[])))) _ _ _ _ _ _ hn (by simp) rfl rfl (by rfl),
   qhc _ _ l 1 2 v (v.1,(v.2.1,(v.2.2.1+1,([],[])))) _ _ _ _ _ _ hn (by simp) rfl rfl (by rfl),
   qhc _ _ l 2 3 v (v.1,(v.2.1+1,(0,([],[])))) _ _ _ _ _ _ hn (by simp) rfl rfl (by rfl),
   qhc _ _ l 3 4 v (v.1+1,(0,(0,([],[])))) _ _ _ _ _ _ hn (by simp) rfl rfl (by rfl),
   jwj _ _ l 4 v _ _ _ _ _ _ (by simp)]
  have K0:((2<=l/\v.2.2.1≠0)\/(l=3/\v.2.1≠0)\/q0y (v.1,(v.2.1,(v.2.2.1,([],[]))))=false \/ ¬ 0<qsv (v.1,(v.2.1,(v.2.2.1,([],[])))) v) ↔ ¬ (v.2.2.2.1 ≠ []/\(2<=l->v.2.2.1=0)/\(l=3->v.2.1=0)):=by
   rw [j9k h1 h2 h3 hc,q6f h1 h2 h3]
   simp only [joz,j91,qni]
   by_cases hp:v.2.2.2.1 = []
   ·simp [hp]
   ·simp [hp];omega
  have K1:((2<=l/\v.2.2.1+1≠0)\/(l=3/\v.2.1≠0)\/q0y (v.1,(v.2.1,(v.2.2.1+1,([],[]))))=false \/ ¬ 0<qsv (v.1,(v.2.1,(v.2.2.1+1,([],[])))) v) ↔ ¬ (l=1/\v.2.2.1<999999999):=by
   by_cases hb:v.2.2.1<999999999
   ·rw [j9k h1 h2 (by omega) hc,q6f h1 h2 (by omega)]
    simp only [joz,j91,qni,Bool.true_eq_false,false_or,true_and]
    omega
   ·rw [qwt (by omega)]
    simp only [true_or,or_true,true_iff]
    omega
  have K2:((2<=l/\(0:Int)≠0)\/(l=3/\v.2.1+1≠0)\/q0y (v.1,(v.2.1+1,(0,([],[]))))=false \/ ¬ 0<qsv (v.1,(v.2.1+1,(0,([],[])))) v) ↔ ¬ (l<=2/\v.2.1<999999999):=by
   by_cases hb:v.2.1<999999999
   ·rw [j9k h1 (by omega) (by omega) hc,q6f h1 (by omega) (by omega)]
    simp only [joz,j91,qni,Bool.true_eq_false,false_or,true_and]
    omega
   ·rw [qwt (by omega)]
    simp only [true_or,or_true,true_iff]
    omega
  have K3:((2<=l/\(0:Int)≠0)\/(l=3/\(0:Int)≠0)\/q0y (v.1+1,(0,(0,([],[]))))=false \/ ¬ 0<qsv (v.1+1,(0,(0,([],[])))) v) ↔ ¬ (v.1<999999999):=by
   by_cases hb:v.1<999999999
   ·rw [j9k (by omega) (by omega) (by omega) hc,q6f (by omega) (by omega) (by omega)]
    simp only [joz,j91,qni,Bool.true_eq_false,false_or,true_and]
    omega
   ·rw [qwt (by omega)]
    simp only [true_or,or_true,true_iff]
    omega
  simp only [K0,K1,K2,K3,ite_not]
  unfold qhr
  rw [if_pos (show q0y v=true/\1<=l/\l<=3 from ⟨hc,q1,q3⟩)]
  clear K0 K1 K2 K3
  by_cases A:v.2.2.2.1 ≠ []/\(2<=l->v.2.2.1=0)/\(l=3->v.2.1=0)
  ·rw [if_pos A,if_pos A];rfl
  ·rw [if_neg A,if_neg A]
   by_cases B:l=1/\v.2.2.1<999999999
   ·rw [if_pos B,if_pos B];rfl
   ·rw [if_neg B,if_neg B]
    by_cases C:l<=2/\v.2.1<999999999
    ·rw [if_pos C,if_pos C];rfl
    ·rw [if_neg C,if_neg C]
     by_cases D:v.1<999999999
     ·rw [if_pos D,if_pos D];rfl
     ·rw [if_neg D,if_neg D];rfl
end Go.Proofs.YtggoebaobojmjaaGreatDoor.AM
namespace Go.Proofs.YtggoebaobojmjaaGreatDoor.AM
open Go.RowKit
set_option linter.unusedVariables false
set_option linter.unusedSimpArgs false
theorem jrd (n:Nat) (s:List UInt8) (hL:s.length<=1000000) (hn:s.length<n):j72 n s=some (q2f s):=by
 unfold j72 q2f
 have hg:=jl5 47 s
 obtain ⟨k,hk⟩ : ∃ k:Nat,qbr 47 s+1=(k:Int):=⟨(qbr 47 s+1).toNat,by omega⟩
 rw [j2u n s hL hn]
 simp only [Option.bind_some,q0f]
 rw [hk,wrap64 (by omega) (by omega),sub_le (by omega) (Nat.le_refl _)]
 simp only [Option.bind_some,Int.toNat_natCast]
 rw [List.take_of_length_le (by rw [List.length_drop];exact Nat.le_refl _)]
theorem k2i (s:List UInt8):(q2j s).length<=s.length:=by unfold q2j;rw [List.length_take];omega
theorem jlc (s:List UInt8):(q2f s).length<=s.length:=by unfold q2f;rw [List.length_drop];omega
theorem jga {s:List UInt8} (h:q1g s=true):q4m s=s.drop 1:=by
 unfold q1g at h
 simp only [Bool.and_eq_true,decide_eq_true_eq] at h
 unfold q4m;rw [if_pos h.1]
theorem qiu (n:Nat) (s:List UInt8) (hL:s.length<=1000000) (hn:s.length<n):qhf n s=some (q4o s):=by
 have hb:=k2i s
 have hl:=jlc s
 have e1:qy1 s=some (q2j s):=if_pos hL
 have e2:ja3 (q2j s)=some (anyS (q2j s)):=if_pos (by omega)
 have e3:j3c (q2f s)=some (numOf (q4m (q2f s)),j28 (q4m (q2f s))):=if_pos (by omega)
 have e4:jk4 s=some (qhs s):=rfl
 unfold qhf q4o okS
 simp only [e1,e2,e3,e4,jrd n s hL hn,qxx n (q2f s) (by omega),Option.bind_some]
 cases qhs s with
 | false=>rfl
 | true=>cases anyS (q2j s) with
  | true=>rfl
  | false=>cases ht:q1g (q2f s) with
   | false=>rfl
   | true =>
    rw [jga ht]
    cases j28 ((q2f s).drop 1) with
    | false=>rfl
    | true =>
     by_cases h0:q2j s = []
     ·simp [h0]
     ·simp [h0]
theorem j6a (s:List UInt8):(q4o s).2.2=okS s:=by
 unfold q4o
 cases okS s with
 | false=>rfl
 | true=>cases q1g (q2f s)<;>rfl
theorem jh9 (n:Nat) (s:List UInt8) (hL:s.length<=1000000) (hn:s.length<n):qvk n s=some (okS s):=by
 unfold qvk
 rw [qiu n s hL hn,<-j6a];rfl
def jkg (p:List UInt8) (v:VD):Bool:=okS p&&(q0y v&&(if (q4o p).2.1=0 then decide (v.1<2) else decide (v.1=(q4o p).2.1)))
theorem jsi (n:Nat) (s:List UInt8) (v:VD) (hL:s.length<=1000000) (hn:s.length<n) (h4:4<=n):j8a n s v=some (jkg s v):=by
 unfold j8a jkg
 rw [qiu n s hL hn]
 simp only [Option.bind_some,j6a,q8e n v h4]
 cases okS s with
 | false=>rfl
 | true=>cases q0y v with
  | false=>rfl
  | true =>
   by_cases h:(q4o s).2.1=0
   ·simp [h]
   ·simp [h]
theorem ji4 (c:UInt8):qz5 c=((decide ((97:Int)<=((c.toNat:Nat):Int))&&decide (((c.toNat:Nat):Int)<=(122:Int)))||(decide ((65:Int)<=((c.toNat:Nat):Int))&&decide (((c.toNat:Nat):Int)<=(90:Int)))||(decide ((48:Int)<=((c.toNat:Nat):Int))&&decide (((c.toNat:Nat):Int)<=(57:Int)))||decide (((c.toNat:Nat):Int)=(45:Int))||decide (((c.toNat:Nat):Int)=(95:Int))||decide (((c.toNat:Nat):Int)=(46:Int))):=by
 unfold qz5
 have h6:decide (((c.toNat:Nat):Int)=(95:Int))=decide (c.toNat=95):=decide_eq_decide.2 (by omega)
 have h7:decide (((c.toNat:Nat):Int)=(46:Int))=decide (c.toNat=46):=decide_eq_decide.2 (by omega)
 rw [h6,h7,<-jmi]
theorem j06 (n:Nat) (s:List UInt8) (hL:s.length<=1000000) : ∀m j:Nat,j<=s.length->s.length - j<m->q9r n m s (j:Int)=some (if (s.drop j).all qz5=true then Sum.inr ((s,()),((),())) else Sum.inl ((false,()),((),())))
 | 0,j,_,h=>absurd h (Nat.not_lt_zero _)
 | m+1,j,hj,h=>by
  rw [qqb]
  unfold qvy
  by_cases c0:j<s.length
  ·have c0':((j:Nat):Int)<((s.length:Nat):Int):=by omega
   have ih:=j06 n s hL m (j+1) (by omega) (by omega)
   have hd:s.drop j=s[j]::s.drop (j+1):=(List.drop_eq_getElem_cons c0)
   simp only [c0',decide_true,cond_true,q8j c0,Option.bind_some,q0f,q03 (show j<4611686018427387904 by omega),ih,hd,List.all_cons]
   rw [ji4]
   generalize (List.drop (j+1) s).all qz5=B
   generalize decide ((97:Int)<=((s[j].toNat:Nat):Int))=b1
   generalize decide (((s[j].toNat:Nat):Int)<=(122:Int))=b2
   generalize decide ((65:Int)<=((s[j].toNat:Nat):Int))=b3
   generalize decide (((s[j].toNat:Nat):Int)<=(90:Int))=b4
   generalize decide ((48:Int)<=((s[j].toNat:Nat):Int))=b5
   generalize decide (((s[j].toNat:Nat):Int)<=(57:Int))=b6
   generalize decide (((s[j].toNat:Nat):Int)=(45:Int))=b7
   generalize decide (((s[j].toNat:Nat):Int)=(95:Int))=b8
   generalize decide (((s[j].toNat:Nat):Int)=(46:Int))=b9
   cases b1<;>cases b2<;>cases b3<;>cases b4<;>cases b5<;>cases b6<;>cases b7<;>cases b8<;>cases b9<;>rfl
  ·have c0' : ¬ ((j:Nat):Int)<((s.length:Nat):Int):=by omega
   have:s.drop j = []:=List.drop_eq_nil_of_le (by omega)
   simp [c0',this]
theorem jj5 (n:Nat) (s:List UInt8) (hL:s.length<=1000000) (hn:s.length<n):qv0 n s=some (qj0 s):=by
 unfold qv0 qj0
 have:=j06 n s hL n 0 (Nat.zero_le _) (by omega)
 rw [show ((0:Nat):Int)=(0:Int) from rfl] at this
 rw [this,List.drop_zero]
 cases s.all qz5 with
 | true =>
  simp only [if_true,Option.bind_some,Sum.elim_inr]
  cases decide (s = [])<;>cases decide (s = [46])<;>cases decide (s = [46,46])<;>rfl
 | false =>
  simp only [Bool.false_eq_true,if_false,Option.bind_some,Sum.elim_inl]
  cases decide (s = [])<;>cases decide (s = [46])<;>cases decide (s = [46,46])<;>rfl
theorem j0h (n:Nat) (l:List (List UInt8)) (hl:l.length<=1000000) (hw : ∀w∈l,w.length<=1000000/\w.length<n) : ∀m j:Nat,j<=l.length->l.length - j<m->qa3 n m l (j:Int)=some (if (l.drop j).all qj0=true then Sum.inr ((),((),())) else Sum.inl ((false,()),((),())))
 | 0,j,_,h=>absurd h (Nat.not_lt_zero _)
 | m+1,j,hj,h=>by
  rw [qpr]
  unfold qxg
  by_cases c0:j<l.length
  ·have c0':((j:Nat):Int)<((l.length:Nat):Int):=by omega
   have ih:=j0h n l hl hw m (j+1) (by omega) (by omega)
   have hd:l.drop j=l[j]::l.drop (j+1):=(List.drop_eq_getElem_cons c0)
   have hm:=hw l[j] (List.getElem_mem c0)
   simp only [c0',decide_true,cond_true,q0i c0,Option.bind_some,jj5 n l[j] hm.1 hm.2,q0f,q03 (show j<4611686018427387904 by omega),ih,hd,List.all_cons]
   cases qj0 l[j]<;>simp
  ·have c0' : ¬ ((j:Nat):Int)<((l.length:Nat):Int):=by omega
   have:l.drop j = []:=List.drop_eq_nil_of_le (by omega)
   simp [c0',this]
theorem jh2 (n:Nat) (s:List UInt8) (hL:s.length<=1000000) (hn:100<=n):qvn n s=some (qhs s):=by
 unfold qvn qhs
 by_cases h:s.length<=60
 ·have h' : ¬ (60:Int)<((s.length:Nat):Int):=by omega
  have hlen:=q89 47 s []
  have hw : ∀w∈spl 47 [] s,w.length<=s.length:=fun w hm=>by have:=qca 47 s [] w hm;simpa using this
  have:=j0h n (spl 47 [] s) (by omega) (fun w hm=>⟨by have:=hw w hm;omega,by have:=hw w hm;omega⟩) n 0 (Nat.zero_le _) (by omega)
  rw [show ((0:Nat):Int)=(0:Int) from rfl] at this
  simp only [h',decide_false,cond_false]
  rw [show (47:Int)=(((47:UInt8).toNat:Nat):Int) from rfl,qbi n s 47 hL (by omega)]
  simp only [Option.bind_some]
  rw [this,List.drop_zero]
  cases (spl 47 [] s).all qj0<;>simp [h]
 ·have h':(60:Int)<((s.length:Nat):Int):=by omega
  simp [h,h']
end Go.Proofs.YtggoebaobojmjaaGreatDoor.AM
namespace Go.Proofs.YtggoebaobojmjaaGreatDoor.AM
open Go.RowKit
set_option linter.unusedVariables false
set_option linter.unusedSimpArgs false
end Go.Proofs.YtggoebaobojmjaaGreatDoor.AM
namespace Go.Proofs.YtggoebaobojmjaaGreatDoor.AM
open Go.RowKit
set_option linter.unusedVariables false
set_option linter.unusedSimpArgs false
theorem k2w : ∀n:Nat,0<n->(Lib.decDigits n).head? ≠ some 48:=by
 intro n
 induction n using Nat.strongRecOn with
 | _ n ih =>
  intro h0
  rw [Lib.decDigits]
  split
  ·rename_i h
   intro h2
   have h3:UInt8.ofNat (48+n)=48:=by simpa using h2
   have h4:=congrArg UInt8.toNat h3
   rw [UInt8.toNat_ofNat'] at h4
   have e48:(48:UInt8).toNat=48:=rfl
   rw [e48] at h4;omega
  ·rename_i h
   have:=ih (n / 10) (by omega) (by omega)
   have hne:=(jxt (n / 10)).2
   generalize Lib.decDigits (n / 10)=l at this hne
   cases l with
   | nil=>exact absurd rfl hne
   | cons b r=>simpa using this
theorem jwy : ∀(k:Nat) (d:List UInt8),d.length=k->d.all q1v=true->d ≠ []->d.head? ≠ some 48->Lib.decDigits (qht 0 d).toNat=d
 | 0,d,hk,_,hne,_=>absurd (List.eq_nil_of_length_eq_zero hk) hne
 | k+1,d,hk,hd,hne,h48=>by
  obtain ⟨l,c,rfl⟩ : ∃ l c,d=l ++ [c]:=⟨d.dropLast,d.getLast hne,(List.dropLast_concat_getLast hne).symm⟩
  have hl:l.length=k:=by simpa using hk
  rw [List.all_append,Bool.and_eq_true] at hd
  have hc:q1v c=true:=by simpa using hd.2
  have hc2:48<=c.toNat/\c.toNat<=57:=by unfold q1v at hc;simpa using hc
  have hb:=qpm l 0 (by decide) hd.1
  rw [j90]
  have e1:qht (qht 0 l) [c]=10*qht 0 l+c.toNat - 48:=by simp only [qht]
  rw [e1,Lib.decDigits]
  have uc:UInt8.ofNat (48+(c.toNat - 48))=c:=by
   have:48+(c.toNat - 48)=c.toNat:=by omega
   rw [this];simp
  by_cases h0:l = []
  ·subst h0
   have:(10*qht 0 ([]:List UInt8)+(c.toNat:Int) - 48).toNat=c.toNat - 48:=by show (10*(0:Int)+(c.toNat:Int) - 48).toNat=_;omega
   rw [this,dif_pos (by omega),uc];rfl
  ·have hh:l.head? ≠ some 48:=by
    cases l with
    | nil=>exact absurd rfl h0
    | cons b r=>simpa using h48
   have ih:=jwy k l hl hd.1 h0 hh
   have hpos:qht 0 l≠0:=fun h=>by
    rw [h] at ih
    have e0:Lib.decDigits (0:Int).toNat = [48]:=Lib.decDigits_one (by decide)
    rw [e0] at ih
    rw [<-ih] at hh;exact hh rfl
   have q1:(10*qht 0 l+(c.toNat:Int) - 48).toNat / 10=(qht 0 l).toNat:=by omega
   have q2:(10*qht 0 l+(c.toNat:Int) - 48).toNat % 10=c.toNat - 48:=by omega
   rw [dif_neg (by omega),q1,q2,ih,uc]
def k7w (w:List UInt8):Int:=if 10<w.length then 0 else if (w.drop 1).head? = some 48 then 0 else if qht 0 (w.drop 1)<2 then 0 else qht 0 (w.drop 1)
theorem jbw {w:List UInt8} (h:q1g w=true):k7w w=if j28 (w.drop 1) then numOf (w.drop 1) else 0:=by
 have hl:w.length=(w.drop 1).length+1:=by
  cases w with
  | nil=>exact absurd h (by decide)
  | cons b r=>simp
 unfold q1g at h
 simp only [Bool.and_eq_true] at h
 have hd:=h.2
 unfold q3h at hd
 simp only [Bool.and_eq_true,Bool.not_eq_true',decide_eq_false_iff_not] at hd
 unfold k7w
 rw [hl]
 generalize w.drop 1=d at hd
 cases hf:j28 d with
 | true =>
  obtain ⟨n0,n1,ne⟩:=jcv hf
  have li:=k2c (n:=numOf d) (by omega)
  have ed:Lib.decDigits (numOf d).toNat=d:=by rw [<-qvd (by omega)];exact ne.symm
  have hh:=k2w (numOf d).toNat (by omega)
  have hv:=k13 (numOf d).toNat
  rw [ed] at hh hv
  rw [<-ne] at li
  rw [if_neg (by omega),if_neg hh,hv,if_neg (by omega)]
  show (((numOf d).toNat:Nat):Int)=numOf d
  omega
 | false =>
  by_cases c1:10<d.length+1
  ·rw [if_pos c1];rfl
  by_cases c2:d.head? = some 48
  ·rw [if_neg c1,if_pos c2];rfl
  by_cases c3:qht 0 d<2
  ·rw [if_neg c1,if_neg c2,if_pos c3];rfl
  ·exfalso
   have hb:=qpm d 0 (by decide) hd.1
   have hp:(10:Int) ^ d.length<=10 ^ 9:=by
    have:=Nat.pow_le_pow_right (n:=10) (by decide) (show d.length<=9 by omega)
    have e2:((10 ^ d.length:Nat):Int)=(10:Int) ^ d.length:=by simp
    have e3:((10 ^ 9:Nat):Int)=(10:Int) ^ 9:=by simp
    rw [<-e2,<-e3];omega
   have e9:(10:Int) ^ 9=1000000000:=by decide
   rw [e9] at hp
   have ed:=jwy d.length d rfl hd.1 hd.2 c2
   have ei:Lib.itoa (qht 0 d)=d:=by rw [qvd hb.1];exact ed
   have:=(jvl (n:=qht 0 d) (by omega) (by omega)).1
   rw [ei,hf] at this;cases this
theorem qss (n:Nat) (s:List UInt8) (hL:s.length<=1000000) : ∀m j:Nat,j<=s.length+1->s.length+1 - j<m->q7i n m s (j:Int)=some (if (s.drop j).all q1v=true then Sum.inr ((s,()),((),())) else Sum.inl ((false,()),((),())))
 | 0,j,_,h=>absurd h (Nat.not_lt_zero _)
 | m+1,j,hj,h=>by
  rw [qma]
  unfold qr3
  by_cases c0:j<s.length
  ·have c0':((j:Nat):Int)<((s.length:Nat):Int):=by omega
   have ih:=qss n s hL m (j+1) (by omega) (by omega)
   have hd:s.drop j=s[j]::s.drop (j+1):=(List.drop_eq_getElem_cons c0)
   have hi:q1v s[j]=(!decide (((s[j].toNat:Nat):Int)<48) && !decide ((57:Int)<((s[j].toNat:Nat):Int))):=by
    unfold q1v
    rw [<-decide_not,<-decide_not]
    congr 1<;>exact decide_eq_decide.2 (by omega)
   simp only [c0',decide_true,cond_true,q8j c0,Option.bind_some,q0f,q03 (show j<4611686018427387904 by omega),ih,hd,List.all_cons,hi]
   cases decide (((s[j].toNat:Nat):Int)<48)<;>cases decide ((57:Int)<((s[j].toNat:Nat):Int))<;>simp
  ·have c0' : ¬ ((j:Nat):Int)<((s.length:Nat):Int):=by omega
   have:s.drop j = []:=List.drop_eq_nil_of_le (by omega)
   simp [c0',this]
theorem qtm (n:Nat) (s:List UInt8) (hL:s.length<=1000000) (hn:s.length+1<n):qf7 n s=some (q1g s):=by
 unfold qf7 q1g q3h
 have:=qss n s hL n 1 (by omega) (by omega)
 rw [show ((1:Nat):Int)=(1:Int) from rfl] at this
 rw [this]
 cases s with
 | nil=>rfl
 | cons b r =>
  simp only [List.drop_succ_cons,List.drop_zero,List.head?_cons,Option.some.injEq]
  have h0:sAt (b::r) (0:Int)=some ((b.toNat:Nat):Int):=q8j (s:=b::r) (j:=0) (by simp)
  have h1:decide (((b.toNat:Nat):Int)=(118:Int))=decide (b=118):=decide_eq_decide.2 (by
   constructor
   ·intro h;exact UInt8.toNat_inj.1 (by have e:(118:UInt8).toNat=118:=rfl;rw [e];omega)
   ·rintro rfl;rfl)
  have h2:decide ((1:Int)<(((b::r).length:Nat):Int)) = !decide (r = []):=by
   rw [<-decide_not]
   refine decide_eq_decide.2 ?_
   cases r with
   | nil=>simp
   | cons x y=>simp;omega
  cases hr:r.all q1v with
  | true =>
   simp only [if_true,Option.bind_some,Sum.elim_inr,h2,h0,h1,Bool.true_and]
   cases decide (r = [])<;>simp
  | false=>simp
theorem qmj (n:Nat) (s:List UInt8) (hL:s.length<=10) (hd:(s.drop 1).all q1v=true) : ∀(m j:Nat) (a:Int),1<=j->j<=s.length->s.length - j<m->0<=a->a<10 ^ j->q5d n m s a (j:Int)=some ((qht a (s.drop j),()),((),()))
 | 0,j,a,_,_,h,_,_=>absurd h (Nat.not_lt_zero _)
 | m+1,j,a,hj1,hj,h,ha,hb=>by
  rw [qjo]
  unfold qk7
  by_cases c0:j<s.length
  ·have c0':((j:Nat):Int)<((s.length:Nat):Int):=by omega
   have hp:(10:Int) ^ j<=10 ^ 10:=by
    have:=Nat.pow_le_pow_right (n:=10) (by decide) (show j<=10 by omega)
    have e2:((10 ^ j:Nat):Int)=(10:Int) ^ j:=by simp
    have e3:((10 ^ 10:Nat):Int)=(10:Int) ^ 10:=by simp
    rw [<-e2,<-e3];omega
   have e9:(10:Int) ^ 10=10000000000:=by decide
   rw [e9] at hp
   have hdr:s.drop j=s[j]::s.drop (j+1):=(List.drop_eq_getElem_cons c0)
   have hm:s[j]∈s.drop 1:=by
    have e:s.drop 1=s.drop 1:=rfl
    have:(s.drop 1)[j - 1]'(by simp;omega)=s[j]:=by simp;congr 1;omega
    rw [<-this];exact List.getElem_mem _
   have hc:=List.all_eq_true.1 hd _ hm
   have hc2:48<=s[j].toNat/\s[j].toNat<=57:=by unfold q1v at hc;simpa using hc
   have e10:(10:Int) ^ (j+1)=10*10 ^ j:=by rw [Int.pow_succ];omega
   have ih:=qmj n s hL hd m (j+1) (10*a+(s[j].toNat:Int) - 48) (by omega) (by omega) (by omega) (by omega) (by rw [e10];omega)
   simp only [c0',decide_true,cond_true,q8j c0,Option.bind_some,q0f,q03 (show j<4611686018427387904 by omega)]
   rw [wrap64 (n:=10*a) (by omega) (by omega),wrap64 (n:=((s[j].toNat:Nat):Int)) (by omega) (by omega),wrap64 (n:=10*a+((s[j].toNat:Nat):Int)) (by omega) (by omega),wrap64 (n:=10*a+((s[j].toNat:Nat):Int) - 48) (by omega) (by omega),ih,hdr]
   rfl
  ·have c0' : ¬ ((j:Nat):Int)<((s.length:Nat):Int):=by omega
   have:s.drop j = []:=List.drop_eq_nil_of_le (by omega)
   simp [c0',this,qht]
theorem qlv (n:Nat) (s:List UInt8) (hn:100<=n) (ht:q1g s=true):qbw n s=some (k7w s):=by
 have hd:(s.drop 1).all q1v=true/\s.drop 1 ≠ []:=by
  unfold q1g q3h at ht
  simp only [Bool.and_eq_true,Bool.not_eq_true',decide_eq_false_iff_not] at ht
  exact ht.2
 have h2:2<=s.length:=by
  cases s with
  | nil=>exact absurd rfl hd.2
  | cons b r=>cases r with
   | nil=>exact absurd rfl hd.2
   | cons c t=>simp
 unfold qbw k7w
 by_cases c1:10<s.length
 ·have c1':(10:Int)<((s.length:Nat):Int):=by omega
  simp [c1,c1']
 ·have c1' : ¬ (10:Int)<((s.length:Nat):Int):=by omega
  have h0:sAt s (1:Int)=some ((s[1].toNat:Nat):Int):=q8j (s:=s) (j:=1) (by omega)
  have e1:(s.drop 1).head? = some s[1]:=by rw [List.head?_drop];exact List.getElem?_eq_getElem _
  have h1:decide (((s[1].toNat:Nat):Int)=(48:Int))=decide (s[1]=48):=decide_eq_decide.2 (by
   constructor
   ·intro h;exact UInt8.toNat_inj.1 (by have e:(48:UInt8).toNat=48:=rfl;rw [e];omega)
   ·intro h;rw [h];rfl)
  have hlp:=qmj n s (by omega) hd.1 n 1 0 (by omega) (by omega) (by omega) (by omega) (by decide)
  rw [show ((1:Nat):Int)=(1:Int) from rfl] at hlp
  simp only [c1,c1',decide_false,cond_false,if_false,h0,h1,hlp,Option.bind_some,e1,Option.some.injEq]
  generalize qht 0 (s.drop 1)=V
  by_cases c2:s[1]=48
  ·simp [c2]
  ·by_cases c3:V<2
   ·simp [c2,c3]
   ·simp [c2,c3]
theorem jg3 (n m:Nat) (l:List (List UInt8)):q44 n (m+1) l ((l.length:Nat):Int)=some (Sum.inr ((),((),()))):=by
 rw [q8w];unfold qhg;simp
theorem qtg (n:Nat) (f:List (List UInt8)) (x:List UInt8) (hl:f.length<=1000000) (hw : ∀w∈f ++ [x],w.length<=1000000/\w.length+1<n) (hn:100<=n) : ∀m j:Nat,j<=f.length->f.length+1 - j<m ->
  q44 n m (f ++ [x]) (j:Int)=some (if ((f.drop j).all (fun w=>!q1g w)&&(!q1g x||(!decide (f = []) && !decide (k7w x=0))))=true then Sum.inr ((),((),())) else Sum.inl ((false,()),((),())))
 | 0,j,_,h=>absurd h (Nat.not_lt_zero _)
 | m+1,j,hj,h=>by
  rw [q8w]
  unfold qhg
  have hlen:(f ++ [x]).length=f.length+1:=by simp
  have c0:((j:Nat):Int)<(((f ++ [x]).length:Nat):Int):=by rw [hlen];omega
  have w1:IntKind.wrap .i64 ((((f ++ [x]).length:Nat):Int) - 1)=((f.length:Nat):Int):=by rw [hlen,wrap64 (by omega) (by omega)];omega
  have hx:q0s (f ++ [x]) ((j:Nat):Int)=some ((f ++ [x])[j]'(by rw [hlen];omega)):=q0i _
  have hm:=hw _ (List.getElem_mem (show j<(f ++ [x]).length by rw [hlen];omega))
  simp only [c0,decide_true,cond_true,hx,Option.bind_some,qtm n _ hm.1 hm.2,q0f,w1,q03 (show j<4611686018427387904 by omega)]
  by_cases c1:j<f.length
  ·have ih:=qtg n f x hl hw hn m (j+1) (by omega) (by omega)
   have hd:f.drop j=f[j]::f.drop (j+1):=(List.drop_eq_getElem_cons c1)
   have he:(f ++ [x])[j]'(by rw [hlen];omega)=f[j]:=List.getElem_append_left c1
   have c1':((j:Nat):Int)<((f.length:Nat):Int):=by omega
   rw [he,ih,hd]
   simp only [c1',decide_true,cond_true,List.all_cons]
   rcases Bool.eq_false_or_eq_true (q1g f[j]) with hb|hb
   ·simp only [hb,cond_true,Bool.not_true,Bool.false_and,Bool.false_eq_true,if_false]
   ·simp only [hb,cond_false,Bool.not_false,Bool.true_and]
  ·have hj2:j=f.length:=by omega
   subst hj2
   have he:(f ++ [x])[f.length]'(by rw [hlen];omega)=x:=by simp
   obtain ⟨k,rfl⟩ : ∃ k,m=k+1:=⟨m - 1,by omega⟩
   have hend:=jg3 n k (f ++ [x])
   rw [hlen] at hend
   rw [he,hend]
   have d0:decide (((f.length:Nat):Int)=0)=decide (f = []):=decide_eq_decide.2 (by
    constructor
    ·intro h;exact List.eq_nil_of_length_eq_zero (by omega)
    ·rintro rfl;rfl)
   simp only [Int.lt_irrefl,decide_false,cond_false,d0,List.drop_length,List.all_nil,Bool.true_and]
   cases ht:q1g x with
   | false=>rfl
   | true =>
    rw [qlv n x hn ht]
    simp only [cond_true,Option.bind_some,Bool.not_true,Bool.false_or]
    cases decide (f = [])<;>cases decide (k7w x=0)<;>rfl
theorem jcs (s:List UInt8) (hp:qhs s=true) : ∃ f,spl 47 [] s=f ++ [q2f s]/\f.all (fun w=>!q1g w) = !anyS (q2j s)/\decide (f = [])=decide (q2j s = []):=by
 have key : ∀b,anyS b = !((spl 47 [] b).all fun x=>!q1g x):=fun b=>by unfold anyS;rw [List.any_eq_not_all_not]
 rcases js4 s with ⟨_,a,b,c⟩|⟨he,hs,hc⟩
 ·refine ⟨[],by rw [b,c];rfl,?_,by rw [a];rfl⟩
  rw [a];decide
 ·refine ⟨spl 47 [] (q2j s),hc,?_,?_⟩
  ·rw [key,Bool.not_not]
  ·have h1:=k44 47 (q2j s) []
   have h2:q2j s ≠ []:=fun h=>by
    have:=(jp1 hp).2
    rw [hc,h] at this
    simp [spl] at this
    exact absurd this.1 (by decide)
   simp [h1,h2]
theorem qso (n:Nat) (s:List UInt8) (hL:s.length<=1000) (hn:2000<=n):qfn n s=some (okS s):=by
 unfold qfn okS
 rw [jh2 n s (by omega) (by omega)]
 cases hp:qhs s with
 | false=>rfl
 | true =>
  obtain ⟨f,e1,e2,e3⟩:=jcs s hp
  have hlen:=q89 47 s []
  have hw : ∀w∈spl 47 [] s,w.length<=s.length:=fun w hm=>by have:=qca 47 s [] w hm;simpa using this
  rw [show (47:Int)=(((47:UInt8).toNat:Nat):Int) from rfl,qbi n s 47 (by omega) (by omega)]
  rw [e1] at hlen hw ⊢
  have hlen2:f.length+1<=s.length+1:=by simpa using hlen.2
  have hlp:=qtg n f (q2f s) (by omega) (fun w hm=>⟨by have:=hw w hm;omega,by have:=hw w hm;omega⟩) (by omega) n 0 (Nat.zero_le _) (by omega)
  rw [show ((0:Nat):Int)=(0:Int) from rfl] at hlp
  simp only [Option.bind_some,Bool.not_true,cond_false,hlp,List.drop_zero,e2,e3,Bool.true_and]
  cases ht:q1g (q2f s) with
  | false=>cases anyS (q2j s)<;>rfl
  | true =>
   rw [jbw ht]
   generalize (q2f s).drop 1=d
   cases hf:j28 d with
   | false=>cases anyS (q2j s)<;>simp
   | true =>
    have n0 : ¬ numOf d=0:=by have:=(jcv hf).1;omega
    cases anyS (q2j s)<;>cases decide (q2j s = [])<;>simp [n0]
theorem qzv (n:Nat) (s:List UInt8) (hL:s.length<=1000000) : ∀m j:Nat,j<=s.length->j<m->qa4 n m s ((j:Int) - 1)=some (if qas 47 (s.take j).reverse = -1 then Sum.inr ((),((),())) else Sum.inl ((s.take (qas 47 (s.take j).reverse).toNat,()),((),())))
 | 0,j,_,h=>absurd h (Nat.not_lt_zero _)
 | m+1,0,_,_=>by
  rw [qbo]
  unfold qo2
  simp [qas]
 | m+1,j+1,hj,h=>by
  rw [qbo]
  unfold qo2
  have e1:((j+1:Nat):Int) - 1=((j:Nat):Int):=by omega
  have ih:=qzv n s hL m j (by omega) (by omega)
  have w1:IntKind.wrap .i64 (((j:Nat):Int) - 1)=((j:Nat):Int) - 1:=wrap64 (by omega) (by omega)
  have c0:(0:Int)<=((j:Nat):Int):=by omega
  have d1:decide (((s[j].toNat:Nat):Int)=(47:Int))=decide (s[j]=47):=decide_eq_decide.2 (by
   constructor
   ·intro h;exact UInt8.toNat_inj.1 (by have e:(47:UInt8).toNat=47:=rfl;rw [e];omega)
   ·intro h;rw [h];rfl)
  rw [e1]
  simp only [c0,decide_true,cond_true,q8j (show j<s.length by omega),Option.bind_some,d1,q0f,w1,ih,qoa s j (by omega),qas,sub_zero (show j<=s.length by omega)]
  by_cases h0:s[j]=47
  ·have l1:(s.take j).reverse.length=j:=by simp;omega
   simp only [h0,decide_true,cond_true,if_true,l1]
   rw [if_neg (by omega),Int.toNat_natCast]
  ·simp [h0]
theorem ji7 (n:Nat) (s:List UInt8) (hL:s.length<=1000000) (hn:s.length<n):qv2 n s=some (q2j s):=by
 unfold qv2 q2j qbr
 have:=qzv n s hL n s.length (Nat.le_refl _) hn
 have w1:IntKind.wrap .i64 (((s.length:Nat):Int) - 1)=((s.length:Nat):Int) - 1:=wrap64 (by omega) (by omega)
 simp only [q0f,w1,this,List.take_length]
 by_cases h:qas 47 s.reverse = -1
 ·simp [h]
 ·simp [h]
theorem qsr (n:Nat) (s:List UInt8) (hL:s.length<=1000) (hn:2000<=n):qf4 n s=some (q4o s):=by
 unfold qf4 q4o
 rw [qso n s hL hn]
 cases ho:okS s with
 | false=>rfl
 | true =>
  obtain ⟨f,e1,_,_⟩:=jcs s (jv2 ho).1
  have hll:=jlc s
  have hlen:=q89 47 s []
  rw [e1] at hlen
  have hlen2:f.length+1<=s.length+1:=by simpa using hlen.2
  rw [show (47:Int)=(((47:UInt8).toNat:Nat):Int) from rfl,qbi n s 47 (by omega) (by omega),e1]
  have hl2:(f ++ [q2f s]).length=f.length+1:=by simp
  have w1:IntKind.wrap .i64 ((((f ++ [q2f s]).length:Nat):Int) - 1)=((f.length:Nat):Int):=by rw [hl2,wrap64 (by omega) (by omega)];omega
  have hx:q0s (f ++ [q2f s]) ((f.length:Nat):Int)=some (q2f s):=by
   have:=q0i (l:=f ++ [q2f s]) (j:=f.length) (by rw [hl2];omega)
   rw [this];simp
  simp only [Option.bind_some,Bool.not_true,cond_false,q0f,w1,hx,qtm n (q2f s) (by omega) (by omega),if_true]
  cases ht:q1g (q2f s) with
  | false=>rfl
  | true =>
   have hf:=((jv2 ho).2.2 ht).1
   simp only [Bool.not_true,cond_false,ji7 n s (by omega) (by omega),qlv n (q2f s) (by omega) ht,jbw ht,hf,if_true,Option.bind_some]
theorem jg0 (n:Nat) (s:List UInt8) (v:VD) (hL:s.length<=1000) (hn:2000<=n):qui n s v=some (jkg s v):=by
 unfold qui jkg
 rw [qsr n s hL hn,q4s n v (by omega)]
 simp only [Option.bind_some,j6a]
 cases okS s with
 | false=>rfl
 | true=>cases hc:q0y v with
  | false=>rfl
  | true =>
   have h1:=(q2n hc).1
   simp only [Bool.not_true,cond_false,Bool.true_and]
   by_cases c0:(q4o s).2.1=0
   ·rw [c0]
    by_cases c1:v.1=0
    ·simp [c1]
    ·have:decide (v.1=1)=decide (v.1<2):=decide_eq_decide.2 (by omega)
     simp [c1,this]
   ·by_cases c1:v.1=(q4o s).2.1
    ·simp [c0,c1]
    ·simp [c0,c1]
end Go.Proofs.YtggoebaobojmjaaGreatDoor.AM
