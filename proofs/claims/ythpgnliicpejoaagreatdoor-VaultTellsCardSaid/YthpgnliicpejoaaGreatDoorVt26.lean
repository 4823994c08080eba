
import Derived.Test.YthpgnliicpejoaaGreatDoorVt25
import Derived.Test.YthpgnliicpejoaaGreatDoorVt23
namespace Go.Proofs.YthpgnliicpejoaaGreatDoor.AM
open Go.RowKit
set_option linter.unusedVariables false
set_option linter.unusedSimpArgs false
theorem jbq (l:List FD) (j:Nat) (h:j<l.length) (h0:0<j):qcd (l.drop (j - 1))=(ltS (l[j - 1]'(by omega)).1 l[j].1&&qcd (l.drop j)):=by
 have e1:l.drop (j - 1)=l[j - 1]::l.drop j:=by
  have:=List.drop_eq_getElem_cons (l:=l) (i:=j - 1) (by omega)
  rw [this];congr 2;omega
 have e2:l.drop j=l[j]::l.drop (j+1):=List.drop_eq_getElem_cons h
 rw [e1,e2,qcd]
theorem qws (n:Nat) (l:List FD) (hL:l.length<=1000000) : ∀m j:Nat,j<=l.length->l.length - j<m->qaf n m l l ((l.length:Nat):Int) (j:Int)=some (if ((l.drop j).all okF&&qcd (l.drop (j - 1)))=true then Sum.inr ((),((),())) else Sum.inl ((false,()),((),())))
 | 0,j,_,h=>absurd h (Nat.not_lt_zero _)
 | m+1,j,hj,h=>by
  rw [qkw]
  unfold j22
  by_cases c0:j<l.length
  ·have c0':((j:Nat):Int)<((l.length:Nat):Int):=by omega
   have ih:=qws n l hL m (j+1) (by omega) (by omega)
   have hd:l.drop j=l[j]::l.drop (j+1):=(List.drop_eq_getElem_cons c0)
   have e4:qmg l[j].1=some (q3n l[j].1):=rfl
   have eo:(l.drop j).all okF=((q3n l[j].1&&decide (l[j].2.length<=4096))&&(l.drop (j+1)).all okF):=by rw [hd,List.all_cons];rfl
   rw [eo]
   simp only [c0',decide_true,cond_true,q26 c0,Option.bind_some,e4,q0n,q0w (show j<4611686018427387904 by omega),ih,Nat.add_sub_cancel]
   cases q3n l[j].1 with
   | false=>simp
   | true =>
    by_cases c1:l[j].2.length<=4096
    ·have c1' : ¬ (4096:Int)<((l[j].2.length:Nat):Int):=by omega
     by_cases c2:0<j
     ·have c2':(0:Int)<((j:Nat):Int):=by omega
      have w1:IntKind.wrap .i64 (((j:Nat):Int) - 1)=((j - 1:Nat):Int):=by rw [wrap64 (by omega) (by omega)];omega
      rw [jbq l j c0 c2]
      simp only [c1,c1',c2',decide_true,decide_false,cond_true,cond_false,Bool.not_true,w1,q26 (show j - 1<l.length by omega),Option.bind_some,Bool.true_and]
      cases ltS (l[j - 1]'(by omega)).1 l[j].1 with
      | true=>simp only [Bool.not_true,cond_false,Bool.true_and]
      | false=>simp
     ·have c2' : ¬ (0:Int)<((j:Nat):Int):=by omega
      have hj0:j=0:=by omega
      subst hj0
      simp only [c1,c1',decide_true,decide_false,cond_true,cond_false,Bool.not_true,Bool.true_and,Int.lt_irrefl,Int.natCast_zero,Nat.zero_sub]
    ·have c1':(4096:Int)<((l[j].2.length:Nat):Int):=by omega
     simp [c1,c1']
  ·have c0' : ¬ ((j:Nat):Int)<((l.length:Nat):Int):=by omega
   have e1:l.drop j = []:=List.drop_eq_nil_of_le (by omega)
   have e2:qcd (l.drop (j - 1))=true:=by
    by_cases hz:l.length=0
    ·rw [List.drop_eq_nil_of_le (by omega)];rfl
    ·have:=List.drop_eq_getElem_cons (l:=l) (i:=j - 1) (by omega)
     rw [this,show j - 1+1=j from by omega,e1];rfl
   simp [c0',e1,e2]
theorem qms (n:Nat) (l:List FD) (hL:l.length<=1000000) (hn:l.length<n):qyo n l=some (q7s l):=by
 unfold qyo q7s
 have:=qws n l hL n 0 (Nat.zero_le _) (by omega)
 rw [show ((0:Nat):Int)=(0:Int) from rfl] at this
 by_cases c:l.length<=40
 ·have c' : ¬ (40:Int)<((l.length:Nat):Int):=by omega
  simp only [c,c',decide_true,decide_false,cond_false,this,Option.bind_some,List.drop_zero,Nat.zero_sub,Bool.true_and]
  cases (l.all okF&&qcd l)<;>rfl
 ·have c':(40:Int)<((l.length:Nat):Int):=by omega
  simp [c,c']
theorem qpz (n:Nat) (l:List FD) (hL:l.length<=1000000) (hp : ∀f∈l,f.1.length<=1000000) (hn:100<=n) : ∀m j:Nat,j<=l.length->l.length - j<m->q85 n m l (j:Int)=some (if ((l.drop j).all okF&&qcd (l.drop (j - 1)))=true then Sum.inr ((l,()),((),())) else Sum.inl ((false,()),((),())))
 | 0,j,_,h=>absurd h (Nat.not_lt_zero _)
 | m+1,j,hj,h=>by
  rw [qid]
  unfold qu3
  by_cases c0:j<l.length
  ·have c0':((j:Nat):Int)<((l.length:Nat):Int):=by omega
   have ih:=qpz n l hL hp hn m (j+1) (by omega) (by omega)
   have hd:l.drop j=l[j]::l.drop (j+1):=(List.drop_eq_getElem_cons c0)
   have e4:q4w n l[j].1=some (q3n l[j].1):=qcj n _ (hp _ (List.getElem_mem c0)) hn
   have eo:(l.drop j).all okF=((q3n l[j].1&&decide (l[j].2.length<=4096))&&(l.drop (j+1)).all okF):=by rw [hd,List.all_cons];rfl
   rw [eo]
   simp only [c0',decide_true,cond_true,q26 c0,Option.bind_some,e4,q0n,q0w (show j<4611686018427387904 by omega),ih,Nat.add_sub_cancel]
   cases q3n l[j].1 with
   | false=>simp
   | true =>
    by_cases c1:l[j].2.length<=4096
    ·have c1' : ¬ (4096:Int)<((l[j].2.length:Nat):Int):=by omega
     by_cases c2:0<j
     ·have c2':(0:Int)<((j:Nat):Int):=by omega
      have w1:IntKind.wrap .i64 (((j:Nat):Int) - 1)=((j - 1:Nat):Int):=by rw [wrap64 (by omega) (by omega)];omega
      rw [jbq l j c0 c2]
      simp only [c1,c1',c2',decide_true,decide_false,cond_true,cond_false,Bool.not_true,w1,q26 (show j - 1<l.length by omega),Option.bind_some,Bool.true_and]
      cases ltS (l[j - 1]'(by omega)).1 l[j].1 with
      | true=>simp only [Bool.not_true,cond_false,Bool.true_and]
      | false=>simp
     ·have c2' : ¬ (0:Int)<((j:Nat):Int):=by omega
      have hj0:j=0:=by omega
      subst hj0
      simp only [c1,c1',decide_true,decide_false,cond_true,cond_false,Bool.not_true,Bool.true_and,Int.lt_irrefl,Int.natCast_zero,Nat.zero_sub]
    ·have c1':(4096:Int)<((l[j].2.length:Nat):Int):=by omega
     simp [c1,c1']
  ·have c0' : ¬ ((j:Nat):Int)<((l.length:Nat):Int):=by omega
   have e1:l.drop j = []:=List.drop_eq_nil_of_le (by omega)
   have e2:qcd (l.drop (j - 1))=true:=by
    by_cases hz:l.length=0
    ·rw [List.drop_eq_nil_of_le (by omega)];rfl
    ·have:=List.drop_eq_getElem_cons (l:=l) (i:=j - 1) (by omega)
     rw [this,show j - 1+1=j from by omega,e1];rfl
   simp [c0',e1,e2]
theorem qh1 (n:Nat) (l:List FD) (hL:l.length<=1000000) (hp : ∀f∈l,f.1.length<=1000000) (hn:100<=n) (hn2:l.length<n):qg6 n l=some (q7s l):=by
 unfold qg6 q7s
 have:=qpz n l hL hp hn n 0 (Nat.zero_le _) (by omega)
 rw [show ((0:Nat):Int)=(0:Int) from rfl] at this
 rw [this]
 have hc:decide (((l.length:Nat):Int)<=(40:Int))=decide (l.length<=40):=decide_eq_decide.2 (by omega)
 simp only [List.drop_zero,Nat.zero_sub]
 cases (l.all okF&&qcd l) with
 | true=>simp only [if_true,Option.bind_some,Sum.elim_inr,hc,Bool.and_true]
 | false=>simp
theorem qpy (n:Nat) (p:List UInt8) (l:List FD) (hL:l.length<=1000000) : ∀m j:Nat,j<=l.length->l.length - j<m->q8j n m l p (j:Int)=some (if (qa4 (l.drop j) p).2=true then Sum.inl (((qa4 (l.drop j) p).1,(true,())),((),())) else Sum.inr ((),((),())))
 | 0,j,_,h=>absurd h (Nat.not_lt_zero _)
 | m+1,j,hj,h=>by
  rw [qii]
  unfold qtx
  by_cases c0:j<l.length
  ·have c0':((j:Nat):Int)<((l.length:Nat):Int):=by omega
   have ih:=qpy n p l hL m (j+1) (by omega) (by omega)
   have hd:l.drop j=l[j]::l.drop (j+1):=(List.drop_eq_getElem_cons c0)
   have hg:qa4 (l.drop j) p=if l[j].1=p then (l[j].2,true) else qa4 (l.drop (j+1)) p:=by rw [hd,qa4]
   rw [hg]
   simp only [c0',decide_true,cond_true,q26 c0,Option.bind_some,q0n,q0w (show j<4611686018427387904 by omega),ih]
   by_cases c1:l[j].1=p
   ·simp [c1]
   ·simp [c1]
  ·have c0' : ¬ ((j:Nat):Int)<((l.length:Nat):Int):=by omega
   have e1:l.drop j = []:=List.drop_eq_nil_of_le (by omega)
   simp [c0',e1,qa4]
theorem j7d (n:Nat) (l:List FD) (p:List UInt8) (hL:l.length<=1000000) (hn:l.length<n):qky n l p=some (qa4 l p):=by
 unfold qky
 have:=qpy n p l hL n 0 (Nat.zero_le _) (by omega)
 rw [show ((0:Nat):Int)=(0:Int) from rfl,List.drop_zero] at this
 rw [this]
 cases h:(qa4 l p).2 with
 | true =>
  have:qa4 l p=((qa4 l p).1,true):=by rw [<-h]
  simp only [if_true,Option.bind_some,Sum.elim_inl]
  rw [<-this]
 | false=>rw [qvz h];rfl
theorem eq_FD (x y:FD):(decide (x.1=y.1)&&(decide (x.2=y.2)&&true))=decide (x=y):=by
 rw [Bool.and_true,<-Bool.decide_and];exact decide_eq_decide.2 Prod.ext_iff.symm
theorem qlt (n:Nat) (l k:List FD) (hk:l.length=k.length) (hL:l.length<=1000000) : ∀m j:Nat,j<=l.length->l.length - j<m->q5z n m l k (j:Int)=some (if l.drop j=k.drop j then Sum.inr ((),((),())) else Sum.inl ((false,()),((),())))
 | 0,j,_,h=>absurd h (Nat.not_lt_zero _)
 | m+1,j,hj,h=>by
  rw [qgm]
  unfold qmr
  by_cases c0:j<l.length
  ·have c0':((j:Nat):Int)<((l.length:Nat):Int):=by omega
   have ih:=qlt n l k hk hL m (j+1) (by omega) (by omega)
   have h1:l.drop j=l[j]::l.drop (j+1):=(List.drop_eq_getElem_cons c0)
   have h2:k.drop j=k[j]::k.drop (j+1):=(List.drop_eq_getElem_cons (by omega))
   simp only [c0',decide_true,cond_true,q26 c0,q26 (show j<k.length by omega),Option.bind_some,q0n,q0w (show j<4611686018427387904 by omega),ih,eq_FD,h1,h2,List.cons.injEq]
   by_cases c1:l[j]=k[j]
   ·simp [c1]
   ·simp [c1]
  ·have c0' : ¬ ((j:Nat):Int)<((l.length:Nat):Int):=by omega
   have e1:l.drop j = []:=List.drop_eq_nil_of_le (by omega)
   have e2:k.drop j = []:=List.drop_eq_nil_of_le (by omega)
   simp [c0',e1,e2]
theorem j05 (n:Nat) (l k:List FD) (hL:l.length<=1000000) (hn:l.length<n):qea n l k=some (decide (l=k)):=by
 unfold qea
 by_cases hk:l.length=k.length
 ·have:=qlt n l k hk hL n 0 (Nat.zero_le _) (by omega)
  rw [show ((0:Nat):Int)=(0:Int) from rfl,List.drop_zero,List.drop_zero] at this
  simp only [<-hk,decide_true,Bool.not_true,cond_false,this,Option.bind_some]
  by_cases h:l=k
  ·simp [h]
  ·simp [h]
 ·have c : ¬ ((l.length:Nat):Int)=((k.length:Nat):Int):=by omega
  have h : ¬ l=k:=fun h=>hk (by rw [h])
  simp [c,h]
theorem j8u {i:Nat} (h:i+1<=9223372036854775807):IntKind.wrap .i64 ((i:Int)+1)=((i+1:Nat):Int):=by rw [wrap64 (by omega) (by omega)];rfl
theorem qqf (n:Nat) (l:List OD) (hL:l.length<=9223372036854775807) : ∀m j:Nat,j<=l.length->l.length - j<m->q82 n m l (j:Int)=some (if ((l.drop j).all fun o=>decide (o.2.1.length<=200)&&decide (o.2.2.length<=5000))=true then Sum.inr ((l,()),((),())) else Sum.inl ((false,()),((),())))
 | 0,j,_,h=>absurd h (Nat.not_lt_zero _)
 | m+1,j,hj,h=>by
  rw [qif]
  unfold qrt
  by_cases c0:j<l.length
  ·have c0':((j:Nat):Int)<((l.length:Nat):Int):=by omega
   have ih:=qqf n l hL m (j+1) (by omega) (by omega)
   have h1:l.drop j=l[j]::l.drop (j+1):=(List.drop_eq_getElem_cons c0)
   simp only [c0',decide_true,cond_true,q26 c0,Option.bind_some,q0n,j8u (show j+1<=9223372036854775807 by omega),ih,h1,List.all_cons]
   by_cases c1:l[j].2.1.length<=200
   ·have c1' : ¬ (200:Int)<((l[j].2.1.length:Nat):Int):=by omega
    by_cases c2:l[j].2.2.length<=5000
    ·have c2' : ¬ (5000:Int)<((l[j].2.2.length:Nat):Int):=by omega
     simp only [c1,c1',c2,c2',decide_true,decide_false,cond_false,Bool.true_and]
    ·have c2':(5000:Int)<((l[j].2.2.length:Nat):Int):=by omega
     simp [c1,c1',c2,c2']
   ·have c1':(200:Int)<((l[j].2.1.length:Nat):Int):=by omega
    simp [c1,c1']
  ·have c0' : ¬ ((j:Nat):Int)<((l.length:Nat):Int):=by omega
   have e1:l.drop j = []:=List.drop_eq_nil_of_le (by omega)
   simp [c0',e1]
theorem j9g (n:Nat) (l:List OD) (hL:l.length<=9223372036854775807) (hn:l.length<n):qtv n l=some (jn2 l):=by
 unfold qtv jn2
 have:=qqf n l hL n 0 (Nat.zero_le _) (by omega)
 rw [show ((0:Nat):Int)=(0:Int) from rfl,List.drop_zero] at this
 rw [this]
 have hc:decide (((l.length:Nat):Int)<=(100:Int))=decide (l.length<=100):=decide_eq_decide.2 (by omega)
 cases (l.all fun o=>decide (o.2.1.length<=200)&&decide (o.2.2.length<=5000)) with
 | true=>simp only [if_true,Option.bind_some,Sum.elim_inr,hc,Bool.true_and]
 | false=>simp
theorem qzq (n:Nat) (o:OD):qud n o=some (q8p o):=by
 have e4:qmg o.2.1=some (q3n o.2.1):=rfl
 unfold qud q8p
 simp only [e4,Option.bind_some]
 have hc:decide ((4096:Int)<((o.2.2.length:Nat):Int))=decide (4096<o.2.2.length):=decide_eq_decide.2 (by omega)
 rw [hc]
 cases q3n o.2.1 with
 | false=>rfl
 | true =>
  by_cases h:4096<o.2.2.length
  ·cases o.1 with
   | false=>simp [h]
   | true =>
        by_cases h2:o.2.2 = []
        ·simp [h2]
        ·simp [h,h2]
  ·cases o.1 with
   | false=>simp [h]
   | true =>
        by_cases h2:o.2.2 = []
        ·simp [h2]
        ·simp [h,h2]
end Go.Proofs.YthpgnliicpejoaaGreatDoor.AM
namespace Go.Proofs.YthpgnliicpejoaaGreatDoor.AM
open Go.RowKit
set_option linter.unusedVariables false
set_option linter.unusedSimpArgs false
theorem qyu (m:Nat):q1n m [] [] = []:=by cases m<;>rfl
theorem jc7 {ops:List OD} (h:ops.length<=1000000) (r:OD):q2g 40 ops [r]=some (ops ++ [r]):=if_pos (by simp;omega)
theorem qsb {β:Type} (x:β) (a:List β):q1f (x::a) (0:Int)=some x:=q26 (l:=x::a) (j:=0) (by simp)
theorem qtr {β:Type} (x:β) (a:List β):q3g (x::a) (1:Int) (((x::a).length:Nat):Int)=some a:=by
 have:=sub_le (l:=x::a) (a:=1) (b:=(x::a).length) (by simp) (Nat.le_refl _)
 rw [show ((1:Nat):Int)=(1:Int) from rfl] at this
 rw [this];simp
theorem j2q {β:Type} (x:β) (a:List β):decide ((0:Int)<(((x::a).length:Nat):Int))=true:=by rw [decide_eq_true_eq,List.length_cons];omega
theorem jmx {β:Type} (x:β) (a:List β):decide ((((x::a).length:Nat):Int)=(0:Int))=false:=by rw [decide_eq_false_iff_not,List.length_cons];omega
theorem jdp {β:Type} : decide ((0:Int)<((([]:List β).length:Nat):Int))=false:=rfl
theorem jmt {β:Type} : decide (((([]:List β).length:Nat):Int)=(0:Int))=true:=rfl
theorem q44 (n:Nat) : ∀(m:Nat) (a b:List FD) (ops:List OD),a.length+b.length<m->ops.length+a.length+b.length<=1000000->q7w n m a b ops=some (((),()),((),(ops++q1n (a.length+b.length) a b,())))
 | 0,a,b,ops,h,_=>absurd h (Nat.not_lt_zero _)
 | m+1,[],[],ops,h,ho=>by
  rw [q3a]
  unfold qah
  simp only [jdp,cond_false,qyu,List.append_nil]
 | m+1,x::a,[],ops,h,ho=>by
  simp only [List.length_cons,List.length_nil] at h ho
  rw [q3a]
  unfold qah
  have ih:=q44 n m a [] (ops ++ [(true,(x.1,[]))]) (by simp;omega) (by simp;omega)
  simp only [j2q,jmt,cond_true,qsb,jc7 (show ops.length<=1000000 by omega),qtr,Option.bind_some,ih]
  simp [q1n]
 | m+1,[],y::b,ops,h,ho=>by
  simp only [List.length_cons,List.length_nil] at h ho
  rw [q3a]
  unfold qah
  have hp:q5n n y=some (false,y):=rfl
  have ih:=q44 n m [] b (ops ++ [(false,y)]) (by simp;omega) (by simp;omega)
  simp only [jdp,jmt,j2q,jmx,cond_true,cond_false,qsb,jc7 (show ops.length<=1000000 by omega),qtr,Option.bind_some,hp,ih]
  simp [q1n]
 | m+1,x::a,y::b,ops,h,ho=>by
  simp only [List.length_cons] at h ho
  rw [q3a]
  unfold qah
  have hp:q5n n y=some (false,y):=rfl
  have e0:(x::a).length+(y::b).length=(a.length+(y::b).length)+1:=by simp;omega
  have e1:q1n (a.length+(y::b).length) (x::a) b=q1n ((x::a).length+b.length) (x::a) b:=by
   rw [show a.length+(y::b).length=(x::a).length+b.length from by simp;omega]
  have e2:q1n (a.length+(y::b).length) a b=q1n (a.length+b.length) a b:=qp4 _ _ _ (by simp)
  have d:q1n ((x::a).length+(y::b).length) (x::a) (y::b)=if ltS x.1 y.1 then (true,(x.1,[]))::q1n (a.length+(y::b).length) a (y::b) else if ltS y.1 x.1 then (false,y)::q1n ((x::a).length+b.length) (x::a) b else if x.2=y.2 then q1n (a.length+b.length) a b else (false,y)::q1n (a.length+b.length) a b:=by
   rw [e0,q1n,e1,e2]
  rw [d]
  have i1:=q44 n m a (y::b) (ops ++ [(true,(x.1,[]))]) (by simp;omega) (by simp;omega)
  have i2:=q44 n m (x::a) b (ops ++ [(false,y)]) (by simp;omega) (by simp;omega)
  have i3:=q44 n m a b (ops ++ [(false,y)]) (by omega) (by simp;omega)
  have i4:=q44 n m a b ops (by omega) (by omega)
  simp only [j2q,jmx,cond_true,cond_false,qsb,jc7 (show ops.length<=1000000 by omega),qtr,Option.bind_some,hp,i1,i2,i3,i4]
  cases ltS x.1 y.1 with
  | true=>simp
  | false=>cases ltS y.1 x.1 with
   | true=>simp
   | false =>
         by_cases hd:x.2=y.2
         ·simp [hd]
         ·simp [hd]
theorem j98 (n:Nat) (a b:List FD) (ha:a.length<=100000) (hb:b.length<=100000) (hn:a.length+b.length<n):qre n a b=some (q7b a b):=by
 unfold qre q7b
 rw [qms n a (by omega) (by omega),qms n b (by omega) (by omega)]
 have:=q44 n n a b [] hn (by simp;omega)
 simp only [this,Option.bind_some]
 cases q7s a<;>cases q7s b<;>rfl
theorem lt_or {s t:List UInt8} : (!(ltS s t||decide (s=t)))=ltS t s:=by
 have h1:=q3p s t
 have h2:=q3p t s
 unfold ltS
 rw [h1,h2]
 have ha:=(q3v q3o).anti s t
 have hz:cmpL ji7 s t=0↔s=t:=(q3v q3o).zero
 have hr:=(q3v q3o).rng s t
 rw [Bool.eq_iff_iff]
 simp only [Bool.not_eq_true',Bool.or_eq_false_iff,decide_eq_false_iff_not,decide_eq_true_eq,<-hz]
 generalize cmpL ji7 s t=x at ha hr
 generalize cmpL ji7 t s=y at ha
 omega
theorem q3b (n:Nat) (a b:List FD) (hab:a.length+b.length<=500000) : ∀(m i k:Nat) (ops:List OD),i<=a.length->k<=b.length->(a.length - i)+(b.length - k)<m->ops.length+(a.length - i)+(b.length - k)<=1000000 ->
  q6d n m a b (i:Int) (k:Int) ops=some (((),()),((),(ops++q1n ((a.length - i)+(b.length - k)) (a.drop i) (b.drop k),())))
 | 0,i,k,ops,_,_,h,_=>absurd h (Nat.not_lt_zero _)
 | m+1,i,k,ops,hi,hk,h,ho=>by
  rw [qg4]
  unfold qo3
  have ap:=fun r=>jc7 (show ops.length<=1000000 by omega) r
  have wi:IntKind.wrap .i64 (((i:Nat):Int)+1)=((i+1:Nat):Int):=q0w (by omega)
  have wk:IntKind.wrap .i64 (((k:Nat):Int)+1)=((k+1:Nat):Int):=q0w (by omega)
  by_cases ci:i<a.length
  ·have ci1:((i:Nat):Int)<((a.length:Nat):Int):=by omega
   have ci2 : ¬ ((i:Nat):Int)=((a.length:Nat):Int):=by omega
   have da:a.drop i=a[i]::a.drop (i+1):=List.drop_eq_getElem_cons ci
   by_cases ck:k<b.length
   ·have ck1:((k:Nat):Int)<((b.length:Nat):Int):=by omega
    have ck2 : ¬ ((k:Nat):Int)=((b.length:Nat):Int):=by omega
    have db:b.drop k=b[k]::b.drop (k+1):=List.drop_eq_getElem_cons ck
    have i1:=q3b n a b hab m (i+1) k (ops ++ [(true,(a[i].1,[]))]) (by omega) (by omega) (by omega) (by simp;omega)
    have i2:=q3b n a b hab m i (k+1) (ops ++ [(false,(b[k].1,b[k].2))]) (by omega) (by omega) (by omega) (by simp;omega)
    have i3:=q3b n a b hab m (i+1) (k+1) (ops ++ [(false,(b[k].1,b[k].2))]) (by omega) (by omega) (by omega) (by simp;omega)
    have i4:=q3b n a b hab m (i+1) (k+1) ops (by omega) (by omega) (by omega) (by omega)
    have e1:q1n ((a.length - i)+(b.length - (k+1))) (a.drop i) (b.drop (k+1))=q1n ((a.length - (i+1))+(b.length - k)) (a.drop i) (b.drop (k+1)):=by
     rw [show (a.length - i)+(b.length - (k+1))=(a.length - (i+1))+(b.length - k) from by omega]
    have e2:q1n ((a.length - (i+1))+(b.length - (k+1))) (a.drop (i+1)) (b.drop (k+1))=q1n ((a.length - (i+1))+(b.length - k)) (a.drop (i+1)) (b.drop (k+1)):=by
     rw [qp4 ((a.length - (i+1))+(b.length - k)) _ _ (by simp;omega)];simp
    have d:q1n ((a.length - i)+(b.length - k)) (a.drop i) (b.drop k)=if ltS a[i].1 b[k].1 then (true,(a[i].1,[]))::q1n ((a.length - (i+1))+(b.length - k)) (a.drop (i+1)) (b.drop k) else if ltS b[k].1 a[i].1 then (false,b[k])::q1n ((a.length - i)+(b.length - (k+1))) (a.drop i) (b.drop (k+1)) else if a[i].2=b[k].2 then q1n ((a.length - (i+1))+(b.length - (k+1))) (a.drop (i+1)) (b.drop (k+1)) else (false,b[k])::q1n ((a.length - (i+1))+(b.length - (k+1))) (a.drop (i+1)) (b.drop (k+1)):=by
     rw [e1,e2,show (a.length - i)+(b.length - k)=((a.length - (i+1))+(b.length - k))+1 from by omega]
     conv=>lhs;rw [da,db,q1n]
     rw [<-da,<-db]
    rw [d]
    simp only [ci1,ci2,ck1,ck2,decide_true,decide_false,cond_true,cond_false,q26 ci,q26 ck,ap,Option.bind_some,q0n,wi,wk,i1,i2,i3,i4,lt_or]
    cases ltS a[i].1 b[k].1 with
    | true=>simp
    | false=>cases ltS b[k].1 a[i].1 with
     | true=>simp
     | false =>
           by_cases hd:a[i].2=b[k].2
           ·simp [hd]
           ·simp [hd]
   ·have hk2:k=b.length:=by omega
    subst hk2
    have i1:=q3b n a b hab m (i+1) b.length (ops ++ [(true,(a[i].1,[]))]) (by omega) (by omega) (by omega) (by simp;omega)
    have db:b.drop b.length = []:=List.drop_length
    have d:q1n ((a.length - i)+(b.length - b.length)) (a.drop i) (b.drop b.length)=(true,(a[i].1,[]))::q1n ((a.length - (i+1))+(b.length - b.length)) (a.drop (i+1)) (b.drop b.length):=by
     rw [show (a.length - i)+(b.length - b.length)=((a.length - (i+1))+(b.length - b.length))+1 from by omega,da,db,q1n]
    rw [d]
    simp only [ci1,decide_true,cond_true,q26 ci,ap,Option.bind_some,q0n,wi,i1]
    simp
  ·have hi2:i=a.length:=by omega
   subst hi2
   have da:a.drop a.length = []:=List.drop_length
   by_cases ck:k<b.length
   ·have ck1:((k:Nat):Int)<((b.length:Nat):Int):=by omega
    have ck2 : ¬ ((k:Nat):Int)=((b.length:Nat):Int):=by omega
    have db:b.drop k=b[k]::b.drop (k+1):=List.drop_eq_getElem_cons ck
    have i2:=q3b n a b hab m a.length (k+1) (ops ++ [(false,(b[k].1,b[k].2))]) (by omega) (by omega) (by omega) (by simp;omega)
    have d:q1n ((a.length - a.length)+(b.length - k)) (a.drop a.length) (b.drop k)=(false,b[k])::q1n ((a.length - a.length)+(b.length - (k+1))) (a.drop a.length) (b.drop (k+1)):=by
     rw [show (a.length - a.length)+(b.length - k)=((a.length - a.length)+(b.length - (k+1)))+1 from by omega,da,db,q1n]
    rw [d]
    simp only [Int.lt_irrefl,ck1,ck2,decide_true,decide_false,cond_true,cond_false,q26 ck,ap,Option.bind_some,q0n,wk,i2]
    simp
   ·have hk2:k=b.length:=by omega
    subst hk2
    have db:b.drop b.length = []:=List.drop_length
    rw [da,db,qyu]
    simp only [Int.lt_irrefl,decide_false,cond_false,List.append_nil]
theorem j0v (n:Nat) (a b:List FD) (ha:a.length<=100000) (hb:b.length<=100000) (hpa : ∀f∈a,f.1.length<=1000000) (hpb : ∀f∈b,f.1.length<=1000000) (hn:a.length+b.length<n) (hn2:100<=n):qek n a b=some (q7b a b):=by
 unfold qek q7b
 rw [qh1 n a (by omega) hpa hn2 (by omega),qh1 n b (by omega) hpb hn2 (by omega)]
 have:=q3b n a b (by omega) n 0 0 [] (Nat.zero_le _) (Nat.zero_le _) (by omega) (by simp;omega)
 rw [show ((0:Nat):Int)=(0:Int) from rfl] at this
 simp only [this,Option.bind_some]
 cases q7s a<;>cases q7s b<;>rfl
end Go.Proofs.YthpgnliicpejoaaGreatDoor.AM
namespace Go.Proofs.YthpgnliicpejoaaGreatDoor.AM
open Go.RowKit
set_option linter.unusedVariables false
set_option linter.unusedSimpArgs false
theorem j8s {s t:List UInt8} (h:s.length+t.length<=9223372036854775807):q4s s t=some (s++t):=if_pos h
theorem shr8 (k:Nat):jmf .i64 ((k:Nat):Int) (8:Int)=some ((k / 256:Nat):Int):=by
 unfold jmf;rw [if_pos (by decide)]
 have e:(2:Int) ^ (min (8:Int).toNat (IntKind.bits .i64))=256:=by decide
 rw [e,Int.fdiv_eq_ediv_of_nonneg _ (by decide)];rfl
theorem jta (k:Nat):b8 ((k:Nat):Int)=b8 ((k % 256:Nat):Int):=by
 unfold b8
 rw [IntKind.wrap_u8,IntKind.wrap_u8]
 congr 2;omega
theorem jay (n:Nat) (o:OD) (h1:o.2.1.length<=1000000) (h2:o.2.2.length<=1000000):jcn n o=some (qhl o):=by
 unfold jcn qhl
 simp only [q0n,shr8,Option.bind_some,List.map_cons,List.map_nil]
 rw [j8s (by simp;omega)]
 simp only [Option.bind_some]
 rw [j8s (by simp;omega),j8s (by simp;omega)]
 simp only [Option.bind_some]
 rw [j8s (by simp;omega)]
 simp only [Option.bind_some]
 rw [j8s (by simp;omega)]
 cases o.1 with
 | true=>simp [b8]
 | false =>
  simp only [cond_false,Option.bind_some]
  have:=jta o.2.2.length
  unfold b8 at this ⊢
  simp [this]
theorem qei (n:Nat) (l:List OD) (hL:l.length<=1000000) (hs : ∀o∈l,o.2.1.length<=1000000/\o.2.2.length<=1000000) (hn:100<=n) : ∀(m j:Nat) (s:List UInt8),j<=l.length->l.length - j<m->s.length<=j*3000000 ->
  q32 n m l s (j:Int)=some (if (q6a (l.drop j)).2=0 then Sum.inr ((s++(q6a (l.drop j)).1,()),((),())) else Sum.inl (([],((q6a (l.drop j)).2,())),((),())))
 | 0,j,s,_,h,_=>absurd h (Nat.not_lt_zero _)
 | m+1,j,s,hj,h,hsl=>by
  rw [qbv]
  unfold qbt
  by_cases c0:j<l.length
  ·have c0':((j:Nat):Int)<((l.length:Nat):Int):=by omega
   have hd:l.drop j=l[j]::l.drop (j+1):=(List.drop_eq_getElem_cons c0)
   obtain ⟨hp1,hp2⟩:=hs _ (List.getElem_mem c0)
   have hx:q1f l ((j:Nat):Int)=some l[j]:=q26 c0
   have ih:=fun s' hs'=>qei n l hL hs hn m (j+1) s' (by omega) (by omega) hs'
   rw [hd,hx]
   generalize l[j]=o at hp1 hp2
   obtain ⟨g,p,d⟩:=o
   dsimp only at hp1 hp2
   have e4:q4w n p=some (q3n p):=qcj n _ hp1 hn
   have wj:IntKind.wrap .i64 (((j:Nat):Int)+1)=((j+1:Nat):Int):=q0w (by omega)
   have q1:qo9 .i64 ((d.length:Nat):Int) (256:Int)=some ((d.length / 256:Nat):Int):=by
    unfold qo9;rw [if_pos (by decide),Int.tdiv_eq_ediv_of_nonneg (by omega),wrap64 (by omega) (by omega)];rfl
   have q2:j71 ((d.length:Nat):Int) (256:Int)=some ((d.length % 256:Nat):Int):=by
    unfold j71;rw [if_pos (by decide),Int.tmod_eq_emod_of_nonneg (by omega)];rfl
   have o0:UInt8.ofNat (0:Int).toNat=0:=rfl
   have o1:UInt8.ofNat (1:Int).toNat=1:=rfl
   have hb : ∀x:Int,UInt8.ofNat (IntKind.wrap .u8 x).toNat=b8 x:=fun _=>rfl
   have hc:decide ((4096:Int)<((d.length:Nat):Int))=decide (4096<d.length):=decide_eq_decide.2 (by omega)
   have fin : ∀(L:List UInt8),qhl (g,(p,d))=L->q8p (g,(p,d))=0->L.length<=3000000 ->
     q32 n m l (s++L) ((j+1:Nat):Int)=some (if (q6a ((g,(p,d))::l.drop (j+1))).2=0 then Sum.inr ((s++(q6a ((g,(p,d))::l.drop (j+1))).1,()),((),())) else Sum.inl (([],((q6a ((g,(p,d))::l.drop (j+1))).2,())),((),()))):=fun L h1 h2 h3=>by
    rw [ih (s++L) (by rw [List.length_append];omega),q6a,if_pos h2,h1]
    by_cases he:(q6a (l.drop (j+1))).2=0
    ·simp [he]
    ·simp [he]
   have bad : ∀e:Int,q8p (g,(p,d))=e->e≠0->(some (Sum.inl (([],(e,())),((),()))):Option ((((List UInt8)×(Int×(Unit)))×(Unit)×(Unit))⊕(((List UInt8)×(Unit))×(Unit)×(Unit))))=some (if (q6a ((g,(p,d))::l.drop (j+1))).2=0 then Sum.inr ((s++(q6a ((g,(p,d))::l.drop (j+1))).1,()),((),())) else Sum.inl (([],((q6a ((g,(p,d))::l.drop (j+1))).2,())),((),()))):=fun e h1 h2=>by
    have he:q6a ((g,(p,d))::l.drop (j+1))=([],e):=by
     have hn0 : ¬ q8p (g,(p,d))=0:=fun h=>h2 (h1.symm.trans h)
     rw [q6a,if_neg hn0,h1]
    rw [he];simp [h2]
   have key0:(q4s s [1,b8 p.length]).bind (fun s4=>q4s s4 p)=some (s++([1,b8 p.length]++p)):=by
    rw [j8s (by simp;omega),Option.bind_some,j8s (by simp;omega),List.append_assoc]
   have ck:(decide (4096<d.length)=true->q3n p=true->(g=true->d = [])->q8p (g,(p,d))=2):=fun h1 h2 h3=>by
    unfold q8p
    have h1':4096<d.length:=of_decide_eq_true h1
    cases g with
    | true=>rw [h3 rfl] at h1';simp at h1'
    | false=>simp [h2,h1']
   simp only [c0',decide_true,cond_true,Option.bind_some,e4,q1,q2,q0n,wj,List.map_cons,List.map_nil,hb,o0,o1,hc]
   cases hp:q3n p with
   | false=>exact bad 6 (by unfold q8p;simp [hp]) (by decide)
   | true =>
    by_cases c1:4096<d.length
    ·cases g with
     | true =>
      have hd0:d ≠ []:=fun h=>by rw [h] at c1;simp at c1
      simp only [hd0,decide_false,Bool.not_false,Bool.not_true,cond_true,cond_false]
      exact bad 1 (by unfold q8p;simp [hp,hd0]) (by decide)
     | false =>
      simp only [c1,decide_true,Bool.not_true,cond_true,cond_false]
      exact bad 2 (by unfold q8p;simp [hp,c1]) (by decide)
    ·cases g with
     | true =>
      by_cases hd0:d = []
      ·subst hd0
       simp only [c1,decide_true,decide_false,Bool.not_true,Bool.not_false,cond_true,cond_false]
       rw [j8s (by simp;omega)]
       simp only [Option.bind_some]
       rw [j8s (by simp;omega)]
       simp only [Option.bind_some,List.append_assoc]
       exact fin _ (by unfold qhl;simp) (by unfold q8p;simp [hp]) (by simp;omega)
      ·simp only [hd0,decide_false,Bool.not_false,Bool.not_true,cond_true,cond_false]
       exact bad 1 (by unfold q8p;simp [hp,hd0]) (by decide)
     | false =>
      simp only [c1,decide_false,Bool.not_true,Bool.not_false,cond_true,cond_false]
      rw [j8s (by simp;omega)]
      simp only [Option.bind_some]
      rw [j8s (by simp;omega)]
      simp only [Option.bind_some]
      rw [j8s (by simp;omega)]
      simp only [Option.bind_some]
      rw [j8s (by simp;omega)]
      simp only [Option.bind_some,List.append_assoc]
      exact fin _ (by unfold qhl;simp) (by unfold q8p;simp [hp,c1]) (by simp;omega)
  ·have c0' : ¬ ((j:Nat):Int)<((l.length:Nat):Int):=by omega
   have e1:l.drop j = []:=List.drop_eq_nil_of_le (by omega)
   simp [c0',e1,q6a]
theorem qee (n:Nat) (l:List OD) (hL:l.length<=1000000) (hs : ∀o∈l,o.2.1.length<=1000000/\o.2.2.length<=1000000) (hn:100<=n) (hn2:l.length<n):q40 n l=some (q6q l):=by
 unfold q40 q6q
 have:=qei n l hL hs hn n 0 [] (Nat.zero_le _) (by omega) (by simp)
 rw [show ((0:Nat):Int)=(0:Int) from rfl,List.drop_zero] at this
 rw [this]
 by_cases he:(q6a l).2=0
 ·have hc:decide ((4096:Int)<(((q6a l).1.length:Nat):Int))=decide (4096<(q6a l).1.length):=decide_eq_decide.2 (by omega)
  by_cases h2:4096<(q6a l).1.length
  ·have h2':(4096:Int)<(((q6a l).1.length:Nat):Int):=by omega
   simp [he,h2,h2']
  ·have h2' : ¬ (4096:Int)<(((q6a l).1.length:Nat):Int):=by omega
   simp [he,h2,h2']
 ·simp [he]
end Go.Proofs.YthpgnliicpejoaaGreatDoor.AM
namespace Go.Proofs.YthpgnliicpejoaaGreatDoor.AM
open Go.RowKit
set_option linter.unusedVariables false
set_option linter.unusedSimpArgs false
theorem qcl (A B:List UInt8) (x:UInt8) {j:Int} (hj:j=(A.length:Int)):sAt (A++x::B) j=some ((x.toNat:Nat):Int):=by
 subst hj
 have:=qvy (s:=A++x::B) (j:=A.length) (by simp)
 rw [this];simp
theorem quk {β:Type} (A B:List β) (m:Nat) (hm:m<=B.length) {i j:Int} (hi:i=(A.length:Int)) (hj:j=((A.length+m:Nat):Int)):q3g (A++B) i j=some (B.take m):=by
 subst hi;subst hj
 have:=sub_le (l:=A++B) (a:=A.length) (b:=A.length+m) (by omega) (by simp;omega)
 rw [this]
 rw [List.drop_left,Nat.add_sub_cancel_left]
theorem shl8 (x:UInt8):jr7 .i64 ((x.toNat:Nat):Int) (8:Int)=some ((256*x.toNat:Nat):Int):=by
 have hx:=x.toNat_lt
 unfold jr7;rw [if_pos (by decide)]
 have e:(2:Int) ^ (min (8:Int).toNat (IntKind.bits .i64))=256:=by decide
 rw [e,wrap64 (by omega) (by omega)];congr 1;omega
theorem or8 (x y:UInt8):orI .i64 ((256*x.toNat:Nat):Int) ((y.toNat:Nat):Int)=((256*x.toNat+y.toNat:Nat):Int):=by
 have hx:=x.toNat_lt
 have hy:=y.toNat_lt
 unfold orI
 have h1:(BitVec.ofInt (IntKind.bits .i64) ((256*x.toNat:Nat):Int))=BitVec.ofNat 64 (256*x.toNat):=by rfl
 have h2:(BitVec.ofInt (IntKind.bits .i64) ((y.toNat:Nat):Int))=BitVec.ofNat 64 y.toNat:=by rfl
 rw [h1,h2]
 have h3:(BitVec.ofNat 64 (256*x.toNat) ||| BitVec.ofNat 64 y.toNat).toNat=256*x.toNat+y.toNat:=by
  rw [BitVec.toNat_or,BitVec.toNat_ofNat,BitVec.toNat_ofNat,Nat.mod_eq_of_lt (by omega),Nat.mod_eq_of_lt (by omega)]
  have h4:=Nat.shiftLeft_add_eq_or_of_lt (i:=8) (show y.toNat<2 ^ 8 by omega) x.toNat
  rw [Nat.shiftLeft_eq] at h4
  rw [show 256*x.toNat=x.toNat*2 ^ 8 from by omega,<-h4]
 show IntKind.wrap .i64 (((BitVec.ofNat 64 (256*x.toNat) ||| BitVec.ofNat 64 y.toNat).toNat:Nat):Int)=_
 rw [h3,wrap64 (by omega) (by omega)]
def q13 (s:List UInt8):OD×(Int×Bool):=match j1p s with
 | some (o,k)=>(o,(((k:Nat):Int),true))
 | none=>((false,([],[])),(0,false))
def oneR (s:List UInt8):OD×Int:=match j1p s with
 | some (o,k)=>(o,((k:Nat):Int))
 | none=>((false,([],[])),0)
theorem je0 {s:List UInt8} (h:s.length<2):j1p s=none:=by
 match s,h with
 | [],_=>rfl
 | [_],_=>rfl
theorem j8r (n:Nat) (s:List UInt8) (hs:s.length<=1000000):quf n s=some (oneR s):=by
 unfold quf oneR
 by_cases hlt:s.length<2
 ·have c0:decide (((s.length:Nat):Int)<(2:Int))=true:=by rw [decide_eq_true_eq];omega
  simp only [c0,cond_true]
  rw [je0 hlt]
 match s,hs,hlt with
 | [],_,h=>exact absurd (by decide) h
 | [_],_,h=>exact absurd (by simp) h
 | k::c::r,hs,_ =>
  have hc:=c.toNat_lt
  have hkt:=k.toNat_lt
  simp only [List.length_cons] at hs
  have c0:decide ((((k::c::r).length:Nat):Int)<(2:Int))=false:=by rw [decide_eq_false_iff_not,List.length_cons,List.length_cons];omega
  have wl:IntKind.wrap .i64 ((((k::c::r).length:Nat):Int) - 2)=((r.length:Nat):Int):=by rw [wrap64 (by simp;omega) (by simp;omega)];simp;omega
  have a1:sAt (k::c::r) (1:Int)=some ((c.toNat:Nat):Int):=qcl [k] r c rfl
  have a0:sAt (k::c::r) (0:Int)=some ((k.toNat:Nat):Int):=qcl [] (c::r) k rfl
  have w1:IntKind.wrap .i64 ((c.toNat:Nat):Int)=((c.toNat:Nat):Int):=wrap64 (by omega) (by omega)
  have w2:IntKind.wrap .i64 ((2:Int)+((c.toNat:Nat):Int))=((2+c.toNat:Nat):Int):=by rw [wrap64 (by omega) (by omega)];omega
  have b1:decide (((r.length:Nat):Int)<((c.toNat:Nat):Int))=decide (r.length<c.toNat):=decide_eq_decide.2 (by omega)
  have d1:decide (((k.toNat:Nat):Int)=(1:Int))=decide (k=1):=decide_eq_decide.2 (by
   constructor
   ·intro h;exact UInt8.toNat_inj.1 (by have e:(1:UInt8).toNat=1:=rfl;rw [e];omega)
   ·intro h;rw [h];rfl)
  have d2:decide ((1:Int)<((k.toNat:Nat):Int)) = !decide (k=0\/k=1):=by
   rw [<-decide_not]
   refine decide_eq_decide.2 ?_
   constructor
   ·rintro h (rfl|rfl)
    ·exact absurd h (by decide)
    ·exact absurd h (by decide)
   ·intro h
    have h0:k.toNat≠0:=fun e=>h (Or.inl (UInt8.toNat_inj.1 e))
    have h1:k.toNat≠1:=fun e=>h (Or.inr (UInt8.toNat_inj.1 e))
    omega
  rw [j1p]
  simp only [c0,cond_false,wl,a1,a0,Option.bind_some,q0n,w1,w2,b1,d1,d2]
  by_cases hk:k=0\/k=1
  ·rw [if_pos hk]
   by_cases hrc:r.length<c.toNat
   ·rw [if_pos hrc]
    simp only [hrc,decide_true,cond_true]
   ·rw [if_neg hrc]
    have p:q3g (k::c::r) (2:Int) ((2+c.toNat:Nat):Int)=some (r.take c.toNat):=quk [k,c] r c.toNat (by omega) rfl rfl
    have hde:decide (k=0\/k=1)=true:=decide_eq_true hk
    simp only [hrc,hde,decide_false,Bool.not_true,cond_false,p,Option.bind_some]
    by_cases hk1:k=1
    ·subst hk1
     simp only [decide_true,cond_true,if_true]
    ·rw [if_neg hk1]
     simp only [hk1,decide_false,cond_false]
     have wn:IntKind.wrap .i64 ((((k::c::r).length:Nat):Int) - ((2+c.toNat:Nat):Int))=((r.length - c.toNat:Nat):Int):=by rw [List.length_cons,List.length_cons,wrap64 (by omega) (by omega)];omega
     have b2:decide (((r.length - c.toNat:Nat):Int)<(2:Int))=decide (r.length<c.toNat+2):=decide_eq_decide.2 (by omega)
     simp only [wn,b2]
     by_cases h2:r.length<c.toNat+2
     ·simp only [h2,decide_true,cond_true]
      have hdl:(r.drop c.toNat).length<2:=by rw [List.length_drop];omega
      generalize r.drop c.toNat=R at hdl
      match R,hdl with
      | [],_=>simp
      | [_],_=>simp
     ·have hP:(r.take c.toNat).length=c.toNat:=by rw [List.length_take];omega
      have hr:r=r.take c.toNat++r.drop c.toNat:=(List.take_append_drop ..).symm
      have hdl:2<=(r.drop c.toNat).length:=by rw [List.length_drop];omega
      have hl2:r.length=c.toNat+(r.drop c.toNat).length:=by rw [List.length_drop];omega
      generalize r.drop c.toNat=R at hr hdl hl2
      match R,hdl with
      | x::y::t,_ =>
       have hx:=x.toNat_lt
       have hy:=y.toNat_lt
       generalize r.take c.toNat=P at hP hr
       subst hr
       simp only [List.length_cons] at hl2
       have s1:sAt (k::c::(P++x::y::t)) ((2+c.toNat:Nat):Int)=some ((x.toNat:Nat):Int):=qcl (k::c::P) (y::t) x (by simp;omega)
       have s2:sAt (k::c::(P++x::y::t)) ((3+c.toNat:Nat):Int)=some ((y.toNat:Nat):Int):=by
        have:=qcl (k::c::P ++ [x]) t y (j:=((3+c.toNat:Nat):Int)) (by simp;omega)
        simpa using this
       have wx:IntKind.wrap .i64 ((x.toNat:Nat):Int)=((x.toNat:Nat):Int):=wrap64 (by omega) (by omega)
       have wy:IntKind.wrap .i64 ((y.toNat:Nat):Int)=((y.toNat:Nat):Int):=wrap64 (by omega) (by omega)
       have wm:IntKind.wrap .i64 ((256:Int)*((x.toNat:Nat):Int))=((256*x.toNat:Nat):Int):=by rw [wrap64 (by omega) (by omega)];omega
       have w4:IntKind.wrap .i64 (((2+c.toNat:Nat):Int)+1)=((3+c.toNat:Nat):Int):=by rw [wrap64 (by omega) (by omega)];omega
       have w3:IntKind.wrap .i64 (((2+c.toNat:Nat):Int)+2)=((4+c.toNat:Nat):Int):=by rw [wrap64 (by omega) (by omega)];omega
       have w6:IntKind.wrap .i64 (((256*x.toNat:Nat):Int)+((y.toNat:Nat):Int))=((256*x.toNat+y.toNat:Nat):Int):=by rw [wrap64 (by omega) (by omega)];omega
       have w7:IntKind.wrap .i64 ((((P++x::y::t).length - c.toNat:Nat):Int) - 2)=((t.length:Nat):Int):=by rw [wrap64 (by omega) (by omega)];omega
       have w5:IntKind.wrap .i64 (((4+c.toNat:Nat):Int)+((256*x.toNat+y.toNat:Nat):Int))=((4+c.toNat+(256*x.toNat+y.toNat):Nat):Int):=by rw [wrap64 (by omega) (by omega)];omega
       have b3:decide (((t.length:Nat):Int)<((256*x.toNat+y.toNat:Nat):Int))=decide (t.length<256*x.toNat+y.toNat):=decide_eq_decide.2 (by omega)
       simp only [h2,decide_false,cond_false,s1,s2,Option.bind_some,wx,wy,wm,w3,w4,w5,w6,w7,b3]
       by_cases ht:t.length<256*x.toNat+y.toNat
       ·simp [ht]
       ·have q:q3g (k::c::(P++x::y::t)) ((4+c.toNat:Nat):Int) ((4+c.toNat+(256*x.toNat+y.toNat):Nat):Int)=some (t.take (256*x.toNat+y.toNat)):=by
         have:=quk (k::c::P ++ [x,y]) t (256*x.toNat+y.toNat) (by omega) (i:=((4+c.toNat:Nat):Int)) (j:=((4+c.toNat+(256*x.toNat+y.toNat):Nat):Int)) (by simp;omega) (by simp;omega)
         simpa using this
        simp only [ht,q,decide_false,cond_false,Option.bind_some,if_false]
  ·rw [if_neg hk]
   have hde:decide (k=0\/k=1)=false:=decide_eq_false hk
   simp only [hde,Bool.not_false,cond_true]
   cases decide (r.length<c.toNat)<;>rfl
theorem qfe (n:Nat) (s:List UInt8) (hs:s.length<=1000000) : ∀(m j:Nat) (acc:List OD),j<=s.length->s.length - j<m->acc.length<=j ->
  q4e n m s (j:Int) acc=some (match q2t (s.length - j+1) (s.drop j) with
   | some out=>Sum.inr ((s,((),())),((),(acc++out,())))
   | none=>Sum.inl (((),((1:Int),())),((),())))
 | 0,j,acc,_,h,_=>absurd h (Nat.not_lt_zero _)
 | m+1,j,acc,hj,h,ha=>by
  rw [qcf]
  unfold qc8
  by_cases c0:j<s.length
  ·have c0':((j:Nat):Int)<((s.length:Nat):Int):=by omega
   have hsub:q3g s ((j:Nat):Int) ((s.length:Nat):Int)=some (s.drop j):=by
    rw [sub_le (by omega) (Nat.le_refl _),List.take_of_length_le (by rw [List.length_drop];exact Nat.le_refl _)]
   have hone:=j8r n (s.drop j) (by rw [List.length_drop];omega)
   have hne:s.drop j ≠ []:=fun h=>by have:=congrArg List.length h;rw [List.length_drop] at this;simp at this;omega
   rw [q2t,if_neg hne]
   simp only [c0',decide_true,cond_true,hsub,hone,Option.bind_some]
   unfold oneR
   cases ho:j1p (s.drop j) with
   | none=>simp
   | some p =>
    obtain ⟨o,k⟩:=p
    obtain ⟨_,h3,h4⟩:=qd2 ho
    rw [List.length_drop] at h4
    have k0 : ¬ ((k:Nat):Int)=0:=by omega
    have ap:q2g 40 acc [o]=some (acc ++ [o]):=jc7 (by omega) o
    have wj:IntKind.wrap .i64 (((j:Nat):Int)+((k:Nat):Int))=((j+k:Nat):Int):=by rw [wrap64 (by omega) (by omega)];omega
    have ih:=qfe n s hs m (j+k) (acc ++ [o]) (by omega) (by omega) (by simp;omega)
    have hm:=qfw (s.length - j) (s.length - (j+k)+1) (s.drop (j+k)) (by rw [List.length_drop];omega) (by rw [List.length_drop];omega)
    simp only [k0,decide_false,cond_false,ap,Option.bind_some,q0n,wj,ih,List.drop_drop,hm]
    cases q2t (s.length - (j+k)+1) (s.drop (j+k)) with
    | none=>rfl
    | some out=>simp
  ·have c0' : ¬ ((j:Nat):Int)<((s.length:Nat):Int):=by omega
   have e1:s.drop j = []:=List.drop_eq_nil_of_le (by omega)
   rw [e1,q2t]
   simp [c0']
theorem qda : ∀(m:Nat) (s:List UInt8) (out:List OD),q2t m s=some out->out.length<=s.length/\∀o∈out,o.2.1.length<=s.length/\o.2.2.length<=s.length
 | 0,_,_,h=>by cases h
 | m+1,s,out,h=>by
  rw [q2t] at h
  split at h
  ·cases h;exact ⟨Nat.zero_le _,fun o ho=>by cases ho⟩
  ·split at h
   case h_2=>cases h
   rename_i o k ho
   cases hp:q2t m (s.drop k) with
   | none=>rw [hp] at h;cases h
   | some out' =>
    rw [hp] at h
    have:out=o::out':=by simpa using h.symm
    subst this
    obtain ⟨h1,h2,h3⟩:=qd2 ho
    obtain ⟨i1,i2⟩:=qda m _ _ hp
    rw [List.length_drop] at i1 i2
    have hlay:(qhl o).length<=s.length:=by have:=congrArg List.length h1;rw [List.length_append] at this;omega
    refine ⟨by simp;omega,fun o' ho'=>?_⟩
    rcases List.mem_cons.1 ho' with rfl|hm
    ·unfold qhl at hlay
     refine ⟨by simp at hlay;omega,?_⟩
     obtain ⟨g,p,d⟩:=o'
     cases g with
     | true =>
      have hd0:d = []:=by
       match s,ho with
       | kk::c::r,ho =>
        rw [j1p] at ho
        split at ho
        case isFalse=>cases ho
        split at ho
        case isTrue=>cases ho
        split at ho
        ·simp only [Option.some.injEq,Prod.mk.injEq] at ho;exact ho.1.2.2.symm
        ·split at ho
         case h_2=>cases ho
         split at ho
         ·cases ho
         ·simp at ho
      rw [hd0];exact Nat.zero_le _
     | false=>simp at hlay ⊢;omega
    ·have:=i2 o' hm;omega
theorem qt9 (n:Nat) (s:List UInt8) (hs:s.length<=1000000) (hn:100<=n) (hn2:s.length<n):qbe n s=some (q8t s):=by
 unfold qbe q8t
 have:=qfe n s hs n 0 [] (Nat.zero_le _) (by omega) (Nat.le_refl _)
 rw [show ((0:Nat):Int)=(0:Int) from rfl,List.drop_zero,Nat.sub_zero] at this
 rw [this]
 cases hp:q2t (s.length+1) s with
 | none=>rfl
 | some out =>
  obtain ⟨h1,h2⟩:=qda _ _ _ hp
  have he:=qee n out (by omega) (fun o ho=>by have:=h2 o ho;omega) hn (by omega)
  simp only [Option.bind_some,Sum.elim_inr,List.nil_append,he]
  by_cases c1:(q6q out).2=0
  ·by_cases c2:(q6q out).1=s
   ·simp [c1,c2]
   ·simp [c1,c2]
  ·simp [c1]
end Go.Proofs.YthpgnliicpejoaaGreatDoor.AM
namespace Go.Proofs.YthpgnliicpejoaaGreatDoor.AM
open Go.RowKit
set_option linter.unusedVariables false
set_option linter.unusedSimpArgs false
def q14 (l:List FD) (p:List UInt8):List FD:=l.filter fun f=>!decide (f.1=p)
def q70 (f:FD):List FD->List FD×Bool
 | []=>([],false)
 | x::t=>if ltS f.1 x.1 then (f::x::t,true) else (x::(q70 f t).1,(q70 f t).2)
def qy6 (f:FD) (l:List FD):List FD:=if (q70 f l).2 then (q70 f l).1 else (q70 f l).1 ++ [f]
def q2v (l:List FD) (o:OD):List FD×Int :=
 if q3n o.2.1 then (if o.1 then (if (qa4 l o.2.1).2 then (q14 l o.2.1,0) else ([],5)) else if 4096<o.2.2.length then ([],2) else if 40<=(q14 l o.2.1).length then ([],3) else (qy6 o.2 (q14 l o.2.1),0)) else ([],6)
def qim:List FD->List OD->List FD×Int
 | l,[]=>(l,0)
 | l,o::t=>if (q2v l o).2=0 then qim (q2v l o).1 t else ([],(q2v l o).2)
def q5c (l:List FD) (ops:List OD):List FD×Int:=if q7s l then qim l ops else ([],1)
theorem jd6 {l:List FD} (h:l.length<=1000000) (r:FD):q2g 32 l [r]=some (l ++ [r]):=if_pos (by simp;omega)
theorem q6t (n:Nat) (l:List FD) (p:List UInt8) (hL:l.length<=100000) : ∀(m j:Nat) (acc:List FD),j<=l.length->l.length - j<m->acc.length<=j->q3q n m l p (j:Int) acc=some (((),()),((),(acc++q14 (l.drop j) p,())))
 | 0,j,acc,_,h,_=>absurd h (Nat.not_lt_zero _)
 | m+1,j,acc,hj,h,ha=>by
  rw [qbm]
  unfold q9s
  by_cases c0:j<l.length
  ·have c0':((j:Nat):Int)<((l.length:Nat):Int):=by omega
   have i1:=q6t n l p hL m (j+1) (acc ++ [l[j]]) (by omega) (by omega) (by simp;omega)
   have i2:=q6t n l p hL m (j+1) acc (by omega) (by omega) (by omega)
   have hd:l.drop j=l[j]::l.drop (j+1):=(List.drop_eq_getElem_cons c0)
   have hw:q14 (l.drop j) p=if l[j].1=p then q14 (l.drop (j+1)) p else l[j]::q14 (l.drop (j+1)) p:=by
    rw [hd];unfold q14;rw [List.filter_cons]
    by_cases hc:l[j].1=p
    ·simp [hc]
    ·simp [hc]
   rw [hw]
   simp only [c0',decide_true,cond_true,q26 c0,Option.bind_some,jd6 (show acc.length<=1000000 by omega),q0n,q0w (show j<4611686018427387904 by omega),i1,i2]
   by_cases hc:l[j].1=p
   ·simp [hc]
   ·simp [hc]
  ·have c0' : ¬ ((j:Nat):Int)<((l.length:Nat):Int):=by omega
   have e1:l.drop j = []:=List.drop_eq_nil_of_le (by omega)
   simp [c0',e1,q14]
theorem qoh (n:Nat) (l:List FD) (p:List UInt8) (hL:l.length<=100000) (hn:l.length<n):q2x n l p=some (q14 l p):=by
 unfold q2x
 have:=q6t n l p hL n 0 [] (Nat.zero_le _) (by omega) (Nat.le_refl _)
 rw [show ((0:Nat):Int)=(0:Int) from rfl,List.drop_zero] at this
 rw [this];rfl
theorem qcy (n:Nat) (l:List FD) (f:FD) (hL:l.length<=100000) : ∀(m j:Nat) (b:Bool) (acc:List FD),j<=l.length->l.length - j<m->acc.length<=2*j+2 ->
  q6h n m l b (j:Int) f.1 f.2 acc=some (((),((),(b||(q70 f (l.drop j)).2,()))),(((f.1,f.2),()),(acc++(if b then l.drop j else (q70 f (l.drop j)).1),())))
 | 0,j,b,acc,_,h,_=>absurd h (Nat.not_lt_zero _)
 | m+1,j,b,acc,hj,h,ha=>by
  rw [qh9]
  unfold qnz
  by_cases c0:j<l.length
  ·have c0':((j:Nat):Int)<((l.length:Nat):Int):=by omega
   have hd:l.drop j=l[j]::l.drop (j+1):=(List.drop_eq_getElem_cons c0)
   have hw:q70 f (l.drop j)=if ltS f.1 l[j].1 then (f::l.drop j,true) else (l[j]::(q70 f (l.drop (j+1))).1,(q70 f (l.drop (j+1))).2):=by rw [hd,q70]
   rw [hw]
   have a1:q2g 32 acc [l[j]]=some (acc ++ [l[j]]):=jd6 (by omega) _
   have a2:q2g 32 acc [(f.1,f.2)]=some (acc ++ [f]):=jd6 (by omega) _
   have a3:q2g 32 (acc ++ [f]) [l[j]]=some (acc ++ [f] ++ [l[j]]):=jd6 (by simp;omega) _
   have i1:=fun b=>qcy n l f hL m (j+1) b (acc ++ [l[j]]) (by omega) (by omega) (by simp;omega)
   have i2:=qcy n l f hL m (j+1) true (acc ++ [f] ++ [l[j]]) (by omega) (by omega) (by simp;omega)
   simp only [c0',decide_true,cond_true,q26 c0,Option.bind_some,q0n,q0w (show j<4611686018427387904 by omega),a1,a2,a3,i1,i2]
   cases b with
   | true=>rw [hd];simp only [Bool.not_true,Bool.not_false,cond_true,cond_false,Bool.false_or,Bool.true_or,if_true,List.append_assoc,List.cons_append,List.nil_append]
   | false =>
    cases ltS f.1 l[j].1 with
    | true=>rw [hd];simp only [Bool.not_true,Bool.not_false,cond_true,cond_false,Bool.false_or,Bool.true_or,Bool.or_true,if_true,Bool.false_eq_true,if_false,List.append_assoc,List.cons_append,List.nil_append]
    | false=>simp
  ·have c0' : ¬ ((j:Nat):Int)<((l.length:Nat):Int):=by omega
   have e1:l.drop j = []:=List.drop_eq_nil_of_le (by omega)
   cases b<;>simp [c0',e1,q70]
theorem j27 (n:Nat) (l:List FD) (f:FD) (hL:l.length<=100000) (hn:l.length<n):q6o n l f=some (qy6 f l):=by
 unfold q6o qy6
 have:=qcy n l f hL n 0 false [] (Nat.zero_le _) (by omega) (by simp)
 rw [show ((0:Nat):Int)=(0:Int) from rfl,List.drop_zero] at this
 rw [this]
 have hl : ∀l:List FD,(q70 f l).1.length<=l.length+1:=by
  intro l
  induction l with
  | nil=>simp [q70]
  | cons x t ih =>
           rw [q70];split
           ·simp
           ·simp;omega
 simp only [Option.bind_some,Bool.false_or,Bool.false_eq_true,if_false,List.nil_append]
 cases hw:(q70 f l).2 with
 | true=>rfl
 | false =>
  simp only [Bool.not_false,cond_true]
  rw [show ((f.1,f.2):FD)=f from rfl,jd6 (by have:=hl l;omega) f];rfl
theorem qyw (f:FD) : ∀l:List FD,(q70 f l).1.length<=l.length+1
 | []=>by simp [q70]
 | x::t=>by
  have ih:=qyw f t
  rw [q70];split
  ·simp
  ·simp;omega
theorem jqw (f:FD) (l:List FD):(qy6 f l).length<=l.length+2:=by
 have:=qyw f l
 unfold qy6;split
 ·omega
 ·simp;omega
theorem qkm (l:List FD) (p:List UInt8):(q14 l p).length<=l.length:=List.length_filter_le ..
theorem q91 (n:Nat) (ops:List OD) (hL:ops.length<=10000) (hp : ∀o∈ops,o.2.1.length<=1000000) (hn:100<=n) (hn2:30000<n) : ∀(m j:Nat) (l:List FD),j<=ops.length->ops.length - j<m->l.length<=2*j+50 ->
  q4u n m ops l (j:Int)=some (if (qim l (ops.drop j)).2=0 then Sum.inr (((qim l (ops.drop j)).1,()),((),())) else Sum.inl (((),((qim l (ops.drop j)).2,())),((),())))
 | 0,j,l,_,h,_=>absurd h (Nat.not_lt_zero _)
 | m+1,j,l,hj,h,hl=>by
  rw [qe3]
  unfold qgx
  by_cases c0:j<ops.length
  ·have c0':((j:Nat):Int)<((ops.length:Nat):Int):=by omega
   have hd:ops.drop j=ops[j]::ops.drop (j+1):=(List.drop_eq_getElem_cons c0)
   have hpo:=hp _ (List.getElem_mem c0)
   rw [hd]
   have hx:q1f ops ((j:Nat):Int)=some ops[j]:=q26 c0
   rw [hx]
   generalize ops[j]=o at hpo
   have hwl:=qkm l o.2.1
   have hil:=jqw o.2 (q14 l o.2.1)
   have g1:qky n l o.2.1=some (qa4 l o.2.1):=j7d n l _ (by omega) (by omega)
   have g2:q4w n o.2.1=some (q3n o.2.1):=qcj n _ hpo hn
   have g3:q2x n l o.2.1=some (q14 l o.2.1):=qoh n l _ (by omega) (by omega)
   have g4:q6o n (q14 l o.2.1) o.2=some (qy6 o.2 (q14 l o.2.1)):=j27 n _ _ (by omega) (by omega)
   have i1:=q91 n ops hL hp hn hn2 m (j+1) (q14 l o.2.1) (by omega) (by omega) (by omega)
   have i2:=q91 n ops hL hp hn hn2 m (j+1) (qy6 o.2 (q14 l o.2.1)) (by omega) (by omega) (by omega)
   have b1:decide ((4096:Int)<((o.2.2.length:Nat):Int))=decide (4096<o.2.2.length):=decide_eq_decide.2 (by omega)
   have b2:decide ((40:Int)<=(((q14 l o.2.1).length:Nat):Int))=decide (40<=(q14 l o.2.1).length):=decide_eq_decide.2 (by omega)
   simp only [c0',decide_true,cond_true,Option.bind_some,g1,g2,g3,g4,b1,b2,q0n,q0w (show j<4611686018427387904 by omega),i1,i2]
   rw [qim]
   unfold q2v
   cases q3n o.2.1 with
   | false=>simp
   | true =>
    cases o.1 with
    | true =>
     cases (qa4 l o.2.1).2 with
     | false=>simp
     | true=>simp
    | false =>
     by_cases h1:4096<o.2.2.length
     ·simp [h1]
     ·by_cases h2:40<=(q14 l o.2.1).length
      ·simp [h1,h2]
      ·simp [h1,h2]
  ·have c0' : ¬ ((j:Nat):Int)<((ops.length:Nat):Int):=by omega
   have e1:ops.drop j = []:=List.drop_eq_nil_of_le (by omega)
   simp [c0',e1,qim]
theorem j6r : ∀(ops:List OD) (l:List FD),(qim l ops).2≠0->(qim l ops).1 = []
 | [],l,h=>absurd rfl h
 | o::t,l,h=>by
  rw [qim] at h ⊢
  split at h
  ·rename_i hc;rw [if_pos hc];exact j6r t _ h
  ·rename_i hc;rw [if_neg hc]
theorem qi8 (n:Nat) (l:List FD) (ops:List OD) (hL:ops.length<=10000) (hl:l.length<=10000) (hlp : ∀f∈l,f.1.length<=1000000) (hp : ∀o∈ops,o.2.1.length<=1000000) (hn:100<=n) (hn2:30000<n):q5k n l ops=some (q5c l ops):=by
 unfold q5k q5c
 rw [qh1 n l (by omega) hlp hn (by omega)]
 cases hm:q7s l with
 | false=>rfl
 | true =>
  have h40:l.length<=40:=by unfold q7s at hm;simp only [Bool.and_eq_true,decide_eq_true_eq] at hm;exact hm.1
  have ha:q2g 32 ([]:List FD) l=some l:=by unfold q2g;rw [if_pos (by simp;omega)];rfl
  have:=q91 n ops hL hp hn hn2 n 0 l (Nat.zero_le _) (by omega) (by omega)
  rw [show ((0:Nat):Int)=(0:Int) from rfl,List.drop_zero] at this
  simp only [Option.bind_some,Bool.not_true,cond_false,ha,this]
  by_cases he:(qim l ops).2=0
  ·have e:qim l ops=((qim l ops).1,0):=by rw [<-he]
   simp only [he,if_true,Option.bind_some,Sum.elim_inr]
   rw [<-e]
  ·have e:qim l ops=([],(qim l ops).2):=by rw [<-j6r ops l he]
   simp only [he,if_false,if_true,Option.bind_some,Sum.elim_inl]
   rw [<-e]
end Go.Proofs.YthpgnliicpejoaaGreatDoor.AM
namespace Go.Proofs.YthpgnliicpejoaaGreatDoor.AM
open Go.RowKit
set_option linter.unusedVariables false
set_option linter.unusedSimpArgs false
abbrev l0:List FD:=[([97,47,120],[49]),([98],[51])]
end Go.Proofs.YthpgnliicpejoaaGreatDoor.AM
namespace Go.Proofs.YthpgnliicpejoaaGreatDoor.AM
open Go.RowKit
set_option linter.unusedVariables false
set_option linter.unusedSimpArgs false
theorem j6p (s t:List UInt8):ltS s t=true↔cmpL ji7 s t<0:=by
 unfold ltS;rw [q3p,decide_eq_true_eq]
theorem q9w {s t u:List UInt8} (h1:ltS s t=true) (h2:ltS t u=true):ltS s u=true:=by
 rw [j6p] at *
 have ht:=(q3v q3o).tr s t u (by omega) (by omega)
 have hr:=(q3v q3o).rng s u
 rcases Int.lt_or_eq_of_le ht with h|h
 ·exact h
 ·have e:=(q3v q3o).eq s u h
  subst e
  have ha:=(q3v q3o).anti s t
  omega
theorem jmd (s:List UInt8):ltS s s=false:=by
 cases h:ltS s s with
 | false=>rfl
 | true=>rw [j6p,(q3v q3o).refl] at h;omega
theorem jn1 {s t:List UInt8} (h1:ltS s t=false) (h2:s≠t):ltS t s=true:=by
 rw [j6p]
 have h3 : ¬ cmpL ji7 s t<0:=fun h=>by rw [(j6p s t).2 h] at h1;cases h1
 have h4:cmpL ji7 s t≠0:=fun h=>h2 ((q3v q3o).eq s t h)
 have ha:=(q3v q3o).anti s t
 omega
def qwr (l:List FD):Prop:=l.Pairwise fun x y=>ltS x.1 y.1=true
theorem j41 : ∀l:List FD,qcd l=true↔qwr l
 | []=>by simp [qcd,qwr]
 | [x]=>by simp [qcd,qwr]
 | x::y::t=>by
  have ih:=j41 (y::t)
  unfold qwr at ih ⊢
  rw [qcd,Bool.and_eq_true,ih]
  constructor
  ·intro h
   have h1:=h.1
   have h2:=h.2
   refine List.pairwise_cons.2 ⟨fun z hz=>?_,h2⟩
   rcases List.mem_cons.1 hz with rfl|hz
   ·exact h1
   ·exact q9w h1 ((List.pairwise_cons.1 h2).1 z hz)
  ·intro h
   have h':=List.pairwise_cons.1 h
   exact ⟨h'.1 y (List.mem_cons_self ..),h'.2⟩
theorem jan (f:FD):qy6 f [] = [f]:=rfl
theorem qew (f x:FD) (t:List FD):qy6 f (x::t)=if ltS f.1 x.1 then f::x::t else x::qy6 f t:=by
 unfold qy6;rw [q70]
 split
 ·rfl
 ·simp only
  split<;>simp
theorem j1s (f y:FD) : ∀l:List FD,y∈qy6 f l↔y=f\/y∈l
 | []=>by simp [jan]
 | x::t=>by
  rw [qew]
  split
  ·simp
  ·rw [List.mem_cons,j1s f y t,List.mem_cons]
   constructor
   ·rintro (h|h|h)
    ·exact Or.inr (Or.inl h)
    ·exact Or.inl h
    ·exact Or.inr (Or.inr h)
   ·rintro (h|h|h)
    ·exact Or.inr (Or.inl h)
    ·exact Or.inl h
    ·exact Or.inr (Or.inr h)
theorem qp1 (f:FD) : ∀l:List FD,(qy6 f l).length=l.length+1
 | []=>rfl
 | x::t=>by
  rw [qew];split
  ·simp
  ·simp [qp1 f t]
def NoP (p:List UInt8) (l:List FD):Prop:=∀x∈l,x.1≠p
theorem j3m {f:FD} : ∀{l:List FD},qwr l->NoP f.1 l->qwr (qy6 f l)
 | [],_,_=>by unfold qwr;rw [jan];simp
 | x::t,h,hn=>by
  have ⟨h1,h2⟩:=List.pairwise_cons.1 h
  rw [qew]
  cases hc:ltS f.1 x.1 with
  | true =>
   simp only [if_true]
   refine List.pairwise_cons.2 ⟨fun z hz=>?_,h⟩
   rcases List.mem_cons.1 hz with rfl|hz
   ·exact hc
   ·exact q9w hc (h1 z hz)
  | false =>
   simp only [Bool.false_eq_true,if_false]
   refine List.pairwise_cons.2 ⟨fun z hz=>?_,j3m h2 (fun y hy=>hn y (List.mem_cons_of_mem _ hy))⟩
   rcases (j1s f z t).1 hz with rfl|hz
   ·exact jn1 hc (fun e=>hn x (List.mem_cons_self ..) e.symm)
   ·exact h1 z hz
theorem qhz {l:List FD} (p:List UInt8) (h:qwr l):qwr (q14 l p):=List.Pairwise.filter _ h
theorem qzm (l:List FD) (p:List UInt8):NoP p (q14 l p):=fun x hx=>by
 have:=(List.mem_filter.1 hx).2;simpa using this
theorem qbw {l:List FD} {p:List UInt8} (h:NoP p l):q14 l p=l:=by
 unfold q14;rw [List.filter_eq_self]
 intro x hx;simpa using h x hx
theorem jfu : ∀{l:List FD} {p:List UInt8},NoP p l->qa4 l p=([],false)
 | [],_,_=>rfl
 | x::t,p,h=>by
  rw [qa4,if_neg (h x (List.mem_cons_self ..))]
  exact jfu fun y hy=>h y (List.mem_cons_of_mem _ hy)
theorem qbr (l:List FD):q7s l=true↔l.length<=40/\(∀f∈l,okF f=true)/\qwr l:=by
 unfold q7s
 rw [Bool.and_eq_true,Bool.and_eq_true,decide_eq_true_eq,List.all_eq_true,j41]
theorem j4e {l:List FD} {o:OD} (hl:q7s l=true) (h:(q2v l o).2=0):q7s (q2v l o).1=true:=by
 rw [qbr] at hl ⊢
 obtain ⟨h1,h2,h3⟩:=hl
 have hw : ∀f∈q14 l o.2.1,okF f=true:=fun f hf=>h2 f (List.mem_filter.1 hf).1
 have hwl:=qkm l o.2.1
 unfold q2v at h ⊢
 cases hp:q3n o.2.1 with
 | false=>rw [hp] at h;simp at h
 | true =>
  rw [hp] at h
  simp only [if_true] at h ⊢
  cases ho:o.1 with
  | true =>
   rw [ho] at h
   simp only [if_true] at h ⊢
   cases hg:(qa4 l o.2.1).2 with
   | false=>rw [hg] at h;simp at h
   | true=>simp only [if_true];exact ⟨by omega,hw,qhz _ h3⟩
  | false =>
   rw [ho] at h
   simp only [Bool.false_eq_true,if_false] at h ⊢
   by_cases c1:4096<o.2.2.length
   ·rw [if_pos c1] at h;simp at h
   ·rw [if_neg c1] at h ⊢
    by_cases c2:40<=(q14 l o.2.1).length
    ·rw [if_pos c2] at h;simp at h
    ·rw [if_neg c2]
     refine ⟨by simp only [qp1];omega,fun f hf=>?_,j3m (qhz _ h3) (qzm _ _)⟩
     rcases (j1s o.2 f _).1 hf with rfl|hf
     ·unfold okF;rw [hp];simp;omega
     ·exact hw f hf
theorem jax : ∀(ops:List OD) {l:List FD},q7s l=true->(qim l ops).2=0->q7s (qim l ops).1=true
 | [],l,h,_=>h
 | o::t,l,h,h0=>by
  rw [qim] at h0 ⊢
  split at h0
  ·rename_i hc;rw [if_pos hc];exact jax t (j4e h hc) h0
  ·rename_i hc;exact absurd h0 hc
end Go.Proofs.YthpgnliicpejoaaGreatDoor.AM
namespace Go.Proofs.YthpgnliicpejoaaGreatDoor.AM
open Go.RowKit
set_option linter.unusedVariables false
set_option linter.unusedSimpArgs false
theorem j30 (y:FD) : ∀(P a:List FD),(∀x∈P,ltS y.1 x.1=false)->(∀x∈a,ltS y.1 x.1=true)->qy6 y (P++a)=P++y::a
 | [],[],_,_=>rfl
 | [],x::a,_,h=>by rw [List.nil_append,qew,if_pos (h x (List.mem_cons_self ..))];rfl
 | x::P,a,h1,h2=>by
  rw [List.cons_append,qew,h1 x (List.mem_cons_self ..),if_neg (by decide),j30 y P a (fun z hz=>h1 z (List.mem_cons_of_mem _ hz)) h2];rfl
theorem jgf {s t:List UInt8} (h:ltS s t=true):ltS t s=false:=by
 cases h2:ltS t s with
 | false=>rfl
 | true=>have:=q9w h h2;rw [jmd] at this;cases this
theorem jlt {s t:List UInt8} (h:ltS s t=true):s≠t:=fun e=>by subst e;rw [jmd] at h;cases h
theorem j5w {P a:List FD} : qwr (P++a)↔qwr P/\qwr a/\∀x∈P,∀y∈a,ltS x.1 y.1=true:=List.pairwise_append
theorem jbp (x:FD) : ∀(P a:List FD),(qa4 (P++x::a) x.1).2=true
 | [],a=>by rw [List.nil_append,qa4,if_pos rfl]
 | y::P,a=>by
  rw [List.cons_append,qa4]
  split
  ·rfl
  ·exact jbp x P a
theorem j3g {x:FD} {p:List UInt8} {P a:List FD} (hx:x.1=p) (h1:NoP p P) (h2:NoP p a):q14 (P++x::a) p=P++a:=by
 have e1:=qbw h1
 have e2:=qbw h2
 unfold q14 at *
 rw [List.filter_append,List.filter_cons,e1]
 simp [hx,e2]
theorem qnq {f:FD} (h:okF f=true):q3n f.1=true/\f.2.length<=4096:=by unfold okF at h;simpa using h
end Go.Proofs.YthpgnliicpejoaaGreatDoor.AM
namespace Go.Proofs.YthpgnliicpejoaaGreatDoor.AM
open Go.RowKit
set_option linter.unusedVariables false
set_option linter.unusedSimpArgs false
theorem get_mem : ∀{l:List FD} {p:List UInt8},(qa4 l p).2=true->∃ x∈l,x.1=p
 | [],_,h=>by cases h
 | x::t,p,h=>by
  rw [qa4] at h
  split at h
  ·rename_i hc;exact ⟨x,List.mem_cons_self ..,hc⟩
  ·obtain ⟨y,hy,e⟩:=get_mem h;exact ⟨y,List.mem_cons_of_mem _ hy,e⟩
structure Good (a b:List FD) (o:OD):Prop where
 from_:(qa4 a o.2.1).2=true\/(qa4 b o.2.1).2=true
 gone:o.1=((qa4 a o.2.1).2 && !(qa4 b o.2.1).2)
 put:o.1=false->(qa4 b o.2.1).2=true/\(qa4 b o.2.1).1=o.2.2/\((qa4 a o.2.1).2=true->(qa4 a o.2.1).1≠o.2.2)
 none_:o.1=true->o.2.2 = []
theorem Good.above {a b:List FD} {o:OD} (h:Good a b o) {p:List UInt8} (ha : ∀x∈a,ltS p x.1=true) (hb : ∀x∈b,ltS p x.1=true):ltS p o.2.1=true:=by
 rcases h.from_ with h|h
 ·obtain ⟨x,hx,e⟩:=get_mem h;rw [<-e];exact ha x hx
 ·obtain ⟨x,hx,e⟩:=get_mem h;rw [<-e];exact hb x hx
end Go.Proofs.YthpgnliicpejoaaGreatDoor.AM
namespace Go.Proofs.YthpgnliicpejoaaGreatDoor.AM
open Go.RowKit
set_option linter.unusedVariables false
set_option linter.unusedSimpArgs false
theorem j0n (n:Nat) (s:List UInt8) (hs:s.length<=1000000):qua n s=some (q13 s):=by
 unfold qua q13
 by_cases hlt:s.length<2
 ·have c0:decide (((s.length:Nat):Int)<(2:Int))=true:=by rw [decide_eq_true_eq];omega
  simp only [c0,cond_true]
  rw [je0 hlt]
 match s,hs,hlt with
 | [],_,h=>exact absurd (by decide) h
 | [_],_,h=>exact absurd (by simp) h
 | k::c::r,hs,_ =>
  have hc:=c.toNat_lt
  clear hs
  have c0:decide ((((k::c::r).length:Nat):Int)<(2:Int))=false:=by rw [decide_eq_false_iff_not,List.length_cons,List.length_cons];omega
  have h1:q3g (k::c::r) (0:Int) (1:Int)=some [k]:=by
   have:=sub_zero (l:=k::c::r) (b:=1) (by simp)
   rw [show ((1:Nat):Int)=(1:Int) from rfl] at this
   rw [this];rfl
  have d0:decide ([k]=([0]:List UInt8))=decide (k=0):=decide_eq_decide.2 (by simp)
  have d1:decide ([k]=([1]:List UInt8))=decide (k=1):=decide_eq_decide.2 (by simp)
  have a1:sAt (k::c::r) (1:Int)=some ((c.toNat:Nat):Int):=qcl [k] r c rfl
  have w1:IntKind.wrap .i64 ((c.toNat:Nat):Int)=((c.toNat:Nat):Int):=wrap64 (by omega) (by omega)
  have w2:IntKind.wrap .i64 ((2:Int)+((c.toNat:Nat):Int))=((2+c.toNat:Nat):Int):=by rw [wrap64 (by omega) (by omega)];omega
  have b1:decide ((((k::c::r).length:Nat):Int)<((2+c.toNat:Nat):Int))=decide (r.length<c.toNat):=decide_eq_decide.2 (by rw [List.length_cons,List.length_cons];omega)
  have w3:IntKind.wrap .i64 (((2+c.toNat:Nat):Int)+2)=((4+c.toNat:Nat):Int):=by rw [wrap64 (by omega) (by omega)];omega
  have w4:IntKind.wrap .i64 (((2+c.toNat:Nat):Int)+1)=((3+c.toNat:Nat):Int):=by rw [wrap64 (by omega) (by omega)];omega
  have b2:decide ((((k::c::r).length:Nat):Int)<((4+c.toNat:Nat):Int))=decide (r.length<c.toNat+2):=decide_eq_decide.2 (by rw [List.length_cons,List.length_cons];omega)
  rw [j1p]
  simp only [c0,cond_false,h1,Option.bind_some,d0,d1,a1,q0n,w1,w2,b1,w3,w4,b2]
  by_cases hk:k=0\/k=1
  ·rw [if_pos hk]
   by_cases hrc:r.length<c.toNat
   ·rw [if_pos hrc]
    simp only [hrc,decide_true,cond_true]
    rcases hk with rfl|rfl<;>simp
   ·rw [if_neg hrc]
    have p:q3g (k::c::r) (2:Int) ((2+c.toNat:Nat):Int)=some (r.take c.toNat):=quk [k,c] r c.toNat (by omega) rfl rfl
    simp only [hrc,decide_false,cond_false,p,Option.bind_some]
    by_cases hk1:k=1
    ·subst hk1
     have h10:decide ((1:UInt8)=0)=false:=by decide
     simp only [h10,decide_true,Bool.not_true,Bool.not_false,cond_true,cond_false,if_true]
    ·have hk0:k=0:=by
                 rcases hk with h|h
                 ·exact h
                 ·exact absurd h hk1
     have e0:decide (k=0)=true:=decide_eq_true hk0
     clear hk0
     rw [if_neg hk1]
     simp only [hk1,e0,decide_false,Bool.not_true,cond_false]
     by_cases h2:r.length<c.toNat+2
     ·simp only [h2,decide_true,cond_true]
      have hdl:(r.drop c.toNat).length<2:=by rw [List.length_drop];omega
      generalize r.drop c.toNat=R at hdl
      match R,hdl with
      | [],_=>simp
      | [_],_=>simp
     ·have hP:(r.take c.toNat).length=c.toNat:=by rw [List.length_take];omega
      have hr:r=r.take c.toNat++r.drop c.toNat:=(List.take_append_drop ..).symm
      have hdl:2<=(r.drop c.toNat).length:=by rw [List.length_drop];omega
      have hl2:r.length=c.toNat+(r.drop c.toNat).length:=by rw [List.length_drop];omega
      generalize r.drop c.toNat=R at hr hdl hl2
      match R,hdl with
      | x::y::t,_ =>
       have hx:=x.toNat_lt
       have hy:=y.toNat_lt
       generalize r.take c.toNat=P at hP hr
       subst hr
       simp only [List.length_cons] at hl2
       have s1:sAt (k::c::(P++x::y::t)) ((2+c.toNat:Nat):Int)=some ((x.toNat:Nat):Int):=qcl (k::c::P) (y::t) x (by simp;omega)
       have s2:sAt (k::c::(P++x::y::t)) ((3+c.toNat:Nat):Int)=some ((y.toNat:Nat):Int):=by
        have:=qcl (k::c::P ++ [x]) t y (j:=((3+c.toNat:Nat):Int)) (by simp;omega)
        simpa using this
       have wx:IntKind.wrap .i64 ((x.toNat:Nat):Int)=((x.toNat:Nat):Int):=wrap64 (by omega) (by omega)
       have wy:IntKind.wrap .i64 ((y.toNat:Nat):Int)=((y.toNat:Nat):Int):=wrap64 (by omega) (by omega)
       have w5:IntKind.wrap .i64 (((4+c.toNat:Nat):Int)+((256*x.toNat+y.toNat:Nat):Int))=((4+c.toNat+(256*x.toNat+y.toNat):Nat):Int):=by
        clear b1 b2 c0 p h2 hrc
        rw [wrap64 (by omega) (by omega)];omega
       have b3:decide ((((k::c::(P++x::y::t)).length:Nat):Int)<((4+c.toNat+(256*x.toNat+y.toNat):Nat):Int))=decide (t.length<256*x.toNat+y.toNat):=decide_eq_decide.2 (by clear c0 h1 a1 b1 b2 p;simp only [List.length_cons,List.length_append];omega)
       have v1:=shl8 x
       have v2:=or8 x y
       simp only [h2,decide_false,cond_false]
       rw [s1,Option.bind_some,wx,v1,Option.bind_some,s2,Option.bind_some,wy,v2,w5,b3]
       by_cases ht:t.length<256*x.toNat+y.toNat
       ·simp [ht]
       ·have q:q3g (k::c::(P++x::y::t)) ((4+c.toNat:Nat):Int) ((4+c.toNat+(256*x.toNat+y.toNat):Nat):Int)=some (t.take (256*x.toNat+y.toNat)):=by
         have:=quk (k::c::P ++ [x,y]) t (256*x.toNat+y.toNat) (by omega) (i:=((4+c.toNat:Nat):Int)) (j:=((4+c.toNat+(256*x.toNat+y.toNat):Nat):Int)) (by simp;omega) (by simp;omega)
         simpa using this
        simp only [ht,q,decide_false,cond_false,Option.bind_some,if_false]
  ·rw [if_neg hk]
   have k0 : ¬ k=0:=fun h=>hk (Or.inl h)
   have k1 : ¬ k=1:=fun h=>hk (Or.inr h)
   simp only [k0,k1,decide_false,Bool.not_false,cond_true]
end Go.Proofs.YthpgnliicpejoaaGreatDoor.AM
