
import Derived.Test.YtggoebaobojmjaaGreatDoorBq15
import Derived.Test.YtggoebaobojmjaaGreatDoorBq18
import Derived.Test.YtggoebaobojmjaaGreatDoorBq17
import Derived.Test.YtggoebaobojmjaaGreatDoorBq16
import Derived.Lib.AppendZeros
namespace Go.Proofs.YtggoebaobojmjaaGreatDoor.AM
open Go.RowKit Gr
set_option linter.unusedVariables false
set_option linter.unusedSimpArgs false
theorem qif (n:Nat) (l:List MD) (i:Nat) (hi:i<l.length) (hl:l.length<=20) : ∀m j:Nat,j<=i->i - j<m ->
  q5s n m l (i:Int) (j:Int)=some (bif (((qay l).take i).drop j).any (fun y=>decide (y=l[i].2.1)) then Sum.inl (((11:Int),()),((),())) else Sum.inr ((l,((i:Int),())),((),())))
 | 0,j,_,h=>absurd h (Nat.not_lt_zero _)
 | m+1,j,hj,h=>by
  rw [qiv]
  unfold qk6
  by_cases c:j<i
  ·have c':j<((qay l).take i).length:=by rw [List.length_take,q3s];omega
   have hx:((qay l).take i)[j]=(l[j]'(by omega)).2.1:=by simp [qay]
   rw [decide_eq_true (by omega),cond_true,q0i (by omega),Option.bind_some,q0i hi,Option.bind_some,List.drop_eq_getElem_cons c',List.any_cons,hx]
   by_cases e:(l[j]'(by omega)).2.1=l[i].2.1
   ·rw [decide_eq_true e];rfl
   ·rw [decide_eq_false e,cond_false,Bool.false_or,q0a,q03 (by omega)]
    exact qif n l i hi hl m (j+1) (by omega) (by omega)
  ·obtain rfl:j=i:=by omega
   have:((qay l).take j).drop j = []:=List.drop_eq_nil_of_le (by rw [List.length_take];omega)
   rw [decide_eq_false (by omega),cond_false,this];rfl
theorem qhz (n:Nat) (l:List MD) (hl:SmL l) (hn:100000<n) : ∀m j:Nat,j<=l.length->l.length - j<m ->
  q3e n m l (j:Int)=some (bif ((qay l).drop j).all okS then Sum.inr ((l,()),((),())) else Sum.inl (((6:Int),()),((),())))
 | 0,j,_,h=>absurd h (Nat.not_lt_zero _)
 | m+1,j,hj,h=>by
  have h20:=hl.1
  rw [qki]
  unfold qj9
  by_cases c:j<l.length
  ·have hp:=(hl.2 _ (List.getElem_mem c)).1
   have c':j<(qay l).length:=by rw [q3s];exact c
   have hx:(qay l)[j]=l[j].2.1:=by simp [qay]
   rw [decide_eq_true (by omega),cond_true,q0i c,Option.bind_some,qso n _ (by omega) (by omega),Option.bind_some,List.drop_eq_getElem_cons c',List.all_cons,hx]
   cases okS l[j].2.1 with
   | false=>rfl
   | true =>
    rw [Bool.not_true,cond_false,q0a,q03 (by omega),Bool.true_and]
    exact qhz n l hl hn m (j+1) (by omega) (by omega)
  ·obtain rfl:j=l.length:=by omega
   rw [decide_eq_false (by omega),cond_false,<-q3s l,List.drop_length];rfl
theorem qi0 (n:Nat) (l:List MD) (hl:SmL l) (hn:100000<n) : ∀m j:Nat,j<=l.length->l.length - j<m ->
  q1m n m l (j:Int)=some (bif jmm ((qay l).take j) ((qay l).drop j) then Sum.inl (((11:Int),()),((),())) else Sum.inr ((),((),())))
 | 0,j,_,h=>absurd h (Nat.not_lt_zero _)
 | m+1,j,hj,h=>by
  have h20:=hl.1
  rw [qjk]
  unfold qis
  by_cases c:j<l.length
  ·have c':j<(qay l).length:=by rw [q3s];exact c
   have hx:(qay l)[j]=l[j].2.1:=by simp [qay]
   have h2:=qif n l j c h20 n 0 (Nat.zero_le _) (by omega)
   rw [List.drop_zero] at h2
   rw [decide_eq_true (by omega),cond_true,show (0:Int)=((0:Nat):Int) from rfl,h2,Option.bind_some,jnn c',hx]
   cases ((qay l).take j).any (fun y=>decide (y=l[j].2.1)) with
   | true=>rfl
   | false =>
    rw [cond_false,Sum.elim_inr,Bool.false_or]
    show q0f (IntKind.wrap .i64 ((j:Int)+1)) (fun n13=>q1m n m l n13)=_
    rw [q0a,q03 (by omega)]
    exact qi0 n l hl hn m (j+1) (by omega) (by omega)
  ·obtain rfl:j=l.length:=by omega
   rw [decide_eq_false (by omega),cond_false,<-q3s l,List.drop_length];rfl
theorem q6y (n:Nat) (l:List MD) (hl:SmL l) (hn:100000<n):q4p n l=some (qc0 l):=by
 have h20:=hl.1
 have hA:q3e n n l (0:Int)=some (bif (qay l).all okS then Sum.inr ((l,()),((),())) else Sum.inl (((6:Int),()),((),()))):=qhz n l hl hn n 0 (Nat.zero_le _) (by omega)
 have hB:q1m n n l (0:Int)=some (bif jmm [] (qay l) then Sum.inl (((11:Int),()),((),())) else Sum.inr ((),((),()))):=qi0 n l hl hn n 0 (Nat.zero_le _) (by omega)
 unfold q4p qc0 k8w
 rw [q3s]
 by_cases c:12<l.length
 ·rw [decide_eq_true (by omega),cond_true,if_pos c]
 ·rw [decide_eq_false (by omega),cond_false,if_neg c,hA,Option.bind_some]
  cases (qay l).all okS with
  | false=>rfl
  | true =>
   rw [cond_true,Sum.elim_inr]
   show (q1m n n l (0:Int)).bind _=_
   rw [hB,Option.bind_some]
   cases jmm [] (qay l)<;>rfl
theorem qy2 (n:Nat) (m:MD) (p:List UInt8) (hl:m.2.2.length<=1000) : ∀k j:Nat,j<=m.2.2.length->m.2.2.length - j<k ->
  q65 n k p (j:Int) m.1 m.2.1 m.2.2=some (bif (m.2.2.drop j).any (fun r=>decide (r.1=p)) then Sum.inl ((true,()),((),())) else Sum.inr ((),((),())))
 | 0,j,_,h=>absurd h (Nat.not_lt_zero _)
 | k+1,j,hj,h=>by
  rw [qrz]
  unfold qwk
  by_cases c:j<m.2.2.length
  ·rw [decide_eq_true (by omega),cond_true,q0i c,Option.bind_some,List.drop_eq_getElem_cons c,List.any_cons]
   by_cases e:m.2.2[j].1=p
   ·rw [decide_eq_true e];rfl
   ·rw [decide_eq_false e,cond_false,Bool.false_or,q0a,q03 (by omega)]
    exact qy2 n m p hl k (j+1) (by omega) (by omega)
  ·obtain rfl:j=m.2.2.length:=by omega
   rw [decide_eq_false (by omega),cond_false,List.drop_length];rfl
theorem jkf (n:Nat) (m:MD) (p:List UInt8) (hl:m.2.2.length<=1000) (hn:1000<n):qoj n m p=some (k4k m p):=by
 have h:q65 n n p (0:Int) m.1 m.2.1 m.2.2=some (bif k4k m p then Sum.inl ((true,()),((),())) else Sum.inr ((),((),()))):=qy2 n m p hl n 0 (Nat.zero_le _) (by omega)
 unfold qoj
 rw [h,Option.bind_some]
 cases k4k m p<;>rfl
theorem qdj (n:Nat) (l:List MD) (i:Nat) (hi:i<l.length) (hl:SmL l) (hn:100000<n) : ∀m j:Nat,∀acc:List Int,acc.length<=j->j<=l.length->l.length - j<m ->
  q29 n m l (i:Int) (j:Int) acc=some (((),()),((),(acc++iL ((List.range' j (l.length - j)).filter (adj l i)),())))
 | 0,j,_,_,_,h=>absurd h (Nat.not_lt_zero _)
 | m+1,j,acc,ha,hj,h=>by
  have h20:=hl.1
  rw [qje]
  unfold qk8
  by_cases c:j<l.length
  ·have hr:=(hl.2 _ (List.getElem_mem hi)).2
   obtain ⟨k,hk⟩ : ∃ k,l.length - j=k+1:=⟨l.length - j - 1,by omega⟩
   have hk':l.length - (j+1)=k:=by omega
   rw [decide_eq_true (by omega),cond_true,q0i hi,Option.bind_some,q0i c,Option.bind_some,jkf n _ _ (by omega) (by omega),Option.bind_some,<-jve hi c,hk,List.range'_succ,List.filter_cons]
   cases ha':adj l i j with
   | true =>
    rw [cond_true,if_pos rfl,q3u (by simp;omega),Option.bind_some,q0a,q03 (by omega)]
    refine (qdj n l i hi hl hn m (j+1) _ (by simp;omega) (by omega) (by omega)).trans ?_
    rw [hk']
    simp [iL]
   | false =>
    rw [cond_false,if_neg (by decide),q0a,q03 (by omega)]
    refine (qdj n l i hi hl hn m (j+1) _ (by omega) (by omega) (by omega)).trans ?_
    rw [hk']
  ·obtain rfl:j=l.length:=by omega
   rw [decide_eq_false (by omega),cond_false,Nat.sub_self]
   simp [iL]
theorem jez (n m:Nat) (l:List MD) (i j:Int) (acc:List Int):qlo n m l i j acc=q29 n m l i j acc:=rfl
theorem qtl (n:Nat) (l:List MD) (i:Nat) (hi:i<l.length) (hl:SmL l) (hn:100000<n):q29 n n l (i:Int) (0:Int) []=some (((),()),((),(iL (q3v l.length (adj l) i),()))):=by
 have h20:=hl.1
 have:=qdj n l i hi hl hn n 0 [] (Nat.le_refl _) (Nat.zero_le _) (by omega)
 rw [List.nil_append,Nat.sub_zero,<-List.range_eq_range'] at this
 exact this
theorem j80 (n:Nat) (l:List MD) (i:Int) (hl:SmL l) (hn:100000<n):qhj n l i=some (iL (jt1 l i)):=by
 unfold qhj jt1
 rw [q6y n l hl hn,Option.bind_some]
 by_cases c:qc0 l=0
 ·rw [decide_eq_true c,Bool.not_true,cond_false]
  by_cases h0:0<=i
  ·rw [decide_eq_false (by omega),cond_false]
   by_cases h1:i<(l.length:Int)
   ·obtain ⟨k,rfl⟩:=Int.eq_ofNat_of_zero_le h0
    rw [decide_eq_false (by omega),cond_false,qtl n l k (by omega) hl hn,Option.bind_some,if_pos ⟨c,h0,h1⟩,Int.toNat_natCast]
   ·rw [decide_eq_true (by omega),cond_true,if_neg (fun h=>h1 h.2.2)];rfl
  ·rw [decide_eq_true (by omega),cond_true,if_neg (fun h=>h0 h.2.1)];rfl
 ·rw [decide_eq_false c,Bool.not_false,cond_true,if_neg (fun h=>c h.1)];rfl
theorem qfg (n:Nat) (l:List MD) (i:Int) (hl:SmL l) (hn:100000<n):qf0 n l i=some ((),((),(iL (jt1 l i),()))):=by
 unfold qf0 jt1
 rw [q6y n l hl hn,Option.bind_some]
 by_cases c:qc0 l=0
 ·rw [decide_eq_true c,Bool.not_true,cond_false]
  by_cases h0:0<=i
  ·rw [decide_eq_false (by omega),cond_false]
   by_cases h1:i<(l.length:Int)
   ·obtain ⟨k,rfl⟩:=Int.eq_ofNat_of_zero_le h0
    rw [decide_eq_false (by omega),cond_false,jez,qtl n l k (by omega) hl hn,Option.bind_some,if_pos ⟨c,h0,h1⟩,Int.toNat_natCast]
   ·rw [decide_eq_true (by omega),cond_true,if_neg (fun h=>h1 h.2.2)];rfl
  ·rw [decide_eq_true (by omega),cond_true,if_neg (fun h=>h0 h.2.1)];rfl
 ·rw [decide_eq_false c,Bool.not_false,cond_true,if_neg (fun h=>c h.1)];rfl
theorem jnq (l:List MD) (i:Int):(jt1 l i).length<=l.length:=by
 unfold jt1
 split
 ·have:=List.length_filter_le (adj l i.toNat) (List.range l.length)
  rw [List.length_range] at this
  exact this
 ·exact Nat.zero_le _
theorem j45 (n:Nat) (L:List Int) (x:Int) (hl:L.length<=100000) : ∀m j:Nat,j<=L.length->L.length - j<m ->
  q83 n m L x (j:Int)=some (bif (L.drop j).any (fun y=>decide (y=x)) then Sum.inl ((true,()),((),())) else Sum.inr ((),((),())))
 | 0,j,_,h=>absurd h (Nat.not_lt_zero _)
 | m+1,j,hj,h=>by
  rw [qtu]
  unfold j86
  by_cases c:j<L.length
  ·rw [decide_eq_true (by omega),cond_true,q0i c,Option.bind_some,List.drop_eq_getElem_cons c,List.any_cons]
   by_cases e:L[j]=x
   ·rw [decide_eq_true e];rfl
   ·rw [decide_eq_false e,cond_false,Bool.false_or,q0a,q03 (by omega)]
    exact j45 n L x hl m (j+1) (by omega) (by omega)
  ·obtain rfl:j=L.length:=by omega
   rw [decide_eq_false (by omega),cond_false,List.drop_length];rfl
theorem k62 (L:List Int) (x:Int):L.any (fun y=>decide (y=x))=decide (x∈L):=by
 rw [Bool.eq_iff_iff,List.any_eq_true,decide_eq_true_iff]
 simp
theorem q3x (n:Nat) (L:List Int) (x:Int) (hl:L.length<=100000) (hn:100000<n):qal n L x=some (decide (x∈L)):=by
 have h:q83 n n L x (0:Int)=some (bif L.any (fun y=>decide (y=x)) then Sum.inl ((true,()),((),())) else Sum.inr ((),((),()))):=j45 n L x hl n 0 (Nat.zero_le _) (by omega)
 unfold qal
 rw [h,Option.bind_some,k62]
 cases decide (x∈L)<;>rfl
theorem jls {k:Nat} {L:List Nat} : ((k:Nat):Int)∈iL L↔k∈L:=by
 unfold iL
 rw [List.mem_map]
 constructor
 ·rintro ⟨a,h,e⟩
  obtain rfl:=Int.ofNat.inj e
  exact h
 ·exact fun h=>⟨k,h,rfl⟩
theorem jzd (k:Nat) (L:List Nat):decide (((k:Nat):Int)∈iL L)=L.contains k:=by
 rw [Bool.eq_iff_iff,decide_eq_true_iff,jls,List.contains_iff_mem]
theorem qyv (n:Nat) (a b:List Int) (ha:a.length<=100000) (hb:b.length<=100000) (hn:100000<n) : ∀m j:Nat,j<=a.length->a.length - j<m ->
  q5y n m a b (j:Int)=some (bif (a.drop j).all (fun y=>decide (y∈b)) then Sum.inr ((),((),())) else Sum.inl ((false,()),((),())))
 | 0,j,_,h=>absurd h (Nat.not_lt_zero _)
 | m+1,j,hj,h=>by
  rw [qr4]
  unfold qvw
  by_cases c:j<a.length
  ·rw [decide_eq_true (by omega),cond_true,q0i c,Option.bind_some,q3x n b _ hb hn,Option.bind_some,List.drop_eq_getElem_cons c,List.all_cons]
   cases decide (a[j]∈b) with
   | false=>rfl
   | true =>
    rw [Bool.not_true,cond_false,Bool.true_and,q0a,q03 (by omega)]
    exact qyv n a b ha hb hn m (j+1) (by omega) (by omega)
  ·obtain rfl:j=a.length:=by omega
   rw [decide_eq_false (by omega),cond_false,List.drop_length];rfl
theorem jir (n:Nat) (a b:List Int) (ha:a.length<=100000) (hb:b.length<=100000) (hn:100000<n):qun n a b=some (a.all fun y=>decide (y∈b)):=by
 have h:q5y n n a b (0:Int)=some (bif a.all (fun y=>decide (y∈b)) then Sum.inr ((),((),())) else Sum.inl ((false,()),((),()))):=qyv n a b ha hb hn n 0 (Nat.zero_le _) (by omega)
 unfold qun
 rw [h,Option.bind_some]
 cases a.all (fun y=>decide (y∈b))<;>rfl
theorem kai (a b:List Nat):(iL a).all (fun y=>decide (y∈iL b))=a.all b.contains:=by
 unfold iL
 rw [List.all_map]
 exact List.all_congr rfl fun x=>jzd x b
theorem qcy (n:Nat) (l:List MD) (k:Int) (E:List Nat) (hE:E.length<=100) (hn:100000<n) : ∀m j:Nat,∀D:List Nat,D.length<=100+j->j<=E.length->E.length - j<m ->
  q4g n m l k (j:Int) (iL D) (iL E)=some ((l,((),(k,()))),((),(iL (jra D (E.drop j)),())))
 | 0,j,_,_,_,h=>absurd h (Nat.not_lt_zero _)
 | m+1,j,D,hD,hj,h=>by
  rw [qnh]
  unfold qow
  rw [q1h]
  by_cases c:j<E.length
  ·have hx:q0s (iL E) (j:Int)=some ((E[j]:Nat):Int):=by rw [q0i (by rw [q1h];exact c)];simp [iL]
   have hy:nth (iL E) (Int.toNat (j:Int))=some ((E[j]:Nat):Int):=by rw [Int.toNat_natCast,jci (by rw [q1h];exact c)];simp [iL]
   rw [decide_eq_true (by omega),cond_true,hx,Option.bind_some,hy,Option.bind_some,q3x n _ _ (by rw [q1h];omega) hn,Option.bind_some,jzd,List.drop_eq_getElem_cons c,jra]
   cases hc:D.contains E[j] with
   | true =>
    rw [Bool.not_true,cond_false,if_pos rfl,q0a,q03 (by omega)]
    exact qcy n l k E hE hn m (j+1) D (by omega) (by omega) (by omega)
   | false =>
    rw [Bool.not_false,cond_true,if_neg (by decide),Option.bind_some,Option.bind_some,q3u (by rw [q1h];simp;omega),Option.bind_some,q0a,q03 (by omega)]
    have hap:iL D ++ [((E[j]:Nat):Int)]=iL (D ++ [E[j]]):=by rw [jma];rfl
    rw [hap]
    exact qcy n l k E hE hn m (j+1) (D ++ [E[j]]) (by rw [List.length_append,List.length_singleton];omega) (by omega) (by omega)
  ·obtain rfl:j=E.length:=by omega
   rw [decide_eq_false (by omega),cond_false,List.drop_length]
   rfl
theorem qtp (n:Nat) (l:List MD) (i:Nat) (hl:SmL l) (hc:qc0 l=0) (hi:i<l.length) (hn:100000<n) : ∀m k:Nat,∀D:List Nat,Down l.length (adj l) i k D->k<=D.length->l.length - k<m ->
  ∃ D',q1z n m l (k:Int) (iL D)=some (((),()),((),(iL D',())))/\D'.length<=l.length/\∀x,x∈D'↔Dep l.length (adj l) i x
 | 0,k,D,_,_,h=>absurd h (Nat.not_lt_zero _)
 | m+1,k,D,hD,hk,h=>by
  have h12:=qeo hc
  have hDl:=hD.len
  rw [q9d]
  unfold qrj
  rw [q1h]
  by_cases c:k<D.length
  ·have hx:q0s (iL D) (k:Int)=some ((D[k]:Nat):Int):=by rw [q0i (by rw [q1h];exact c)];simp [iL]
   have hy:nth (iL D) (Int.toNat (k:Int))=some ((D[k]:Nat):Int):=by rw [Int.toNat_natCast,jci (by rw [q1h];exact c)];simp [iL]
   have hdl:=(hD.dep _ (List.getElem_mem c)).lt.2
   have hE:=jnq l ((D[k]:Nat):Int)
   have hnext:=hD.step (x:=D[k]) (List.getElem?_eq_getElem c)
   obtain ⟨s,hs'⟩:=qut (q3v l.length (adj l) D[k]) D
   obtain ⟨D',h1,h2⟩:=qtp n l i hl hc hi hn m (k+1) _ hnext (by rw [hs',List.length_append];omega) (by omega)
   refine ⟨D',?_,h2⟩
   rw [decide_eq_true (by omega),cond_true,hx,Option.bind_some,hy,Option.bind_some,qfg n l _ hl hn,Option.bind_some]
   show (q4g n n l (k:Int) (0:Int) (iL D) (iL (jt1 l ((D[k]:Nat):Int)))).bind _=_
   have h3:=qcy n l (k:Int) (jt1 l ((D[k]:Nat):Int)) (by omega) hn n 0 D (by omega) (Nat.zero_le _) (by omega)
   rw [show (0:Int)=((0:Nat):Int) from rfl,h3,Option.bind_some,List.drop_zero,j82 hc hdl]
   show q0f (IntKind.wrap .i64 ((k:Int)+1)) (fun n14=>q1z n m l n14 (iL (jra D (q3v l.length (adj l) D[k]))))=_
   rw [q0a,q03 (by omega)]
   exact h1
  ·refine ⟨D,?_,hDl,hD.done (by omega)⟩
   rw [decide_eq_false (by omega),cond_false]
theorem qtk (n:Nat) (l:List MD) (i:Nat) (hl:SmL l) (hc:qc0 l=0) (hi:i<l.length) (hn:100000<n) : ∃ D,q8o n l (i:Int)=some (iL D)/\D.length<=l.length/\∀x,x∈D↔Dep l.length (adj l) i x:=by
 have h12:=qeo hc
 obtain ⟨D,h1,h2⟩:=qtp n l i hl hc hi hn n 0 _ (Down.start hi) (Nat.zero_le _) (by omega)
 refine ⟨D,?_,h2⟩
 unfold q8o
 rw [qfg n l _ hl hn,Option.bind_some,j82 hc hi]
 show (q1z n n l (0:Int) (iL (q3v l.length (adj l) i))).bind _=_
 rw [show (0:Int)=((0:Nat):Int) from rfl,h1,Option.bind_some]
theorem jro (n:Nat) (l:List MD) (i:Int) (hl:SmL l) (hc:qc0 l≠0) (hn:100000<n):q8o n l i=some []:=by
 unfold q8o
 have he:jt1 l i = []:=by unfold jt1;rw [if_neg (fun h=>hc h.1)]
 rw [qfg n l _ hl hn,Option.bind_some,he]
 obtain ⟨m,rfl⟩ : ∃ m,n=m+1:=⟨n - 1,by omega⟩
 show (q1z (m+1) (m+1) l (0:Int) []).bind _=_
 rw [q9d]
 rfl
theorem qk1 (n:Nat) (l:List MD) (hl:SmL l) (hc:qc0 l=0) (hn:100000<n) (p:Nat->Bool) (hp : ∀k,p k=true↔Dep l.length (adj l) k k) : ∀m j:Nat,∀acc:List Int,acc.length<=j->j<=l.length->l.length - j<m ->
  q69 n m l (j:Int) acc=some (((),()),((),(acc++iL ((List.range' j (l.length - j)).filter p),())))
 | 0,j,_,_,_,h=>absurd h (Nat.not_lt_zero _)
 | m+1,j,acc,ha,hj,h=>by
  have h20:=hl.1
  rw [qb4]
  unfold qm4
  by_cases c:j<l.length
  ·obtain ⟨D,h1,h2,h3⟩:=qtk n l j hl hc c hn
   obtain ⟨k,hk⟩ : ∃ k,l.length - j=k+1:=⟨l.length - j - 1,by omega⟩
   have hk':l.length - (j+1)=k:=by omega
   have hpj:decide (((j:Nat):Int)∈iL D)=p j:=by
    rw [Bool.eq_iff_iff,decide_eq_true_iff,jls,h3,hp]
   rw [decide_eq_true (by omega),cond_true,h1,Option.bind_some,q3x n _ _ (by rw [q1h];omega) hn,Option.bind_some,hpj,hk,List.range'_succ,List.filter_cons]
   cases p j with
   | true =>
    rw [cond_true,if_pos rfl,q3u (by simp;omega),Option.bind_some,q0a,q03 (by omega)]
    refine (qk1 n l hl hc hn p hp m (j+1) _ (by simp;omega) (by omega) (by omega)).trans ?_
    rw [hk']
    simp [iL]
   | false =>
    rw [cond_false,if_neg (by decide),q0a,q03 (by omega)]
    refine (qk1 n l hl hc hn p hp m (j+1) _ (by omega) (by omega) (by omega)).trans ?_
    rw [hk']
  ·obtain rfl:j=l.length:=by omega
   rw [decide_eq_false (by omega),cond_false,Nat.sub_self]
   simp [iL]
theorem j0e (n:Nat) (l:List MD) (hl:SmL l) (hc:qc0 l≠0) (hn:100000<n) : ∀m j:Nat,j<=l.length->l.length - j<m->q69 n m l (j:Int) []=some (((),()),((),([],())))
 | 0,j,_,h=>absurd h (Nat.not_lt_zero _)
 | m+1,j,hj,h=>by
  have h20:=hl.1
  rw [qb4]
  unfold qm4
  by_cases c:j<l.length
  ·rw [decide_eq_true (by omega),cond_true,jro n l _ hl hc hn,Option.bind_some,q3x n _ _ (Nat.zero_le _) hn,Option.bind_some,decide_eq_false (by simp),cond_false,q0a,q03 (by omega)]
   exact j0e n l hl hc hn m (j+1) (by omega) (by omega)
  ·rw [decide_eq_false (by omega),cond_false]
theorem jgz (n:Nat) (l:List MD) (hl:SmL l) (hn:100000<n) : ∃ L,qv3 n l=some (iL L)/\(qc0 l≠0->L = [])/\(qc0 l=0->IsF l.length (fun k=>Dep l.length (adj l) k k) L):=by
 have h20:=hl.1
 unfold qv3
 by_cases c:qc0 l=0
 ·obtain ⟨p,hp⟩ : ∃ p:Nat->Bool,∀k,p k=true↔Dep l.length (adj l) k k:=⟨fun k=>@decide _ (Classical.propDecidable _),fun k=>@decide_eq_true_iff _ (Classical.propDecidable _)⟩
  have h1:=qk1 n l hl c hn p hp n 0 [] (Nat.le_refl _) (Nat.zero_le _) (by omega)
  rw [List.nil_append,Nat.sub_zero,<-List.range_eq_range'] at h1
  refine ⟨_,?_,fun h=>absurd c h,fun _=>⟨p,rfl,fun k _=>hp k⟩⟩
  rw [show (0:Int)=((0:Nat):Int) from rfl,h1,Option.bind_some]
 ·have h1:=j0e n l hl c hn n 0 (Nat.zero_le _) (by omega)
  exact ⟨[],by rw [show (0:Int)=((0:Nat):Int) from rfl,h1,Option.bind_some];rfl,fun _=>rfl,fun h=>absurd h c⟩
theorem qim (n:Nat) (l:List MD) (f:List Int) (k:Int) (D:List Nat) (acc:List Int) (hD:D.length<=100) (hf:f.length<=100000) (hn:100000<n) : ∀m j:Nat,∀b:Bool,j<=D.length->D.length - j<m ->
  qc2 n m l f k (iL D) b (j:Int) acc=some ((l,(f,((),(k,(b||(D.drop j).any (fun x=>decide (((x:Nat):Int)∈f)),()))))),((),(acc,())))
 | 0,j,_,_,h=>absurd h (Nat.not_lt_zero _)
 | m+1,j,b,hj,h=>by
  rw [qu5]
  unfold j9b
  rw [q1h]
  by_cases c:j<D.length
  ·have hx:q0s (iL D) (j:Int)=some ((D[j]:Nat):Int):=by rw [q0i (by rw [q1h];exact c)];simp [iL]
   rw [decide_eq_true (by omega),cond_true,List.drop_eq_getElem_cons c,List.any_cons]
   cases b with
   | true =>
    rw [cond_true,q0a,q03 (by omega)]
    refine (qim n l f k D acc hD hf hn m (j+1) true (by omega) (by omega)).trans ?_
    rw [Bool.true_or,Bool.true_or]
   | false =>
    rw [cond_false,hx,Option.bind_some,q3x n f _ hf hn,Option.bind_some,q0a,q03 (by omega),Bool.false_or]
    exact qim n l f k D acc hD hf hn m (j+1) _ (by omega) (by omega)
  ·obtain rfl:j=D.length:=by omega
   rw [decide_eq_false (by omega),cond_false,List.drop_length,List.any_nil,Bool.or_false]
theorem qp8 (n:Nat) (l:List MD) (f:List Int) (hl:SmL l) (hc:qc0 l=0) (hf:f.length<=100000) (hn:100000<n) (p:Nat->Bool) (hp : ∀k,k<l.length->(p k=true↔UpP l f k)) : ∀m j:Nat,∀acc:List Int,acc.length<=j->j<=l.length->l.length - j<m ->
  q4u n m l f (j:Int) acc=some (((),()),((),(acc++iL ((List.range' j (l.length - j)).filter p),())))
 | 0,j,_,_,_,h=>absurd h (Nat.not_lt_zero _)
 | m+1,j,acc,ha,hj,h=>by
  have h20:=hl.1
  rw [qtx]
  unfold j7h
  by_cases c:j<l.length
  ·obtain ⟨D,h1,h2,h3⟩:=qtk n l j hl hc c hn
   obtain ⟨k,hk⟩ : ∃ k,l.length - j=k+1:=⟨l.length - j - 1,by omega⟩
   have hk':l.length - (j+1)=k:=by omega
   have hpj:(decide (((j:Nat):Int)∈f)||(D.drop 0).any (fun x=>decide (((x:Nat):Int)∈f)))=p j:=by
    rw [Bool.eq_iff_iff,Bool.or_eq_true,decide_eq_true_iff,List.drop_zero,List.any_eq_true,hp j c]
    constructor
    ·rintro (e|⟨x,hx,e⟩)
     ·exact ⟨j,e,c,Or.inl rfl⟩
     ·exact ⟨x,by simpa using e,((h3 x).1 hx).lt.2,Or.inr ((h3 x).1 hx)⟩
    ·rintro ⟨i,e1,e2,rfl|e3⟩
     ·exact Or.inl e1
     ·exact Or.inr ⟨i,(h3 i).2 e3,by simpa using e1⟩
   have h4:=qim n l f (j:Int) D acc (by omega) hf hn n 0 (decide (((j:Nat):Int)∈f)) (Nat.zero_le _) (by omega)
   rw [hpj] at h4
   rw [decide_eq_true (by omega),cond_true,h1,Option.bind_some,q3x n f _ hf hn,Option.bind_some,show (0:Int)=((0:Nat):Int) from rfl,h4,Option.bind_some,hk,List.range'_succ,List.filter_cons]
   show (bif p j then (ql1 8 acc [((j:Nat):Int)]).bind (fun l9=>q0f (IntKind.wrap .i64 ((j:Int)+1)) fun n10=>q4u n m l f n10 l9) else q0f (IntKind.wrap .i64 ((j:Int)+1)) fun n11=>q4u n m l f n11 acc)=_
   cases p j with
   | true =>
    rw [cond_true,if_pos rfl,q3u (by simp;omega),Option.bind_some,q0a,q03 (by omega)]
    refine (qp8 n l f hl hc hf hn p hp m (j+1) _ (by simp;omega) (by omega) (by omega)).trans ?_
    rw [hk']
    simp [iL]
   | false =>
    rw [cond_false,if_neg (by decide),q0a,q03 (by omega)]
    refine (qp8 n l f hl hc hf hn p hp m (j+1) _ (by omega) (by omega) (by omega)).trans ?_
    rw [hk']
  ·obtain rfl:j=l.length:=by omega
   rw [decide_eq_false (by omega),cond_false,Nat.sub_self]
   simp [iL]
theorem jsr (n:Nat) (l:List MD) (f:List Int) (hl:SmL l) (hf:f.length<=100000) (hn:100000<n) : ∃ L,qw0 n l f=some (iL L)/\(qc0 l≠0->L = [])/\(qc0 l=0->IsF l.length (UpP l f) L):=by
 have h20:=hl.1
 unfold qw0
 rw [q6y n l hl hn,Option.bind_some]
 by_cases c:qc0 l=0
 ·obtain ⟨p,hp⟩ : ∃ p:Nat->Bool,∀k,p k=true↔UpP l f k:=⟨fun k=>@decide _ (Classical.propDecidable _),fun k=>@decide_eq_true_iff _ (Classical.propDecidable _)⟩
  have h1:=qp8 n l f hl c hf hn p (fun k _=>hp k) n 0 [] (Nat.le_refl _) (Nat.zero_le _) (by omega)
  rw [List.nil_append,Nat.sub_zero,<-List.range_eq_range'] at h1
  refine ⟨_,?_,fun h=>absurd c h,fun _=>⟨p,rfl,fun k _=>hp k⟩⟩
  rw [decide_eq_true c,Bool.not_true,cond_false,show (0:Int)=((0:Nat):Int) from rfl,h1,Option.bind_some]
 ·exact ⟨[],by rw [decide_eq_false c,Bool.not_false,cond_true];rfl,fun _=>rfl,fun h=>absurd h c⟩
theorem qii (n:Nat) (l:List MD) (O:List Nat) (hO:O.length<=100) (hl:SmL l) (hc:qc0 l=0) (hn:100000<n) : ∀m j:Nat,j<=l.length->l.length - j<m ->
  ∃ x y z:List Int,∃ b:Bool,∃ q:Int,q5w n m l (j:Int) (iL O)=some (match (List.range' j (l.length - j)).find? (ready l.length (adj l) O) with
   | some i=>Sum.inl ((l,((),(l,(q,(x,(b,())))))),((),(iL (O ++ [i]),())))
   | none=>Sum.inr ((l,((),())),((),(iL O,()))))
 | 0,j,_,h=>absurd h (Nat.not_lt_zero _)
 | m+1,j,hj,h=>by
  have h20:=hl.1
  rw [qiq]
  unfold qjt
  by_cases c:j<l.length
  ·obtain ⟨k,hk⟩ : ∃ k,l.length - j=k+1:=⟨l.length - j - 1,by omega⟩
   have hk':l.length - (j+1)=k:=by omega
   obtain ⟨x,y,z,b,q,ih⟩:=qii n l O hO hl hc hn m (j+1) (by omega) (by omega)
   rw [hk'] at ih
   have hE:=jnq l (j:Int)
   rw [decide_eq_true (by omega),cond_true,q3x n _ _ (by rw [q1h];omega) hn,Option.bind_some,jzd,hk,List.range'_succ,List.find?_cons]
   unfold ready at ih ⊢
   cases hcj:O.contains j with
   | true =>
    refine ⟨x,y,z,b,q,?_⟩
    rw [Bool.not_true,cond_false,q0a,q03 (by omega)]
    exact ih
   | false =>
    rw [Bool.not_false,cond_true,j80 n l _ hl hn,Option.bind_some,jir n _ _ (by rw [q1h];omega) (by rw [q1h];omega) hn,Option.bind_some,kai,j82 hc c]
    cases ha:(q3v l.length (adj l) j).all O.contains with
    | true =>
     refine ⟨iL (q3v l.length (adj l) j),y,z,true,(j:Int),?_⟩
     rw [cond_true,q3u (by rw [q1h];simp;omega),Option.bind_some]
     have hap:iL O ++ [((j:Nat):Int)]=iL (O ++ [j]):=by rw [jma];rfl
     rw [hap]
     rfl
    | false =>
     refine ⟨x,y,z,b,q,?_⟩
     rw [cond_false,q0a,q03 (by omega)]
     exact ih
  ·obtain rfl:j=l.length:=by omega
   refine ⟨[],[],[],true,0,?_⟩
   rw [decide_eq_false (by omega),cond_false,Nat.sub_self]
   rfl
theorem qli (n:Nat) (l:List MD) (hl:SmL l) (hc:qc0 l=0) (hac : ∀i,¬ Dep l.length (adj l) i i) (hn:100000<n) : ∀m f:Nat,∀O,Ord l.length (adj l) O->l.length<O.length+f->f<=m ->
  q3g n m l (iL O)=some (((),()),((),(iL (jva l.length (adj l) f O),())))
 | 0,f,O,hO,hf,hm=>by
  have:=q3o hO.nd hO.lt
  omega
 | m+1,f,O,hO,hf,hm=>by
  have h20:=hl.1
  have hOl:=q3o hO.nd hO.lt
  rw [qka]
  unfold qiy
  rw [q1h]
  cases f with
  | zero=>omega
  | succ f =>
   unfold jva
   by_cases c:O.length<l.length
   ·obtain ⟨x,y,z,b,q,h1⟩:=qii n l O (by omega) hl hc hn n 0 (Nat.zero_le _) (by omega)
    rw [Nat.sub_zero,<-List.range_eq_range'] at h1
    have hnx:(List.range l.length).find? (ready l.length (adj l) O)=nxt l.length (adj l) O:=rfl
    rw [hnx] at h1
    rw [decide_eq_true (by omega),cond_true,show (0:Int)=((0:Nat):Int) from rfl,h1,Option.bind_some]
    cases hN:nxt l.length (adj l) O with
    | none =>
     obtain ⟨i,hd⟩:=Gr.stuck hN c
     exact absurd hd (hac i)
    | some i =>
     exact qli n l hl hc hac hn m f (O ++ [i]) (hO.snoc hN) (by rw [List.length_append,List.length_singleton];omega) (by omega)
   ·rw [decide_eq_false (by omega),cond_false,k1x hO (by omega)]
theorem j9c (n:Nat) (l:List MD) (hl:SmL l) (hn:100000<n):qgw n l=some (q3z l):=by
 unfold qgw q3z
 rw [q6y n l hl hn,Option.bind_some]
 by_cases c:qc0 l=0
 ·have h12:=qeo c
  obtain ⟨L,h1,_,h2⟩:=jgz n l hl hn
  have h2:=h2 c
  rw [decide_eq_true c,Bool.not_true,cond_false,if_pos c,h1,Option.bind_some,q1h]
  have hfull:=jxm (n:=l.length) (A:=adj l) 13 (by omega)
  have hol:(j5w l).length<=l.length:=by
   have:=qv8 13 (Ord.nil (n:=l.length) (A:=adj l))
   exact q3o this.nd this.lt
  by_cases hL:L.length=0
  ·have hac : ∀i,¬ Dep l.length (adj l) i i:=fun i hd=>by
    have:=(h2.mem i).2 ⟨hd.lt.1,hd⟩
    rw [List.eq_nil_of_length_eq_zero hL] at this
    cases this
   have h3:=hfull.2 hac
   have h4:(j5w l).length=l.length:=h3
   have h5:=qli n l hl c hac hn n 13 [] Ord.nil (by simp;omega) (by omega)
   rw [decide_eq_false (by omega),cond_false,if_neg (by omega)]
   have h5':q3g n n l []=some (((),()),((),(iL (j5w l),()))):=h5
   rw [h5',Option.bind_some]
  ·have h4:(j5w l).length≠l.length:=fun h=>by
    have:=hfull.1 h
    obtain ⟨x,hx⟩:=List.exists_mem_of_length_pos (Nat.pos_of_ne_zero hL)
    exact this x ((h2.mem x).1 hx).2
   rw [decide_eq_true (by omega),cond_true,if_pos (by omega)]
 ·rw [decide_eq_false c,Bool.not_false,cond_true,if_neg c]
def Sml (l:List MD):Prop:=l.length<=20/\∀m∈l,m.2.1.length<=200/\m.1.length<=200/\m.2.2.length<=30/\∀r∈m.2.2,r.1.length<=200/\r.2.2.2.2.1.length<=200/\r.2.2.2.2.2.length<=200
theorem qi2 (n:Nat) (l:List MD) (i:Nat) (hi:i<l.length) (h30:l[i].2.2.length<=30) (a4:List MD) (a5:Int) (a6:List UInt8) (a7:Int) (a8:Bool) (a9:List MD) (a10:Int) (a11:List RD) (a12:Int) (a13:Bool) : ∀m j:Nat,j<=l[i].2.2.length->l[i].2.2.length - j<m ->
  (q3b n m l (i:Int) (j:Int) a4 a5 a6 a7 a8 a9 a10 a11 a12 a13=some (Sum.inl ((false,()),((),())))) \/
  (q3b n m l (i:Int) (j:Int) a4 a5 a6 a7 a8 a9 a10 a11 a12 a13=some (Sum.inr ((l,((i:Int),(a4,(a5,(a6,(a7,(a8,(a9,(a10,(a11,(a12,(a13,())))))))))))),((),())))/\∀r∈l[i].2.2.drop j,r.1.length<=200/\r.2.2.2.2.1.length<=200/\r.2.2.2.2.2.length<=200)
 | 0,j,_,h=>absurd h (Nat.not_lt_zero _)
 | m+1,j,hj,h=>by
  rw [qjc]
  unfold qkw
  rw [q0i hi,Option.bind_some]
  by_cases c:j<l[i].2.2.length
  ·rw [decide_eq_true (by omega),cond_true,Option.bind_some,q0i c,Option.bind_some]
   by_cases h1:200<l[i].2.2[j].1.length
   ·rw [decide_eq_true (by omega),cond_true];exact Or.inl rfl
   ·rw [decide_eq_false (by omega),cond_false]
    by_cases h2:200<l[i].2.2[j].2.2.2.2.1.length
    ·rw [decide_eq_true (by omega),cond_true];exact Or.inl rfl
    ·rw [decide_eq_false (by omega),cond_false]
     by_cases h3:200<l[i].2.2[j].2.2.2.2.2.length
     ·rw [decide_eq_true (by omega),cond_true];exact Or.inl rfl
     ·rw [decide_eq_false (by omega),cond_false,q0a,q03 (by omega)]
      rcases qi2 n l i hi h30 a4 a5 a6 a7 a8 a9 a10 a11 a12 a13 m (j+1) (by omega) (by omega) with h4|⟨h4,h5⟩
      ·exact Or.inl h4
      ·refine Or.inr ⟨h4,fun r hr=>?_⟩
       rw [List.drop_eq_getElem_cons c] at hr
       rcases List.mem_cons.1 hr with rfl|hr
       ·exact ⟨by omega,by omega,by omega⟩
       ·exact h5 r hr
  ·obtain rfl:j=l[i].2.2.length:=by omega
   rw [decide_eq_false (by omega),cond_false]
   exact Or.inr ⟨rfl,fun r hr=>by rw [List.drop_length] at hr;cases hr⟩
theorem k3u {i:Nat} (h:i+1<=9223372036854775807):IntKind.wrap .i64 ((i:Int)+1)=((i+1:Nat):Int):=by rw [wrap64 (by omega) (by omega)];rfl
theorem qmm (n:Nat) (l:List MD) (hl:l.length<=9223372036854775807) (hn:100000<n) : ∀m j:Nat,j<=l.length->l.length - j<m ->
  (q1n n m l (j:Int)=some (Sum.inl ((false,()),((),())))) \/
  (q1n n m l (j:Int)=some (Sum.inr ((l,()),((),())))/\∀x∈l.drop j,x.2.1.length<=200/\x.1.length<=200/\x.2.2.length<=30/\∀r∈x.2.2,r.1.length<=200/\r.2.2.2.2.1.length<=200/\r.2.2.2.2.2.length<=200)
 | 0,j,_,h=>absurd h (Nat.not_lt_zero _)
 | m+1,j,hj,h=>by
  rw [qip]
  unfold qky
  by_cases c:j<l.length
  ·rw [decide_eq_true (by omega),cond_true,q0i c,Option.bind_some]
   by_cases h1:200<l[j].2.1.length
   ·rw [decide_eq_true (by omega),cond_true];exact Or.inl rfl
   ·rw [decide_eq_false (by omega),cond_false,Option.bind_some]
    by_cases h2:200<l[j].1.length
    ·rw [decide_eq_true (by omega),cond_true];exact Or.inl rfl
    ·rw [decide_eq_false (by omega),cond_false,Option.bind_some]
     by_cases h3:30<l[j].2.2.length
     ·rw [decide_eq_true (by omega),cond_true];exact Or.inl rfl
     ·rw [decide_eq_false (by omega),cond_false]
      rcases qi2 n l j c (by omega) l (j:Int) l[j].1 ((l[j].1.length:Nat):Int) false l (j:Int) l[j].2.2 ((l[j].2.2.length:Nat):Int) false n 0 (Nat.zero_le _) (by omega) with h4|⟨h4,h5⟩
      ·rw [show (0:Int)=((0:Nat):Int) from rfl,h4,Option.bind_some];exact Or.inl rfl
      ·rw [show (0:Int)=((0:Nat):Int) from rfl,h4,Option.bind_some]
       show (q0f (IntKind.wrap .i64 ((j:Int)+1)) (fun n11=>q1n n m l n11)=_)\/(q0f (IntKind.wrap .i64 ((j:Int)+1)) (fun n11=>q1n n m l n11)=_/\_)
       rw [q0a,k3u (by omega)]
       rcases qmm n l hl hn m (j+1) (by omega) (by omega) with h6|⟨h6,h7⟩
       ·exact Or.inl h6
       ·refine Or.inr ⟨h6,fun x hx=>?_⟩
        rw [List.drop_eq_getElem_cons c] at hx
        rcases List.mem_cons.1 hx with rfl|hx
        ·exact ⟨by omega,by omega,by omega,h5⟩
        ·exact h7 x hx
  ·obtain rfl:j=l.length:=by omega
   rw [decide_eq_false (by omega),cond_false]
   exact Or.inr ⟨rfl,fun r hr=>by rw [List.drop_length] at hr;cases hr⟩
theorem j6w (n:Nat) (l:List MD) (hl:l.length<=9223372036854775807) (hn:9223372036854775807<n) : ∃ b,qhl n l=some b/\(b=true->Sml l):=by
 unfold qhl
 rcases qmm n l hl (by omega) n 0 (Nat.zero_le _) (by omega) with h|⟨h,h2⟩
 ·rw [show (0:Int)=((0:Nat):Int) from rfl,h,Option.bind_some]
  exact ⟨false,rfl,fun h=>by cases h⟩
 ·rw [show (0:Int)=((0:Nat):Int) from rfl,h,Option.bind_some]
  exact ⟨_,rfl,fun h3=>⟨by
   have h4:((l.length:Nat):Int)<=20:=of_decide_eq_true h3
   omega,fun m hm=>h2 m (by rw [List.drop_zero];exact hm)⟩⟩
theorem Sml.sm {l:List MD} (h:Sml l):SmL l:=⟨h.1,fun m hm=>⟨(h.2 m hm).1,by have:=(h.2 m hm).2.2.1;omega⟩⟩
end Go.Proofs.YtggoebaobojmjaaGreatDoor.AM
namespace Go.Proofs.YtggoebaobojmjaaGreatDoor.AM
open Go.RowKit
set_option linter.unusedVariables false
end Go.Proofs.YtggoebaobojmjaaGreatDoor.AM
namespace Go.Proofs.YtggoebaobojmjaaGreatDoor.AM
open Go.RowKit Gr
set_option linter.unusedVariables false
set_option linter.unusedSimpArgs false
theorem jlu (l:List MD):Ord l.length (adj l) (j5w l):=qv8 13 Ord.nil
theorem j6t (l:List MD):(j5w l).length<=l.length:=q3o (jlu l).nd (jlu l).lt
end Go.Proofs.YtggoebaobojmjaaGreatDoor.AM
namespace Go.Proofs.YtggoebaobojmjaaGreatDoor.AM
open Go.RowKit Gr
set_option linter.unusedVariables false
set_option linter.unusedSimpArgs false
abbrev RlD:=Int×(Bool×(Int×(Int×(Int×(List UInt8×(List UInt8×(Int×(Int×(Int×(List UInt8×(List UInt8×Int)))))))))))
abbrev WnD:=List UInt8×Int
def mkR (a:Int) (h:Bool) (o v:VD) (k:Int):RlD:=(a,(h,(o.1,(o.2.1,(o.2.2.1,(o.2.2.2.1,(o.2.2.2.2,(v.1,(v.2.1,(v.2.2.1,(v.2.2.2.1,(v.2.2.2.2,k))))))))))))
def k9w (r:RlD):VD:=(r.2.2.2.2.2.2.2.1,(r.2.2.2.2.2.2.2.2.1,(r.2.2.2.2.2.2.2.2.2.1,(r.2.2.2.2.2.2.2.2.2.2.1,r.2.2.2.2.2.2.2.2.2.2.2.1))))
def r0:RlD:=mkR 0 false v0 v0 0
def qsh (p:List UInt8):VD×Bool:=if (q4o p).2.2=true then (if (q4o p).2.1=0 then ((0,(1,(0,([],[])))),true) else (((q4o p).2.1,(0,(0,([],[])))),true)) else (v0,false)
def qmy (p:List UInt8) (v:VD) (k:Int):VD×Int:=if q0y v=true then (if (qhr v k).2=0 then (if jkg p (qhr v k).1=true then ((qhr v k).1,0) else (v0,8)) else (v0,(qhr v k).2)) else (v0,7)
def jlb (k:Int):Bool:=decide (1<=k)&&decide (k<=3)
def j1l (p:List UInt8) (l:List TgD) (k:Int):RlD×Int :=
 if (qsh p).2=true then (if jlb k=true then (match q0m p none l with
  | none=>(mkR 0 false v0 (qsh p).1 k,0)
  | some t=>if (qmy p (tV t) k).2=0 then (mkR 0 true (tV t) (qmy p (tV t) k).1 k,0) else (r0,(qmy p (tV t) k).2)) else (r0,1)) else (r0,6)
def plc (p:List UInt8):Nat->List MD->Option Nat
 | _,[]=>none
 | j,m::l=>if m.2.1=p then some j else plc p (j+1) l
def q39 (l:List MD) (p:List UInt8):Option Nat:=plc p 0 l
def qsu (l:List MD) (p:List UInt8):Int:=match q39 l p with
 | some i=>(i:Int)
 | none=>-1
theorem jno {p:List UInt8} : ∀{l:List MD} {j i:Nat},plc p j l=some i->∃ k,∃ h:k<l.length,i=j+k/\l[k].2.1=p
 | [],j,i,h=>by cases h
 | m::l,j,i,h=>by
  unfold plc at h
  by_cases e:m.2.1=p
  ·rw [if_pos e] at h
   obtain rfl:=Option.some.inj h
   exact ⟨0,Nat.zero_lt_succ _,rfl,e⟩
  ·rw [if_neg e] at h
   obtain ⟨k,hk,h1,h2⟩:=jno h
   exact ⟨k+1,Nat.succ_lt_succ hk,by omega,h2⟩
theorem jlm {p:List UInt8} : ∀{l:List MD} {j:Nat},plc p j l=none->∀m∈l,m.2.1≠p
 | [],j,h,m,hm=>by cases hm
 | x::l,j,h,m,hm=>by
  unfold plc at h
  by_cases e:x.2.1=p
  ·rw [if_pos e] at h;cases h
  ·rw [if_neg e] at h
   rcases List.mem_cons.1 hm with rfl|hm
   ·exact e
   ·exact jlm h m hm
theorem q7q {l:List MD} {p:List UInt8} {i:Nat} (h:q39 l p=some i) : ∃ hi:i<l.length,l[i].2.1=p:=by
 obtain ⟨k,hk,h1,h2⟩:=jno h
 obtain rfl:k=i:=by omega
 exact ⟨hk,h2⟩
theorem jc9 : ∀(ps pre:List (List UInt8)),jmm pre ps=false->ps.Nodup/\∀x∈ps,x ∉ pre
 | [],pre,_=>⟨List.nodup_nil,fun x h=>by cases h⟩
 | x::ps,pre,h=>by
  unfold jmm at h
  rw [Bool.or_eq_false_iff] at h
  obtain ⟨h1,h2⟩:=h
  obtain ⟨h3,h4⟩:=jc9 ps _ h2
  have hx:x ∉ pre:=fun hm=>by
   have:=List.any_eq_false.1 h1 x hm
   exact this (decide_eq_true rfl)
  refine ⟨List.nodup_cons.2 ⟨fun hm=>h4 x hm (List.mem_append.2 (Or.inr (List.mem_singleton.2 rfl))),h3⟩,fun y hy=>?_⟩
  rcases List.mem_cons.1 hy with rfl|hy
  ·exact hx
  ·exact fun hm=>h4 y hy (List.mem_append.2 (Or.inl hm))
theorem jwm {l:List MD} (h:qc0 l=0):(qay l).Nodup:=by
 unfold qc0 k8w at h
 split at h
 ·cases h
 ·cases ha:(qay l).all okS with
  | false=>rw [ha] at h;cases h
  | true =>
   rw [ha,cond_true] at h
   cases hd:jmm [] (qay l) with
   | true=>rw [hd] at h;cases h
   | false=>exact (jc9 _ _ hd).1
theorem jwq {l:List MD} {i:Nat} (hi:i<l.length):(qay l)[i]'(by rw [q3s];exact hi)=l[i].2.1:=by simp [qay]
theorem k0n {l:List MD} (h:qc0 l=0) {i:Nat} (hi:i<l.length):q39 l l[i].2.1=some i:=by
 cases hp:q39 l l[i].2.1 with
 | none=>exact absurd rfl (jlm hp _ (List.getElem_mem hi))
 | some k =>
  obtain ⟨hk,h2⟩:=q7q hp
  have hn:=jwm h
  have:=(List.getElem_inj (i:=k) (j:=i) (h₀:=by rw [q3s];exact hk) (h₁:=by rw [q3s];exact hi) hn).1 (by rw [jwq hk,jwq hi,h2])
  rw [this]
def jt2 (w:List WnD) (f:WnD->Bool) (z:Int):Int:=match w.find? f with
 | some x=>x.2
 | none=>z
def qhy (w:List WnD) (p:List UInt8):Int:=jt2 w (fun x=>decide (x.1=p)) 1
def q3c (l:List MD):List WnD->List WnD->Int
 | _,[]=>0
 | pre,x::w=>if (q39 l x.1).isSome=true then (if jlb x.2=true then (if pre.any (fun y=>decide (y.1=x.1))=true then 11 else q3c l (pre ++ [x]) w) else 1) else 5
def j9u (l:List MD) (w:List WnD):List Nat:=w.filterMap fun x=>q39 l x.1
theorem k18 {l:List MD} {w:List WnD} {x:WnD} {i:Nat} (h:q39 l x.1=some i):j9u l (w ++ [x])=j9u l w ++ [i]:=by
 unfold j9u
 rw [List.filterMap_append]
 congr 1
 simp [h]
theorem juq (l:List MD) (w:List WnD):(j9u l w).length<=w.length:=List.length_filterMap_le ..
def lvl (l:List MD) (w:List WnD) (i:Nat):Int:=jt2 w (fun x=>decide (q39 l x.1=some i)) 0
def lvS (l:List MD) (w:List WnD):List Int:=(List.range 12).map (lvl l w)
theorem qc6 (l:List MD) (w:List WnD):(lvS l w).length=12:=by unfold lvS;rw [List.length_map,List.length_range]
theorem jki {l:List MD} {w:List WnD} {i:Nat} (hi:i<12):(lvS l w).getD i 0=lvl l w i:=by
 rw [List.getD_eq_getElem?_getD];unfold lvS
 rw [List.getElem?_map,List.getElem?_range hi];rfl
theorem k4p {l:List MD} {w:List WnD} {i:Nat} (h:i<(lvS l w).length):(lvS l w)[i]=lvl l w i:=by simp [lvS]
def WOk (l:List MD) (w:List WnD):Prop:=∀x∈w,(q39 l x.1).isSome=true/\jlb x.2=true
theorem jy6 {k:Int} (h:jlb k=true):1<=k/\k<=3:=by
 unfold jlb at h
 rw [Bool.and_eq_true,decide_eq_true_iff,decide_eq_true_iff] at h
 exact h
theorem jbo {w:List WnD} {f:WnD->Bool} (hw : ∀x∈w,jlb x.2=true):jt2 w f 0=0↔w.any f=false:=by
 unfold jt2
 cases h:w.find? f with
 | none =>
  refine ⟨fun _=>?_,fun _=>rfl⟩
  rw [List.any_eq_false]
  exact fun x hx=>List.find?_eq_none.1 h x hx
 | some x =>
  have h1:=List.find?_some h
  have h2:=List.mem_of_find?_eq_some h
  have:=(jy6 (hw x h2)).1
  refine ⟨fun (e:x.2=0)=>by omega,fun e=>?_⟩
  exact absurd h1 (List.any_eq_false.1 e x h2)
theorem jr3 {l:List MD} {p q:List UInt8} {i:Nat} (hp:q39 l p=some i):q39 l q=some i↔q=p:=by
 constructor
 ·intro hq
  obtain ⟨h1,h2⟩:=q7q hp
  obtain ⟨_,h4⟩:=q7q hq
  rw [<-h2,<-h4]
 ·rintro rfl;exact hp
theorem find_congr {α:Type} {f g:α->Bool} : ∀{l:List α},(∀x∈l,f x=g x)->l.find? f=l.find? g
 | [],_=>rfl
 | x::l,h=>by
  rw [List.find?_cons,List.find?_cons,h x (List.mem_cons_self ..),find_congr fun y hy=>h y (List.mem_cons_of_mem _ hy)]
theorem j9i {l:List MD} {w:List WnD} {p:List UInt8} {i:Nat} (hp:q39 l p=some i):lvl l w i=jt2 w (fun x=>decide (x.1=p)) 0:=by
 unfold lvl jt2
 rw [find_congr (g:=fun x=>decide (x.1=p)) fun x _=>decide_eq_decide.2 (jr3 hp)]
theorem k1i {l:List MD} {w:List WnD} {x:WnD} {i:Nat} (hp:q39 l x.1=some i) (hw:w.any (fun y=>decide (y.1=x.1))=false) (q:Nat):lvl l (w ++ [x]) q=if q=i then x.2 else lvl l w q:=by
 by_cases e:q=i
 ·subst e
  rw [j9i hp,if_pos rfl]
  unfold jt2
  rw [List.find?_append,List.find?_eq_none.2 (fun y hy=>List.any_eq_false.1 hw y hy)]
  simp
 ·rw [if_neg e]
  unfold lvl jt2
  rw [List.find?_append]
  have : [x].find? (fun y=>decide (q39 l y.1=some q))=none:=by
   rw [List.find?_eq_none]
   intro y hy
   rw [List.mem_singleton] at hy;subst hy
   rw [hp,decide_eq_true_iff]
   exact fun e'=>e (Option.some.inj e').symm
  rw [this,Option.or_none]
theorem k2s {l:List MD} {w:List WnD} {x:WnD} {i:Nat} (hp:q39 l x.1=some i) (hi:i<12) (hw:w.any (fun y=>decide (y.1=x.1))=false):(lvS l w).set i x.2=lvS l (w ++ [x]):=by
 apply List.ext_getElem
 ·rw [List.length_set,qc6,qc6]
 ·intro k h1 h2
  rw [qc6] at h2
  rw [List.getElem_set,k4p,k4p,k1i hp hw k]
  by_cases e:i=k
  ·rw [if_pos e,if_pos e.symm]
  ·rw [if_neg e,if_neg (fun e'=>e e'.symm)]
def plS (l:List MD) (w:List WnD):List Nat:=(List.range 12).filter fun i=>!decide (lvl l w i=0)
theorem mem_pl {l:List MD} {w:List WnD} (hw:WOk l w) (h12:l.length<=12) {i:Nat} : i∈plS l w↔i∈j9u l w:=by
 unfold plS j9u
 rw [List.mem_filter,List.mem_range,List.mem_filterMap,Bool.not_eq_true',decide_eq_false_iff_not]
 unfold lvl
 rw [jbo fun x hx=>(hw x hx).2,Bool.not_eq_false,List.any_eq_true]
 constructor
 ·rintro ⟨h1,x,h2,h3⟩
  exact ⟨x,h2,of_decide_eq_true h3⟩
 ·rintro ⟨x,h2,h3⟩
  obtain ⟨h4,_⟩:=q7q h3
  exact ⟨by omega,x,h2,decide_eq_true h3⟩
theorem j8g {l:List MD} : ∀{w pre:List WnD},q3c l pre w=0->WOk l w
 | [],pre,_=>fun x hx=>by cases hx
 | y::w,pre,h=>by
  unfold q3c at h
  by_cases c1:(q39 l y.1).isSome=true
  ·by_cases c2:jlb y.2=true
   ·rw [if_pos c1,if_pos c2] at h
    split at h
    ·cases h
    ·intro x hx
     rcases List.mem_cons.1 hx with rfl|hx
     ·exact ⟨c1,c2⟩
     ·exact j8g h x hx
   ·rw [if_pos c1,if_neg c2] at h;cases h
  ·rw [if_neg c1] at h;cases h
theorem k9c {w:List WnD} {f:WnD->Bool} (hw : ∀x∈w,jlb x.2=true):max (jt2 w f 0) 1=jt2 w f 1:=by
 unfold jt2
 cases h:w.find? f with
 | none=>rfl
 | some x =>
  have:=(jy6 (hw x (List.mem_of_find?_eq_some h))).1
  show max x.2 1=x.2
  omega
def k45 (l:List MD) (tg:List TgD) (w:List WnD) (k:Nat):RlD×Int:=match l[k]? with
 | none=>(r0,0)
 | some m=>(((k:Int),(j1l m.2.1 tg (qhy w m.2.1)).1.2),(j1l m.2.1 tg (qhy w m.2.1)).2)
def jrv (l:List MD) (tg:List TgD) (w:List WnD):List Nat->Int
 | []=>0
 | k::D=>if (k45 l tg w k).2=0 then jrv l tg w D else (k45 l tg w k).2
def k1n (l:List MD) (tg:List TgD) (w:List WnD) (D:List Nat):List RlD×Int:=if jrv l tg w D=0 then (D.map fun k=>(k45 l tg w k).1,0) else ([],jrv l tg w D)
def k79 (l:List MD) (U:List Nat):List Nat:=(j5w l).filter U.contains
def jpj (l:List MD) (tg:List TgD) (w:List WnD) (U:List Nat):List RlD×Int :=
 if (q3z l).2=0 then (if q3c l [] w=0 then k1n l tg w (k79 l U) else ([],q3c l [] w)) else ([],(q3z l).2)
theorem jl7 {l:List MD} (tg:List TgD) (w:List WnD) {k:Nat} (hk:k<l.length):k45 l tg w k=(((k:Int),(j1l l[k].2.1 tg (qhy w l[k].2.1)).1.2),(j1l l[k].2.1 tg (qhy w l[k].2.1)).2):=by
 unfold k45;rw [List.getElem?_eq_getElem hk]
def jn2 (l:List MD) (p:List UInt8) (r:RlD):Bool:=decide (0<=r.1)&&(decide (r.1<(l.length:Int))&&decide ((l[r.1.toNat]?.map fun m=>m.2.1)=some p))
def qmt (l:List MD) (r:List RlD) (p:List UInt8):Option VD:=(r.find? (jn2 l p)).map k9w
def j40 (l:List MD) (r:List RlD) (a:Int):List RD:=if 0<=a/\a<(l.length:Int) then (match l[a.toNat]? with
 | some m=>m.2.2.filterMap fun q=>(qmt l r q.1).map fun v=>(q.1,v)
 | none=>[]) else []
end Go.Proofs.YtggoebaobojmjaaGreatDoor.AM
namespace Go.Proofs
open Go.RowKit Go.Shelf Go.Lib
set_option linter.unusedVariables false
set_option linter.unusedSimpArgs false
namespace YtggoebaobojmjaaGreatDoor.AM
def qqy (_:Unit) (n:Int):Option (Unit×(Unit×(List Int×Unit))):=if 0<=n/\n<=1000000000000 then some ((),((),([],()))) else none
def jnc:FX:={ f:=79,args:=[.one (.c .nil),.one (.c (.d (.int .i64)))],boxes:=[],rows:=[],res:=.one (.c (.row 1000000)),oboxes:=[],orows:=[(1000000,⟨3,true,.int .i64⟩)],F:=fun p=>qqy p.1.1 p.1.2 }
theorem jz3 {F:Fr} {e:Env} {w w':World} {v:Value} (hp:Hp F q38 e w) (hown:q8t w' F.w0.heap.size 3 1 v 0 []) (hgr:w.grownBy w' none) (hblk : ∀b,v.ownBlock=some b->w.heap.size<=b) (hsl : ∃ a n c,v = .slice a n c) :
  ∃ e',Hp F (eS ⟨[],[],[(1000000,⟨0,3,true,.int .i64,[]⟩)]⟩) e' w'/\q1a e' (eS ⟨[],[],[(1000000,⟨0,3,true,.int .i64,[]⟩)]⟩) w' v (.one (.c (.row 1000000 0))):=by
 obtain ⟨hf,hh⟩:=hp.rowNext 1000000 ⟨0,3,1,true,[]⟩ (.slice none 0 0) v [] (Or.inr ⟨rfl,rfl⟩) (fun x hx=>by cases hx) hown hgr (fun r hr=>by cases hr) (fun b hb=>Or.inr (hblk b hb)) trivial (fun u hu=>by cases hu)
 have hrow:(eS ⟨[],[],[(1000000,⟨0,3,true,.int .i64,[]⟩)]⟩).row=upd q38.row 1000000 (some ⟨0,3,1,true,[]⟩):=by
  funext i
  show (lk [(1000000,(⟨0,3,true,.int .i64,[]⟩:TRow))] i).map eR=_
  rw [q0l]
  unfold upd
  split<;>rfl
 have h2:=hh.re (F':=F) (σ':=eS ⟨[],[],[(1000000,⟨0,3,true,.int .i64,[]⟩)]⟩) rfl rfl rfl rfl rfl (by funext i;rfl) hrow
 refine ⟨_,h2,?_⟩
 show (∃ r,(eS ⟨[],[],[(1000000,⟨0,3,true,.int .i64,[]⟩)]⟩).row 1000000=some r/\0<=r.gen)/\v=j9t e.rv 1000000 0 v 1000000 0/\∃ a n c,v = .slice a n c
 refine ⟨⟨⟨0,3,1,true,[]⟩,by rw [hrow];exact q0p _ _ _,Nat.zero_le _⟩,(q1i _ _ _ _).symm,hsl⟩
set_option maxRecDepth 100000 in
set_option maxHeartbeats 1600000 in
theorem jim (n:Nat) (w:World) (hn:n<=1000000000000):Calls Tryz.prog 79 #[.slice none 0 0,.int .i64 n] w fun e w'=>∃ v,e = .returned v/\(∀base,base<=w.heap.size->q8t w' base 3 1 v 0 [])/\w.grownBy w' none/\(∀b,v.ownBlock=some b->w.heap.size<=b)/\∃ a n c,v = .slice a n c:=by
 rcases Nat.eq_zero_or_pos n with rfl|h0
 ·go_enter Tryz.func79,Tryz.ntmps79
  go_wp2
  go_ret
  refine ⟨.slice none 0 0,rfl,fun base _=>ja9 _ _ _ _,World.grownBy.refl _ _,?_,none,0,0,rfl⟩
  intro b hb
  cases hb
 ·have hi:(0:Int)<(n:Int):=by omega
  have hA:=Lib.run_append_nil_zeros (P:=Tryz.prog) w 39 3 39 3 Tryz.t3 _ .i64 .i64 (by kernel_rfl) (by kernel_rfl) (by kernel_rfl) rfl n h0 (by decide) (by omega) (by show n*8<=_;omega)
  have hgc:=grownCap_ge w n 0 3
  have hgm:=grownCap_le_maxLen w n 0 3 (by unfold maxLen;omega)
  generalize grownCap w n 0 3=cap at hA hgc hgm
  obtain ⟨row,hrow⟩ : ∃ r,Builtin.zeroCells (Tryz.t3.zero.getD undef).cells n++Builtin.zeroCells (Tryz.t3.zero.getD undef).cells (cap - n)=r:=⟨_,rfl⟩
  have hA2:(Builtin.append_ #[39,3] 39 #[.slice none 0 0,.int .i64 n]).run Tryz.prog w = .ok (.slice (some ⟨w.heap.size,0,none⟩) n cap) (w.drew.alloc (.cells row 3)):=by rw [<-hrow];exact hA
  clear hA
  go_enter Tryz.func79,Tryz.ntmps79
  go_wp2_with (at_builtin;refine Lib.wpList_append_run _ rfl _ _ _ _ rfl _ _ rfl rfl _ _ hA2 ?_)
  go_ret
  have hsz:row.size=cap*1:=by
   rw [<-hrow,Array.size_append,size_zeroCells,size_zeroCells]
   have h7:(Tryz.t3.zero.getD undef).cells.size=1:=rfl
   rw [h7];omega
  refine ⟨_,rfl,fun base hb=>⟨rfl,Or.inr ⟨w.heap.size,cap,row,rfl,hb,?_,Nat.zero_le _,hgm,hsz,?_⟩⟩,?_,?_,_,_,_,rfl⟩
  ·exact heap_alloc_new w.drew _
  ·rw [Nat.zero_mul];exact List.take_zero
  ·have h1:=World.grownBy_alloc w.drew (.cells row 3) none
   exact ⟨h1.os,h1.tape,h1.output,h1.size,h1.block⟩
  ·intro b hb
   have:w.heap.size=b:=Option.some.inj hb
   omega
theorem jwg:q8u Inv Tryz.prog jnc:=fun G hG=>⟨by kernel_rfl,fun p q h=>by
 obtain ⟨⟨u,n⟩,p2⟩:=p
 have h':qqy u n=some q:=h
 unfold qqy at h'
 split at h'
 case isFalse=>cases h'
 rename_i hn
 obtain rfl:=Option.some.inj h'
 intro F hF e w vs hp hv
 obtain ⟨l⟩:=vs
 match l,hv with
 | [x,y],⟨h1,h2,_⟩ =>
  obtain rfl:x = .slice none 0 0:=q0d h1
  obtain rfl:y = .int .i64 n:=q0d h2
  obtain ⟨m,rfl⟩ : ∃ m:Nat,n=(m:Int):=⟨Int.toNat n,(Int.toNat_of_nonneg hn.1).symm⟩
  refine (jim m w (by have h7:=hn.2;omega)).mono ?_
  rintro e1 w' ⟨v,rfl,hown,hgr,hblk,hsl⟩
  have hp':Hp F q38 e w:=hp.re (F':=F) (σ':=q38) rfl rfl rfl rfl rfl (by funext i;rfl) (by funext i;rfl)
  obtain ⟨e',k1,k2⟩:=jz3 hp' (hown _ hp.sizeLe) hgr hblk hsl
  exact ⟨v,e',rfl,k1,k2⟩⟩
end YtggoebaobojmjaaGreatDoor.AM
end Go.Proofs
