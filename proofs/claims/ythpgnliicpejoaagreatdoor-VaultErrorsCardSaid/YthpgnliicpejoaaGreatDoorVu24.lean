
import Derived.Test.YthpgnliicpejoaaGreatDoorVu23
import Derived.Test.YthpgnliicpejoaaGreatDoorVu21
namespace Go.Proofs.YthpgnliicpejoaaGreatDoor.AM
open Go.RowKit
set_option linter.unusedVariables false
set_option linter.unusedSimpArgs false
theorem j5w (l:List FD) (j:Nat) (h:j<l.length) (h0:0<j):qai (l.drop (j - 1))=(ltS (l[j - 1]'(by omega)).1 l[j].1&&qai (l.drop j)):=by
  have e1:l.drop (j - 1)=l[j - 1]::l.drop j:=by
    have:=List.drop_eq_getElem_cons (l:=l) (i:=j - 1) (by omega)
    rw [this];congr 2;omega
  have e2:l.drop j=l[j]::l.drop (j+1):=List.drop_eq_getElem_cons h
  rw [e1,e2,qai]
theorem qs1 (n:Nat) (l:List FD) (hL:l.length<=1000000) : ∀m j:Nat,j<=l.length->l.length - j<m->q96 n m l l ((l.length:Nat):Int) (j:Int)=some (if ((l.drop j).all okF&&qai (l.drop (j - 1)))=true then Sum.inr ((),((),())) else Sum.inl ((false,()),((),())))
  | 0,j,_,h=>absurd h (Nat.not_lt_zero _)
  | m+1,j,hj,h=>by
    rw [qjc]
    unfold qwy
    by_cases c0:j<l.length
    · have c0':((j:Nat):Int)<((l.length:Nat):Int):=by omega
      have ih:=qs1 n l hL m (j+1) (by omega) (by omega)
      have hd:l.drop j=l[j]::l.drop (j+1):=(List.drop_eq_getElem_cons c0)
      have e4:qis l[j].1=some (q38 l[j].1):=rfl
      have eo:(l.drop j).all okF=((q38 l[j].1&&decide (l[j].2.length<=4096))&&(l.drop (j+1)).all okF):=by rw [hd,List.all_cons];rfl
      rw [eo]
      simp only [c0',decide_true,cond_true,q2h c0,Option.bind_some,e4,q0n,q19 (show j<4611686018427387904 by omega),ih,Nat.add_sub_cancel]
      cases q38 l[j].1 with
      | false=>simp
      | true =>
        by_cases c1:l[j].2.length<=4096
        · have c1' : ¬ (4096:Int)<((l[j].2.length:Nat):Int):=by omega
          by_cases c2:0<j
          · have c2':(0:Int)<((j:Nat):Int):=by omega
            have w1:IntKind.wrap .i64 (((j:Nat):Int) - 1)=((j - 1:Nat):Int):=by rw [wrap64 (by omega) (by omega)];omega
            rw [j5w l j c0 c2]
            simp only [c1,c1',c2',decide_true,decide_false,cond_true,cond_false,Bool.not_true,w1,q2h (show j - 1<l.length by omega),Option.bind_some,Bool.true_and]
            cases ltS (l[j - 1]'(by omega)).1 l[j].1 with
            | true=>simp only [Bool.not_true,cond_false,Bool.true_and]
            | false=>simp
          · have c2' : ¬ (0:Int)<((j:Nat):Int):=by omega
            have hj0:j=0:=by omega
            subst hj0
            simp only [c1,c1',decide_true,decide_false,cond_true,cond_false,Bool.not_true,Bool.true_and,Int.lt_irrefl,Int.natCast_zero,Nat.zero_sub]
        · have c1':(4096:Int)<((l[j].2.length:Nat):Int):=by omega
          simp [c1,c1']
    · have c0' : ¬ ((j:Nat):Int)<((l.length:Nat):Int):=by omega
      have e1:l.drop j = []:=List.drop_eq_nil_of_le (by omega)
      have e2:qai (l.drop (j - 1))=true:=by
        by_cases hz:l.length=0
        · rw [List.drop_eq_nil_of_le (by omega)];rfl
        · have:=List.drop_eq_getElem_cons (l:=l) (i:=j - 1) (by omega)
          rw [this,show j - 1+1=j from by omega,e1];rfl
      simp [c0',e1,e2]
theorem qiw (n:Nat) (l:List FD) (hL:l.length<=1000000) (hn:l.length<n):qrj n l=some (q7t l):=by
  unfold qrj q7t
  have:=qs1 n l hL n 0 (Nat.zero_le _) (by omega)
  rw [show ((0:Nat):Int)=(0:Int) from rfl] at this
  by_cases c:l.length<=40
  · have c' : ¬ (40:Int)<((l.length:Nat):Int):=by omega
    simp only [c,c',decide_true,decide_false,cond_false,this,Option.bind_some,List.drop_zero,Nat.zero_sub,Bool.true_and]
    cases (l.all okF&&qai l)<;>rfl
  · have c':(40:Int)<((l.length:Nat):Int):=by omega
    simp [c,c']
theorem ql8 (n:Nat) (l:List FD) (hL:l.length<=1000000) (hp : ∀f∈l,f.1.length<=1000000) (hn:100<=n) : ∀m j:Nat,j<=l.length->l.length - j<m->q6y n m l (j:Int)=some (if ((l.drop j).all okF&&qai (l.drop (j - 1)))=true then Sum.inr ((l,()),((),())) else Sum.inl ((false,()),((),())))
  | 0,j,_,h=>absurd h (Nat.not_lt_zero _)
  | m+1,j,hj,h=>by
    rw [qfs]
    unfold qo5
    by_cases c0:j<l.length
    · have c0':((j:Nat):Int)<((l.length:Nat):Int):=by omega
      have ih:=ql8 n l hL hp hn m (j+1) (by omega) (by omega)
      have hd:l.drop j=l[j]::l.drop (j+1):=(List.drop_eq_getElem_cons c0)
      have e4:q4s n l[j].1=some (q38 l[j].1):=qaj n _ (hp _ (List.getElem_mem c0)) hn
      have eo:(l.drop j).all okF=((q38 l[j].1&&decide (l[j].2.length<=4096))&&(l.drop (j+1)).all okF):=by rw [hd,List.all_cons];rfl
      rw [eo]
      simp only [c0',decide_true,cond_true,q2h c0,Option.bind_some,e4,q0n,q19 (show j<4611686018427387904 by omega),ih,Nat.add_sub_cancel]
      cases q38 l[j].1 with
      | false=>simp
      | true =>
        by_cases c1:l[j].2.length<=4096
        · have c1' : ¬ (4096:Int)<((l[j].2.length:Nat):Int):=by omega
          by_cases c2:0<j
          · have c2':(0:Int)<((j:Nat):Int):=by omega
            have w1:IntKind.wrap .i64 (((j:Nat):Int) - 1)=((j - 1:Nat):Int):=by rw [wrap64 (by omega) (by omega)];omega
            rw [j5w l j c0 c2]
            simp only [c1,c1',c2',decide_true,decide_false,cond_true,cond_false,Bool.not_true,w1,q2h (show j - 1<l.length by omega),Option.bind_some,Bool.true_and]
            cases ltS (l[j - 1]'(by omega)).1 l[j].1 with
            | true=>simp only [Bool.not_true,cond_false,Bool.true_and]
            | false=>simp
          · have c2' : ¬ (0:Int)<((j:Nat):Int):=by omega
            have hj0:j=0:=by omega
            subst hj0
            simp only [c1,c1',decide_true,decide_false,cond_true,cond_false,Bool.not_true,Bool.true_and,Int.lt_irrefl,Int.natCast_zero,Nat.zero_sub]
        · have c1':(4096:Int)<((l[j].2.length:Nat):Int):=by omega
          simp [c1,c1']
    · have c0' : ¬ ((j:Nat):Int)<((l.length:Nat):Int):=by omega
      have e1:l.drop j = []:=List.drop_eq_nil_of_le (by omega)
      have e2:qai (l.drop (j - 1))=true:=by
        by_cases hz:l.length=0
        · rw [List.drop_eq_nil_of_le (by omega)];rfl
        · have:=List.drop_eq_getElem_cons (l:=l) (i:=j - 1) (by omega)
          rw [this,show j - 1+1=j from by omega,e1];rfl
      simp [c0',e1,e2]
theorem qdu (n:Nat) (l:List FD) (hL:l.length<=1000000) (hp : ∀f∈l,f.1.length<=1000000) (hn:100<=n) (hn2:l.length<n):qe0 n l=some (q7t l):=by
  unfold qe0 q7t
  have:=ql8 n l hL hp hn n 0 (Nat.zero_le _) (by omega)
  rw [show ((0:Nat):Int)=(0:Int) from rfl] at this
  rw [this]
  have hc:decide (((l.length:Nat):Int)<=(40:Int))=decide (l.length<=40):=decide_eq_decide.2 (by omega)
  simp only [List.drop_zero,Nat.zero_sub]
  cases (l.all okF&&qai l) with
  | true=>simp only [if_true,Option.bind_some,Sum.elim_inr,hc,Bool.and_true]
  | false=>simp
theorem qkz (n:Nat) (p:List UInt8) (l:List FD) (hL:l.length<=1000000) : ∀m j:Nat,j<=l.length->l.length - j<m->q6t n m l p (j:Int)=some (if (q8a (l.drop j) p).2=true then Sum.inl (((q8a (l.drop j) p).1,(true,())),((),())) else Sum.inr ((),((),())))
  | 0,j,_,h=>absurd h (Nat.not_lt_zero _)
  | m+1,j,hj,h=>by
    rw [qft]
    unfold qnt
    by_cases c0:j<l.length
    · have c0':((j:Nat):Int)<((l.length:Nat):Int):=by omega
      have ih:=qkz n p l hL m (j+1) (by omega) (by omega)
      have hd:l.drop j=l[j]::l.drop (j+1):=(List.drop_eq_getElem_cons c0)
      have hg:q8a (l.drop j) p=if l[j].1=p then (l[j].2,true) else q8a (l.drop (j+1)) p:=by rw [hd,q8a]
      rw [hg]
      simp only [c0',decide_true,cond_true,q2h c0,Option.bind_some,q0n,q19 (show j<4611686018427387904 by omega),ih]
      by_cases c1:l[j].1=p
      · simp [c1]
      · simp [c1]
    · have c0' : ¬ ((j:Nat):Int)<((l.length:Nat):Int):=by omega
      have e1:l.drop j = []:=List.drop_eq_nil_of_le (by omega)
      simp [c0',e1,q8a]
theorem j18 (n:Nat) (l:List FD) (p:List UInt8) (hL:l.length<=1000000) (hn:l.length<n):qhg n l p=some (q8a l p):=by
  unfold qhg
  have:=qkz n p l hL n 0 (Nat.zero_le _) (by omega)
  rw [show ((0:Nat):Int)=(0:Int) from rfl,List.drop_zero] at this
  rw [this]
  cases h:(q8a l p).2 with
  | true =>
    have:q8a l p=((q8a l p).1,true):=by rw [<-h]
    simp only [if_true,Option.bind_some,Sum.elim_inl]
    rw [<-this]
  | false=>rw [qss h];rfl
theorem j27 {i:Nat} (h:i+1<=9223372036854775807):IntKind.wrap .i64 ((i:Int)+1)=((i+1:Nat):Int):=by rw [wrap64 (by omega) (by omega)];rfl
theorem qmk (n:Nat) (l:List OD) (hL:l.length<=9223372036854775807) : ∀m j:Nat,j<=l.length->l.length - j<m->q7g n m l (j:Int)=some (if ((l.drop j).all fun o=>decide (o.2.1.length<=200)&&decide (o.2.2.length<=5000))=true then Sum.inr ((l,()),((),())) else Sum.inl ((false,()),((),())))
  | 0,j,_,h=>absurd h (Nat.not_lt_zero _)
  | m+1,j,hj,h=>by
    rw [qfw]
    unfold qpi
    by_cases c0:j<l.length
    · have c0':((j:Nat):Int)<((l.length:Nat):Int):=by omega
      have ih:=qmk n l hL m (j+1) (by omega) (by omega)
      have h1:l.drop j=l[j]::l.drop (j+1):=(List.drop_eq_getElem_cons c0)
      simp only [c0',decide_true,cond_true,q2h c0,Option.bind_some,q0n,j27 (show j+1<=9223372036854775807 by omega),ih,h1,List.all_cons]
      by_cases c1:l[j].2.1.length<=200
      · have c1' : ¬ (200:Int)<((l[j].2.1.length:Nat):Int):=by omega
        by_cases c2:l[j].2.2.length<=5000
        · have c2' : ¬ (5000:Int)<((l[j].2.2.length:Nat):Int):=by omega
          simp only [c1,c1',c2,c2',decide_true,decide_false,cond_false,Bool.true_and]
        · have c2':(5000:Int)<((l[j].2.2.length:Nat):Int):=by omega
          simp [c1,c1',c2,c2']
      · have c1':(200:Int)<((l[j].2.1.length:Nat):Int):=by omega
        simp [c1,c1']
    · have c0' : ¬ ((j:Nat):Int)<((l.length:Nat):Int):=by omega
      have e1:l.drop j = []:=List.drop_eq_nil_of_le (by omega)
      simp [c0',e1]
theorem j1o (n:Nat) (l:List OD) (hL:l.length<=9223372036854775807) (hn:l.length<n):qp1 n l=some (je0 l):=by
  unfold qp1 je0
  have:=qmk n l hL n 0 (Nat.zero_le _) (by omega)
  rw [show ((0:Nat):Int)=(0:Int) from rfl,List.drop_zero] at this
  rw [this]
  have hc:decide (((l.length:Nat):Int)<=(100:Int))=decide (l.length<=100):=decide_eq_decide.2 (by omega)
  cases (l.all fun o=>decide (o.2.1.length<=200)&&decide (o.2.2.length<=5000)) with
  | true=>simp only [if_true,Option.bind_some,Sum.elim_inr,hc,Bool.true_and]
  | false=>simp
theorem qwh (n:Nat) (o:OD):qnu n o=some (q5q o):=by
  have e4:qis o.2.1=some (q38 o.2.1):=rfl
  unfold qnu q5q
  simp only [e4,Option.bind_some]
  have hc:decide ((4096:Int)<((o.2.2.length:Nat):Int))=decide (4096<o.2.2.length):=decide_eq_decide.2 (by omega)
  rw [hc]
  cases q38 o.2.1 with
  | false=>rfl
  | true =>
    by_cases h:4096<o.2.2.length
    · cases o.1 with
      | false=>simp [h]
      | true =>
                by_cases h2:o.2.2 = []
                · simp [h2]
                · simp [h,h2]
    · cases o.1 with
      | false=>simp [h]
      | true =>
                by_cases h2:o.2.2 = []
                · simp [h2]
                · simp [h,h2]
end Go.Proofs.YthpgnliicpejoaaGreatDoor.AM
namespace Go.Proofs.YthpgnliicpejoaaGreatDoor.AM
open Go.RowKit
set_option linter.unusedVariables false
set_option linter.unusedSimpArgs false
theorem qqw (m:Nat):q1d m [] [] = []:=by cases m<;>rfl
theorem jb5 {ops:List OD} (h:ops.length<=1000000) (r:OD):q3k 40 ops [r]=some (ops ++ [r]):=if_pos (by simp;omega)
theorem qnc {β:Type} (x:β) (a:List β):q1a (x::a) (0:Int)=some x:=q2h (l:=x::a) (j:=0) (by simp)
theorem qpu {β:Type} (x:β) (a:List β):q4i (x::a) (1:Int) (((x::a).length:Nat):Int)=some a:=by
  have:=sub_le (l:=x::a) (a:=1) (b:=(x::a).length) (by simp) (Nat.le_refl _)
  rw [show ((1:Nat):Int)=(1:Int) from rfl] at this
  rw [this];simp
theorem qu3 {β:Type} (x:β) (a:List β):decide ((0:Int)<(((x::a).length:Nat):Int))=true:=by rw [decide_eq_true_eq,List.length_cons];omega
theorem jdu {β:Type} (x:β) (a:List β):decide ((((x::a).length:Nat):Int)=(0:Int))=false:=by rw [decide_eq_false_iff_not,List.length_cons];omega
theorem j4t {β:Type} : decide ((0:Int)<((([]:List β).length:Nat):Int))=false:=rfl
theorem jep {β:Type} : decide (((([]:List β).length:Nat):Int)=(0:Int))=true:=rfl
theorem q46 (n:Nat) : ∀(m:Nat) (a b:List FD) (ops:List OD),a.length+b.length<m->ops.length+a.length+b.length<=1000000->q74 n m a b ops=some (((),()),((),(ops++q1d (a.length+b.length) a b,())))
  | 0,a,b,ops,h,_=>absurd h (Nat.not_lt_zero _)
  | m+1,[],[],ops,h,ho=>by
    rw [q3g]
    unfold q9j
    simp only [j4t,cond_false,qqw,List.append_nil]
  | m+1,x::a,[],ops,h,ho=>by
    simp only [List.length_cons,List.length_nil] at h ho
    rw [q3g]
    unfold q9j
    have ih:=q46 n m a [] (ops ++ [(true,(x.1,[]))]) (by simp;omega) (by simp;omega)
    simp only [qu3,jep,cond_true,qnc,jb5 (show ops.length<=1000000 by omega),qpu,Option.bind_some,ih]
    simp [q1d]
  | m+1,[],y::b,ops,h,ho=>by
    simp only [List.length_cons,List.length_nil] at h ho
    rw [q3g]
    unfold q9j
    have hp:q5e n y=some (false,y):=rfl
    have ih:=q46 n m [] b (ops ++ [(false,y)]) (by simp;omega) (by simp;omega)
    simp only [j4t,jep,qu3,jdu,cond_true,cond_false,qnc,jb5 (show ops.length<=1000000 by omega),qpu,Option.bind_some,hp,ih]
    simp [q1d]
  | m+1,x::a,y::b,ops,h,ho=>by
    simp only [List.length_cons] at h ho
    rw [q3g]
    unfold q9j
    have hp:q5e n y=some (false,y):=rfl
    have e0:(x::a).length+(y::b).length=(a.length+(y::b).length)+1:=by simp;omega
    have e1:q1d (a.length+(y::b).length) (x::a) b=q1d ((x::a).length+b.length) (x::a) b:=by
      rw [show a.length+(y::b).length=(x::a).length+b.length from by simp;omega]
    have e2:q1d (a.length+(y::b).length) a b=q1d (a.length+b.length) a b:=qlp _ _ _ (by simp)
    have d:q1d ((x::a).length+(y::b).length) (x::a) (y::b)=if ltS x.1 y.1 then (true,(x.1,[]))::q1d (a.length+(y::b).length) a (y::b) else if ltS y.1 x.1 then (false,y)::q1d ((x::a).length+b.length) (x::a) b else if x.2=y.2 then q1d (a.length+b.length) a b else (false,y)::q1d (a.length+b.length) a b:=by
      rw [e0,q1d,e1,e2]
    rw [d]
    have i1:=q46 n m a (y::b) (ops ++ [(true,(x.1,[]))]) (by simp;omega) (by simp;omega)
    have i2:=q46 n m (x::a) b (ops ++ [(false,y)]) (by simp;omega) (by simp;omega)
    have i3:=q46 n m a b (ops ++ [(false,y)]) (by omega) (by simp;omega)
    have i4:=q46 n m a b ops (by omega) (by omega)
    simp only [qu3,jdu,cond_true,cond_false,qnc,jb5 (show ops.length<=1000000 by omega),qpu,Option.bind_some,hp,i1,i2,i3,i4]
    cases ltS x.1 y.1 with
    | true=>simp
    | false=>cases ltS y.1 x.1 with
      | true=>simp
      | false =>
                 by_cases hd:x.2=y.2
                 · simp [hd]
                 · simp [hd]
theorem j20 (n:Nat) (a b:List FD) (ha:a.length<=100000) (hb:b.length<=100000) (hn:a.length+b.length<n):qol n a b=some (q39 a b):=by
  unfold qol q39
  rw [qiw n a (by omega) (by omega),qiw n b (by omega) (by omega)]
  have:=q46 n n a b [] hn (by simp;omega)
  simp only [this,Option.bind_some]
  cases q7t a<;>cases q7t b<;>rfl
theorem lt_or {s t:List UInt8} : (!(ltS s t||decide (s=t)))=ltS t s:=by
  have h1:=q3p s t
  have h2:=q3p t s
  unfold ltS
  rw [h1,h2]
  have ha:=(q3r q3q).anti s t
  have hz:cmpL ja4 s t=0↔s=t:=(q3r q3q).zero
  have hr:=(q3r q3q).rng s t
  rw [Bool.eq_iff_iff]
  simp only [Bool.not_eq_true',Bool.or_eq_false_iff,decide_eq_false_iff_not,decide_eq_true_eq,<-hz]
  generalize cmpL ja4 s t=x at ha hr
  generalize cmpL ja4 t s=y at ha
  omega
theorem q3i (n:Nat) (a b:List FD) (hab:a.length+b.length<=500000) : ∀(m i k:Nat) (ops:List OD),i<=a.length->k<=b.length->(a.length - i)+(b.length - k)<m->ops.length+(a.length - i)+(b.length - k)<=1000000 ->
    q5z n m a b (i:Int) (k:Int) ops=some (((),()),((),(ops++q1d ((a.length - i)+(b.length - k)) (a.drop i) (b.drop k),())))
  | 0,i,k,ops,_,_,h,_=>absurd h (Nat.not_lt_zero _)
  | m+1,i,k,ops,hi,hk,h,ho=>by
    rw [qe7]
    unfold qjb
    have ap:=fun r=>jb5 (show ops.length<=1000000 by omega) r
    have wi:IntKind.wrap .i64 (((i:Nat):Int)+1)=((i+1:Nat):Int):=q19 (by omega)
    have wk:IntKind.wrap .i64 (((k:Nat):Int)+1)=((k+1:Nat):Int):=q19 (by omega)
    by_cases ci:i<a.length
    · have ci1:((i:Nat):Int)<((a.length:Nat):Int):=by omega
      have ci2 : ¬ ((i:Nat):Int)=((a.length:Nat):Int):=by omega
      have da:a.drop i=a[i]::a.drop (i+1):=List.drop_eq_getElem_cons ci
      by_cases ck:k<b.length
      · have ck1:((k:Nat):Int)<((b.length:Nat):Int):=by omega
        have ck2 : ¬ ((k:Nat):Int)=((b.length:Nat):Int):=by omega
        have db:b.drop k=b[k]::b.drop (k+1):=List.drop_eq_getElem_cons ck
        have i1:=q3i n a b hab m (i+1) k (ops ++ [(true,(a[i].1,[]))]) (by omega) (by omega) (by omega) (by simp;omega)
        have i2:=q3i n a b hab m i (k+1) (ops ++ [(false,(b[k].1,b[k].2))]) (by omega) (by omega) (by omega) (by simp;omega)
        have i3:=q3i n a b hab m (i+1) (k+1) (ops ++ [(false,(b[k].1,b[k].2))]) (by omega) (by omega) (by omega) (by simp;omega)
        have i4:=q3i n a b hab m (i+1) (k+1) ops (by omega) (by omega) (by omega) (by omega)
        have e1:q1d ((a.length - i)+(b.length - (k+1))) (a.drop i) (b.drop (k+1))=q1d ((a.length - (i+1))+(b.length - k)) (a.drop i) (b.drop (k+1)):=by
          rw [show (a.length - i)+(b.length - (k+1))=(a.length - (i+1))+(b.length - k) from by omega]
        have e2:q1d ((a.length - (i+1))+(b.length - (k+1))) (a.drop (i+1)) (b.drop (k+1))=q1d ((a.length - (i+1))+(b.length - k)) (a.drop (i+1)) (b.drop (k+1)):=by
          rw [qlp ((a.length - (i+1))+(b.length - k)) _ _ (by simp;omega)];simp
        have d:q1d ((a.length - i)+(b.length - k)) (a.drop i) (b.drop k)=if ltS a[i].1 b[k].1 then (true,(a[i].1,[]))::q1d ((a.length - (i+1))+(b.length - k)) (a.drop (i+1)) (b.drop k) else if ltS b[k].1 a[i].1 then (false,b[k])::q1d ((a.length - i)+(b.length - (k+1))) (a.drop i) (b.drop (k+1)) else if a[i].2=b[k].2 then q1d ((a.length - (i+1))+(b.length - (k+1))) (a.drop (i+1)) (b.drop (k+1)) else (false,b[k])::q1d ((a.length - (i+1))+(b.length - (k+1))) (a.drop (i+1)) (b.drop (k+1)):=by
          rw [e1,e2,show (a.length - i)+(b.length - k)=((a.length - (i+1))+(b.length - k))+1 from by omega]
          conv=>lhs;rw [da,db,q1d]
          rw [<-da,<-db]
        rw [d]
        simp only [ci1,ci2,ck1,ck2,decide_true,decide_false,cond_true,cond_false,q2h ci,q2h ck,ap,Option.bind_some,q0n,wi,wk,i1,i2,i3,i4,lt_or]
        cases ltS a[i].1 b[k].1 with
        | true=>simp
        | false=>cases ltS b[k].1 a[i].1 with
          | true=>simp
          | false =>
                     by_cases hd:a[i].2=b[k].2
                     · simp [hd]
                     · simp [hd]
      · have hk2:k=b.length:=by omega
        subst hk2
        have i1:=q3i n a b hab m (i+1) b.length (ops ++ [(true,(a[i].1,[]))]) (by omega) (by omega) (by omega) (by simp;omega)
        have db:b.drop b.length = []:=List.drop_length
        have d:q1d ((a.length - i)+(b.length - b.length)) (a.drop i) (b.drop b.length)=(true,(a[i].1,[]))::q1d ((a.length - (i+1))+(b.length - b.length)) (a.drop (i+1)) (b.drop b.length):=by
          rw [show (a.length - i)+(b.length - b.length)=((a.length - (i+1))+(b.length - b.length))+1 from by omega,da,db,q1d]
        rw [d]
        simp only [ci1,decide_true,cond_true,q2h ci,ap,Option.bind_some,q0n,wi,i1]
        simp
    · have hi2:i=a.length:=by omega
      subst hi2
      have da:a.drop a.length = []:=List.drop_length
      by_cases ck:k<b.length
      · have ck1:((k:Nat):Int)<((b.length:Nat):Int):=by omega
        have ck2 : ¬ ((k:Nat):Int)=((b.length:Nat):Int):=by omega
        have db:b.drop k=b[k]::b.drop (k+1):=List.drop_eq_getElem_cons ck
        have i2:=q3i n a b hab m a.length (k+1) (ops ++ [(false,(b[k].1,b[k].2))]) (by omega) (by omega) (by omega) (by simp;omega)
        have d:q1d ((a.length - a.length)+(b.length - k)) (a.drop a.length) (b.drop k)=(false,b[k])::q1d ((a.length - a.length)+(b.length - (k+1))) (a.drop a.length) (b.drop (k+1)):=by
          rw [show (a.length - a.length)+(b.length - k)=((a.length - a.length)+(b.length - (k+1)))+1 from by omega,da,db,q1d]
        rw [d]
        simp only [Int.lt_irrefl,ck1,ck2,decide_true,decide_false,cond_true,cond_false,q2h ck,ap,Option.bind_some,q0n,wk,i2]
        simp
      · have hk2:k=b.length:=by omega
        subst hk2
        have db:b.drop b.length = []:=List.drop_length
        rw [da,db,qqw]
        simp only [Int.lt_irrefl,decide_false,cond_false,List.append_nil]
theorem qwu (n:Nat) (a b:List FD) (ha:a.length<=100000) (hb:b.length<=100000) (hpa : ∀f∈a,f.1.length<=1000000) (hpb : ∀f∈b,f.1.length<=1000000) (hn:a.length+b.length<n) (hn2:100<=n):qd1 n a b=some (q39 a b):=by
  unfold qd1 q39
  rw [qdu n a (by omega) hpa hn2 (by omega),qdu n b (by omega) hpb hn2 (by omega)]
  have:=q3i n a b (by omega) n 0 0 [] (Nat.zero_le _) (Nat.zero_le _) (by omega) (by simp;omega)
  rw [show ((0:Nat):Int)=(0:Int) from rfl] at this
  simp only [this,Option.bind_some]
  cases q7t a<;>cases q7t b<;>rfl
end Go.Proofs.YthpgnliicpejoaaGreatDoor.AM
namespace Go.Proofs.YthpgnliicpejoaaGreatDoor.AM
open Go.RowKit
set_option linter.unusedVariables false
set_option linter.unusedSimpArgs false
theorem j0y {s t:List UInt8} (h:s.length+t.length<=9223372036854775807):qff s t=some (s++t):=if_pos h
theorem shr8 (k:Nat):jeo .i64 ((k:Nat):Int) (8:Int)=some ((k / 256:Nat):Int):=by
  unfold jeo;rw [if_pos (by decide)]
  have e:(2:Int) ^ (min (8:Int).toNat (IntKind.bits .i64))=256:=by decide
  rw [e,Int.fdiv_eq_ediv_of_nonneg _ (by decide)];rfl
theorem jln (k:Nat):b8 ((k:Nat):Int)=b8 ((k % 256:Nat):Int):=by
  unfold b8
  rw [IntKind.wrap_u8,IntKind.wrap_u8]
  congr 2;omega
theorem j57 (n:Nat) (o:OD) (h1:o.2.1.length<=1000000) (h2:o.2.2.length<=1000000):j76 n o=some (q5j o):=by
  unfold j76 q5j
  simp only [q0n,shr8,Option.bind_some,List.map_cons,List.map_nil]
  rw [j0y (by simp;omega)]
  simp only [Option.bind_some]
  rw [j0y (by simp;omega),j0y (by simp;omega)]
  simp only [Option.bind_some]
  rw [j0y (by simp;omega)]
  simp only [Option.bind_some]
  rw [j0y (by simp;omega)]
  cases o.1 with
  | true=>simp [b8]
  | false =>
    simp only [cond_false,Option.bind_some]
    have:=jln o.2.2.length
    unfold b8 at this ⊢
    simp [this]
theorem qbl (n:Nat) (l:List OD) (hL:l.length<=1000000) (hs : ∀o∈l,o.2.1.length<=1000000/\o.2.2.length<=1000000) (hn:100<=n) : ∀(m j:Nat) (s:List UInt8),j<=l.length->l.length - j<m->s.length<=j*3000000 ->
    q3b n m l s (j:Int)=some (if (q51 (l.drop j)).2=0 then Sum.inr ((s++(q51 (l.drop j)).1,()),((),())) else Sum.inl (([],((q51 (l.drop j)).2,())),((),())))
  | 0,j,s,_,h,_=>absurd h (Nat.not_lt_zero _)
  | m+1,j,s,hj,h,hsl=>by
    rw [qau]
    unfold qan
    by_cases c0:j<l.length
    · have c0':((j:Nat):Int)<((l.length:Nat):Int):=by omega
      have hd:l.drop j=l[j]::l.drop (j+1):=(List.drop_eq_getElem_cons c0)
      obtain ⟨hp1,hp2⟩:=hs _ (List.getElem_mem c0)
      have hx:q1a l ((j:Nat):Int)=some l[j]:=q2h c0
      have ih:=fun s' hs'=>qbl n l hL hs hn m (j+1) s' (by omega) (by omega) hs'
      rw [hd,hx]
      generalize l[j]=o at hp1 hp2
      obtain ⟨g,p,d⟩:=o
      dsimp only at hp1 hp2
      have e4:q4s n p=some (q38 p):=qaj n _ hp1 hn
      have wj:IntKind.wrap .i64 (((j:Nat):Int)+1)=((j+1:Nat):Int):=q19 (by omega)
      have q1:qsq .i64 ((d.length:Nat):Int) (256:Int)=some ((d.length / 256:Nat):Int):=by
        unfold qsq;rw [if_pos (by decide),Int.tdiv_eq_ediv_of_nonneg (by omega),wrap64 (by omega) (by omega)];rfl
      have q2:jdv ((d.length:Nat):Int) (256:Int)=some ((d.length % 256:Nat):Int):=by
        unfold jdv;rw [if_pos (by decide),Int.tmod_eq_emod_of_nonneg (by omega)];rfl
      have o0:UInt8.ofNat (0:Int).toNat=0:=rfl
      have o1:UInt8.ofNat (1:Int).toNat=1:=rfl
      have hb : ∀x:Int,UInt8.ofNat (IntKind.wrap .u8 x).toNat=b8 x:=fun _=>rfl
      have hc:decide ((4096:Int)<((d.length:Nat):Int))=decide (4096<d.length):=decide_eq_decide.2 (by omega)
      have fin : ∀(L:List UInt8),q5j (g,(p,d))=L->q5q (g,(p,d))=0->L.length<=3000000 ->
          q3b n m l (s++L) ((j+1:Nat):Int)=some (if (q51 ((g,(p,d))::l.drop (j+1))).2=0 then Sum.inr ((s++(q51 ((g,(p,d))::l.drop (j+1))).1,()),((),())) else Sum.inl (([],((q51 ((g,(p,d))::l.drop (j+1))).2,())),((),()))):=fun L h1 h2 h3=>by
        rw [ih (s++L) (by rw [List.length_append];omega),q51,if_pos h2,h1]
        by_cases he:(q51 (l.drop (j+1))).2=0
        · simp [he]
        · simp [he]
      have bad : ∀e:Int,q5q (g,(p,d))=e->e≠0->(some (Sum.inl (([],(e,())),((),()))):Option ((((List UInt8)×(Int×(Unit)))×(Unit)×(Unit))⊕(((List UInt8)×(Unit))×(Unit)×(Unit))))=some (if (q51 ((g,(p,d))::l.drop (j+1))).2=0 then Sum.inr ((s++(q51 ((g,(p,d))::l.drop (j+1))).1,()),((),())) else Sum.inl (([],((q51 ((g,(p,d))::l.drop (j+1))).2,())),((),()))):=fun e h1 h2=>by
        have he:q51 ((g,(p,d))::l.drop (j+1))=([],e):=by
          have hn0 : ¬ q5q (g,(p,d))=0:=fun h=>h2 (h1.symm.trans h)
          rw [q51,if_neg hn0,h1]
        rw [he];simp [h2]
      have key0:(qff s [1,b8 p.length]).bind (fun s4=>qff s4 p)=some (s++([1,b8 p.length]++p)):=by
        rw [j0y (by simp;omega),Option.bind_some,j0y (by simp;omega),List.append_assoc]
      have ck:(decide (4096<d.length)=true->q38 p=true->(g=true->d = [])->q5q (g,(p,d))=2):=fun h1 h2 h3=>by
        unfold q5q
        have h1':4096<d.length:=of_decide_eq_true h1
        cases g with
        | true=>rw [h3 rfl] at h1';simp at h1'
        | false=>simp [h2,h1']
      simp only [c0',decide_true,cond_true,Option.bind_some,e4,q1,q2,q0n,wj,List.map_cons,List.map_nil,hb,o0,o1,hc]
      cases hp:q38 p with
      | false=>exact bad 6 (by unfold q5q;simp [hp]) (by decide)
      | true =>
        by_cases c1:4096<d.length
        · cases g with
          | true =>
            have hd0:d ≠ []:=fun h=>by rw [h] at c1;simp at c1
            simp only [hd0,decide_false,Bool.not_false,Bool.not_true,cond_true,cond_false]
            exact bad 1 (by unfold q5q;simp [hp,hd0]) (by decide)
          | false =>
            simp only [c1,decide_true,Bool.not_true,cond_true,cond_false]
            exact bad 2 (by unfold q5q;simp [hp,c1]) (by decide)
        · cases g with
          | true =>
            by_cases hd0:d = []
            · subst hd0
              simp only [c1,decide_true,decide_false,Bool.not_true,Bool.not_false,cond_true,cond_false]
              rw [j0y (by simp;omega)]
              simp only [Option.bind_some]
              rw [j0y (by simp;omega)]
              simp only [Option.bind_some,List.append_assoc]
              exact fin _ (by unfold q5j;simp) (by unfold q5q;simp [hp]) (by simp;omega)
            · simp only [hd0,decide_false,Bool.not_false,Bool.not_true,cond_true,cond_false]
              exact bad 1 (by unfold q5q;simp [hp,hd0]) (by decide)
          | false =>
            simp only [c1,decide_false,Bool.not_true,Bool.not_false,cond_true,cond_false]
            rw [j0y (by simp;omega)]
            simp only [Option.bind_some]
            rw [j0y (by simp;omega)]
            simp only [Option.bind_some]
            rw [j0y (by simp;omega)]
            simp only [Option.bind_some]
            rw [j0y (by simp;omega)]
            simp only [Option.bind_some,List.append_assoc]
            exact fin _ (by unfold q5j;simp) (by unfold q5q;simp [hp,c1]) (by simp;omega)
    · have c0' : ¬ ((j:Nat):Int)<((l.length:Nat):Int):=by omega
      have e1:l.drop j = []:=List.drop_eq_nil_of_le (by omega)
      simp [c0',e1,q51]
theorem qnj (n:Nat) (l:List OD) (hL:l.length<=1000000) (hs : ∀o∈l,o.2.1.length<=1000000/\o.2.2.length<=1000000) (hn:100<=n) (hn2:l.length<n):q56 n l=some (q25 l):=by
  unfold q56 q25
  have:=qbl n l hL hs hn n 0 [] (Nat.zero_le _) (by omega) (by simp)
  rw [show ((0:Nat):Int)=(0:Int) from rfl,List.drop_zero] at this
  rw [this]
  by_cases he:(q51 l).2=0
  · have hc:decide ((4096:Int)<(((q51 l).1.length:Nat):Int))=decide (4096<(q51 l).1.length):=decide_eq_decide.2 (by omega)
    by_cases h2:4096<(q51 l).1.length
    · have h2':(4096:Int)<(((q51 l).1.length:Nat):Int):=by omega
      simp [he,h2,h2']
    · have h2' : ¬ (4096:Int)<(((q51 l).1.length:Nat):Int):=by omega
      simp [he,h2,h2']
  · simp [he]
end Go.Proofs.YthpgnliicpejoaaGreatDoor.AM
namespace Go.Proofs.YthpgnliicpejoaaGreatDoor.AM
open Go.RowKit
set_option linter.unusedVariables false
set_option linter.unusedSimpArgs false
theorem qux (A B:List UInt8) (x:UInt8) {j:Int} (hj:j=(A.length:Int)):sAt (A++x::B) j=some ((x.toNat:Nat):Int):=by
  subst hj
  have:=qz9 (s:=A++x::B) (j:=A.length) (by simp)
  rw [this];simp
theorem j4q {β:Type} (A B:List β) (m:Nat) (hm:m<=B.length) {i j:Int} (hi:i=(A.length:Int)) (hj:j=((A.length+m:Nat):Int)):q4i (A++B) i j=some (B.take m):=by
  subst hi;subst hj
  have:=sub_le (l:=A++B) (a:=A.length) (b:=A.length+m) (by omega) (by simp;omega)
  rw [this]
  rw [List.drop_left,Nat.add_sub_cancel_left]
theorem shl8 (x:UInt8):jir .i64 ((x.toNat:Nat):Int) (8:Int)=some ((256*x.toNat:Nat):Int):=by
  have hx:=x.toNat_lt
  unfold jir;rw [if_pos (by decide)]
  have e:(2:Int) ^ (min (8:Int).toNat (IntKind.bits .i64))=256:=by decide
  rw [e,wrap64 (by omega) (by omega)];congr 1;omega
theorem or8 (x y:UInt8):orI .i64 ((256*x.toNat:Nat):Int) ((y.toNat:Nat):Int)=((256*x.toNat+y.toNat:Nat):Int):=by
  have hx:=x.toNat_lt
  have hy:=y.toNat_lt
  unfold orI
  have h1:(BitVec.ofInt (IntKind.bits .i64) ((256*x.toNat:Nat):Int))=BitVec.ofNat 64 (256*x.toNat):=by rfl
  have h2:(BitVec.ofInt (IntKind.bits .i64) ((y.toNat:Nat):Int))=BitVec.ofNat 64 y.toNat:=by rfl
  rw [h1,h2]
  have h3:(BitVec.ofNat 64 (256*x.toNat) ||| BitVec.ofNat 64 y.toNat).toNat=256*x.toNat+y.toNat:=by
    rw [BitVec.toNat_or,BitVec.toNat_ofNat,BitVec.toNat_ofNat,Nat.mod_eq_of_lt (by omega),Nat.mod_eq_of_lt (by omega)]
    have h4:=Nat.shiftLeft_add_eq_or_of_lt (i:=8) (show y.toNat<2 ^ 8 by omega) x.toNat
    rw [Nat.shiftLeft_eq] at h4
    rw [show 256*x.toNat=x.toNat*2 ^ 8 from by omega,<-h4]
  show IntKind.wrap .i64 (((BitVec.ofNat 64 (256*x.toNat) ||| BitVec.ofNat 64 y.toNat).toNat:Nat):Int)=_
  rw [h3,wrap64 (by omega) (by omega)]
def q0x (s:List UInt8):OD×(Int×Bool):=match qwp s with
  | some (o,k)=>(o,(((k:Nat):Int),true))
  | none=>((false,([],[])),(0,false))
theorem jft {s:List UInt8} (h:s.length<2):qwp s=none:=by
  match s,h with
  | [],_=>rfl
  | [_],_=>rfl
theorem qqo : ∀(m:Nat) (s:List UInt8) (out:List OD),q3l m s=some out->out.length<=s.length/\∀o∈out,o.2.1.length<=s.length/\o.2.2.length<=s.length
  | 0,_,_,h=>by cases h
  | m+1,s,out,h=>by
    rw [q3l] at h
    split at h
    · cases h;exact ⟨Nat.zero_le _,fun o ho=>by cases ho⟩
    · split at h
      case h_2=>cases h
      rename_i o k ho
      cases hp:q3l m (s.drop k) with
      | none=>rw [hp] at h;cases h
      | some out' =>
        rw [hp] at h
        have:out=o::out':=by simpa using h.symm
        subst this
        obtain ⟨h1,h2,h3⟩:=qdw ho
        obtain ⟨i1,i2⟩:=qqo m _ _ hp
        rw [List.length_drop] at i1 i2
        have hlay:(q5j o).length<=s.length:=by have:=congrArg List.length h1;rw [List.length_append] at this;omega
        refine ⟨by simp;omega,fun o' ho'=>?_⟩
        rcases List.mem_cons.1 ho' with rfl|hm
        · unfold q5j at hlay
          refine ⟨by simp at hlay;omega,?_⟩
          obtain ⟨g,p,d⟩:=o'
          cases g with
          | true =>
            have hd0:d = []:=by
              match s,ho with
              | kk::c::r,ho =>
                rw [qwp] at ho
                split at ho
                case isFalse=>cases ho
                split at ho
                case isTrue=>cases ho
                split at ho
                · simp only [Option.some.injEq,Prod.mk.injEq] at ho;exact ho.1.2.2.symm
                · split at ho
                  case h_2=>cases ho
                  split at ho
                  · cases ho
                  · simp at ho
            rw [hd0];exact Nat.zero_le _
          | false=>simp at hlay ⊢;omega
        · have:=i2 o' hm;omega
end Go.Proofs.YthpgnliicpejoaaGreatDoor.AM
namespace Go.Proofs.YthpgnliicpejoaaGreatDoor.AM
open Go.RowKit
set_option linter.unusedVariables false
set_option linter.unusedSimpArgs false
def q0y (l:List FD) (p:List UInt8):List FD:=l.filter fun f=>!decide (f.1=p)
def q6c (f:FD):List FD->List FD×Bool
  | []=>([],false)
  | x::t=>if ltS f.1 x.1 then (f::x::t,true) else (x::(q6c f t).1,(q6c f t).2)
def qqz (f:FD) (l:List FD):List FD:=if (q6c f l).2 then (q6c f l).1 else (q6c f l).1 ++ [f]
def q1v (l:List FD) (o:OD):List FD×Int :=
  if q38 o.2.1 then (if o.1 then (if (q8a l o.2.1).2 then (q0y l o.2.1,0) else ([],5)) else if 4096<o.2.2.length then ([],2) else if 40<=(q0y l o.2.1).length then ([],3) else (qqz o.2 (q0y l o.2.1),0)) else ([],6)
def q7z:List FD->List OD->List FD×Int
  | l,[]=>(l,0)
  | l,o::t=>if (q1v l o).2=0 then q7z (q1v l o).1 t else ([],(q1v l o).2)
def q2r (l:List FD) (ops:List OD):List FD×Int:=if q7t l then q7z l ops else ([],1)
theorem j6n {l:List FD} (h:l.length<=1000000) (r:FD):q3k 32 l [r]=some (l ++ [r]):=if_pos (by simp;omega)
theorem q6a (n:Nat) (l:List FD) (p:List UInt8) (hL:l.length<=100000) : ∀(m j:Nat) (acc:List FD),j<=l.length->l.length - j<m->acc.length<=j->q3v n m l p (j:Int) acc=some (((),()),((),(acc++q0y (l.drop j) p,())))
  | 0,j,acc,_,h,_=>absurd h (Nat.not_lt_zero _)
  | m+1,j,acc,hj,h,ha=>by
    rw [qa2]
    unfold q84
    by_cases c0:j<l.length
    · have c0':((j:Nat):Int)<((l.length:Nat):Int):=by omega
      have i1:=q6a n l p hL m (j+1) (acc ++ [l[j]]) (by omega) (by omega) (by simp;omega)
      have i2:=q6a n l p hL m (j+1) acc (by omega) (by omega) (by omega)
      have hd:l.drop j=l[j]::l.drop (j+1):=(List.drop_eq_getElem_cons c0)
      have hw:q0y (l.drop j) p=if l[j].1=p then q0y (l.drop (j+1)) p else l[j]::q0y (l.drop (j+1)) p:=by
        rw [hd];unfold q0y;rw [List.filter_cons]
        by_cases hc:l[j].1=p
        · simp [hc]
        · simp [hc]
      rw [hw]
      simp only [c0',decide_true,cond_true,q2h c0,Option.bind_some,j6n (show acc.length<=1000000 by omega),q0n,q19 (show j<4611686018427387904 by omega),i1,i2]
      by_cases hc:l[j].1=p
      · simp [hc]
      · simp [hc]
    · have c0' : ¬ ((j:Nat):Int)<((l.length:Nat):Int):=by omega
      have e1:l.drop j = []:=List.drop_eq_nil_of_le (by omega)
      simp [c0',e1,q0y]
theorem qkh (n:Nat) (l:List FD) (p:List UInt8) (hL:l.length<=100000) (hn:l.length<n):q2w n l p=some (q0y l p):=by
  unfold q2w
  have:=q6a n l p hL n 0 [] (Nat.zero_le _) (by omega) (Nat.le_refl _)
  rw [show ((0:Nat):Int)=(0:Int) from rfl,List.drop_zero] at this
  rw [this];rfl
theorem qal (n:Nat) (l:List FD) (f:FD) (hL:l.length<=100000) : ∀(m j:Nat) (b:Bool) (acc:List FD),j<=l.length->l.length - j<m->acc.length<=2*j+2 ->
    q64 n m l b (j:Int) f.1 f.2 acc=some (((),((),(b||(q6c f (l.drop j)).2,()))),(((f.1,f.2),()),(acc++(if b then l.drop j else (q6c f (l.drop j)).1),())))
  | 0,j,b,acc,_,h,_=>absurd h (Nat.not_lt_zero _)
  | m+1,j,b,acc,hj,h,ha=>by
    rw [qdr]
    unfold qhf
    by_cases c0:j<l.length
    · have c0':((j:Nat):Int)<((l.length:Nat):Int):=by omega
      have hd:l.drop j=l[j]::l.drop (j+1):=(List.drop_eq_getElem_cons c0)
      have hw:q6c f (l.drop j)=if ltS f.1 l[j].1 then (f::l.drop j,true) else (l[j]::(q6c f (l.drop (j+1))).1,(q6c f (l.drop (j+1))).2):=by rw [hd,q6c]
      rw [hw]
      have a1:q3k 32 acc [l[j]]=some (acc ++ [l[j]]):=j6n (by omega) _
      have a2:q3k 32 acc [(f.1,f.2)]=some (acc ++ [f]):=j6n (by omega) _
      have a3:q3k 32 (acc ++ [f]) [l[j]]=some (acc ++ [f] ++ [l[j]]):=j6n (by simp;omega) _
      have i1:=fun b=>qal n l f hL m (j+1) b (acc ++ [l[j]]) (by omega) (by omega) (by simp;omega)
      have i2:=qal n l f hL m (j+1) true (acc ++ [f] ++ [l[j]]) (by omega) (by omega) (by simp;omega)
      simp only [c0',decide_true,cond_true,q2h c0,Option.bind_some,q0n,q19 (show j<4611686018427387904 by omega),a1,a2,a3,i1,i2]
      cases b with
      | true=>rw [hd];simp only [Bool.not_true,Bool.not_false,cond_true,cond_false,Bool.false_or,Bool.true_or,if_true,List.append_assoc,List.cons_append,List.nil_append]
      | false =>
        cases ltS f.1 l[j].1 with
        | true=>rw [hd];simp only [Bool.not_true,Bool.not_false,cond_true,cond_false,Bool.false_or,Bool.true_or,Bool.or_true,if_true,Bool.false_eq_true,if_false,List.append_assoc,List.cons_append,List.nil_append]
        | false=>simp
    · have c0' : ¬ ((j:Nat):Int)<((l.length:Nat):Int):=by omega
      have e1:l.drop j = []:=List.drop_eq_nil_of_le (by omega)
      cases b<;>simp [c0',e1,q6c]
theorem qwg (n:Nat) (l:List FD) (f:FD) (hL:l.length<=100000) (hn:l.length<n):q5v n l f=some (qqz f l):=by
  unfold q5v qqz
  have:=qal n l f hL n 0 false [] (Nat.zero_le _) (by omega) (by simp)
  rw [show ((0:Nat):Int)=(0:Int) from rfl,List.drop_zero] at this
  rw [this]
  have hl : ∀l:List FD,(q6c f l).1.length<=l.length+1:=by
    intro l
    induction l with
    | nil=>simp [q6c]
    | cons x t ih =>
                     rw [q6c];split
                     · simp
                     · simp;omega
  simp only [Option.bind_some,Bool.false_or,Bool.false_eq_true,if_false,List.nil_append]
  cases hw:(q6c f l).2 with
  | true=>rfl
  | false =>
    simp only [Bool.not_false,cond_true]
    rw [show ((f.1,f.2):FD)=f from rfl,j6n (by have:=hl l;omega) f];rfl
theorem qqk (f:FD) : ∀l:List FD,(q6c f l).1.length<=l.length+1
  | []=>by simp [q6c]
  | x::t=>by
    have ih:=qqk f t
    rw [q6c];split
    · simp
    · simp;omega
theorem jga (f:FD) (l:List FD):(qqz f l).length<=l.length+2:=by
  have:=qqk f l
  unfold qqz;split
  · omega
  · simp;omega
theorem qad (l:List FD) (p:List UInt8):(q0y l p).length<=l.length:=List.length_filter_le ..
theorem q8p (n:Nat) (ops:List OD) (hL:ops.length<=10000) (hp : ∀o∈ops,o.2.1.length<=1000000) (hn:100<=n) (hn2:30000<n) : ∀(m j:Nat) (l:List FD),j<=ops.length->ops.length - j<m->l.length<=2*j+50 ->
    q52 n m ops l (j:Int)=some (if (q7z l (ops.drop j)).2=0 then Sum.inr (((q7z l (ops.drop j)).1,()),((),())) else Sum.inl (((),((q7z l (ops.drop j)).2,())),((),())))
  | 0,j,l,_,h,_=>absurd h (Nat.not_lt_zero _)
  | m+1,j,l,hj,h,hl=>by
    rw [qbs]
    unfold qex
    by_cases c0:j<ops.length
    · have c0':((j:Nat):Int)<((ops.length:Nat):Int):=by omega
      have hd:ops.drop j=ops[j]::ops.drop (j+1):=(List.drop_eq_getElem_cons c0)
      have hpo:=hp _ (List.getElem_mem c0)
      rw [hd]
      have hx:q1a ops ((j:Nat):Int)=some ops[j]:=q2h c0
      rw [hx]
      generalize ops[j]=o at hpo
      have hwl:=qad l o.2.1
      have hil:=jga o.2 (q0y l o.2.1)
      have g1:qhg n l o.2.1=some (q8a l o.2.1):=j18 n l _ (by omega) (by omega)
      have g2:q4s n o.2.1=some (q38 o.2.1):=qaj n _ hpo hn
      have g3:q2w n l o.2.1=some (q0y l o.2.1):=qkh n l _ (by omega) (by omega)
      have g4:q5v n (q0y l o.2.1) o.2=some (qqz o.2 (q0y l o.2.1)):=qwg n _ _ (by omega) (by omega)
      have i1:=q8p n ops hL hp hn hn2 m (j+1) (q0y l o.2.1) (by omega) (by omega) (by omega)
      have i2:=q8p n ops hL hp hn hn2 m (j+1) (qqz o.2 (q0y l o.2.1)) (by omega) (by omega) (by omega)
      have b1:decide ((4096:Int)<((o.2.2.length:Nat):Int))=decide (4096<o.2.2.length):=decide_eq_decide.2 (by omega)
      have b2:decide ((40:Int)<=(((q0y l o.2.1).length:Nat):Int))=decide (40<=(q0y l o.2.1).length):=decide_eq_decide.2 (by omega)
      simp only [c0',decide_true,cond_true,Option.bind_some,g1,g2,g3,g4,b1,b2,q0n,q19 (show j<4611686018427387904 by omega),i1,i2]
      rw [q7z]
      unfold q1v
      cases q38 o.2.1 with
      | false=>simp
      | true =>
        cases o.1 with
        | true =>
          cases (q8a l o.2.1).2 with
          | false=>simp
          | true=>simp
        | false =>
          by_cases h1:4096<o.2.2.length
          · simp [h1]
          · by_cases h2:40<=(q0y l o.2.1).length
            · simp [h1,h2]
            · simp [h1,h2]
    · have c0' : ¬ ((j:Nat):Int)<((ops.length:Nat):Int):=by omega
      have e1:ops.drop j = []:=List.drop_eq_nil_of_le (by omega)
      simp [c0',e1,q7z]
theorem j02 : ∀(ops:List OD) (l:List FD),(q7z l ops).2≠0->(q7z l ops).1 = []
  | [],l,h=>absurd rfl h
  | o::t,l,h=>by
    rw [q7z] at h ⊢
    split at h
    · rename_i hc;rw [if_pos hc];exact j02 t _ h
    · rename_i hc;rw [if_neg hc]
theorem qtu (n:Nat) (l:List FD) (ops:List OD) (hL:ops.length<=10000) (hl:l.length<=10000) (hlp : ∀f∈l,f.1.length<=1000000) (hp : ∀o∈ops,o.2.1.length<=1000000) (hn:100<=n) (hn2:30000<n):q8f n l ops=some (q2r l ops):=by
  unfold q8f q2r
  rw [qdu n l (by omega) hlp hn (by omega)]
  cases hm:q7t l with
  | false=>rfl
  | true =>
    have h40:l.length<=40:=by unfold q7t at hm;simp only [Bool.and_eq_true,decide_eq_true_eq] at hm;exact hm.1
    have ha:q3k 32 ([]:List FD) l=some l:=by unfold q3k;rw [if_pos (by simp;omega)];rfl
    have:=q8p n ops hL hp hn hn2 n 0 l (Nat.zero_le _) (by omega) (by omega)
    rw [show ((0:Nat):Int)=(0:Int) from rfl,List.drop_zero] at this
    simp only [Option.bind_some,Bool.not_true,cond_false,ha,this]
    by_cases he:(q7z l ops).2=0
    · have e:q7z l ops=((q7z l ops).1,0):=by rw [<-he]
      simp only [he,if_true,Option.bind_some,Sum.elim_inr]
      rw [<-e]
    · have e:q7z l ops=([],(q7z l ops).2):=by rw [<-j02 ops l he]
      simp only [he,if_false,if_true,Option.bind_some,Sum.elim_inl]
      rw [<-e]
end Go.Proofs.YthpgnliicpejoaaGreatDoor.AM
namespace Go.Proofs.YthpgnliicpejoaaGreatDoor.AM
open Go.RowKit
set_option linter.unusedVariables false
set_option linter.unusedSimpArgs false
abbrev l0:List FD:=[([97,47,120],[49]),([98],[51])]
end Go.Proofs.YthpgnliicpejoaaGreatDoor.AM
namespace Go.Proofs.YthpgnliicpejoaaGreatDoor.AM
open Go.RowKit
set_option linter.unusedVariables false
set_option linter.unusedSimpArgs false
theorem qxw (s t:List UInt8):ltS s t=true↔cmpL ja4 s t<0:=by
  unfold ltS;rw [q3p,decide_eq_true_eq]
theorem q6m {s t u:List UInt8} (h1:ltS s t=true) (h2:ltS t u=true):ltS s u=true:=by
  rw [qxw] at *
  have ht:=(q3r q3q).tr s t u (by omega) (by omega)
  have hr:=(q3r q3q).rng s u
  rcases Int.lt_or_eq_of_le ht with h|h
  · exact h
  · have e:=(q3r q3q).eq s u h
    subst e
    have ha:=(q3r q3q).anti s t
    omega
theorem jej (s:List UInt8):ltS s s=false:=by
  cases h:ltS s s with
  | false=>rfl
  | true=>rw [qxw,(q3r q3q).refl] at h;omega
theorem j58 {s t:List UInt8} (h1:ltS s t=false) (h2:s≠t):ltS t s=true:=by
  rw [qxw]
  have h3 : ¬ cmpL ja4 s t<0:=fun h=>by rw [(qxw s t).2 h] at h1;cases h1
  have h4:cmpL ja4 s t≠0:=fun h=>h2 ((q3r q3q).eq s t h)
  have ha:=(q3r q3q).anti s t
  omega
def qjl (l:List FD):Prop:=l.Pairwise fun x y=>ltS x.1 y.1=true
theorem qym : ∀l:List FD,qai l=true↔qjl l
  | []=>by simp [qai,qjl]
  | [x]=>by simp [qai,qjl]
  | x::y::t=>by
    have ih:=qym (y::t)
    unfold qjl at ih ⊢
    rw [qai,Bool.and_eq_true,ih]
    constructor
    · intro h
      have h1:=h.1
      have h2:=h.2
      refine List.pairwise_cons.2 ⟨fun z hz=>?_,h2⟩
      rcases List.mem_cons.1 hz with rfl|hz
      · exact h1
      · exact q6m h1 ((List.pairwise_cons.1 h2).1 z hz)
    · intro h
      have h':=List.pairwise_cons.1 h
      exact ⟨h'.1 y (List.mem_cons_self ..),h'.2⟩
theorem j6v (f:FD):qqz f [] = [f]:=rfl
theorem qbc (f x:FD) (t:List FD):qqz f (x::t)=if ltS f.1 x.1 then f::x::t else x::qqz f t:=by
  unfold qqz;rw [q6c]
  split
  · rfl
  · simp only
    split<;>simp
theorem qw3 (f y:FD) : ∀l:List FD,y∈qqz f l↔y=f\/y∈l
  | []=>by simp [j6v]
  | x::t=>by
    rw [qbc]
    split
    · simp
    · rw [List.mem_cons,qw3 f y t,List.mem_cons]
      constructor
      · rintro (h|h|h)
        · exact Or.inr (Or.inl h)
        · exact Or.inl h
        · exact Or.inr (Or.inr h)
      · rintro (h|h|h)
        · exact Or.inr (Or.inl h)
        · exact Or.inl h
        · exact Or.inr (Or.inr h)
theorem qee (f:FD) : ∀l:List FD,(qqz f l).length=l.length+1
  | []=>rfl
  | x::t=>by
    rw [qbc];split
    · simp
    · simp [qee f t]
def NoP (p:List UInt8) (l:List FD):Prop:=∀x∈l,x.1≠p
theorem qz3 {f:FD} : ∀{l:List FD},qjl l->NoP f.1 l->qjl (qqz f l)
  | [],_,_=>by unfold qjl;rw [j6v];simp
  | x::t,h,hn=>by
    have ⟨h1,h2⟩:=List.pairwise_cons.1 h
    rw [qbc]
    cases hc:ltS f.1 x.1 with
    | true =>
      simp only [if_true]
      refine List.pairwise_cons.2 ⟨fun z hz=>?_,h⟩
      rcases List.mem_cons.1 hz with rfl|hz
      · exact hc
      · exact q6m hc (h1 z hz)
    | false =>
      simp only [Bool.false_eq_true,if_false]
      refine List.pairwise_cons.2 ⟨fun z hz=>?_,qz3 h2 (fun y hy=>hn y (List.mem_cons_of_mem _ hy))⟩
      rcases (qw3 f z t).1 hz with rfl|hz
      · exact j58 hc (fun e=>hn x (List.mem_cons_self ..) e.symm)
      · exact h1 z hz
theorem qfb {l:List FD} (p:List UInt8) (h:qjl l):qjl (q0y l p):=List.Pairwise.filter _ h
theorem qvz (l:List FD) (p:List UInt8):NoP p (q0y l p):=fun x hx=>by
  have:=(List.mem_filter.1 hx).2;simpa using this
theorem q5h {l:List FD} {p:List UInt8} (h:NoP p l):q0y l p=l:=by
  unfold q0y;rw [List.filter_eq_self]
  intro x hx;simpa using h x hx
theorem j5z : ∀{l:List FD} {p:List UInt8},NoP p l->q8a l p=([],false)
  | [],_,_=>rfl
  | x::t,p,h=>by
    rw [q8a,if_neg (h x (List.mem_cons_self ..))]
    exact j5z fun y hy=>h y (List.mem_cons_of_mem _ hy)
theorem q8o (l:List FD):q7t l=true↔l.length<=40/\(∀f∈l,okF f=true)/\qjl l:=by
  unfold q7t
  rw [Bool.and_eq_true,Bool.and_eq_true,decide_eq_true_eq,List.all_eq_true,qym]
theorem qxr {l:List FD} {o:OD} (hl:q7t l=true) (h:(q1v l o).2=0):q7t (q1v l o).1=true:=by
  rw [q8o] at hl ⊢
  obtain ⟨h1,h2,h3⟩:=hl
  have hw : ∀f∈q0y l o.2.1,okF f=true:=fun f hf=>h2 f (List.mem_filter.1 hf).1
  have hwl:=qad l o.2.1
  unfold q1v at h ⊢
  cases hp:q38 o.2.1 with
  | false=>rw [hp] at h;simp at h
  | true =>
    rw [hp] at h
    simp only [if_true] at h ⊢
    cases ho:o.1 with
    | true =>
      rw [ho] at h
      simp only [if_true] at h ⊢
      cases hg:(q8a l o.2.1).2 with
      | false=>rw [hg] at h;simp at h
      | true=>simp only [if_true];exact ⟨by omega,hw,qfb _ h3⟩
    | false =>
      rw [ho] at h
      simp only [Bool.false_eq_true,if_false] at h ⊢
      by_cases c1:4096<o.2.2.length
      · rw [if_pos c1] at h;simp at h
      · rw [if_neg c1] at h ⊢
        by_cases c2:40<=(q0y l o.2.1).length
        · rw [if_pos c2] at h;simp at h
        · rw [if_neg c2]
          refine ⟨by simp only [qee];omega,fun f hf=>?_,qz3 (qfb _ h3) (qvz _ _)⟩
          rcases (qw3 o.2 f _).1 hf with rfl|hf
          · unfold okF;rw [hp];simp;omega
          · exact hw f hf
theorem j9f : ∀(ops:List OD) {l:List FD},q7t l=true->(q7z l ops).2=0->q7t (q7z l ops).1=true
  | [],l,h,_=>h
  | o::t,l,h,h0=>by
    rw [q7z] at h0 ⊢
    split at h0
    · rename_i hc;rw [if_pos hc];exact j9f t (qxr h hc) h0
    · rename_i hc;exact absurd h0 hc
end Go.Proofs.YthpgnliicpejoaaGreatDoor.AM
namespace Go.Proofs.YthpgnliicpejoaaGreatDoor.AM
open Go.RowKit
set_option linter.unusedVariables false
set_option linter.unusedSimpArgs false
theorem qdp (y:FD) : ∀(P a:List FD),(∀x∈P,ltS y.1 x.1=false)->(∀x∈a,ltS y.1 x.1=true)->qqz y (P++a)=P++y::a
  | [],[],_,_=>rfl
  | [],x::a,_,h=>by rw [List.nil_append,qbc,if_pos (h x (List.mem_cons_self ..))];rfl
  | x::P,a,h1,h2=>by
    rw [List.cons_append,qbc,h1 x (List.mem_cons_self ..),if_neg (by decide),qdp y P a (fun z hz=>h1 z (List.mem_cons_of_mem _ hz)) h2];rfl
theorem qof {s t:List UInt8} (h:ltS s t=true):ltS t s=false:=by
  cases h2:ltS t s with
  | false=>rfl
  | true=>have:=q6m h h2;rw [jej] at this;cases this
theorem qn0 {s t:List UInt8} (h:ltS s t=true):s≠t:=fun e=>by subst e;rw [jej] at h;cases h
theorem q4x {P a:List FD} : qjl (P++a)↔qjl P/\qjl a/\∀x∈P,∀y∈a,ltS x.1 y.1=true:=List.pairwise_append
theorem qvr (x:FD) : ∀(P a:List FD),(q8a (P++x::a) x.1).2=true
  | [],a=>by rw [List.nil_append,q8a,if_pos rfl]
  | y::P,a=>by
    rw [List.cons_append,q8a]
    split
    · rfl
    · exact qvr x P a
theorem qaw {x:FD} {p:List UInt8} {P a:List FD} (hx:x.1=p) (h1:NoP p P) (h2:NoP p a):q0y (P++x::a) p=P++a:=by
  have e1:=q5h h1
  have e2:=q5h h2
  unfold q0y at *
  rw [List.filter_append,List.filter_cons,e1]
  simp [hx,e2]
theorem q88 {f:FD} (h:okF f=true):q38 f.1=true/\f.2.length<=4096:=by unfold okF at h;simpa using h
theorem q8z : ∀(n:Nat) (P a b:List FD),a.length+b.length<=n->qjl (P++a)->qjl (P++b)->(∀f∈P++a,okF f=true)->(∀f∈b,okF f=true)->(P++a).length<=40 ->
    q7z (P++a) (q1d n a b)=(P++b,0)\/(q7z (P++a) (q1d n a b)).2=3
  | 0,P,a,b,hn,_,_,_,_,_=>by
    have ha:a = []:=List.eq_nil_of_length_eq_zero (by omega)
    have hb:b = []:=List.eq_nil_of_length_eq_zero (by omega)
    subst ha;subst hb
    exact Or.inl rfl
  | n+1,P,[],[],_,_,_,_,_,_=>Or.inl rfl
  | n+1,P,x::a,b,hn,ha,hb,ka,kb,hl=>by
    have ⟨pP,pa,pc⟩:=q4x.1 ha
    have ⟨qP,qb,qc⟩:=q4x.1 hb
    have ⟨xa,ra⟩:=List.pairwise_cons.1 pa
    have kx:=q88 (ka x (by simp))
    have nP:NoP x.1 P:=fun z hz=>qn0 (pc z hz x (List.mem_cons_self ..))
    have na:NoP x.1 a:=fun z hz e=>qn0 (xa z hz) e.symm
    have ra':qjl (P++a):=q4x.2 ⟨pP,ra,fun z hz w hw=>pc z hz w (List.mem_cons_of_mem _ hw)⟩
    have ka' : ∀f∈P++a,okF f=true:=fun f hf=>ka f (by rcases List.mem_append.1 hf with h|h<;>simp [h])
    have la:(P++a).length<=40:=by simp at hl ⊢;omega
    have gone:q1v (P++x::a) (true,(x.1,[]))=(P++a,0):=by
      unfold q1v
      simp only [kx.1,if_true,qvr]
      rw [qaw rfl nP na]
    match b,hn,hb,qb,qc,kb with
    | [],hn,hb,qb,qc,kb =>
      rw [q1d,q7z,gone,if_pos rfl]
      exact q8z n P a [] (by simp at hn ⊢;omega) ra' hb ka' kb la
    | y::b,hn,hb,qb,qc,kb =>
      have ⟨yb,rb⟩:=List.pairwise_cons.1 qb
      have ky:=q88 (kb y (List.mem_cons_self ..))
      have kb' : ∀f∈b,okF f=true:=fun f hf=>kb f (List.mem_cons_of_mem _ hf)
      simp only [List.length_cons] at hn
      rw [q1d]
      cases c1:ltS x.1 y.1 with
      | true =>
        rw [if_pos rfl,q7z,gone,if_pos rfl]
        exact q8z n P a (y::b) (by simp;omega) ra' hb ka' kb la
      | false =>
        rw [if_neg (by decide)]
        have hb2:qjl ((P ++ [y])++b):=by rw [List.append_assoc];exact hb
        have yP : ∀z∈P,ltS y.1 z.1=false:=fun z hz=>qof (qc z hz y (List.mem_cons_self ..))
        have nyP:NoP y.1 P:=fun z hz=>qn0 (qc z hz y (List.mem_cons_self ..))
        cases c2:ltS y.1 x.1 with
        | true =>
          rw [if_pos rfl,q7z]
          have ya : ∀z∈x::a,ltS y.1 z.1=true:=fun z hz=>by
            rcases List.mem_cons.1 hz with rfl|hz
            · exact c2
            · exact q6m c2 (xa z hz)
          have nya:NoP y.1 (P++x::a):=fun z hz=>by
            rcases List.mem_append.1 hz with h|h
            · exact nyP z h
            · exact fun e=>qn0 (ya z h) e.symm
          have hs:q1v (P++x::a) (false,y)=if 40<=(P++x::a).length then ([],3) else (P++y::x::a,0):=by
            unfold q1v
            have : ¬ 4096<y.2.length:=by omega
            simp only [ky.1,if_true,Bool.false_eq_true,if_false,this,q5h nya]
            rw [qdp y P (x::a) yP ya]
          rw [hs]
          by_cases c3:40<=(P++x::a).length
          · rw [if_pos c3,if_neg (by decide)];exact Or.inr rfl
          · rw [if_neg c3,if_pos rfl]
            have:=q8z n (P ++ [y]) (x::a) b (by simp;omega) (by
              rw [List.append_assoc]
              refine q4x.2 ⟨pP,List.pairwise_cons.2 ⟨ya,pa⟩,fun z hz w hw=>?_⟩
              rcases List.mem_cons.1 hw with rfl|hw
              · exact qc z hz _ (List.mem_cons_self ..)
              · exact pc z hz w hw) hb2 (fun f hf=>by
                rw [List.append_assoc] at hf
                rcases List.mem_append.1 hf with h|h
                · exact ka f (by simp [h])
                · rcases List.mem_cons.1 h with rfl|h
                  · exact kb _ (List.mem_cons_self ..)
                  · exact ka f (List.mem_append.2 (Or.inr h))) kb' (by simp at c3 ⊢;omega)
            simpa using this
        | false =>
          rw [if_neg (by decide)]
          have he:x.1=y.1:=Classical.byContradiction fun h=>by rw [j58 c1 h] at c2;cases c2
          have yna:NoP y.1 a:=he ▸ na
          have ra2:qjl ((P ++ [y])++a):=by
            rw [List.append_assoc]
            refine q4x.2 ⟨pP,List.pairwise_cons.2 ⟨fun z hz=>he ▸ xa z hz,ra⟩,fun z hz w hw=>?_⟩
            rcases List.mem_cons.1 hw with rfl|hw
            · exact qc z hz _ (List.mem_cons_self ..)
            · exact pc z hz w (List.mem_cons_of_mem _ hw)
          have ka2 : ∀f∈(P ++ [y])++a,okF f=true:=fun f hf=>by
            rw [List.append_assoc] at hf
            rcases List.mem_append.1 hf with h|h
            · exact ka f (by simp [h])
            · rcases List.mem_cons.1 h with rfl|h
              · exact kb _ (List.mem_cons_self ..)
              · exact ka f (List.mem_append.2 (Or.inr (List.mem_cons_of_mem _ h)))
          have ih:=q8z n (P ++ [y]) a b (by omega) ra2 hb2 ka2 kb' (by simp at hl ⊢;omega)
          by_cases c3:x.2=y.2
          · rw [if_pos c3]
            have:x=y:=Prod.ext he c3
            subst this
            simpa using ih
          · rw [if_neg c3,q7z]
            have hs:q1v (P++x::a) (false,y)=(P++y::a,0):=by
              unfold q1v
              have h1 : ¬ 4096<y.2.length:=by omega
              have h2 : ¬ 40<=(P++a).length:=by simp at hl ⊢;omega
              simp only [ky.1,if_true,Bool.false_eq_true,if_false,h1,qaw he nyP yna,h2]
              rw [qdp y P a yP (fun z hz=>he ▸ xa z hz)]
            rw [hs,if_pos rfl]
            simpa using ih
  | n+1,P,[],y::b,hn,ha,hb,ka,kb,hl=>by
    have ⟨qP,qb,qc⟩:=q4x.1 hb
    have ky:=q88 (kb y (List.mem_cons_self ..))
    have kb' : ∀f∈b,okF f=true:=fun f hf=>kb f (List.mem_cons_of_mem _ hf)
    have hb2:qjl ((P ++ [y])++b):=by rw [List.append_assoc];exact hb
    have yP : ∀z∈P,ltS y.1 z.1=false:=fun z hz=>qof (qc z hz y (List.mem_cons_self ..))
    have nyP:NoP y.1 (P ++ []):=fun z hz=>qn0 (qc z (by simpa using hz) y (List.mem_cons_self ..))
    simp only [List.length_cons,List.length_nil] at hn
    rw [q1d,q7z]
    have hs:q1v (P ++ []) (false,y)=if 40<=(P ++ []).length then ([],3) else (P ++ [y],0):=by
      unfold q1v
      have : ¬ 4096<y.2.length:=by omega
      simp only [ky.1,if_true,Bool.false_eq_true,if_false,this,q5h nyP]
      rw [qdp y P [] yP (fun z hz=>by cases hz)]
    rw [hs]
    by_cases c3:40<=(P ++ []).length
    · rw [if_pos c3,if_neg (by decide)];exact Or.inr rfl
    · rw [if_neg c3,if_pos rfl]
      have:=q8z n (P ++ [y]) [] b (by simp;omega) (by
        rw [List.append_nil]
        exact q4x.2 ⟨qP,List.pairwise_cons.2 ⟨(fun z hz=>by cases hz),List.Pairwise.nil⟩,fun z hz w hw=>by
          rcases List.mem_cons.1 hw with rfl|hw
          · exact qc z hz _ (List.mem_cons_self ..)
          · cases hw⟩) hb2 (fun f hf=>by
          rw [List.append_nil] at hf
          rcases List.mem_append.1 hf with h|h
          · exact ka f (by simp [h])
          · rcases List.mem_cons.1 h with rfl|h
            · exact kb _ (List.mem_cons_self ..)
            · cases h) kb' (by simp at c3 ⊢;omega)
      simpa using this
theorem j9h {l k:List FD} (hl:q7t l=true) (hk:q7t k=true):q2r l (q39 l k)=(k,0)\/(q2r l (q39 l k)).2=3:=by
  have h1:=(q8o l).1 hl
  have h2:=(q8o k).1 hk
  unfold q2r q39
  rw [hl,hk]
  exact q8z (l.length+k.length) [] l k (Nat.le_refl _) h1.2.2 h2.2.2 h1.2.1 h2.2.1 h1.1
end Go.Proofs.YthpgnliicpejoaaGreatDoor.AM
namespace Go.Proofs.YthpgnliicpejoaaGreatDoor.AM
open Go.RowKit
set_option linter.unusedVariables false
set_option linter.unusedSimpArgs false
theorem get_mem : ∀{l:List FD} {p:List UInt8},(q8a l p).2=true->∃ x∈l,x.1=p
  | [],_,h=>by cases h
  | x::t,p,h=>by
    rw [q8a] at h
    split at h
    · rename_i hc;exact ⟨x,List.mem_cons_self ..,hc⟩
    · obtain ⟨y,hy,e⟩:=get_mem h;exact ⟨y,List.mem_cons_of_mem _ hy,e⟩
structure Good (a b:List FD) (o:OD):Prop where
  from_:(q8a a o.2.1).2=true\/(q8a b o.2.1).2=true
  gone:o.1=((q8a a o.2.1).2 && !(q8a b o.2.1).2)
  put:o.1=false->(q8a b o.2.1).2=true/\(q8a b o.2.1).1=o.2.2/\((q8a a o.2.1).2=true->(q8a a o.2.1).1≠o.2.2)
  none_:o.1=true->o.2.2 = []
theorem Good.above {a b:List FD} {o:OD} (h:Good a b o) {p:List UInt8} (ha : ∀x∈a,ltS p x.1=true) (hb : ∀x∈b,ltS p x.1=true):ltS p o.2.1=true:=by
  rcases h.from_ with h|h
  · obtain ⟨x,hx,e⟩:=get_mem h;rw [<-e];exact ha x hx
  · obtain ⟨x,hx,e⟩:=get_mem h;rw [<-e];exact hb x hx
end Go.Proofs.YthpgnliicpejoaaGreatDoor.AM
namespace Go.Proofs.YthpgnliicpejoaaGreatDoor.AM
open Go.RowKit
set_option linter.unusedVariables false
set_option linter.unusedSimpArgs false
theorem qwb (n:Nat) (s:List UInt8) (hs:s.length<=1000000):qn6 n s=some (q0x s):=by
  unfold qn6 q0x
  by_cases hlt:s.length<2
  · have c0:decide (((s.length:Nat):Int)<(2:Int))=true:=by rw [decide_eq_true_eq];omega
    simp only [c0,cond_true]
    rw [jft hlt]
  match s,hs,hlt with
  | [],_,h=>exact absurd (by decide) h
  | [_],_,h=>exact absurd (by simp) h
  | k::c::r,hs,_ =>
    have hc:=c.toNat_lt
    clear hs
    have c0:decide ((((k::c::r).length:Nat):Int)<(2:Int))=false:=by rw [decide_eq_false_iff_not,List.length_cons,List.length_cons];omega
    have h1:q4i (k::c::r) (0:Int) (1:Int)=some [k]:=by
      have:=sub_zero (l:=k::c::r) (b:=1) (by simp)
      rw [show ((1:Nat):Int)=(1:Int) from rfl] at this
      rw [this];rfl
    have d0:decide ([k]=([0]:List UInt8))=decide (k=0):=decide_eq_decide.2 (by simp)
    have d1:decide ([k]=([1]:List UInt8))=decide (k=1):=decide_eq_decide.2 (by simp)
    have a1:sAt (k::c::r) (1:Int)=some ((c.toNat:Nat):Int):=qux [k] r c rfl
    have w1:IntKind.wrap .i64 ((c.toNat:Nat):Int)=((c.toNat:Nat):Int):=wrap64 (by omega) (by omega)
    have w2:IntKind.wrap .i64 ((2:Int)+((c.toNat:Nat):Int))=((2+c.toNat:Nat):Int):=by rw [wrap64 (by omega) (by omega)];omega
    have b1:decide ((((k::c::r).length:Nat):Int)<((2+c.toNat:Nat):Int))=decide (r.length<c.toNat):=decide_eq_decide.2 (by rw [List.length_cons,List.length_cons];omega)
    have w3:IntKind.wrap .i64 (((2+c.toNat:Nat):Int)+2)=((4+c.toNat:Nat):Int):=by rw [wrap64 (by omega) (by omega)];omega
    have w4:IntKind.wrap .i64 (((2+c.toNat:Nat):Int)+1)=((3+c.toNat:Nat):Int):=by rw [wrap64 (by omega) (by omega)];omega
    have b2:decide ((((k::c::r).length:Nat):Int)<((4+c.toNat:Nat):Int))=decide (r.length<c.toNat+2):=decide_eq_decide.2 (by rw [List.length_cons,List.length_cons];omega)
    rw [qwp]
    simp only [c0,cond_false,h1,Option.bind_some,d0,d1,a1,q0n,w1,w2,b1,w3,w4,b2]
    by_cases hk:k=0\/k=1
    · rw [if_pos hk]
      by_cases hrc:r.length<c.toNat
      · rw [if_pos hrc]
        simp only [hrc,decide_true,cond_true]
        rcases hk with rfl|rfl<;>simp
      · rw [if_neg hrc]
        have p:q4i (k::c::r) (2:Int) ((2+c.toNat:Nat):Int)=some (r.take c.toNat):=j4q [k,c] r c.toNat (by omega) rfl rfl
        simp only [hrc,decide_false,cond_false,p,Option.bind_some]
        by_cases hk1:k=1
        · subst hk1
          have h10:decide ((1:UInt8)=0)=false:=by decide
          simp only [h10,decide_true,Bool.not_true,Bool.not_false,cond_true,cond_false,if_true]
        · have hk0:k=0:=by
                                 rcases hk with h|h
                                 · exact h
                                 · exact absurd h hk1
          have e0:decide (k=0)=true:=decide_eq_true hk0
          clear hk0
          rw [if_neg hk1]
          simp only [hk1,e0,decide_false,Bool.not_true,cond_false]
          by_cases h2:r.length<c.toNat+2
          · simp only [h2,decide_true,cond_true]
            have hdl:(r.drop c.toNat).length<2:=by rw [List.length_drop];omega
            generalize r.drop c.toNat=R at hdl
            match R,hdl with
            | [],_=>simp
            | [_],_=>simp
          · have hP:(r.take c.toNat).length=c.toNat:=by rw [List.length_take];omega
            have hr:r=r.take c.toNat++r.drop c.toNat:=(List.take_append_drop ..).symm
            have hdl:2<=(r.drop c.toNat).length:=by rw [List.length_drop];omega
            have hl2:r.length=c.toNat+(r.drop c.toNat).length:=by rw [List.length_drop];omega
            generalize r.drop c.toNat=R at hr hdl hl2
            match R,hdl with
            | x::y::t,_ =>
              have hx:=x.toNat_lt
              have hy:=y.toNat_lt
              generalize r.take c.toNat=P at hP hr
              subst hr
              simp only [List.length_cons] at hl2
              have s1:sAt (k::c::(P++x::y::t)) ((2+c.toNat:Nat):Int)=some ((x.toNat:Nat):Int):=qux (k::c::P) (y::t) x (by simp;omega)
              have s2:sAt (k::c::(P++x::y::t)) ((3+c.toNat:Nat):Int)=some ((y.toNat:Nat):Int):=by
                have:=qux (k::c::P ++ [x]) t y (j:=((3+c.toNat:Nat):Int)) (by simp;omega)
                simpa using this
              have wx:IntKind.wrap .i64 ((x.toNat:Nat):Int)=((x.toNat:Nat):Int):=wrap64 (by omega) (by omega)
              have wy:IntKind.wrap .i64 ((y.toNat:Nat):Int)=((y.toNat:Nat):Int):=wrap64 (by omega) (by omega)
              have w5:IntKind.wrap .i64 (((4+c.toNat:Nat):Int)+((256*x.toNat+y.toNat:Nat):Int))=((4+c.toNat+(256*x.toNat+y.toNat):Nat):Int):=by
                clear b1 b2 c0 p h2 hrc
                rw [wrap64 (by omega) (by omega)];omega
              have b3:decide ((((k::c::(P++x::y::t)).length:Nat):Int)<((4+c.toNat+(256*x.toNat+y.toNat):Nat):Int))=decide (t.length<256*x.toNat+y.toNat):=decide_eq_decide.2 (by clear c0 h1 a1 b1 b2 p;simp only [List.length_cons,List.length_append];omega)
              have v1:=shl8 x
              have v2:=or8 x y
              simp only [h2,decide_false,cond_false]
              rw [s1,Option.bind_some,wx,v1,Option.bind_some,s2,Option.bind_some,wy,v2,w5,b3]
              by_cases ht:t.length<256*x.toNat+y.toNat
              · simp [ht]
              · have q:q4i (k::c::(P++x::y::t)) ((4+c.toNat:Nat):Int) ((4+c.toNat+(256*x.toNat+y.toNat):Nat):Int)=some (t.take (256*x.toNat+y.toNat)):=by
                  have:=j4q (k::c::P ++ [x,y]) t (256*x.toNat+y.toNat) (by omega) (i:=((4+c.toNat:Nat):Int)) (j:=((4+c.toNat+(256*x.toNat+y.toNat):Nat):Int)) (by simp;omega) (by simp;omega)
                  simpa using this
                simp only [ht,q,decide_false,cond_false,Option.bind_some,if_false]
    · rw [if_neg hk]
      have k0 : ¬ k=0:=fun h=>hk (Or.inl h)
      have k1 : ¬ k=1:=fun h=>hk (Or.inr h)
      simp only [k0,k1,decide_false,Bool.not_false,cond_true]
end Go.Proofs.YthpgnliicpejoaaGreatDoor.AM
