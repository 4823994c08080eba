
import Derived.Test.YthpgnliicpejoaaGreatDoorVp23
import Derived.Test.YthpgnliicpejoaaGreatDoorVp21
namespace Go.Proofs.YthpgnliicpejoaaGreatDoor.AM
open Go.RowKit
set_option linter.unusedVariables false
set_option linter.unusedSimpArgs false
theorem j4c (l:List FD) (j:Nat) (h:j<l.length) (h0:0<j):qa4 (l.drop (j - 1))=(ltS (l[j - 1]'(by omega)).1 l[j].1&&qa4 (l.drop j)):=by
  have e1:l.drop (j - 1)=l[j - 1]::l.drop j:=by
    have:=List.drop_eq_getElem_cons (l:=l) (i:=j - 1) (by omega)
    rw [this];congr 2;omega
  have e2:l.drop j=l[j]::l.drop (j+1):=List.drop_eq_getElem_cons h
  rw [e1,e2,qa4]
theorem qpo (n:Nat) (l:List FD) (hL:l.length<=1000000) : ∀m j:Nat,j<=l.length->l.length - j<m->q9d n m l l ((l.length:Nat):Int) (j:Int)=some (if ((l.drop j).all okF&&qa4 (l.drop (j - 1)))=true then Sum.inr ((),((),())) else Sum.inl ((false,()),((),())))
  | 0,j,_,h=>absurd h (Nat.not_lt_zero _)
  | m+1,j,hj,h=>by
    rw [qhy]
    unfold qw7
    by_cases c0:j<l.length
    · have c0':((j:Nat):Int)<((l.length:Nat):Int):=by omega
      have ih:=qpo n l hL m (j+1) (by omega) (by omega)
      have hd:l.drop j=l[j]::l.drop (j+1):=(List.drop_eq_getElem_cons c0)
      have e4:qhp l[j].1=some (q3l l[j].1):=rfl
      have eo:(l.drop j).all okF=((q3l l[j].1&&decide (l[j].2.length<=4096))&&(l.drop (j+1)).all okF):=by rw [hd,List.all_cons];rfl
      rw [eo]
      simp only [c0',decide_true,cond_true,q37 c0,Option.bind_some,e4,q0u,q1e (show j<4611686018427387904 by omega),ih,Nat.add_sub_cancel]
      cases q3l l[j].1 with
      | false=>simp
      | true =>
        by_cases c1:l[j].2.length<=4096
        · have c1' : ¬ (4096:Int)<((l[j].2.length:Nat):Int):=by omega
          by_cases c2:0<j
          · have c2':(0:Int)<((j:Nat):Int):=by omega
            have w1:IntKind.wrap .i64 (((j:Nat):Int) - 1)=((j - 1:Nat):Int):=by rw [wrap64 (by omega) (by omega)];omega
            rw [j4c l j c0 c2]
            simp only [c1,c1',c2',decide_true,decide_false,cond_true,cond_false,Bool.not_true,w1,q37 (show j - 1<l.length by omega),Option.bind_some,Bool.true_and]
            cases ltS (l[j - 1]'(by omega)).1 l[j].1 with
            | true=>simp only [Bool.not_true,cond_false,Bool.true_and]
            | false=>simp
          · have c2' : ¬ (0:Int)<((j:Nat):Int):=by omega
            have hj0:j=0:=by omega
            subst hj0
            simp only [c1,c1',decide_true,decide_false,cond_true,cond_false,Bool.not_true,Bool.true_and,Int.lt_irrefl,Int.natCast_zero,Nat.zero_sub]
        · have c1':(4096:Int)<((l[j].2.length:Nat):Int):=by omega
          simp [c1,c1']
    · have c0' : ¬ ((j:Nat):Int)<((l.length:Nat):Int):=by omega
      have e1:l.drop j = []:=List.drop_eq_nil_of_le (by omega)
      have e2:qa4 (l.drop (j - 1))=true:=by
        by_cases hz:l.length=0
        · rw [List.drop_eq_nil_of_le (by omega)];rfl
        · have:=List.drop_eq_getElem_cons (l:=l) (i:=j - 1) (by omega)
          rw [this,show j - 1+1=j from by omega,e1];rfl
      simp [c0',e1,e2]
theorem qit (n:Nat) (l:List FD) (hL:l.length<=1000000) (hn:l.length<n):qsx n l=some (q7l l):=by
  unfold qsx q7l
  have:=qpo n l hL n 0 (Nat.zero_le _) (by omega)
  rw [show ((0:Nat):Int)=(0:Int) from rfl] at this
  by_cases c:l.length<=40
  · have c' : ¬ (40:Int)<((l.length:Nat):Int):=by omega
    simp only [c,c',decide_true,decide_false,cond_false,this,Option.bind_some,List.drop_zero,Nat.zero_sub,Bool.true_and]
    cases (l.all okF&&qa4 l)<;>rfl
  · have c':(40:Int)<((l.length:Nat):Int):=by omega
    simp [c,c']
theorem qlf (n:Nat) (l:List FD) (hL:l.length<=1000000) (hp : ∀f∈l,f.1.length<=1000000) (hn:100<=n) : ∀m j:Nat,j<=l.length->l.length - j<m->q7f n m l (j:Int)=some (if ((l.drop j).all okF&&qa4 (l.drop (j - 1)))=true then Sum.inr ((l,()),((),())) else Sum.inl ((false,()),((),())))
  | 0,j,_,h=>absurd h (Nat.not_lt_zero _)
  | m+1,j,hj,h=>by
    rw [qf6]
    unfold qmo
    by_cases c0:j<l.length
    · have c0':((j:Nat):Int)<((l.length:Nat):Int):=by omega
      have ih:=qlf n l hL hp hn m (j+1) (by omega) (by omega)
      have hd:l.drop j=l[j]::l.drop (j+1):=(List.drop_eq_getElem_cons c0)
      have e4:q7e n l[j].1=some (q3l l[j].1):=qja n _ (hp _ (List.getElem_mem c0)) hn
      have eo:(l.drop j).all okF=((q3l l[j].1&&decide (l[j].2.length<=4096))&&(l.drop (j+1)).all okF):=by rw [hd,List.all_cons];rfl
      rw [eo]
      simp only [c0',decide_true,cond_true,q37 c0,Option.bind_some,e4,q0u,q1e (show j<4611686018427387904 by omega),ih,Nat.add_sub_cancel]
      cases q3l l[j].1 with
      | false=>simp
      | true =>
        by_cases c1:l[j].2.length<=4096
        · have c1' : ¬ (4096:Int)<((l[j].2.length:Nat):Int):=by omega
          by_cases c2:0<j
          · have c2':(0:Int)<((j:Nat):Int):=by omega
            have w1:IntKind.wrap .i64 (((j:Nat):Int) - 1)=((j - 1:Nat):Int):=by rw [wrap64 (by omega) (by omega)];omega
            rw [j4c l j c0 c2]
            simp only [c1,c1',c2',decide_true,decide_false,cond_true,cond_false,Bool.not_true,w1,q37 (show j - 1<l.length by omega),Option.bind_some,Bool.true_and]
            cases ltS (l[j - 1]'(by omega)).1 l[j].1 with
            | true=>simp only [Bool.not_true,cond_false,Bool.true_and]
            | false=>simp
          · have c2' : ¬ (0:Int)<((j:Nat):Int):=by omega
            have hj0:j=0:=by omega
            subst hj0
            simp only [c1,c1',decide_true,decide_false,cond_true,cond_false,Bool.not_true,Bool.true_and,Int.lt_irrefl,Int.natCast_zero,Nat.zero_sub]
        · have c1':(4096:Int)<((l[j].2.length:Nat):Int):=by omega
          simp [c1,c1']
    · have c0' : ¬ ((j:Nat):Int)<((l.length:Nat):Int):=by omega
      have e1:l.drop j = []:=List.drop_eq_nil_of_le (by omega)
      have e2:qa4 (l.drop (j - 1))=true:=by
        by_cases hz:l.length=0
        · rw [List.drop_eq_nil_of_le (by omega)];rfl
        · have:=List.drop_eq_getElem_cons (l:=l) (i:=j - 1) (by omega)
          rw [this,show j - 1+1=j from by omega,e1];rfl
      simp [c0',e1,e2]
theorem j27 (n:Nat) (l:List FD) (hL:l.length<=1000000) (hp : ∀f∈l,f.1.length<=1000000) (hn:100<=n) (hn2:l.length<n):qms n l=some (q7l l):=by
  unfold qms q7l
  have:=qlf n l hL hp hn n 0 (Nat.zero_le _) (by omega)
  rw [show ((0:Nat):Int)=(0:Int) from rfl] at this
  rw [this]
  have hc:decide (((l.length:Nat):Int)<=(40:Int))=decide (l.length<=40):=decide_eq_decide.2 (by omega)
  simp only [List.drop_zero,Nat.zero_sub]
  cases (l.all okF&&qa4 l) with
  | true=>simp only [if_true,Option.bind_some,Sum.elim_inr,hc,Bool.and_true]
  | false=>simp
theorem qkl (n:Nat) (p:List UInt8) (l:List FD) (hL:l.length<=1000000) : ∀m j:Nat,j<=l.length->l.length - j<m->q7k n m l p (j:Int)=some (if (q7z (l.drop j) p).2=true then Sum.inl (((q7z (l.drop j) p).1,(true,())),((),())) else Sum.inr ((),((),())))
  | 0,j,_,h=>absurd h (Nat.not_lt_zero _)
  | m+1,j,hj,h=>by
    rw [qf9]
    unfold qop
    by_cases c0:j<l.length
    · have c0':((j:Nat):Int)<((l.length:Nat):Int):=by omega
      have ih:=qkl n p l hL m (j+1) (by omega) (by omega)
      have hd:l.drop j=l[j]::l.drop (j+1):=(List.drop_eq_getElem_cons c0)
      have hg:q7z (l.drop j) p=if l[j].1=p then (l[j].2,true) else q7z (l.drop (j+1)) p:=by rw [hd,q7z]
      rw [hg]
      simp only [c0',decide_true,cond_true,q37 c0,Option.bind_some,q0u,q1e (show j<4611686018427387904 by omega),ih]
      by_cases c1:l[j].1=p
      · simp [c1]
      · simp [c1]
    · have c0' : ¬ ((j:Nat):Int)<((l.length:Nat):Int):=by omega
      have e1:l.drop j = []:=List.drop_eq_nil_of_le (by omega)
      simp [c0',e1,q7z]
theorem j0x (n:Nat) (l:List FD) (p:List UInt8) (hL:l.length<=1000000) (hn:l.length<n):qgw n l p=some (q7z l p):=by
  unfold qgw
  have:=qkl n p l hL n 0 (Nat.zero_le _) (by omega)
  rw [show ((0:Nat):Int)=(0:Int) from rfl,List.drop_zero] at this
  rw [this]
  cases h:(q7z l p).2 with
  | true =>
    have:q7z l p=((q7z l p).1,true):=by rw [<-h]
    simp only [if_true,Option.bind_some,Sum.elim_inl]
    rw [<-this]
  | false=>rw [qpj h];rfl
theorem eq_FD (x y:FD):(decide (x.1=y.1)&&(decide (x.2=y.2)&&true))=decide (x=y):=by
  rw [Bool.and_true,<-Bool.decide_and];exact decide_eq_decide.2 Prod.ext_iff.symm
theorem qhg (n:Nat) (l k:List FD) (hk:l.length=k.length) (hL:l.length<=1000000) : ∀m j:Nat,j<=l.length->l.length - j<m->q5r n m l k (j:Int)=some (if l.drop j=k.drop j then Sum.inr ((),((),())) else Sum.inl ((false,()),((),())))
  | 0,j,_,h=>absurd h (Nat.not_lt_zero _)
  | m+1,j,hj,h=>by
    rw [qdy]
    unfold qgp
    by_cases c0:j<l.length
    · have c0':((j:Nat):Int)<((l.length:Nat):Int):=by omega
      have ih:=qhg n l k hk hL m (j+1) (by omega) (by omega)
      have h1:l.drop j=l[j]::l.drop (j+1):=(List.drop_eq_getElem_cons c0)
      have h2:k.drop j=k[j]::k.drop (j+1):=(List.drop_eq_getElem_cons (by omega))
      simp only [c0',decide_true,cond_true,q37 c0,q37 (show j<k.length by omega),Option.bind_some,q0u,q1e (show j<4611686018427387904 by omega),ih,eq_FD,h1,h2,List.cons.injEq]
      by_cases c1:l[j]=k[j]
      · simp [c1]
      · simp [c1]
    · have c0' : ¬ ((j:Nat):Int)<((l.length:Nat):Int):=by omega
      have e1:l.drop j = []:=List.drop_eq_nil_of_le (by omega)
      have e2:k.drop j = []:=List.drop_eq_nil_of_le (by omega)
      simp [c0',e1,e2]
theorem qti (n:Nat) (l k:List FD) (hL:l.length<=1000000) (hn:l.length<n):q8o n l k=some (decide (l=k)):=by
  unfold q8o
  by_cases hk:l.length=k.length
  · have:=qhg n l k hk hL n 0 (Nat.zero_le _) (by omega)
    rw [show ((0:Nat):Int)=(0:Int) from rfl,List.drop_zero,List.drop_zero] at this
    simp only [<-hk,decide_true,Bool.not_true,cond_false,this,Option.bind_some]
    by_cases h:l=k
    · simp [h]
    · simp [h]
  · have c : ¬ ((l.length:Nat):Int)=((k.length:Nat):Int):=by omega
    have h : ¬ l=k:=fun h=>hk (by rw [h])
    simp [c,h]
theorem j20 {i:Nat} (h:i+1<=9223372036854775807):IntKind.wrap .i64 ((i:Int)+1)=((i+1:Nat):Int):=by rw [wrap64 (by omega) (by omega)];rfl
theorem qlp (n:Nat) (l:List OD) (hL:l.length<=9223372036854775807) : ∀m j:Nat,j<=l.length->l.length - j<m->q6o n m l (j:Int)=some (if ((l.drop j).all fun o=>decide (o.2.1.length<=200)&&decide (o.2.2.length<=5000))=true then Sum.inr ((l,()),((),())) else Sum.inl ((false,()),((),())))
  | 0,j,_,h=>absurd h (Nat.not_lt_zero _)
  | m+1,j,hj,h=>by
    rw [qfa]
    unfold qoh
    by_cases c0:j<l.length
    · have c0':((j:Nat):Int)<((l.length:Nat):Int):=by omega
      have ih:=qlp n l hL m (j+1) (by omega) (by omega)
      have h1:l.drop j=l[j]::l.drop (j+1):=(List.drop_eq_getElem_cons c0)
      simp only [c0',decide_true,cond_true,q37 c0,Option.bind_some,q0u,j20 (show j+1<=9223372036854775807 by omega),ih,h1,List.all_cons]
      by_cases c1:l[j].2.1.length<=200
      · have c1' : ¬ (200:Int)<((l[j].2.1.length:Nat):Int):=by omega
        by_cases c2:l[j].2.2.length<=5000
        · have c2' : ¬ (5000:Int)<((l[j].2.2.length:Nat):Int):=by omega
          simp only [c1,c1',c2,c2',decide_true,decide_false,cond_false,Bool.true_and]
        · have c2':(5000:Int)<((l[j].2.2.length:Nat):Int):=by omega
          simp [c1,c1',c2,c2']
      · have c1':(200:Int)<((l[j].2.1.length:Nat):Int):=by omega
        simp [c1,c1']
    · have c0' : ¬ ((j:Nat):Int)<((l.length:Nat):Int):=by omega
      have e1:l.drop j = []:=List.drop_eq_nil_of_le (by omega)
      simp [c0',e1]
theorem j0j (n:Nat) (l:List OD) (hL:l.length<=9223372036854775807) (hn:l.length<n):qmr n l=some (jdr l):=by
  unfold qmr jdr
  have:=qlp n l hL n 0 (Nat.zero_le _) (by omega)
  rw [show ((0:Nat):Int)=(0:Int) from rfl,List.drop_zero] at this
  rw [this]
  have hc:decide (((l.length:Nat):Int)<=(100:Int))=decide (l.length<=100):=decide_eq_decide.2 (by omega)
  cases (l.all fun o=>decide (o.2.1.length<=200)&&decide (o.2.2.length<=5000)) with
  | true=>simp only [if_true,Option.bind_some,Sum.elim_inr,hc,Bool.true_and]
  | false=>simp
theorem qv7 (n:Nat) (o:OD):qnb n o=some (q9p o):=by
  have e4:qhp o.2.1=some (q3l o.2.1):=rfl
  unfold qnb q9p
  simp only [e4,Option.bind_some]
  have hc:decide ((4096:Int)<((o.2.2.length:Nat):Int))=decide (4096<o.2.2.length):=decide_eq_decide.2 (by omega)
  rw [hc]
  cases q3l o.2.1 with
  | false=>rfl
  | true =>
    by_cases h:4096<o.2.2.length
    · cases o.1 with
      | false=>simp [h]
      | true =>
                by_cases h2:o.2.2 = []
                · simp [h2]
                · simp [h,h2]
    · cases o.1 with
      | false=>simp [h]
      | true =>
                by_cases h2:o.2.2 = []
                · simp [h2]
                · simp [h,h2]
end Go.Proofs.YthpgnliicpejoaaGreatDoor.AM
namespace Go.Proofs.YthpgnliicpejoaaGreatDoor.AM
open Go.RowKit
set_option linter.unusedVariables false
set_option linter.unusedSimpArgs false
theorem j5q (m:Nat):q1w m [] [] = []:=by cases m<;>rfl
theorem jev {ops:List OD} (h:ops.length<=1000000) (r:OD):q50 40 ops [r]=some (ops ++ [r]):=if_pos (by simp;omega)
theorem qn8 {β:Type} (x:β) (a:List β):q21 (x::a) (0:Int)=some x:=q37 (l:=x::a) (j:=0) (by simp)
theorem qmn {β:Type} (x:β) (a:List β):q4a (x::a) (1:Int) (((x::a).length:Nat):Int)=some a:=by
  have:=sub_le (l:=x::a) (a:=1) (b:=(x::a).length) (by simp) (Nat.le_refl _)
  rw [show ((1:Nat):Int)=(1:Int) from rfl] at this
  rw [this];simp
theorem qts {β:Type} (x:β) (a:List β):decide ((0:Int)<(((x::a).length:Nat):Int))=true:=by rw [decide_eq_true_eq,List.length_cons];omega
theorem je5 {β:Type} (x:β) (a:List β):decide ((((x::a).length:Nat):Int)=(0:Int))=false:=by rw [decide_eq_false_iff_not,List.length_cons];omega
theorem j6n {β:Type} : decide ((0:Int)<((([]:List β).length:Nat):Int))=false:=rfl
theorem jea {β:Type} : decide (((([]:List β).length:Nat):Int)=(0:Int))=true:=rfl
theorem q3u (n:Nat) : ∀(m:Nat) (a b:List FD) (ops:List OD),a.length+b.length<m->ops.length+a.length+b.length<=1000000->q71 n m a b ops=some (((),()),((),(ops++q1w (a.length+b.length) a b,())))
  | 0,a,b,ops,h,_=>absurd h (Nat.not_lt_zero _)
  | m+1,[],[],ops,h,ho=>by
    rw [q3f]
    unfold q96
    simp only [j6n,cond_false,j5q,List.append_nil]
  | m+1,x::a,[],ops,h,ho=>by
    simp only [List.length_cons,List.length_nil] at h ho
    rw [q3f]
    unfold q96
    have ih:=q3u n m a [] (ops ++ [(true,(x.1,[]))]) (by simp;omega) (by simp;omega)
    simp only [qts,jea,cond_true,qn8,jev (show ops.length<=1000000 by omega),qmn,Option.bind_some,ih]
    simp [q1w]
  | m+1,[],y::b,ops,h,ho=>by
    simp only [List.length_cons,List.length_nil] at h ho
    rw [q3f]
    unfold q96
    have hp:q55 n y=some (false,y):=rfl
    have ih:=q3u n m [] b (ops ++ [(false,y)]) (by simp;omega) (by simp;omega)
    simp only [j6n,jea,qts,je5,cond_true,cond_false,qn8,jev (show ops.length<=1000000 by omega),qmn,Option.bind_some,hp,ih]
    simp [q1w]
  | m+1,x::a,y::b,ops,h,ho=>by
    simp only [List.length_cons] at h ho
    rw [q3f]
    unfold q96
    have hp:q55 n y=some (false,y):=rfl
    have e0:(x::a).length+(y::b).length=(a.length+(y::b).length)+1:=by simp;omega
    have e1:q1w (a.length+(y::b).length) (x::a) b=q1w ((x::a).length+b.length) (x::a) b:=by
      rw [show a.length+(y::b).length=(x::a).length+b.length from by simp;omega]
    have e2:q1w (a.length+(y::b).length) a b=q1w (a.length+b.length) a b:=j1y _ _ _ (by simp)
    have d:q1w ((x::a).length+(y::b).length) (x::a) (y::b)=if ltS x.1 y.1 then (true,(x.1,[]))::q1w (a.length+(y::b).length) a (y::b) else if ltS y.1 x.1 then (false,y)::q1w ((x::a).length+b.length) (x::a) b else if x.2=y.2 then q1w (a.length+b.length) a b else (false,y)::q1w (a.length+b.length) a b:=by
      rw [e0,q1w,e1,e2]
    rw [d]
    have i1:=q3u n m a (y::b) (ops ++ [(true,(x.1,[]))]) (by simp;omega) (by simp;omega)
    have i2:=q3u n m (x::a) b (ops ++ [(false,y)]) (by simp;omega) (by simp;omega)
    have i3:=q3u n m a b (ops ++ [(false,y)]) (by omega) (by simp;omega)
    have i4:=q3u n m a b ops (by omega) (by omega)
    simp only [qts,je5,cond_true,cond_false,qn8,jev (show ops.length<=1000000 by omega),qmn,Option.bind_some,hp,i1,i2,i3,i4]
    cases ltS x.1 y.1 with
    | true=>simp
    | false=>cases ltS y.1 x.1 with
      | true=>simp
      | false =>
                 by_cases hd:x.2=y.2
                 · simp [hd]
                 · simp [hd]
theorem j2h (n:Nat) (a b:List FD) (ha:a.length<=100000) (hb:b.length<=100000) (hn:a.length+b.length<n):qmx n a b=some (q47 a b):=by
  unfold qmx q47
  rw [qit n a (by omega) (by omega),qit n b (by omega) (by omega)]
  have:=q3u n n a b [] hn (by simp;omega)
  simp only [this,Option.bind_some]
  cases q7l a<;>cases q7l b<;>rfl
end Go.Proofs.YthpgnliicpejoaaGreatDoor.AM
namespace Go.Proofs.YthpgnliicpejoaaGreatDoor.AM
open Go.RowKit
set_option linter.unusedVariables false
set_option linter.unusedSimpArgs false
theorem jke {s t:List UInt8} (h:s.length+t.length<=9223372036854775807):je4 s t=some (s++t):=if_pos h
theorem shr8 (k:Nat):jec .i64 ((k:Nat):Int) (8:Int)=some ((k / 256:Nat):Int):=by
  unfold jec;rw [if_pos (by decide)]
  have e:(2:Int) ^ (min (8:Int).toNat (IntKind.bits .i64))=256:=by decide
  rw [e,Int.fdiv_eq_ediv_of_nonneg _ (by decide)];rfl
theorem jj2 (k:Nat):b8 ((k:Nat):Int)=b8 ((k % 256:Nat):Int):=by
  unfold b8
  rw [IntKind.wrap_u8,IntKind.wrap_u8]
  congr 2;omega
theorem j3t (n:Nat) (o:OD) (h1:o.2.1.length<=1000000) (h2:o.2.2.length<=1000000):j5o n o=some (q5d o):=by
  unfold j5o q5d
  simp only [q0u,shr8,Option.bind_some,List.map_cons,List.map_nil]
  rw [jke (by simp;omega)]
  simp only [Option.bind_some]
  rw [jke (by simp;omega),jke (by simp;omega)]
  simp only [Option.bind_some]
  rw [jke (by simp;omega)]
  simp only [Option.bind_some]
  rw [jke (by simp;omega)]
  cases o.1 with
  | true=>simp [b8]
  | false =>
    simp only [cond_false,Option.bind_some]
    have:=jj2 o.2.2.length
    unfold b8 at this ⊢
    simp [this]
end Go.Proofs.YthpgnliicpejoaaGreatDoor.AM
namespace Go.Proofs.YthpgnliicpejoaaGreatDoor.AM
open Go.RowKit
set_option linter.unusedVariables false
set_option linter.unusedSimpArgs false
theorem qvp (A B:List UInt8) (x:UInt8) {j:Int} (hj:j=(A.length:Int)):sAt (A++x::B) j=some ((x.toNat:Nat):Int):=by
  subst hj
  have:=qyo (s:=A++x::B) (j:=A.length) (by simp)
  rw [this];simp
theorem j8y {β:Type} (A B:List β) (m:Nat) (hm:m<=B.length) {i j:Int} (hi:i=(A.length:Int)) (hj:j=((A.length+m:Nat):Int)):q4a (A++B) i j=some (B.take m):=by
  subst hi;subst hj
  have:=sub_le (l:=A++B) (a:=A.length) (b:=A.length+m) (by omega) (by simp;omega)
  rw [this]
  rw [List.drop_left,Nat.add_sub_cancel_left]
theorem shl8 (x:UInt8):jit .i64 ((x.toNat:Nat):Int) (8:Int)=some ((256*x.toNat:Nat):Int):=by
  have hx:=x.toNat_lt
  unfold jit;rw [if_pos (by decide)]
  have e:(2:Int) ^ (min (8:Int).toNat (IntKind.bits .i64))=256:=by decide
  rw [e,wrap64 (by omega) (by omega)];congr 1;omega
theorem or8 (x y:UInt8):orI .i64 ((256*x.toNat:Nat):Int) ((y.toNat:Nat):Int)=((256*x.toNat+y.toNat:Nat):Int):=by
  have hx:=x.toNat_lt
  have hy:=y.toNat_lt
  unfold orI
  have h1:(BitVec.ofInt (IntKind.bits .i64) ((256*x.toNat:Nat):Int))=BitVec.ofNat 64 (256*x.toNat):=by rfl
  have h2:(BitVec.ofInt (IntKind.bits .i64) ((y.toNat:Nat):Int))=BitVec.ofNat 64 y.toNat:=by rfl
  rw [h1,h2]
  have h3:(BitVec.ofNat 64 (256*x.toNat) ||| BitVec.ofNat 64 y.toNat).toNat=256*x.toNat+y.toNat:=by
    rw [BitVec.toNat_or,BitVec.toNat_ofNat,BitVec.toNat_ofNat,Nat.mod_eq_of_lt (by omega),Nat.mod_eq_of_lt (by omega)]
    have h4:=Nat.shiftLeft_add_eq_or_of_lt (i:=8) (show y.toNat<2 ^ 8 by omega) x.toNat
    rw [Nat.shiftLeft_eq] at h4
    rw [show 256*x.toNat=x.toNat*2 ^ 8 from by omega,<-h4]
  show IntKind.wrap .i64 (((BitVec.ofNat 64 (256*x.toNat) ||| BitVec.ofNat 64 y.toNat).toNat:Nat):Int)=_
  rw [h3,wrap64 (by omega) (by omega)]
def q0w (s:List UInt8):OD×(Int×Bool):=match qve s with
  | some (o,k)=>(o,(((k:Nat):Int),true))
  | none=>((false,([],[])),(0,false))
theorem jhy {s:List UInt8} (h:s.length<2):qve s=none:=by
  match s,h with
  | [],_=>rfl
  | [_],_=>rfl
theorem qpk : ∀(m:Nat) (s:List UInt8) (out:List OD),q3j m s=some out->out.length<=s.length/\∀o∈out,o.2.1.length<=s.length/\o.2.2.length<=s.length
  | 0,_,_,h=>by cases h
  | m+1,s,out,h=>by
    rw [q3j] at h
    split at h
    · cases h;exact ⟨Nat.zero_le _,fun o ho=>by cases ho⟩
    · split at h
      case h_2=>cases h
      rename_i o k ho
      cases hp:q3j m (s.drop k) with
      | none=>rw [hp] at h;cases h
      | some out' =>
        rw [hp] at h
        have:out=o::out':=by simpa using h.symm
        subst this
        obtain ⟨h1,h2,h3⟩:=qdz ho
        obtain ⟨i1,i2⟩:=qpk m _ _ hp
        rw [List.length_drop] at i1 i2
        have hlay:(q5d o).length<=s.length:=by have:=congrArg List.length h1;rw [List.length_append] at this;omega
        refine ⟨by simp;omega,fun o' ho'=>?_⟩
        rcases List.mem_cons.1 ho' with rfl|hm
        · unfold q5d at hlay
          refine ⟨by simp at hlay;omega,?_⟩
          obtain ⟨g,p,d⟩:=o'
          cases g with
          | true =>
            have hd0:d = []:=by
              match s,ho with
              | kk::c::r,ho =>
                rw [qve] at ho
                split at ho
                case isFalse=>cases ho
                split at ho
                case isTrue=>cases ho
                split at ho
                · simp only [Option.some.injEq,Prod.mk.injEq] at ho;exact ho.1.2.2.symm
                · split at ho
                  case h_2=>cases ho
                  split at ho
                  · cases ho
                  · simp at ho
            rw [hd0];exact Nat.zero_le _
          | false=>simp at hlay ⊢;omega
        · have:=i2 o' hm;omega
end Go.Proofs.YthpgnliicpejoaaGreatDoor.AM
namespace Go.Proofs.YthpgnliicpejoaaGreatDoor.AM
open Go.RowKit
set_option linter.unusedVariables false
set_option linter.unusedSimpArgs false
def q0y (l:List FD) (p:List UInt8):List FD:=l.filter fun f=>!decide (f.1=p)
def q69 (f:FD):List FD->List FD×Bool
  | []=>([],false)
  | x::t=>if ltS f.1 x.1 then (f::x::t,true) else (x::(q69 f t).1,(q69 f t).2)
def qsu (f:FD) (l:List FD):List FD:=if (q69 f l).2 then (q69 f l).1 else (q69 f l).1 ++ [f]
def q1u (l:List FD) (o:OD):List FD×Int :=
  if q3l o.2.1 then (if o.1 then (if (q7z l o.2.1).2 then (q0y l o.2.1,0) else ([],5)) else if 4096<o.2.2.length then ([],2) else if 40<=(q0y l o.2.1).length then ([],3) else (qsu o.2 (q0y l o.2.1),0)) else ([],6)
def q7t:List FD->List OD->List FD×Int
  | l,[]=>(l,0)
  | l,o::t=>if (q1u l o).2=0 then q7t (q1u l o).1 t else ([],(q1u l o).2)
def q3b (l:List FD) (ops:List OD):List FD×Int:=if q7l l then q7t l ops else ([],1)
theorem j6s {l:List FD} (h:l.length<=1000000) (r:FD):q50 32 l [r]=some (l ++ [r]):=if_pos (by simp;omega)
theorem q5w (n:Nat) (l:List FD) (p:List UInt8) (hL:l.length<=100000) : ∀(m j:Nat) (acc:List FD),j<=l.length->l.length - j<m->acc.length<=j->q3q n m l p (j:Int) acc=some (((),()),((),(acc++q0y (l.drop j) p,())))
  | 0,j,acc,_,h,_=>absurd h (Nat.not_lt_zero _)
  | m+1,j,acc,hj,h,ha=>by
    rw [q9o]
    unfold q8i
    by_cases c0:j<l.length
    · have c0':((j:Nat):Int)<((l.length:Nat):Int):=by omega
      have i1:=q5w n l p hL m (j+1) (acc ++ [l[j]]) (by omega) (by omega) (by simp;omega)
      have i2:=q5w n l p hL m (j+1) acc (by omega) (by omega) (by omega)
      have hd:l.drop j=l[j]::l.drop (j+1):=(List.drop_eq_getElem_cons c0)
      have hw:q0y (l.drop j) p=if l[j].1=p then q0y (l.drop (j+1)) p else l[j]::q0y (l.drop (j+1)) p:=by
        rw [hd];unfold q0y;rw [List.filter_cons]
        by_cases hc:l[j].1=p
        · simp [hc]
        · simp [hc]
      rw [hw]
      simp only [c0',decide_true,cond_true,q37 c0,Option.bind_some,j6s (show acc.length<=1000000 by omega),q0u,q1e (show j<4611686018427387904 by omega),i1,i2]
      by_cases hc:l[j].1=p
      · simp [hc]
      · simp [hc]
    · have c0' : ¬ ((j:Nat):Int)<((l.length:Nat):Int):=by omega
      have e1:l.drop j = []:=List.drop_eq_nil_of_le (by omega)
      simp [c0',e1,q0y]
theorem qk1 (n:Nat) (l:List FD) (p:List UInt8) (hL:l.length<=100000) (hn:l.length<n):q2v n l p=some (q0y l p):=by
  unfold q2v
  have:=q5w n l p hL n 0 [] (Nat.zero_le _) (by omega) (Nat.le_refl _)
  rw [show ((0:Nat):Int)=(0:Int) from rfl,List.drop_zero] at this
  rw [this];rfl
theorem qae (n:Nat) (l:List FD) (f:FD) (hL:l.length<=100000) : ∀(m j:Nat) (b:Bool) (acc:List FD),j<=l.length->l.length - j<m->acc.length<=2*j+2 ->
    q5f n m l b (j:Int) f.1 f.2 acc=some (((),((),(b||(q69 f (l.drop j)).2,()))),(((f.1,f.2),()),(acc++(if b then l.drop j else (q69 f (l.drop j)).1),())))
  | 0,j,b,acc,_,h,_=>absurd h (Nat.not_lt_zero _)
  | m+1,j,b,acc,hj,h,ha=>by
    rw [qdf]
    unfold qir
    by_cases c0:j<l.length
    · have c0':((j:Nat):Int)<((l.length:Nat):Int):=by omega
      have hd:l.drop j=l[j]::l.drop (j+1):=(List.drop_eq_getElem_cons c0)
      have hw:q69 f (l.drop j)=if ltS f.1 l[j].1 then (f::l.drop j,true) else (l[j]::(q69 f (l.drop (j+1))).1,(q69 f (l.drop (j+1))).2):=by rw [hd,q69]
      rw [hw]
      have a1:q50 32 acc [l[j]]=some (acc ++ [l[j]]):=j6s (by omega) _
      have a2:q50 32 acc [(f.1,f.2)]=some (acc ++ [f]):=j6s (by omega) _
      have a3:q50 32 (acc ++ [f]) [l[j]]=some (acc ++ [f] ++ [l[j]]):=j6s (by simp;omega) _
      have i1:=fun b=>qae n l f hL m (j+1) b (acc ++ [l[j]]) (by omega) (by omega) (by simp;omega)
      have i2:=qae n l f hL m (j+1) true (acc ++ [f] ++ [l[j]]) (by omega) (by omega) (by simp;omega)
      simp only [c0',decide_true,cond_true,q37 c0,Option.bind_some,q0u,q1e (show j<4611686018427387904 by omega),a1,a2,a3,i1,i2]
      cases b with
      | true=>rw [hd];simp only [Bool.not_true,Bool.not_false,cond_true,cond_false,Bool.false_or,Bool.true_or,if_true,List.append_assoc,List.cons_append,List.nil_append]
      | false =>
        cases ltS f.1 l[j].1 with
        | true=>rw [hd];simp only [Bool.not_true,Bool.not_false,cond_true,cond_false,Bool.false_or,Bool.true_or,Bool.or_true,if_true,Bool.false_eq_true,if_false,List.append_assoc,List.cons_append,List.nil_append]
        | false=>simp
    · have c0' : ¬ ((j:Nat):Int)<((l.length:Nat):Int):=by omega
      have e1:l.drop j = []:=List.drop_eq_nil_of_le (by omega)
      cases b<;>simp [c0',e1,q69]
theorem qv8 (n:Nat) (l:List FD) (f:FD) (hL:l.length<=100000) (hn:l.length<n):q5i n l f=some (qsu f l):=by
  unfold q5i qsu
  have:=qae n l f hL n 0 false [] (Nat.zero_le _) (by omega) (by simp)
  rw [show ((0:Nat):Int)=(0:Int) from rfl,List.drop_zero] at this
  rw [this]
  have hl : ∀l:List FD,(q69 f l).1.length<=l.length+1:=by
    intro l
    induction l with
    | nil=>simp [q69]
    | cons x t ih =>
                     rw [q69];split
                     · simp
                     · simp;omega
  simp only [Option.bind_some,Bool.false_or,Bool.false_eq_true,if_false,List.nil_append]
  cases hw:(q69 f l).2 with
  | true=>rfl
  | false =>
    simp only [Bool.not_false,cond_true]
    rw [show ((f.1,f.2):FD)=f from rfl,j6s (by have:=hl l;omega) f];rfl
theorem qpx (f:FD) : ∀l:List FD,(q69 f l).1.length<=l.length+1
  | []=>by simp [q69]
  | x::t=>by
    have ih:=qpx f t
    rw [q69];split
    · simp
    · simp;omega
theorem jh0 (f:FD) (l:List FD):(qsu f l).length<=l.length+2:=by
  have:=qpx f l
  unfold qsu;split
  · omega
  · simp;omega
theorem qao (l:List FD) (p:List UInt8):(q0y l p).length<=l.length:=List.length_filter_le ..
theorem q87 (n:Nat) (ops:List OD) (hL:ops.length<=10000) (hp : ∀o∈ops,o.2.1.length<=1000000) (hn:100<=n) (hn2:30000<n) : ∀(m j:Nat) (l:List FD),j<=ops.length->ops.length - j<m->l.length<=2*j+50 ->
    q4i n m ops l (j:Int)=some (if (q7t l (ops.drop j)).2=0 then Sum.inr (((q7t l (ops.drop j)).1,()),((),())) else Sum.inl (((),((q7t l (ops.drop j)).2,())),((),())))
  | 0,j,l,_,h,_=>absurd h (Nat.not_lt_zero _)
  | m+1,j,l,hj,h,hl=>by
    rw [qbr]
    unfold qdx
    by_cases c0:j<ops.length
    · have c0':((j:Nat):Int)<((ops.length:Nat):Int):=by omega
      have hd:ops.drop j=ops[j]::ops.drop (j+1):=(List.drop_eq_getElem_cons c0)
      have hpo:=hp _ (List.getElem_mem c0)
      rw [hd]
      have hx:q21 ops ((j:Nat):Int)=some ops[j]:=q37 c0
      rw [hx]
      generalize ops[j]=o at hpo
      have hwl:=qao l o.2.1
      have hil:=jh0 o.2 (q0y l o.2.1)
      have g1:qgw n l o.2.1=some (q7z l o.2.1):=j0x n l _ (by omega) (by omega)
      have g2:q7e n o.2.1=some (q3l o.2.1):=qja n _ hpo hn
      have g3:q2v n l o.2.1=some (q0y l o.2.1):=qk1 n l _ (by omega) (by omega)
      have g4:q5i n (q0y l o.2.1) o.2=some (qsu o.2 (q0y l o.2.1)):=qv8 n _ _ (by omega) (by omega)
      have i1:=q87 n ops hL hp hn hn2 m (j+1) (q0y l o.2.1) (by omega) (by omega) (by omega)
      have i2:=q87 n ops hL hp hn hn2 m (j+1) (qsu o.2 (q0y l o.2.1)) (by omega) (by omega) (by omega)
      have b1:decide ((4096:Int)<((o.2.2.length:Nat):Int))=decide (4096<o.2.2.length):=decide_eq_decide.2 (by omega)
      have b2:decide ((40:Int)<=(((q0y l o.2.1).length:Nat):Int))=decide (40<=(q0y l o.2.1).length):=decide_eq_decide.2 (by omega)
      simp only [c0',decide_true,cond_true,Option.bind_some,g1,g2,g3,g4,b1,b2,q0u,q1e (show j<4611686018427387904 by omega),i1,i2]
      rw [q7t]
      unfold q1u
      cases q3l o.2.1 with
      | false=>simp
      | true =>
        cases o.1 with
        | true =>
          cases (q7z l o.2.1).2 with
          | false=>simp
          | true=>simp
        | false =>
          by_cases h1:4096<o.2.2.length
          · simp [h1]
          · by_cases h2:40<=(q0y l o.2.1).length
            · simp [h1,h2]
            · simp [h1,h2]
    · have c0' : ¬ ((j:Nat):Int)<((ops.length:Nat):Int):=by omega
      have e1:ops.drop j = []:=List.drop_eq_nil_of_le (by omega)
      simp [c0',e1,q7t]
theorem qyx : ∀(ops:List OD) (l:List FD),(q7t l ops).2≠0->(q7t l ops).1 = []
  | [],l,h=>absurd rfl h
  | o::t,l,h=>by
    rw [q7t] at h ⊢
    split at h
    · rename_i hc;rw [if_pos hc];exact qyx t _ h
    · rename_i hc;rw [if_neg hc]
theorem qsw (n:Nat) (l:List FD) (ops:List OD) (hL:ops.length<=10000) (hl:l.length<=10000) (hlp : ∀f∈l,f.1.length<=1000000) (hp : ∀o∈ops,o.2.1.length<=1000000) (hn:100<=n) (hn2:30000<n):q8k n l ops=some (q3b l ops):=by
  unfold q8k q3b
  rw [j27 n l (by omega) hlp hn (by omega)]
  cases hm:q7l l with
  | false=>rfl
  | true =>
    have h40:l.length<=40:=by unfold q7l at hm;simp only [Bool.and_eq_true,decide_eq_true_eq] at hm;exact hm.1
    have ha:q50 32 ([]:List FD) l=some l:=by unfold q50;rw [if_pos (by simp;omega)];rfl
    have:=q87 n ops hL hp hn hn2 n 0 l (Nat.zero_le _) (by omega) (by omega)
    rw [show ((0:Nat):Int)=(0:Int) from rfl,List.drop_zero] at this
    simp only [Option.bind_some,Bool.not_true,cond_false,ha,this]
    by_cases he:(q7t l ops).2=0
    · have e:q7t l ops=((q7t l ops).1,0):=by rw [<-he]
      simp only [he,if_true,Option.bind_some,Sum.elim_inr]
      rw [<-e]
    · have e:q7t l ops=([],(q7t l ops).2):=by rw [<-qyx ops l he]
      simp only [he,if_false,if_true,Option.bind_some,Sum.elim_inl]
      rw [<-e]
end Go.Proofs.YthpgnliicpejoaaGreatDoor.AM
namespace Go.Proofs.YthpgnliicpejoaaGreatDoor.AM
open Go.RowKit
set_option linter.unusedVariables false
set_option linter.unusedSimpArgs false
abbrev l0:List FD:=[([97,47,120],[49]),([98],[51])]
end Go.Proofs.YthpgnliicpejoaaGreatDoor.AM
namespace Go.Proofs.YthpgnliicpejoaaGreatDoor.AM
open Go.RowKit
set_option linter.unusedVariables false
set_option linter.unusedSimpArgs false
theorem qzl (s t:List UInt8):ltS s t=true↔cmpL jg3 s t<0:=by
  unfold ltS;rw [q76,decide_eq_true_eq]
theorem q6c {s t u:List UInt8} (h1:ltS s t=true) (h2:ltS t u=true):ltS s u=true:=by
  rw [qzl] at *
  have ht:=(q5p q5c).tr s t u (by omega) (by omega)
  have hr:=(q5p q5c).rng s u
  rcases Int.lt_or_eq_of_le ht with h|h
  · exact h
  · have e:=(q5p q5c).eq s u h
    subst e
    have ha:=(q5p q5c).anti s t
    omega
theorem jdw (s:List UInt8):ltS s s=false:=by
  cases h:ltS s s with
  | false=>rfl
  | true=>rw [qzl,(q5p q5c).refl] at h;omega
theorem j7q {s t:List UInt8} (h1:ltS s t=false) (h2:s≠t):ltS t s=true:=by
  rw [qzl]
  have h3 : ¬ cmpL jg3 s t<0:=fun h=>by rw [(qzl s t).2 h] at h1;cases h1
  have h4:cmpL jg3 s t≠0:=fun h=>h2 ((q5p q5c).eq s t h)
  have ha:=(q5p q5c).anti s t
  omega
def qha (l:List FD):Prop:=l.Pairwise fun x y=>ltS x.1 y.1=true
theorem qwy : ∀l:List FD,qa4 l=true↔qha l
  | []=>by simp [qa4,qha]
  | [x]=>by simp [qa4,qha]
  | x::y::t=>by
    have ih:=qwy (y::t)
    unfold qha at ih ⊢
    rw [qa4,Bool.and_eq_true,ih]
    constructor
    · intro h
      have h1:=h.1
      have h2:=h.2
      refine List.pairwise_cons.2 ⟨fun z hz=>?_,h2⟩
      rcases List.mem_cons.1 hz with rfl|hz
      · exact h1
      · exact q6c h1 ((List.pairwise_cons.1 h2).1 z hz)
    · intro h
      have h':=List.pairwise_cons.1 h
      exact ⟨h'.1 y (List.mem_cons_self ..),h'.2⟩
theorem j3j (f:FD):qsu f [] = [f]:=rfl
theorem qbo (f x:FD) (t:List FD):qsu f (x::t)=if ltS f.1 x.1 then f::x::t else x::qsu f t:=by
  unfold qsu;rw [q69]
  split
  · rfl
  · simp only
    split<;>simp
theorem qu1 (f y:FD) : ∀l:List FD,y∈qsu f l↔y=f\/y∈l
  | []=>by simp [j3j]
  | x::t=>by
    rw [qbo]
    split
    · simp
    · rw [List.mem_cons,qu1 f y t,List.mem_cons]
      constructor
      · rintro (h|h|h)
        · exact Or.inr (Or.inl h)
        · exact Or.inl h
        · exact Or.inr (Or.inr h)
      · rintro (h|h|h)
        · exact Or.inr (Or.inl h)
        · exact Or.inl h
        · exact Or.inr (Or.inr h)
theorem qe3 (f:FD) : ∀l:List FD,(qsu f l).length=l.length+1
  | []=>rfl
  | x::t=>by
    rw [qbo];split
    · simp
    · simp [qe3 f t]
def NoP (p:List UInt8) (l:List FD):Prop:=∀x∈l,x.1≠p
theorem qzs {f:FD} : ∀{l:List FD},qha l->NoP f.1 l->qha (qsu f l)
  | [],_,_=>by unfold qha;rw [j3j];simp
  | x::t,h,hn=>by
    have ⟨h1,h2⟩:=List.pairwise_cons.1 h
    rw [qbo]
    cases hc:ltS f.1 x.1 with
    | true =>
      simp only [if_true]
      refine List.pairwise_cons.2 ⟨fun z hz=>?_,h⟩
      rcases List.mem_cons.1 hz with rfl|hz
      · exact hc
      · exact q6c hc (h1 z hz)
    | false =>
      simp only [Bool.false_eq_true,if_false]
      refine List.pairwise_cons.2 ⟨fun z hz=>?_,qzs h2 (fun y hy=>hn y (List.mem_cons_of_mem _ hy))⟩
      rcases (qu1 f z t).1 hz with rfl|hz
      · exact j7q hc (fun e=>hn x (List.mem_cons_self ..) e.symm)
      · exact h1 z hz
theorem qer {l:List FD} (p:List UInt8) (h:qha l):qha (q0y l p):=List.Pairwise.filter _ h
theorem qtm (l:List FD) (p:List UInt8):NoP p (q0y l p):=fun x hx=>by
  have:=(List.mem_filter.1 hx).2;simpa using this
theorem q4z {l:List FD} {p:List UInt8} (h:NoP p l):q0y l p=l:=by
  unfold q0y;rw [List.filter_eq_self]
  intro x hx;simpa using h x hx
theorem j93 : ∀{l:List FD} {p:List UInt8},NoP p l->q7z l p=([],false)
  | [],_,_=>rfl
  | x::t,p,h=>by
    rw [q7z,if_neg (h x (List.mem_cons_self ..))]
    exact j93 fun y hy=>h y (List.mem_cons_of_mem _ hy)
theorem qak (l:List FD):q7l l=true↔l.length<=40/\(∀f∈l,okF f=true)/\qha l:=by
  unfold q7l
  rw [Bool.and_eq_true,Bool.and_eq_true,decide_eq_true_eq,List.all_eq_true,qwy]
theorem qyt {l:List FD} {o:OD} (hl:q7l l=true) (h:(q1u l o).2=0):q7l (q1u l o).1=true:=by
  rw [qak] at hl ⊢
  obtain ⟨h1,h2,h3⟩:=hl
  have hw : ∀f∈q0y l o.2.1,okF f=true:=fun f hf=>h2 f (List.mem_filter.1 hf).1
  have hwl:=qao l o.2.1
  unfold q1u at h ⊢
  cases hp:q3l o.2.1 with
  | false=>rw [hp] at h;simp at h
  | true =>
    rw [hp] at h
    simp only [if_true] at h ⊢
    cases ho:o.1 with
    | true =>
      rw [ho] at h
      simp only [if_true] at h ⊢
      cases hg:(q7z l o.2.1).2 with
      | false=>rw [hg] at h;simp at h
      | true=>simp only [if_true];exact ⟨by omega,hw,qer _ h3⟩
    | false =>
      rw [ho] at h
      simp only [Bool.false_eq_true,if_false] at h ⊢
      by_cases c1:4096<o.2.2.length
      · rw [if_pos c1] at h;simp at h
      · rw [if_neg c1] at h ⊢
        by_cases c2:40<=(q0y l o.2.1).length
        · rw [if_pos c2] at h;simp at h
        · rw [if_neg c2]
          refine ⟨by simp only [qe3];omega,fun f hf=>?_,qzs (qer _ h3) (qtm _ _)⟩
          rcases (qu1 o.2 f _).1 hf with rfl|hf
          · unfold okF;rw [hp];simp;omega
          · exact hw f hf
theorem j4o : ∀(ops:List OD) {l:List FD},q7l l=true->(q7t l ops).2=0->q7l (q7t l ops).1=true
  | [],l,h,_=>h
  | o::t,l,h,h0=>by
    rw [q7t] at h0 ⊢
    split at h0
    · rename_i hc;rw [if_pos hc];exact j4o t (qyt h hc) h0
    · rename_i hc;exact absurd h0 hc
end Go.Proofs.YthpgnliicpejoaaGreatDoor.AM
namespace Go.Proofs.YthpgnliicpejoaaGreatDoor.AM
open Go.RowKit
set_option linter.unusedVariables false
set_option linter.unusedSimpArgs false
theorem qeg (y:FD) : ∀(P a:List FD),(∀x∈P,ltS y.1 x.1=false)->(∀x∈a,ltS y.1 x.1=true)->qsu y (P++a)=P++y::a
  | [],[],_,_=>rfl
  | [],x::a,_,h=>by rw [List.nil_append,qbo,if_pos (h x (List.mem_cons_self ..))];rfl
  | x::P,a,h1,h2=>by
    rw [List.cons_append,qbo,h1 x (List.mem_cons_self ..),if_neg (by decide),qeg y P a (fun z hz=>h1 z (List.mem_cons_of_mem _ hz)) h2];rfl
theorem qol {s t:List UInt8} (h:ltS s t=true):ltS t s=false:=by
  cases h2:ltS t s with
  | false=>rfl
  | true=>have:=q6c h h2;rw [jdw] at this;cases this
theorem qpd {s t:List UInt8} (h:ltS s t=true):s≠t:=fun e=>by subst e;rw [jdw] at h;cases h
theorem q4o {P a:List FD} : qha (P++a)↔qha P/\qha a/\∀x∈P,∀y∈a,ltS x.1 y.1=true:=List.pairwise_append
theorem quf (x:FD) : ∀(P a:List FD),(q7z (P++x::a) x.1).2=true
  | [],a=>by rw [List.nil_append,q7z,if_pos rfl]
  | y::P,a=>by
    rw [List.cons_append,q7z]
    split
    · rfl
    · exact quf x P a
theorem qaf {x:FD} {p:List UInt8} {P a:List FD} (hx:x.1=p) (h1:NoP p P) (h2:NoP p a):q0y (P++x::a) p=P++a:=by
  have e1:=q4z h1
  have e2:=q4z h2
  unfold q0y at *
  rw [List.filter_append,List.filter_cons,e1]
  simp [hx,e2]
theorem qbq {f:FD} (h:okF f=true):q3l f.1=true/\f.2.length<=4096:=by unfold okF at h;simpa using h
theorem q9k : ∀(n:Nat) (P a b:List FD),a.length+b.length<=n->qha (P++a)->qha (P++b)->(∀f∈P++a,okF f=true)->(∀f∈b,okF f=true)->(P++a).length<=40 ->
    q7t (P++a) (q1w n a b)=(P++b,0)\/(q7t (P++a) (q1w n a b)).2=3
  | 0,P,a,b,hn,_,_,_,_,_=>by
    have ha:a = []:=List.eq_nil_of_length_eq_zero (by omega)
    have hb:b = []:=List.eq_nil_of_length_eq_zero (by omega)
    subst ha;subst hb
    exact Or.inl rfl
  | n+1,P,[],[],_,_,_,_,_,_=>Or.inl rfl
  | n+1,P,x::a,b,hn,ha,hb,ka,kb,hl=>by
    have ⟨pP,pa,pc⟩:=q4o.1 ha
    have ⟨qP,qb,qc⟩:=q4o.1 hb
    have ⟨xa,ra⟩:=List.pairwise_cons.1 pa
    have kx:=qbq (ka x (by simp))
    have nP:NoP x.1 P:=fun z hz=>qpd (pc z hz x (List.mem_cons_self ..))
    have na:NoP x.1 a:=fun z hz e=>qpd (xa z hz) e.symm
    have ra':qha (P++a):=q4o.2 ⟨pP,ra,fun z hz w hw=>pc z hz w (List.mem_cons_of_mem _ hw)⟩
    have ka' : ∀f∈P++a,okF f=true:=fun f hf=>ka f (by rcases List.mem_append.1 hf with h|h<;>simp [h])
    have la:(P++a).length<=40:=by simp at hl ⊢;omega
    have gone:q1u (P++x::a) (true,(x.1,[]))=(P++a,0):=by
      unfold q1u
      simp only [kx.1,if_true,quf]
      rw [qaf rfl nP na]
    match b,hn,hb,qb,qc,kb with
    | [],hn,hb,qb,qc,kb =>
      rw [q1w,q7t,gone,if_pos rfl]
      exact q9k n P a [] (by simp at hn ⊢;omega) ra' hb ka' kb la
    | y::b,hn,hb,qb,qc,kb =>
      have ⟨yb,rb⟩:=List.pairwise_cons.1 qb
      have ky:=qbq (kb y (List.mem_cons_self ..))
      have kb' : ∀f∈b,okF f=true:=fun f hf=>kb f (List.mem_cons_of_mem _ hf)
      simp only [List.length_cons] at hn
      rw [q1w]
      cases c1:ltS x.1 y.1 with
      | true =>
        rw [if_pos rfl,q7t,gone,if_pos rfl]
        exact q9k n P a (y::b) (by simp;omega) ra' hb ka' kb la
      | false =>
        rw [if_neg (by decide)]
        have hb2:qha ((P ++ [y])++b):=by rw [List.append_assoc];exact hb
        have yP : ∀z∈P,ltS y.1 z.1=false:=fun z hz=>qol (qc z hz y (List.mem_cons_self ..))
        have nyP:NoP y.1 P:=fun z hz=>qpd (qc z hz y (List.mem_cons_self ..))
        cases c2:ltS y.1 x.1 with
        | true =>
          rw [if_pos rfl,q7t]
          have ya : ∀z∈x::a,ltS y.1 z.1=true:=fun z hz=>by
            rcases List.mem_cons.1 hz with rfl|hz
            · exact c2
            · exact q6c c2 (xa z hz)
          have nya:NoP y.1 (P++x::a):=fun z hz=>by
            rcases List.mem_append.1 hz with h|h
            · exact nyP z h
            · exact fun e=>qpd (ya z h) e.symm
          have hs:q1u (P++x::a) (false,y)=if 40<=(P++x::a).length then ([],3) else (P++y::x::a,0):=by
            unfold q1u
            have : ¬ 4096<y.2.length:=by omega
            simp only [ky.1,if_true,Bool.false_eq_true,if_false,this,q4z nya]
            rw [qeg y P (x::a) yP ya]
          rw [hs]
          by_cases c3:40<=(P++x::a).length
          · rw [if_pos c3,if_neg (by decide)];exact Or.inr rfl
          · rw [if_neg c3,if_pos rfl]
            have:=q9k n (P ++ [y]) (x::a) b (by simp;omega) (by
              rw [List.append_assoc]
              refine q4o.2 ⟨pP,List.pairwise_cons.2 ⟨ya,pa⟩,fun z hz w hw=>?_⟩
              rcases List.mem_cons.1 hw with rfl|hw
              · exact qc z hz _ (List.mem_cons_self ..)
              · exact pc z hz w hw) hb2 (fun f hf=>by
                rw [List.append_assoc] at hf
                rcases List.mem_append.1 hf with h|h
                · exact ka f (by simp [h])
                · rcases List.mem_cons.1 h with rfl|h
                  · exact kb _ (List.mem_cons_self ..)
                  · exact ka f (List.mem_append.2 (Or.inr h))) kb' (by simp at c3 ⊢;omega)
            simpa using this
        | false =>
          rw [if_neg (by decide)]
          have he:x.1=y.1:=Classical.byContradiction fun h=>by rw [j7q c1 h] at c2;cases c2
          have yna:NoP y.1 a:=he ▸ na
          have ra2:qha ((P ++ [y])++a):=by
            rw [List.append_assoc]
            refine q4o.2 ⟨pP,List.pairwise_cons.2 ⟨fun z hz=>he ▸ xa z hz,ra⟩,fun z hz w hw=>?_⟩
            rcases List.mem_cons.1 hw with rfl|hw
            · exact qc z hz _ (List.mem_cons_self ..)
            · exact pc z hz w (List.mem_cons_of_mem _ hw)
          have ka2 : ∀f∈(P ++ [y])++a,okF f=true:=fun f hf=>by
            rw [List.append_assoc] at hf
            rcases List.mem_append.1 hf with h|h
            · exact ka f (by simp [h])
            · rcases List.mem_cons.1 h with rfl|h
              · exact kb _ (List.mem_cons_self ..)
              · exact ka f (List.mem_append.2 (Or.inr (List.mem_cons_of_mem _ h)))
          have ih:=q9k n (P ++ [y]) a b (by omega) ra2 hb2 ka2 kb' (by simp at hl ⊢;omega)
          by_cases c3:x.2=y.2
          · rw [if_pos c3]
            have:x=y:=Prod.ext he c3
            subst this
            simpa using ih
          · rw [if_neg c3,q7t]
            have hs:q1u (P++x::a) (false,y)=(P++y::a,0):=by
              unfold q1u
              have h1 : ¬ 4096<y.2.length:=by omega
              have h2 : ¬ 40<=(P++a).length:=by simp at hl ⊢;omega
              simp only [ky.1,if_true,Bool.false_eq_true,if_false,h1,qaf he nyP yna,h2]
              rw [qeg y P a yP (fun z hz=>he ▸ xa z hz)]
            rw [hs,if_pos rfl]
            simpa using ih
  | n+1,P,[],y::b,hn,ha,hb,ka,kb,hl=>by
    have ⟨qP,qb,qc⟩:=q4o.1 hb
    have ky:=qbq (kb y (List.mem_cons_self ..))
    have kb' : ∀f∈b,okF f=true:=fun f hf=>kb f (List.mem_cons_of_mem _ hf)
    have hb2:qha ((P ++ [y])++b):=by rw [List.append_assoc];exact hb
    have yP : ∀z∈P,ltS y.1 z.1=false:=fun z hz=>qol (qc z hz y (List.mem_cons_self ..))
    have nyP:NoP y.1 (P ++ []):=fun z hz=>qpd (qc z (by simpa using hz) y (List.mem_cons_self ..))
    simp only [List.length_cons,List.length_nil] at hn
    rw [q1w,q7t]
    have hs:q1u (P ++ []) (false,y)=if 40<=(P ++ []).length then ([],3) else (P ++ [y],0):=by
      unfold q1u
      have : ¬ 4096<y.2.length:=by omega
      simp only [ky.1,if_true,Bool.false_eq_true,if_false,this,q4z nyP]
      rw [qeg y P [] yP (fun z hz=>by cases hz)]
    rw [hs]
    by_cases c3:40<=(P ++ []).length
    · rw [if_pos c3,if_neg (by decide)];exact Or.inr rfl
    · rw [if_neg c3,if_pos rfl]
      have:=q9k n (P ++ [y]) [] b (by simp;omega) (by
        rw [List.append_nil]
        exact q4o.2 ⟨qP,List.pairwise_cons.2 ⟨(fun z hz=>by cases hz),List.Pairwise.nil⟩,fun z hz w hw=>by
          rcases List.mem_cons.1 hw with rfl|hw
          · exact qc z hz _ (List.mem_cons_self ..)
          · cases hw⟩) hb2 (fun f hf=>by
          rw [List.append_nil] at hf
          rcases List.mem_append.1 hf with h|h
          · exact ka f (by simp [h])
          · rcases List.mem_cons.1 h with rfl|h
            · exact kb _ (List.mem_cons_self ..)
            · cases h) kb' (by simp at c3 ⊢;omega)
      simpa using this
theorem j76 {l k:List FD} (hl:q7l l=true) (hk:q7l k=true):q3b l (q47 l k)=(k,0)\/(q3b l (q47 l k)).2=3:=by
  have h1:=(qak l).1 hl
  have h2:=(qak k).1 hk
  unfold q3b q47
  rw [hl,hk]
  exact q9k (l.length+k.length) [] l k (Nat.le_refl _) h1.2.2 h2.2.2 h1.2.1 h2.2.1 h1.1
end Go.Proofs.YthpgnliicpejoaaGreatDoor.AM
namespace Go.Proofs.YthpgnliicpejoaaGreatDoor.AM
open Go.RowKit
set_option linter.unusedVariables false
set_option linter.unusedSimpArgs false
theorem get_mem : ∀{l:List FD} {p:List UInt8},(q7z l p).2=true->∃ x∈l,x.1=p
  | [],_,h=>by cases h
  | x::t,p,h=>by
    rw [q7z] at h
    split at h
    · rename_i hc;exact ⟨x,List.mem_cons_self ..,hc⟩
    · obtain ⟨y,hy,e⟩:=get_mem h;exact ⟨y,List.mem_cons_of_mem _ hy,e⟩
structure Good (a b:List FD) (o:OD):Prop where
  from_:(q7z a o.2.1).2=true\/(q7z b o.2.1).2=true
  gone:o.1=((q7z a o.2.1).2 && !(q7z b o.2.1).2)
  put:o.1=false->(q7z b o.2.1).2=true/\(q7z b o.2.1).1=o.2.2/\((q7z a o.2.1).2=true->(q7z a o.2.1).1≠o.2.2)
  none_:o.1=true->o.2.2 = []
theorem Good.above {a b:List FD} {o:OD} (h:Good a b o) {p:List UInt8} (ha : ∀x∈a,ltS p x.1=true) (hb : ∀x∈b,ltS p x.1=true):ltS p o.2.1=true:=by
  rcases h.from_ with h|h
  · obtain ⟨x,hx,e⟩:=get_mem h;rw [<-e];exact ha x hx
  · obtain ⟨x,hx,e⟩:=get_mem h;rw [<-e];exact hb x hx
end Go.Proofs.YthpgnliicpejoaaGreatDoor.AM
namespace Go.Proofs.YthpgnliicpejoaaGreatDoor.AM
open Go.RowKit
set_option linter.unusedVariables false
set_option linter.unusedSimpArgs false
theorem qvf (n:Nat) (s:List UInt8) (hs:s.length<=1000000):qpc n s=some (q0w s):=by
  unfold qpc q0w
  by_cases hlt:s.length<2
  · have c0:decide (((s.length:Nat):Int)<(2:Int))=true:=by rw [decide_eq_true_eq];omega
    simp only [c0,cond_true]
    rw [jhy hlt]
  match s,hs,hlt with
  | [],_,h=>exact absurd (by decide) h
  | [_],_,h=>exact absurd (by simp) h
  | k::c::r,hs,_ =>
    have hc:=c.toNat_lt
    clear hs
    have c0:decide ((((k::c::r).length:Nat):Int)<(2:Int))=false:=by rw [decide_eq_false_iff_not,List.length_cons,List.length_cons];omega
    have h1:q4a (k::c::r) (0:Int) (1:Int)=some [k]:=by
      have:=sub_zero (l:=k::c::r) (b:=1) (by simp)
      rw [show ((1:Nat):Int)=(1:Int) from rfl] at this
      rw [this];rfl
    have d0:decide ([k]=([0]:List UInt8))=decide (k=0):=decide_eq_decide.2 (by simp)
    have d1:decide ([k]=([1]:List UInt8))=decide (k=1):=decide_eq_decide.2 (by simp)
    have a1:sAt (k::c::r) (1:Int)=some ((c.toNat:Nat):Int):=qvp [k] r c rfl
    have w1:IntKind.wrap .i64 ((c.toNat:Nat):Int)=((c.toNat:Nat):Int):=wrap64 (by omega) (by omega)
    have w2:IntKind.wrap .i64 ((2:Int)+((c.toNat:Nat):Int))=((2+c.toNat:Nat):Int):=by rw [wrap64 (by omega) (by omega)];omega
    have b1:decide ((((k::c::r).length:Nat):Int)<((2+c.toNat:Nat):Int))=decide (r.length<c.toNat):=decide_eq_decide.2 (by rw [List.length_cons,List.length_cons];omega)
    have w3:IntKind.wrap .i64 (((2+c.toNat:Nat):Int)+2)=((4+c.toNat:Nat):Int):=by rw [wrap64 (by omega) (by omega)];omega
    have w4:IntKind.wrap .i64 (((2+c.toNat:Nat):Int)+1)=((3+c.toNat:Nat):Int):=by rw [wrap64 (by omega) (by omega)];omega
    have b2:decide ((((k::c::r).length:Nat):Int)<((4+c.toNat:Nat):Int))=decide (r.length<c.toNat+2):=decide_eq_decide.2 (by rw [List.length_cons,List.length_cons];omega)
    rw [qve]
    simp only [c0,cond_false,h1,Option.bind_some,d0,d1,a1,q0u,w1,w2,b1,w3,w4,b2]
    by_cases hk:k=0\/k=1
    · rw [if_pos hk]
      by_cases hrc:r.length<c.toNat
      · rw [if_pos hrc]
        simp only [hrc,decide_true,cond_true]
        rcases hk with rfl|rfl<;>simp
      · rw [if_neg hrc]
        have p:q4a (k::c::r) (2:Int) ((2+c.toNat:Nat):Int)=some (r.take c.toNat):=j8y [k,c] r c.toNat (by omega) rfl rfl
        simp only [hrc,decide_false,cond_false,p,Option.bind_some]
        by_cases hk1:k=1
        · subst hk1
          have h10:decide ((1:UInt8)=0)=false:=by decide
          simp only [h10,decide_true,Bool.not_true,Bool.not_false,cond_true,cond_false,if_true]
        · have hk0:k=0:=by
                                 rcases hk with h|h
                                 · exact h
                                 · exact absurd h hk1
          have e0:decide (k=0)=true:=decide_eq_true hk0
          clear hk0
          rw [if_neg hk1]
          simp only [hk1,e0,decide_false,Bool.not_true,cond_false]
          by_cases h2:r.length<c.toNat+2
          · simp only [h2,decide_true,cond_true]
            have hdl:(r.drop c.toNat).length<2:=by rw [List.length_drop];omega
            generalize r.drop c.toNat=R at hdl
            match R,hdl with
            | [],_=>simp
            | [_],_=>simp
          · have hP:(r.take c.toNat).length=c.toNat:=by rw [List.length_take];omega
            have hr:r=r.take c.toNat++r.drop c.toNat:=(List.take_append_drop ..).symm
            have hdl:2<=(r.drop c.toNat).length:=by rw [List.length_drop];omega
            have hl2:r.length=c.toNat+(r.drop c.toNat).length:=by rw [List.length_drop];omega
            generalize r.drop c.toNat=R at hr hdl hl2
            match R,hdl with
            | x::y::t,_ =>
              have hx:=x.toNat_lt
              have hy:=y.toNat_lt
              generalize r.take c.toNat=P at hP hr
              subst hr
              simp only [List.length_cons] at hl2
              have s1:sAt (k::c::(P++x::y::t)) ((2+c.toNat:Nat):Int)=some ((x.toNat:Nat):Int):=qvp (k::c::P) (y::t) x (by simp;omega)
              have s2:sAt (k::c::(P++x::y::t)) ((3+c.toNat:Nat):Int)=some ((y.toNat:Nat):Int):=by
                have:=qvp (k::c::P ++ [x]) t y (j:=((3+c.toNat:Nat):Int)) (by simp;omega)
                simpa using this
              have wx:IntKind.wrap .i64 ((x.toNat:Nat):Int)=((x.toNat:Nat):Int):=wrap64 (by omega) (by omega)
              have wy:IntKind.wrap .i64 ((y.toNat:Nat):Int)=((y.toNat:Nat):Int):=wrap64 (by omega) (by omega)
              have w5:IntKind.wrap .i64 (((4+c.toNat:Nat):Int)+((256*x.toNat+y.toNat:Nat):Int))=((4+c.toNat+(256*x.toNat+y.toNat):Nat):Int):=by
                clear b1 b2 c0 p h2 hrc
                rw [wrap64 (by omega) (by omega)];omega
              have b3:decide ((((k::c::(P++x::y::t)).length:Nat):Int)<((4+c.toNat+(256*x.toNat+y.toNat):Nat):Int))=decide (t.length<256*x.toNat+y.toNat):=decide_eq_decide.2 (by clear c0 h1 a1 b1 b2 p;simp only [List.length_cons,List.length_append];omega)
              have v1:=shl8 x
              have v2:=or8 x y
              simp only [h2,decide_false,cond_false]
              rw [s1,Option.bind_some,wx,v1,Option.bind_some,s2,Option.bind_some,wy,v2,w5,b3]
              by_cases ht:t.length<256*x.toNat+y.toNat
              · simp [ht]
              · have q:q4a (k::c::(P++x::y::t)) ((4+c.toNat:Nat):Int) ((4+c.toNat+(256*x.toNat+y.toNat):Nat):Int)=some (t.take (256*x.toNat+y.toNat)):=by
                  have:=j8y (k::c::P ++ [x,y]) t (256*x.toNat+y.toNat) (by omega) (i:=((4+c.toNat:Nat):Int)) (j:=((4+c.toNat+(256*x.toNat+y.toNat):Nat):Int)) (by simp;omega) (by simp;omega)
                  simpa using this
                simp only [ht,q,decide_false,cond_false,Option.bind_some,if_false]
    · rw [if_neg hk]
      have k0 : ¬ k=0:=fun h=>hk (Or.inl h)
      have k1 : ¬ k=1:=fun h=>hk (Or.inr h)
      simp only [k0,k1,decide_false,Bool.not_false,cond_true]
end Go.Proofs.YthpgnliicpejoaaGreatDoor.AM
