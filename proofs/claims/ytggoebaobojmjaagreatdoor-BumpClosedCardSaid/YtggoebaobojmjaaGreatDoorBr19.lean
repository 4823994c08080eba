
import Derived.Test.YtggoebaobojmjaaGreatDoorBr15
import Derived.Test.YtggoebaobojmjaaGreatDoorBr18
import Derived.Test.YtggoebaobojmjaaGreatDoorBr17
import Derived.Test.YtggoebaobojmjaaGreatDoorBr16
import Derived.Lib.AppendZeros
namespace Go.Proofs.YtggoebaobojmjaaGreatDoor.AM
open Go.RowKit Gr
set_option linter.unusedVariables false
set_option linter.unusedSimpArgs false
theorem qf9 (n:Nat) (l:List MD) (i:Nat) (hi:i<l.length) (hl:l.length<=20) : ∀m j:Nat,j<=i->i - j<m ->
  q4f n m l (i:Int) (j:Int)=some (bif (((q90 l).take i).drop j).any (fun y=>decide (y=l[i].2.1)) then Sum.inl (((11:Int),()),((),())) else Sum.inr ((l,((i:Int),())),((),())))
 | 0,j,_,h=>absurd h (Nat.not_lt_zero _)
 | m+1,j,hj,h=>by
  rw [qg8]
  unfold qgq
  by_cases c:j<i
  ·have c':j<((q90 l).take i).length:=by rw [List.length_take,q3b];omega
   have hx:((q90 l).take i)[j]=(l[j]'(by omega)).2.1:=by simp [q90]
   rw [decide_eq_true (by omega),cond_true,q0k (by omega),Option.bind_some,q0k hi,Option.bind_some,List.drop_eq_getElem_cons c',List.any_cons,hx]
   by_cases e:(l[j]'(by omega)).2.1=l[i].2.1
   ·rw [decide_eq_true e];rfl
   ·rw [decide_eq_false e,cond_false,Bool.false_or,q0f,q04 (by omega)]
    exact qf9 n l i hi hl m (j+1) (by omega) (by omega)
  ·obtain rfl:j=i:=by omega
   have:((q90 l).take j).drop j = []:=List.drop_eq_nil_of_le (by rw [List.length_take];omega)
   rw [decide_eq_false (by omega),cond_false,this];rfl
theorem qf6 (n:Nat) (l:List MD) (hl:SmL l) (hn:100000<n) : ∀m j:Nat,j<=l.length->l.length - j<m ->
  q37 n m l (j:Int)=some (bif ((q90 l).drop j).all okS then Sum.inr ((l,()),((),())) else Sum.inl (((6:Int),()),((),())))
 | 0,j,_,h=>absurd h (Nat.not_lt_zero _)
 | m+1,j,hj,h=>by
  have h20:=hl.1
  rw [qgl]
  unfold qg6
  by_cases c:j<l.length
  ·have hp:=(hl.2 _ (List.getElem_mem c)).1
   have c':j<(q90 l).length:=by rw [q3b];exact c
   have hx:(q90 l)[j]=l[j].2.1:=by simp [q90]
   rw [decide_eq_true (by omega),cond_true,q0k c,Option.bind_some,qof n _ (by omega) (by omega),Option.bind_some,List.drop_eq_getElem_cons c',List.all_cons,hx]
   cases okS l[j].2.1 with
   | false=>rfl
   | true =>
    rw [Bool.not_true,cond_false,q0f,q04 (by omega),Bool.true_and]
    exact qf6 n l hl hn m (j+1) (by omega) (by omega)
  ·obtain rfl:j=l.length:=by omega
   rw [decide_eq_false (by omega),cond_false,<-q3b l,List.drop_length];rfl
theorem qf2 (n:Nat) (l:List MD) (hl:SmL l) (hn:100000<n) : ∀m j:Nat,j<=l.length->l.length - j<m ->
  q1q n m l (j:Int)=some (bif jd9 ((q90 l).take j) ((q90 l).drop j) then Sum.inl (((11:Int),()),((),())) else Sum.inr ((),((),())))
 | 0,j,_,h=>absurd h (Nat.not_lt_zero _)
 | m+1,j,hj,h=>by
  have h20:=hl.1
  rw [qfk]
  unfold qhc
  by_cases c:j<l.length
  ·have c':j<(q90 l).length:=by rw [q3b];exact c
   have hx:(q90 l)[j]=l[j].2.1:=by simp [q90]
   have h2:=qf9 n l j c h20 n 0 (Nat.zero_le _) (by omega)
   rw [List.drop_zero] at h2
   rw [decide_eq_true (by omega),cond_true,show (0:Int)=((0:Nat):Int) from rfl,h2,Option.bind_some,je8 c',hx]
   cases ((q90 l).take j).any (fun y=>decide (y=l[j].2.1)) with
   | true=>rfl
   | false =>
    rw [cond_false,Sum.elim_inr,Bool.false_or]
    show q0e (IntKind.wrap .i64 ((j:Int)+1)) (fun n13=>q1q n m l n13)=_
    rw [q0f,q04 (by omega)]
    exact qf2 n l hl hn m (j+1) (by omega) (by omega)
  ·obtain rfl:j=l.length:=by omega
   rw [decide_eq_false (by omega),cond_false,<-q3b l,List.drop_length];rfl
theorem qz7 (n:Nat) (l:List MD) (hl:SmL l) (hn:100000<n):qdt n l=some (qlx l):=by
 have h20:=hl.1
 have hA:q37 n n l (0:Int)=some (bif (q90 l).all okS then Sum.inr ((l,()),((),())) else Sum.inl (((6:Int),()),((),()))):=qf6 n l hl hn n 0 (Nat.zero_le _) (by omega)
 have hB:q1q n n l (0:Int)=some (bif jd9 [] (q90 l) then Sum.inl (((11:Int),()),((),())) else Sum.inr ((),((),()))):=qf2 n l hl hn n 0 (Nat.zero_le _) (by omega)
 unfold qdt qlx k0e
 rw [q3b]
 by_cases c:12<l.length
 ·rw [decide_eq_true (by omega),cond_true,if_pos c]
 ·rw [decide_eq_false (by omega),cond_false,if_neg c,hA,Option.bind_some]
  cases (q90 l).all okS with
  | false=>rfl
  | true =>
   rw [cond_true,Sum.elim_inr]
   show (q1q n n l (0:Int)).bind _=_
   rw [hB,Option.bind_some]
   cases jd9 [] (q90 l)<;>rfl
theorem quw (n:Nat) (m:MD) (p:List UInt8) (hl:m.2.2.length<=1000) : ∀k j:Nat,j<=m.2.2.length->m.2.2.length - j<k ->
  q5d n k p (j:Int) m.1 m.2.1 m.2.2=some (bif (m.2.2.drop j).any (fun r=>decide (r.1=p)) then Sum.inl ((true,()),((),())) else Sum.inr ((),((),())))
 | 0,j,_,h=>absurd h (Nat.not_lt_zero _)
 | k+1,j,hj,h=>by
  rw [qkh]
  unfold qs9
  by_cases c:j<m.2.2.length
  ·rw [decide_eq_true (by omega),cond_true,q0k c,Option.bind_some,List.drop_eq_getElem_cons c,List.any_cons]
   by_cases e:m.2.2[j].1=p
   ·rw [decide_eq_true e];rfl
   ·rw [decide_eq_false e,cond_false,Bool.false_or,q0f,q04 (by omega)]
    exact quw n m p hl k (j+1) (by omega) (by omega)
  ·obtain rfl:j=m.2.2.length:=by omega
   rw [decide_eq_false (by omega),cond_false,List.drop_length];rfl
theorem ja6 (n:Nat) (m:MD) (p:List UInt8) (hl:m.2.2.length<=1000) (hn:1000<n):qp7 n m p=some (juw m p):=by
 have h:q5d n n p (0:Int) m.1 m.2.1 m.2.2=some (bif juw m p then Sum.inl ((true,()),((),())) else Sum.inr ((),((),()))):=quw n m p hl n 0 (Nat.zero_le _) (by omega)
 unfold qp7
 rw [h,Option.bind_some]
 cases juw m p<;>rfl
theorem qan (n:Nat) (l:List MD) (i:Nat) (hi:i<l.length) (hl:SmL l) (hn:100000<n) : ∀m j:Nat,∀acc:List Int,acc.length<=j->j<=l.length->l.length - j<m ->
  q36 n m l (i:Int) (j:Int) acc=some (((),()),((),(acc++iL ((List.range' j (l.length - j)).filter (adj l i)),())))
 | 0,j,_,_,_,h=>absurd h (Nat.not_lt_zero _)
 | m+1,j,acc,ha,hj,h=>by
  have h20:=hl.1
  rw [qh1]
  unfold qgo
  by_cases c:j<l.length
  ·have hr:=(hl.2 _ (List.getElem_mem hi)).2
   obtain ⟨k,hk⟩ : ∃ k,l.length - j=k+1:=⟨l.length - j - 1,by omega⟩
   have hk':l.length - (j+1)=k:=by omega
   rw [decide_eq_true (by omega),cond_true,q0k hi,Option.bind_some,q0k c,Option.bind_some,ja6 n _ _ (by omega) (by omega),Option.bind_some,<-jms hi c,hk,List.range'_succ,List.filter_cons]
   cases ha':adj l i j with
   | true =>
    rw [cond_true,if_pos rfl,qf4 (by simp;omega),Option.bind_some,q0f,q04 (by omega)]
    refine (qan n l i hi hl hn m (j+1) _ (by simp;omega) (by omega) (by omega)).trans ?_
    rw [hk']
    simp [iL]
   | false =>
    rw [cond_false,if_neg (by decide),q0f,q04 (by omega)]
    refine (qan n l i hi hl hn m (j+1) _ (by omega) (by omega) (by omega)).trans ?_
    rw [hk']
  ·obtain rfl:j=l.length:=by omega
   rw [decide_eq_false (by omega),cond_false,Nat.sub_self]
   simp [iL]
theorem j5t (n:Nat) (l:List MD) (i:Nat) (hi:i<l.length) (hl:SmL l) (hn:100000<n):q36 n n l (i:Int) (0:Int) []=some (((),()),((),(iL (q71 l.length (adj l) i),()))):=by
 have h20:=hl.1
 have:=qan n l i hi hl hn n 0 [] (Nat.le_refl _) (Nat.zero_le _) (by omega)
 rw [List.nil_append,Nat.sub_zero,<-List.range_eq_range'] at this
 exact this
theorem qin (n:Nat) (l:List MD) (i:Int) (hl:SmL l) (hn:100000<n):q6n n l i=some (iL (jjz l i)):=by
 unfold q6n jjz
 rw [qz7 n l hl hn,Option.bind_some]
 by_cases c:qlx l=0
 ·rw [decide_eq_true c,Bool.not_true,cond_false]
  by_cases h0:0<=i
  ·rw [decide_eq_false (by omega),cond_false]
   by_cases h1:i<(l.length:Int)
   ·obtain ⟨k,rfl⟩:=Int.eq_ofNat_of_zero_le h0
    rw [decide_eq_false (by omega),cond_false,j5t n l k (by omega) hl hn,Option.bind_some,if_pos ⟨c,h0,h1⟩,Int.toNat_natCast]
   ·rw [decide_eq_true (by omega),cond_true,if_neg (fun h=>h1 h.2.2)];rfl
  ·rw [decide_eq_true (by omega),cond_true,if_neg (fun h=>h0 h.2.1)];rfl
 ·rw [decide_eq_false c,Bool.not_false,cond_true,if_neg (fun h=>c h.1)];rfl
theorem jg9 (l:List MD) (i:Int):(jjz l i).length<=l.length:=by
 unfold jjz
 split
 ·have:=List.length_filter_le (adj l i.toNat) (List.range l.length)
  rw [List.length_range] at this
  exact this
 ·exact Nat.zero_le _
theorem qx7 (n:Nat) (L:List Int) (x:Int) (hl:L.length<=100000) : ∀m j:Nat,j<=L.length->L.length - j<m ->
  q6t n m L x (j:Int)=some (bif (L.drop j).any (fun y=>decide (y=x)) then Sum.inl ((true,()),((),())) else Sum.inr ((),((),())))
 | 0,j,_,h=>absurd h (Nat.not_lt_zero _)
 | m+1,j,hj,h=>by
  rw [qoo]
  unfold qzi
  by_cases c:j<L.length
  ·rw [decide_eq_true (by omega),cond_true,q0k c,Option.bind_some,List.drop_eq_getElem_cons c,List.any_cons]
   by_cases e:L[j]=x
   ·rw [decide_eq_true e];rfl
   ·rw [decide_eq_false e,cond_false,Bool.false_or,q0f,q04 (by omega)]
    exact qx7 n L x hl m (j+1) (by omega) (by omega)
  ·obtain rfl:j=L.length:=by omega
   rw [decide_eq_false (by omega),cond_false,List.drop_length];rfl
theorem jya (L:List Int) (x:Int):L.any (fun y=>decide (y=x))=decide (x∈L):=by
 rw [Bool.eq_iff_iff,List.any_eq_true,decide_eq_true_iff]
 simp
theorem q6o (n:Nat) (L:List Int) (x:Int) (hl:L.length<=100000) (hn:100000<n):q8u n L x=some (decide (x∈L)):=by
 have h:q6t n n L x (0:Int)=some (bif L.any (fun y=>decide (y=x)) then Sum.inl ((true,()),((),())) else Sum.inr ((),((),()))):=qx7 n L x hl n 0 (Nat.zero_le _) (by omega)
 unfold q8u
 rw [h,Option.bind_some,jya]
 cases decide (x∈L)<;>rfl
theorem qjl {k:Nat} {L:List Nat} : ((k:Nat):Int)∈iL L↔k∈L:=by
 unfold iL
 rw [List.mem_map]
 constructor
 ·rintro ⟨a,h,e⟩
  obtain rfl:=Int.ofNat.inj e
  exact h
 ·exact fun h=>⟨k,h,rfl⟩
def Sml (l:List MD):Prop:=l.length<=20/\∀m∈l,m.2.1.length<=200/\m.1.length<=200/\m.2.2.length<=30/\∀r∈m.2.2,r.1.length<=200/\r.2.2.2.2.1.length<=200/\r.2.2.2.2.2.length<=200
theorem qf3 (n:Nat) (l:List MD) (i:Nat) (hi:i<l.length) (h30:l[i].2.2.length<=30) (a4:List MD) (a5:Int) (a6:List UInt8) (a7:Int) (a8:Bool) (a9:List MD) (a10:Int) (a11:List RD) (a12:Int) (a13:Bool) : ∀m j:Nat,j<=l[i].2.2.length->l[i].2.2.length - j<m ->
  (q2x n m l (i:Int) (j:Int) a4 a5 a6 a7 a8 a9 a10 a11 a12 a13=some (Sum.inl ((false,()),((),())))) \/
  (q2x n m l (i:Int) (j:Int) a4 a5 a6 a7 a8 a9 a10 a11 a12 a13=some (Sum.inr ((l,((i:Int),(a4,(a5,(a6,(a7,(a8,(a9,(a10,(a11,(a12,(a13,())))))))))))),((),())))/\∀r∈l[i].2.2.drop j,r.1.length<=200/\r.2.2.2.2.1.length<=200/\r.2.2.2.2.2.length<=200)
 | 0,j,_,h=>absurd h (Nat.not_lt_zero _)
 | m+1,j,hj,h=>by
  rw [qgn]
  unfold qhb
  rw [q0k hi,Option.bind_some]
  by_cases c:j<l[i].2.2.length
  ·rw [decide_eq_true (by omega),cond_true,Option.bind_some,q0k c,Option.bind_some]
   by_cases h1:200<l[i].2.2[j].1.length
   ·rw [decide_eq_true (by omega),cond_true];exact Or.inl rfl
   ·rw [decide_eq_false (by omega),cond_false]
    by_cases h2:200<l[i].2.2[j].2.2.2.2.1.length
    ·rw [decide_eq_true (by omega),cond_true];exact Or.inl rfl
    ·rw [decide_eq_false (by omega),cond_false]
     by_cases h3:200<l[i].2.2[j].2.2.2.2.2.length
     ·rw [decide_eq_true (by omega),cond_true];exact Or.inl rfl
     ·rw [decide_eq_false (by omega),cond_false,q0f,q04 (by omega)]
      rcases qf3 n l i hi h30 a4 a5 a6 a7 a8 a9 a10 a11 a12 a13 m (j+1) (by omega) (by omega) with h4|⟨h4,h5⟩
      ·exact Or.inl h4
      ·refine Or.inr ⟨h4,fun r hr=>?_⟩
       rw [List.drop_eq_getElem_cons c] at hr
       rcases List.mem_cons.1 hr with rfl|hr
       ·exact ⟨by omega,by omega,by omega⟩
       ·exact h5 r hr
  ·obtain rfl:j=l[i].2.2.length:=by omega
   rw [decide_eq_false (by omega),cond_false]
   exact Or.inr ⟨rfl,fun r hr=>by rw [List.drop_length] at hr;cases hr⟩
theorem juo {i:Nat} (h:i+1<=9223372036854775807):IntKind.wrap .i64 ((i:Int)+1)=((i+1:Nat):Int):=by rw [wrap64 (by omega) (by omega)];rfl
theorem qjk (n:Nat) (l:List MD) (hl:l.length<=9223372036854775807) (hn:100000<n) : ∀m j:Nat,j<=l.length->l.length - j<m ->
  (q1p n m l (j:Int)=some (Sum.inl ((false,()),((),())))) \/
  (q1p n m l (j:Int)=some (Sum.inr ((l,()),((),())))/\∀x∈l.drop j,x.2.1.length<=200/\x.1.length<=200/\x.2.2.length<=30/\∀r∈x.2.2,r.1.length<=200/\r.2.2.2.2.1.length<=200/\r.2.2.2.2.2.length<=200)
 | 0,j,_,h=>absurd h (Nat.not_lt_zero _)
 | m+1,j,hj,h=>by
  rw [qgt]
  unfold qh3
  by_cases c:j<l.length
  ·rw [decide_eq_true (by omega),cond_true,q0k c,Option.bind_some]
   by_cases h1:200<l[j].2.1.length
   ·rw [decide_eq_true (by omega),cond_true];exact Or.inl rfl
   ·rw [decide_eq_false (by omega),cond_false,Option.bind_some]
    by_cases h2:200<l[j].1.length
    ·rw [decide_eq_true (by omega),cond_true];exact Or.inl rfl
    ·rw [decide_eq_false (by omega),cond_false,Option.bind_some]
     by_cases h3:30<l[j].2.2.length
     ·rw [decide_eq_true (by omega),cond_true];exact Or.inl rfl
     ·rw [decide_eq_false (by omega),cond_false]
      rcases qf3 n l j c (by omega) l (j:Int) l[j].1 ((l[j].1.length:Nat):Int) false l (j:Int) l[j].2.2 ((l[j].2.2.length:Nat):Int) false n 0 (Nat.zero_le _) (by omega) with h4|⟨h4,h5⟩
      ·rw [show (0:Int)=((0:Nat):Int) from rfl,h4,Option.bind_some];exact Or.inl rfl
      ·rw [show (0:Int)=((0:Nat):Int) from rfl,h4,Option.bind_some]
       show (q0e (IntKind.wrap .i64 ((j:Int)+1)) (fun n11=>q1p n m l n11)=_)\/(q0e (IntKind.wrap .i64 ((j:Int)+1)) (fun n11=>q1p n m l n11)=_/\_)
       rw [q0f,juo (by omega)]
       rcases qjk n l hl hn m (j+1) (by omega) (by omega) with h6|⟨h6,h7⟩
       ·exact Or.inl h6
       ·refine Or.inr ⟨h6,fun x hx=>?_⟩
        rw [List.drop_eq_getElem_cons c] at hx
        rcases List.mem_cons.1 hx with rfl|hx
        ·exact ⟨by omega,by omega,by omega,h5⟩
        ·exact h7 x hx
  ·obtain rfl:j=l.length:=by omega
   rw [decide_eq_false (by omega),cond_false]
   exact Or.inr ⟨rfl,fun r hr=>by rw [List.drop_length] at hr;cases hr⟩
theorem j1a (n:Nat) (l:List MD) (hl:l.length<=9223372036854775807) (hn:9223372036854775807<n) : ∃ b,qeg n l=some b/\(b=true->Sml l):=by
 unfold qeg
 rcases qjk n l hl (by omega) n 0 (Nat.zero_le _) (by omega) with h|⟨h,h2⟩
 ·rw [show (0:Int)=((0:Nat):Int) from rfl,h,Option.bind_some]
  exact ⟨false,rfl,fun h=>by cases h⟩
 ·rw [show (0:Int)=((0:Nat):Int) from rfl,h,Option.bind_some]
  exact ⟨_,rfl,fun h3=>⟨by
   have h4:((l.length:Nat):Int)<=20:=of_decide_eq_true h3
   omega,fun m hm=>h2 m (by rw [List.drop_zero];exact hm)⟩⟩
theorem Sml.sm {l:List MD} (h:Sml l):SmL l:=⟨h.1,fun m hm=>⟨(h.2 m hm).1,by have:=(h.2 m hm).2.2.1;omega⟩⟩
end Go.Proofs.YtggoebaobojmjaaGreatDoor.AM
namespace Go.Proofs.YtggoebaobojmjaaGreatDoor.AM
open Go.RowKit
set_option linter.unusedVariables false
end Go.Proofs.YtggoebaobojmjaaGreatDoor.AM
namespace Go.Proofs.YtggoebaobojmjaaGreatDoor.AM
open Go.RowKit Gr
set_option linter.unusedVariables false
set_option linter.unusedSimpArgs false
theorem qo7 (l:List MD):Ord l.length (adj l) (jbe l):=jel 13 Ord.nil
theorem jcd (l:List MD):(jbe l).length<=l.length:=qdy (qo7 l).nd (qo7 l).lt
end Go.Proofs.YtggoebaobojmjaaGreatDoor.AM
namespace Go.Proofs.YtggoebaobojmjaaGreatDoor.AM
open Go.RowKit Gr
set_option linter.unusedVariables false
set_option linter.unusedSimpArgs false
abbrev RlD:=Int×(Bool×(Int×(Int×(Int×(List UInt8×(List UInt8×(Int×(Int×(Int×(List UInt8×(List UInt8×Int)))))))))))
abbrev WnD:=List UInt8×Int
def mkR (a:Int) (h:Bool) (o v:VD) (k:Int):RlD:=(a,(h,(o.1,(o.2.1,(o.2.2.1,(o.2.2.2.1,(o.2.2.2.2,(v.1,(v.2.1,(v.2.2.1,(v.2.2.2.1,(v.2.2.2.2,k))))))))))))
def rOld (r:RlD):VD:=(r.2.2.1,(r.2.2.2.1,(r.2.2.2.2.1,(r.2.2.2.2.2.1,r.2.2.2.2.2.2.1))))
def jyz (r:RlD):VD:=(r.2.2.2.2.2.2.2.1,(r.2.2.2.2.2.2.2.2.1,(r.2.2.2.2.2.2.2.2.2.1,(r.2.2.2.2.2.2.2.2.2.2.1,r.2.2.2.2.2.2.2.2.2.2.2.1))))
def r0:RlD:=mkR 0 false v0 v0 0
def qnj (p:List UInt8):VD×Bool:=if (q1e p).2.2=true then (if (q1e p).2.1=0 then ((0,(1,(0,([],[])))),true) else (((q1e p).2.1,(0,(0,([],[])))),true)) else (v0,false)
def q20 (p:List UInt8) (v:VD) (k:Int):VD×Int:=if q1f v=true then (if (qm7 v k).2=0 then (if qp1 p (qm7 v k).1=true then ((qm7 v k).1,0) else (v0,8)) else (v0,(qm7 v k).2)) else (v0,7)
def jh8 (k:Int):Bool:=decide (1<=k)&&decide (k<=3)
def q9e (p:List UInt8) (l:List TgD) (k:Int):RlD×Int :=
 if (qnj p).2=true then (if jh8 k=true then (match q1b p none l with
  | none=>(mkR 0 false v0 (qnj p).1 k,0)
  | some t=>if (q20 p (tV t) k).2=0 then (mkR 0 true (tV t) (q20 p (tV t) k).1 k,0) else (r0,(q20 p (tV t) k).2)) else (r0,1)) else (r0,6)
def plc (p:List UInt8):Nat->List MD->Option Nat
 | _,[]=>none
 | j,m::l=>if m.2.1=p then some j else plc p (j+1) l
def q3y (l:List MD) (p:List UInt8):Option Nat:=plc p 0 l
def qyp (l:List MD) (p:List UInt8):Int:=match q3y l p with
 | some i=>(i:Int)
 | none=>-1
theorem jdr {p:List UInt8} : ∀{l:List MD} {j i:Nat},plc p j l=some i->∃ k,∃ h:k<l.length,i=j+k/\l[k].2.1=p
 | [],j,i,h=>by cases h
 | m::l,j,i,h=>by
  unfold plc at h
  by_cases e:m.2.1=p
  ·rw [if_pos e] at h
   obtain rfl:=Option.some.inj h
   exact ⟨0,Nat.zero_lt_succ _,rfl,e⟩
  ·rw [if_neg e] at h
   obtain ⟨k,hk,h1,h2⟩:=jdr h
   exact ⟨k+1,Nat.succ_lt_succ hk,by omega,h2⟩
theorem jf1 {p:List UInt8} : ∀{l:List MD} {j:Nat},plc p j l=none->∀m∈l,m.2.1≠p
 | [],j,h,m,hm=>by cases hm
 | x::l,j,h,m,hm=>by
  unfold plc at h
  by_cases e:x.2.1=p
  ·rw [if_pos e] at h;cases h
  ·rw [if_neg e] at h
   rcases List.mem_cons.1 hm with rfl|hm
   ·exact e
   ·exact jf1 h m hm
theorem q6p {l:List MD} {p:List UInt8} {i:Nat} (h:q3y l p=some i) : ∃ hi:i<l.length,l[i].2.1=p:=by
 obtain ⟨k,hk,h1,h2⟩:=jdr h
 obtain rfl:k=i:=by omega
 exact ⟨hk,h2⟩
theorem j3m : ∀(ps pre:List (List UInt8)),jd9 pre ps=false->ps.Nodup/\∀x∈ps,x ∉ pre
 | [],pre,_=>⟨List.nodup_nil,fun x h=>by cases h⟩
 | x::ps,pre,h=>by
  unfold jd9 at h
  rw [Bool.or_eq_false_iff] at h
  obtain ⟨h1,h2⟩:=h
  obtain ⟨h3,h4⟩:=j3m ps _ h2
  have hx:x ∉ pre:=fun hm=>by
   have:=List.any_eq_false.1 h1 x hm
   exact this (decide_eq_true rfl)
  refine ⟨List.nodup_cons.2 ⟨fun hm=>h4 x hm (List.mem_append.2 (Or.inr (List.mem_singleton.2 rfl))),h3⟩,fun y hy=>?_⟩
  rcases List.mem_cons.1 hy with rfl|hy
  ·exact hx
  ·exact fun hm=>h4 y hy (List.mem_append.2 (Or.inl hm))
theorem jq7 {l:List MD} (h:qlx l=0):(q90 l).Nodup:=by
 unfold qlx k0e at h
 split at h
 ·cases h
 ·cases ha:(q90 l).all okS with
  | false=>rw [ha] at h;cases h
  | true =>
   rw [ha,cond_true] at h
   cases hd:jd9 [] (q90 l) with
   | true=>rw [hd] at h;cases h
   | false=>exact (j3m _ _ hd).1
theorem jo0 {l:List MD} {i:Nat} (hi:i<l.length):(q90 l)[i]'(by rw [q3b];exact hi)=l[i].2.1:=by simp [q90]
theorem jg5 {l:List MD} (h:qlx l=0) {i:Nat} (hi:i<l.length):q3y l l[i].2.1=some i:=by
 cases hp:q3y l l[i].2.1 with
 | none=>exact absurd rfl (jf1 hp _ (List.getElem_mem hi))
 | some k =>
  obtain ⟨hk,h2⟩:=q6p hp
  have hn:=jq7 h
  have:=(List.getElem_inj (i:=k) (j:=i) (h₀:=by rw [q3b];exact hk) (h₁:=by rw [q3b];exact hi) hn).1 (by rw [jo0 hk,jo0 hi,h2])
  rw [this]
def jk6 (w:List WnD) (f:WnD->Bool) (z:Int):Int:=match w.find? f with
 | some x=>x.2
 | none=>z
def q9j (w:List WnD) (p:List UInt8):Int:=jk6 w (fun x=>decide (x.1=p)) 1
def q5j (l:List MD):List WnD->List WnD->Int
 | _,[]=>0
 | pre,x::w=>if (q3y l x.1).isSome=true then (if jh8 x.2=true then (if pre.any (fun y=>decide (y.1=x.1))=true then 11 else q5j l (pre ++ [x]) w) else 1) else 5
def jn5 (l:List MD) (w:List WnD):List Nat:=w.filterMap fun x=>q3y l x.1
def lvl (l:List MD) (w:List WnD) (i:Nat):Int:=jk6 w (fun x=>decide (q3y l x.1=some i)) 0
def lvS (l:List MD) (w:List WnD):List Int:=(List.range 12).map (lvl l w)
theorem qbd (l:List MD) (w:List WnD):(lvS l w).length=12:=by unfold lvS;rw [List.length_map,List.length_range]
theorem jb6 {l:List MD} {w:List WnD} {i:Nat} (hi:i<12):(lvS l w).getD i 0=lvl l w i:=by
 rw [List.getD_eq_getElem?_getD];unfold lvS
 rw [List.getElem?_map,List.getElem?_range hi];rfl
theorem jv5 {l:List MD} {w:List WnD} {i:Nat} (h:i<(lvS l w).length):(lvS l w)[i]=lvl l w i:=by simp [lvS]
def WOk (l:List MD) (w:List WnD):Prop:=∀x∈w,(q3y l x.1).isSome=true/\jh8 x.2=true
theorem jm6 {k:Int} (h:jh8 k=true):1<=k/\k<=3:=by
 unfold jh8 at h
 rw [Bool.and_eq_true,decide_eq_true_iff,decide_eq_true_iff] at h
 exact h
theorem j5z {w:List WnD} {f:WnD->Bool} (hw : ∀x∈w,jh8 x.2=true):jk6 w f 0=0↔w.any f=false:=by
 unfold jk6
 cases h:w.find? f with
 | none =>
  refine ⟨fun _=>?_,fun _=>rfl⟩
  rw [List.any_eq_false]
  exact fun x hx=>List.find?_eq_none.1 h x hx
 | some x =>
  have h1:=List.find?_some h
  have h2:=List.mem_of_find?_eq_some h
  have:=(jm6 (hw x h2)).1
  refine ⟨fun (e:x.2=0)=>by omega,fun e=>?_⟩
  exact absurd h1 (List.any_eq_false.1 e x h2)
theorem jjl {l:List MD} {p q:List UInt8} {i:Nat} (hp:q3y l p=some i):q3y l q=some i↔q=p:=by
 constructor
 ·intro hq
  obtain ⟨h1,h2⟩:=q6p hp
  obtain ⟨_,h4⟩:=q6p hq
  rw [<-h2,<-h4]
 ·rintro rfl;exact hp
theorem find_congr {α:Type} {f g:α->Bool} : ∀{l:List α},(∀x∈l,f x=g x)->l.find? f=l.find? g
 | [],_=>rfl
 | x::l,h=>by
  rw [List.find?_cons,List.find?_cons,h x (List.mem_cons_self ..),find_congr fun y hy=>h y (List.mem_cons_of_mem _ hy)]
theorem j12 {l:List MD} {w:List WnD} {p:List UInt8} {i:Nat} (hp:q3y l p=some i):lvl l w i=jk6 w (fun x=>decide (x.1=p)) 0:=by
 unfold lvl jk6
 rw [find_congr (g:=fun x=>decide (x.1=p)) fun x _=>decide_eq_decide.2 (jjl hp)]
theorem jsl {l:List MD} {w:List WnD} {x:WnD} {i:Nat} (hp:q3y l x.1=some i) (hw:w.any (fun y=>decide (y.1=x.1))=false) (q:Nat):lvl l (w ++ [x]) q=if q=i then x.2 else lvl l w q:=by
 by_cases e:q=i
 ·subst e
  rw [j12 hp,if_pos rfl]
  unfold jk6
  rw [List.find?_append,List.find?_eq_none.2 (fun y hy=>List.any_eq_false.1 hw y hy)]
  simp
 ·rw [if_neg e]
  unfold lvl jk6
  rw [List.find?_append]
  have : [x].find? (fun y=>decide (q3y l y.1=some q))=none:=by
   rw [List.find?_eq_none]
   intro y hy
   rw [List.mem_singleton] at hy;subst hy
   rw [hp,decide_eq_true_iff]
   exact fun e'=>e (Option.some.inj e').symm
  rw [this,Option.or_none]
theorem jtz {l:List MD} {w:List WnD} {x:WnD} {i:Nat} (hp:q3y l x.1=some i) (hi:i<12) (hw:w.any (fun y=>decide (y.1=x.1))=false):(lvS l w).set i x.2=lvS l (w ++ [x]):=by
 apply List.ext_getElem
 ·rw [List.length_set,qbd,qbd]
 ·intro k h1 h2
  rw [qbd] at h2
  rw [List.getElem_set,jv5,jv5,jsl hp hw k]
  by_cases e:i=k
  ·rw [if_pos e,if_pos e.symm]
  ·rw [if_neg e,if_neg (fun e'=>e e'.symm)]
def plS (l:List MD) (w:List WnD):List Nat:=(List.range 12).filter fun i=>!decide (lvl l w i=0)
theorem mem_pl {l:List MD} {w:List WnD} (hw:WOk l w) (h12:l.length<=12) {i:Nat} : i∈plS l w↔i∈jn5 l w:=by
 unfold plS jn5
 rw [List.mem_filter,List.mem_range,List.mem_filterMap,Bool.not_eq_true',decide_eq_false_iff_not]
 unfold lvl
 rw [j5z fun x hx=>(hw x hx).2,Bool.not_eq_false,List.any_eq_true]
 constructor
 ·rintro ⟨h1,x,h2,h3⟩
  exact ⟨x,h2,of_decide_eq_true h3⟩
 ·rintro ⟨x,h2,h3⟩
  obtain ⟨h4,_⟩:=q6p h3
  exact ⟨by omega,x,h2,decide_eq_true h3⟩
theorem qzy {l:List MD} : ∀{w pre:List WnD},q5j l pre w=0->WOk l w
 | [],pre,_=>fun x hx=>by cases hx
 | y::w,pre,h=>by
  unfold q5j at h
  by_cases c1:(q3y l y.1).isSome=true
  ·by_cases c2:jh8 y.2=true
   ·rw [if_pos c1,if_pos c2] at h
    split at h
    ·cases h
    ·intro x hx
     rcases List.mem_cons.1 hx with rfl|hx
     ·exact ⟨c1,c2⟩
     ·exact qzy h x hx
   ·rw [if_pos c1,if_neg c2] at h;cases h
  ·rw [if_neg c1] at h;cases h
theorem jzk {w:List WnD} {f:WnD->Bool} (hw : ∀x∈w,jh8 x.2=true):max (jk6 w f 0) 1=jk6 w f 1:=by
 unfold jk6
 cases h:w.find? f with
 | none=>rfl
 | some x =>
  have:=(jm6 (hw x (List.mem_of_find?_eq_some h))).1
  show max x.2 1=x.2
  omega
def qo0 (l:List MD) (tg:List TgD) (w:List WnD) (k:Nat):RlD×Int:=match l[k]? with
 | none=>(r0,0)
 | some m=>(((k:Int),(q9e m.2.1 tg (q9j w m.2.1)).1.2),(q9e m.2.1 tg (q9j w m.2.1)).2)
def jk1 (l:List MD) (tg:List TgD) (w:List WnD):List Nat->Int
 | []=>0
 | k::D=>if (qo0 l tg w k).2=0 then jk1 l tg w D else (qo0 l tg w k).2
def jy9 (l:List MD) (tg:List TgD) (w:List WnD) (D:List Nat):List RlD×Int:=if jk1 l tg w D=0 then (D.map fun k=>(qo0 l tg w k).1,0) else ([],jk1 l tg w D)
def q1h (l:List MD) (U:List Nat):List Nat:=(jbe l).filter U.contains
def jsw (l:List MD) (tg:List TgD) (w:List WnD) (U:List Nat):List RlD×Int :=
 if (q82 l).2=0 then (if q5j l [] w=0 then jy9 l tg w (q1h l U) else ([],q5j l [] w)) else ([],(q82 l).2)
theorem j3d {l:List MD} (tg:List TgD) (w:List WnD) {k:Nat} (hk:k<l.length):qo0 l tg w k=(((k:Int),(q9e l[k].2.1 tg (q9j w l[k].2.1)).1.2),(q9e l[k].2.1 tg (q9j w l[k].2.1)).2):=by
 unfold qo0;rw [List.getElem?_eq_getElem hk]
theorem j5u {l:List MD} {tg:List TgD} {w:List WnD} : ∀{D:List Nat},jk1 l tg w D=0 ↔ ∀k∈D,(qo0 l tg w k).2=0
 | []=>⟨fun _ k h=>(by cases h),fun _=>rfl⟩
 | x::D=>by
  unfold jk1
  by_cases c:(qo0 l tg w x).2=0
  ·rw [if_pos c,j5u (D:=D)]
   exact ⟨fun h k hk=>by rcases List.mem_cons.1 hk with rfl|hk;exact c;exact h k hk,fun h k hk=>h k (List.mem_cons_of_mem _ hk)⟩
  ·rw [if_neg c]
   exact ⟨fun h=>absurd h c,fun h=>absurd (h x (List.mem_cons_self ..)) c⟩
end Go.Proofs.YtggoebaobojmjaaGreatDoor.AM
namespace Go.Proofs
open Go.RowKit Go.Shelf Go.Lib
set_option linter.unusedVariables false
set_option linter.unusedSimpArgs false
namespace YtggoebaobojmjaaGreatDoor.AM
def qll (_:Unit) (n:Int):Option (Unit×(Unit×(List Int×Unit))):=if 0<=n/\n<=1000000000000 then some ((),((),([],()))) else none
def jdq:FX:={ f:=79,args:=[.one (.c .nil),.one (.c (.d (.int .i64)))],boxes:=[],rows:=[],res:=.one (.c (.row 1000000)),oboxes:=[],orows:=[(1000000,⟨3,true,.int .i64⟩)],F:=fun p=>qll p.1.1 p.1.2 }
theorem jop {F:Fr} {e:Env} {w w':World} {v:Value} (hp:Hp F q2y e w) (hown:q7h w' F.w0.heap.size 3 1 v 0 []) (hgr:w.grownBy w' none) (hblk : ∀b,v.ownBlock=some b->w.heap.size<=b) (hsl : ∃ a n c,v = .slice a n c) :
  ∃ e',Hp F (eS ⟨[],[],[(1000000,⟨0,3,true,.int .i64,[]⟩)]⟩) e' w'/\q1c e' (eS ⟨[],[],[(1000000,⟨0,3,true,.int .i64,[]⟩)]⟩) w' v (.one (.c (.row 1000000 0))):=by
 obtain ⟨hf,hh⟩:=hp.rowNext 1000000 ⟨0,3,1,true,[]⟩ (.slice none 0 0) v [] (Or.inr ⟨rfl,rfl⟩) (fun x hx=>by cases hx) hown hgr (fun r hr=>by cases hr) (fun b hb=>Or.inr (hblk b hb)) trivial (fun u hu=>by cases hu)
 have hrow:(eS ⟨[],[],[(1000000,⟨0,3,true,.int .i64,[]⟩)]⟩).row=upd q2y.row 1000000 (some ⟨0,3,1,true,[]⟩):=by
  funext i
  show (lk [(1000000,(⟨0,3,true,.int .i64,[]⟩:TRow))] i).map eR=_
  rw [q0l]
  unfold upd
  split<;>rfl
 have h2:=hh.re (F':=F) (σ':=eS ⟨[],[],[(1000000,⟨0,3,true,.int .i64,[]⟩)]⟩) rfl rfl rfl rfl rfl (by funext i;rfl) hrow
 refine ⟨_,h2,?_⟩
 show (∃ r,(eS ⟨[],[],[(1000000,⟨0,3,true,.int .i64,[]⟩)]⟩).row 1000000=some r/\0<=r.gen)/\v=j2a e.rv 1000000 0 v 1000000 0/\∃ a n c,v = .slice a n c
 refine ⟨⟨⟨0,3,1,true,[]⟩,by rw [hrow];exact q0o _ _ _,Nat.zero_le _⟩,(q1l _ _ _ _).symm,hsl⟩
set_option maxRecDepth 100000 in
set_option maxHeartbeats 1600000 in
theorem jaz (n:Nat) (w:World) (hn:n<=1000000000000):Calls Tryz.prog 79 #[.slice none 0 0,.int .i64 n] w fun e w'=>∃ v,e = .returned v/\(∀base,base<=w.heap.size->q7h w' base 3 1 v 0 [])/\w.grownBy w' none/\(∀b,v.ownBlock=some b->w.heap.size<=b)/\∃ a n c,v = .slice a n c:=by
 rcases Nat.eq_zero_or_pos n with rfl|h0
 ·go_enter Tryz.func79,Tryz.ntmps79
  go_wp2
  go_ret
  refine ⟨.slice none 0 0,rfl,fun base _=>j4u _ _ _ _,World.grownBy.refl _ _,?_,none,0,0,rfl⟩
  intro b hb
  cases hb
 ·have hi:(0:Int)<(n:Int):=by omega
  have hA:=Lib.run_append_nil_zeros (P:=Tryz.prog) w 39 3 39 3 Tryz.t3 _ .i64 .i64 (by kernel_rfl) (by kernel_rfl) (by kernel_rfl) rfl n h0 (by decide) (by omega) (by show n*8<=_;omega)
  have hgc:=grownCap_ge w n 0 3
  have hgm:=grownCap_le_maxLen w n 0 3 (by unfold maxLen;omega)
  generalize grownCap w n 0 3=cap at hA hgc hgm
  obtain ⟨row,hrow⟩ : ∃ r,Builtin.zeroCells (Tryz.t3.zero.getD undef).cells n++Builtin.zeroCells (Tryz.t3.zero.getD undef).cells (cap - n)=r:=⟨_,rfl⟩
  have hA2:(Builtin.append_ #[39,3] 39 #[.slice none 0 0,.int .i64 n]).run Tryz.prog w = .ok (.slice (some ⟨w.heap.size,0,none⟩) n cap) (w.drew.alloc (.cells row 3)):=by rw [<-hrow];exact hA
  clear hA
  go_enter Tryz.func79,Tryz.ntmps79
  go_wp2_with (at_builtin;refine Lib.wpList_append_run _ rfl _ _ _ _ rfl _ _ rfl rfl _ _ hA2 ?_)
  go_ret
  have hsz:row.size=cap*1:=by
   rw [<-hrow,Array.size_append,size_zeroCells,size_zeroCells]
   have h7:(Tryz.t3.zero.getD undef).cells.size=1:=rfl
   rw [h7];omega
  refine ⟨_,rfl,fun base hb=>⟨rfl,Or.inr ⟨w.heap.size,cap,row,rfl,hb,?_,Nat.zero_le _,hgm,hsz,?_⟩⟩,?_,?_,_,_,_,rfl⟩
  ·exact heap_alloc_new w.drew _
  ·rw [Nat.zero_mul];exact List.take_zero
  ·have h1:=World.grownBy_alloc w.drew (.cells row 3) none
   exact ⟨h1.os,h1.tape,h1.output,h1.size,h1.block⟩
  ·intro b hb
   have:w.heap.size=b:=Option.some.inj hb
   omega
theorem jlx:q8r Inv Tryz.prog jdq:=fun G hG=>⟨by kernel_rfl,fun p q h=>by
 obtain ⟨⟨u,n⟩,p2⟩:=p
 have h':qll u n=some q:=h
 unfold qll at h'
 split at h'
 case isFalse=>cases h'
 rename_i hn
 obtain rfl:=Option.some.inj h'
 intro F hF e w vs hp hv
 obtain ⟨l⟩:=vs
 match l,hv with
 | [x,y],⟨h1,h2,_⟩ =>
  obtain rfl:x = .slice none 0 0:=q07 h1
  obtain rfl:y = .int .i64 n:=q07 h2
  obtain ⟨m,rfl⟩ : ∃ m:Nat,n=(m:Int):=⟨Int.toNat n,(Int.toNat_of_nonneg hn.1).symm⟩
  refine (jaz m w (by have h7:=hn.2;omega)).mono ?_
  rintro e1 w' ⟨v,rfl,hown,hgr,hblk,hsl⟩
  have hp':Hp F q2y e w:=hp.re (F':=F) (σ':=q2y) rfl rfl rfl rfl rfl (by funext i;rfl) (by funext i;rfl)
  obtain ⟨e',k1,k2⟩:=jop hp' (hown _ hp.sizeLe) hgr hblk hsl
  exact ⟨v,e',rfl,k1,k2⟩⟩
end YtggoebaobojmjaaGreatDoor.AM
end Go.Proofs
