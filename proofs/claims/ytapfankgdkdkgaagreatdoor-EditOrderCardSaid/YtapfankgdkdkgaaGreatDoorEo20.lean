
import Derived.Test.YtapfankgdkdkgaaGreatDoorEo13
import Derived.Test.YtapfankgdkdkgaaGreatDoorEo14
import Derived.Test.YtapfankgdkdkgaaGreatDoorEo19
set_option linter.unusedVariables false
set_option linter.unusedSimpArgs false
namespace Go.Proofs.YtapfankgdkdkgaaGreatDoor.AM
open Go.RowKit
abbrev Zm:=Yy×(Yy×(Unit×(Unit×(Unit×(Unit×(Int×(Int×(Yy×(Unit×Unit)))))))))
theorem qm5 (n:Nat) (a b:Int):q6w n a b=some (qsq a b):=by
 unfold q6w qpr qsq
 simp only [decide_true,Bool.not_true,Option.bind_some,cond_false]
 by_cases h1:a<b
 ·simp [h1]
 ·by_cases h2:b<a
  ·simp [h1,h2]
  ·simp [h1,h2]
def q71:List Int->Int
 | []=>0
 | x::l=>or2 x (q71 l)
theorem qox (n:Nat) (l:List Int) (hL:l.length<=1000000) : ∀m j:Nat,j<=l.length->l.length - j<m->q75 n m 0 l ((l.length:Nat):Int) (j:Int)=some (if q71 (l.drop j)=0 then Sum.inr (((0:Int),()),((),())) else Sum.inl ((q71 (l.drop j),()),((),())))
 | 0,j,_,h=>absurd h (Nat.not_lt_zero _)
 | m+1,j,hj,h=>by
  rw [qg1]
  unfold qq8
  by_cases c0:j<l.length
  ·have c0':((j:Nat):Int)<((l.length:Nat):Int):=by omega
   have ih:=qox n l hL m (j+1) (by omega) (by omega)
   have hd:l.drop j=l[j]::l.drop (j+1):=(List.drop_eq_getElem_cons c0)
   simp only [c0',decide_true,cond_true,q37 c0,Option.bind_some,q0h,q1f (show j<4611686018427387904 by omega),ih,hd,q71,or2]
   by_cases h0:l[j]=0
   ·simp [h0]
   ·simp [h0]
  ·have c0' : ¬ ((j:Nat):Int)<((l.length:Nat):Int):=by omega
   have:l.drop j = []:=List.drop_eq_nil_of_le (by omega)
   simp [c0',this,q71]
theorem qns (n:Nat) (l:List Int) (hL:l.length<=1000000) (hn:l.length<n):qi9 n l=some (q71 l):=by
 unfold qi9
 have:=qox n l hL n 0 (Nat.zero_le _) (by omega)
 rw [show ((0:Nat):Int)=(0:Int) from rfl] at this
 rw [this,List.drop_zero]
 by_cases h:q71 l=0
 ·simp [h]
 ·simp [h]
theorem qpp (n:Nat) (v:VD) (hn:4<=n):qar n v=some (q08 v):=by
 unfold qar q08
 rw [q3l n v hn]
 cases hc:q1g v with
 | false=>rfl
 | true =>
  obtain ⟨h1,h2,h3,h4,h5⟩:=q2t hc
  have l1:=qrs h1
  have l2:=qrs h2
  have l3:=qrs h3
  have t1:=q9o h4
  have t2:=q9o h5
  simp only [Option.bind_some,Bool.not_true,cond_false,qk5 h1,qk5 h2,qk5 h3,if_true]
  unfold jj1 q5d
  generalize Lib.itoa v.1=A at l1
  generalize Lib.itoa v.2.1=B at l2
  generalize Lib.itoa v.2.2.1=C at l3
  generalize v.2.2.2.1=p at t1
  generalize v.2.2.2.2=q at t2
  rw [q8v (by simp;omega)];simp only [Option.bind_some]
  rw [q8v (by simp;omega)];simp only [Option.bind_some]
  rw [q8v (by simp;omega)];simp only [Option.bind_some]
  rw [q8v (by simp;omega)];simp only [Option.bind_some]
  rw [q8v (by simp;omega)];simp only [Option.bind_some]
  have k1:q9w [45] p=some ([45]++p):=q8v (by simp;omega)
  have k2:q9w [43] q=some ([43]++q):=q8v (by simp;omega)
  by_cases hp:p = []
  ·by_cases hq:q = []
   ·simp [hp,hq]
   ·simp only [hp,hq,decide_true,decide_false,Bool.not_true,Bool.not_false,cond_true,cond_false,k2,Option.bind_some]
    rw [q8v (by simp;omega)]
    simp
  ·by_cases hq:q = []
   ·simp only [hp,hq,decide_true,decide_false,Bool.not_true,Bool.not_false,cond_true,cond_false,k1,Option.bind_some]
    rw [q8v (by simp;omega)]
    simp
   ·simp only [hp,hq,decide_true,decide_false,Bool.not_true,Bool.not_false,cond_true,cond_false,k1,k2,Option.bind_some]
    rw [q8v (by simp;omega)];simp only [Option.bind_some]
    rw [q8v (by simp;omega)]
    simp
theorem qcj (n:Nat) (c:UInt8) (s:Yy) (hs:s.length<=1000000) : ∃ b,qs0 n s [c]=some (q2j c s,(qaa c s,b)):=by
 unfold qs0 j90 qlz q2j qaa
 simp only [show s.length<4294967281 from by omega,if_true,Option.bind_some]
 have hge:=Lib.index_ge s [c]
 by_cases h1:Lib.index s [c] = -1
 ·simp only [h1,show ¬ (0:Int)<=-1 from by decide,decide_false,cond_false,Option.bind_some,if_true]
  exact ⟨_,rfl⟩
 ·obtain ⟨i,hi⟩ : ∃ i:Nat,Lib.index s [c]=(i:Int):=⟨(Lib.index s [c]).toNat,by omega⟩
  have hlt:=j4w c s i hi
  have n1 : ¬ ((i:Nat):Int) = -1:=by omega
  have n2:(0:Int)<=((i:Nat):Int):=by omega
  rw [hi]
  have w1:IntKind.wrap .i64 (((i:Nat):Int)+((List.length [c]:Nat):Int))=((i+1:Nat):Int):=q1f (by omega)
  simp only [n1,n2,decide_true,cond_true,if_false,sub_zero (show i<=s.length by omega),Option.bind_some,q0h,w1,sub_le (show i+1<=s.length by omega) (Nat.le_refl _),Int.toNat_natCast]
  refine ⟨true,?_⟩
  have e6:(s.drop (i+1)).take (s.length - (i+1))=s.drop (i+1):=List.take_of_length_le (by rw [List.length_drop];exact Nat.le_refl _)
  rw [e6]
theorem qc1 (c:UInt8) (s:Yy):(q2j c s).length<=s.length:=by
 unfold q2j;split
 ·exact Nat.le_refl _
 ·rw [List.length_take];omega
theorem qgw (c:UInt8) (s:Yy):(qaa c s).length<=s.length:=by
 unfold qaa;split
 ·simp
 ·rw [List.length_drop];omega
theorem qas (n:Nat) (s:Yy) (hs:s.length<=1000000) (hn:4<=n):q9b n s=some (q0r s):=by
 unfold q9b q0r j7a
 obtain ⟨b1,e1⟩:=qcj n 43 s hs
 have l1:=qc1 43 s
 have l1':=qgw 43 s
 obtain ⟨b2,e2⟩:=qcj n 45 (q2j 43 s) (by omega)
 have l2:=qc1 45 (q2j 43 s)
 have e3:=qte n (q2j 45 (q2j 43 s)) (by omega)
 have l3:=qvu (q2j 45 (q2j 43 s))
 obtain ⟨b4,e4⟩:=qcj n 46 (q1c (q2j 45 (q2j 43 s))) (by omega)
 have l4:=qc1 46 (q1c (q2j 45 (q2j 43 s)))
 have l4':=qgw 46 (q1c (q2j 45 (q2j 43 s)))
 obtain ⟨b5,e5⟩:=qcj n 46 (qaa 46 (q1c (q2j 45 (q2j 43 s)))) (by omega)
 have l5:=qc1 46 (qaa 46 (q1c (q2j 45 (q2j 43 s))))
 have l5':=qgw 46 (qaa 46 (q1c (q2j 45 (q2j 43 s))))
 have m1:q4h (q2j 46 (q1c (q2j 45 (q2j 43 s))))=some (qbb (q2j 46 (q1c (q2j 45 (q2j 43 s))))):=if_pos (by omega)
 have m2:q4h (q2j 46 (qaa 46 (q1c (q2j 45 (q2j 43 s)))))=some (qbb (q2j 46 (qaa 46 (q1c (q2j 45 (q2j 43 s)))))):=if_pos (by omega)
 have m3:q4h (qaa 46 (qaa 46 (q1c (q2j 45 (q2j 43 s)))))=some (qbb (qaa 46 (qaa 46 (q1c (q2j 45 (q2j 43 s)))))):=if_pos (by omega)
 simp only [e1,Option.bind_some,e2,e3,e4,e5,m1,m2,m3]
 generalize (qbb (q2j 46 (q1c (q2j 45 (q2j 43 s)))),(qbb (q2j 46 (qaa 46 (q1c (q2j 45 (q2j 43 s))))),(qbb (qaa 46 (qaa 46 (q1c (q2j 45 (q2j 43 s))))),(qaa 45 (q2j 43 s),qaa 43 s))))=v
 rw [q3l n v hn,qpp n v hn]
 cases hc:q1g v with
 | false=>simp
 | true =>
  by_cases ht:q08 v=s
  ·simp [ht]
  ·simp [ht]
theorem j75 (n:Nat) (a b:Yy) (ha:a.length<=1000000) (hb:b.length<=1000000) (hn:a.length<n/\b.length<n/\3<=n):qpz n a b=some (jm9 a b):=by
 unfold qpz jm9 jlp qcl
 rw [q78 n a ha hn.1,q78 n b hb hn.2.1]
 simp only [Option.bind_some,qm5,q8i]
 cases qc5 a with
 | false=>cases qc5 b with
  | false =>
   simp only [cond_false,Bool.false_eq_true,if_false]
   unfold qn1 qsq or2
   simp
  | true =>
   simp only [cond_false,cond_true,Bool.false_eq_true,if_false,if_true]
   unfold qn1 qsq or2
   simp
 | true=>cases qc5 b with
  | false =>
   simp only [cond_false,cond_true,Bool.false_eq_true,if_false,if_true]
   unfold qn1 qsq or2
   simp
  | true =>
   simp only [cond_true,if_true]
   rw [qns n _ (by simp) (by simp;omega)]
   simp only [Option.bind_some,q71]
   unfold qn1
   have e0:qsq (0:Int) 0=0:=by decide
   dsimp only
   rw [e0]
   unfold or2
   simp only [if_true]
   split
   ·split<;>simp_all
   ·rfl
theorem qf0 (n:Nat) (l1 l2:List (Yy)) (h1:l1.length<=1000000) (h2:l2.length<=1000000) (hw : ∀w,w∈l1\/w∈l2->w.length<=1000000/\w.length<n) (hn:3<=n) : ∀m j:Nat,j<=l1.length->j<=l2.length->l1.length - j<m ->
  ((q4l n m l1 l2 l1 ((l1.length:Nat):Int) (j:Int)).bind fun (o5:((Int×(Unit))×(Unit)×(Unit))⊕(((List (Yy))×((List (Yy))×(Unit)))×(Unit)×(Unit)))=>Sum.elim (fun (q6:(Int×(Unit))×(Unit)×(Unit))=>some q6.1.1) (fun (q7:((List (Yy))×((List (Yy))×(Unit)))×(Unit)×(Unit))=>(bif decide (((List.length q7.1.1:Nat):Int)<((List.length q7.1.2.1:Nat):Int)) then some (-1:Int) else some (0:Int))) o5)=some (cmpL jm9 (l1.drop j) (l2.drop j))
 | 0,j,_,_,h=>absurd h (Nat.not_lt_zero _)
 | m+1,j,hj,hj2,h=>by
  rw [qcv]
  unfold qe7
  by_cases c0:j<l1.length
  ·have c0':((j:Nat):Int)<((l1.length:Nat):Int):=by omega
   have hd:l1.drop j=l1[j]::l1.drop (j+1):=(List.drop_eq_getElem_cons c0)
   by_cases c1:j<l2.length
   ·have c1' : ¬ ((l2.length:Nat):Int)<=((j:Nat):Int):=by omega
    have hd2:l2.drop j=l2[j]::l2.drop (j+1):=(List.drop_eq_getElem_cons c1)
    have ih:=qf0 n l1 l2 h1 h2 hw hn m (j+1) (by omega) (by omega) (by omega)
    have k1:=hw l1[j] (Or.inl (List.getElem_mem c0))
    have k2:=hw l2[j] (Or.inr (List.getElem_mem c1))
    have hp:=j75 n l1[j] l2[j] k1.1 k2.1 ⟨k1.2,k2.2,hn⟩
    rw [hd,hd2,cmpL]
    simp only [c0',decide_true,cond_true,q37 c0,Option.bind_some,c1',decide_false,cond_false,q37 c1,hp,q0h,q1f (show j<4611686018427387904 by omega)]
    unfold or2
    by_cases h0:jm9 l1[j] l2[j]=0
    ·simp only [h0,decide_true,Bool.not_true,cond_false,if_true]
     exact ih
    ·simp only [h0,decide_false,Bool.not_false,cond_true,if_false,Option.bind_some,Sum.elim_inl]
   ·have c1':((l2.length:Nat):Int)<=((j:Nat):Int):=by omega
    have hd2:l2.drop j = []:=List.drop_eq_nil_of_le (by omega)
    rw [hd,hd2,cmpL]
    simp only [c0',decide_true,cond_true,q37 c0,Option.bind_some,c1',Sum.elim_inl]
  ·have c0' : ¬ ((j:Nat):Int)<((l1.length:Nat):Int):=by omega
   have hd:l1.drop j = []:=List.drop_eq_nil_of_le (by omega)
   simp only [c0',decide_false,cond_false,Option.bind_some,Sum.elim_inr]
   have hje:j=l1.length:=by omega
   rw [hd]
   by_cases c1:j<l2.length
   ·have hd2:l2.drop j=l2[j]::l2.drop (j+1):=(List.drop_eq_getElem_cons c1)
    have c2:((l1.length:Nat):Int)<((l2.length:Nat):Int):=by omega
    rw [hd2]
    simp only [c2,decide_true,cond_true,cmpL]
   ·have hd2:l2.drop j = []:=List.drop_eq_nil_of_le (by omega)
    have c2 : ¬ ((l1.length:Nat):Int)<((l2.length:Nat):Int):=by omega
    rw [hd2]
    simp only [c2,decide_false,cond_false,cmpL]
theorem qst (n:Nat) (l1 l2:List (Yy)) (h1:l1.length<=1000000) (h2:l2.length<=1000000) (hw : ∀w,w∈l1\/w∈l2->w.length<=1000000/\w.length<n) (hn:3<=n) (hn2:l1.length<n):ql6 n l1 l2 ()=some (cmpL jm9 l1 l2):=by
 have:=qf0 n l1 l2 h1 h2 hw hn n 0 (Nat.zero_le _) (Nat.zero_le _) (by omega)
 rw [List.drop_zero,List.drop_zero] at this
 exact this
theorem jax (n:Nat) (a b:Yy) (ha:a.length<=100000) (hb:b.length<=100000) (hn:a.length+3<n/\b.length+3<n):j49 n a b=some (qom a b):=by
 unfold j49
 by_cases hab:a=b
 ·subst hab
  rw [j7o.refl]
  simp
 ·simp only [hab,decide_false,cond_false]
  by_cases h1:a = []
  ·have hb0:b ≠ []:=fun e=>hab (by rw [h1,e])
   simp only [h1,decide_true,cond_true]
   unfold qom qn1 jjp qsq or2
   simp [hb0]
  ·simp only [h1,decide_false,cond_false]
   by_cases h2:b = []
   ·simp only [h2,decide_true,cond_true]
    unfold qom qn1 jjp qsq or2
    simp [h1]
   ·simp only [h2,decide_false,cond_false]
    have s1:q7h a [46]=some (spl 46 [] a):=if_pos (by omega)
    have s2:q7h b [46]=some (spl 46 [] b):=if_pos (by omega)
    have k1:=qem 46 a []
    have k2:=qem 46 b []
    rw [s1,s2]
    simp only [Option.bind_some]
    rw [qst n _ _ (by omega) (by omega) (fun w hw=>by
     rcases hw with hw|hw
     ·have:=qk3 46 a [] w hw;simp at this;omega
     ·have:=qk3 46 b [] w hw;simp at this;omega) (by omega) (by omega)]
    unfold qom jjp
    simp only [h1,h2,if_false]
    unfold qn1
    have e0:qsq (0:Int) 0=0:=by decide
    dsimp only
    rw [e0]
    unfold or2
    simp
theorem qqc (n:Nat) (a b:VD) (hn:100<=n):q9c n a b=some (jjl a b):=by
 unfold q9c jjl
 rw [q3l n a (by omega),q3l n b (by omega)]
 cases hca:q1g a with
 | false=>rfl
 | true=>cases hcb:q1g b with
  | false=>rfl
  | true =>
   obtain ⟨-,-,-,h4,-⟩:=q2t hca
   obtain ⟨-,-,-,k4,-⟩:=q2t hcb
   have t1:=q9o h4
   have t2:=q9o k4
   simp only [Option.bind_some,Bool.not_true,cond_false,qm5]
   rw [jax n _ _ (by omega) (by omega) ⟨by omega,by omega⟩]
   simp only [Option.bind_some]
   rw [qns n _ (by simp) (by simp;omega)]
   simp only [Option.bind_some,q71,Bool.and_self,if_true]
   have z0 : ∀x:Int,or2 x 0=x:=fun x=>by unfold or2;split<;>simp_all
   rw [z0]
   rfl
end Go.Proofs.YtapfankgdkdkgaaGreatDoor.AM
namespace Go.Proofs.YtapfankgdkdkgaaGreatDoor.AM
open Go.RowKit
def WB (ws:List Lx.Wd):Prop:=ws.length<=100001/\∀w∈ws,w.1.length<=100001/\0<=w.2/\w.2<=100001
theorem qow (n:Nat) (w:Lx.Wd):qm1 n w=some (q6o w.1):=by
 unfold qm1 q6o
 by_cases h1:w.1 = [61,62]
 ·simp [h1]
 by_cases h2:w.1 = [91]
 ·simp [h2]
 by_cases h3:w.1 = [44]
 ·simp [h3]
 by_cases h4:w.1 = [93]
 ·simp [h4]
 by_cases h5:w.1 = [40]
 ·simp [h5]
 by_cases h6:w.1 = [41]
 ·simp [h6]
 simp only [h1,h2,h3,h4,h5,h6,decide_false,cond_false,Bool.or_false,Bool.false_or]
theorem qfi (c:UInt8) (B:Nat) : ∀r:List (Yy),(∀x∈r,x.length<=B)->(Lib.joinTail [c] r).length<=r.length*(B+1)
 | [],_=>by simp [Lib.joinTail]
 | x::r,h=>by
  have h1:=qfi c B r (fun y hy=>h y (List.mem_cons_of_mem _ hy))
  have h2:=h x (List.mem_cons_self ..)
  show ([c]++x++Lib.joinTail [c] r).length<=_
  simp only [List.length_append,List.length_cons,List.length_nil]
  rw [Nat.succ_mul]
  omega
theorem jej (c:UInt8) (B:Nat) (r:List (Yy)) (h : ∀x∈r,x.length<=B):(Lib.join r [c]).length<=r.length*(B+1):=by
 cases r with
 | nil=>simp [Lib.join_nil]
 | cons x r =>
  rw [Lib.join_cons]
  have h1:=qfi c B r (fun y hy=>h y (List.mem_cons_of_mem _ hy))
  have h2:=h x (List.mem_cons_self ..)
  simp only [List.length_append,List.length_cons]
  rw [Nat.succ_mul]
  omega
theorem jlx (w:Lx.Wd) (h:w.1.length<=100001):(qba w).length<=100001:=by
 unfold qba;split
 ·exact h
 ·simp
theorem joh {xs:List (Yy)} {c:UInt8} (hl:xs.length<=200000) (hx : ∀x∈xs,x.length<=200000):qjj xs [c]=some (Lib.join xs [c]):=by
 unfold qjj
 have:=jej c 200000 xs hx
 rw [if_pos ⟨by omega,by
  have:xs.length*(200000+1)<=200000*200001:=Nat.mul_le_mul_right _ hl
  omega⟩]
theorem qax (n:Nat) (ws:List Lx.Wd) (hw:ws.length<=100001) : ∀(m j:Nat) (out:List (Yy)),j<=ws.length->ws.length - j<m->out.length=j ->
  q5s n m ws ((ws.length:Nat):Int) (j:Int) out=some (((),()),((),(out++(ws.drop j).map qba,())))
 | 0,j,_,_,h,_=>absurd h (Nat.not_lt_zero _)
 | m+1,j,out,hj,h,ho=>by
  rw [qec]
  unfold qhx
  by_cases c0:j<ws.length
  ·have c0':((j:Nat):Int)<((ws.length:Nat):Int):=by omega
   have e1:out++(ws.drop j).map qba=(out ++ [qba ws[j]])++(ws.drop (j+1)).map qba:=by
    rw [List.drop_eq_getElem_cons c0];simp only [List.map_cons,List.append_assoc,List.cons_append,List.nil_append]
   simp only [c0',decide_true,cond_true,q37 c0,Option.bind_some,qow,q0h,q1f (show j<4611686018427387904 by omega)]
   rw [e1]
   cases hk:q6o ws[j].1 with
   | true =>
    have a1:q7g 16 out [ws[j].1]=some (out ++ [ws[j].1]):=qao (by simp;omega)
    simp only [cond_true,a1,Option.bind_some]
    rw [qax n ws hw m (j+1) _ (by omega) (by omega) (by simp;omega)]
    simp only [qba,hk,if_true]
   | false =>
    have a1:q7g 16 out [([120]:Yy)]=some (out ++ [[120]]):=qao (by simp;omega)
    simp only [cond_false,a1,Option.bind_some]
    rw [qax n ws hw m (j+1) _ (by omega) (by omega) (by simp;omega)]
    simp only [qba,hk,Bool.false_eq_true,if_false]
  ·have c0' : ¬ ((j:Nat):Int)<((ws.length:Nat):Int):=by omega
   simp only [c0',decide_false,cond_false]
   rw [List.drop_eq_nil_of_le (by omega)]
   simp
theorem qb9 (n:Nat) (ws:List Lx.Wd) (hw:WB ws) (hn:ws.length<n):q7u n ws=some (shp ws):=by
 unfold q7u
 have h:=qax n ws hw.1 n 0 [] (Nat.zero_le _) (by omega) rfl
 rw [show ((0:Nat):Int)=(0:Int) from rfl] at h
 rw [h]
 have hj:qjj (ws.map qba) [32]=some (shp ws):=joh (by rw [List.length_map];have:=hw.1;omega) (fun x hx=>by
  obtain ⟨w,hw1,rfl⟩:=List.mem_map.1 hx
  have:=jlx w (hw.2 w hw1).1;omega)
 simp only [Option.bind_some,List.nil_append,List.drop_zero,hj]
theorem qjd (n:Nat) (l:List (Yy)) (x:Yy) (hl:l.length<=1000000) : ∀(m j:Nat),j<=l.length->l.length - j<m ->
  ∃ k:Int,(q61 n m l x ((l.length:Nat):Int) (j:Int)).bind (fun o3=>Sum.elim (fun q4=>some q4.1.1) (fun q5=>some (-1:Int)) o3)=some k/\(0<=k↔x∈l.drop j)
 | 0,j,_,h=>absurd h (Nat.not_lt_zero _)
 | m+1,j,hj,h=>by
  rw [qeq]
  unfold qkc
  by_cases c0:j<l.length
  ·have c0':((j:Nat):Int)<((l.length:Nat):Int):=by omega
   simp only [c0',decide_true,cond_true,q37 c0,Option.bind_some]
   rw [List.drop_eq_getElem_cons c0]
   by_cases hx:x=l[j]
   ·exact ⟨(j:Int),by simp only [hx,decide_true,cond_true,Option.bind_some,Sum.elim_inl],⟨fun _=>by rw [hx];exact List.mem_cons_self ..,fun _=>by omega⟩⟩
   ·simp only [hx,decide_false,cond_false,q0h,q1f (show j<4611686018427387904 by omega)]
    obtain ⟨k,h1,h2⟩:=qjd n l x hl m (j+1) (by omega) (by omega)
    exact ⟨k,h1,by rw [h2,List.mem_cons];simp [hx]⟩
  ·have c0' : ¬ ((j:Nat):Int)<((l.length:Nat):Int):=by omega
   refine ⟨-1,by simp only [c0',decide_false,cond_false,Option.bind_some,Sum.elim_inr],?_⟩
   rw [List.drop_eq_nil_of_le (by omega)]
   simp
theorem q1j (n:Nat) (l:List (Yy)) (x:Yy) (hl:l.length<=1000000) (hn:l.length<n):q56 n l x=some (decide (x∈l)):=by
 unfold q56 qrw
 obtain ⟨k,h,h2⟩:=qjd n l x hl n 0 (Nat.zero_le _) (by omega)
 rw [show ((0:Nat):Int)=(0:Int) from rfl] at h
 rw [List.drop_zero] at h2
 rw [h]
 simp only [Option.bind_some]
 congr 1
 by_cases hm:x∈l
 ·rw [decide_eq_true hm,decide_eq_true (h2.2 hm)]
 ·rw [decide_eq_false hm,decide_eq_false (fun h=>hm (h2.1 h))]
theorem qkp (n:Nat) (ws:List Lx.Wd) (hw:ws.length<=100001) : ∀(m j:Nat) (out:List Lx.Wd),j<=ws.length->ws.length - j<m->out.length<=j ->
  q9p n m ws ((ws.length:Nat):Int) (j:Int) out=some (((),()),((),(out++unm (ws.drop j),())))
 | 0,j,_,_,h,_=>absurd h (Nat.not_lt_zero _)
 | m+1,j,out,hj,h,ho=>by
  rw [qk6]
  unfold qzl
  by_cases c0:j<ws.length
  ·have c0':((j:Nat):Int)<((ws.length:Nat):Int):=by omega
   simp only [c0',decide_true,cond_true,q37 c0,Option.bind_some,qow,q0h,q1f (show j<4611686018427387904 by omega)]
   rw [List.drop_eq_getElem_cons c0,unm,List.filter_cons]
   cases hk:q6o ws[j].1 with
   | true =>
    simp only [Bool.not_true,cond_false,Bool.false_eq_true,if_false]
    rw [qkp n ws hw m (j+1) _ (by omega) (by omega) (by omega)];rfl
   | false =>
    have a1:q7g 24 out [ws[j]]=some (out ++ [ws[j]]):=qao (by simp;omega)
    simp only [Bool.not_false,cond_true,a1,Option.bind_some,if_true]
    rw [qkp n ws hw m (j+1) _ (by omega) (by omega) (by simp;omega)]
    simp [unm]
  ·have c0' : ¬ ((j:Nat):Int)<((ws.length:Nat):Int):=by omega
   simp only [c0',decide_false,cond_false]
   rw [List.drop_eq_nil_of_le (by omega)]
   simp [unm]
theorem jer (n:Nat) (ws:List Lx.Wd) (hw:ws.length<=100001) (hn:ws.length<n):qx9 n ws=some (unm ws):=by
 unfold qx9
 have h:=qkp n ws hw n 0 [] (Nat.zero_le _) (by omega) (Nat.le_refl _)
 rw [show ((0:Nat):Int)=(0:Int) from rfl] at h
 rw [h];simp
theorem jm1 (c:UInt8):q29 c=(!decide (((c.toNat:Nat):Int)<48) && !decide ((57:Int)<((c.toNat:Nat):Int))):=by
 unfold q29
 by_cases h1:48<=c.toNat<;>by_cases h2:c.toNat<=57<;>simp [h1,h2]<;>omega
theorem qks (n:Nat) (s:Yy) (hL:s.length<=1000000) : ∀m j:Nat,j<=s.length->s.length - j<m->q5u n m s ((s.length:Nat):Int) (j:Int)=some (if (s.drop j).all q29=true then Sum.inr ((s,()),((),())) else Sum.inl ((false,()),((),())))
 | 0,j,_,h=>absurd h (Nat.not_lt_zero _)
 | m+1,j,hj,h=>by
  rw [qej]
  unfold qhl
  by_cases c0:j<s.length
  ·have c0':((j:Nat):Int)<((s.length:Nat):Int):=by omega
   rw [List.drop_eq_getElem_cons c0,List.all_cons,jm1 s[j]]
   simp only [c0',decide_true,cond_true,qcn c0,Option.bind_some,q0h,q1f (show j<4611686018427387904 by omega)]
   by_cases h1:((s[j].toNat:Nat):Int)<48
   ·simp [h1]
   ·by_cases h2:(57:Int)<((s[j].toNat:Nat):Int)
    ·simp [h1,h2]
    ·simp only [h1,h2,decide_false,cond_false,Bool.not_false,Bool.true_and]
     exact qks n s hL m (j+1) (by omega) (by omega)
  ·have c0' : ¬ ((j:Nat):Int)<((s.length:Nat):Int):=by omega
   simp only [c0',decide_false,cond_false]
   rw [List.drop_eq_nil_of_le (by omega)]
   simp
theorem c48 (c:UInt8):decide (((c.toNat:Nat):Int)=48)=decide (c=48):=by
 by_cases h:c=48
 ·subst h;rfl
 ·have h2 : ¬ ((c.toNat:Nat):Int)=48:=fun h'=>by
   have h3:c.toNat=48:=by omega
   exact h (UInt8.toNat_inj.1 (h3.trans rfl))
  rw [decide_eq_false h,decide_eq_false h2]
theorem ql3 (n:Nat) (s:Yy) (hL:s.length<=1000000) (hn:s.length<n):qbo n s=some (qdb s):=by
 unfold qbo
 have h:=qks n s hL n 0 (Nat.zero_le _) (by omega)
 rw [show ((0:Nat):Int)=(0:Int) from rfl,List.drop_zero] at h
 rw [h]
 unfold qdb
 cases s.all q29 with
 | false=>simp
 | true =>
  simp only [if_true,Option.bind_some,Sum.elim_inr,Bool.true_and]
  by_cases h1:1<=s.length
  ·have h1':(1:Int)<=((s.length:Nat):Int):=by omega
   by_cases h2:s.length<=9
   ·have h2':((s.length:Nat):Int)<=9:=by omega
    simp only [h1',h2',h1,h2,decide_true,cond_true,Bool.true_and]
    by_cases h3:s = [48]
    ·simp [h3]
    ·cases s with
     | nil=>simp at h1
     | cons c r =>
      have:=qcn (s:=c::r) (j:=0) (by simp)
      rw [show ((0:Nat):Int)=(0:Int) from rfl] at this
      simp only [h3,decide_false,cond_false,this,Option.bind_some,Bool.false_or,List.getElem_cons_zero,List.head?_cons,Option.some.injEq]
      rw [c48]
   ·have h2' : ¬ ((s.length:Nat):Int)<=9:=by omega
    simp only [h1',h2',h1,h2,decide_true,decide_false,cond_true,cond_false,Bool.true_and,Bool.false_and]
  ·have h1' : ¬ (1:Int)<=((s.length:Nat):Int):=by omega
   simp only [h1',h1,decide_false,cond_false,Bool.false_and]
theorem quu (n:Nat) (s:Yy) (hL:s.length<=1000000) (hn:s.length<n):qbn n s=some (qg6 s):=by
 unfold qbn qg6
 obtain ⟨b,hb⟩:=qcj n 46 s hL
 have l1:=qc1 46 s
 have l2:=qgw 46 s
 simp only [hb,Option.bind_some,ql3 n (q2j 46 s) (by omega) (by omega),ql3 n (qaa 46 s) (by omega) (by omega)]
 cases qdb (q2j 46 s)<;>simp
def errT (e:Int):IV:=qh2 126 (.agg ⟨[.int .i64 e]⟩)
def q0:Rq:=([],v0)
theorem qwa (n:Nat) (w x:Lx.Wd) (r:List Lx.Wd) (hw:w.1.length<=1000000) (hx:x.1.length<=1000000) (hn:w.1.length<n) (h4:4<=n):qvl n (w::x::r)=some (match qmo w.1 x.1 with | .inl e=>(q0,errT e) | .inr q=>(q,q87)):=by
 unfold qvl qmo
 have i0:q2g (w::x::r) (0:Int)=some w:=q37 (l:=w::x::r) (j:=0) (by simp)
 have i1:q2g (w::x::r) (1:Int)=some x:=q37 (l:=w::x::r) (j:=1) (by simp)
 simp only [i0,i1,Option.bind_some,qas n x.1 hx h4,q7q n w.1 hw hn]
 cases h1:okS w.1 with
 | false=>rfl
 | true =>
  cases h2:(q0r x.1).2 with
  | false=>simp [q0,v0,errT]
  | true =>
   simp only [Bool.not_true,cond_false,qpn n w.1 (q0r x.1).1 hw hn h4,Option.bind_some,Bool.true_eq_false,if_false]
   cases h3:q3m w.1 (q0r x.1).1 with
   | false=>simp [q0,v0,errT]
   | true=>simp
abbrev VB:=List (Yy×(List Yy×(Bool×IV)))
def pk (σ:MS) (ln st:Int) (vb:VB):(Zm×(VB×(jip×Unit)))×(List Rq×(List Sw×(List Rq×(List Sp×Unit)))) :=
 (((σ.mo,(σ.go,((),((),((),((),(ln,(st,(σ.bk,((),())))))))))),(vb,(σ.sd,()))),(σ.rq,(σ.sw,(σ.ex,(σ.rt,())))))
abbrev PK:=(Zm×(VB×(jip×Unit)))×(List Rq×(List Sw×(List Rq×(List Sp×Unit))))
def Tl (x:Option (IV×PK)) (r:Int⊕MS) (ln st:Int) (vb:VB):Prop:=match r with
 | .inr σ'=>x=some (q87,pk σ' ln st vb)
 | .inl e=>∃ y,x=some (errT e,y)
theorem Tl.bind {x:Option (IV×PK)} {r:Int⊕MS} {ln st:Int} {vb:VB} (h:Tl x r ln st vb) {f:IV×PK->Option (IV×PK)} (h1 : ∀σ',f (q87,pk σ' ln st vb)=some (q87,pk σ' ln st vb)) (h2 : ∀e y,∃ y',f (errT e,y)=some (errT e,y')):Tl (x.bind f) r ln st vb:=by
 cases r with
 | inr σ' =>
  have h':x=some (q87,pk σ' ln st vb):=h
  show x.bind f=_
  rw [h'];exact h1 σ'
 | inl e =>
  obtain ⟨y,hy⟩ : ∃ y,x=some (errT e,y):=h
  obtain ⟨y',hy'⟩:=h2 e y
  exact ⟨y',by rw [hy];exact hy'⟩
theorem q46 (n:Nat) (σ:MS) (c:Cl) (w:Lx.Wd) (ln st:Int) (vb:VB) (hs:0<=st/\st<=1000000) (hw:w.1.length<=100001/\0<=w.2/\w.2<=100001) :
  Tl (q40 n () c w σ.mo σ.go ln st σ.bk vb σ.sd σ.rq σ.sw σ.ex σ.rt) (q11 σ c st w) ln st vb:=by
 unfold q40 q11
 have e1:IntKind.wrap .i64 (st+w.2)=st+w.2:=wrap64 (by omega) (by omega)
 have e2:IntKind.wrap .i64 (st+w.2+((w.1.length:Nat):Int))=st+w.2+((w.1.length:Nat):Int):=wrap64 (by omega) (by omega)
 cases hm:q02 clT c σ.sd with
 | some v =>
  simp only [Option.isSome_some,if_true]
  exact ⟨_,by simp only [j7e,hm,Option.isSome_some,cond_true];rfl⟩
 | none =>
  simp only [Option.isSome_none,Bool.false_eq_true,if_false]
  show _=some (q87,pk _ ln st vb)
  simp only [j7e,hm,Option.isSome_none,cond_false,q0h,e1,e2]
  rfl
end Go.Proofs.YtapfankgdkdkgaaGreatDoor.AM
namespace Go.Proofs.YtapfankgdkdkgaaGreatDoor.AM
open Go.RowKit
def SB (k:Nat) (σ:MS):Prop:=σ.rq.length<=k/\σ.sw.length<=k/\σ.ex.length<=k/\σ.rt.length<=k
def StB (st:Int):Prop:=0<=st/\st<=1000000
theorem WB.head {w:Lx.Wd} {r:List Lx.Wd} (h:WB (w::r)):w.1.length<=100001/\0<=w.2/\w.2<=100001:=h.2 w (List.mem_cons_self ..)
theorem WB.tail {w:Lx.Wd} {r:List Lx.Wd} (h:WB (w::r)):WB r:=⟨by have:=h.1;simp at this;omega,fun x hx=>h.2 x (List.mem_cons_of_mem _ hx)⟩
theorem jqa {β:Type} (x:β) (r:List β):q2g (x::r) (0:Int)=some x:=q37 (l:=x::r) (j:=0) (by simp)
theorem idx1 {β:Type} (x y:β) (r:List β):q2g (x::y::r) (1:Int)=some y:=q37 (l:=x::y::r) (j:=1) (by simp)
theorem qql (n:Nat) (σ:MS) (w:Lx.Wd) (r:List Lx.Wd) (ln st:Int) (vb:VB) (hs:StB st) (hw:WB (w::r)) (hn:200000<n) :
  Tl (q99 n () (w::r) σ.mo σ.go ln st σ.bk vb σ.sd σ.rq σ.sw σ.ex σ.rt) (qft σ st qih (w::r)) ln st vb:=by
 have hw0:=hw.head
 unfold q99
 rw [show qft σ st qih (w::r)=(if okS w.1=false then .inl 6 else q11 { σ with mo:=w.1 } (qih,([],v0)) st w) from rfl]
 simp only [jqa,Option.bind_some,q7q n w.1 (by omega) (by omega)]
 cases okS w.1 with
 | false=>exact ⟨_,rfl⟩
 | true =>
  simp only [Bool.not_true,cond_false,Bool.true_eq_false,if_false]
  exact (q46 n { σ with mo:=w.1 } (qih,([],v0)) w ln st vb hs hw0).bind (fun σ'=>rfl) (fun e y=>⟨_,rfl⟩)
theorem qj2 (n:Nat) (σ:MS) (w:Lx.Wd) (r:List Lx.Wd) (ln st:Int) (vb:VB) (hs:StB st) (hw:WB (w::r)) (hn:200000<n) :
  Tl (q64 n () (w::r) σ.mo σ.go ln st σ.bk vb σ.sd σ.rq σ.sw σ.ex σ.rt) (qft σ st kGo (w::r)) ln st vb:=by
 have hw0:=hw.head
 unfold q64
 rw [show qft σ st kGo (w::r)=(if qg6 w.1=false then .inl 7 else q11 { σ with go:=w.1 } (kGo,([],v0)) st w) from rfl]
 simp only [jqa,Option.bind_some,quu n w.1 (by omega) (by omega)]
 cases qg6 w.1 with
 | false=>exact ⟨_,rfl⟩
 | true =>
  simp only [Bool.not_true,cond_false,Bool.true_eq_false,if_false]
  exact (q46 n { σ with go:=w.1 } (kGo,([],v0)) w ln st vb hs hw0).bind (fun σ'=>rfl) (fun e y=>⟨_,rfl⟩)
theorem j3u (e:Int):q3j (Subtype.val (errT e))=some false:=rfl
theorem q86:q3j (Subtype.val q87)=some true:=rfl
theorem qnc (n:Nat) (σ:MS) (w x:Lx.Wd) (r:List Lx.Wd) (ln st:Int) (vb:VB) (hs:StB st) (hw:WB (w::x::r)) (hb:SB 200000 σ) (hn:200000<n) :
  Tl (q7x n () (w::x::r) σ.mo σ.go ln st σ.bk vb σ.sd σ.rq σ.sw σ.ex σ.rt) (qft σ st q0z (w::x::r)) ln st vb:=by
 have hw0:=hw.head
 have hx0:=hw.tail.head
 unfold q7x
 rw [show qft σ st q0z (w::x::r)=(match qmo w.1 x.1 with
   | .inl e=>.inl e
   | .inr q=>q11 { σ with rq:=σ.rq ++ [q] } (q0z,(q.1,v0)) st x) from rfl]
 simp only [qwa n w x r (by omega) (by omega) (by omega) (by omega),Option.bind_some]
 cases qmo w.1 x.1 with
 | inl e=>exact ⟨_,by simp only [j3u,Option.bind_some,Bool.not_false,cond_true];rfl⟩
 | inr q =>
  have a1:q7g 72 σ.rq [q]=some (σ.rq ++ [q]):=qao (by have:=hb.1;simp;omega)
  simp only [q86,Option.bind_some,Bool.not_true,cond_false,a1,idx1]
  exact (q46 n { σ with rq:=σ.rq ++ [q] } (q0z,(q.1,v0)) x ln st vb hs hx0).bind (fun σ'=>rfl) (fun e y=>⟨_,rfl⟩)
theorem qmt (n:Nat) (σ:MS) (w x:Lx.Wd) (r:List Lx.Wd) (ln st:Int) (vb:VB) (hs:StB st) (hw:WB (w::x::r)) (hb:SB 200000 σ) (hn:200000<n) :
  Tl (q7i n () (w::x::r) σ.mo σ.go ln st σ.bk vb σ.sd σ.rq σ.sw σ.ex σ.rt) (qft σ st qga (w::x::r)) ln st vb:=by
 have hw0:=hw.head
 have hx0:=hw.tail.head
 unfold q7i
 rw [show qft σ st qga (w::x::r)=(match qmo w.1 x.1 with
   | .inl e=>.inl e
   | .inr q=>q11 { σ with ex:=σ.ex ++ [q] } (qga,(q.1,q.2)) st x) from rfl]
 simp only [qwa n w x r (by omega) (by omega) (by omega) (by omega),Option.bind_some]
 cases qmo w.1 x.1 with
 | inl e=>exact ⟨_,by simp only [j3u,Option.bind_some,Bool.not_false,cond_true];rfl⟩
 | inr q =>
  have a1:q7g 72 σ.ex [q]=some (σ.ex ++ [q]):=qao (by have:=hb.2.2.1;simp;omega)
  simp only [q86,Option.bind_some,Bool.not_true,cond_false,a1,idx1]
  exact (q46 n { σ with ex:=σ.ex ++ [q] } (qga,(q.1,q.2)) x ln st vb hs hx0).bind (fun σ'=>rfl) (fun e y=>⟨_,rfl⟩)
theorem qna (n:Nat) (σ:MS) (w x:Lx.Wd) (r:List Lx.Wd) (ln st:Int) (vb:VB) (hs:StB st) (hw:WB (w::x::r)) (hb:SB 200000 σ) (hn:200000<n) :
  Tl (q7b n () (w::x::r) σ.mo σ.go ln st σ.bk vb σ.sd σ.rq σ.sw σ.ex σ.rt) (qft σ st qg2 (w::x::r)) ln st vb:=by
 have hw0:=hw.head
 have hx0:=hw.tail.head
 unfold q7b
 rw [show qft σ st qg2 (w::x::r)=(if okS w.1=false then .inl 6 else if q5b x.1=false then .inl 6 else q11 { σ with sw:=σ.sw ++ [(w.1,x.1)] } (qg2,(w.1,v0)) st x) from rfl]
 simp only [jqa,idx1,Option.bind_some,q7q n w.1 (by omega) (by omega),qi0]
 cases okS w.1 with
 | false=>exact ⟨_,rfl⟩
 | true =>
  simp only [Bool.not_true,cond_false,Bool.true_eq_false,if_false]
  cases q5b x.1 with
  | false=>exact ⟨_,rfl⟩
  | true =>
   have a1:q7g 32 σ.sw [(w.1,x.1)]=some (σ.sw ++ [(w.1,x.1)]):=qao (by have:=hb.2.1;simp;omega)
   simp only [Bool.not_true,cond_false,Bool.true_eq_false,if_false,a1,Option.bind_some]
   exact (q46 n { σ with sw:=σ.sw ++ [(w.1,x.1)] } (qg2,(w.1,v0)) x ln st vb hs hx0).bind (fun σ'=>rfl) (fun e y=>⟨_,rfl⟩)
theorem qn8 (n:Nat) (σ:MS) (w:Lx.Wd) (r:List Lx.Wd) (ln st:Int) (vb:VB) (hs:StB st) (hw:WB (w::r)) (hb:SB 200000 σ) (hn:200000<n) :
  Tl (q6y n () (w::r) σ.mo σ.go ln st σ.bk vb σ.sd σ.rq σ.sw σ.ex σ.rt) (qft σ st jeb (w::r)) ln st vb:=by
 have hw0:=hw.head
 have hw1:=hw.1
 obtain ⟨y,hy,hyi⟩ : ∃ y,r.getLast?.getD w=y/\q2g (w::r) (((w::r).length:Int) - 1)=some y:=by
  refine ⟨_,rfl,?_⟩
  have e0:(((w::r).length:Int) - 1)=((r.length:Nat):Int):=by simp
  rw [e0,q37 (l:=w::r) (j:=r.length) (by simp)]
  congr 1
  cases r with
  | nil=>rfl
  | cons a r=>rw [List.getLast?_eq_some_getLast (List.cons_ne_nil _ _),Option.getD_some,List.getLast_eq_getElem];simp
 have hyB:y.1.length<=100001:=by
  have hm:y∈w::r:=by
   rw [<-hy]
   cases r with
   | nil=>exact List.mem_cons_self ..
   | cons a r=>rw [List.getLast?_eq_some_getLast (List.cons_ne_nil _ _),Option.getD_some];exact List.mem_cons_of_mem _ (List.getLast_mem _)
  exact (hw.2 y hm).1
 unfold q6y
 rw [show qft σ st jeb (w::r)=(if (q0r w.1).2=false then .inl 7 else if (q0r ((r.getLast?.getD w).1)).2=false then .inl 7
  else if 0<jjl (q0r w.1).1 (q0r ((r.getLast?.getD w).1)).1 then .inl 7 else .inr { σ with rt:=σ.rt ++ [jj8 (q0r w.1).1 (q0r ((r.getLast?.getD w).1)).1] }) from rfl,hy]
 have e1:IntKind.wrap .i64 (((w::r).length:Int) - 1)=((w::r).length:Int) - 1:=wrap64 (by simp only [List.length_cons] at hw1 ⊢;omega) (by simp only [List.length_cons] at hw1 ⊢;omega)
 simp only [jqa,Option.bind_some,qas n w.1 (by omega) (by omega),q0h,e1,hyi,qas n y.1 (by omega) (by omega),qqc n _ _ (show 100<=n by omega)]
 cases (q0r w.1).2 with
 | false=>exact ⟨_,rfl⟩
 | true =>
  simp only [Bool.not_true,cond_false,Bool.true_eq_false,if_false]
  cases (q0r y.1).2 with
  | false=>exact ⟨_,rfl⟩
  | true =>
   simp only [Bool.not_true,cond_false,Bool.true_eq_false,if_false]
   by_cases hc:0<jjl (q0r w.1).1 (q0r y.1).1
   ·simp only [hc,decide_true,cond_true,if_true]
    exact ⟨_,rfl⟩
   ·have a1:q7g 112 σ.rt [jj8 (q0r w.1).1 (q0r y.1).1]=some (σ.rt ++ [jj8 (q0r w.1).1 (q0r y.1).1]):=qao (by have:=hb.2.2.2;simp;omega)
    unfold jj8 at a1
    simp only [hc,decide_false,cond_false,if_false,a1,Option.bind_some]
    rfl
end Go.Proofs.YtapfankgdkdkgaaGreatDoor.AM
namespace Go.Proofs.YtapfankgdkdkgaaGreatDoor.AM
open Go.RowKit
theorem qpq (c:UInt8) : ∀(r:List (Yy)) (x:Yy),c ∉ x->(∀y∈r,c ∉ y)->spl c [] (x++Lib.joinTail [c] r)=x::r
 | [],x,hx,_=>by
  show spl c [] (x ++ [])=_
  rw [qd2 c x [] [] hx];simp [spl]
 | y::r,x,hx,h=>by
  have e:Lib.joinTail [c] (y::r)=c::(y++Lib.joinTail [c] r):=by simp [Lib.joinTail]
  rw [e,qd2 c x [] _ hx,List.nil_append,spl,if_pos rfl,qpq c r y (h y (List.mem_cons_self ..)) (fun z hz=>h z (List.mem_cons_of_mem _ hz))]
theorem q9z {t:Yy} (h:q6o t=true):t = [61,62]\/t = [91]\/t = [44]\/t = [93]\/t = [40]\/t = [41]:=by
 simpa [q6o] using h
theorem jo6 (w:Lx.Wd):(32:UInt8) ∉ qba w:=by
 unfold qba
 split
 ·rename_i h
  rcases q9z h with h|h|h|h|h|h<;>rw [h]<;>decide
 ·decide
theorem j8k {ws:List Lx.Wd} {S:Yy} (h:shp ws=S) (hS:S ≠ []):ws.map qba=spl 32 [] S:=by
 cases ws with
 | nil=>exact absurd h.symm hS
 | cons w ws =>
  rw [<-h]
  show _=spl 32 [] (Lib.join (qba w::ws.map qba) [32])
  rw [Lib.join_cons,qpq 32 _ _ (jo6 w) (fun y hy=>by
   obtain ⟨z,_,rfl⟩:=List.mem_map.1 hy
   exact jo6 z)]
  rfl
theorem qu5 : ∀ws:List Lx.Wd,(unm ws).length=(ws.map qba).count [120]
 | []=>rfl
 | w::ws=>by
  rw [List.map_cons,List.count_cons,unm,List.filter_cons]
  have ih:=qu5 ws
  unfold unm at ih
  cases hk:q6o w.1 with
  | true =>
   have:qba w ≠ [120]:=by
    unfold qba
    rw [if_pos hk]
    rcases q9z hk with h|h|h|h|h|h<;>rw [h]<;>decide
   simp [ih,this]
  | false=>simp [qba,hk,ih]
theorem q66 {ws:List Lx.Wd} {S:Yy} {k:Nat} (h:shp ws=S) (hS:S ≠ []) (hk:(spl 32 [] S).count [120]=k):(unm ws).length=k:=by
 rw [qu5,j8k h hS,hk]
theorem len1 {β:Type} {l:List β} (h:l.length=1) : ∃ a,l = [a]:=List.length_eq_one_iff.1 h
theorem jqq {β:Type} {l:List β} (h:l.length=2) : ∃ a b,l = [a,b]:=by
 match l,h with
 | [a,b],_=>exact ⟨a,b,rfl⟩
theorem jok (ws:List Lx.Wd):(unm ws).length<=ws.length:=List.length_filter_le ..
theorem WB.unm {ws:List Lx.Wd} (h:WB ws):WB (unm ws):=⟨Nat.le_trans (jok ws) h.1,fun w hw=>h.2 w (List.mem_filter.1 hw).1⟩
def vbs:VB:=[(qih,([[120]],(false,qqr 87))),(kGo,([[120]],(false,qqr 88))),(q0z,([[120,32,120]],(true,qqr 89))),(qga,([[120,32,120]],(true,qqr 90))),
 (qg2,([[120,32,61,62,32,120]],(true,qqr 91))),(jeb,([[120],[91,32,120,32,44,32,120,32,93]],(true,qqr 92)))]
theorem j10 (n:Nat):qgy n=some ((),((vbs,()),())):=rfl
theorem q22 {x:Option (IV×PK)} {r:Int⊕MS} {ln st:Int} {vb:VB} {f:IV×PK->Option (IV×PK)} (h:Tl x r ln st vb) (hf : ∀e y,f (e,y)=some (e,y)):Tl (x.bind f) r ln st vb :=
 h.bind (fun σ'=>hf _ _) (fun e y=>⟨y,hf _ _⟩)
theorem qub {v:Yy} (h1:v≠qih) (h2:v≠kGo) (h3:v≠q0z) (h4:v≠qga) (h5:v≠qg2) (h6:v≠jeb):qab v vbs=none:=by
 unfold vbs
 simp only [qab,if_neg h1,if_neg h2,if_neg h3,if_neg h4,if_neg h5,if_neg h6]
theorem qml (n:Nat) (σ:MS) (v:Yy) (ws:List Lx.Wd) (ln st:Int) (hs:StB st) (hw:WB ws) (hb:SB 200000 σ) (hn:200000<n) :
  Tl (q7k n () v ws σ.mo σ.go ln st σ.bk vbs σ.sd σ.rq σ.sw σ.ex σ.rt) (q5c σ st v ws) ln st vbs:=by
 have hu:=hw.unm
 have hwl:=hw.1
 unfold q7k q5c
 simp only [qb9 n ws hw (by omega),jer n ws hw.1 (by omega),Option.bind_some]
 by_cases h1:v=qih
 ·subst h1
  rw [show qab qih vbs=some ([[120]],(false,qqr 87)) from rfl,show q2r qih = [[120]] from rfl]
  simp only [qhc,q1j n [[120]] (shp ws) (by simp) (by simp;omega),Option.bind_some]
  by_cases hm:shp ws ∈ [[(120:UInt8)]]
  ·obtain ⟨w,hw'⟩:=len1 (q66 (k:=1) (List.mem_singleton.1 hm) (by decide) (by decide))
   rw [hw'] at hu ⊢
   rw [decide_eq_true hm,if_pos hm]
   exact q22 (qql n σ w [] ln st vbs hs hu hn) (fun e y=>rfl)
  ·rw [decide_eq_false hm,if_neg hm];exact ⟨_,rfl⟩
 by_cases h2:v=kGo
 ·subst h2
  rw [show qab kGo vbs=some ([[120]],(false,qqr 88)) from rfl,show q2r kGo = [[120]] from rfl]
  simp only [qhc,q1j n [[120]] (shp ws) (by simp) (by simp;omega),Option.bind_some]
  by_cases hm:shp ws ∈ [[(120:UInt8)]]
  ·obtain ⟨w,hw'⟩:=len1 (q66 (k:=1) (List.mem_singleton.1 hm) (by decide) (by decide))
   rw [hw'] at hu ⊢
   rw [decide_eq_true hm,if_pos hm]
   exact q22 (qj2 n σ w [] ln st vbs hs hu hn) (fun e y=>rfl)
  ·rw [decide_eq_false hm,if_neg hm];exact ⟨_,rfl⟩
 by_cases h3:v=q0z
 ·subst h3
  rw [show qab q0z vbs=some ([[120,32,120]],(true,qqr 89)) from rfl,show q2r q0z = [[120,32,120]] from rfl]
  simp only [qhc,q1j n [[120,32,120]] (shp ws) (by simp) (by simp;omega),Option.bind_some]
  by_cases hm:shp ws ∈ [[(120:UInt8),32,120]]
  ·obtain ⟨w,x,hw'⟩:=jqq (q66 (k:=2) (List.mem_singleton.1 hm) (by decide) (by decide))
   rw [hw'] at hu ⊢
   rw [decide_eq_true hm,if_pos hm]
   exact q22 (qnc n σ w x [] ln st vbs hs hu hb hn) (fun e y=>rfl)
  ·rw [decide_eq_false hm,if_neg hm];exact ⟨_,rfl⟩
 by_cases h4:v=qga
 ·subst h4
  rw [show qab qga vbs=some ([[120,32,120]],(true,qqr 90)) from rfl,show q2r qga = [[120,32,120]] from rfl]
  simp only [qhc,q1j n [[120,32,120]] (shp ws) (by simp) (by simp;omega),Option.bind_some]
  by_cases hm:shp ws ∈ [[(120:UInt8),32,120]]
  ·obtain ⟨w,x,hw'⟩:=jqq (q66 (k:=2) (List.mem_singleton.1 hm) (by decide) (by decide))
   rw [hw'] at hu ⊢
   rw [decide_eq_true hm,if_pos hm]
   exact q22 (qmt n σ w x [] ln st vbs hs hu hb hn) (fun e y=>rfl)
  ·rw [decide_eq_false hm,if_neg hm];exact ⟨_,rfl⟩
 by_cases h5:v=qg2
 ·subst h5
  rw [show qab qg2 vbs=some ([[120,32,61,62,32,120]],(true,qqr 91)) from rfl,show q2r qg2 = [[120,32,61,62,32,120]] from rfl]
  simp only [qhc,q1j n [[120,32,61,62,32,120]] (shp ws) (by simp) (by simp;omega),Option.bind_some]
  by_cases hm:shp ws ∈ [[(120:UInt8),32,61,62,32,120]]
  ·obtain ⟨w,x,hw'⟩:=jqq (q66 (k:=2) (List.mem_singleton.1 hm) (by decide) (by decide))
   rw [hw'] at hu ⊢
   rw [decide_eq_true hm,if_pos hm]
   exact q22 (qna n σ w x [] ln st vbs hs hu hb hn) (fun e y=>rfl)
  ·rw [decide_eq_false hm,if_neg hm];exact ⟨_,rfl⟩
 by_cases h6:v=jeb
 ·subst h6
  rw [show qab jeb vbs=some ([[120],[91,32,120,32,44,32,120,32,93]],(true,qqr 92)) from rfl,show q2r jeb = [[120],[91,32,120,32,44,32,120,32,93]] from rfl]
  simp only [qhc,q1j n [[120],[91,32,120,32,44,32,120,32,93]] (shp ws) (by simp) (by simp;omega),Option.bind_some]
  by_cases hm:shp ws ∈ [[(120:UInt8)],[91,32,120,32,44,32,120,32,93]]
  ·obtain ⟨w,r,hw'⟩ : ∃ w r,unm ws=w::r:=by
    rcases List.mem_cons.1 hm with h|h
    ·obtain ⟨w,hw'⟩:=len1 (q66 (k:=1) h (by decide) (by decide))
     exact ⟨w,[],hw'⟩
    ·obtain ⟨w,x,hw'⟩:=jqq (q66 (k:=2) (List.mem_singleton.1 h) (by decide) (by decide))
     exact ⟨w,[x],hw'⟩
   rw [hw'] at hu ⊢
   rw [decide_eq_true hm,if_pos hm]
   exact q22 (qn8 n σ w r ln st vbs hs hu hb hn) (fun e y=>rfl)
  ·rw [decide_eq_false hm,if_neg hm];exact ⟨_,rfl⟩
 ·rw [qub h1 h2 h3 h4 h5 h6,show q2r v = [] by simp only [q2r,if_neg h1,if_neg h2,if_neg h3,if_neg h4,if_neg h5,if_neg h6]]
  simp only [qhc,q1j n [] (shp ws) (by simp) (by simp;omega),Option.bind_some]
  exact ⟨_,rfl⟩
theorem jg1 (v:Yy):(∃ y,qab v vbs=some y/\y.2.1=qa4 v)\/(qab v vbs=none/\qa4 v=false):=by
 by_cases h1:v=qih
 ·subst h1;exact .inl ⟨_,rfl,by decide⟩
 by_cases h2:v=kGo
 ·subst h2;exact .inl ⟨_,rfl,by decide⟩
 by_cases h3:v=q0z
 ·subst h3;exact .inl ⟨_,rfl,by decide⟩
 by_cases h4:v=qga
 ·subst h4;exact .inl ⟨_,rfl,by decide⟩
 by_cases h5:v=qg2
 ·subst h5;exact .inl ⟨_,rfl,by decide⟩
 by_cases h6:v=jeb
 ·subst h6;exact .inl ⟨_,rfl,by decide⟩
 ·exact .inr ⟨qub h1 h2 h3 h4 h5 h6,by simp only [qa4,decide_eq_false h3,decide_eq_false h4,decide_eq_false h5,decide_eq_false h6,Bool.or_self]⟩
theorem j78 (n:Nat) (σ:MS) (v:Yy) (ws:List Lx.Wd) (ln st:Int) (hs:StB st) (hw:WB ws) (hb:SB 200000 σ) (hn:200000<n) :
  Tl (qs1 n () v ws σ.mo σ.go ln st σ.bk vbs σ.sd σ.rq σ.sw σ.ex σ.rt) (if qa4 v=true/\shp ws = [40] then .inr { σ with bk:=v } else q5c σ st v ws) ln st vbs:=by
 have hwl:=hw.1
 have hS:=qml n σ v ws ln st hs hw hb hn
 unfold qs1
 rcases jg1 v with ⟨y,h1,h2⟩|⟨h1,h2⟩
 ·rw [h1]
  simp only [qhc,h2,qb9 n ws hw (by omega),Option.bind_some]
  cases qa4 v with
  | false =>
   simp only [cond_false,Bool.false_eq_true,false_and,if_false]
   exact q22 hS (fun e y=>rfl)
  | true =>
   simp only [cond_true,true_and]
   by_cases hp:shp ws = [40]
   ·rw [decide_eq_true hp,if_pos hp];rfl
   ·rw [decide_eq_false hp,if_neg hp]
    exact q22 hS (fun e y=>rfl)
 ·rw [h1]
  simp only [qhc,h2,Bool.false_eq_true,false_and,if_false]
  exact q22 hS (fun e y=>rfl)
theorem qz3 (n:Nat) (σ:MS) (ws:List Lx.Wd) (ln st:Int) (hs:StB st) (hw:WB ws) (hb:SB 200000 σ) (hn:200000<n) :
  Tl (qcu n () ws σ.mo σ.go ln st σ.bk vbs σ.sd σ.rq σ.sw σ.ex σ.rt) (q3n σ st ws) ln st vbs:=by
 have hwl:=hw.1
 unfold qcu
 cases ws with
 | nil=>rfl
 | cons w r =>
  have c0 : ¬ ((((w::r).length:Nat):Int)=0):=by simp only [List.length_cons];omega
  have hsub:q20 (w::r) (1:Int) (((w::r).length:Nat):Int)=some r:=by
   have:=sub_le (l:=w::r) (a:=1) (b:=(w::r).length) (by simp) (Nat.le_refl _)
   rw [show ((1:Nat):Int)=(1:Int) from rfl] at this
   rw [this];simp
  unfold q3n
  simp only [c0,decide_false,cond_false,jqa,hsub,Option.bind_some,qb9 n (w::r) hw (by omega)]
  by_cases hb0:σ.bk = []
  ·rw [decide_eq_true hb0,if_pos hb0]
   exact q22 (j78 n σ w.1 r ln st hs hw.tail hb hn) (fun e y=>rfl)
  ·rw [decide_eq_false hb0,if_neg hb0]
   by_cases hp:shp (w::r) = [41]
   ·rw [cond_false,decide_eq_true hp,if_pos hp];rfl
   ·rw [cond_false,decide_eq_false hp,if_neg hp]
    exact q22 (qml n σ σ.bk (w::r) ln st hs hw hb hn) (fun e y=>rfl)
end Go.Proofs.YtapfankgdkdkgaaGreatDoor.AM
