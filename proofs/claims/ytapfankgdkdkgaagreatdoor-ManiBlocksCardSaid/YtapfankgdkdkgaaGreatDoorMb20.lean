
import Derived.Test.YtapfankgdkdkgaaGreatDoorMb13
import Derived.Test.YtapfankgdkdkgaaGreatDoorMb14
import Derived.Test.YtapfankgdkdkgaaGreatDoorMb19
namespace Go.Proofs.YtapfankgdkdkgaaGreatDoor.AM
open Go.RowKit
set_option linter.unusedVariables false
set_option linter.unusedSimpArgs false
theorem qqn (n:Nat) (a b:Int):q9e n a b=some (j17 a b):=by
 unfold q9e j0q j17
 simp only [decide_true,Bool.not_true,Option.bind_some,cond_false]
 by_cases h1:a<b
 ·simp [h1]
 ·by_cases h2:b<a
  ·simp [h1,h2]
  ·simp [h1,h2]
def q9h:List Int->Int
 | []=>0
 | x::l=>or2 x (q9h l)
theorem qwt (n:Nat) (l:List Int) (hL:l.length<=1000000) : ∀m j:Nat,j<=l.length->l.length - j<m->q9g n m 0 l ((l.length:Nat):Int) (j:Int)=some (if q9h (l.drop j)=0 then Sum.inr (((0:Int),()),((),())) else Sum.inl ((q9h (l.drop j),()),((),())))
 | 0,j,_,h=>absurd h (Nat.not_lt_zero _)
 | m+1,j,hj,h=>by
  rw [qmq]
  unfold qyp
  by_cases c0:j<l.length
  ·have c0':((j:Nat):Int)<((l.length:Nat):Int):=by omega
   have ih:=qwt n l hL m (j+1) (by omega) (by omega)
   have hd:l.drop j=l[j]::l.drop (j+1):=(List.drop_eq_getElem_cons c0)
   simp only [c0',decide_true,cond_true,q0x c0,Option.bind_some,q05,q0a (show j<4611686018427387904 by omega),ih,hd,q9h,or2]
   by_cases h0:l[j]=0
   ·simp [h0]
   ·simp [h0]
  ·have c0' : ¬ ((j:Nat):Int)<((l.length:Nat):Int):=by omega
   have:l.drop j = []:=List.drop_eq_nil_of_le (by omega)
   simp [c0',this,q9h]
theorem qve (n:Nat) (l:List Int) (hL:l.length<=1000000) (hn:l.length<n):qor n l=some (q9h l):=by
 unfold qor
 have:=qwt n l hL n 0 (Nat.zero_le _) (by omega)
 rw [show ((0:Nat):Int)=(0:Int) from rfl] at this
 rw [this,List.drop_zero]
 by_cases h:q9h l=0
 ·simp [h]
 ·simp [h]
theorem jh2 (n:Nat) (v:VD) (hn:4<=n):qam n v=some (q2x v):=by
 unfold qam q2x
 rw [q6u n v hn]
 cases hc:q1m v with
 | false=>rfl
 | true =>
  obtain ⟨h1,h2,h3,h4,h5⟩:=q26 hc
  have l1:=qab h1
  have l2:=qab h2
  have l3:=qab h3
  have t1:=q7x h4
  have t2:=q7x h5
  simp only [Option.bind_some,Bool.not_true,cond_false,qoe h1,qoe h2,qoe h3,if_true]
  unfold jsr q6n
  generalize Lib.itoa v.1=A at l1
  generalize Lib.itoa v.2.1=B at l2
  generalize Lib.itoa v.2.2.1=C at l3
  generalize v.2.2.2.1=p at t1
  generalize v.2.2.2.2=q at t2
  rw [q2c (by simp;omega)];simp only [Option.bind_some]
  rw [q2c (by simp;omega)];simp only [Option.bind_some]
  rw [q2c (by simp;omega)];simp only [Option.bind_some]
  rw [q2c (by simp;omega)];simp only [Option.bind_some]
  rw [q2c (by simp;omega)];simp only [Option.bind_some]
  have k1:q6q [45] p=some ([45]++p):=q2c (by simp;omega)
  have k2:q6q [43] q=some ([43]++q):=q2c (by simp;omega)
  by_cases hp:p = []
  ·by_cases hq:q = []
   ·simp [hp,hq]
   ·simp only [hp,hq,decide_true,decide_false,Bool.not_true,Bool.not_false,cond_true,cond_false,k2,Option.bind_some]
    rw [q2c (by simp;omega)]
    simp
  ·by_cases hq:q = []
   ·simp only [hp,hq,decide_true,decide_false,Bool.not_true,Bool.not_false,cond_true,cond_false,k1,Option.bind_some]
    rw [q2c (by simp;omega)]
    simp
   ·simp only [hp,hq,decide_true,decide_false,Bool.not_true,Bool.not_false,cond_true,cond_false,k1,k2,Option.bind_some]
    rw [q2c (by simp;omega)];simp only [Option.bind_some]
    rw [q2c (by simp;omega)]
    simp
theorem qgi (n:Nat) (c:UInt8) (s:List UInt8) (hs:s.length<=1000000) : ∃ b,j5n n s [c]=some (q38 c s,(qe2 c s,b)):=by
 unfold j5n jle qq8 q38 qe2
 simp only [show s.length<4294967281 from by omega,if_true,Option.bind_some]
 have hge:=Lib.index_ge s [c]
 by_cases h1:Lib.index s [c] = -1
 ·simp only [h1,show ¬ (0:Int)<=-1 from by decide,decide_false,cond_false,Option.bind_some,if_true]
  exact ⟨_,rfl⟩
 ·obtain ⟨i,hi⟩ : ∃ i:Nat,Lib.index s [c]=(i:Int):=⟨(Lib.index s [c]).toNat,by omega⟩
  have hlt:=jd6 c s i hi
  have n1 : ¬ ((i:Nat):Int) = -1:=by omega
  have n2:(0:Int)<=((i:Nat):Int):=by omega
  rw [hi]
  have w1:IntKind.wrap .i64 (((i:Nat):Int)+((List.length [c]:Nat):Int))=((i+1:Nat):Int):=q0a (by omega)
  simp only [n1,n2,decide_true,cond_true,if_false,sub_zero (show i<=s.length by omega),Option.bind_some,q05,w1,sub_le (show i+1<=s.length by omega) (Nat.le_refl _),Int.toNat_natCast]
  refine ⟨true,?_⟩
  have e6:(s.drop (i+1)).take (s.length - (i+1))=s.drop (i+1):=List.take_of_length_le (by rw [List.length_drop];exact Nat.le_refl _)
  rw [e6]
theorem qgq (c:UInt8) (s:List UInt8):(q38 c s).length<=s.length:=by
 unfold q38;split
 ·exact Nat.le_refl _
 ·rw [List.length_take];omega
theorem qn6 (c:UInt8) (s:List UInt8):(qe2 c s).length<=s.length:=by
 unfold qe2;split
 ·simp
 ·rw [List.length_drop];omega
theorem qeo (n:Nat) (s:List UInt8) (hs:s.length<=1000000) (hn:4<=n):qd5 n s=some (q10 s):=by
 unfold qd5 q10 jhp
 obtain ⟨b1,e1⟩:=qgi n 43 s hs
 have l1:=qgq 43 s
 have l1':=qn6 43 s
 obtain ⟨b2,e2⟩:=qgi n 45 (q38 43 s) (by omega)
 have l2:=qgq 45 (q38 43 s)
 have e3:=j32 n (q38 45 (q38 43 s)) (by omega)
 have l3:=j2n (q38 45 (q38 43 s))
 obtain ⟨b4,e4⟩:=qgi n 46 (q1o (q38 45 (q38 43 s))) (by omega)
 have l4:=qgq 46 (q1o (q38 45 (q38 43 s)))
 have l4':=qn6 46 (q1o (q38 45 (q38 43 s)))
 obtain ⟨b5,e5⟩:=qgi n 46 (qe2 46 (q1o (q38 45 (q38 43 s)))) (by omega)
 have l5:=qgq 46 (qe2 46 (q1o (q38 45 (q38 43 s))))
 have l5':=qn6 46 (qe2 46 (q1o (q38 45 (q38 43 s))))
 have m1:q5e (q38 46 (q1o (q38 45 (q38 43 s))))=some (qfy (q38 46 (q1o (q38 45 (q38 43 s))))):=if_pos (by omega)
 have m2:q5e (q38 46 (qe2 46 (q1o (q38 45 (q38 43 s)))))=some (qfy (q38 46 (qe2 46 (q1o (q38 45 (q38 43 s)))))):=if_pos (by omega)
 have m3:q5e (qe2 46 (qe2 46 (q1o (q38 45 (q38 43 s)))))=some (qfy (qe2 46 (qe2 46 (q1o (q38 45 (q38 43 s)))))):=if_pos (by omega)
 simp only [e1,Option.bind_some,e2,e3,e4,e5,m1,m2,m3]
 generalize (qfy (q38 46 (q1o (q38 45 (q38 43 s)))),(qfy (q38 46 (qe2 46 (q1o (q38 45 (q38 43 s))))),(qfy (qe2 46 (qe2 46 (q1o (q38 45 (q38 43 s))))),(qe2 45 (q38 43 s),qe2 43 s))))=v
 rw [q6u n v hn,jh2 n v hn]
 cases hc:q1m v with
 | false=>simp
 | true =>
  by_cases ht:q2x v=s
  ·simp [ht]
  ·simp [ht]
theorem jih (n:Nat) (a b:List UInt8) (ha:a.length<=1000000) (hb:b.length<=1000000) (hn:a.length<n/\b.length<n/\3<=n):qzx n a b=some (jy8 a b):=by
 unfold qzx jy8 jyf qge
 rw [qaq n a ha hn.1,qaq n b hb hn.2.1]
 simp only [Option.bind_some,qqn,qb0]
 cases q42 a with
 | false=>cases q42 b with
  | false =>
   simp only [cond_false,Bool.false_eq_true,if_false]
   unfold qv2 j17 or2
   simp
  | true =>
   simp only [cond_false,cond_true,Bool.false_eq_true,if_false,if_true]
   unfold qv2 j17 or2
   simp
 | true=>cases q42 b with
  | false =>
   simp only [cond_false,cond_true,Bool.false_eq_true,if_false,if_true]
   unfold qv2 j17 or2
   simp
  | true =>
   simp only [cond_true,if_true]
   rw [qve n _ (by simp) (by simp;omega)]
   simp only [Option.bind_some,q9h]
   unfold qv2
   have e0:j17 (0:Int) 0=0:=by decide
   dsimp only
   rw [e0]
   unfold or2
   simp only [if_true]
   split
   ·split<;>simp_all
   ·rfl
theorem qmk (n:Nat) (l1 l2:List (List UInt8)) (h1:l1.length<=1000000) (h2:l2.length<=1000000) (hw : ∀w,w∈l1\/w∈l2->w.length<=1000000/\w.length<n) (hn:3<=n) : ∀m j:Nat,j<=l1.length->j<=l2.length->l1.length - j<m ->
  ((q5i n m l1 l2 l1 ((l1.length:Nat):Int) (j:Int)).bind fun (o5:((Int×(Unit))×(Unit)×(Unit))⊕(((List (List UInt8))×((List (List UInt8))×(Unit)))×(Unit)×(Unit)))=>Sum.elim (fun (q6:(Int×(Unit))×(Unit)×(Unit))=>some q6.1.1) (fun (q7:((List (List UInt8))×((List (List UInt8))×(Unit)))×(Unit)×(Unit))=>(bif decide (((List.length q7.1.1:Nat):Int)<((List.length q7.1.2.1:Nat):Int)) then some (-1:Int) else some (0:Int))) o5)=some (cmpL jy8 (l1.drop j) (l2.drop j))
 | 0,j,_,_,h=>absurd h (Nat.not_lt_zero _)
 | m+1,j,hj,hj2,h=>by
  rw [qhh]
  unfold qkt
  by_cases c0:j<l1.length
  ·have c0':((j:Nat):Int)<((l1.length:Nat):Int):=by omega
   have hd:l1.drop j=l1[j]::l1.drop (j+1):=(List.drop_eq_getElem_cons c0)
   by_cases c1:j<l2.length
   ·have c1' : ¬ ((l2.length:Nat):Int)<=((j:Nat):Int):=by omega
    have hd2:l2.drop j=l2[j]::l2.drop (j+1):=(List.drop_eq_getElem_cons c1)
    have ih:=qmk n l1 l2 h1 h2 hw hn m (j+1) (by omega) (by omega) (by omega)
    have k1:=hw l1[j] (Or.inl (List.getElem_mem c0))
    have k2:=hw l2[j] (Or.inr (List.getElem_mem c1))
    have hp:=jih n l1[j] l2[j] k1.1 k2.1 ⟨k1.2,k2.2,hn⟩
    rw [hd,hd2,cmpL]
    simp only [c0',decide_true,cond_true,q0x c0,Option.bind_some,c1',decide_false,cond_false,q0x c1,hp,q05,q0a (show j<4611686018427387904 by omega)]
    unfold or2
    by_cases h0:jy8 l1[j] l2[j]=0
    ·simp only [h0,decide_true,Bool.not_true,cond_false,if_true]
     exact ih
    ·simp only [h0,decide_false,Bool.not_false,cond_true,if_false,Option.bind_some,Sum.elim_inl]
   ·have c1':((l2.length:Nat):Int)<=((j:Nat):Int):=by omega
    have hd2:l2.drop j = []:=List.drop_eq_nil_of_le (by omega)
    rw [hd,hd2,cmpL]
    simp only [c0',decide_true,cond_true,q0x c0,Option.bind_some,c1',Sum.elim_inl]
  ·have c0' : ¬ ((j:Nat):Int)<((l1.length:Nat):Int):=by omega
   have hd:l1.drop j = []:=List.drop_eq_nil_of_le (by omega)
   simp only [c0',decide_false,cond_false,Option.bind_some,Sum.elim_inr]
   have hje:j=l1.length:=by omega
   rw [hd]
   by_cases c1:j<l2.length
   ·have hd2:l2.drop j=l2[j]::l2.drop (j+1):=(List.drop_eq_getElem_cons c1)
    have c2:((l1.length:Nat):Int)<((l2.length:Nat):Int):=by omega
    rw [hd2]
    simp only [c2,decide_true,cond_true,cmpL]
   ·have hd2:l2.drop j = []:=List.drop_eq_nil_of_le (by omega)
    have c2 : ¬ ((l1.length:Nat):Int)<((l2.length:Nat):Int):=by omega
    rw [hd2]
    simp only [c2,decide_false,cond_false,cmpL]
theorem j3j (n:Nat) (l1 l2:List (List UInt8)) (h1:l1.length<=1000000) (h2:l2.length<=1000000) (hw : ∀w,w∈l1\/w∈l2->w.length<=1000000/\w.length<n) (hn:3<=n) (hn2:l1.length<n):qp4 n l1 l2 ()=some (cmpL jy8 l1 l2):=by
 have:=qmk n l1 l2 h1 h2 hw hn n 0 (Nat.zero_le _) (Nat.zero_le _) (by omega)
 rw [List.drop_zero,List.drop_zero] at this
 exact this
theorem jk2 (n:Nat) (a b:List UInt8) (ha:a.length<=100000) (hb:b.length<=100000) (hn:a.length+3<n/\b.length+3<n):jc7 n a b=some (qwh a b):=by
 unfold jc7
 by_cases hab:a=b
 ·subst hab
  rw [jgb.refl]
  simp
 ·simp only [hab,decide_false,cond_false]
  by_cases h1:a = []
  ·have hb0:b ≠ []:=fun e=>hab (by rw [h1,e])
   simp only [h1,decide_true,cond_true]
   unfold qwh qv2 ju4 j17 or2
   simp [hb0]
  ·simp only [h1,decide_false,cond_false]
   by_cases h2:b = []
   ·simp only [h2,decide_true,cond_true]
    unfold qwh qv2 ju4 j17 or2
    simp [h1]
   ·simp only [h2,decide_false,cond_false]
    have s1:q9j a [46]=some (spl 46 [] a):=if_pos (by omega)
    have s2:q9j b [46]=some (spl 46 [] b):=if_pos (by omega)
    have k1:=q8a 46 a []
    have k2:=q8a 46 b []
    rw [s1,s2]
    simp only [Option.bind_some]
    rw [j3j n _ _ (by omega) (by omega) (fun w hw=>by
     rcases hw with hw|hw
     ·have:=qck 46 a [] w hw;simp at this;omega
     ·have:=qck 46 b [] w hw;simp at this;omega) (by omega) (by omega)]
    unfold qwh ju4
    simp only [h1,h2,if_false]
    unfold qv2
    have e0:j17 (0:Int) 0=0:=by decide
    dsimp only
    rw [e0]
    unfold or2
    simp
theorem qyo (n:Nat) (a b:VD) (hn:100<=n):qd3 n a b=some (jx5 a b):=by
 unfold qd3 jx5
 rw [q6u n a (by omega),q6u n b (by omega)]
 cases hca:q1m a with
 | false=>rfl
 | true=>cases hcb:q1m b with
  | false=>rfl
  | true =>
   obtain ⟨-,-,-,h4,-⟩:=q26 hca
   obtain ⟨-,-,-,k4,-⟩:=q26 hcb
   have t1:=q7x h4
   have t2:=q7x k4
   simp only [Option.bind_some,Bool.not_true,cond_false,qqn]
   rw [jk2 n _ _ (by omega) (by omega) ⟨by omega,by omega⟩]
   simp only [Option.bind_some]
   rw [qve n _ (by simp) (by simp;omega)]
   simp only [Option.bind_some,q9h,Bool.and_self,if_true]
   have z0 : ∀x:Int,or2 x 0=x:=fun x=>by unfold or2;split<;>simp_all
   rw [z0]
   rfl
end Go.Proofs.YtapfankgdkdkgaaGreatDoor.AM
namespace Go.Proofs.YtapfankgdkdkgaaGreatDoor.AM
open Go.RowKit
set_option linter.unusedVariables false
set_option linter.unusedSimpArgs false
def WB (ws:List Lx.Wd):Prop:=ws.length<=100001/\∀w∈ws,w.1.length<=100001/\0<=w.2/\w.2<=100001
theorem qvd (n:Nat) (w:Lx.Wd):qo7 n w=some (j7f w.1):=by
 unfold qo7 j7f
 by_cases h1:w.1 = [61,62]
 ·simp [h1]
 by_cases h2:w.1 = [91]
 ·simp [h2]
 by_cases h3:w.1 = [44]
 ·simp [h3]
 by_cases h4:w.1 = [93]
 ·simp [h4]
 by_cases h5:w.1 = [40]
 ·simp [h5]
 by_cases h6:w.1 = [41]
 ·simp [h6]
 simp only [h1,h2,h3,h4,h5,h6,decide_false,cond_false,Bool.or_false,Bool.false_or]
theorem qld (c:UInt8) (B:Nat) : ∀r:List (List UInt8),(∀x∈r,x.length<=B)->(Lib.joinTail [c] r).length<=r.length*(B+1)
 | [],_=>by simp [Lib.joinTail]
 | x::r,h=>by
  have h1:=qld c B r (fun y hy=>h y (List.mem_cons_of_mem _ hy))
  have h2:=h x (List.mem_cons_self ..)
  show ([c]++x++Lib.joinTail [c] r).length<=_
  simp only [List.length_append,List.length_cons,List.length_nil]
  rw [Nat.succ_mul]
  omega
theorem jmn (c:UInt8) (B:Nat) (r:List (List UInt8)) (h : ∀x∈r,x.length<=B):(Lib.join r [c]).length<=r.length*(B+1):=by
 cases r with
 | nil=>simp [Lib.join_nil]
 | cons x r =>
  rw [Lib.join_cons]
  have h1:=qld c B r (fun y hy=>h y (List.mem_cons_of_mem _ hy))
  have h2:=h x (List.mem_cons_self ..)
  simp only [List.length_append,List.length_cons]
  rw [Nat.succ_mul]
  omega
theorem jxk (w:Lx.Wd) (h:w.1.length<=100001):(qu1 w).length<=100001:=by
 unfold qu1;split
 ·exact h
 ·simp
theorem k0q {xs:List (List UInt8)} {c:UInt8} (hl:xs.length<=200000) (hx : ∀x∈xs,x.length<=200000):qe8 xs [c]=some (Lib.join xs [c]):=by
 unfold qe8
 have:=jmn c 200000 xs hx
 rw [if_pos ⟨by omega,by
  have:xs.length*(200000+1)<=200000*200001:=Nat.mul_le_mul_right _ hl
  omega⟩]
theorem qfi (n:Nat) (ws:List Lx.Wd) (hw:ws.length<=100001) : ∀(m j:Nat) (out:List (List UInt8)),j<=ws.length->ws.length - j<m->out.length=j ->
  q84 n m ws ((ws.length:Nat):Int) (j:Int) out=some (((),()),((),(out++(ws.drop j).map qu1,())))
 | 0,j,_,_,h,_=>absurd h (Nat.not_lt_zero _)
 | m+1,j,out,hj,h,ho=>by
  rw [qjy]
  unfold qpz
  by_cases c0:j<ws.length
  ·have c0':((j:Nat):Int)<((ws.length:Nat):Int):=by omega
   have e1:out++(ws.drop j).map qu1=(out ++ [qu1 ws[j]])++(ws.drop (j+1)).map qu1:=by
    rw [List.drop_eq_getElem_cons c0];simp only [List.map_cons,List.append_assoc,List.cons_append,List.nil_append]
   simp only [c0',decide_true,cond_true,q0x c0,Option.bind_some,qvd,q05,q0a (show j<4611686018427387904 by omega)]
   rw [e1]
   cases hk:j7f ws[j].1 with
   | true =>
    have a1:q4q 16 out [ws[j].1]=some (out ++ [ws[j].1]):=q7c (by simp;omega)
    simp only [cond_true,a1,Option.bind_some]
    rw [qfi n ws hw m (j+1) _ (by omega) (by omega) (by simp;omega)]
    simp only [qu1,hk,if_true]
   | false =>
    have a1:q4q 16 out [([120]:List UInt8)]=some (out ++ [[120]]):=q7c (by simp;omega)
    simp only [cond_false,a1,Option.bind_some]
    rw [qfi n ws hw m (j+1) _ (by omega) (by omega) (by simp;omega)]
    simp only [qu1,hk,Bool.false_eq_true,if_false]
  ·have c0' : ¬ ((j:Nat):Int)<((ws.length:Nat):Int):=by omega
   simp only [c0',decide_false,cond_false]
   rw [List.drop_eq_nil_of_le (by omega)]
   simp
theorem qfl (n:Nat) (ws:List Lx.Wd) (hw:WB ws) (hn:ws.length<n):qa7 n ws=some (shp ws):=by
 unfold qa7
 have h:=qfi n ws hw.1 n 0 [] (Nat.zero_le _) (by omega) rfl
 rw [show ((0:Nat):Int)=(0:Int) from rfl] at h
 rw [h]
 have hj:qe8 (ws.map qu1) [32]=some (shp ws):=k0q (by rw [List.length_map];have:=hw.1;omega) (fun x hx=>by
  obtain ⟨w,hw1,rfl⟩:=List.mem_map.1 hx
  have:=jxk w (hw.2 w hw1).1;omega)
 simp only [Option.bind_some,List.nil_append,List.drop_zero,hj]
theorem qtp (n:Nat) (l:List (List UInt8)) (x:List UInt8) (hl:l.length<=1000000) : ∀(m j:Nat),j<=l.length->l.length - j<m ->
  ∃ k:Int,(q7s n m l x ((l.length:Nat):Int) (j:Int)).bind (fun o3=>Sum.elim (fun q4=>some q4.1.1) (fun q5=>some (-1:Int)) o3)=some k/\(0<=k↔x∈l.drop j)
 | 0,j,_,h=>absurd h (Nat.not_lt_zero _)
 | m+1,j,hj,h=>by
  rw [qk5]
  unfold qo4
  by_cases c0:j<l.length
  ·have c0':((j:Nat):Int)<((l.length:Nat):Int):=by omega
   simp only [c0',decide_true,cond_true,q0x c0,Option.bind_some]
   rw [List.drop_eq_getElem_cons c0]
   by_cases hx:x=l[j]
   ·exact ⟨(j:Int),by simp only [hx,decide_true,cond_true,Option.bind_some,Sum.elim_inl],⟨fun _=>by rw [hx];exact List.mem_cons_self ..,fun _=>by omega⟩⟩
   ·simp only [hx,decide_false,cond_false,q05,q0a (show j<4611686018427387904 by omega)]
    obtain ⟨k,h1,h2⟩:=qtp n l x hl m (j+1) (by omega) (by omega)
    exact ⟨k,h1,by rw [h2,List.mem_cons];simp [hx]⟩
  ·have c0' : ¬ ((j:Nat):Int)<((l.length:Nat):Int):=by omega
   refine ⟨-1,by simp only [c0',decide_false,cond_false,Option.bind_some,Sum.elim_inr],?_⟩
   rw [List.drop_eq_nil_of_le (by omega)]
   simp
theorem q1r (n:Nat) (l:List (List UInt8)) (x:List UInt8) (hl:l.length<=1000000) (hn:l.length<n):q6j n l x=some (decide (x∈l)):=by
 unfold q6j j08
 obtain ⟨k,h,h2⟩:=qtp n l x hl n 0 (Nat.zero_le _) (by omega)
 rw [show ((0:Nat):Int)=(0:Int) from rfl] at h
 rw [List.drop_zero] at h2
 rw [h]
 simp only [Option.bind_some]
 congr 1
 by_cases hm:x∈l
 ·rw [decide_eq_true hm,decide_eq_true (h2.2 hm)]
 ·rw [decide_eq_false hm,decide_eq_false (fun h=>hm (h2.1 h))]
theorem qsp (n:Nat) (ws:List Lx.Wd) (hw:ws.length<=100001) : ∀(m j:Nat) (out:List Lx.Wd),j<=ws.length->ws.length - j<m->out.length<=j ->
  qdt n m ws ((ws.length:Nat):Int) (j:Int) out=some (((),()),((),(out++unm (ws.drop j),())))
 | 0,j,_,_,h,_=>absurd h (Nat.not_lt_zero _)
 | m+1,j,out,hj,h,ho=>by
  rw [qtf]
  unfold j9h
  by_cases c0:j<ws.length
  ·have c0':((j:Nat):Int)<((ws.length:Nat):Int):=by omega
   simp only [c0',decide_true,cond_true,q0x c0,Option.bind_some,qvd,q05,q0a (show j<4611686018427387904 by omega)]
   rw [List.drop_eq_getElem_cons c0,unm,List.filter_cons]
   cases hk:j7f ws[j].1 with
   | true =>
    simp only [Bool.not_true,cond_false,Bool.false_eq_true,if_false]
    rw [qsp n ws hw m (j+1) _ (by omega) (by omega) (by omega)];rfl
   | false =>
    have a1:q4q 24 out [ws[j]]=some (out ++ [ws[j]]):=q7c (by simp;omega)
    simp only [Bool.not_false,cond_true,a1,Option.bind_some,if_true]
    rw [qsp n ws hw m (j+1) _ (by omega) (by omega) (by simp;omega)]
    simp [unm]
  ·have c0' : ¬ ((j:Nat):Int)<((ws.length:Nat):Int):=by omega
   simp only [c0',decide_false,cond_false]
   rw [List.drop_eq_nil_of_le (by omega)]
   simp [unm]
theorem jkn (n:Nat) (ws:List Lx.Wd) (hw:ws.length<=100001) (hn:ws.length<n):j5y n ws=some (unm ws):=by
 unfold j5y
 have h:=qsp n ws hw n 0 [] (Nat.zero_le _) (by omega) (Nat.le_refl _)
 rw [show ((0:Nat):Int)=(0:Int) from rfl] at h
 rw [h];simp
theorem jvi (c:UInt8):q18 c=(!decide (((c.toNat:Nat):Int)<48) && !decide ((57:Int)<((c.toNat:Nat):Int))):=by
 unfold q18
 by_cases h1:48<=c.toNat<;>by_cases h2:c.toNat<=57<;>simp [h1,h2]<;>omega
theorem qrn (n:Nat) (s:List UInt8) (hL:s.length<=1000000) : ∀m j:Nat,j<=s.length->s.length - j<m->q7n n m s ((s.length:Nat):Int) (j:Int)=some (if (s.drop j).all q18=true then Sum.inr ((s,()),((),())) else Sum.inl ((false,()),((),())))
 | 0,j,_,h=>absurd h (Nat.not_lt_zero _)
 | m+1,j,hj,h=>by
  rw [qj3]
  unfold qrt
  by_cases c0:j<s.length
  ·have c0':((j:Nat):Int)<((s.length:Nat):Int):=by omega
   rw [List.drop_eq_getElem_cons c0,List.all_cons,jvi s[j]]
   simp only [c0',decide_true,cond_true,q3g c0,Option.bind_some,q05,q0a (show j<4611686018427387904 by omega)]
   by_cases h1:((s[j].toNat:Nat):Int)<48
   ·simp [h1]
   ·by_cases h2:(57:Int)<((s[j].toNat:Nat):Int)
    ·simp [h1,h2]
    ·simp only [h1,h2,decide_false,cond_false,Bool.not_false,Bool.true_and]
     exact qrn n s hL m (j+1) (by omega) (by omega)
  ·have c0' : ¬ ((j:Nat):Int)<((s.length:Nat):Int):=by omega
   simp only [c0',decide_false,cond_false]
   rw [List.drop_eq_nil_of_le (by omega)]
   simp
theorem c48 (c:UInt8):decide (((c.toNat:Nat):Int)=48)=decide (c=48):=by
 by_cases h:c=48
 ·subst h;rfl
 ·have h2 : ¬ ((c.toNat:Nat):Int)=48:=fun h'=>by
   have h3:c.toNat=48:=by omega
   exact h (UInt8.toNat_inj.1 (h3.trans rfl))
  rw [decide_eq_false h,decide_eq_false h2]
theorem qts (n:Nat) (s:List UInt8) (hL:s.length<=1000000) (hn:s.length<n):qi8 n s=some (qif s):=by
 unfold qi8
 have h:=qrn n s hL n 0 (Nat.zero_le _) (by omega)
 rw [show ((0:Nat):Int)=(0:Int) from rfl,List.drop_zero] at h
 rw [h]
 unfold qif
 cases s.all q18 with
 | false=>simp
 | true =>
  simp only [if_true,Option.bind_some,Sum.elim_inr,Bool.true_and]
  by_cases h1:1<=s.length
  ·have h1':(1:Int)<=((s.length:Nat):Int):=by omega
   by_cases h2:s.length<=9
   ·have h2':((s.length:Nat):Int)<=9:=by omega
    simp only [h1',h2',h1,h2,decide_true,cond_true,Bool.true_and]
    by_cases h3:s = [48]
    ·simp [h3]
    ·cases s with
     | nil=>simp at h1
     | cons c r =>
      have:=q3g (s:=c::r) (j:=0) (by simp)
      rw [show ((0:Nat):Int)=(0:Int) from rfl] at this
      simp only [h3,decide_false,cond_false,this,Option.bind_some,Bool.false_or,List.getElem_cons_zero,List.head?_cons,Option.some.injEq]
      rw [c48]
   ·have h2' : ¬ ((s.length:Nat):Int)<=9:=by omega
    simp only [h1',h2',h1,h2,decide_true,decide_false,cond_true,cond_false,Bool.true_and,Bool.false_and]
  ·have h1' : ¬ (1:Int)<=((s.length:Nat):Int):=by omega
   simp only [h1',h1,decide_false,cond_false,Bool.false_and]
theorem j7g (n:Nat) (s:List UInt8) (hL:s.length<=1000000) (hn:s.length<n):qi7 n s=some (qos s):=by
 unfold qi7 qos
 obtain ⟨b,hb⟩:=qgi n 46 s hL
 have l1:=qgq 46 s
 have l2:=qn6 46 s
 simp only [hb,Option.bind_some,qts n (q38 46 s) (by omega) (by omega),qts n (qe2 46 s) (by omega) (by omega)]
 cases qif (q38 46 s)<;>simp
def errT (e:Int):IV:=qn7 126 (.agg ⟨[.int .i64 e]⟩)
def q0:Rq:=([],v0)
theorem j4f (n:Nat) (w x:Lx.Wd) (r:List Lx.Wd) (hw:w.1.length<=1000000) (hx:x.1.length<=1000000) (hn:w.1.length<n) (h4:4<=n):j43 n (w::x::r)=some (match ja4 w.1 x.1 with | .inl e=>(q0,errT e) | .inr q=>(q,qbs)):=by
 unfold j43 ja4
 have i0:q0z (w::x::r) (0:Int)=some w:=q0x (l:=w::x::r) (j:=0) (by simp)
 have i1:q0z (w::x::r) (1:Int)=some x:=q0x (l:=w::x::r) (j:=1) (by simp)
 simp only [i0,i1,Option.bind_some,qeo n x.1 hx h4,qeu n w.1 hw hn]
 cases h1:okS w.1 with
 | false=>rfl
 | true =>
  cases h2:(q10 x.1).2 with
  | false=>simp [q0,v0,errT]
  | true =>
   simp only [Bool.not_true,cond_false,jhd n w.1 (q10 x.1).1 hw hn h4,Option.bind_some,Bool.true_eq_false,if_false]
   cases h3:q3p w.1 (q10 x.1).1 with
   | false=>simp [q0,v0,errT]
   | true=>simp
abbrev VB:=List (List UInt8×(List (List UInt8)×(Bool×IV)))
def pk (σ:MS) (ln st:Int) (vb:VB):((List UInt8×(List UInt8×(Unit×(Unit×(Unit×(Unit×(Int×(Int×(List UInt8×(Unit×Unit))))))))))×(VB×(jyz×Unit)))×(List Rq×(List Sw×(List Rq×(List Sp×Unit)))) :=
 (((σ.mo,(σ.go,((),((),((),((),(ln,(st,(σ.bk,((),())))))))))),(vb,(σ.sd,()))),(σ.rq,(σ.sw,(σ.ex,(σ.rt,())))))
abbrev PK:=((List UInt8×(List UInt8×(Unit×(Unit×(Unit×(Unit×(Int×(Int×(List UInt8×(Unit×Unit))))))))))×(VB×(jyz×Unit)))×(List Rq×(List Sw×(List Rq×(List Sp×Unit))))
def Tl (x:Option (IV×PK)) (r:Int⊕MS) (ln st:Int) (vb:VB):Prop:=match r with
 | .inr σ'=>x=some (qbs,pk σ' ln st vb)
 | .inl e=>∃ y,x=some (errT e,y)
theorem Tl.bind {x:Option (IV×PK)} {r:Int⊕MS} {ln st:Int} {vb:VB} (h:Tl x r ln st vb) {f:IV×PK->Option (IV×PK)} (h1 : ∀σ',f (qbs,pk σ' ln st vb)=some (qbs,pk σ' ln st vb)) (h2 : ∀e y,∃ y',f (errT e,y)=some (errT e,y')):Tl (x.bind f) r ln st vb:=by
 cases r with
 | inr σ' =>
  have h':x=some (qbs,pk σ' ln st vb):=h
  show x.bind f=_
  rw [h'];exact h1 σ'
 | inl e =>
  obtain ⟨y,hy⟩ : ∃ y,x=some (errT e,y):=h
  obtain ⟨y',hy'⟩:=h2 e y
  exact ⟨y',by rw [hy];exact hy'⟩
theorem q4u (n:Nat) (σ:MS) (c:Cl) (w:Lx.Wd) (ln st:Int) (vb:VB) (hs:0<=st/\st<=1000000) (hw:w.1.length<=100001/\0<=w.2/\w.2<=100001) :
  Tl (q4y n () c w σ.mo σ.go ln st σ.bk vb σ.sd σ.rq σ.sw σ.ex σ.rt) (q1w σ c st w) ln st vb:=by
 unfold q4y q1w
 have e1:IntKind.wrap .i64 (st+w.2)=st+w.2:=wrap64 (by omega) (by omega)
 have e2:IntKind.wrap .i64 (st+w.2+((w.1.length:Nat):Int))=st+w.2+((w.1.length:Nat):Int):=wrap64 (by omega) (by omega)
 cases hm:q0f clT c σ.sd with
 | some v =>
  simp only [Option.isSome_some,if_true]
  exact ⟨_,by simp only [jkg,hm,Option.isSome_some,cond_true];rfl⟩
 | none =>
  simp only [Option.isSome_none,Bool.false_eq_true,if_false]
  show _=some (qbs,pk _ ln st vb)
  simp only [jkg,hm,Option.isSome_none,cond_false,q05,e1,e2]
  rfl
end Go.Proofs.YtapfankgdkdkgaaGreatDoor.AM
namespace Go.Proofs.YtapfankgdkdkgaaGreatDoor.AM
open Go.RowKit
set_option linter.unusedVariables false
set_option linter.unusedSimpArgs false
def SB (k:Nat) (σ:MS):Prop:=σ.rq.length<=k/\σ.sw.length<=k/\σ.ex.length<=k/\σ.rt.length<=k
def StB (st:Int):Prop:=0<=st/\st<=1000000
theorem WB.head {w:Lx.Wd} {r:List Lx.Wd} (h:WB (w::r)):w.1.length<=100001/\0<=w.2/\w.2<=100001:=h.2 w (List.mem_cons_self ..)
theorem WB.tail {w:Lx.Wd} {r:List Lx.Wd} (h:WB (w::r)):WB r:=⟨by have:=h.1;simp at this;omega,fun x hx=>h.2 x (List.mem_cons_of_mem _ hx)⟩
theorem k1o {β:Type} (x:β) (r:List β):q0z (x::r) (0:Int)=some x:=q0x (l:=x::r) (j:=0) (by simp)
theorem idx1 {β:Type} (x y:β) (r:List β):q0z (x::y::r) (1:Int)=some y:=q0x (l:=x::y::r) (j:=1) (by simp)
theorem j12 (n:Nat) (σ:MS) (w:Lx.Wd) (r:List Lx.Wd) (ln st:Int) (vb:VB) (hs:StB st) (hw:WB (w::r)) (hn:200000<n) :
  Tl (qd9 n () (w::r) σ.mo σ.go ln st σ.bk vb σ.sd σ.rq σ.sw σ.ex σ.rt) (qu3 σ st qnh (w::r)) ln st vb:=by
 have hw0:=hw.head
 unfold qd9
 rw [show qu3 σ st qnh (w::r)=(if okS w.1=false then .inl 6 else q1w { σ with mo:=w.1 } (qnh,([],v0)) st w) from rfl]
 simp only [k1o,Option.bind_some,qeu n w.1 (by omega) (by omega)]
 cases okS w.1 with
 | false=>exact ⟨_,rfl⟩
 | true =>
  simp only [Bool.not_true,cond_false,Bool.true_eq_false,if_false]
  exact (q4u n { σ with mo:=w.1 } (qnh,([],v0)) w ln st vb hs hw0).bind (fun σ'=>rfl) (fun e y=>⟨_,rfl⟩)
theorem qs4 (n:Nat) (σ:MS) (w:Lx.Wd) (r:List Lx.Wd) (ln st:Int) (vb:VB) (hs:StB st) (hw:WB (w::r)) (hn:200000<n) :
  Tl (q7m n () (w::r) σ.mo σ.go ln st σ.bk vb σ.sd σ.rq σ.sw σ.ex σ.rt) (qu3 σ st kGo (w::r)) ln st vb:=by
 have hw0:=hw.head
 unfold q7m
 rw [show qu3 σ st kGo (w::r)=(if qos w.1=false then .inl 7 else q1w { σ with go:=w.1 } (kGo,([],v0)) st w) from rfl]
 simp only [k1o,Option.bind_some,j7g n w.1 (by omega) (by omega)]
 cases qos w.1 with
 | false=>exact ⟨_,rfl⟩
 | true =>
  simp only [Bool.not_true,cond_false,Bool.true_eq_false,if_false]
  exact (q4u n { σ with go:=w.1 } (kGo,([],v0)) w ln st vb hs hw0).bind (fun σ'=>rfl) (fun e y=>⟨_,rfl⟩)
theorem je2 (e:Int):q44 (Subtype.val (errT e))=some false:=rfl
theorem qin:q44 (Subtype.val qbs)=some true:=rfl
theorem qui (n:Nat) (σ:MS) (w x:Lx.Wd) (r:List Lx.Wd) (ln st:Int) (vb:VB) (hs:StB st) (hw:WB (w::x::r)) (hb:SB 200000 σ) (hn:200000<n) :
  Tl (q9c n () (w::x::r) σ.mo σ.go ln st σ.bk vb σ.sd σ.rq σ.sw σ.ex σ.rt) (qu3 σ st q8b (w::x::r)) ln st vb:=by
 have hw0:=hw.head
 have hx0:=hw.tail.head
 unfold q9c
 rw [show qu3 σ st q8b (w::x::r)=(match ja4 w.1 x.1 with
   | .inl e=>.inl e
   | .inr q=>q1w { σ with rq:=σ.rq ++ [q] } (q8b,(q.1,v0)) st x) from rfl]
 simp only [j4f n w x r (by omega) (by omega) (by omega) (by omega),Option.bind_some]
 cases ja4 w.1 x.1 with
 | inl e=>exact ⟨_,by simp only [je2,Option.bind_some,Bool.not_false,cond_true];rfl⟩
 | inr q =>
  have a1:q4q 72 σ.rq [q]=some (σ.rq ++ [q]):=q7c (by have:=hb.1;simp;omega)
  simp only [qin,Option.bind_some,Bool.not_true,cond_false,a1,idx1]
  exact (q4u n { σ with rq:=σ.rq ++ [q] } (q8b,(q.1,v0)) x ln st vb hs hx0).bind (fun σ'=>rfl) (fun e y=>⟨_,rfl⟩)
theorem qub (n:Nat) (σ:MS) (w x:Lx.Wd) (r:List Lx.Wd) (ln st:Int) (vb:VB) (hs:StB st) (hw:WB (w::x::r)) (hb:SB 200000 σ) (hn:200000<n) :
  Tl (qad n () (w::x::r) σ.mo σ.go ln st σ.bk vb σ.sd σ.rq σ.sw σ.ex σ.rt) (qu3 σ st qu2 (w::x::r)) ln st vb:=by
 have hw0:=hw.head
 have hx0:=hw.tail.head
 unfold qad
 rw [show qu3 σ st qu2 (w::x::r)=(match ja4 w.1 x.1 with
   | .inl e=>.inl e
   | .inr q=>q1w { σ with ex:=σ.ex ++ [q] } (qu2,(q.1,q.2)) st x) from rfl]
 simp only [j4f n w x r (by omega) (by omega) (by omega) (by omega),Option.bind_some]
 cases ja4 w.1 x.1 with
 | inl e=>exact ⟨_,by simp only [je2,Option.bind_some,Bool.not_false,cond_true];rfl⟩
 | inr q =>
  have a1:q4q 72 σ.ex [q]=some (σ.ex ++ [q]):=q7c (by have:=hb.2.2.1;simp;omega)
  simp only [qin,Option.bind_some,Bool.not_true,cond_false,a1,idx1]
  exact (q4u n { σ with ex:=σ.ex ++ [q] } (qu2,(q.1,q.2)) x ln st vb hs hx0).bind (fun σ'=>rfl) (fun e y=>⟨_,rfl⟩)
theorem qud (n:Nat) (σ:MS) (w x:Lx.Wd) (r:List Lx.Wd) (ln st:Int) (vb:VB) (hs:StB st) (hw:WB (w::x::r)) (hb:SB 200000 σ) (hn:200000<n) :
  Tl (qao n () (w::x::r) σ.mo σ.go ln st σ.bk vb σ.sd σ.rq σ.sw σ.ex σ.rt) (qu3 σ st qu0 (w::x::r)) ln st vb:=by
 have hw0:=hw.head
 have hx0:=hw.tail.head
 unfold qao
 rw [show qu3 σ st qu0 (w::x::r)=(if okS w.1=false then .inl 6 else if q56 x.1=false then .inl 6 else q1w { σ with sw:=σ.sw ++ [(w.1,x.1)] } (qu0,(w.1,v0)) st x) from rfl]
 simp only [k1o,idx1,Option.bind_some,qeu n w.1 (by omega) (by omega),qsl]
 cases okS w.1 with
 | false=>exact ⟨_,rfl⟩
 | true =>
  simp only [Bool.not_true,cond_false,Bool.true_eq_false,if_false]
  cases q56 x.1 with
  | false=>exact ⟨_,rfl⟩
  | true =>
   have a1:q4q 32 σ.sw [(w.1,x.1)]=some (σ.sw ++ [(w.1,x.1)]):=q7c (by have:=hb.2.1;simp;omega)
   simp only [Bool.not_true,cond_false,Bool.true_eq_false,if_false,a1,Option.bind_some]
   exact (q4u n { σ with sw:=σ.sw ++ [(w.1,x.1)] } (qu0,(w.1,v0)) x ln st vb hs hx0).bind (fun σ'=>rfl) (fun e y=>⟨_,rfl⟩)
theorem qu4 (n:Nat) (σ:MS) (w:Lx.Wd) (r:List Lx.Wd) (ln st:Int) (vb:VB) (hs:StB st) (hw:WB (w::r)) (hb:SB 200000 σ) (hn:200000<n) :
  Tl (q9o n () (w::r) σ.mo σ.go ln st σ.bk vb σ.sd σ.rq σ.sw σ.ex σ.rt) (qu3 σ st jpz (w::r)) ln st vb:=by
 have hw0:=hw.head
 have hw1:=hw.1
 obtain ⟨y,hy,hyi⟩ : ∃ y,r.getLast?.getD w=y/\q0z (w::r) (((w::r).length:Int) - 1)=some y:=by
  refine ⟨_,rfl,?_⟩
  have e0:(((w::r).length:Int) - 1)=((r.length:Nat):Int):=by simp
  rw [e0,q0x (l:=w::r) (j:=r.length) (by simp)]
  congr 1
  cases r with
  | nil=>rfl
  | cons a r=>rw [List.getLast?_eq_some_getLast (List.cons_ne_nil _ _),Option.getD_some,List.getLast_eq_getElem];simp
 have hyB:y.1.length<=100001:=by
  have hm:y∈w::r:=by
   rw [<-hy]
   cases r with
   | nil=>exact List.mem_cons_self ..
   | cons a r=>rw [List.getLast?_eq_some_getLast (List.cons_ne_nil _ _),Option.getD_some];exact List.mem_cons_of_mem _ (List.getLast_mem _)
  exact (hw.2 y hm).1
 unfold q9o
 rw [show qu3 σ st jpz (w::r)=(if (q10 w.1).2=false then .inl 7 else if (q10 ((r.getLast?.getD w).1)).2=false then .inl 7
  else if 0<jx5 (q10 w.1).1 (q10 ((r.getLast?.getD w).1)).1 then .inl 7 else .inr { σ with rt:=σ.rt ++ [jvq (q10 w.1).1 (q10 ((r.getLast?.getD w).1)).1] }) from rfl,hy]
 have e1:IntKind.wrap .i64 (((w::r).length:Int) - 1)=((w::r).length:Int) - 1:=wrap64 (by simp only [List.length_cons] at hw1 ⊢;omega) (by simp only [List.length_cons] at hw1 ⊢;omega)
 simp only [k1o,Option.bind_some,qeo n w.1 (by omega) (by omega),q05,e1,hyi,qeo n y.1 (by omega) (by omega),qyo n _ _ (show 100<=n by omega)]
 cases (q10 w.1).2 with
 | false=>exact ⟨_,rfl⟩
 | true =>
  simp only [Bool.not_true,cond_false,Bool.true_eq_false,if_false]
  cases (q10 y.1).2 with
  | false=>exact ⟨_,rfl⟩
  | true =>
   simp only [Bool.not_true,cond_false,Bool.true_eq_false,if_false]
   by_cases hc:0<jx5 (q10 w.1).1 (q10 y.1).1
   ·simp only [hc,decide_true,cond_true,if_true]
    exact ⟨_,rfl⟩
   ·have a1:q4q 112 σ.rt [jvq (q10 w.1).1 (q10 y.1).1]=some (σ.rt ++ [jvq (q10 w.1).1 (q10 y.1).1]):=q7c (by have:=hb.2.2.2;simp;omega)
    unfold jvq at a1
    simp only [hc,decide_false,cond_false,if_false,a1,Option.bind_some]
    rfl
end Go.Proofs.YtapfankgdkdkgaaGreatDoor.AM
namespace Go.Proofs.YtapfankgdkdkgaaGreatDoor.AM
open Go.RowKit
set_option linter.unusedVariables false
set_option linter.unusedSimpArgs false
theorem qv4 (c:UInt8) : ∀(r:List (List UInt8)) (x:List UInt8),c ∉ x->(∀y∈r,c ∉ y)->spl c [] (x++Lib.joinTail [c] r)=x::r
 | [],x,hx,_=>by
  show spl c [] (x ++ [])=_
  rw [qdn c x [] [] hx];simp [spl]
 | y::r,x,hx,h=>by
  have e:Lib.joinTail [c] (y::r)=c::(y++Lib.joinTail [c] r):=by simp [Lib.joinTail]
  rw [e,qdn c x [] _ hx,List.nil_append,spl,if_pos rfl,qv4 c r y (h y (List.mem_cons_self ..)) (fun z hz=>h z (List.mem_cons_of_mem _ hz))]
theorem qki {t:List UInt8} (h:j7f t=true):t = [61,62]\/t = [91]\/t = [44]\/t = [93]\/t = [40]\/t = [41]:=by
 simpa [j7f] using h
theorem k19 (w:Lx.Wd):(32:UInt8) ∉ qu1 w:=by
 unfold qu1
 split
 ·rename_i h
  rcases qki h with h|h|h|h|h|h<;>rw [h]<;>decide
 ·decide
theorem jwh {ws:List Lx.Wd} {S:List UInt8} (h:shp ws=S) (hS:S ≠ []):ws.map qu1=spl 32 [] S:=by
 cases ws with
 | nil=>exact absurd h.symm hS
 | cons w ws =>
  rw [<-h]
  show _=spl 32 [] (Lib.join (qu1 w::ws.map qu1) [32])
  rw [Lib.join_cons,qv4 32 _ _ (k19 w) (fun y hy=>by
   obtain ⟨z,_,rfl⟩:=List.mem_map.1 hy
   exact k19 z)]
  rfl
theorem j4r : ∀ws:List Lx.Wd,(unm ws).length=(ws.map qu1).count [120]
 | []=>rfl
 | w::ws=>by
  rw [List.map_cons,List.count_cons,unm,List.filter_cons]
  have ih:=j4r ws
  unfold unm at ih
  cases hk:j7f w.1 with
  | true =>
   have:qu1 w ≠ [120]:=by
    unfold qu1
    rw [if_pos hk]
    rcases qki hk with h|h|h|h|h|h<;>rw [h]<;>decide
   simp [ih,this]
  | false=>simp [qu1,hk,ih]
theorem q88 {ws:List Lx.Wd} {S:List UInt8} {k:Nat} (h:shp ws=S) (hS:S ≠ []) (hk:(spl 32 [] S).count [120]=k):(unm ws).length=k:=by
 rw [j4r,jwh h hS,hk]
theorem len1 {β:Type} {l:List β} (h:l.length=1) : ∃ a,l = [a]:=List.length_eq_one_iff.1 h
theorem k1l {β:Type} {l:List β} (h:l.length=2) : ∃ a b,l = [a,b]:=by
 match l,h with
 | [a,b],_=>exact ⟨a,b,rfl⟩
theorem k0l (ws:List Lx.Wd):(unm ws).length<=ws.length:=List.length_filter_le ..
theorem WB.unm {ws:List Lx.Wd} (h:WB ws):WB (unm ws):=⟨Nat.le_trans (k0l ws) h.1,fun w hw=>h.2 w (List.mem_filter.1 hw).1⟩
def vbs:VB:=[(qnh,([[120]],(false,qzl 87))),(kGo,([[120]],(false,qzl 88))),(q8b,([[120,32,120]],(true,qzl 89))),(qu2,([[120,32,120]],(true,qzl 90))),
 (qu0,([[120,32,61,62,32,120]],(true,qzl 91))),(jpz,([[120],[91,32,120,32,44,32,120,32,93]],(true,qzl 92)))]
theorem j9a (n:Nat):qnk n=some ((),((vbs,()),())):=rfl
theorem q2q {x:Option (IV×PK)} {r:Int⊕MS} {ln st:Int} {vb:VB} {f:IV×PK->Option (IV×PK)} (h:Tl x r ln st vb) (hf : ∀e y,f (e,y)=some (e,y)):Tl (x.bind f) r ln st vb :=
 h.bind (fun σ'=>hf _ _) (fun e y=>⟨y,hf _ _⟩)
theorem j6d {v:List UInt8} (h1:v≠qnh) (h2:v≠kGo) (h3:v≠q8b) (h4:v≠qu2) (h5:v≠qu0) (h6:v≠jpz):qe0 v vbs=none:=by
 unfold vbs
 simp only [qe0,if_neg h1,if_neg h2,if_neg h3,if_neg h4,if_neg h5,if_neg h6]
theorem qqk (n:Nat) (σ:MS) (v:List UInt8) (ws:List Lx.Wd) (ln st:Int) (hs:StB st) (hw:WB ws) (hb:SB 200000 σ) (hn:200000<n) :
  Tl (q9d n () v ws σ.mo σ.go ln st σ.bk vbs σ.sd σ.rq σ.sw σ.ex σ.rt) (q6d σ st v ws) ln st vbs:=by
 have hu:=hw.unm
 have hwl:=hw.1
 unfold q9d q6d
 simp only [qfl n ws hw (by omega),jkn n ws hw.1 (by omega),Option.bind_some]
 by_cases h1:v=qnh
 ·subst h1
  rw [show qe0 qnh vbs=some ([[120]],(false,qzl 87)) from rfl,show q3v qnh = [[120]] from rfl]
  simp only [quf,q1r n [[120]] (shp ws) (by simp) (by simp;omega),Option.bind_some]
  by_cases hm:shp ws ∈ [[(120:UInt8)]]
  ·obtain ⟨w,hw'⟩:=len1 (q88 (k:=1) (List.mem_singleton.1 hm) (by decide) (by decide))
   rw [hw'] at hu ⊢
   rw [decide_eq_true hm,if_pos hm]
   exact q2q (j12 n σ w [] ln st vbs hs hu hn) (fun e y=>rfl)
  ·rw [decide_eq_false hm,if_neg hm];exact ⟨_,rfl⟩
 by_cases h2:v=kGo
 ·subst h2
  rw [show qe0 kGo vbs=some ([[120]],(false,qzl 88)) from rfl,show q3v kGo = [[120]] from rfl]
  simp only [quf,q1r n [[120]] (shp ws) (by simp) (by simp;omega),Option.bind_some]
  by_cases hm:shp ws ∈ [[(120:UInt8)]]
  ·obtain ⟨w,hw'⟩:=len1 (q88 (k:=1) (List.mem_singleton.1 hm) (by decide) (by decide))
   rw [hw'] at hu ⊢
   rw [decide_eq_true hm,if_pos hm]
   exact q2q (qs4 n σ w [] ln st vbs hs hu hn) (fun e y=>rfl)
  ·rw [decide_eq_false hm,if_neg hm];exact ⟨_,rfl⟩
 by_cases h3:v=q8b
 ·subst h3
  rw [show qe0 q8b vbs=some ([[120,32,120]],(true,qzl 89)) from rfl,show q3v q8b = [[120,32,120]] from rfl]
  simp only [quf,q1r n [[120,32,120]] (shp ws) (by simp) (by simp;omega),Option.bind_some]
  by_cases hm:shp ws ∈ [[(120:UInt8),32,120]]
  ·obtain ⟨w,x,hw'⟩:=k1l (q88 (k:=2) (List.mem_singleton.1 hm) (by decide) (by decide))
   rw [hw'] at hu ⊢
   rw [decide_eq_true hm,if_pos hm]
   exact q2q (qui n σ w x [] ln st vbs hs hu hb hn) (fun e y=>rfl)
  ·rw [decide_eq_false hm,if_neg hm];exact ⟨_,rfl⟩
 by_cases h4:v=qu2
 ·subst h4
  rw [show qe0 qu2 vbs=some ([[120,32,120]],(true,qzl 90)) from rfl,show q3v qu2 = [[120,32,120]] from rfl]
  simp only [quf,q1r n [[120,32,120]] (shp ws) (by simp) (by simp;omega),Option.bind_some]
  by_cases hm:shp ws ∈ [[(120:UInt8),32,120]]
  ·obtain ⟨w,x,hw'⟩:=k1l (q88 (k:=2) (List.mem_singleton.1 hm) (by decide) (by decide))
   rw [hw'] at hu ⊢
   rw [decide_eq_true hm,if_pos hm]
   exact q2q (qub n σ w x [] ln st vbs hs hu hb hn) (fun e y=>rfl)
  ·rw [decide_eq_false hm,if_neg hm];exact ⟨_,rfl⟩
 by_cases h5:v=qu0
 ·subst h5
  rw [show qe0 qu0 vbs=some ([[120,32,61,62,32,120]],(true,qzl 91)) from rfl,show q3v qu0 = [[120,32,61,62,32,120]] from rfl]
  simp only [quf,q1r n [[120,32,61,62,32,120]] (shp ws) (by simp) (by simp;omega),Option.bind_some]
  by_cases hm:shp ws ∈ [[(120:UInt8),32,61,62,32,120]]
  ·obtain ⟨w,x,hw'⟩:=k1l (q88 (k:=2) (List.mem_singleton.1 hm) (by decide) (by decide))
   rw [hw'] at hu ⊢
   rw [decide_eq_true hm,if_pos hm]
   exact q2q (qud n σ w x [] ln st vbs hs hu hb hn) (fun e y=>rfl)
  ·rw [decide_eq_false hm,if_neg hm];exact ⟨_,rfl⟩
 by_cases h6:v=jpz
 ·subst h6
  rw [show qe0 jpz vbs=some ([[120],[91,32,120,32,44,32,120,32,93]],(true,qzl 92)) from rfl,show q3v jpz = [[120],[91,32,120,32,44,32,120,32,93]] from rfl]
  simp only [quf,q1r n [[120],[91,32,120,32,44,32,120,32,93]] (shp ws) (by simp) (by simp;omega),Option.bind_some]
  by_cases hm:shp ws ∈ [[(120:UInt8)],[91,32,120,32,44,32,120,32,93]]
  ·obtain ⟨w,r,hw'⟩ : ∃ w r,unm ws=w::r:=by
    rcases List.mem_cons.1 hm with h|h
    ·obtain ⟨w,hw'⟩:=len1 (q88 (k:=1) h (by decide) (by decide))
     exact ⟨w,[],hw'⟩
    ·obtain ⟨w,x,hw'⟩:=k1l (q88 (k:=2) (List.mem_singleton.1 h) (by decide) (by decide))
     exact ⟨w,[x],hw'⟩
   rw [hw'] at hu ⊢
   rw [decide_eq_true hm,if_pos hm]
   exact q2q (qu4 n σ w r ln st vbs hs hu hb hn) (fun e y=>rfl)
  ·rw [decide_eq_false hm,if_neg hm];exact ⟨_,rfl⟩
 ·rw [j6d h1 h2 h3 h4 h5 h6,show q3v v = [] by simp only [q3v,if_neg h1,if_neg h2,if_neg h3,if_neg h4,if_neg h5,if_neg h6]]
  simp only [quf,q1r n [] (shp ws) (by simp) (by simp;omega),Option.bind_some]
  exact ⟨_,rfl⟩
theorem jq9 (v:List UInt8):(∃ y,qe0 v vbs=some y/\y.2.1=qdi v)\/(qe0 v vbs=none/\qdi v=false):=by
 by_cases h1:v=qnh
 ·subst h1;exact .inl ⟨_,rfl,by decide⟩
 by_cases h2:v=kGo
 ·subst h2;exact .inl ⟨_,rfl,by decide⟩
 by_cases h3:v=q8b
 ·subst h3;exact .inl ⟨_,rfl,by decide⟩
 by_cases h4:v=qu2
 ·subst h4;exact .inl ⟨_,rfl,by decide⟩
 by_cases h5:v=qu0
 ·subst h5;exact .inl ⟨_,rfl,by decide⟩
 by_cases h6:v=jpz
 ·subst h6;exact .inl ⟨_,rfl,by decide⟩
 ·exact .inr ⟨j6d h1 h2 h3 h4 h5 h6,by simp only [qdi,decide_eq_false h3,decide_eq_false h4,decide_eq_false h5,decide_eq_false h6,Bool.or_self]⟩
theorem jhr (n:Nat) (σ:MS) (v:List UInt8) (ws:List Lx.Wd) (ln st:Int) (hs:StB st) (hw:WB ws) (hb:SB 200000 σ) (hn:200000<n) :
  Tl (j0h n () v ws σ.mo σ.go ln st σ.bk vbs σ.sd σ.rq σ.sw σ.ex σ.rt) (if qdi v=true/\shp ws = [40] then .inr { σ with bk:=v } else q6d σ st v ws) ln st vbs:=by
 have hwl:=hw.1
 have hS:=qqk n σ v ws ln st hs hw hb hn
 unfold j0h
 rcases jq9 v with ⟨y,h1,h2⟩|⟨h1,h2⟩
 ·rw [h1]
  simp only [quf,h2,qfl n ws hw (by omega),Option.bind_some]
  cases qdi v with
  | false =>
   simp only [cond_false,Bool.false_eq_true,false_and,if_false]
   exact q2q hS (fun e y=>rfl)
  | true =>
   simp only [cond_true,true_and]
   by_cases hp:shp ws = [40]
   ·rw [decide_eq_true hp,if_pos hp];rfl
   ·rw [decide_eq_false hp,if_neg hp]
    exact q2q hS (fun e y=>rfl)
 ·rw [h1]
  simp only [quf,h2,Bool.false_eq_true,false_and,if_false]
  exact q2q hS (fun e y=>rfl)
theorem j9e (n:Nat) (σ:MS) (ws:List Lx.Wd) (ln st:Int) (hs:StB st) (hw:WB ws) (hb:SB 200000 σ) (hn:200000<n) :
  Tl (qg3 n () ws σ.mo σ.go ln st σ.bk vbs σ.sd σ.rq σ.sw σ.ex σ.rt) (q58 σ st ws) ln st vbs:=by
 have hwl:=hw.1
 unfold qg3
 cases ws with
 | nil=>rfl
 | cons w r =>
  have c0 : ¬ ((((w::r).length:Nat):Int)=0):=by simp only [List.length_cons];omega
  have hsub:q2k (w::r) (1:Int) (((w::r).length:Nat):Int)=some r:=by
   have:=sub_le (l:=w::r) (a:=1) (b:=(w::r).length) (by simp) (Nat.le_refl _)
   rw [show ((1:Nat):Int)=(1:Int) from rfl] at this
   rw [this];simp
  unfold q58
  simp only [c0,decide_false,cond_false,k1o,hsub,Option.bind_some,qfl n (w::r) hw (by omega)]
  by_cases hb0:σ.bk = []
  ·rw [decide_eq_true hb0,if_pos hb0]
   exact q2q (jhr n σ w.1 r ln st hs hw.tail hb hn) (fun e y=>rfl)
  ·rw [decide_eq_false hb0,if_neg hb0]
   by_cases hp:shp (w::r) = [41]
   ·rw [cond_false,decide_eq_true hp,if_pos hp];rfl
   ·rw [cond_false,decide_eq_false hp,if_neg hp]
    exact q2q (qqk n σ σ.bk (w::r) ln st hs hw hb hn) (fun e y=>rfl)
end Go.Proofs.YtapfankgdkdkgaaGreatDoor.AM
