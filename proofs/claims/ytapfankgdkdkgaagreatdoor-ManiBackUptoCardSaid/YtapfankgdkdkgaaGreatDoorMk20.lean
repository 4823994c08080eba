
import Derived.Test.YtapfankgdkdkgaaGreatDoorMk13
import Derived.Test.YtapfankgdkdkgaaGreatDoorMk14
import Derived.Test.YtapfankgdkdkgaaGreatDoorMk19
namespace Go.Proofs.YtapfankgdkdkgaaGreatDoor.AM
open Go.RowKit
set_option linter.unusedVariables false
set_option linter.unusedSimpArgs false
theorem qpt (n:Nat) (a b:Int):qak n a b=some (j0c a b):=by
 unfold qak qyl j0c
 simp only [decide_true,Bool.not_true,Option.bind_some,cond_false]
 by_cases h1:a<b
 ·simp [h1]
 ·by_cases h2:b<a
  ·simp [h1,h2]
  ·simp [h1,h2]
def qa1:List Int->Int
 | []=>0
 | x::l=>or2 x (qa1 l)
theorem qwb (n:Nat) (l:List Int) (hL:l.length<=1000000) : ∀m j:Nat,j<=l.length->l.length - j<m->qa9 n m 0 l ((l.length:Nat):Int) (j:Int)=some (if qa1 (l.drop j)=0 then Sum.inr (((0:Int),()),((),())) else Sum.inl ((qa1 (l.drop j),()),((),())))
 | 0,j,_,h=>absurd h (Nat.not_lt_zero _)
 | m+1,j,hj,h=>by
  rw [qmk]
  unfold qy4
  by_cases c0:j<l.length
  ·have c0':((j:Nat):Int)<((l.length:Nat):Int):=by omega
   have ih:=qwb n l hL m (j+1) (by omega) (by omega)
   have hd:l.drop j=l[j]::l.drop (j+1):=(List.drop_eq_getElem_cons c0)
   simp only [c0',decide_true,cond_true,q0o c0,Option.bind_some,q08,q07 (show j<4611686018427387904 by omega),ih,hd,qa1,or2]
   by_cases h0:l[j]=0
   ·simp [h0]
   ·simp [h0]
  ·have c0' : ¬ ((j:Nat):Int)<((l.length:Nat):Int):=by omega
   have:l.drop j = []:=List.drop_eq_nil_of_le (by omega)
   simp [c0',this,qa1]
theorem qv1 (n:Nat) (l:List Int) (hL:l.length<=1000000) (hn:l.length<n):qoz n l=some (qa1 l):=by
 unfold qoz
 have:=qwb n l hL n 0 (Nat.zero_le _) (by omega)
 rw [show ((0:Nat):Int)=(0:Int) from rfl] at this
 rw [this,List.drop_zero]
 by_cases h:qa1 l=0
 ·simp [h]
 ·simp [h]
theorem q8p (n:Nat) (v:VD) (hn:4<=n):q6w n v=some (q0n v):=by
 unfold q6w q0n
 rw [q6c n v hn]
 cases hc:q10 v with
 | false=>rfl
 | true =>
  obtain ⟨h1,h2,h3,h4,h5⟩:=q2m hc
  have l1:=qcj h1
  have l2:=qcj h2
  have l3:=qcj h3
  have t1:=q7u h4
  have t2:=q7u h5
  simp only [Option.bind_some,Bool.not_true,cond_false,qqs h1,qqs h2,qqs h3,if_true]
  unfold jra q6u
  generalize Lib.itoa v.1=A at l1
  generalize Lib.itoa v.2.1=B at l2
  generalize Lib.itoa v.2.2.1=C at l3
  generalize v.2.2.2.1=p at t1
  generalize v.2.2.2.2=q at t2
  rw [q2b (by simp;omega)];simp only [Option.bind_some]
  rw [q2b (by simp;omega)];simp only [Option.bind_some]
  rw [q2b (by simp;omega)];simp only [Option.bind_some]
  rw [q2b (by simp;omega)];simp only [Option.bind_some]
  rw [q2b (by simp;omega)];simp only [Option.bind_some]
  have k1:qc4 [45] p=some ([45]++p):=q2b (by simp;omega)
  have k2:qc4 [43] q=some ([43]++q):=q2b (by simp;omega)
  by_cases hp:p = []
  ·by_cases hq:q = []
   ·simp [hp,hq]
   ·simp only [hp,hq,decide_true,decide_false,Bool.not_true,Bool.not_false,cond_true,cond_false,k2,Option.bind_some]
    rw [q2b (by simp;omega)]
    simp
  ·by_cases hq:q = []
   ·simp only [hp,hq,decide_true,decide_false,Bool.not_true,Bool.not_false,cond_true,cond_false,k1,Option.bind_some]
    rw [q2b (by simp;omega)]
    simp
   ·simp only [hp,hq,decide_true,decide_false,Bool.not_true,Bool.not_false,cond_true,cond_false,k1,k2,Option.bind_some]
    rw [q2b (by simp;omega)];simp only [Option.bind_some]
    rw [q2b (by simp;omega)]
    simp
theorem qgj (n:Nat) (c:UInt8) (s:List UInt8) (hs:s.length<=1000000) : ∃ b,j1l n s [c]=some (q38 c s,(qdv c s,b)):=by
 unfold j1l jni qph q38 qdv
 simp only [show s.length<4294967281 from by omega,if_true,Option.bind_some]
 have hge:=Lib.index_ge s [c]
 by_cases h1:Lib.index s [c] = -1
 ·simp only [h1,show ¬ (0:Int)<=-1 from by decide,decide_false,cond_false,Option.bind_some,if_true]
  exact ⟨_,rfl⟩
 ·obtain ⟨i,hi⟩ : ∃ i:Nat,Lib.index s [c]=(i:Int):=⟨(Lib.index s [c]).toNat,by omega⟩
  have hlt:=jdk c s i hi
  have n1 : ¬ ((i:Nat):Int) = -1:=by omega
  have n2:(0:Int)<=((i:Nat):Int):=by omega
  rw [hi]
  have w1:IntKind.wrap .i64 (((i:Nat):Int)+((List.length [c]:Nat):Int))=((i+1:Nat):Int):=q07 (by omega)
  simp only [n1,n2,decide_true,cond_true,if_false,sub_zero (show i<=s.length by omega),Option.bind_some,q08,w1,sub_le (show i+1<=s.length by omega) (Nat.le_refl _),Int.toNat_natCast]
  refine ⟨true,?_⟩
  have e6:(s.drop (i+1)).take (s.length - (i+1))=s.drop (i+1):=List.take_of_length_le (by rw [List.length_drop];exact Nat.le_refl _)
  rw [e6]
theorem qi8 (c:UInt8) (s:List UInt8):(q38 c s).length<=s.length:=by
 unfold q38;split
 ·exact Nat.le_refl _
 ·rw [List.length_take];omega
theorem qnb (c:UInt8) (s:List UInt8):(qdv c s).length<=s.length:=by
 unfold qdv;split
 ·simp
 ·rw [List.length_drop];omega
theorem qeo (n:Nat) (s:List UInt8) (hs:s.length<=1000000) (hn:4<=n):qcs n s=some (q0v s):=by
 unfold qcs q0v jg4
 obtain ⟨b1,e1⟩:=qgj n 43 s hs
 have l1:=qi8 43 s
 have l1':=qnb 43 s
 obtain ⟨b2,e2⟩:=qgj n 45 (q38 43 s) (by omega)
 have l2:=qi8 45 (q38 43 s)
 have e3:=j0y n (q38 45 (q38 43 s)) (by omega)
 have l3:=j25 (q38 45 (q38 43 s))
 obtain ⟨b4,e4⟩:=qgj n 46 (q1m (q38 45 (q38 43 s))) (by omega)
 have l4:=qi8 46 (q1m (q38 45 (q38 43 s)))
 have l4':=qnb 46 (q1m (q38 45 (q38 43 s)))
 obtain ⟨b5,e5⟩:=qgj n 46 (qdv 46 (q1m (q38 45 (q38 43 s)))) (by omega)
 have l5:=qi8 46 (qdv 46 (q1m (q38 45 (q38 43 s))))
 have l5':=qnb 46 (qdv 46 (q1m (q38 45 (q38 43 s))))
 have m1:q5q (q38 46 (q1m (q38 45 (q38 43 s))))=some (qfr (q38 46 (q1m (q38 45 (q38 43 s))))):=if_pos (by omega)
 have m2:q5q (q38 46 (qdv 46 (q1m (q38 45 (q38 43 s)))))=some (qfr (q38 46 (qdv 46 (q1m (q38 45 (q38 43 s)))))):=if_pos (by omega)
 have m3:q5q (qdv 46 (qdv 46 (q1m (q38 45 (q38 43 s)))))=some (qfr (qdv 46 (qdv 46 (q1m (q38 45 (q38 43 s)))))):=if_pos (by omega)
 simp only [e1,Option.bind_some,e2,e3,e4,e5,m1,m2,m3]
 generalize (qfr (q38 46 (q1m (q38 45 (q38 43 s)))),(qfr (q38 46 (qdv 46 (q1m (q38 45 (q38 43 s))))),(qfr (qdv 46 (qdv 46 (q1m (q38 45 (q38 43 s))))),(qdv 45 (q38 43 s),qdv 43 s))))=v
 rw [q6c n v hn,q8p n v hn]
 cases hc:q10 v with
 | false=>simp
 | true =>
  by_cases ht:q0n v=s
  ·simp [ht]
  ·simp [ht]
theorem jfz (n:Nat) (a b:List UInt8) (ha:a.length<=1000000) (hb:b.length<=1000000) (hn:a.length<n/\b.length<n/\3<=n):qyu n a b=some (juo a b):=by
 unfold qyu juo jvu qhf
 rw [qac n a ha hn.1,qac n b hb hn.2.1]
 simp only [Option.bind_some,qpt,qc2]
 cases q6v a with
 | false=>cases q6v b with
  | false =>
   simp only [cond_false,Bool.false_eq_true,if_false]
   unfold qub j0c or2
   simp
  | true =>
   simp only [cond_false,cond_true,Bool.false_eq_true,if_false,if_true]
   unfold qub j0c or2
   simp
 | true=>cases q6v b with
  | false =>
   simp only [cond_false,cond_true,Bool.false_eq_true,if_false,if_true]
   unfold qub j0c or2
   simp
  | true =>
   simp only [cond_true,if_true]
   rw [qv1 n _ (by simp) (by simp;omega)]
   simp only [Option.bind_some,qa1]
   unfold qub
   have e0:j0c (0:Int) 0=0:=by decide
   dsimp only
   rw [e0]
   unfold or2
   simp only [if_true]
   split
   ·split<;>simp_all
   ·rfl
theorem qm0 (n:Nat) (l1 l2:List (List UInt8)) (h1:l1.length<=1000000) (h2:l2.length<=1000000) (hw : ∀w,w∈l1\/w∈l2->w.length<=1000000/\w.length<n) (hn:3<=n) : ∀m j:Nat,j<=l1.length->j<=l2.length->l1.length - j<m ->
  ((q5l n m l1 l2 l1 ((l1.length:Nat):Int) (j:Int)).bind fun (o5:((Int×(Unit))×(Unit)×(Unit))⊕(((List (List UInt8))×((List (List UInt8))×(Unit)))×(Unit)×(Unit)))=>Sum.elim (fun (q6:(Int×(Unit))×(Unit)×(Unit))=>some q6.1.1) (fun (q7:((List (List UInt8))×((List (List UInt8))×(Unit)))×(Unit)×(Unit))=>(bif decide (((List.length q7.1.1:Nat):Int)<((List.length q7.1.2.1:Nat):Int)) then some (-1:Int) else some (0:Int))) o5)=some (cmpL juo (l1.drop j) (l2.drop j))
 | 0,j,_,_,h=>absurd h (Nat.not_lt_zero _)
 | m+1,j,hj,hj2,h=>by
  rw [qhj]
  unfold qks
  by_cases c0:j<l1.length
  ·have c0':((j:Nat):Int)<((l1.length:Nat):Int):=by omega
   have hd:l1.drop j=l1[j]::l1.drop (j+1):=(List.drop_eq_getElem_cons c0)
   by_cases c1:j<l2.length
   ·have c1' : ¬ ((l2.length:Nat):Int)<=((j:Nat):Int):=by omega
    have hd2:l2.drop j=l2[j]::l2.drop (j+1):=(List.drop_eq_getElem_cons c1)
    have ih:=qm0 n l1 l2 h1 h2 hw hn m (j+1) (by omega) (by omega) (by omega)
    have k1:=hw l1[j] (Or.inl (List.getElem_mem c0))
    have k2:=hw l2[j] (Or.inr (List.getElem_mem c1))
    have hp:=jfz n l1[j] l2[j] k1.1 k2.1 ⟨k1.2,k2.2,hn⟩
    rw [hd,hd2,cmpL]
    simp only [c0',decide_true,cond_true,q0o c0,Option.bind_some,c1',decide_false,cond_false,q0o c1,hp,q08,q07 (show j<4611686018427387904 by omega)]
    unfold or2
    by_cases h0:juo l1[j] l2[j]=0
    ·simp only [h0,decide_true,Bool.not_true,cond_false,if_true]
     exact ih
    ·simp only [h0,decide_false,Bool.not_false,cond_true,if_false,Option.bind_some,Sum.elim_inl]
   ·have c1':((l2.length:Nat):Int)<=((j:Nat):Int):=by omega
    have hd2:l2.drop j = []:=List.drop_eq_nil_of_le (by omega)
    rw [hd,hd2,cmpL]
    simp only [c0',decide_true,cond_true,q0o c0,Option.bind_some,c1',Sum.elim_inl]
  ·have c0' : ¬ ((j:Nat):Int)<((l1.length:Nat):Int):=by omega
   have hd:l1.drop j = []:=List.drop_eq_nil_of_le (by omega)
   simp only [c0',decide_false,cond_false,Option.bind_some,Sum.elim_inr]
   have hje:j=l1.length:=by omega
   rw [hd]
   by_cases c1:j<l2.length
   ·have hd2:l2.drop j=l2[j]::l2.drop (j+1):=(List.drop_eq_getElem_cons c1)
    have c2:((l1.length:Nat):Int)<((l2.length:Nat):Int):=by omega
    rw [hd2]
    simp only [c2,decide_true,cond_true,cmpL]
   ·have hd2:l2.drop j = []:=List.drop_eq_nil_of_le (by omega)
    have c2 : ¬ ((l1.length:Nat):Int)<((l2.length:Nat):Int):=by omega
    rw [hd2]
    simp only [c2,decide_false,cond_false,cmpL]
theorem j3m (n:Nat) (l1 l2:List (List UInt8)) (h1:l1.length<=1000000) (h2:l2.length<=1000000) (hw : ∀w,w∈l1\/w∈l2->w.length<=1000000/\w.length<n) (hn:3<=n) (hn2:l1.length<n):qql n l1 l2 ()=some (cmpL juo l1 l2):=by
 have:=qm0 n l1 l2 h1 h2 hw hn n 0 (Nat.zero_le _) (Nat.zero_le _) (by omega)
 rw [List.drop_zero,List.drop_zero] at this
 exact this
theorem jkv (n:Nat) (a b:List UInt8) (ha:a.length<=100000) (hb:b.length<=100000) (hn:a.length+3<n/\b.length+3<n):jca n a b=some (qvy a b):=by
 unfold jca
 by_cases hab:a=b
 ·subst hab
  rw [jge.refl]
  simp
 ·simp only [hab,decide_false,cond_false]
  by_cases h1:a = []
  ·have hb0:b ≠ []:=fun e=>hab (by rw [h1,e])
   simp only [h1,decide_true,cond_true]
   unfold qvy qub jt7 j0c or2
   simp [hb0]
  ·simp only [h1,decide_false,cond_false]
   by_cases h2:b = []
   ·simp only [h2,decide_true,cond_true]
    unfold qvy qub jt7 j0c or2
    simp [h1]
   ·simp only [h2,decide_false,cond_false]
    have s1:qa6 a [46]=some (spl 46 [] a):=if_pos (by omega)
    have s2:qa6 b [46]=some (spl 46 [] b):=if_pos (by omega)
    have k1:=qf5 46 a []
    have k2:=qf5 46 b []
    rw [s1,s2]
    simp only [Option.bind_some]
    rw [j3m n _ _ (by omega) (by omega) (fun w hw=>by
     rcases hw with hw|hw
     ·have:=qkv 46 a [] w hw;simp at this;omega
     ·have:=qkv 46 b [] w hw;simp at this;omega) (by omega) (by omega)]
    unfold qvy jt7
    simp only [h1,h2,if_false]
    unfold qub
    have e0:j0c (0:Int) 0=0:=by decide
    dsimp only
    rw [e0]
    unfold or2
    simp
theorem qyp (n:Nat) (a b:VD) (hn:100<=n):qdn n a b=some (jo7 a b):=by
 unfold qdn jo7
 rw [q6c n a (by omega),q6c n b (by omega)]
 cases hca:q10 a with
 | false=>rfl
 | true=>cases hcb:q10 b with
  | false=>rfl
  | true =>
   obtain ⟨-,-,-,h4,-⟩:=q2m hca
   obtain ⟨-,-,-,k4,-⟩:=q2m hcb
   have t1:=q7u h4
   have t2:=q7u k4
   simp only [Option.bind_some,Bool.not_true,cond_false,qpt]
   rw [jkv n _ _ (by omega) (by omega) ⟨by omega,by omega⟩]
   simp only [Option.bind_some]
   rw [qv1 n _ (by simp) (by simp;omega)]
   simp only [Option.bind_some,qa1,Bool.and_self,if_true]
   have z0 : ∀x:Int,or2 x 0=x:=fun x=>by unfold or2;split<;>simp_all
   rw [z0]
   rfl
end Go.Proofs.YtapfankgdkdkgaaGreatDoor.AM
namespace Go.Proofs.YtapfankgdkdkgaaGreatDoor.AM
open Go.RowKit
set_option linter.unusedVariables false
set_option linter.unusedSimpArgs false
def WB (ws:List Lx.Wd):Prop:=ws.length<=100001/\∀w∈ws,w.1.length<=100001/\0<=w.2/\w.2<=100001
theorem qww (n:Nat) (w:Lx.Wd):qro n w=some (qfa w.1):=by
 unfold qro qfa
 by_cases h1:w.1 = [61,62]
 ·simp [h1]
 by_cases h2:w.1 = [91]
 ·simp [h2]
 by_cases h3:w.1 = [44]
 ·simp [h3]
 by_cases h4:w.1 = [93]
 ·simp [h4]
 by_cases h5:w.1 = [40]
 ·simp [h5]
 by_cases h6:w.1 = [41]
 ·simp [h6]
 simp only [h1,h2,h3,h4,h5,h6,decide_false,cond_false,Bool.or_false,Bool.false_or]
theorem qla (c:UInt8) (B:Nat) : ∀r:List (List UInt8),(∀x∈r,x.length<=B)->(Lib.joinTail [c] r).length<=r.length*(B+1)
 | [],_=>by simp [Lib.joinTail]
 | x::r,h=>by
  have h1:=qla c B r (fun y hy=>h y (List.mem_cons_of_mem _ hy))
  have h2:=h x (List.mem_cons_self ..)
  show ([c]++x++Lib.joinTail [c] r).length<=_
  simp only [List.length_append,List.length_cons,List.length_nil]
  rw [Nat.succ_mul]
  omega
theorem j67 (c:UInt8) (B:Nat) (r:List (List UInt8)) (h : ∀x∈r,x.length<=B):(Lib.join r [c]).length<=r.length*(B+1):=by
 cases r with
 | nil=>simp [Lib.join_nil]
 | cons x r =>
  rw [Lib.join_cons]
  have h1:=qla c B r (fun y hy=>h y (List.mem_cons_of_mem _ hy))
  have h2:=h x (List.mem_cons_self ..)
  simp only [List.length_append,List.length_cons]
  rw [Nat.succ_mul]
  omega
theorem jvo (w:Lx.Wd) (h:w.1.length<=100001):(qts w).length<=100001:=by
 unfold qts;split
 ·exact h
 ·simp
theorem jsg {xs:List (List UInt8)} {c:UInt8} (hl:xs.length<=200000) (hx : ∀x∈xs,x.length<=200000):q7e xs [c]=some (Lib.join xs [c]):=by
 unfold q7e
 have:=j67 c 200000 xs hx
 rw [if_pos ⟨by omega,by
  have:xs.length*(200000+1)<=200000*200001:=Nat.mul_le_mul_right _ hl
  omega⟩]
theorem qef (n:Nat) (ws:List Lx.Wd) (hw:ws.length<=100001) : ∀(m j:Nat) (out:List (List UInt8)),j<=ws.length->ws.length - j<m->out.length=j ->
  q86 n m ws ((ws.length:Nat):Int) (j:Int) out=some (((),()),((),(out++(ws.drop j).map qts,())))
 | 0,j,_,_,h,_=>absurd h (Nat.not_lt_zero _)
 | m+1,j,out,hj,h,ho=>by
  rw [qj4]
  unfold qrf
  by_cases c0:j<ws.length
  ·have c0':((j:Nat):Int)<((ws.length:Nat):Int):=by omega
   have e1:out++(ws.drop j).map qts=(out ++ [qts ws[j]])++(ws.drop (j+1)).map qts:=by
    rw [List.drop_eq_getElem_cons c0];simp only [List.map_cons,List.append_assoc,List.cons_append,List.nil_append]
   simp only [c0',decide_true,cond_true,q0o c0,Option.bind_some,qww,q08,q07 (show j<4611686018427387904 by omega)]
   rw [e1]
   cases hk:qfa ws[j].1 with
   | true =>
    have a1:q3e 16 out [ws[j].1]=some (out ++ [ws[j].1]):=q37 (by simp;omega)
    simp only [cond_true,a1,Option.bind_some]
    rw [qef n ws hw m (j+1) _ (by omega) (by omega) (by simp;omega)]
    simp only [qts,hk,if_true]
   | false =>
    have a1:q3e 16 out [([120]:List UInt8)]=some (out ++ [[120]]):=q37 (by simp;omega)
    simp only [cond_false,a1,Option.bind_some]
    rw [qef n ws hw m (j+1) _ (by omega) (by omega) (by simp;omega)]
    simp only [qts,hk,Bool.false_eq_true,if_false]
  ·have c0' : ¬ ((j:Nat):Int)<((ws.length:Nat):Int):=by omega
   simp only [c0',decide_false,cond_false]
   rw [List.drop_eq_nil_of_le (by omega)]
   simp
theorem qep (n:Nat) (ws:List Lx.Wd) (hw:WB ws) (hn:ws.length<n):q9o n ws=some (shp ws):=by
 unfold q9o
 have h:=qef n ws hw.1 n 0 [] (Nat.zero_le _) (by omega) rfl
 rw [show ((0:Nat):Int)=(0:Int) from rfl] at h
 rw [h]
 have hj:q7e (ws.map qts) [32]=some (shp ws):=jsg (by rw [List.length_map];have:=hw.1;omega) (fun x hx=>by
  obtain ⟨w,hw1,rfl⟩:=List.mem_map.1 hx
  have:=jvo w (hw.2 w hw1).1;omega)
 simp only [Option.bind_some,List.nil_append,List.drop_zero,hj]
theorem qo0 (n:Nat) (l:List (List UInt8)) (x:List UInt8) (hl:l.length<=1000000) : ∀(m j:Nat),j<=l.length->l.length - j<m ->
  ∃ k:Int,(q7h n m l x ((l.length:Nat):Int) (j:Int)).bind (fun o3=>Sum.elim (fun q4=>some q4.1.1) (fun q5=>some (-1:Int)) o3)=some k/\(0<=k↔x∈l.drop j)
 | 0,j,_,h=>absurd h (Nat.not_lt_zero _)
 | m+1,j,hj,h=>by
  rw [qja]
  unfold qp2
  by_cases c0:j<l.length
  ·have c0':((j:Nat):Int)<((l.length:Nat):Int):=by omega
   simp only [c0',decide_true,cond_true,q0o c0,Option.bind_some]
   rw [List.drop_eq_getElem_cons c0]
   by_cases hx:x=l[j]
   ·exact ⟨(j:Int),by simp only [hx,decide_true,cond_true,Option.bind_some,Sum.elim_inl],⟨fun _=>by rw [hx];exact List.mem_cons_self ..,fun _=>by omega⟩⟩
   ·simp only [hx,decide_false,cond_false,q08,q07 (show j<4611686018427387904 by omega)]
    obtain ⟨k,h1,h2⟩:=qo0 n l x hl m (j+1) (by omega) (by omega)
    exact ⟨k,h1,by rw [h2,List.mem_cons];simp [hx]⟩
  ·have c0' : ¬ ((j:Nat):Int)<((l.length:Nat):Int):=by omega
   refine ⟨-1,by simp only [c0',decide_false,cond_false,Option.bind_some,Sum.elim_inr],?_⟩
   rw [List.drop_eq_nil_of_le (by omega)]
   simp
theorem q1t (n:Nat) (l:List (List UInt8)) (x:List UInt8) (hl:l.length<=1000000) (hn:l.length<n):q6h n l x=some (decide (x∈l)):=by
 unfold q6h qxv
 obtain ⟨k,h,h2⟩:=qo0 n l x hl n 0 (Nat.zero_le _) (by omega)
 rw [show ((0:Nat):Int)=(0:Int) from rfl] at h
 rw [List.drop_zero] at h2
 rw [h]
 simp only [Option.bind_some]
 congr 1
 by_cases hm:x∈l
 ·rw [decide_eq_true hm,decide_eq_true (h2.2 hm)]
 ·rw [decide_eq_false hm,decide_eq_false (fun h=>hm (h2.1 h))]
theorem qtq (n:Nat) (ws:List Lx.Wd) (hw:ws.length<=100001) : ∀(m j:Nat) (out:List Lx.Wd),j<=ws.length->ws.length - j<m->out.length<=j ->
  qdq n m ws ((ws.length:Nat):Int) (j:Int) out=some (((),()),((),(out++unm (ws.drop j),())))
 | 0,j,_,_,h,_=>absurd h (Nat.not_lt_zero _)
 | m+1,j,out,hj,h,ho=>by
  rw [qsy]
  unfold j7e
  by_cases c0:j<ws.length
  ·have c0':((j:Nat):Int)<((ws.length:Nat):Int):=by omega
   simp only [c0',decide_true,cond_true,q0o c0,Option.bind_some,qww,q08,q07 (show j<4611686018427387904 by omega)]
   rw [List.drop_eq_getElem_cons c0,unm,List.filter_cons]
   cases hk:qfa ws[j].1 with
   | true =>
    simp only [Bool.not_true,cond_false,Bool.false_eq_true,if_false]
    rw [qtq n ws hw m (j+1) _ (by omega) (by omega) (by omega)];rfl
   | false =>
    have a1:q3e 24 out [ws[j]]=some (out ++ [ws[j]]):=q37 (by simp;omega)
    simp only [Bool.not_false,cond_true,a1,Option.bind_some,if_true]
    rw [qtq n ws hw m (j+1) _ (by omega) (by omega) (by simp;omega)]
    simp [unm]
  ·have c0' : ¬ ((j:Nat):Int)<((ws.length:Nat):Int):=by omega
   simp only [c0',decide_false,cond_false]
   rw [List.drop_eq_nil_of_le (by omega)]
   simp [unm]
theorem jhk (n:Nat) (ws:List Lx.Wd) (hw:ws.length<=100001) (hn:ws.length<n):j60 n ws=some (unm ws):=by
 unfold j60
 have h:=qtq n ws hw n 0 [] (Nat.zero_le _) (by omega) (Nat.le_refl _)
 rw [show ((0:Nat):Int)=(0:Int) from rfl] at h
 rw [h];simp
theorem ju8 (c:UInt8):q26 c=(!decide (((c.toNat:Nat):Int)<48) && !decide ((57:Int)<((c.toNat:Nat):Int))):=by
 unfold q26
 by_cases h1:48<=c.toNat<;>by_cases h2:c.toNat<=57<;>simp [h1,h2]<;>omega
theorem qqi (n:Nat) (s:List UInt8) (hL:s.length<=1000000) : ∀m j:Nat,j<=s.length->s.length - j<m->q7k n m s ((s.length:Nat):Int) (j:Int)=some (if (s.drop j).all q26=true then Sum.inr ((s,()),((),())) else Sum.inl ((false,()),((),())))
 | 0,j,_,h=>absurd h (Nat.not_lt_zero _)
 | m+1,j,hj,h=>by
  rw [qjl]
  unfold qr9
  by_cases c0:j<s.length
  ·have c0':((j:Nat):Int)<((s.length:Nat):Int):=by omega
   rw [List.drop_eq_getElem_cons c0,List.all_cons,ju8 s[j]]
   simp only [c0',decide_true,cond_true,q7j c0,Option.bind_some,q08,q07 (show j<4611686018427387904 by omega)]
   by_cases h1:((s[j].toNat:Nat):Int)<48
   ·simp [h1]
   ·by_cases h2:(57:Int)<((s[j].toNat:Nat):Int)
    ·simp [h1,h2]
    ·simp only [h1,h2,decide_false,cond_false,Bool.not_false,Bool.true_and]
     exact qqi n s hL m (j+1) (by omega) (by omega)
  ·have c0' : ¬ ((j:Nat):Int)<((s.length:Nat):Int):=by omega
   simp only [c0',decide_false,cond_false]
   rw [List.drop_eq_nil_of_le (by omega)]
   simp
theorem c48 (c:UInt8):decide (((c.toNat:Nat):Int)=48)=decide (c=48):=by
 by_cases h:c=48
 ·subst h;rfl
 ·have h2 : ¬ ((c.toNat:Nat):Int)=48:=fun h'=>by
   have h3:c.toNat=48:=by omega
   exact h (UInt8.toNat_inj.1 (h3.trans rfl))
  rw [decide_eq_false h,decide_eq_false h2]
theorem qrm (n:Nat) (s:List UInt8) (hL:s.length<=1000000) (hn:s.length<n):qhl n s=some (qhx s):=by
 unfold qhl
 have h:=qqi n s hL n 0 (Nat.zero_le _) (by omega)
 rw [show ((0:Nat):Int)=(0:Int) from rfl,List.drop_zero] at h
 rw [h]
 unfold qhx
 cases s.all q26 with
 | false=>simp
 | true =>
  simp only [if_true,Option.bind_some,Sum.elim_inr,Bool.true_and]
  by_cases h1:1<=s.length
  ·have h1':(1:Int)<=((s.length:Nat):Int):=by omega
   by_cases h2:s.length<=9
   ·have h2':((s.length:Nat):Int)<=9:=by omega
    simp only [h1',h2',h1,h2,decide_true,cond_true,Bool.true_and]
    by_cases h3:s = [48]
    ·simp [h3]
    ·cases s with
     | nil=>simp at h1
     | cons c r =>
      have:=q7j (s:=c::r) (j:=0) (by simp)
      rw [show ((0:Nat):Int)=(0:Int) from rfl] at this
      simp only [h3,decide_false,cond_false,this,Option.bind_some,Bool.false_or,List.getElem_cons_zero,List.head?_cons,Option.some.injEq]
      rw [c48]
   ·have h2' : ¬ ((s.length:Nat):Int)<=9:=by omega
    simp only [h1',h2',h1,h2,decide_true,decide_false,cond_true,cond_false,Bool.true_and,Bool.false_and]
  ·have h1' : ¬ (1:Int)<=((s.length:Nat):Int):=by omega
   simp only [h1',h1,decide_false,cond_false,Bool.false_and]
theorem j2j (n:Nat) (s:List UInt8) (hL:s.length<=1000000) (hn:s.length<n):qgg n s=some (qdu s):=by
 unfold qgg qdu
 obtain ⟨b,hb⟩:=qgj n 46 s hL
 have l1:=qi8 46 s
 have l2:=qnb 46 s
 simp only [hb,Option.bind_some,qrm n (q38 46 s) (by omega) (by omega),qrm n (qdv 46 s) (by omega) (by omega)]
 cases qhx (q38 46 s)<;>simp
def errT (e:Int):IV:=qn5 126 (.agg ⟨[.int .i64 e]⟩)
def q0:Rq:=([],v0)
theorem j3z (n:Nat) (w x:Lx.Wd) (r:List Lx.Wd) (hw:w.1.length<=1000000) (hx:x.1.length<=1000000) (hn:w.1.length<n) (h4:4<=n):j29 n (w::x::r)=some (match j6f w.1 x.1 with | .inl e=>(q0,errT e) | .inr q=>(q,qb1)):=by
 unfold j29 j6f
 have i0:q1b (w::x::r) (0:Int)=some w:=q0o (l:=w::x::r) (j:=0) (by simp)
 have i1:q1b (w::x::r) (1:Int)=some x:=q0o (l:=w::x::r) (j:=1) (by simp)
 simp only [i0,i1,Option.bind_some,qeo n x.1 hx h4,qfg n w.1 hw hn]
 cases h1:okS w.1 with
 | false=>rfl
 | true =>
  cases h2:(q0v x.1).2 with
  | false=>simp [q0,v0,errT]
  | true =>
   simp only [Bool.not_true,cond_false,jhb n w.1 (q0v x.1).1 hw hn h4,Option.bind_some,Bool.true_eq_false,if_false]
   cases h3:q8l w.1 (q0v x.1).1 with
   | false=>simp [q0,v0,errT]
   | true=>simp
abbrev VB:=List (List UInt8×(List (List UInt8)×(Bool×IV)))
def pk (σ:MS) (ln st:Int) (vb:VB):((List UInt8×(List UInt8×(Unit×(Unit×(Unit×(Unit×(Int×(Int×(List UInt8×(Unit×Unit))))))))))×(VB×(jx1×Unit)))×(List Rq×(List Sw×(List Rq×(List Sp×Unit)))) :=
 (((σ.mo,(σ.go,((),((),((),((),(ln,(st,(σ.bk,((),())))))))))),(vb,(σ.sd,()))),(σ.rq,(σ.sw,(σ.ex,(σ.rt,())))))
abbrev PK:=((List UInt8×(List UInt8×(Unit×(Unit×(Unit×(Unit×(Int×(Int×(List UInt8×(Unit×Unit))))))))))×(VB×(jx1×Unit)))×(List Rq×(List Sw×(List Rq×(List Sp×Unit))))
def Tl (x:Option (IV×PK)) (r:Int⊕MS) (ln st:Int) (vb:VB):Prop:=match r with
 | .inr σ'=>x=some (qb1,pk σ' ln st vb)
 | .inl e=>∃ y,x=some (errT e,y)
theorem Tl.bind {x:Option (IV×PK)} {r:Int⊕MS} {ln st:Int} {vb:VB} (h:Tl x r ln st vb) {f:IV×PK->Option (IV×PK)} (h1 : ∀σ',f (qb1,pk σ' ln st vb)=some (qb1,pk σ' ln st vb)) (h2 : ∀e y,∃ y',f (errT e,y)=some (errT e,y')):Tl (x.bind f) r ln st vb:=by
 cases r with
 | inr σ' =>
  have h':x=some (qb1,pk σ' ln st vb):=h
  show x.bind f=_
  rw [h'];exact h1 σ'
 | inl e =>
  obtain ⟨y,hy⟩ : ∃ y,x=some (errT e,y):=h
  obtain ⟨y',hy'⟩:=h2 e y
  exact ⟨y',by rw [hy];exact hy'⟩
theorem q4t (n:Nat) (σ:MS) (c:Cl) (w:Lx.Wd) (ln st:Int) (vb:VB) (hs:0<=st/\st<=1000000) (hw:w.1.length<=100001/\0<=w.2/\w.2<=100001) :
  Tl (q52 n () c w σ.mo σ.go ln st σ.bk vb σ.sd σ.rq σ.sw σ.ex σ.rt) (q1c σ c st w) ln st vb:=by
 unfold q52 q1c
 have e1:IntKind.wrap .i64 (st+w.2)=st+w.2:=wrap64 (by omega) (by omega)
 have e2:IntKind.wrap .i64 (st+w.2+((w.1.length:Nat):Int))=st+w.2+((w.1.length:Nat):Int):=wrap64 (by omega) (by omega)
 cases hm:q0c clT c σ.sd with
 | some v =>
  simp only [Option.isSome_some,if_true]
  exact ⟨_,by simp only [jf0,hm,Option.isSome_some,cond_true];rfl⟩
 | none =>
  simp only [Option.isSome_none,Bool.false_eq_true,if_false]
  show _=some (qb1,pk _ ln st vb)
  simp only [jf0,hm,Option.isSome_none,cond_false,q08,e1,e2]
  rfl
end Go.Proofs.YtapfankgdkdkgaaGreatDoor.AM
namespace Go.Proofs.YtapfankgdkdkgaaGreatDoor.AM
open Go.RowKit
set_option linter.unusedVariables false
set_option linter.unusedSimpArgs false
def SB (k:Nat) (σ:MS):Prop:=σ.rq.length<=k/\σ.sw.length<=k/\σ.ex.length<=k/\σ.rt.length<=k
def StB (st:Int):Prop:=0<=st/\st<=1000000
theorem WB.head {w:Lx.Wd} {r:List Lx.Wd} (h:WB (w::r)):w.1.length<=100001/\0<=w.2/\w.2<=100001:=h.2 w (List.mem_cons_self ..)
theorem WB.tail {w:Lx.Wd} {r:List Lx.Wd} (h:WB (w::r)):WB r:=⟨by have:=h.1;simp at this;omega,fun x hx=>h.2 x (List.mem_cons_of_mem _ hx)⟩
theorem jy7 {β:Type} (x:β) (r:List β):q1b (x::r) (0:Int)=some x:=q0o (l:=x::r) (j:=0) (by simp)
theorem idx1 {β:Type} (x y:β) (r:List β):q1b (x::y::r) (1:Int)=some y:=q0o (l:=x::y::r) (j:=1) (by simp)
theorem qxw (n:Nat) (σ:MS) (w:Lx.Wd) (r:List Lx.Wd) (ln st:Int) (vb:VB) (hs:StB st) (hw:WB (w::r)) (hn:200000<n) :
  Tl (qdr n () (w::r) σ.mo σ.go ln st σ.bk vb σ.sd σ.rq σ.sw σ.ex σ.rt) (qtr σ st qaw (w::r)) ln st vb:=by
 have hw0:=hw.head
 unfold qdr
 rw [show qtr σ st qaw (w::r)=(if okS w.1=false then .inl 6 else q1c { σ with mo:=w.1 } (qaw,([],v0)) st w) from rfl]
 simp only [jy7,Option.bind_some,qfg n w.1 (by omega) (by omega)]
 cases okS w.1 with
 | false=>exact ⟨_,rfl⟩
 | true =>
  simp only [Bool.not_true,cond_false,Bool.true_eq_false,if_false]
  exact (q4t n { σ with mo:=w.1 } (qaw,([],v0)) w ln st vb hs hw0).bind (fun σ'=>rfl) (fun e y=>⟨_,rfl⟩)
theorem qop (n:Nat) (σ:MS) (w:Lx.Wd) (r:List Lx.Wd) (ln st:Int) (vb:VB) (hs:StB st) (hw:WB (w::r)) (hn:200000<n) :
  Tl (q78 n () (w::r) σ.mo σ.go ln st σ.bk vb σ.sd σ.rq σ.sw σ.ex σ.rt) (qtr σ st kGo (w::r)) ln st vb:=by
 have hw0:=hw.head
 unfold q78
 rw [show qtr σ st kGo (w::r)=(if qdu w.1=false then .inl 7 else q1c { σ with go:=w.1 } (kGo,([],v0)) st w) from rfl]
 simp only [jy7,Option.bind_some,j2j n w.1 (by omega) (by omega)]
 cases qdu w.1 with
 | false=>exact ⟨_,rfl⟩
 | true =>
  simp only [Bool.not_true,cond_false,Bool.true_eq_false,if_false]
  exact (q4t n { σ with go:=w.1 } (kGo,([],v0)) w ln st vb hs hw0).bind (fun σ'=>rfl) (fun e y=>⟨_,rfl⟩)
theorem jcf (e:Int):q42 (Subtype.val (errT e))=some false:=rfl
theorem qb2:q42 (Subtype.val qb1)=some true:=rfl
theorem qu4 (n:Nat) (σ:MS) (w x:Lx.Wd) (r:List Lx.Wd) (ln st:Int) (vb:VB) (hs:StB st) (hw:WB (w::x::r)) (hb:SB 200000 σ) (hn:200000<n) :
  Tl (q9h n () (w::x::r) σ.mo σ.go ln st σ.bk vb σ.sd σ.rq σ.sw σ.ex σ.rt) (qtr σ st q8y (w::x::r)) ln st vb:=by
 have hw0:=hw.head
 have hx0:=hw.tail.head
 unfold q9h
 rw [show qtr σ st q8y (w::x::r)=(match j6f w.1 x.1 with
   | .inl e=>.inl e
   | .inr q=>q1c { σ with rq:=σ.rq ++ [q] } (q8y,(q.1,v0)) st x) from rfl]
 simp only [j3z n w x r (by omega) (by omega) (by omega) (by omega),Option.bind_some]
 cases j6f w.1 x.1 with
 | inl e=>exact ⟨_,by simp only [jcf,Option.bind_some,Bool.not_false,cond_true];rfl⟩
 | inr q =>
  have a1:q3e 72 σ.rq [q]=some (σ.rq ++ [q]):=q37 (by have:=hb.1;simp;omega)
  simp only [qb2,Option.bind_some,Bool.not_true,cond_false,a1,idx1]
  exact (q4t n { σ with rq:=σ.rq ++ [q] } (q8y,(q.1,v0)) x ln st vb hs hx0).bind (fun σ'=>rfl) (fun e y=>⟨_,rfl⟩)
theorem qug (n:Nat) (σ:MS) (w x:Lx.Wd) (r:List Lx.Wd) (ln st:Int) (vb:VB) (hs:StB st) (hw:WB (w::x::r)) (hb:SB 200000 σ) (hn:200000<n) :
  Tl (q9w n () (w::x::r) σ.mo σ.go ln st σ.bk vb σ.sd σ.rq σ.sw σ.ex σ.rt) (qtr σ st qgb (w::x::r)) ln st vb:=by
 have hw0:=hw.head
 have hx0:=hw.tail.head
 unfold q9w
 rw [show qtr σ st qgb (w::x::r)=(match j6f w.1 x.1 with
   | .inl e=>.inl e
   | .inr q=>q1c { σ with ex:=σ.ex ++ [q] } (qgb,(q.1,q.2)) st x) from rfl]
 simp only [j3z n w x r (by omega) (by omega) (by omega) (by omega),Option.bind_some]
 cases j6f w.1 x.1 with
 | inl e=>exact ⟨_,by simp only [jcf,Option.bind_some,Bool.not_false,cond_true];rfl⟩
 | inr q =>
  have a1:q3e 72 σ.ex [q]=some (σ.ex ++ [q]):=q37 (by have:=hb.2.2.1;simp;omega)
  simp only [qb2,Option.bind_some,Bool.not_true,cond_false,a1,idx1]
  exact (q4t n { σ with ex:=σ.ex ++ [q] } (qgb,(q.1,q.2)) x ln st vb hs hx0).bind (fun σ'=>rfl) (fun e y=>⟨_,rfl⟩)
theorem qu5 (n:Nat) (σ:MS) (w x:Lx.Wd) (r:List Lx.Wd) (ln st:Int) (vb:VB) (hs:StB st) (hw:WB (w::x::r)) (hb:SB 200000 σ) (hn:200000<n) :
  Tl (q9e n () (w::x::r) σ.mo σ.go ln st σ.bk vb σ.sd σ.rq σ.sw σ.ex σ.rt) (qtr σ st qfn (w::x::r)) ln st vb:=by
 have hw0:=hw.head
 have hx0:=hw.tail.head
 unfold q9e
 rw [show qtr σ st qfn (w::x::r)=(if okS w.1=false then .inl 6 else if q4w x.1=false then .inl 6 else q1c { σ with sw:=σ.sw ++ [(w.1,x.1)] } (qfn,(w.1,v0)) st x) from rfl]
 simp only [jy7,idx1,Option.bind_some,qfg n w.1 (by omega) (by omega),qqu]
 cases okS w.1 with
 | false=>exact ⟨_,rfl⟩
 | true =>
  simp only [Bool.not_true,cond_false,Bool.true_eq_false,if_false]
  cases q4w x.1 with
  | false=>exact ⟨_,rfl⟩
  | true =>
   have a1:q3e 32 σ.sw [(w.1,x.1)]=some (σ.sw ++ [(w.1,x.1)]):=q37 (by have:=hb.2.1;simp;omega)
   simp only [Bool.not_true,cond_false,Bool.true_eq_false,if_false,a1,Option.bind_some]
   exact (q4t n { σ with sw:=σ.sw ++ [(w.1,x.1)] } (qfn,(w.1,v0)) x ln st vb hs hx0).bind (fun σ'=>rfl) (fun e y=>⟨_,rfl⟩)
theorem que (n:Nat) (σ:MS) (w:Lx.Wd) (r:List Lx.Wd) (ln st:Int) (vb:VB) (hs:StB st) (hw:WB (w::r)) (hb:SB 200000 σ) (hn:200000<n) :
  Tl (qa7 n () (w::r) σ.mo σ.go ln st σ.bk vb σ.sd σ.rq σ.sw σ.ex σ.rt) (qtr σ st qvt (w::r)) ln st vb:=by
 have hw0:=hw.head
 have hw1:=hw.1
 obtain ⟨y,hy,hyi⟩ : ∃ y,r.getLast?.getD w=y/\q1b (w::r) (((w::r).length:Int) - 1)=some y:=by
  refine ⟨_,rfl,?_⟩
  have e0:(((w::r).length:Int) - 1)=((r.length:Nat):Int):=by simp
  rw [e0,q0o (l:=w::r) (j:=r.length) (by simp)]
  congr 1
  cases r with
  | nil=>rfl
  | cons a r=>rw [List.getLast?_eq_some_getLast (List.cons_ne_nil _ _),Option.getD_some,List.getLast_eq_getElem];simp
 have hyB:y.1.length<=100001:=by
  have hm:y∈w::r:=by
   rw [<-hy]
   cases r with
   | nil=>exact List.mem_cons_self ..
   | cons a r=>rw [List.getLast?_eq_some_getLast (List.cons_ne_nil _ _),Option.getD_some];exact List.mem_cons_of_mem _ (List.getLast_mem _)
  exact (hw.2 y hm).1
 unfold qa7
 rw [show qtr σ st qvt (w::r)=(if (q0v w.1).2=false then .inl 7 else if (q0v ((r.getLast?.getD w).1)).2=false then .inl 7
  else if 0<jo7 (q0v w.1).1 (q0v ((r.getLast?.getD w).1)).1 then .inl 7 else .inr { σ with rt:=σ.rt ++ [jo8 (q0v w.1).1 (q0v ((r.getLast?.getD w).1)).1] }) from rfl,hy]
 have e1:IntKind.wrap .i64 (((w::r).length:Int) - 1)=((w::r).length:Int) - 1:=wrap64 (by simp only [List.length_cons] at hw1 ⊢;omega) (by simp only [List.length_cons] at hw1 ⊢;omega)
 simp only [jy7,Option.bind_some,qeo n w.1 (by omega) (by omega),q08,e1,hyi,qeo n y.1 (by omega) (by omega),qyp n _ _ (show 100<=n by omega)]
 cases (q0v w.1).2 with
 | false=>exact ⟨_,rfl⟩
 | true =>
  simp only [Bool.not_true,cond_false,Bool.true_eq_false,if_false]
  cases (q0v y.1).2 with
  | false=>exact ⟨_,rfl⟩
  | true =>
   simp only [Bool.not_true,cond_false,Bool.true_eq_false,if_false]
   by_cases hc:0<jo7 (q0v w.1).1 (q0v y.1).1
   ·simp only [hc,decide_true,cond_true,if_true]
    exact ⟨_,rfl⟩
   ·have a1:q3e 112 σ.rt [jo8 (q0v w.1).1 (q0v y.1).1]=some (σ.rt ++ [jo8 (q0v w.1).1 (q0v y.1).1]):=q37 (by have:=hb.2.2.2;simp;omega)
    unfold jo8 at a1
    simp only [hc,decide_false,cond_false,if_false,a1,Option.bind_some]
    rfl
end Go.Proofs.YtapfankgdkdkgaaGreatDoor.AM
namespace Go.Proofs.YtapfankgdkdkgaaGreatDoor.AM
open Go.RowKit
set_option linter.unusedVariables false
set_option linter.unusedSimpArgs false
theorem qvw (c:UInt8) : ∀(r:List (List UInt8)) (x:List UInt8),c ∉ x->(∀y∈r,c ∉ y)->spl c [] (x++Lib.joinTail [c] r)=x::r
 | [],x,hx,_=>by
  show spl c [] (x ++ [])=_
  rw [qgi c x [] [] hx];simp [spl]
 | y::r,x,hx,h=>by
  have e:Lib.joinTail [c] (y::r)=c::(y++Lib.joinTail [c] r):=by simp [Lib.joinTail]
  rw [e,qgi c x [] _ hx,List.nil_append,spl,if_pos rfl,qvw c r y (h y (List.mem_cons_self ..)) (fun z hz=>h z (List.mem_cons_of_mem _ hz))]
theorem qkk {t:List UInt8} (h:qfa t=true):t = [61,62]\/t = [91]\/t = [44]\/t = [93]\/t = [40]\/t = [41]:=by
 simpa [qfa] using h
theorem jz1 (w:Lx.Wd):(32:UInt8) ∉ qts w:=by
 unfold qts
 split
 ·rename_i h
  rcases qkk h with h|h|h|h|h|h<;>rw [h]<;>decide
 ·decide
theorem ju6 {ws:List Lx.Wd} {S:List UInt8} (h:shp ws=S) (hS:S ≠ []):ws.map qts=spl 32 [] S:=by
 cases ws with
 | nil=>exact absurd h.symm hS
 | cons w ws =>
  rw [<-h]
  show _=spl 32 [] (Lib.join (qts w::ws.map qts) [32])
  rw [Lib.join_cons,qvw 32 _ _ (jz1 w) (fun y hy=>by
   obtain ⟨z,_,rfl⟩:=List.mem_map.1 hy
   exact jz1 z)]
  rfl
theorem j1o : ∀ws:List Lx.Wd,(unm ws).length=(ws.map qts).count [120]
 | []=>rfl
 | w::ws=>by
  rw [List.map_cons,List.count_cons,unm,List.filter_cons]
  have ih:=j1o ws
  unfold unm at ih
  cases hk:qfa w.1 with
  | true =>
   have:qts w ≠ [120]:=by
    unfold qts
    rw [if_pos hk]
    rcases qkk hk with h|h|h|h|h|h<;>rw [h]<;>decide
   simp [ih,this]
  | false=>simp [qts,hk,ih]
theorem q89 {ws:List Lx.Wd} {S:List UInt8} {k:Nat} (h:shp ws=S) (hS:S ≠ []) (hk:(spl 32 [] S).count [120]=k):(unm ws).length=k:=by
 rw [j1o,ju6 h hS,hk]
theorem len1 {β:Type} {l:List β} (h:l.length=1) : ∃ a,l = [a]:=List.length_eq_one_iff.1 h
theorem jxd {β:Type} {l:List β} (h:l.length=2) : ∃ a b,l = [a,b]:=by
 match l,h with
 | [a,b],_=>exact ⟨a,b,rfl⟩
theorem jyl (ws:List Lx.Wd):(unm ws).length<=ws.length:=List.length_filter_le ..
theorem WB.unm {ws:List Lx.Wd} (h:WB ws):WB (unm ws):=⟨Nat.le_trans (jyl ws) h.1,fun w hw=>h.2 w (List.mem_filter.1 hw).1⟩
def vbs:VB:=[(qaw,([[120]],(false,qzv 87))),(kGo,([[120]],(false,qzv 88))),(q8y,([[120,32,120]],(true,qzv 89))),(qgb,([[120,32,120]],(true,qzv 90))),
 (qfn,([[120,32,61,62,32,120]],(true,qzv 91))),(qvt,([[120],[91,32,120,32,44,32,120,32,93]],(true,qzv 92)))]
theorem j7x (n:Nat):qmy n=some ((),((vbs,()),())):=rfl
theorem q2l {x:Option (IV×PK)} {r:Int⊕MS} {ln st:Int} {vb:VB} {f:IV×PK->Option (IV×PK)} (h:Tl x r ln st vb) (hf : ∀e y,f (e,y)=some (e,y)):Tl (x.bind f) r ln st vb :=
 h.bind (fun σ'=>hf _ _) (fun e y=>⟨y,hf _ _⟩)
theorem j1r {v:List UInt8} (h1:v≠qaw) (h2:v≠kGo) (h3:v≠q8y) (h4:v≠qgb) (h5:v≠qfn) (h6:v≠qvt):qdw v vbs=none:=by
 unfold vbs
 simp only [qdw,if_neg h1,if_neg h2,if_neg h3,if_neg h4,if_neg h5,if_neg h6]
theorem qr4 (n:Nat) (σ:MS) (v:List UInt8) (ws:List Lx.Wd) (ln st:Int) (hs:StB st) (hw:WB ws) (hb:SB 200000 σ) (hn:200000<n) :
  Tl (q9q n () v ws σ.mo σ.go ln st σ.bk vbs σ.sd σ.rq σ.sw σ.ex σ.rt) (q47 σ st v ws) ln st vbs:=by
 have hu:=hw.unm
 have hwl:=hw.1
 unfold q9q q47
 simp only [qep n ws hw (by omega),jhk n ws hw.1 (by omega),Option.bind_some]
 by_cases h1:v=qaw
 ·subst h1
  rw [show qdw qaw vbs=some ([[120]],(false,qzv 87)) from rfl,show q1q qaw = [[120]] from rfl]
  simp only [qq0,q1t n [[120]] (shp ws) (by simp) (by simp;omega),Option.bind_some]
  by_cases hm:shp ws ∈ [[(120:UInt8)]]
  ·obtain ⟨w,hw'⟩:=len1 (q89 (k:=1) (List.mem_singleton.1 hm) (by decide) (by decide))
   rw [hw'] at hu ⊢
   rw [decide_eq_true hm,if_pos hm]
   exact q2l (qxw n σ w [] ln st vbs hs hu hn) (fun e y=>rfl)
  ·rw [decide_eq_false hm,if_neg hm];exact ⟨_,rfl⟩
 by_cases h2:v=kGo
 ·subst h2
  rw [show qdw kGo vbs=some ([[120]],(false,qzv 88)) from rfl,show q1q kGo = [[120]] from rfl]
  simp only [qq0,q1t n [[120]] (shp ws) (by simp) (by simp;omega),Option.bind_some]
  by_cases hm:shp ws ∈ [[(120:UInt8)]]
  ·obtain ⟨w,hw'⟩:=len1 (q89 (k:=1) (List.mem_singleton.1 hm) (by decide) (by decide))
   rw [hw'] at hu ⊢
   rw [decide_eq_true hm,if_pos hm]
   exact q2l (qop n σ w [] ln st vbs hs hu hn) (fun e y=>rfl)
  ·rw [decide_eq_false hm,if_neg hm];exact ⟨_,rfl⟩
 by_cases h3:v=q8y
 ·subst h3
  rw [show qdw q8y vbs=some ([[120,32,120]],(true,qzv 89)) from rfl,show q1q q8y = [[120,32,120]] from rfl]
  simp only [qq0,q1t n [[120,32,120]] (shp ws) (by simp) (by simp;omega),Option.bind_some]
  by_cases hm:shp ws ∈ [[(120:UInt8),32,120]]
  ·obtain ⟨w,x,hw'⟩:=jxd (q89 (k:=2) (List.mem_singleton.1 hm) (by decide) (by decide))
   rw [hw'] at hu ⊢
   rw [decide_eq_true hm,if_pos hm]
   exact q2l (qu4 n σ w x [] ln st vbs hs hu hb hn) (fun e y=>rfl)
  ·rw [decide_eq_false hm,if_neg hm];exact ⟨_,rfl⟩
 by_cases h4:v=qgb
 ·subst h4
  rw [show qdw qgb vbs=some ([[120,32,120]],(true,qzv 90)) from rfl,show q1q qgb = [[120,32,120]] from rfl]
  simp only [qq0,q1t n [[120,32,120]] (shp ws) (by simp) (by simp;omega),Option.bind_some]
  by_cases hm:shp ws ∈ [[(120:UInt8),32,120]]
  ·obtain ⟨w,x,hw'⟩:=jxd (q89 (k:=2) (List.mem_singleton.1 hm) (by decide) (by decide))
   rw [hw'] at hu ⊢
   rw [decide_eq_true hm,if_pos hm]
   exact q2l (qug n σ w x [] ln st vbs hs hu hb hn) (fun e y=>rfl)
  ·rw [decide_eq_false hm,if_neg hm];exact ⟨_,rfl⟩
 by_cases h5:v=qfn
 ·subst h5
  rw [show qdw qfn vbs=some ([[120,32,61,62,32,120]],(true,qzv 91)) from rfl,show q1q qfn = [[120,32,61,62,32,120]] from rfl]
  simp only [qq0,q1t n [[120,32,61,62,32,120]] (shp ws) (by simp) (by simp;omega),Option.bind_some]
  by_cases hm:shp ws ∈ [[(120:UInt8),32,61,62,32,120]]
  ·obtain ⟨w,x,hw'⟩:=jxd (q89 (k:=2) (List.mem_singleton.1 hm) (by decide) (by decide))
   rw [hw'] at hu ⊢
   rw [decide_eq_true hm,if_pos hm]
   exact q2l (qu5 n σ w x [] ln st vbs hs hu hb hn) (fun e y=>rfl)
  ·rw [decide_eq_false hm,if_neg hm];exact ⟨_,rfl⟩
 by_cases h6:v=qvt
 ·subst h6
  rw [show qdw qvt vbs=some ([[120],[91,32,120,32,44,32,120,32,93]],(true,qzv 92)) from rfl,show q1q qvt = [[120],[91,32,120,32,44,32,120,32,93]] from rfl]
  simp only [qq0,q1t n [[120],[91,32,120,32,44,32,120,32,93]] (shp ws) (by simp) (by simp;omega),Option.bind_some]
  by_cases hm:shp ws ∈ [[(120:UInt8)],[91,32,120,32,44,32,120,32,93]]
  ·obtain ⟨w,r,hw'⟩ : ∃ w r,unm ws=w::r:=by
    rcases List.mem_cons.1 hm with h|h
    ·obtain ⟨w,hw'⟩:=len1 (q89 (k:=1) h (by decide) (by decide))
     exact ⟨w,[],hw'⟩
    ·obtain ⟨w,x,hw'⟩:=jxd (q89 (k:=2) (List.mem_singleton.1 h) (by decide) (by decide))
     exact ⟨w,[x],hw'⟩
   rw [hw'] at hu ⊢
   rw [decide_eq_true hm,if_pos hm]
   exact q2l (que n σ w r ln st vbs hs hu hb hn) (fun e y=>rfl)
  ·rw [decide_eq_false hm,if_neg hm];exact ⟨_,rfl⟩
 ·rw [j1r h1 h2 h3 h4 h5 h6,show q1q v = [] by simp only [q1q,if_neg h1,if_neg h2,if_neg h3,if_neg h4,if_neg h5,if_neg h6]]
  simp only [qq0,q1t n [] (shp ws) (by simp) (by simp;omega),Option.bind_some]
  exact ⟨_,rfl⟩
theorem jpp (v:List UInt8):(∃ y,qdw v vbs=some y/\y.2.1=qcw v)\/(qdw v vbs=none/\qcw v=false):=by
 by_cases h1:v=qaw
 ·subst h1;exact .inl ⟨_,rfl,by decide⟩
 by_cases h2:v=kGo
 ·subst h2;exact .inl ⟨_,rfl,by decide⟩
 by_cases h3:v=q8y
 ·subst h3;exact .inl ⟨_,rfl,by decide⟩
 by_cases h4:v=qgb
 ·subst h4;exact .inl ⟨_,rfl,by decide⟩
 by_cases h5:v=qfn
 ·subst h5;exact .inl ⟨_,rfl,by decide⟩
 by_cases h6:v=qvt
 ·subst h6;exact .inl ⟨_,rfl,by decide⟩
 ·exact .inr ⟨j1r h1 h2 h3 h4 h5 h6,by simp only [qcw,decide_eq_false h3,decide_eq_false h4,decide_eq_false h5,decide_eq_false h6,Bool.or_self]⟩
theorem jgk (n:Nat) (σ:MS) (v:List UInt8) (ws:List Lx.Wd) (ln st:Int) (hs:StB st) (hw:WB ws) (hb:SB 200000 σ) (hn:200000<n) :
  Tl (j06 n () v ws σ.mo σ.go ln st σ.bk vbs σ.sd σ.rq σ.sw σ.ex σ.rt) (if qcw v=true/\shp ws = [40] then .inr { σ with bk:=v } else q47 σ st v ws) ln st vbs:=by
 have hwl:=hw.1
 have hS:=qr4 n σ v ws ln st hs hw hb hn
 unfold j06
 rcases jpp v with ⟨y,h1,h2⟩|⟨h1,h2⟩
 ·rw [h1]
  simp only [qq0,h2,qep n ws hw (by omega),Option.bind_some]
  cases qcw v with
  | false =>
   simp only [cond_false,Bool.false_eq_true,false_and,if_false]
   exact q2l hS (fun e y=>rfl)
  | true =>
   simp only [cond_true,true_and]
   by_cases hp:shp ws = [40]
   ·rw [decide_eq_true hp,if_pos hp];rfl
   ·rw [decide_eq_false hp,if_neg hp]
    exact q2l hS (fun e y=>rfl)
 ·rw [h1]
  simp only [qq0,h2,Bool.false_eq_true,false_and,if_false]
  exact q2l hS (fun e y=>rfl)
theorem jac (n:Nat) (σ:MS) (ws:List Lx.Wd) (ln st:Int) (hs:StB st) (hw:WB ws) (hb:SB 200000 σ) (hn:200000<n) :
  Tl (qhg n () ws σ.mo σ.go ln st σ.bk vbs σ.sd σ.rq σ.sw σ.ex σ.rt) (qav σ st ws) ln st vbs:=by
 have hwl:=hw.1
 unfold qhg
 cases ws with
 | nil=>rfl
 | cons w r =>
  have c0 : ¬ ((((w::r).length:Nat):Int)=0):=by simp only [List.length_cons];omega
  have hsub:q2i (w::r) (1:Int) (((w::r).length:Nat):Int)=some r:=by
   have:=sub_le (l:=w::r) (a:=1) (b:=(w::r).length) (by simp) (Nat.le_refl _)
   rw [show ((1:Nat):Int)=(1:Int) from rfl] at this
   rw [this];simp
  unfold qav
  simp only [c0,decide_false,cond_false,jy7,hsub,Option.bind_some,qep n (w::r) hw (by omega)]
  by_cases hb0:σ.bk = []
  ·rw [decide_eq_true hb0,if_pos hb0]
   exact q2l (jgk n σ w.1 r ln st hs hw.tail hb hn) (fun e y=>rfl)
  ·rw [decide_eq_false hb0,if_neg hb0]
   by_cases hp:shp (w::r) = [41]
   ·rw [cond_false,decide_eq_true hp,if_pos hp];rfl
   ·rw [cond_false,decide_eq_false hp,if_neg hp]
    exact q2l (qr4 n σ σ.bk (w::r) ln st hs hw hb hn) (fun e y=>rfl)
end Go.Proofs.YtapfankgdkdkgaaGreatDoor.AM
