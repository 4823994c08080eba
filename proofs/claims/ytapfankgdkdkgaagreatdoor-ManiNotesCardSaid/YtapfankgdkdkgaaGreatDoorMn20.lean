
import Derived.Test.YtapfankgdkdkgaaGreatDoorMn13
import Derived.Test.YtapfankgdkdkgaaGreatDoorMn14
import Derived.Test.YtapfankgdkdkgaaGreatDoorMn19
namespace Go.Proofs.YtapfankgdkdkgaaGreatDoor.AM
open Go.RowKit
set_option linter.unusedVariables false
set_option linter.unusedSimpArgs false
theorem qlg (n:Nat) (a b:Int):q8h n a b=some (qvs a b):=by
 unfold q8h qtm qvs
 simp only [decide_true,Bool.not_true,Option.bind_some,cond_false]
 by_cases h1:a<b
 ·simp [h1]
 ·by_cases h2:b<a
  ·simp [h1,h2]
  ·simp [h1,h2]
def q7i:List Int->Int
 | []=>0
 | x::l=>or2 x (q7i l)
theorem qsi (n:Nat) (l:List Int) (hL:l.length<=1000000) : ∀m j:Nat,j<=l.length->l.length - j<m->q8e n m 0 l ((l.length:Nat):Int) (j:Int)=some (if q7i (l.drop j)=0 then Sum.inr (((0:Int),()),((),())) else Sum.inl ((q7i (l.drop j),()),((),())))
 | 0,j,_,h=>absurd h (Nat.not_lt_zero _)
 | m+1,j,hj,h=>by
  rw [qip]
  unfold qtu
  by_cases c0:j<l.length
  ·have c0':((j:Nat):Int)<((l.length:Nat):Int):=by omega
   have ih:=qsi n l hL m (j+1) (by omega) (by omega)
   have hd:l.drop j=l[j]::l.drop (j+1):=(List.drop_eq_getElem_cons c0)
   simp only [c0',decide_true,cond_true,q1l c0,Option.bind_some,q0b,q0g (show j<4611686018427387904 by omega),ih,hd,q7i,or2]
   by_cases h0:l[j]=0
   ·simp [h0]
   ·simp [h0]
  ·have c0' : ¬ ((j:Nat):Int)<((l.length:Nat):Int):=by omega
   have:l.drop j = []:=List.drop_eq_nil_of_le (by omega)
   simp [c0',this,q7i]
theorem qr3 (n:Nat) (l:List Int) (hL:l.length<=1000000) (hn:l.length<n):qno n l=some (q7i l):=by
 unfold qno
 have:=qsi n l hL n 0 (Nat.zero_le _) (by omega)
 rw [show ((0:Nat):Int)=(0:Int) from rfl] at this
 rw [this,List.drop_zero]
 by_cases h:q7i l=0
 ·simp [h]
 ·simp [h]
theorem ja7 (n:Nat) (v:VD) (hn:4<=n):q8f n v=some (qn1 v):=by
 unfold q8f qn1
 rw [q5c n v hn]
 cases hc:q3h v with
 | false=>rfl
 | true =>
  obtain ⟨h1,h2,h3,h4,h5⟩:=qcy hc
  have l1:=quz h1
  have l2:=quz h2
  have l3:=quz h3
  have t1:=qj6 h4
  have t2:=qj6 h5
  simp only [Option.bind_some,Bool.not_true,cond_false,qp8 h1,qp8 h2,qp8 h3,if_true]
  unfold rawT jnx
  generalize Lib.itoa v.1=A at l1
  generalize Lib.itoa v.2.1=B at l2
  generalize Lib.itoa v.2.2.1=C at l3
  generalize v.2.2.2.1=p at t1
  generalize v.2.2.2.2=q at t2
  rw [q98 (by simp;omega)];simp only [Option.bind_some]
  rw [q98 (by simp;omega)];simp only [Option.bind_some]
  rw [q98 (by simp;omega)];simp only [Option.bind_some]
  rw [q98 (by simp;omega)];simp only [Option.bind_some]
  rw [q98 (by simp;omega)];simp only [Option.bind_some]
  have k1:qbu [45] p=some ([45]++p):=q98 (by simp;omega)
  have k2:qbu [43] q=some ([43]++q):=q98 (by simp;omega)
  by_cases hp:p = []
  ·by_cases hq:q = []
   ·simp [hp,hq]
   ·simp only [hp,hq,decide_true,decide_false,Bool.not_true,Bool.not_false,cond_true,cond_false,k2,Option.bind_some]
    rw [q98 (by simp;omega)]
    simp
  ·by_cases hq:q = []
   ·simp only [hp,hq,decide_true,decide_false,Bool.not_true,Bool.not_false,cond_true,cond_false,k1,Option.bind_some]
    rw [q98 (by simp;omega)]
    simp
   ·simp only [hp,hq,decide_true,decide_false,Bool.not_true,Bool.not_false,cond_true,cond_false,k1,k2,Option.bind_some]
    rw [q98 (by simp;omega)];simp only [Option.bind_some]
    rw [q98 (by simp;omega)]
    simp
theorem qf7 (n:Nat) (c:UInt8) (s:List UInt8) (hs:s.length<=1000000) : ∃ b,qvw n s [c]=some (q34 c s,(qdm c s,b)):=by
 unfold qvw jcp qo9 q34 qdm
 simp only [show s.length<4294967281 from by omega,if_true,Option.bind_some]
 have hge:=Lib.index_ge s [c]
 by_cases h1:Lib.index s [c] = -1
 ·simp only [h1,show ¬ (0:Int)<=-1 from by decide,decide_false,cond_false,Option.bind_some,if_true]
  exact ⟨_,rfl⟩
 ·obtain ⟨i,hi⟩ : ∃ i:Nat,Lib.index s [c]=(i:Int):=⟨(Lib.index s [c]).toNat,by omega⟩
  have hlt:=j6k c s i hi
  have n1 : ¬ ((i:Nat):Int) = -1:=by omega
  have n2:(0:Int)<=((i:Nat):Int):=by omega
  rw [hi]
  have w1:IntKind.wrap .i64 (((i:Nat):Int)+((List.length [c]:Nat):Int))=((i+1:Nat):Int):=q0g (by omega)
  simp only [n1,n2,decide_true,cond_true,if_false,sub_zero (show i<=s.length by omega),Option.bind_some,q0b,w1,sub_le (show i+1<=s.length by omega) (Nat.le_refl _),Int.toNat_natCast]
  refine ⟨true,?_⟩
  have e6:(s.drop (i+1)).take (s.length - (i+1))=s.drop (i+1):=List.take_of_length_le (by rw [List.length_drop];exact Nat.le_refl _)
  rw [e6]
theorem qey (c:UInt8) (s:List UInt8):(q34 c s).length<=s.length:=by
 unfold q34;split
 ·exact Nat.le_refl _
 ·rw [List.length_take];omega
theorem qj9 (c:UInt8) (s:List UInt8):(qdm c s).length<=s.length:=by
 unfold qdm;split
 ·simp
 ·rw [List.length_drop];omega
theorem qcx (n:Nat) (s:List UInt8) (hs:s.length<=1000000) (hn:4<=n):qba n s=some (q19 s):=by
 unfold qba q19 jl4
 obtain ⟨b1,e1⟩:=qf7 n 43 s hs
 have l1:=qey 43 s
 have l1':=qj9 43 s
 obtain ⟨b2,e2⟩:=qf7 n 45 (q34 43 s) (by omega)
 have l2:=qey 45 (q34 43 s)
 have e3:=qzh n (q34 45 (q34 43 s)) (by omega)
 have l3:=j08 (q34 45 (q34 43 s))
 obtain ⟨b4,e4⟩:=qf7 n 46 (q1f (q34 45 (q34 43 s))) (by omega)
 have l4:=qey 46 (q1f (q34 45 (q34 43 s)))
 have l4':=qj9 46 (q1f (q34 45 (q34 43 s)))
 obtain ⟨b5,e5⟩:=qf7 n 46 (qdm 46 (q1f (q34 45 (q34 43 s)))) (by omega)
 have l5:=qey 46 (qdm 46 (q1f (q34 45 (q34 43 s))))
 have l5':=qj9 46 (qdm 46 (q1f (q34 45 (q34 43 s))))
 have m1:q4o (q34 46 (q1f (q34 45 (q34 43 s))))=some (qhc (q34 46 (q1f (q34 45 (q34 43 s))))):=if_pos (by omega)
 have m2:q4o (q34 46 (qdm 46 (q1f (q34 45 (q34 43 s)))))=some (qhc (q34 46 (qdm 46 (q1f (q34 45 (q34 43 s)))))):=if_pos (by omega)
 have m3:q4o (qdm 46 (qdm 46 (q1f (q34 45 (q34 43 s)))))=some (qhc (qdm 46 (qdm 46 (q1f (q34 45 (q34 43 s)))))):=if_pos (by omega)
 simp only [e1,Option.bind_some,e2,e3,e4,e5,m1,m2,m3]
 generalize (qhc (q34 46 (q1f (q34 45 (q34 43 s)))),(qhc (q34 46 (qdm 46 (q1f (q34 45 (q34 43 s))))),(qhc (qdm 46 (qdm 46 (q1f (q34 45 (q34 43 s))))),(qdm 45 (q34 43 s),qdm 43 s))))=v
 rw [q5c n v hn,ja7 n v hn]
 cases hc:q3h v with
 | false=>simp
 | true =>
  by_cases ht:qn1 v=s
  ·simp [ht]
  ·simp [ht]
theorem j99 (n:Nat) (a b:List UInt8) (ha:a.length<=1000000) (hb:b.length<=1000000) (hn:a.length<n/\b.length<n/\3<=n):qv2 n a b=some (jof a b):=by
 unfold qv2 jof jpr qfa
 rw [q81 n a ha hn.1,q81 n b hb hn.2.1]
 simp only [Option.bind_some,qlg,q9m]
 cases qdx a with
 | false=>cases qdx b with
  | false =>
   simp only [cond_false,Bool.false_eq_true,if_false]
   unfold qq6 qvs or2
   simp
  | true =>
   simp only [cond_false,cond_true,Bool.false_eq_true,if_false,if_true]
   unfold qq6 qvs or2
   simp
 | true=>cases qdx b with
  | false =>
   simp only [cond_false,cond_true,Bool.false_eq_true,if_false,if_true]
   unfold qq6 qvs or2
   simp
  | true =>
   simp only [cond_true,if_true]
   rw [qr3 n _ (by simp) (by simp;omega)]
   simp only [Option.bind_some,q7i]
   unfold qq6
   have e0:qvs (0:Int) 0=0:=by decide
   dsimp only
   rw [e0]
   unfold or2
   simp only [if_true]
   split
   ·split<;>simp_all
   ·rfl
theorem qie (n:Nat) (l1 l2:List (List UInt8)) (h1:l1.length<=1000000) (h2:l2.length<=1000000) (hw : ∀w,w∈l1\/w∈l2->w.length<=1000000/\w.length<n) (hn:3<=n) : ∀m j:Nat,j<=l1.length->j<=l2.length->l1.length - j<m ->
  ((q4h n m l1 l2 l1 ((l1.length:Nat):Int) (j:Int)).bind fun (o5:((Int×(Unit))×(Unit)×(Unit))⊕(((List (List UInt8))×((List (List UInt8))×(Unit)))×(Unit)×(Unit)))=>Sum.elim (fun (q6:(Int×(Unit))×(Unit)×(Unit))=>some q6.1.1) (fun (q7:((List (List UInt8))×((List (List UInt8))×(Unit)))×(Unit)×(Unit))=>(bif decide (((List.length q7.1.1:Nat):Int)<((List.length q7.1.2.1:Nat):Int)) then some (-1:Int) else some (0:Int))) o5)=some (cmpL jof (l1.drop j) (l2.drop j))
 | 0,j,_,_,h=>absurd h (Nat.not_lt_zero _)
 | m+1,j,hj,hj2,h=>by
  rw [qdf]
  unfold qh8
  by_cases c0:j<l1.length
  ·have c0':((j:Nat):Int)<((l1.length:Nat):Int):=by omega
   have hd:l1.drop j=l1[j]::l1.drop (j+1):=(List.drop_eq_getElem_cons c0)
   by_cases c1:j<l2.length
   ·have c1' : ¬ ((l2.length:Nat):Int)<=((j:Nat):Int):=by omega
    have hd2:l2.drop j=l2[j]::l2.drop (j+1):=(List.drop_eq_getElem_cons c1)
    have ih:=qie n l1 l2 h1 h2 hw hn m (j+1) (by omega) (by omega) (by omega)
    have k1:=hw l1[j] (Or.inl (List.getElem_mem c0))
    have k2:=hw l2[j] (Or.inr (List.getElem_mem c1))
    have hp:=j99 n l1[j] l2[j] k1.1 k2.1 ⟨k1.2,k2.2,hn⟩
    rw [hd,hd2,cmpL]
    simp only [c0',decide_true,cond_true,q1l c0,Option.bind_some,c1',decide_false,cond_false,q1l c1,hp,q0b,q0g (show j<4611686018427387904 by omega)]
    unfold or2
    by_cases h0:jof l1[j] l2[j]=0
    ·simp only [h0,decide_true,Bool.not_true,cond_false,if_true]
     exact ih
    ·simp only [h0,decide_false,Bool.not_false,cond_true,if_false,Option.bind_some,Sum.elim_inl]
   ·have c1':((l2.length:Nat):Int)<=((j:Nat):Int):=by omega
    have hd2:l2.drop j = []:=List.drop_eq_nil_of_le (by omega)
    rw [hd,hd2,cmpL]
    simp only [c0',decide_true,cond_true,q1l c0,Option.bind_some,c1',Sum.elim_inl]
  ·have c0' : ¬ ((j:Nat):Int)<((l1.length:Nat):Int):=by omega
   have hd:l1.drop j = []:=List.drop_eq_nil_of_le (by omega)
   simp only [c0',decide_false,cond_false,Option.bind_some,Sum.elim_inr]
   have hje:j=l1.length:=by omega
   rw [hd]
   by_cases c1:j<l2.length
   ·have hd2:l2.drop j=l2[j]::l2.drop (j+1):=(List.drop_eq_getElem_cons c1)
    have c2:((l1.length:Nat):Int)<((l2.length:Nat):Int):=by omega
    rw [hd2]
    simp only [c2,decide_true,cond_true,cmpL]
   ·have hd2:l2.drop j = []:=List.drop_eq_nil_of_le (by omega)
    have c2 : ¬ ((l1.length:Nat):Int)<((l2.length:Nat):Int):=by omega
    rw [hd2]
    simp only [c2,decide_false,cond_false,cmpL]
theorem qx8 (n:Nat) (l1 l2:List (List UInt8)) (h1:l1.length<=1000000) (h2:l2.length<=1000000) (hw : ∀w,w∈l1\/w∈l2->w.length<=1000000/\w.length<n) (hn:3<=n) (hn2:l1.length<n):qkc n l1 l2 ()=some (cmpL jof l1 l2):=by
 have:=qie n l1 l2 h1 h2 hw hn n 0 (Nat.zero_le _) (Nat.zero_le _) (by omega)
 rw [List.drop_zero,List.drop_zero] at this
 exact this
theorem jdv (n:Nat) (a b:List UInt8) (ha:a.length<=100000) (hb:b.length<=100000) (hn:a.length+3<n/\b.length+3<n):j63 n a b=some (qrb a b):=by
 unfold j63
 by_cases hab:a=b
 ·subst hab
  rw [j8l.refl]
  simp
 ·simp only [hab,decide_false,cond_false]
  by_cases h1:a = []
  ·have hb0:b ≠ []:=fun e=>hab (by rw [h1,e])
   simp only [h1,decide_true,cond_true]
   unfold qrb qq6 jmk qvs or2
   simp [hb0]
  ·simp only [h1,decide_false,cond_false]
   by_cases h2:b = []
   ·simp only [h2,decide_true,cond_true]
    unfold qrb qq6 jmk qvs or2
    simp [h1]
   ·simp only [h2,decide_false,cond_false]
    have s1:q7o a [46]=some (spl 46 [] a):=if_pos (by omega)
    have s2:q7o b [46]=some (spl 46 [] b):=if_pos (by omega)
    have k1:=qc9 46 a []
    have k2:=qc9 46 b []
    rw [s1,s2]
    simp only [Option.bind_some]
    rw [qx8 n _ _ (by omega) (by omega) (fun w hw=>by
     rcases hw with hw|hw
     ·have:=qkr 46 a [] w hw;simp at this;omega
     ·have:=qkr 46 b [] w hw;simp at this;omega) (by omega) (by omega)]
    unfold qrb jmk
    simp only [h1,h2,if_false]
    unfold qq6
    have e0:qvs (0:Int) 0=0:=by decide
    dsimp only
    rw [e0]
    unfold or2
    simp
theorem qst (n:Nat) (a b:VD) (hn:100<=n):qaa n a b=some (jn1 a b):=by
 unfold qaa jn1
 rw [q5c n a (by omega),q5c n b (by omega)]
 cases hca:q3h a with
 | false=>rfl
 | true=>cases hcb:q3h b with
  | false=>rfl
  | true =>
   obtain ⟨-,-,-,h4,-⟩:=qcy hca
   obtain ⟨-,-,-,k4,-⟩:=qcy hcb
   have t1:=qj6 h4
   have t2:=qj6 k4
   simp only [Option.bind_some,Bool.not_true,cond_false,qlg]
   rw [jdv n _ _ (by omega) (by omega) ⟨by omega,by omega⟩]
   simp only [Option.bind_some]
   rw [qr3 n _ (by simp) (by simp;omega)]
   simp only [Option.bind_some,q7i,Bool.and_self,if_true]
   have z0 : ∀x:Int,or2 x 0=x:=fun x=>by unfold or2;split<;>simp_all
   rw [z0]
   rfl
end Go.Proofs.YtapfankgdkdkgaaGreatDoor.AM
namespace Go.Proofs.YtapfankgdkdkgaaGreatDoor.AM
open Go.RowKit
set_option linter.unusedVariables false
set_option linter.unusedSimpArgs false
def WB (ws:List Lx.Wd):Prop:=ws.length<=100001/\∀w∈ws,w.1.length<=100001/\0<=w.2/\w.2<=100001
theorem qs5 (n:Nat) (w:Lx.Wd):qpb n w=some (jfz w.1):=by
 unfold qpb jfz
 by_cases h1:w.1 = [61,62]
 ·simp [h1]
 by_cases h2:w.1 = [91]
 ·simp [h2]
 by_cases h3:w.1 = [44]
 ·simp [h3]
 by_cases h4:w.1 = [93]
 ·simp [h4]
 by_cases h5:w.1 = [40]
 ·simp [h5]
 by_cases h6:w.1 = [41]
 ·simp [h6]
 simp only [h1,h2,h3,h4,h5,h6,decide_false,cond_false,Bool.or_false,Bool.false_or]
theorem qi6 (c:UInt8) (B:Nat) : ∀r:List (List UInt8),(∀x∈r,x.length<=B)->(Lib.joinTail [c] r).length<=r.length*(B+1)
 | [],_=>by simp [Lib.joinTail]
 | x::r,h=>by
  have h1:=qi6 c B r (fun y hy=>h y (List.mem_cons_of_mem _ hy))
  have h2:=h x (List.mem_cons_self ..)
  show ([c]++x++Lib.joinTail [c] r).length<=_
  simp only [List.length_append,List.length_cons,List.length_nil]
  rw [Nat.succ_mul]
  omega
theorem jg0 (c:UInt8) (B:Nat) (r:List (List UInt8)) (h : ∀x∈r,x.length<=B):(Lib.join r [c]).length<=r.length*(B+1):=by
 cases r with
 | nil=>simp [Lib.join_nil]
 | cons x r =>
  rw [Lib.join_cons]
  have h1:=qi6 c B r (fun y hy=>h y (List.mem_cons_of_mem _ hy))
  have h2:=h x (List.mem_cons_self ..)
  simp only [List.length_append,List.length_cons]
  rw [Nat.succ_mul]
  omega
theorem jp0 (w:Lx.Wd) (h:w.1.length<=100001):(qq3 w).length<=100001:=by
 unfold qq3;split
 ·exact h
 ·simp
theorem jr9 {xs:List (List UInt8)} {c:UInt8} (hl:xs.length<=200000) (hx : ∀x∈xs,x.length<=200000):qc1 xs [c]=some (Lib.join xs [c]):=by
 unfold qc1
 have:=jg0 c 200000 xs hx
 rw [if_pos ⟨by omega,by
  have:xs.length*(200000+1)<=200000*200001:=Nat.mul_le_mul_right _ hl
  omega⟩]
theorem qcg (n:Nat) (ws:List Lx.Wd) (hw:ws.length<=100001) : ∀(m j:Nat) (out:List (List UInt8)),j<=ws.length->ws.length - j<m->out.length=j ->
  q5p n m ws ((ws.length:Nat):Int) (j:Int) out=some (((),()),((),(out++(ws.drop j).map qq3,())))
 | 0,j,_,_,h,_=>absurd h (Nat.not_lt_zero _)
 | m+1,j,out,hj,h,ho=>by
  rw [qhg]
  unfold qpa
  by_cases c0:j<ws.length
  ·have c0':((j:Nat):Int)<((ws.length:Nat):Int):=by omega
   have e1:out++(ws.drop j).map qq3=(out ++ [qq3 ws[j]])++(ws.drop (j+1)).map qq3:=by
    rw [List.drop_eq_getElem_cons c0];simp only [List.map_cons,List.append_assoc,List.cons_append,List.nil_append]
   simp only [c0',decide_true,cond_true,q1l c0,Option.bind_some,qs5,q0b,q0g (show j<4611686018427387904 by omega)]
   rw [e1]
   cases hk:jfz ws[j].1 with
   | true =>
    have a1:q35 16 out [ws[j].1]=some (out ++ [ws[j].1]):=q5b (by simp;omega)
    simp only [cond_true,a1,Option.bind_some]
    rw [qcg n ws hw m (j+1) _ (by omega) (by omega) (by simp;omega)]
    simp only [qq3,hk,if_true]
   | false =>
    have a1:q35 16 out [([120]:List UInt8)]=some (out ++ [[120]]):=q5b (by simp;omega)
    simp only [cond_false,a1,Option.bind_some]
    rw [qcg n ws hw m (j+1) _ (by omega) (by omega) (by simp;omega)]
    simp only [qq3,hk,Bool.false_eq_true,if_false]
  ·have c0' : ¬ ((j:Nat):Int)<((ws.length:Nat):Int):=by omega
   simp only [c0',decide_false,cond_false]
   rw [List.drop_eq_nil_of_le (by omega)]
   simp
theorem qct (n:Nat) (ws:List Lx.Wd) (hw:WB ws) (hn:ws.length<n):q7g n ws=some (shp ws):=by
 unfold q7g
 have h:=qcg n ws hw.1 n 0 [] (Nat.zero_le _) (by omega) rfl
 rw [show ((0:Nat):Int)=(0:Int) from rfl] at h
 rw [h]
 have hj:qc1 (ws.map qq3) [32]=some (shp ws):=jr9 (by rw [List.length_map];have:=hw.1;omega) (fun x hx=>by
  obtain ⟨w,hw1,rfl⟩:=List.mem_map.1 hx
  have:=jp0 w (hw.2 w hw1).1;omega)
 simp only [Option.bind_some,List.nil_append,List.drop_zero,hj]
theorem qnt (n:Nat) (l:List (List UInt8)) (x:List UInt8) (hl:l.length<=1000000) : ∀(m j:Nat),j<=l.length->l.length - j<m ->
  ∃ k:Int,(q5n n m l x ((l.length:Nat):Int) (j:Int)).bind (fun o3=>Sum.elim (fun q4=>some q4.1.1) (fun q5=>some (-1:Int)) o3)=some k/\(0<=k↔x∈l.drop j)
 | 0,j,_,h=>absurd h (Nat.not_lt_zero _)
 | m+1,j,hj,h=>by
  rw [qgl]
  unfold qkm
  by_cases c0:j<l.length
  ·have c0':((j:Nat):Int)<((l.length:Nat):Int):=by omega
   simp only [c0',decide_true,cond_true,q1l c0,Option.bind_some]
   rw [List.drop_eq_getElem_cons c0]
   by_cases hx:x=l[j]
   ·exact ⟨(j:Int),by simp only [hx,decide_true,cond_true,Option.bind_some,Sum.elim_inl],⟨fun _=>by rw [hx];exact List.mem_cons_self ..,fun _=>by omega⟩⟩
   ·simp only [hx,decide_false,cond_false,q0b,q0g (show j<4611686018427387904 by omega)]
    obtain ⟨k,h1,h2⟩:=qnt n l x hl m (j+1) (by omega) (by omega)
    exact ⟨k,h1,by rw [h2,List.mem_cons];simp [hx]⟩
  ·have c0' : ¬ ((j:Nat):Int)<((l.length:Nat):Int):=by omega
   refine ⟨-1,by simp only [c0',decide_false,cond_false,Option.bind_some,Sum.elim_inr],?_⟩
   rw [List.drop_eq_nil_of_le (by omega)]
   simp
theorem q1k (n:Nat) (l:List (List UInt8)) (x:List UInt8) (hl:l.length<=1000000) (hn:l.length<n):q52 n l x=some (decide (x∈l)):=by
 unfold q52 qtw
 obtain ⟨k,h,h2⟩:=qnt n l x hl n 0 (Nat.zero_le _) (by omega)
 rw [show ((0:Nat):Int)=(0:Int) from rfl] at h
 rw [List.drop_zero] at h2
 rw [h]
 simp only [Option.bind_some]
 congr 1
 by_cases hm:x∈l
 ·rw [decide_eq_true hm,decide_eq_true (h2.2 hm)]
 ·rw [decide_eq_false hm,decide_eq_false (fun h=>hm (h2.1 h))]
theorem qkj (n:Nat) (ws:List Lx.Wd) (hw:ws.length<=100001) : ∀(m j:Nat) (out:List Lx.Wd),j<=ws.length->ws.length - j<m->out.length<=j ->
  qae n m ws ((ws.length:Nat):Int) (j:Int) out=some (((),()),((),(out++unm (ws.drop j),())))
 | 0,j,_,_,h,_=>absurd h (Nat.not_lt_zero _)
 | m+1,j,out,hj,h,ho=>by
  rw [ql2]
  unfold j4c
  by_cases c0:j<ws.length
  ·have c0':((j:Nat):Int)<((ws.length:Nat):Int):=by omega
   simp only [c0',decide_true,cond_true,q1l c0,Option.bind_some,qs5,q0b,q0g (show j<4611686018427387904 by omega)]
   rw [List.drop_eq_getElem_cons c0,unm,List.filter_cons]
   cases hk:jfz ws[j].1 with
   | true =>
    simp only [Bool.not_true,cond_false,Bool.false_eq_true,if_false]
    rw [qkj n ws hw m (j+1) _ (by omega) (by omega) (by omega)];rfl
   | false =>
    have a1:q35 24 out [ws[j]]=some (out ++ [ws[j]]):=q5b (by simp;omega)
    simp only [Bool.not_false,cond_true,a1,Option.bind_some,if_true]
    rw [qkj n ws hw m (j+1) _ (by omega) (by omega) (by simp;omega)]
    simp [unm]
  ·have c0' : ¬ ((j:Nat):Int)<((ws.length:Nat):Int):=by omega
   simp only [c0',decide_false,cond_false]
   rw [List.drop_eq_nil_of_le (by omega)]
   simp [unm]
theorem jen (n:Nat) (ws:List Lx.Wd) (hw:ws.length<=100001) (hn:ws.length<n):qz7 n ws=some (unm ws):=by
 unfold qz7
 have h:=qkj n ws hw n 0 [] (Nat.zero_le _) (by omega) (Nat.le_refl _)
 rw [show ((0:Nat):Int)=(0:Int) from rfl] at h
 rw [h];simp
theorem jp6 (c:UInt8):q47 c=(!decide (((c.toNat:Nat):Int)<48) && !decide ((57:Int)<((c.toNat:Nat):Int))):=by
 unfold q47
 by_cases h1:48<=c.toNat<;>by_cases h2:c.toNat<=57<;>simp [h1,h2]<;>omega
theorem qnv (n:Nat) (s:List UInt8) (hL:s.length<=1000000) : ∀m j:Nat,j<=s.length->s.length - j<m->q6c n m s ((s.length:Nat):Int) (j:Int)=some (if (s.drop j).all q47=true then Sum.inr ((s,()),((),())) else Sum.inl ((false,()),((),())))
 | 0,j,_,h=>absurd h (Nat.not_lt_zero _)
 | m+1,j,hj,h=>by
  rw [qgi]
  unfold qlq
  by_cases c0:j<s.length
  ·have c0':((j:Nat):Int)<((s.length:Nat):Int):=by omega
   rw [List.drop_eq_getElem_cons c0,List.all_cons,jp6 s[j]]
   simp only [c0',decide_true,cond_true,q3l c0,Option.bind_some,q0b,q0g (show j<4611686018427387904 by omega)]
   by_cases h1:((s[j].toNat:Nat):Int)<48
   ·simp [h1]
   ·by_cases h2:(57:Int)<((s[j].toNat:Nat):Int)
    ·simp [h1,h2]
    ·simp only [h1,h2,decide_false,cond_false,Bool.not_false,Bool.true_and]
     exact qnv n s hL m (j+1) (by omega) (by omega)
  ·have c0' : ¬ ((j:Nat):Int)<((s.length:Nat):Int):=by omega
   simp only [c0',decide_false,cond_false]
   rw [List.drop_eq_nil_of_le (by omega)]
   simp
theorem c48 (c:UInt8):decide (((c.toNat:Nat):Int)=48)=decide (c=48):=by
 by_cases h:c=48
 ·subst h;rfl
 ·have h2 : ¬ ((c.toNat:Nat):Int)=48:=fun h'=>by
   have h3:c.toNat=48:=by omega
   exact h (UInt8.toNat_inj.1 (h3.trans rfl))
  rw [decide_eq_false h,decide_eq_false h2]
theorem qka (n:Nat) (s:List UInt8) (hL:s.length<=1000000) (hn:s.length<n):qdr n s=some (qdv s):=by
 unfold qdr
 have h:=qnv n s hL n 0 (Nat.zero_le _) (by omega)
 rw [show ((0:Nat):Int)=(0:Int) from rfl,List.drop_zero] at h
 rw [h]
 unfold qdv
 cases s.all q47 with
 | false=>simp
 | true =>
  simp only [if_true,Option.bind_some,Sum.elim_inr,Bool.true_and]
  by_cases h1:1<=s.length
  ·have h1':(1:Int)<=((s.length:Nat):Int):=by omega
   by_cases h2:s.length<=9
   ·have h2':((s.length:Nat):Int)<=9:=by omega
    simp only [h1',h2',h1,h2,decide_true,cond_true,Bool.true_and]
    by_cases h3:s = [48]
    ·simp [h3]
    ·cases s with
     | nil=>simp at h1
     | cons c r =>
      have:=q3l (s:=c::r) (j:=0) (by simp)
      rw [show ((0:Nat):Int)=(0:Int) from rfl] at this
      simp only [h3,decide_false,cond_false,this,Option.bind_some,Bool.false_or,List.getElem_cons_zero,List.head?_cons,Option.some.injEq]
      rw [c48]
   ·have h2' : ¬ ((s.length:Nat):Int)<=9:=by omega
    simp only [h1',h2',h1,h2,decide_true,decide_false,cond_true,cond_false,Bool.true_and,Bool.false_and]
  ·have h1' : ¬ (1:Int)<=((s.length:Nat):Int):=by omega
   simp only [h1',h1,decide_false,cond_false,Bool.false_and]
theorem qwr (n:Nat) (s:List UInt8) (hL:s.length<=1000000) (hn:s.length<n):qf8 n s=some (qn5 s):=by
 unfold qf8 qn5
 obtain ⟨b,hb⟩:=qf7 n 46 s hL
 have l1:=qey 46 s
 have l2:=qj9 46 s
 simp only [hb,Option.bind_some,qka n (q34 46 s) (by omega) (by omega),qka n (qdm 46 s) (by omega) (by omega)]
 cases qdv (q34 46 s)<;>simp
def errT (e:Int):IV:=qjl 126 (.agg ⟨[.int .i64 e]⟩)
def q0:Rq:=([],v0)
theorem j0y (n:Nat) (w x:Lx.Wd) (r:List Lx.Wd) (hw:w.1.length<=1000000) (hx:x.1.length<=1000000) (hn:w.1.length<n) (h4:4<=n):qxl n (w::x::r)=some (match jb3 w.1 x.1 with | .inl e=>(q0,errT e) | .inr q=>(q,q91)):=by
 unfold qxl jb3
 have i0:q1g (w::x::r) (0:Int)=some w:=q1l (l:=w::x::r) (j:=0) (by simp)
 have i1:q1g (w::x::r) (1:Int)=some x:=q1l (l:=w::x::r) (j:=1) (by simp)
 simp only [i0,i1,Option.bind_some,qcx n x.1 hx h4,qc7 n w.1 hw hn]
 cases h1:okS w.1 with
 | false=>rfl
 | true =>
  cases h2:(q19 x.1).2 with
  | false=>simp [q0,v0,errT]
  | true =>
   simp only [Bool.not_true,cond_false,jaq n w.1 (q19 x.1).1 hw hn h4,Option.bind_some,Bool.true_eq_false,if_false]
   cases h3:qtq w.1 (q19 x.1).1 with
   | false=>simp [q0,v0,errT]
   | true=>simp
abbrev VB:=List (List UInt8×(List (List UInt8)×(Bool×IV)))
def pk (σ:MS) (ln st:Int) (vb:VB):((List UInt8×(List UInt8×(Unit×(Unit×(Unit×(Unit×(Int×(Int×(List UInt8×(Unit×Unit))))))))))×(VB×(jqe×Unit)))×(List Rq×(List Sw×(List Rq×(List Sp×Unit)))) :=
 (((σ.mo,(σ.go,((),((),((),((),(ln,(st,(σ.bk,((),())))))))))),(vb,(σ.sd,()))),(σ.rq,(σ.sw,(σ.ex,(σ.rt,())))))
abbrev PK:=((List UInt8×(List UInt8×(Unit×(Unit×(Unit×(Unit×(Int×(Int×(List UInt8×(Unit×Unit))))))))))×(VB×(jqe×Unit)))×(List Rq×(List Sw×(List Rq×(List Sp×Unit))))
def Tl (x:Option (IV×PK)) (r:Int⊕MS) (ln st:Int) (vb:VB):Prop:=match r with
 | .inr σ'=>x=some (q91,pk σ' ln st vb)
 | .inl e=>∃ y,x=some (errT e,y)
theorem Tl.bind {x:Option (IV×PK)} {r:Int⊕MS} {ln st:Int} {vb:VB} (h:Tl x r ln st vb) {f:IV×PK->Option (IV×PK)} (h1 : ∀σ',f (q91,pk σ' ln st vb)=some (q91,pk σ' ln st vb)) (h2 : ∀e y,∃ y',f (errT e,y)=some (errT e,y')):Tl (x.bind f) r ln st vb:=by
 cases r with
 | inr σ' =>
  have h':x=some (q91,pk σ' ln st vb):=h
  show x.bind f=_
  rw [h'];exact h1 σ'
 | inl e =>
  obtain ⟨y,hy⟩ : ∃ y,x=some (errT e,y):=h
  obtain ⟨y',hy'⟩:=h2 e y
  exact ⟨y',by rw [hy];exact hy'⟩
theorem q3y (n:Nat) (σ:MS) (c:Cl) (w:Lx.Wd) (ln st:Int) (vb:VB) (hs:0<=st/\st<=1000000) (hw:w.1.length<=100001/\0<=w.2/\w.2<=100001) :
  Tl (q40 n () c w σ.mo σ.go ln st σ.bk vb σ.sd σ.rq σ.sw σ.ex σ.rt) (q2s σ c st w) ln st vb:=by
 unfold q40 q2s
 have e1:IntKind.wrap .i64 (st+w.2)=st+w.2:=wrap64 (by omega) (by omega)
 have e2:IntKind.wrap .i64 (st+w.2+((w.1.length:Nat):Int))=st+w.2+((w.1.length:Nat):Int):=wrap64 (by omega) (by omega)
 cases hm:q0c clT c σ.sd with
 | some v =>
  simp only [Option.isSome_some,if_true]
  exact ⟨_,by simp only [je8,hm,Option.isSome_some,cond_true];rfl⟩
 | none =>
  simp only [Option.isSome_none,Bool.false_eq_true,if_false]
  show _=some (q91,pk _ ln st vb)
  simp only [je8,hm,Option.isSome_none,cond_false,q0b,e1,e2]
  rfl
end Go.Proofs.YtapfankgdkdkgaaGreatDoor.AM
namespace Go.Proofs.YtapfankgdkdkgaaGreatDoor.AM
open Go.RowKit
set_option linter.unusedVariables false
set_option linter.unusedSimpArgs false
def SB (k:Nat) (σ:MS):Prop:=σ.rq.length<=k/\σ.sw.length<=k/\σ.ex.length<=k/\σ.rt.length<=k
def StB (st:Int):Prop:=0<=st/\st<=1000000
theorem WB.head {w:Lx.Wd} {r:List Lx.Wd} (h:WB (w::r)):w.1.length<=100001/\0<=w.2/\w.2<=100001:=h.2 w (List.mem_cons_self ..)
theorem WB.tail {w:Lx.Wd} {r:List Lx.Wd} (h:WB (w::r)):WB r:=⟨by have:=h.1;simp at this;omega,fun x hx=>h.2 x (List.mem_cons_of_mem _ hx)⟩
theorem jt7 {β:Type} (x:β) (r:List β):q1g (x::r) (0:Int)=some x:=q1l (l:=x::r) (j:=0) (by simp)
theorem idx1 {β:Type} (x y:β) (r:List β):q1g (x::y::r) (1:Int)=some y:=q1l (l:=x::y::r) (j:=1) (by simp)
theorem qvh (n:Nat) (σ:MS) (w:Lx.Wd) (r:List Lx.Wd) (ln st:Int) (vb:VB) (hs:StB st) (hw:WB (w::r)) (hn:200000<n) :
  Tl (qa9 n () (w::r) σ.mo σ.go ln st σ.bk vb σ.sd σ.rq σ.sw σ.ex σ.rt) (qpe σ st qr2 (w::r)) ln st vb:=by
 have hw0:=hw.head
 unfold qa9
 rw [show qpe σ st qr2 (w::r)=(if okS w.1=false then .inl 6 else q2s { σ with mo:=w.1 } (qr2,([],v0)) st w) from rfl]
 simp only [jt7,Option.bind_some,qc7 n w.1 (by omega) (by omega)]
 cases okS w.1 with
 | false=>exact ⟨_,rfl⟩
 | true =>
  simp only [Bool.not_true,cond_false,Bool.true_eq_false,if_false]
  exact (q3y n { σ with mo:=w.1 } (qr2,([],v0)) w ln st vb hs hw0).bind (fun σ'=>rfl) (fun e y=>⟨_,rfl⟩)
theorem qm3 (n:Nat) (σ:MS) (w:Lx.Wd) (r:List Lx.Wd) (ln st:Int) (vb:VB) (hs:StB st) (hw:WB (w::r)) (hn:200000<n) :
  Tl (q6b n () (w::r) σ.mo σ.go ln st σ.bk vb σ.sd σ.rq σ.sw σ.ex σ.rt) (qpe σ st kGo (w::r)) ln st vb:=by
 have hw0:=hw.head
 unfold q6b
 rw [show qpe σ st kGo (w::r)=(if qn5 w.1=false then .inl 7 else q2s { σ with go:=w.1 } (kGo,([],v0)) st w) from rfl]
 simp only [jt7,Option.bind_some,qwr n w.1 (by omega) (by omega)]
 cases qn5 w.1 with
 | false=>exact ⟨_,rfl⟩
 | true =>
  simp only [Bool.not_true,cond_false,Bool.true_eq_false,if_false]
  exact (q3y n { σ with go:=w.1 } (kGo,([],v0)) w ln st vb hs hw0).bind (fun σ'=>rfl) (fun e y=>⟨_,rfl⟩)
theorem j6e (e:Int):q3j (Subtype.val (errT e))=some false:=rfl
theorem qdo:q3j (Subtype.val q91)=some true:=rfl
theorem qpq (n:Nat) (σ:MS) (w x:Lx.Wd) (r:List Lx.Wd) (ln st:Int) (vb:VB) (hs:StB st) (hw:WB (w::x::r)) (hb:SB 200000 σ) (hn:200000<n) :
  Tl (q7t n () (w::x::r) σ.mo σ.go ln st σ.bk vb σ.sd σ.rq σ.sw σ.ex σ.rt) (qpe σ st qpd (w::x::r)) ln st vb:=by
 have hw0:=hw.head
 have hx0:=hw.tail.head
 unfold q7t
 rw [show qpe σ st qpd (w::x::r)=(match jb3 w.1 x.1 with
   | .inl e=>.inl e
   | .inr q=>q2s { σ with rq:=σ.rq ++ [q] } (qpd,(q.1,v0)) st x) from rfl]
 simp only [j0y n w x r (by omega) (by omega) (by omega) (by omega),Option.bind_some]
 cases jb3 w.1 x.1 with
 | inl e=>exact ⟨_,by simp only [j6e,Option.bind_some,Bool.not_false,cond_true];rfl⟩
 | inr q =>
  have a1:q35 72 σ.rq [q]=some (σ.rq ++ [q]):=q5b (by have:=hb.1;simp;omega)
  simp only [qdo,Option.bind_some,Bool.not_true,cond_false,a1,idx1]
  exact (q3y n { σ with rq:=σ.rq ++ [q] } (qpd,(q.1,v0)) x ln st vb hs hx0).bind (fun σ'=>rfl) (fun e y=>⟨_,rfl⟩)
theorem qph (n:Nat) (σ:MS) (w x:Lx.Wd) (r:List Lx.Wd) (ln st:Int) (vb:VB) (hs:StB st) (hw:WB (w::x::r)) (hb:SB 200000 σ) (hn:200000<n) :
  Tl (q7x n () (w::x::r) σ.mo σ.go ln st σ.bk vb σ.sd σ.rq σ.sw σ.ex σ.rt) (qpe σ st qpc (w::x::r)) ln st vb:=by
 have hw0:=hw.head
 have hx0:=hw.tail.head
 unfold q7x
 rw [show qpe σ st qpc (w::x::r)=(match jb3 w.1 x.1 with
   | .inl e=>.inl e
   | .inr q=>q2s { σ with ex:=σ.ex ++ [q] } (qpc,(q.1,q.2)) st x) from rfl]
 simp only [j0y n w x r (by omega) (by omega) (by omega) (by omega),Option.bind_some]
 cases jb3 w.1 x.1 with
 | inl e=>exact ⟨_,by simp only [j6e,Option.bind_some,Bool.not_false,cond_true];rfl⟩
 | inr q =>
  have a1:q35 72 σ.ex [q]=some (σ.ex ++ [q]):=q5b (by have:=hb.2.2.1;simp;omega)
  simp only [qdo,Option.bind_some,Bool.not_true,cond_false,a1,idx1]
  exact (q3y n { σ with ex:=σ.ex ++ [q] } (qpc,(q.1,q.2)) x ln st vb hs hx0).bind (fun σ'=>rfl) (fun e y=>⟨_,rfl⟩)
theorem qpg (n:Nat) (σ:MS) (w x:Lx.Wd) (r:List Lx.Wd) (ln st:Int) (vb:VB) (hs:StB st) (hw:WB (w::x::r)) (hb:SB 200000 σ) (hn:200000<n) :
  Tl (q8b n () (w::x::r) σ.mo σ.go ln st σ.bk vb σ.sd σ.rq σ.sw σ.ex σ.rt) (qpe σ st qpf (w::x::r)) ln st vb:=by
 have hw0:=hw.head
 have hx0:=hw.tail.head
 unfold q8b
 rw [show qpe σ st qpf (w::x::r)=(if okS w.1=false then .inl 6 else if q8g x.1=false then .inl 6 else q2s { σ with sw:=σ.sw ++ [(w.1,x.1)] } (qpf,(w.1,v0)) st x) from rfl]
 simp only [jt7,idx1,Option.bind_some,qc7 n w.1 (by omega) (by omega),qnj]
 cases okS w.1 with
 | false=>exact ⟨_,rfl⟩
 | true =>
  simp only [Bool.not_true,cond_false,Bool.true_eq_false,if_false]
  cases q8g x.1 with
  | false=>exact ⟨_,rfl⟩
  | true =>
   have a1:q35 32 σ.sw [(w.1,x.1)]=some (σ.sw ++ [(w.1,x.1)]):=q5b (by have:=hb.2.1;simp;omega)
   simp only [Bool.not_true,cond_false,Bool.true_eq_false,if_false,a1,Option.bind_some]
   exact (q3y n { σ with sw:=σ.sw ++ [(w.1,x.1)] } (qpf,(w.1,v0)) x ln st vb hs hx0).bind (fun σ'=>rfl) (fun e y=>⟨_,rfl⟩)
theorem qq0 (n:Nat) (σ:MS) (w:Lx.Wd) (r:List Lx.Wd) (ln st:Int) (vb:VB) (hs:StB st) (hw:WB (w::r)) (hb:SB 200000 σ) (hn:200000<n) :
  Tl (q7j n () (w::r) σ.mo σ.go ln st σ.bk vb σ.sd σ.rq σ.sw σ.ex σ.rt) (qpe σ st jhv (w::r)) ln st vb:=by
 have hw0:=hw.head
 have hw1:=hw.1
 obtain ⟨y,hy,hyi⟩ : ∃ y,r.getLast?.getD w=y/\q1g (w::r) (((w::r).length:Int) - 1)=some y:=by
  refine ⟨_,rfl,?_⟩
  have e0:(((w::r).length:Int) - 1)=((r.length:Nat):Int):=by simp
  rw [e0,q1l (l:=w::r) (j:=r.length) (by simp)]
  congr 1
  cases r with
  | nil=>rfl
  | cons a r=>rw [List.getLast?_eq_some_getLast (List.cons_ne_nil _ _),Option.getD_some,List.getLast_eq_getElem];simp
 have hyB:y.1.length<=100001:=by
  have hm:y∈w::r:=by
   rw [<-hy]
   cases r with
   | nil=>exact List.mem_cons_self ..
   | cons a r=>rw [List.getLast?_eq_some_getLast (List.cons_ne_nil _ _),Option.getD_some];exact List.mem_cons_of_mem _ (List.getLast_mem _)
  exact (hw.2 y hm).1
 unfold q7j
 rw [show qpe σ st jhv (w::r)=(if (q19 w.1).2=false then .inl 7 else if (q19 ((r.getLast?.getD w).1)).2=false then .inl 7
  else if 0<jn1 (q19 w.1).1 (q19 ((r.getLast?.getD w).1)).1 then .inl 7 else .inr { σ with rt:=σ.rt ++ [jq3 (q19 w.1).1 (q19 ((r.getLast?.getD w).1)).1] }) from rfl,hy]
 have e1:IntKind.wrap .i64 (((w::r).length:Int) - 1)=((w::r).length:Int) - 1:=wrap64 (by simp only [List.length_cons] at hw1 ⊢;omega) (by simp only [List.length_cons] at hw1 ⊢;omega)
 simp only [jt7,Option.bind_some,qcx n w.1 (by omega) (by omega),q0b,e1,hyi,qcx n y.1 (by omega) (by omega),qst n _ _ (show 100<=n by omega)]
 cases (q19 w.1).2 with
 | false=>exact ⟨_,rfl⟩
 | true =>
  simp only [Bool.not_true,cond_false,Bool.true_eq_false,if_false]
  cases (q19 y.1).2 with
  | false=>exact ⟨_,rfl⟩
  | true =>
   simp only [Bool.not_true,cond_false,Bool.true_eq_false,if_false]
   by_cases hc:0<jn1 (q19 w.1).1 (q19 y.1).1
   ·simp only [hc,decide_true,cond_true,if_true]
    exact ⟨_,rfl⟩
   ·have a1:q35 112 σ.rt [jq3 (q19 w.1).1 (q19 y.1).1]=some (σ.rt ++ [jq3 (q19 w.1).1 (q19 y.1).1]):=q5b (by have:=hb.2.2.2;simp;omega)
    unfold jq3 at a1
    simp only [hc,decide_false,cond_false,if_false,a1,Option.bind_some]
    rfl
end Go.Proofs.YtapfankgdkdkgaaGreatDoor.AM
namespace Go.Proofs.YtapfankgdkdkgaaGreatDoor.AM
open Go.RowKit
set_option linter.unusedVariables false
set_option linter.unusedSimpArgs false
theorem qqk (c:UInt8) : ∀(r:List (List UInt8)) (x:List UInt8),c ∉ x->(∀y∈r,c ∉ y)->spl c [] (x++Lib.joinTail [c] r)=x::r
 | [],x,hx,_=>by
  show spl c [] (x ++ [])=_
  rw [qf9 c x [] [] hx];simp [spl]
 | y::r,x,hx,h=>by
  have e:Lib.joinTail [c] (y::r)=c::(y++Lib.joinTail [c] r):=by simp [Lib.joinTail]
  rw [e,qf9 c x [] _ hx,List.nil_append,spl,if_pos rfl,qqk c r y (h y (List.mem_cons_self ..)) (fun z hz=>h z (List.mem_cons_of_mem _ hz))]
theorem qr5 {t:List UInt8} (h:jfz t=true):t = [61,62]\/t = [91]\/t = [44]\/t = [93]\/t = [40]\/t = [41]:=by
 simpa [jfz] using h
theorem jqy (w:Lx.Wd):(32:UInt8) ∉ qq3 w:=by
 unfold qq3
 split
 ·rename_i h
  rcases qr5 h with h|h|h|h|h|h<;>rw [h]<;>decide
 ·decide
theorem jo4 {ws:List Lx.Wd} {S:List UInt8} (h:shp ws=S) (hS:S ≠ []):ws.map qq3=spl 32 [] S:=by
 cases ws with
 | nil=>exact absurd h.symm hS
 | cons w ws =>
  rw [<-h]
  show _=spl 32 [] (Lib.join (qq3 w::ws.map qq3) [32])
  rw [Lib.join_cons,qqk 32 _ _ (jqy w) (fun y hy=>by
   obtain ⟨z,_,rfl⟩:=List.mem_map.1 hy
   exact jqy z)]
  rfl
theorem qz9 : ∀ws:List Lx.Wd,(unm ws).length=(ws.map qq3).count [120]
 | []=>rfl
 | w::ws=>by
  rw [List.map_cons,List.count_cons,unm,List.filter_cons]
  have ih:=qz9 ws
  unfold unm at ih
  cases hk:jfz w.1 with
  | true =>
   have:qq3 w ≠ [120]:=by
    unfold qq3
    rw [if_pos hk]
    rcases qr5 hk with h|h|h|h|h|h<;>rw [h]<;>decide
   simp [ih,this]
  | false=>simp [qq3,hk,ih]
theorem q6i {ws:List Lx.Wd} {S:List UInt8} {k:Nat} (h:shp ws=S) (hS:S ≠ []) (hk:(spl 32 [] S).count [120]=k):(unm ws).length=k:=by
 rw [qz9,jo4 h hS,hk]
theorem len1 {β:Type} {l:List β} (h:l.length=1) : ∃ a,l = [a]:=List.length_eq_one_iff.1 h
theorem jt2 {β:Type} {l:List β} (h:l.length=2) : ∃ a b,l = [a,b]:=by
 match l,h with
 | [a,b],_=>exact ⟨a,b,rfl⟩
theorem jr5 (ws:List Lx.Wd):(unm ws).length<=ws.length:=List.length_filter_le ..
theorem WB.unm {ws:List Lx.Wd} (h:WB ws):WB (unm ws):=⟨Nat.le_trans (jr5 ws) h.1,fun w hw=>h.2 w (List.mem_filter.1 hw).1⟩
def vbs:VB:=[(qr2,([[120]],(false,qtx 87))),(kGo,([[120]],(false,qtx 88))),(qpd,([[120,32,120]],(true,qtx 89))),(qpc,([[120,32,120]],(true,qtx 90))),
 (qpf,([[120,32,61,62,32,120]],(true,qtx 91))),(jhv,([[120],[91,32,120,32,44,32,120,32,93]],(true,qtx 92)))]
theorem j3l (n:Nat):qjw n=some ((),((vbs,()),())):=rfl
theorem q25 {x:Option (IV×PK)} {r:Int⊕MS} {ln st:Int} {vb:VB} {f:IV×PK->Option (IV×PK)} (h:Tl x r ln st vb) (hf : ∀e y,f (e,y)=some (e,y)):Tl (x.bind f) r ln st vb :=
 h.bind (fun σ'=>hf _ _) (fun e y=>⟨y,hf _ _⟩)
theorem qzi {v:List UInt8} (h1:v≠qr2) (h2:v≠kGo) (h3:v≠qpd) (h4:v≠qpc) (h5:v≠qpf) (h6:v≠jhv):qbl v vbs=none:=by
 unfold vbs
 simp only [qbl,if_neg h1,if_neg h2,if_neg h3,if_neg h4,if_neg h5,if_neg h6]
theorem qn3 (n:Nat) (σ:MS) (v:List UInt8) (ws:List Lx.Wd) (ln st:Int) (hs:StB st) (hw:WB ws) (hb:SB 200000 σ) (hn:200000<n) :
  Tl (q8c n () v ws σ.mo σ.go ln st σ.bk vbs σ.sd σ.rq σ.sw σ.ex σ.rt) (qeq σ st v ws) ln st vbs:=by
 have hu:=hw.unm
 have hwl:=hw.1
 unfold q8c qeq
 simp only [qct n ws hw (by omega),jen n ws hw.1 (by omega),Option.bind_some]
 by_cases h1:v=qr2
 ·subst h1
  rw [show qbl qr2 vbs=some ([[120]],(false,qtx 87)) from rfl,show q4p qr2 = [[120]] from rfl]
  simp only [qpo,q1k n [[120]] (shp ws) (by simp) (by simp;omega),Option.bind_some]
  by_cases hm:shp ws ∈ [[(120:UInt8)]]
  ·obtain ⟨w,hw'⟩:=len1 (q6i (k:=1) (List.mem_singleton.1 hm) (by decide) (by decide))
   rw [hw'] at hu ⊢
   rw [decide_eq_true hm,if_pos hm]
   exact q25 (qvh n σ w [] ln st vbs hs hu hn) (fun e y=>rfl)
  ·rw [decide_eq_false hm,if_neg hm];exact ⟨_,rfl⟩
 by_cases h2:v=kGo
 ·subst h2
  rw [show qbl kGo vbs=some ([[120]],(false,qtx 88)) from rfl,show q4p kGo = [[120]] from rfl]
  simp only [qpo,q1k n [[120]] (shp ws) (by simp) (by simp;omega),Option.bind_some]
  by_cases hm:shp ws ∈ [[(120:UInt8)]]
  ·obtain ⟨w,hw'⟩:=len1 (q6i (k:=1) (List.mem_singleton.1 hm) (by decide) (by decide))
   rw [hw'] at hu ⊢
   rw [decide_eq_true hm,if_pos hm]
   exact q25 (qm3 n σ w [] ln st vbs hs hu hn) (fun e y=>rfl)
  ·rw [decide_eq_false hm,if_neg hm];exact ⟨_,rfl⟩
 by_cases h3:v=qpd
 ·subst h3
  rw [show qbl qpd vbs=some ([[120,32,120]],(true,qtx 89)) from rfl,show q4p qpd = [[120,32,120]] from rfl]
  simp only [qpo,q1k n [[120,32,120]] (shp ws) (by simp) (by simp;omega),Option.bind_some]
  by_cases hm:shp ws ∈ [[(120:UInt8),32,120]]
  ·obtain ⟨w,x,hw'⟩:=jt2 (q6i (k:=2) (List.mem_singleton.1 hm) (by decide) (by decide))
   rw [hw'] at hu ⊢
   rw [decide_eq_true hm,if_pos hm]
   exact q25 (qpq n σ w x [] ln st vbs hs hu hb hn) (fun e y=>rfl)
  ·rw [decide_eq_false hm,if_neg hm];exact ⟨_,rfl⟩
 by_cases h4:v=qpc
 ·subst h4
  rw [show qbl qpc vbs=some ([[120,32,120]],(true,qtx 90)) from rfl,show q4p qpc = [[120,32,120]] from rfl]
  simp only [qpo,q1k n [[120,32,120]] (shp ws) (by simp) (by simp;omega),Option.bind_some]
  by_cases hm:shp ws ∈ [[(120:UInt8),32,120]]
  ·obtain ⟨w,x,hw'⟩:=jt2 (q6i (k:=2) (List.mem_singleton.1 hm) (by decide) (by decide))
   rw [hw'] at hu ⊢
   rw [decide_eq_true hm,if_pos hm]
   exact q25 (qph n σ w x [] ln st vbs hs hu hb hn) (fun e y=>rfl)
  ·rw [decide_eq_false hm,if_neg hm];exact ⟨_,rfl⟩
 by_cases h5:v=qpf
 ·subst h5
  rw [show qbl qpf vbs=some ([[120,32,61,62,32,120]],(true,qtx 91)) from rfl,show q4p qpf = [[120,32,61,62,32,120]] from rfl]
  simp only [qpo,q1k n [[120,32,61,62,32,120]] (shp ws) (by simp) (by simp;omega),Option.bind_some]
  by_cases hm:shp ws ∈ [[(120:UInt8),32,61,62,32,120]]
  ·obtain ⟨w,x,hw'⟩:=jt2 (q6i (k:=2) (List.mem_singleton.1 hm) (by decide) (by decide))
   rw [hw'] at hu ⊢
   rw [decide_eq_true hm,if_pos hm]
   exact q25 (qpg n σ w x [] ln st vbs hs hu hb hn) (fun e y=>rfl)
  ·rw [decide_eq_false hm,if_neg hm];exact ⟨_,rfl⟩
 by_cases h6:v=jhv
 ·subst h6
  rw [show qbl jhv vbs=some ([[120],[91,32,120,32,44,32,120,32,93]],(true,qtx 92)) from rfl,show q4p jhv = [[120],[91,32,120,32,44,32,120,32,93]] from rfl]
  simp only [qpo,q1k n [[120],[91,32,120,32,44,32,120,32,93]] (shp ws) (by simp) (by simp;omega),Option.bind_some]
  by_cases hm:shp ws ∈ [[(120:UInt8)],[91,32,120,32,44,32,120,32,93]]
  ·obtain ⟨w,r,hw'⟩ : ∃ w r,unm ws=w::r:=by
    rcases List.mem_cons.1 hm with h|h
    ·obtain ⟨w,hw'⟩:=len1 (q6i (k:=1) h (by decide) (by decide))
     exact ⟨w,[],hw'⟩
    ·obtain ⟨w,x,hw'⟩:=jt2 (q6i (k:=2) (List.mem_singleton.1 h) (by decide) (by decide))
     exact ⟨w,[x],hw'⟩
   rw [hw'] at hu ⊢
   rw [decide_eq_true hm,if_pos hm]
   exact q25 (qq0 n σ w r ln st vbs hs hu hb hn) (fun e y=>rfl)
  ·rw [decide_eq_false hm,if_neg hm];exact ⟨_,rfl⟩
 ·rw [qzi h1 h2 h3 h4 h5 h6,show q4p v = [] by simp only [q4p,if_neg h1,if_neg h2,if_neg h3,if_neg h4,if_neg h5,if_neg h6]]
  simp only [qpo,q1k n [] (shp ws) (by simp) (by simp;omega),Option.bind_some]
  exact ⟨_,rfl⟩
theorem jiz (v:List UInt8):(∃ y,qbl v vbs=some y/\y.2.1=qbc v)\/(qbl v vbs=none/\qbc v=false):=by
 by_cases h1:v=qr2
 ·subst h1;exact .inl ⟨_,rfl,by decide⟩
 by_cases h2:v=kGo
 ·subst h2;exact .inl ⟨_,rfl,by decide⟩
 by_cases h3:v=qpd
 ·subst h3;exact .inl ⟨_,rfl,by decide⟩
 by_cases h4:v=qpc
 ·subst h4;exact .inl ⟨_,rfl,by decide⟩
 by_cases h5:v=qpf
 ·subst h5;exact .inl ⟨_,rfl,by decide⟩
 by_cases h6:v=jhv
 ·subst h6;exact .inl ⟨_,rfl,by decide⟩
 ·exact .inr ⟨qzi h1 h2 h3 h4 h5 h6,by simp only [qbc,decide_eq_false h3,decide_eq_false h4,decide_eq_false h5,decide_eq_false h6,Bool.or_self]⟩
theorem j9z (n:Nat) (σ:MS) (v:List UInt8) (ws:List Lx.Wd) (ln st:Int) (hs:StB st) (hw:WB ws) (hb:SB 200000 σ) (hn:200000<n) :
  Tl (qum n () v ws σ.mo σ.go ln st σ.bk vbs σ.sd σ.rq σ.sw σ.ex σ.rt) (if qbc v=true/\shp ws = [40] then .inr { σ with bk:=v } else qeq σ st v ws) ln st vbs:=by
 have hwl:=hw.1
 have hS:=qn3 n σ v ws ln st hs hw hb hn
 unfold qum
 rcases jiz v with ⟨y,h1,h2⟩|⟨h1,h2⟩
 ·rw [h1]
  simp only [qpo,h2,qct n ws hw (by omega),Option.bind_some]
  cases qbc v with
  | false =>
   simp only [cond_false,Bool.false_eq_true,false_and,if_false]
   exact q25 hS (fun e y=>rfl)
  | true =>
   simp only [cond_true,true_and]
   by_cases hp:shp ws = [40]
   ·rw [decide_eq_true hp,if_pos hp];rfl
   ·rw [decide_eq_false hp,if_neg hp]
    exact q25 hS (fun e y=>rfl)
 ·rw [h1]
  simp only [qpo,h2,Bool.false_eq_true,false_and,if_false]
  exact q25 hS (fun e y=>rfl)
theorem j2c (n:Nat) (σ:MS) (ws:List Lx.Wd) (ln st:Int) (hs:StB st) (hw:WB ws) (hb:SB 200000 σ) (hn:200000<n) :
  Tl (qeu n () ws σ.mo σ.go ln st σ.bk vbs σ.sd σ.rq σ.sw σ.ex σ.rt) (qf3 σ st ws) ln st vbs:=by
 have hwl:=hw.1
 unfold qeu
 cases ws with
 | nil=>rfl
 | cons w r =>
  have c0 : ¬ ((((w::r).length:Nat):Int)=0):=by simp only [List.length_cons];omega
  have hsub:q1s (w::r) (1:Int) (((w::r).length:Nat):Int)=some r:=by
   have:=sub_le (l:=w::r) (a:=1) (b:=(w::r).length) (by simp) (Nat.le_refl _)
   rw [show ((1:Nat):Int)=(1:Int) from rfl] at this
   rw [this];simp
  unfold qf3
  simp only [c0,decide_false,cond_false,jt7,hsub,Option.bind_some,qct n (w::r) hw (by omega)]
  by_cases hb0:σ.bk = []
  ·rw [decide_eq_true hb0,if_pos hb0]
   exact q25 (j9z n σ w.1 r ln st hs hw.tail hb hn) (fun e y=>rfl)
  ·rw [decide_eq_false hb0,if_neg hb0]
   by_cases hp:shp (w::r) = [41]
   ·rw [cond_false,decide_eq_true hp,if_pos hp];rfl
   ·rw [cond_false,decide_eq_false hp,if_neg hp]
    exact q25 (qn3 n σ σ.bk (w::r) ln st hs hw hb hn) (fun e y=>rfl)
end Go.Proofs.YtapfankgdkdkgaaGreatDoor.AM
