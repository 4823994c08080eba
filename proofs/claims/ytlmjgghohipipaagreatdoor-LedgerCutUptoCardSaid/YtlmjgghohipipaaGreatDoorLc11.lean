
import Derived.Test.YtlmjgghohipipaaGreatDoorLc9
import Derived.Test.YtlmjgghohipipaaGreatDoorLc10
import Derived.Lib.SlTrimSet
import Derived.Shelf.Strings.SlTrimAscii
namespace Go.Proofs.YtlmjgghohipipaaGreatDoor.AM
open Go.RowKit
set_option linter.unusedVariables false
set_option linter.unusedSimpArgs false
theorem qks {n:Int} (h:0<=n/\n<=999999999):(Lib.itoa n).length<=9:=by
 rw [q1g h.1];exact qeu 8 n.toNat (by omega)
theorem qoe (s:List UInt8):(q0o s).length<=s.length:=by
 unfold q0o;split
 ·rw [List.length_drop];omega
 ·exact Nat.le_refl _
end Go.Proofs.YtlmjgghohipipaaGreatDoor.AM
namespace Go.Proofs.YtlmjgghohipipaaGreatDoor.AM
open Go.RowKit
set_option linter.unusedVariables false
set_option linter.unusedSimpArgs false
theorem q6f {s t:List UInt8} (h:s.length+t.length<=9223372036854775807):qmz s t=some (s++t):=if_pos h
theorem q87 (n m:Nat) (a1 a2 a3 i i' a5 a6 a7 x:Int) (a8 a9:List UInt8) (hx:q67 ([a1,a2,a3]:List Int) i=some x) (hi:i<3) (hw:IntKind.wrap .i64 (i+1)=i') :
  q2v n (m+1) a1 a2 a3 i a5 a6 a7 a8 a9=if j5r x=true then q2v n m a1 a2 a3 i' a5 a6 a7 a8 a9 else some (Sum.inl ((false,()),((),()))):=by
 rw [q4w]
 unfold q9n j5r
 simp only [hi,decide_true,cond_true,hx,Option.bind_some,q2f,hw]
 by_cases h1:x<0
 ·have : ¬ (0:Int)<=x:=by omega
  simp [h1,this]
 ·have h1':(0:Int)<=x:=by omega
  by_cases h2:999999999<x
  ·have : ¬ x<=999999999:=by omega
   simp [h1,h2,this]
  ·have:x<=999999999:=by omega
   simp [h1,h2,h1',this]
theorem q1s (n:Nat) (v:VD) (hn:4<=n):q2c n v=some (q0n v):=by
 obtain ⟨k,rfl⟩ : ∃ k,n=k+1+1+1+1:=⟨n - 4,by omega⟩
 obtain ⟨a,b,c,p,q⟩:=v
 unfold q2c
 rw [q87 _ _ a b c 0 1 _ _ _ a _ _ rfl (by decide) rfl,q87 _ _ a b c 1 2 _ _ _ b _ _ rfl (by decide) rfl,q87 _ _ a b c 2 3 _ _ _ c _ _ rfl (by decide) rfl,q4w]
 unfold q9n q0n qgm qbk
 dsimp only
 cases j5r a with
 | false=>rfl
 | true=>cases j5r b with
  | false=>rfl
  | true=>cases j5r c with
   | false=>rfl
   | true =>
    simp only [if_true,Bool.true_and,show ¬ (3:Int)<3 from by decide,decide_false,cond_false,Option.bind_some,Sum.elim_inr]
    cases q3k q4e p<;>cases q3k q1r q<;>rfl
theorem qqw (n:Nat) (s:List UInt8) (hs:s.length<=1000000):q41 n s [118]=some (q0o s):=by
 unfold q41 q5m q0x q0o
 cases s with
 | nil=>rfl
 | cons b r =>
  have h1:((List.length ([118]:List UInt8):Nat):Int)<=((List.length (b::r):Nat):Int):=by simp;omega
  have h2:q5y (b::r) (0:Int) ((List.length ([118]:List UInt8):Nat):Int)=some [b]:=sub_zero (b:=1) (by simp)
  have h3:q5y (b::r) ((List.length ([118]:List UInt8):Nat):Int) ((List.length (b::r):Nat):Int)=some r:=by
   have:=sub_le (l:=b::r) (a:=1) (b:=(b::r).length) (by simp) (Nat.le_refl _)
   rw [show ((List.length ([118]:List UInt8):Nat):Int)=((1:Nat):Int) from rfl,this]
   simp
  simp only [h1,decide_true,cond_true,h2,Option.bind_some,List.head?_cons,Option.some.injEq,List.drop_succ_cons,List.drop_zero]
  by_cases hb:b=118
  ·simp only [hb,decide_true,cond_true,if_true] at h3 ⊢
   rw [h3];rfl
  ·have : ¬ [b]=([118]:List UInt8):=fun h=>hb (by simpa using h)
   simp [this,hb]
theorem qel {n:Int} (h:0<=n/\n<=999999999):qew n=some (Lib.itoa n):=if_pos ⟨by omega,by omega⟩
end Go.Proofs.YtlmjgghohipipaaGreatDoor.AM
namespace Go.Proofs.YtlmjgghohipipaaGreatDoor.AM
open Go.RowKit
set_option linter.unusedVariables false
set_option linter.unusedSimpArgs false
theorem qfr (n:Nat) (a b:Int):q59 n a b=some (qmy a b):=by
 unfold q59 qmc qmy
 simp only [decide_true,Bool.not_true,Option.bind_some,cond_false]
 by_cases h1:a<b
 ·simp [h1]
 ·by_cases h2:b<a
  ·simp [h1,h2]
  ·simp [h1,h2]
def q51:List Int->Int
 | []=>0
 | x::l=>or2 x (q51 l)
theorem qjh (n:Nat) (l:List Int) (hL:l.length<=1000000) : ∀m j:Nat,j<=l.length->l.length - j<m->q5q n m 0 l ((l.length:Nat):Int) (j:Int)=some (if q51 (l.drop j)=0 then Sum.inr (((0:Int),()),((),())) else Sum.inl ((q51 (l.drop j),()),((),())))
 | 0,j,_,h=>absurd h (Nat.not_lt_zero _)
 | m+1,j,hj,h=>by
  rw [qcs]
  unfold qlb
  by_cases c0:j<l.length
  ·have c0':((j:Nat):Int)<((l.length:Nat):Int):=by omega
   have ih:=qjh n l hL m (j+1) (by omega) (by omega)
   have hd:l.drop j=l[j]::l.drop (j+1):=(List.drop_eq_getElem_cons c0)
   simp only [c0',decide_true,cond_true,q66 c0,Option.bind_some,q2f,q12 (show j<4611686018427387904 by omega),ih,hd,q51,or2]
   by_cases h0:l[j]=0
   ·simp [h0]
   ·simp [h0]
  ·have c0' : ¬ ((j:Nat):Int)<((l.length:Nat):Int):=by omega
   have:l.drop j = []:=List.drop_eq_nil_of_le (by omega)
   simp [c0',this,q51]
theorem qjm (n:Nat) (l:List Int) (hL:l.length<=1000000) (hn:l.length<n):qeb n l=some (q51 l):=by
 unfold qeb
 have:=qjh n l hL n 0 (Nat.zero_le _) (by omega)
 rw [show ((0:Nat):Int)=(0:Int) from rfl] at this
 rw [this,List.drop_zero]
 by_cases h:q51 l=0
 ·simp [h]
 ·simp [h]
theorem qix (n:Nat) (v:VD) (hn:4<=n):qbf n v=some (q5b v):=by
 unfold qbf q5b
 rw [q1s n v hn]
 cases hc:q0n v with
 | false=>rfl
 | true =>
  obtain ⟨h1,h2,h3,h4,h5⟩:=q1p hc
  have l1:=qks h1
  have l2:=qks h2
  have l3:=qks h3
  have t1:=q79 h4
  have t2:=q79 h5
  simp only [Option.bind_some,Bool.not_true,cond_false,qel h1,qel h2,qel h3,if_true]
  unfold j7v q3m
  generalize Lib.itoa v.1=A at l1
  generalize Lib.itoa v.2.1=B at l2
  generalize Lib.itoa v.2.2.1=C at l3
  generalize v.2.2.2.1=p at t1
  generalize v.2.2.2.2=q at t2
  rw [q6f (by simp;omega)];simp only [Option.bind_some]
  rw [q6f (by simp;omega)];simp only [Option.bind_some]
  rw [q6f (by simp;omega)];simp only [Option.bind_some]
  rw [q6f (by simp;omega)];simp only [Option.bind_some]
  rw [q6f (by simp;omega)];simp only [Option.bind_some]
  have k1:qmz [45] p=some ([45]++p):=q6f (by simp;omega)
  have k2:qmz [43] q=some ([43]++q):=q6f (by simp;omega)
  by_cases hp:p = []
  ·by_cases hq:q = []
   ·simp [hp,hq]
   ·simp only [hp,hq,decide_true,decide_false,Bool.not_true,Bool.not_false,cond_true,cond_false,k2,Option.bind_some]
    rw [q6f (by simp;omega)]
    simp
  ·by_cases hq:q = []
   ·simp only [hp,hq,decide_true,decide_false,Bool.not_true,Bool.not_false,cond_true,cond_false,k1,Option.bind_some]
    rw [q6f (by simp;omega)]
    simp
   ·simp only [hp,hq,decide_true,decide_false,Bool.not_true,Bool.not_false,cond_true,cond_false,k1,k2,Option.bind_some]
    rw [q6f (by simp;omega)];simp only [Option.bind_some]
    rw [q6f (by simp;omega)]
    simp
theorem qdk (n:Nat) (c:UInt8) (s:List UInt8) (hs:s.length<=1000000) : ∃ b,qrm n s [c]=some (q1x c s,(q9z c s,b)):=by
 unfold qrm qzs qf8 q1x q9z
 simp only [show s.length<4294967281 from by omega,if_true,Option.bind_some]
 have hge:=Lib.index_ge s [c]
 by_cases h1:Lib.index s [c] = -1
 ·simp only [h1,show ¬ (0:Int)<=-1 from by decide,decide_false,cond_false,Option.bind_some,if_true]
  exact ⟨_,rfl⟩
 ·obtain ⟨i,hi⟩ : ∃ i:Nat,Lib.index s [c]=(i:Int):=⟨(Lib.index s [c]).toNat,by omega⟩
  have hlt:=qv4 c s i hi
  have n1 : ¬ ((i:Nat):Int) = -1:=by omega
  have n2:(0:Int)<=((i:Nat):Int):=by omega
  rw [hi]
  have w1:IntKind.wrap .i64 (((i:Nat):Int)+((List.length [c]:Nat):Int))=((i+1:Nat):Int):=q12 (by omega)
  simp only [n1,n2,decide_true,cond_true,if_false,sub_zero (show i<=s.length by omega),Option.bind_some,q2f,w1,sub_le (show i+1<=s.length by omega) (Nat.le_refl _),Int.toNat_natCast]
  refine ⟨true,?_⟩
  have e6:(s.drop (i+1)).take (s.length - (i+1))=s.drop (i+1):=List.take_of_length_le (by rw [List.length_drop];exact Nat.le_refl _)
  rw [e6]
theorem qd0 (c:UInt8) (s:List UInt8):(q1x c s).length<=s.length:=by
 unfold q1x;split
 ·exact Nat.le_refl _
 ·rw [List.length_take];omega
theorem qll (c:UInt8) (s:List UInt8):(q9z c s).length<=s.length:=by
 unfold q9z;split
 ·simp
 ·rw [List.length_drop];omega
theorem qrn (n:Nat) (s:List UInt8) (hs:s.length<=1000000) (hn:4<=n):qdu n s=some (q19 s):=by
 unfold qdu q19 qyj
 obtain ⟨b1,e1⟩:=qdk n 43 s hs
 have l1:=qd0 43 s
 have l1':=qll 43 s
 obtain ⟨b2,e2⟩:=qdk n 45 (q1x 43 s) (by omega)
 have l2:=qd0 45 (q1x 43 s)
 have e3:=qqw n (q1x 45 (q1x 43 s)) (by omega)
 have l3:=qoe (q1x 45 (q1x 43 s))
 obtain ⟨b4,e4⟩:=qdk n 46 (q0o (q1x 45 (q1x 43 s))) (by omega)
 have l4:=qd0 46 (q0o (q1x 45 (q1x 43 s)))
 have l4':=qll 46 (q0o (q1x 45 (q1x 43 s)))
 obtain ⟨b5,e5⟩:=qdk n 46 (q9z 46 (q0o (q1x 45 (q1x 43 s)))) (by omega)
 have l5:=qd0 46 (q9z 46 (q0o (q1x 45 (q1x 43 s))))
 have l5':=qll 46 (q9z 46 (q0o (q1x 45 (q1x 43 s))))
 have m1:q36 (q1x 46 (q0o (q1x 45 (q1x 43 s))))=some (q9x (q1x 46 (q0o (q1x 45 (q1x 43 s))))):=if_pos (by omega)
 have m2:q36 (q1x 46 (q9z 46 (q0o (q1x 45 (q1x 43 s)))))=some (q9x (q1x 46 (q9z 46 (q0o (q1x 45 (q1x 43 s)))))):=if_pos (by omega)
 have m3:q36 (q9z 46 (q9z 46 (q0o (q1x 45 (q1x 43 s)))))=some (q9x (q9z 46 (q9z 46 (q0o (q1x 45 (q1x 43 s)))))):=if_pos (by omega)
 simp only [e1,Option.bind_some,e2,e3,e4,e5,m1,m2,m3]
 generalize (q9x (q1x 46 (q0o (q1x 45 (q1x 43 s)))),(q9x (q1x 46 (q9z 46 (q0o (q1x 45 (q1x 43 s))))),(q9x (q9z 46 (q9z 46 (q0o (q1x 45 (q1x 43 s))))),(q9z 45 (q1x 43 s),q9z 43 s))))=v
 rw [q1s n v hn,qix n v hn]
 cases hc:q0n v with
 | false=>simp
 | true =>
  by_cases ht:q5b v=s
  ·simp [ht]
  ·simp [ht]
theorem qxw (n:Nat) (a b:List UInt8) (ha:a.length<=1000000) (hb:b.length<=1000000) (hn:a.length<n/\b.length<n/\3<=n):qlp n a b=some (jb1 a b):=by
 unfold qlp jb1 jah qac
 rw [q5n n a ha hn.1,q5n n b hb hn.2.1]
 simp only [Option.bind_some,qfr,q6p]
 cases qa5 a with
 | false=>cases qa5 b with
  | false =>
   simp only [cond_false,Bool.false_eq_true,if_false]
   unfold qi0 qmy or2
   simp
  | true =>
   simp only [cond_false,cond_true,Bool.false_eq_true,if_false,if_true]
   unfold qi0 qmy or2
   simp
 | true=>cases qa5 b with
  | false =>
   simp only [cond_false,cond_true,Bool.false_eq_true,if_false,if_true]
   unfold qi0 qmy or2
   simp
  | true =>
   simp only [cond_true,if_true]
   rw [qjm n _ (by simp) (by simp;omega)]
   simp only [Option.bind_some,q51]
   unfold qi0
   have e0:qmy (0:Int) 0=0:=by decide
   dsimp only
   rw [e0]
   unfold or2
   simp only [if_true]
   split
   ·split<;>simp_all
   ·rfl
theorem qcf (n:Nat) (l1 l2:List (List UInt8)) (h1:l1.length<=1000000) (h2:l2.length<=1000000) (hw : ∀w,w∈l1\/w∈l2->w.length<=1000000/\w.length<n) (hn:3<=n) : ∀m j:Nat,j<=l1.length->j<=l2.length->l1.length - j<m ->
  ((q32 n m l1 l2 l1 ((l1.length:Nat):Int) (j:Int)).bind fun (o5:((Int×(Unit))×(Unit)×(Unit))⊕(((List (List UInt8))×((List (List UInt8))×(Unit)))×(Unit)×(Unit)))=>Sum.elim (fun (q6:(Int×(Unit))×(Unit)×(Unit))=>some q6.1.1) (fun (q7:((List (List UInt8))×((List (List UInt8))×(Unit)))×(Unit)×(Unit))=>(bif decide (((List.length q7.1.1:Nat):Int)<((List.length q7.1.2.1:Nat):Int)) then some (-1:Int) else some (0:Int))) o5)=some (cmpL jb1 (l1.drop j) (l2.drop j))
 | 0,j,_,_,h=>absurd h (Nat.not_lt_zero _)
 | m+1,j,hj,hj2,h=>by
  rw [q92]
  unfold qbo
  by_cases c0:j<l1.length
  ·have c0':((j:Nat):Int)<((l1.length:Nat):Int):=by omega
   have hd:l1.drop j=l1[j]::l1.drop (j+1):=(List.drop_eq_getElem_cons c0)
   by_cases c1:j<l2.length
   ·have c1' : ¬ ((l2.length:Nat):Int)<=((j:Nat):Int):=by omega
    have hd2:l2.drop j=l2[j]::l2.drop (j+1):=(List.drop_eq_getElem_cons c1)
    have ih:=qcf n l1 l2 h1 h2 hw hn m (j+1) (by omega) (by omega) (by omega)
    have k1:=hw l1[j] (Or.inl (List.getElem_mem c0))
    have k2:=hw l2[j] (Or.inr (List.getElem_mem c1))
    have hp:=qxw n l1[j] l2[j] k1.1 k2.1 ⟨k1.2,k2.2,hn⟩
    rw [hd,hd2,cmpL]
    simp only [c0',decide_true,cond_true,q66 c0,Option.bind_some,c1',decide_false,cond_false,q66 c1,hp,q2f,q12 (show j<4611686018427387904 by omega)]
    unfold or2
    by_cases h0:jb1 l1[j] l2[j]=0
    ·simp only [h0,decide_true,Bool.not_true,cond_false,if_true]
     exact ih
    ·simp only [h0,decide_false,Bool.not_false,cond_true,if_false,Option.bind_some,Sum.elim_inl]
   ·have c1':((l2.length:Nat):Int)<=((j:Nat):Int):=by omega
    have hd2:l2.drop j = []:=List.drop_eq_nil_of_le (by omega)
    rw [hd,hd2,cmpL]
    simp only [c0',decide_true,cond_true,q66 c0,Option.bind_some,c1',Sum.elim_inl]
  ·have c0' : ¬ ((j:Nat):Int)<((l1.length:Nat):Int):=by omega
   have hd:l1.drop j = []:=List.drop_eq_nil_of_le (by omega)
   simp only [c0',decide_false,cond_false,Option.bind_some,Sum.elim_inr]
   have hje:j=l1.length:=by omega
   rw [hd]
   by_cases c1:j<l2.length
   ·have hd2:l2.drop j=l2[j]::l2.drop (j+1):=(List.drop_eq_getElem_cons c1)
    have c2:((l1.length:Nat):Int)<((l2.length:Nat):Int):=by omega
    rw [hd2]
    simp only [c2,decide_true,cond_true,cmpL]
   ·have hd2:l2.drop j = []:=List.drop_eq_nil_of_le (by omega)
    have c2 : ¬ ((l1.length:Nat):Int)<((l2.length:Nat):Int):=by omega
    rw [hd2]
    simp only [c2,decide_false,cond_false,cmpL]
theorem qo4 (n:Nat) (l1 l2:List (List UInt8)) (h1:l1.length<=1000000) (h2:l2.length<=1000000) (hw : ∀w,w∈l1\/w∈l2->w.length<=1000000/\w.length<n) (hn:3<=n) (hn2:l1.length<n):qev n l1 l2 ()=some (cmpL jb1 l1 l2):=by
 have:=qcf n l1 l2 h1 h2 hw hn n 0 (Nat.zero_le _) (Nat.zero_le _) (by omega)
 rw [List.drop_zero,List.drop_zero] at this
 exact this
theorem j13 (n:Nat) (a b:List UInt8) (ha:a.length<=100000) (hb:b.length<=100000) (hn:a.length+3<n/\b.length+3<n):qur n a b=some (qih a b):=by
 unfold qur
 by_cases hab:a=b
 ·subst hab
  rw [qic.refl]
  simp
 ·simp only [hab,decide_false,cond_false]
  by_cases h1:a = []
  ·have hb0:b ≠ []:=fun e=>hab (by rw [h1,e])
   simp only [h1,decide_true,cond_true]
   unfold qih qi0 j8i qmy or2
   simp [hb0]
  ·simp only [h1,decide_false,cond_false]
   by_cases h2:b = []
   ·simp only [h2,decide_true,cond_true]
    unfold qih qi0 j8i qmy or2
    simp [h1]
   ·simp only [h2,decide_false,cond_false]
    have s1:q49 a [46]=some (spl 46 [] a):=if_pos (by omega)
    have s2:q49 b [46]=some (spl 46 [] b):=if_pos (by omega)
    have k1:=qbb 46 a []
    have k2:=qbb 46 b []
    rw [s1,s2]
    simp only [Option.bind_some]
    rw [qo4 n _ _ (by omega) (by omega) (fun w hw=>by
     rcases hw with hw|hw
     ·have:=q8d 46 a [] w hw;simp at this;omega
     ·have:=q8d 46 b [] w hw;simp at this;omega) (by omega) (by omega)]
    unfold qih j8i
    simp only [h1,h2,if_false]
    unfold qi0
    have e0:qmy (0:Int) 0=0:=by decide
    dsimp only
    rw [e0]
    unfold or2
    simp
theorem qmj (n:Nat) (a b:VD) (hn:100<=n):q4a n a b=some (qd6 a b):=by
 unfold q4a qd6
 rw [q1s n a (by omega),q1s n b (by omega)]
 cases hca:q0n a with
 | false=>rfl
 | true=>cases hcb:q0n b with
  | false=>rfl
  | true =>
   obtain ⟨-,-,-,h4,-⟩:=q1p hca
   obtain ⟨-,-,-,k4,-⟩:=q1p hcb
   have t1:=q79 h4
   have t2:=q79 k4
   simp only [Option.bind_some,Bool.not_true,cond_false,qfr]
   rw [j13 n _ _ (by omega) (by omega) ⟨by omega,by omega⟩]
   simp only [Option.bind_some]
   rw [qjm n _ (by simp) (by simp;omega)]
   simp only [Option.bind_some,q51,Bool.and_self,if_true]
   have z0 : ∀x:Int,or2 x 0=x:=fun x=>by unfold or2;split<;>simp_all
   rw [z0]
   rfl
end Go.Proofs.YtlmjgghohipipaaGreatDoor.AM
namespace Go.Proofs.YtlmjgghohipipaaGreatDoor.AM
open Go.RowKit
set_option linter.unusedVariables false
set_option linter.unusedSimpArgs false
theorem q9c (v:VD):(q5b v).length<=92:=by
 unfold q5b;split
 ·rename_i h;exact j9m h
 ·simp
end Go.Proofs.YtlmjgghohipipaaGreatDoor.AM
namespace Go.Proofs.YtlmjgghohipipaaGreatDoor.AM
open Go.RowKit
set_option linter.unusedVariables false
set_option linter.unusedSimpArgs false
theorem qt9 {a b:VD} (ha:q0n a=true) (hb:q0n b=true):qd6 a b=cmpC (core a) (core b):=by unfold qd6;rw [ha,hb];rfl
theorem qgb (a b:VD):qd6 a b = - qd6 b a:=by
 unfold qd6
 cases q0n a<;>cases q0n b<;>simp
 exact quu.anti _ _
end Go.Proofs.YtlmjgghohipipaaGreatDoor.AM
namespace Go.Proofs.YtlmjgghohipipaaGreatDoor.AM
open Go.RowKit
set_option linter.unusedVariables false
set_option linter.unusedSimpArgs false
end Go.Proofs.YtlmjgghohipipaaGreatDoor.AM
namespace Go.Proofs.YtlmjgghohipipaaGreatDoor.AM
open Go.RowKit
set_option linter.unusedVariables false
set_option linter.unusedSimpArgs false
end Go.Proofs.YtlmjgghohipipaaGreatDoor.AM
namespace Go.Proofs.YtlmjgghohipipaaGreatDoor.AM
open Go.RowKit
set_option linter.unusedVariables false
set_option linter.unusedSimpArgs false
theorem j9a {a b c:VD} (ha:q0n a=true) (hb:q0n b=true) (hc:q0n c=true) (h1:qd6 a b<=0) (h2:qd6 b c<=0):qd6 a c<=0:=by
 rw [qt9 ha hb] at h1
 rw [qt9 hb hc] at h2
 rw [qt9 ha hc]
 exact quu.tr _ _ _ h1 h2
end Go.Proofs.YtlmjgghohipipaaGreatDoor.AM
namespace Go.Proofs.YtlmjgghohipipaaGreatDoor.AM
open Go.RowKit
set_option linter.unusedVariables false
set_option linter.unusedSimpArgs false
def qmf (c:UInt8):Bool:=qrb c||decide (c.toNat=95)||decide (c.toNat=46)
def qe9 (s:List UInt8):Bool:=!decide (s = [])&&(!decide (s = [46])&&(!decide (s = [46,46])&&s.all qmf))
def q9w (s:List UInt8):Bool:=decide (s.length<=60)&&(spl 47 [] s).all qe9
def q31 (w:List UInt8):Bool:=decide (w.head? = some 118)&&qa5 (w.drop 1)
def anyS (s:List UInt8):Bool:=(spl 47 [] s).any q31
def qfk (c:UInt8):List UInt8->Int
 | []=>-1
 | b::r=>if b=c then (r.length:Int) else qfk c r
def q7q (c:UInt8) (s:List UInt8):Int:=qfk c s.reverse
theorem qve (c:UInt8) : ∀l,-1<=qfk c l/\qfk c l<(l.length:Int)
 | []=>by simp [qfk]
 | b::r=>by
  have:=qve c r
  rw [qfk];split
  ·simp;omega
  ·simp;omega
theorem qw6 (c:UInt8) (s:List UInt8) : -1<=q7q c s/\q7q c s<(s.length:Int):=by
 have:=qve c s.reverse;unfold q7q;simpa using this
def q6m (s:List UInt8):List UInt8:=s.take (q7q 47 s).toNat
def q8h (s:List UInt8):List UInt8:=s.drop (q7q 47 s+1).toNat
abbrev qx7:List UInt8:=[48,49,50,51,52,53,54,55,56,57]
theorem j5p (c:UInt8):qx7.contains c=q23 c:=by
 have h : ∀k:Fin 256,qx7.contains (UInt8.ofNat k.val)=q23 (UInt8.ofNat k.val):=by decide +kernel
 have h1:=h ⟨c.toNat,c.toNat_lt⟩
 simpa using h1
theorem dropWhile_nil (p:UInt8->Bool) : ∀l:List UInt8,l.dropWhile p = []↔l.all p=true
 | []=>by simp
 | b::l=>by
  rw [List.dropWhile_cons]
  cases h:p b with
  | true=>simp [h,dropWhile_nil p l]
  | false=>simp [h]
theorem qa6 {p:UInt8->Bool} {c:UInt8} : ∀{l:List UInt8},c∈l->p c=false->c∈l.dropWhile p
 | b::l,h,hp=>by
  rw [List.dropWhile_cons]
  rcases List.mem_cons.1 h with rfl|h
  ·simp [hp]
  ·cases hb:p b with
   | true=>simpa using qa6 h hp
   | false=>simp [h]
theorem j4z (s:List UInt8):decide (Lib.trimS s qx7 = [])=s.all q23:=by
 have he:(fun c=>qx7.contains c)=q23:=funext j5p
 unfold Lib.trimS Lib.trimRightS Lib.trimLeftS
 rw [he]
 cases h:s.all q23 with
 | true =>
  have h2:s.reverse.all q23=true:=by rw [List.all_reverse];exact h
  rw [(dropWhile_nil q23 s.reverse).2 h2];simp
 | false =>
  rw [decide_eq_false_iff_not,dropWhile_nil]
  intro hc
  have h3 : ∃ c,c∈s/\q23 c=false:=by
   have:=List.all_eq_false.1 h
   obtain ⟨c,hc,hn⟩:=this
   exact ⟨c,hc,by simpa using hn⟩
  obtain ⟨c,hm,hn⟩:=h3
  have h4:c∈(s.reverse.dropWhile q23).reverse:=by simpa using qa6 (l:=s.reverse) (by simpa using hm) hn
  have:=List.all_eq_true.1 hc c h4
  rw [hn] at this;cases this
def numOf (s:List UInt8):Int:=match Lib.atoiAll s with
 | .ok v=>v
 | .range=>Lib.atoiSat s
 | _=>0
def qz7 (s:List UInt8):Bool:=match Lib.atoiAll s with
 | .ok v=>decide (2<=v)&&(decide (v<=999999999)&&decide (s=Lib.itoa v))
 | _=>false
def okS (p:List UInt8):Bool:=q9w p&&(!anyS (q6m p)&&(!q31 (q8h p)||(qz7 ((q8h p).drop 1) && !decide (q6m p = []))))
def q9l (p:List UInt8):List UInt8×(Int×Bool):=if okS p then (if q31 (q8h p) then (q6m p,(numOf ((q8h p).drop 1),true)) else (p,(0,true))) else ([],(0,false))
end Go.Proofs.YtlmjgghohipipaaGreatDoor.AM
namespace Go.Proofs
open Go.RowKit Go.Shelf Go.Lib
shelf_lay Lays.n160 Nm 160 at Tryz as Tryz.laysTrim
set_option linter.unusedVariables false
set_option linter.unusedSimpArgs false
namespace YtlmjgghohipipaaGreatDoor.AM
def qf3 (s cs:List UInt8):Option (List UInt8):=if cs=qx7/\s.length<=2000000 then some (Lib.trimS s qx7) else none
def qwz:FC:={ f:=122,args:=[qhk,qhk],res:=qhk,F:=fun p=>qf3 p.1 p.2 }
theorem j77:q0d Inv Tryz.prog qwz:=fun G hG=>⟨⟨by kernel_rfl,fun a r h=>by
 obtain ⟨s,cs⟩:=a
 have h':qf3 s cs=some r:=h
 unfold qf3 at h'
 split at h'
 case isFalse=>cases h'
 rename_i hc
 obtain ⟨rfl,hl⟩:=hc
 have hr:Lib.trimS s qx7=r:=Option.some.inj h'
 intro Pc w vs hg hlt hv
 obtain ⟨l⟩:=vs
 match l,hv with
 | [x,y],⟨h1,h2,_⟩ =>
  obtain rfl:x = .string (ba s):=q05 h1
  obtain rfl:y = .string (ba qx7):=q05 h2
  have e1:(ba s).data.toList=s:=by simp [ba]
  have e2:(ba qx7).data.toList=qx7:=by simp [ba]
  have hh:=Any.strings_Trim_laid Tryz.laysTrim (by kernel_rfl) (ba s) (ba qx7) w (by rw [q0p];omega) (by rw [q0p];decide) (by rw [e2];exact ascii_of_all (by decide))
  rw [e1,e2,hr] at hh
  refine hh.mono ?_
  rintro e w' ⟨rfl,hb⟩
  exact q2x rfl hb (q02 (.string (ba r)))⟩,rfl⟩
end YtlmjgghohipipaaGreatDoor.AM
end Go.Proofs
namespace Go.Proofs.YtlmjgghohipipaaGreatDoor.AM
open Go.RowKit
set_option linter.unusedVariables false
set_option maxRecDepth 20000
@[reducible] def q9f:SSt:=⟨[(0,.one (.c (.d .str))),(1,.one (.c (.d (.int .u8)))),(5,.one (.c (.d (.int .i64))))],[],[]⟩
@[reducible] def q5l:List (Exit×SSt):=[(.ret,⟨[(4,.one (.c (.d (.int .i64))))],[],[]⟩),(.exit 0,⟨[],[],[]⟩)]
def qd5 (n:Nat) (rec:(List UInt8)->Int->Int->Option (((Int×(Unit))×(Unit)×(Unit))⊕((Unit)×(Unit)×(Unit)))) (a1:List UInt8) (a2:Int) (a3:Int):Option (((Int×(Unit))×(Unit)×(Unit))⊕((Unit)×(Unit)×(Unit))) :=
 (bif decide ((0:Int)<=a3) then (sAt a1 a3).bind fun (c2:Int)=>(bif decide (c2=a2) then some (Sum.inl ((a3,()),((),()))) else q2f (IntKind.wrap .i64 (a3 - (1:Int))) fun (n3:Int)=>rec a1 a2 n3) else some (Sum.inr (((),((),())))))
def ql8 (n:Nat) (rec:pSt q9f->Option (q0t q5l)) (p:pSt q9f):Option (q0t q5l):=qd5 n (fun a1 a2 a3=>rec ((a1,(a2,(a3,()))),((),()))) p.1.1 p.1.2.1 p.1.2.2.1
def q5d (n m:Nat) (a1:List UInt8) (a2:Int) (a3:Int):Option (((Int×(Unit))×(Unit)×(Unit))⊕((Unit)×(Unit)×(Unit))):=q10 (ql8 n) m ((a1,(a2,(a3,()))),((),()))
theorem q5v (n m:Nat) (a1:List UInt8) (a2:Int) (a3:Int):q5d n (m+1) a1 a2 a3=qd5 n (fun a1 a2 a3=>q5d n m a1 a2 a3) a1 a2 a3:=rfl
def qvf (n:Nat):LC:={ sh:=q9f,outs:=q5l,F:=q10 (ql8 n) n }
def qg9 (n:Nat):List LC:=[qvf n]
def qk9 (n:Nat) (a1:List UInt8) (a2:Int):Option (Int) :=
 q2f (IntKind.wrap .i64 (((List.length a1:Nat):Int) - (1:Int))) fun (n1:Int)=>(q5d n n a1 a2 n1).bind fun (o4:((Int×(Unit))×(Unit)×(Unit))⊕((Unit)×(Unit)×(Unit)))=>Sum.elim (fun (q5:(Int×(Unit))×(Unit)×(Unit))=>some q5.1.1) (fun (q6:(Unit)×(Unit)×(Unit))=>some (-1:Int)) o4
def qaj (n:Nat):FC:={ f:=141,args:=[.one (.c (.d .str)),.one (.c (.d (.int .u8)))],res:=.one (.c (.d (.int .i64))),F:=fun p=>qk9 n p.1 p.2 }
def qmp (n:Nat):List FC:=[]
theorem qiq (n:Nat) {G:World->Prop} (hG:Know Inv G) : ∀c∈qmp n,q1b Tryz.prog G c/\q0i c.args=true:=(fun _ h=>by cases h)
def qlt:q0f:=[]
theorem qup:drB qlt (q00 Tryz.f141)=true:=by kernel_rfl
theorem j10 (n:Nat) : ∀rec p,ql8 n rec p=round Tryz.prog 19 (qmp n) (qg9 n) qlt 1 q9f q5l (q03 0 0 (q00 Tryz.f141)) rec p:=by intro rec p;kernel_rfl
theorem qze (n:Nat) {F:Fr} (hF:F.n=19) (hK:Know Inv F.G):qk3 Tryz.prog F (qvf n) (q03 0 0 (q00 Tryz.f141)) :=
 q1a hF (by kernel_rfl) (qiq n hK) (j10 n) (fuel:=n) (fun _=>rfl) (q07 fun j L h1 h2 h3=>absurd h2 (Nat.not_lt.2 (Nat.le_trans (by decide +kernel) h1))) (q2t qup)
theorem j64 (n:Nat) : ∀a,(qaj n).F a=main Tryz.prog 19 (qmp n) (qg9 n) qlt (q00 Tryz.f141) [.tmp 4] (qaj n).args (qaj n).res a:=by intro a;kernel_rfl
theorem j62 (n:Nat):q0d Inv Tryz.prog (qaj n):=fun G hG=>⟨⟨by kernel_rfl,fun a r h=>q06 (c:=q00 Tryz.f141) Tryz.func141 (by kernel_rfl) (by kernel_rfl) (Nat.le_of_ble_eq_true (by kernel_rfl)) hG.st (by kernel_rfl) (rs:=[.tmp 4]) (by kernel_rfl) (qiq n hG) (lts:=qg9 n) (fun F hF hFG=>have hK:Know Inv F.G:=hFG ▸ hG;(q07 (c:=(q00 Tryz.f141)) (fun j L h1 h2 h3=>by
  have h2':j<1:=Nat.lt_of_lt_of_le h2 (by decide +kernel)
  match j,h1,h2',h3 with
  | 0,_,_,h3=>obtain rfl:=Option.some.inj h3;exact (show q03 0 0 (q00 Tryz.f141)=q03 0 0 (q00 Tryz.f141) by kernel_rfl) ▸ qze n hF hK
  | j+1,_,h2',_=>exact absurd h2' (by omega)))) qup ((j64 n a).symm.trans h)⟩,rfl⟩
def qpi (n:Nat):List LC:=[]
def qkp (n:Nat) (a1:List UInt8) (a2:Int):Option (Int) :=
 (qk9 n a1 a2).bind fun (r1:Int)=>some r1
def q8r (n:Nat):FC:={ f:=120,args:=[.one (.c (.d .str)),.one (.c (.d (.int .u8)))],res:=.one (.c (.d (.int .i64))),F:=fun p=>qkp n p.1 p.2 }
def qx2 (n:Nat):List FC:=[qaj n]
theorem qzo (n:Nat) {G:World->Prop} (hG:Know Inv G) : ∀c∈qx2 n,q1b Tryz.prog G c/\q0i c.args=true:=List.forall_mem_cons.2 ⟨j62 n G hG,(fun _ h=>by cases h)⟩
def qv0:q0f:=[]
theorem j69:drB qv0 (q00 Tryz.f120)=true:=by kernel_rfl
theorem j53 (n:Nat) : ∀a,(q8r n).F a=main Tryz.prog 8 (qx2 n) (qpi n) qv0 (q00 Tryz.f120) [.tmp 4] (q8r n).args (q8r n).res a:=by intro a;kernel_rfl
theorem qwg (n:Nat):q0d Inv Tryz.prog (q8r n):=fun G hG=>⟨⟨by kernel_rfl,fun a r h=>q06 (c:=q00 Tryz.f120) Tryz.func120 (by kernel_rfl) (by kernel_rfl) (Nat.le_of_ble_eq_true (by kernel_rfl)) hG.st (by kernel_rfl) (rs:=[.tmp 4]) (by kernel_rfl) (qzo n hG) (lts:=qpi n) (fun F hF hFG=>have hK:Know Inv F.G:=hFG ▸ hG;(q07 fun j L h1 h2 h3=>absurd h2 (Nat.not_lt.2 (Nat.le_trans (by decide +kernel) h1)))) j69 ((j53 n a).symm.trans h)⟩,rfl⟩
def q7u (n:Nat):List LC:=[]
def q2u (n:Nat) (a1:List UInt8) (a2:List UInt8):Option ((List UInt8)×(Bool)) :=
 (q0x n a1 a2).bind fun (r1:Bool)=>(bif !r1 then some (a1,false) else (q5y a1 ((List.length a2:Nat):Int) ((List.length a1:Nat):Int)).bind fun (s2:List UInt8)=>some (s2,true))
def q2a (n:Nat):FC:={ f:=107,args:=[.one (.c (.d .str)),.one (.c (.d .str))],res:=.tup [.c (.d .str),.c (.d .bool)],F:=fun p=>q2u n p.1 p.2 }
def q9g (n:Nat):List FC:=[q1h n]
theorem qg1 (n:Nat) {G:World->Prop} (hG:Know Inv G) : ∀c∈q9g n,q1b Tryz.prog G c/\q0i c.args=true:=List.forall_mem_cons.2 ⟨qa9 n G hG,(fun _ h=>by cases h)⟩
def qab:q0f:=[]
theorem qky:drB qab (q00 Tryz.f107)=true:=by kernel_rfl
theorem qm4 (n:Nat) : ∀a,(q2a n).F a=main Tryz.prog 15 (q9g n) (q7u n) qab (q00 Tryz.f107) [.tmp 4,.tmp 5] (q2a n).args (q2a n).res a:=by intro a;kernel_rfl
theorem qmg (n:Nat):q0d Inv Tryz.prog (q2a n):=fun G hG=>⟨⟨by kernel_rfl,fun a r h=>q06 (c:=q00 Tryz.f107) Tryz.func107 (by kernel_rfl) (by kernel_rfl) (Nat.le_of_ble_eq_true (by kernel_rfl)) hG.st (by kernel_rfl) (rs:=[.tmp 4,.tmp 5]) (by kernel_rfl) (qg1 n hG) (lts:=q7u n) (fun F hF hFG=>have hK:Know Inv F.G:=hFG ▸ hG;(q07 fun j L h1 h2 h3=>absurd h2 (Nat.not_lt.2 (Nat.le_trans (by decide +kernel) h1)))) qky ((qm4 n a).symm.trans h)⟩,rfl⟩
def q8p (n:Nat):List LC:=[]
def q11 (n:Nat) (a1:List UInt8) (a2:List UInt8):Option ((List UInt8)×(Bool)) :=
 (q2u n a1 a2).bind fun (r1:(List UInt8)×(Bool))=>some r1
def q1y (n:Nat):FC:={ f:=82,args:=[.one (.c (.d .str)),.one (.c (.d .str))],res:=.tup [.c (.d .str),.c (.d .bool)],F:=fun p=>q11 n p.1 p.2 }
def qc5 (n:Nat):List FC:=[q2a n]
theorem qhs (n:Nat) {G:World->Prop} (hG:Know Inv G) : ∀c∈qc5 n,q1b Tryz.prog G c/\q0i c.args=true:=List.forall_mem_cons.2 ⟨qmg n G hG,(fun _ h=>by cases h)⟩
def qbv:q0f:=[]
theorem qo9:drB qbv (q00 Tryz.f82)=true:=by kernel_rfl
theorem qp4 (n:Nat) : ∀a,(q1y n).F a=main Tryz.prog 11 (qc5 n) (q8p n) qbv (q00 Tryz.f82) [.tmp 4,.tmp 5] (q1y n).args (q1y n).res a:=by intro a;kernel_rfl
theorem qbx (n:Nat):q0d Inv Tryz.prog (q1y n):=fun G hG=>⟨⟨by kernel_rfl,fun a r h=>q06 (c:=q00 Tryz.f82) Tryz.func82 (by kernel_rfl) (by kernel_rfl) (Nat.le_of_ble_eq_true (by kernel_rfl)) hG.st (by kernel_rfl) (rs:=[.tmp 4,.tmp 5]) (by kernel_rfl) (qhs n hG) (lts:=q8p n) (fun F hF hFG=>have hK:Know Inv F.G:=hFG ▸ hG;(q07 fun j L h1 h2 h3=>absurd h2 (Nat.not_lt.2 (Nat.le_trans (by decide +kernel) h1)))) qo9 ((qp4 n a).symm.trans h)⟩,rfl⟩
def qjr (n:Nat):List LC:=[]
def q9u (n:Nat) (a1:List UInt8):Option (Bool) :=
 (q11 n a1 ([118]:List UInt8)).bind fun (r1:(List UInt8)×(Bool))=>(bif r1.2 then (bif !decide (r1.1=([]:List UInt8)) then (qf3 r1.1 ([48,49,50,51,52,53,54,55,56,57]:List UInt8)).bind fun (r2:List UInt8)=>some (decide (r2=([]:List UInt8))) else some false) else some false)
def q6u (n:Nat):FC:={ f:=101,args:=[.one (.c (.d .str))],res:=.one (.c (.d .bool)),F:=fun p=>q9u n p }
def qp8 (n:Nat):List FC:=[q1y n,qwz]
theorem qtt (n:Nat) {G:World->Prop} (hG:Know Inv G) : ∀c∈qp8 n,q1b Tryz.prog G c/\q0i c.args=true:=List.forall_mem_cons.2 ⟨qbx n G hG,List.forall_mem_cons.2 ⟨j77 G hG,(fun _ h=>by cases h)⟩⟩
def qom:q0f:=[]
theorem j2a:drB qom (q00 Tryz.f101)=true:=by kernel_rfl
theorem j0d (n:Nat) : ∀a,(q6u n).F a=main Tryz.prog 20 (qp8 n) (qjr n) qom (q00 Tryz.f101) [.tmp 2] (q6u n).args (q6u n).res a:=by intro a;kernel_rfl
theorem qn3 (n:Nat):q0d Inv Tryz.prog (q6u n):=fun G hG=>⟨⟨by kernel_rfl,fun a r h=>q06 (c:=q00 Tryz.f101) Tryz.func101 (by kernel_rfl) (by kernel_rfl) (Nat.le_of_ble_eq_true (by kernel_rfl)) hG.st (by kernel_rfl) (rs:=[.tmp 2]) (by kernel_rfl) (qtt n hG) (lts:=qjr n) (fun F hF hFG=>have hK:Know Inv F.G:=hFG ▸ hG;(q07 fun j L h1 h2 h3=>absurd h2 (Nat.not_lt.2 (Nat.le_trans (by decide +kernel) h1)))) j2a ((j0d n a).symm.trans h)⟩,rfl⟩
end Go.Proofs.YtlmjgghohipipaaGreatDoor.AM
