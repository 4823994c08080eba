
import Derived.Test.YtcdjkibiggjdoaaGreatDoorLp9
import Derived.Test.YtcdjkibiggjdoaaGreatDoorLp10
import Derived.Lib.SlTrimSet
import Derived.Shelf.Strings.SlTrimAscii
namespace Go.Proofs.YtcdjkibiggjdoaaGreatDoor.AM
open Go.RowKit
set_option linter.unusedVariables false
set_option linter.unusedSimpArgs false
theorem jei {a:Int} (h0:0<=a):Lib.itoa a=if a<10 then [UInt8.ofNat (48+a.toNat)] else Lib.itoa (a / 10) ++ [UInt8.ofNat (48+(a % 10).toNat)]:=by
 rw [q0z h0,Lib.decDigits]
 by_cases h:a<10
 ·rw [if_pos h,dif_pos (by omega)]
 ·rw [if_neg h,dif_neg (by omega),q0z (by omega)]
  rw [show (a / 10).toNat=a.toNat / 10 from by omega,show (a % 10).toNat=a.toNat % 10 from by omega]
theorem qb8 {n:Int} (h:0<=n/\n<=999999999):(Lib.itoa n).length<=9:=by
 rw [q0z h.1];exact qfp 8 n.toNat (by omega)
theorem j7n (s:List UInt8):(q1m s).length<=s.length:=by
 unfold q1m;split
 ·rw [List.length_drop];omega
 ·exact Nat.le_refl _
end Go.Proofs.YtcdjkibiggjdoaaGreatDoor.AM
namespace Go.Proofs.YtcdjkibiggjdoaaGreatDoor.AM
open Go.RowKit
set_option linter.unusedVariables false
set_option linter.unusedSimpArgs false
theorem q1j {s t:List UInt8} (h:s.length+t.length<=9223372036854775807):qaj s t=some (s++t):=if_pos h
theorem qg6 (n m:Nat) (a1 a2 a3 i i' a5 a6 a7 x:Int) (a8 a9:List UInt8) (hx:q1a ([a1,a2,a3]:List Int) i=some x) (hi:i<3) (hw:IntKind.wrap .i64 (i+1)=i') :
  q5c n (m+1) a1 a2 a3 i a5 a6 a7 a8 a9=if jeg x=true then q5c n m a1 a2 a3 i' a5 a6 a7 a8 a9 else some (Sum.inl ((false,()),((),()))):=by
 rw [q9h]
 unfold qi6 jeg
 simp only [hi,decide_true,cond_true,hx,Option.bind_some,q0b,hw]
 by_cases h1:x<0
 ·have : ¬ (0:Int)<=x:=by omega
  simp [h1,this]
 ·have h1':(0:Int)<=x:=by omega
  by_cases h2:999999999<x
  ·have : ¬ x<=999999999:=by omega
   simp [h1,h2,this]
  ·have:x<=999999999:=by omega
   simp [h1,h2,h1',this]
theorem q4l (n:Nat) (v:VD) (hn:4<=n):q4u n v=some (q0u v):=by
 obtain ⟨k,rfl⟩ : ∃ k,n=k+1+1+1+1:=⟨n - 4,by omega⟩
 obtain ⟨a,b,c,p,q⟩:=v
 unfold q4u
 rw [qg6 _ _ a b c 0 1 _ _ _ a _ _ rfl (by decide) rfl,qg6 _ _ a b c 1 2 _ _ _ b _ _ rfl (by decide) rfl,qg6 _ _ a b c 2 3 _ _ _ c _ _ rfl (by decide) rfl,q9h]
 unfold qi6 q0u qrv qlt
 dsimp only
 cases jeg a with
 | false=>rfl
 | true=>cases jeg b with
  | false=>rfl
  | true=>cases jeg c with
   | false=>rfl
   | true =>
    simp only [if_true,Bool.true_and,show ¬ (3:Int)<3 from by decide,decide_false,cond_false,Option.bind_some,Sum.elim_inr]
    cases q7d q4h p<;>cases q7d q25 q<;>rfl
theorem j4c (n:Nat) (s:List UInt8) (hs:s.length<=1000000):q8m n s [118]=some (q1m s):=by
 unfold q8m qah q2m q1m
 cases s with
 | nil=>rfl
 | cons b r =>
  have h1:((List.length ([118]:List UInt8):Nat):Int)<=((List.length (b::r):Nat):Int):=by simp;omega
  have h2:q7n (b::r) (0:Int) ((List.length ([118]:List UInt8):Nat):Int)=some [b]:=sub_zero (b:=1) (by simp)
  have h3:q7n (b::r) ((List.length ([118]:List UInt8):Nat):Int) ((List.length (b::r):Nat):Int)=some r:=by
   have:=sub_le (l:=b::r) (a:=1) (b:=(b::r).length) (by simp) (Nat.le_refl _)
   rw [show ((List.length ([118]:List UInt8):Nat):Int)=((1:Nat):Int) from rfl,this]
   simp
  simp only [h1,decide_true,cond_true,h2,Option.bind_some,List.head?_cons,Option.some.injEq,List.drop_succ_cons,List.drop_zero]
  by_cases hb:b=118
  ·simp only [hb,decide_true,cond_true,if_true] at h3 ⊢
   rw [h3];rfl
  ·have : ¬ [b]=([118]:List UInt8):=fun h=>hb (by simpa using h)
   simp [this,hb]
theorem qsg {n:Int} (h:0<=n/\n<=999999999):qpt n=some (Lib.itoa n):=if_pos ⟨by omega,by omega⟩
end Go.Proofs.YtcdjkibiggjdoaaGreatDoor.AM
namespace Go.Proofs.YtcdjkibiggjdoaaGreatDoor.AM
open Go.RowKit
set_option linter.unusedVariables false
set_option linter.unusedSimpArgs false
theorem qra (n:Nat) (a b:Int):qat n a b=some (qaw a b):=by
 unfold qat j22 qaw
 simp only [decide_true,Bool.not_true,Option.bind_some,cond_false]
 by_cases h1:a<b
 ·simp [h1]
 ·by_cases h2:b<a
  ·simp [h1,h2]
  ·simp [h1,h2]
def qb3:List Int->Int
 | []=>0
 | x::l=>or2 x (qb3 l)
theorem qxb (n:Nat) (l:List Int) (hL:l.length<=1000000) : ∀m j:Nat,j<=l.length->l.length - j<m->qa8 n m 0 l ((l.length:Nat):Int) (j:Int)=some (if qb3 (l.drop j)=0 then Sum.inr (((0:Int),()),((),())) else Sum.inl ((qb3 (l.drop j),()),((),())))
 | 0,j,_,h=>absurd h (Nat.not_lt_zero _)
 | m+1,j,hj,h=>by
  rw [qo4]
  unfold j0l
  by_cases c0:j<l.length
  ·have c0':((j:Nat):Int)<((l.length:Nat):Int):=by omega
   have ih:=qxb n l hL m (j+1) (by omega) (by omega)
   have hd:l.drop j=l[j]::l.drop (j+1):=(List.drop_eq_getElem_cons c0)
   simp only [c0',decide_true,cond_true,q1k c0,Option.bind_some,q0b,q06 (show j<4611686018427387904 by omega),ih,hd,qb3,or2]
   by_cases h0:l[j]=0
   ·simp [h0]
   ·simp [h0]
  ·have c0' : ¬ ((j:Nat):Int)<((l.length:Nat):Int):=by omega
   have:l.drop j = []:=List.drop_eq_nil_of_le (by omega)
   simp [c0',this,qb3]
theorem qxi (n:Nat) (l:List Int) (hL:l.length<=1000000) (hn:l.length<n):qr8 n l=some (qb3 l):=by
 unfold qr8
 have:=qxb n l hL n 0 (Nat.zero_le _) (by omega)
 rw [show ((0:Nat):Int)=(0:Int) from rfl] at this
 rw [this,List.drop_zero]
 by_cases h:qb3 l=0
 ·simp [h]
 ·simp [h]
theorem qy0 (n:Nat) (v:VD) (hn:4<=n):qlg n v=some (q3f v):=by
 unfold qlg q3f
 rw [q4l n v hn]
 cases hc:q0u v with
 | false=>rfl
 | true =>
  obtain ⟨h1,h2,h3,h4,h5⟩:=q1g hc
  have l1:=qb8 h1
  have l2:=qb8 h2
  have l3:=qb8 h3
  have t1:=q4v h4
  have t2:=q4v h5
  simp only [Option.bind_some,Bool.not_true,cond_false,qsg h1,qsg h2,qsg h3,if_true]
  unfold jiq q5t
  generalize Lib.itoa v.1=A at l1
  generalize Lib.itoa v.2.1=B at l2
  generalize Lib.itoa v.2.2.1=C at l3
  generalize v.2.2.2.1=p at t1
  generalize v.2.2.2.2=q at t2
  rw [q1j (by simp;omega)];simp only [Option.bind_some]
  rw [q1j (by simp;omega)];simp only [Option.bind_some]
  rw [q1j (by simp;omega)];simp only [Option.bind_some]
  rw [q1j (by simp;omega)];simp only [Option.bind_some]
  rw [q1j (by simp;omega)];simp only [Option.bind_some]
  have k1:qaj [45] p=some ([45]++p):=q1j (by simp;omega)
  have k2:qaj [43] q=some ([43]++q):=q1j (by simp;omega)
  by_cases hp:p = []
  ·by_cases hq:q = []
   ·simp [hp,hq]
   ·simp only [hp,hq,decide_true,decide_false,Bool.not_true,Bool.not_false,cond_true,cond_false,k2,Option.bind_some]
    rw [q1j (by simp;omega)]
    simp
  ·by_cases hq:q = []
   ·simp only [hp,hq,decide_true,decide_false,Bool.not_true,Bool.not_false,cond_true,cond_false,k1,Option.bind_some]
    rw [q1j (by simp;omega)]
    simp
   ·simp only [hp,hq,decide_true,decide_false,Bool.not_true,Bool.not_false,cond_true,cond_false,k1,k2,Option.bind_some]
    rw [q1j (by simp;omega)];simp only [Option.bind_some]
    rw [q1j (by simp;omega)]
    simp
theorem qoh (n:Nat) (c:UInt8) (s:List UInt8) (hs:s.length<=1000000) : ∃ b,jc0 n s [c]=some (q2h c s,(qav c s,b)):=by
 unfold jc0 jkn qrb q2h qav
 simp only [show s.length<4294967281 from by omega,if_true,Option.bind_some]
 have hge:=Lib.index_ge s [c]
 by_cases h1:Lib.index s [c] = -1
 ·simp only [h1,show ¬ (0:Int)<=-1 from by decide,decide_false,cond_false,Option.bind_some,if_true]
  exact ⟨_,rfl⟩
 ·obtain ⟨i,hi⟩ : ∃ i:Nat,Lib.index s [c]=(i:Int):=⟨(Lib.index s [c]).toNat,by omega⟩
  have hlt:=qoe c s i hi
  have n1 : ¬ ((i:Nat):Int) = -1:=by omega
  have n2:(0:Int)<=((i:Nat):Int):=by omega
  rw [hi]
  have w1:IntKind.wrap .i64 (((i:Nat):Int)+((List.length [c]:Nat):Int))=((i+1:Nat):Int):=q06 (by omega)
  simp only [n1,n2,decide_true,cond_true,if_false,sub_zero (show i<=s.length by omega),Option.bind_some,q0b,w1,sub_le (show i+1<=s.length by omega) (Nat.le_refl _),Int.toNat_natCast]
  refine ⟨true,?_⟩
  have e6:(s.drop (i+1)).take (s.length - (i+1))=s.drop (i+1):=List.take_of_length_le (by rw [List.length_drop];exact Nat.le_refl _)
  rw [e6]
theorem qpc (c:UInt8) (s:List UInt8):(q2h c s).length<=s.length:=by
 unfold q2h;split
 ·exact Nat.le_refl _
 ·rw [List.length_take];omega
theorem qzg (c:UInt8) (s:List UInt8):(qav c s).length<=s.length:=by
 unfold qav;split
 ·simp
 ·rw [List.length_drop];omega
theorem j99 (n:Nat) (s:List UInt8) (hs:s.length<=1000000) (hn:4<=n):qp7 n s=some (q19 s):=by
 unfold qp7 q19 ji2
 obtain ⟨b1,e1⟩:=qoh n 43 s hs
 have l1:=qpc 43 s
 have l1':=qzg 43 s
 obtain ⟨b2,e2⟩:=qoh n 45 (q2h 43 s) (by omega)
 have l2:=qpc 45 (q2h 43 s)
 have e3:=j4c n (q2h 45 (q2h 43 s)) (by omega)
 have l3:=j7n (q2h 45 (q2h 43 s))
 obtain ⟨b4,e4⟩:=qoh n 46 (q1m (q2h 45 (q2h 43 s))) (by omega)
 have l4:=qpc 46 (q1m (q2h 45 (q2h 43 s)))
 have l4':=qzg 46 (q1m (q2h 45 (q2h 43 s)))
 obtain ⟨b5,e5⟩:=qoh n 46 (qav 46 (q1m (q2h 45 (q2h 43 s)))) (by omega)
 have l5:=qpc 46 (qav 46 (q1m (q2h 45 (q2h 43 s))))
 have l5':=qzg 46 (qav 46 (q1m (q2h 45 (q2h 43 s))))
 have m1:q6d (q2h 46 (q1m (q2h 45 (q2h 43 s))))=some (qj3 (q2h 46 (q1m (q2h 45 (q2h 43 s))))):=if_pos (by omega)
 have m2:q6d (q2h 46 (qav 46 (q1m (q2h 45 (q2h 43 s)))))=some (qj3 (q2h 46 (qav 46 (q1m (q2h 45 (q2h 43 s)))))):=if_pos (by omega)
 have m3:q6d (qav 46 (qav 46 (q1m (q2h 45 (q2h 43 s)))))=some (qj3 (qav 46 (qav 46 (q1m (q2h 45 (q2h 43 s)))))):=if_pos (by omega)
 simp only [e1,Option.bind_some,e2,e3,e4,e5,m1,m2,m3]
 generalize (qj3 (q2h 46 (q1m (q2h 45 (q2h 43 s)))),(qj3 (q2h 46 (qav 46 (q1m (q2h 45 (q2h 43 s))))),(qj3 (qav 46 (qav 46 (q1m (q2h 45 (q2h 43 s))))),(qav 45 (q2h 43 s),qav 43 s))))=v
 rw [q4l n v hn,qy0 n v hn]
 cases hc:q0u v with
 | false=>simp
 | true =>
  by_cases ht:q3f v=s
  ·simp [ht]
  ·simp [ht]
theorem jge (n:Nat) (a b:List UInt8) (ha:a.length<=1000000) (hb:b.length<=1000000) (hn:a.length<n/\b.length<n/\3<=n):qzi n a b=some (jl9 a b):=by
 unfold qzi jl9 jtj qhy
 rw [q9v n a ha hn.1,q9v n b hb hn.2.1]
 simp only [Option.bind_some,qra,qct]
 cases q2a a with
 | false=>cases q2a b with
  | false =>
   simp only [cond_false,Bool.false_eq_true,if_false]
   unfold qjt qaw or2
   simp
  | true =>
   simp only [cond_false,cond_true,Bool.false_eq_true,if_false,if_true]
   unfold qjt qaw or2
   simp
 | true=>cases q2a b with
  | false =>
   simp only [cond_false,cond_true,Bool.false_eq_true,if_false,if_true]
   unfold qjt qaw or2
   simp
  | true =>
   simp only [cond_true,if_true]
   rw [qxi n _ (by simp) (by simp;omega)]
   simp only [Option.bind_some,qb3]
   unfold qjt
   have e0:qaw (0:Int) 0=0:=by decide
   dsimp only
   rw [e0]
   unfold or2
   simp only [if_true]
   split
   ·split<;>simp_all
   ·rfl
theorem qmr (n:Nat) (l1 l2:List (List UInt8)) (h1:l1.length<=1000000) (h2:l2.length<=1000000) (hw : ∀w,w∈l1\/w∈l2->w.length<=1000000/\w.length<n) (hn:3<=n) : ∀m j:Nat,j<=l1.length->j<=l2.length->l1.length - j<m ->
  ((q63 n m l1 l2 l1 ((l1.length:Nat):Int) (j:Int)).bind fun (o5:((Int×(Unit))×(Unit)×(Unit))⊕(((List (List UInt8))×((List (List UInt8))×(Unit)))×(Unit)×(Unit)))=>Sum.elim (fun (q6:(Int×(Unit))×(Unit)×(Unit))=>some q6.1.1) (fun (q7:((List (List UInt8))×((List (List UInt8))×(Unit)))×(Unit)×(Unit))=>(bif decide (((List.length q7.1.1:Nat):Int)<((List.length q7.1.2.1:Nat):Int)) then some (-1:Int) else some (0:Int))) o5)=some (cmpL jl9 (l1.drop j) (l2.drop j))
 | 0,j,_,_,h=>absurd h (Nat.not_lt_zero _)
 | m+1,j,hj,hj2,h=>by
  rw [qj8]
  unfold qli
  by_cases c0:j<l1.length
  ·have c0':((j:Nat):Int)<((l1.length:Nat):Int):=by omega
   have hd:l1.drop j=l1[j]::l1.drop (j+1):=(List.drop_eq_getElem_cons c0)
   by_cases c1:j<l2.length
   ·have c1' : ¬ ((l2.length:Nat):Int)<=((j:Nat):Int):=by omega
    have hd2:l2.drop j=l2[j]::l2.drop (j+1):=(List.drop_eq_getElem_cons c1)
    have ih:=qmr n l1 l2 h1 h2 hw hn m (j+1) (by omega) (by omega) (by omega)
    have k1:=hw l1[j] (Or.inl (List.getElem_mem c0))
    have k2:=hw l2[j] (Or.inr (List.getElem_mem c1))
    have hp:=jge n l1[j] l2[j] k1.1 k2.1 ⟨k1.2,k2.2,hn⟩
    rw [hd,hd2,cmpL]
    simp only [c0',decide_true,cond_true,q1k c0,Option.bind_some,c1',decide_false,cond_false,q1k c1,hp,q0b,q06 (show j<4611686018427387904 by omega)]
    unfold or2
    by_cases h0:jl9 l1[j] l2[j]=0
    ·simp only [h0,decide_true,Bool.not_true,cond_false,if_true]
     exact ih
    ·simp only [h0,decide_false,Bool.not_false,cond_true,if_false,Option.bind_some,Sum.elim_inl]
   ·have c1':((l2.length:Nat):Int)<=((j:Nat):Int):=by omega
    have hd2:l2.drop j = []:=List.drop_eq_nil_of_le (by omega)
    rw [hd,hd2,cmpL]
    simp only [c0',decide_true,cond_true,q1k c0,Option.bind_some,c1',Sum.elim_inl]
  ·have c0' : ¬ ((j:Nat):Int)<((l1.length:Nat):Int):=by omega
   have hd:l1.drop j = []:=List.drop_eq_nil_of_le (by omega)
   simp only [c0',decide_false,cond_false,Option.bind_some,Sum.elim_inr]
   have hje:j=l1.length:=by omega
   rw [hd]
   by_cases c1:j<l2.length
   ·have hd2:l2.drop j=l2[j]::l2.drop (j+1):=(List.drop_eq_getElem_cons c1)
    have c2:((l1.length:Nat):Int)<((l2.length:Nat):Int):=by omega
    rw [hd2]
    simp only [c2,decide_true,cond_true,cmpL]
   ·have hd2:l2.drop j = []:=List.drop_eq_nil_of_le (by omega)
    have c2 : ¬ ((l1.length:Nat):Int)<((l2.length:Nat):Int):=by omega
    rw [hd2]
    simp only [c2,decide_false,cond_false,cmpL]
theorem j64 (n:Nat) (l1 l2:List (List UInt8)) (h1:l1.length<=1000000) (h2:l2.length<=1000000) (hw : ∀w,w∈l1\/w∈l2->w.length<=1000000/\w.length<n) (hn:3<=n) (hn2:l1.length<n):qt3 n l1 l2 ()=some (cmpL jl9 l1 l2):=by
 have:=qmr n l1 l2 h1 h2 hw hn n 0 (Nat.zero_le _) (Nat.zero_le _) (by omega)
 rw [List.drop_zero,List.drop_zero] at this
 exact this
theorem jln (n:Nat) (a b:List UInt8) (ha:a.length<=100000) (hb:b.length<=100000) (hn:a.length+3<n/\b.length+3<n):jd8 n a b=some (qbx a b):=by
 unfold jd8
 by_cases hab:a=b
 ·subst hab
  rw [qyo.refl]
  simp
 ·simp only [hab,decide_false,cond_false]
  by_cases h1:a = []
  ·have hb0:b ≠ []:=fun e=>hab (by rw [h1,e])
   simp only [h1,decide_true,cond_true]
   unfold qbx qjt jl0 qaw or2
   simp [hb0]
  ·simp only [h1,decide_false,cond_false]
   by_cases h2:b = []
   ·simp only [h2,decide_true,cond_true]
    unfold qbx qjt jl0 qaw or2
    simp [h1]
   ·simp only [h2,decide_false,cond_false]
    have s1:q8v a [46]=some (spl 46 [] a):=if_pos (by omega)
    have s2:q8v b [46]=some (spl 46 [] b):=if_pos (by omega)
    have k1:=q4s 46 a []
    have k2:=q4s 46 b []
    rw [s1,s2]
    simp only [Option.bind_some]
    rw [j64 n _ _ (by omega) (by omega) (fun w hw=>by
     rcases hw with hw|hw
     ·have:=q4c 46 a [] w hw;simp at this;omega
     ·have:=q4c 46 b [] w hw;simp at this;omega) (by omega) (by omega)]
    unfold qbx jl0
    simp only [h1,h2,if_false]
    unfold qjt
    have e0:qaw (0:Int) 0=0:=by decide
    dsimp only
    rw [e0]
    unfold or2
    simp
theorem qhs (n:Nat) (a b:VD) (hn:100<=n):q6t n a b=some (q8w a b):=by
 unfold q6t q8w
 rw [q4l n a (by omega),q4l n b (by omega)]
 cases hca:q0u a with
 | false=>rfl
 | true=>cases hcb:q0u b with
  | false=>rfl
  | true =>
   obtain ⟨-,-,-,h4,-⟩:=q1g hca
   obtain ⟨-,-,-,k4,-⟩:=q1g hcb
   have t1:=q4v h4
   have t2:=q4v k4
   simp only [Option.bind_some,Bool.not_true,cond_false,qra]
   rw [jln n _ _ (by omega) (by omega) ⟨by omega,by omega⟩]
   simp only [Option.bind_some]
   rw [qxi n _ (by simp) (by simp;omega)]
   simp only [Option.bind_some,qb3,Bool.and_self,if_true]
   have z0 : ∀x:Int,or2 x 0=x:=fun x=>by unfold or2;split<;>simp_all
   rw [z0]
   rfl
end Go.Proofs.YtcdjkibiggjdoaaGreatDoor.AM
namespace Go.Proofs.YtcdjkibiggjdoaaGreatDoor.AM
open Go.RowKit
set_option linter.unusedVariables false
set_option linter.unusedSimpArgs false
theorem qhl (v:VD):(q3f v).length<=92:=by
 unfold q3f;split
 ·rename_i h;exact jok h
 ·simp
end Go.Proofs.YtcdjkibiggjdoaaGreatDoor.AM
namespace Go.Proofs.YtcdjkibiggjdoaaGreatDoor.AM
open Go.RowKit
set_option linter.unusedVariables false
set_option linter.unusedSimpArgs false
theorem jas {a b:VD} (ha:q0u a=true) (hb:q0u b=true):q8w a b=cmpC (core a) (core b):=by unfold q8w;rw [ha,hb];rfl
theorem jrj (a b:VD):q8w a b = -1\/q8w a b=0\/q8w a b=1:=by
 unfold q8w;split
 ·exact qz4.rng _ _
 ·exact Or.inr (Or.inl rfl)
theorem qd1 (a b:VD):q8w a b = - q8w b a:=by
 unfold q8w
 cases q0u a<;>cases q0u b<;>simp
 exact qz4.anti _ _
end Go.Proofs.YtcdjkibiggjdoaaGreatDoor.AM
namespace Go.Proofs.YtcdjkibiggjdoaaGreatDoor.AM
open Go.RowKit
set_option linter.unusedVariables false
set_option linter.unusedSimpArgs false
theorem qbt (n:Nat) (s:List UInt8) (c:UInt8) (hs:s.length<=1000000) : ∀(m i fr:Nat) (out:List (List UInt8)),i<=s.length->s.length - i+1<m->fr<=i->out.length<=i ->
  q64 n m s ((c.toNat:Nat):Int) (fr:Int) (i:Int) out=some (((),()),((),(out++spl c ((s.drop fr).take (i - fr)) (s.drop i),())))
 | 0,i,fr,_,_,h,_,_=>absurd h (Nat.not_lt_zero _)
 | m+1,i,fr,out,hi,h,hf,ho=>by
  rw [q8q]
  unfold qej
  have c0:((i:Nat):Int)<=((s.length:Nat):Int):=by omega
  have w1:=q06 (show i<4611686018427387904 by omega)
  have s1:q7n s ((fr:Nat):Int) ((i:Nat):Int)=some ((s.drop fr).take (i - fr)):=sub_le hf hi
  have a1:qj6 16 out [(s.drop fr).take (i - fr)]=some (out ++ [(s.drop fr).take (i - fr)]):=qdg (by simp;omega)
  by_cases c1:i=s.length
  ·have c1':((i:Nat):Int)=((s.length:Nat):Int):=by omega
   have hd:s.drop i = []:=List.drop_eq_nil_of_le (by omega)
   simp only [c0,c1',decide_true,cond_true]
   rw [<-c1',s1,Option.bind_some,a1,Option.bind_some,hd]
   simp only [q0b,w1]
   cases m with
   | zero=>omega
   | succ m =>
    rw [q8q]
    unfold qej
    have c2 : ¬ ((i+1:Nat):Int)<=((s.length:Nat):Int):=by omega
    simp only [c2,Int.le_refl,decide_true,decide_false,cond_true,cond_false]
    rfl
  ·have c1' : ¬ ((i:Nat):Int)=((s.length:Nat):Int):=by omega
   have hi':i<s.length:=by omega
   have hd:s.drop i=s[i]::s.drop (i+1):=List.drop_eq_getElem_cons hi'
   simp only [c0,c1',decide_true,decide_false,cond_true,cond_false,q2z hi',Option.bind_some,q0b,w1,s1,a1]
   have hc:decide (((s[i].toNat:Nat):Int)=((c.toNat:Nat):Int))=decide (s[i]=c):=by
    apply decide_eq_decide.2
    constructor
    ·intro hh;exact UInt8.toNat_inj.1 (by omega)
    ·intro hh;rw [hh]
   rw [hc,hd,spl]
   by_cases c2:s[i]=c
   ·simp only [c2,decide_true,cond_true,if_true]
    rw [qbt n s c hs m (i+1) (i+1) (out ++ [(s.drop fr).take (i - fr)]) (by omega) (by omega) (Nat.le_refl _) (by simp;omega)]
    simp
   ·simp only [c2,decide_false,cond_false,if_false]
    rw [qbt n s c hs m (i+1) fr out (by omega) (by omega) (by omega) (by omega)]
    have e1:(s.drop fr).take (i+1 - fr)=(s.drop fr).take (i - fr) ++ [s[i]]:=by
     rw [show i+1 - fr=(i - fr)+1 from by omega,List.take_add_one,List.getElem?_drop,show fr+(i - fr)=i from by omega,List.getElem?_eq_getElem hi']
     rfl
    rw [e1]
theorem q43 (n:Nat) (s:List UInt8) (c:UInt8) (hs:s.length<=1000000) (hn:s.length+1<n):q0n n s ((c.toNat:Nat):Int)=some (spl c [] s):=by
 unfold q0n
 have h:=qbt n s c hs n 0 0 [] (Nat.zero_le _) (by omega) (Nat.le_refl _) (Nat.zero_le _)
 rw [show ((0:Nat):Int)=(0:Int) from rfl] at h
 rw [h]
 simp
theorem qnd (n:Nat) (s:List UInt8) (hL:s.length<=1000000) : ∀m j:Nat,j<=s.length->s.length - j<m->q6s n m s (j:Int)=some (if (s.drop j).all q1i=true then Sum.inr ((s,()),((),())) else Sum.inl ((false,()),((),())))
 | 0,j,_,h=>absurd h (Nat.not_lt_zero _)
 | m+1,j,hj,h=>by
  rw [qhz]
  unfold ql4
  by_cases c0:j<s.length
  ·have c0':((j:Nat):Int)<((s.length:Nat):Int):=by omega
   have ih:=qnd n s hL m (j+1) (by omega) (by omega)
   have hd:s.drop j=s[j]::s.drop (j+1):=(List.drop_eq_getElem_cons c0)
   simp only [c0',decide_true,cond_true,q2z c0,Option.bind_some,q0b,q06 (show j<4611686018427387904 by omega),ih,hd,List.all_cons]
   unfold q1i
   by_cases h1:s[j].toNat<48
   ·have e1:((s[j].toNat:Nat):Int)<48:=by omega
    have e2 : ¬ 48<=s[j].toNat:=by omega
    simp [e1,e2]
   ·have e1 : ¬ ((s[j].toNat:Nat):Int)<48:=by omega
    have e2:48<=s[j].toNat:=by omega
    by_cases h2:57<s[j].toNat
    ·have e3:(57:Int)<((s[j].toNat:Nat):Int):=by omega
     have e4 : ¬ s[j].toNat<=57:=by omega
     simp [e1,e2,e3,e4]
    ·have e3 : ¬ (57:Int)<((s[j].toNat:Nat):Int):=by omega
     have e4:s[j].toNat<=57:=by omega
     simp [e1,e2,e3,e4]
  ·have c0' : ¬ ((j:Nat):Int)<((s.length:Nat):Int):=by omega
   have:s.drop j = []:=List.drop_eq_nil_of_le (by omega)
   simp [c0',this]
theorem q88 (n:Nat) (s:List UInt8) (hL:s.length<=1000000) (hn:s.length<n):q75 n s=some (q2a s):=by
 unfold q75 q2a
 have:=qnd n s hL n 0 (Nat.zero_le _) (by omega)
 rw [show ((0:Nat):Int)=(0:Int) from rfl] at this
 rw [this,List.drop_zero]
 cases s.all q1i<;>rfl
theorem je7 (c:UInt8):qux c=((decide ((97:Int)<=((c.toNat:Nat):Int))&&decide (((c.toNat:Nat):Int)<=(122:Int)))||(decide ((65:Int)<=((c.toNat:Nat):Int))&&decide (((c.toNat:Nat):Int)<=(90:Int)))||(decide ((48:Int)<=((c.toNat:Nat):Int))&&decide (((c.toNat:Nat):Int)<=(57:Int)))||decide (((c.toNat:Nat):Int)=(45:Int))):=by
 unfold qux q1i
 have h1:decide ((97:Int)<=((c.toNat:Nat):Int))=decide (97<=c.toNat):=decide_eq_decide.2 (by omega)
 have h2:decide (((c.toNat:Nat):Int)<=(122:Int))=decide (c.toNat<=122):=decide_eq_decide.2 (by omega)
 have h3:decide ((65:Int)<=((c.toNat:Nat):Int))=decide (65<=c.toNat):=decide_eq_decide.2 (by omega)
 have h4:decide (((c.toNat:Nat):Int)<=(90:Int))=decide (c.toNat<=90):=decide_eq_decide.2 (by omega)
 have h5:decide (((c.toNat:Nat):Int)=(45:Int))=decide (c.toNat=45):=decide_eq_decide.2 (by omega)
 have h6:decide ((48:Int)<=((c.toNat:Nat):Int))=decide (48<=c.toNat):=decide_eq_decide.2 (by omega)
 have h7:decide (((c.toNat:Nat):Int)<=(57:Int))=decide (c.toNat<=57):=decide_eq_decide.2 (by omega)
 rw [h1,h2,h3,h4,h5,h6,h7]
theorem qfc (n:Nat) (z:Bool) (l:List (List UInt8)) (i:Nat) (hi:i<l.length) (w:List UInt8) (hw:l[i]=w) (hL:w.length<=1000000) : ∀m j:Nat,j<=w.length->w.length - j<m->q68 n m z l (i:Int) (j:Int)=some (if (w.drop j).all qux=true then Sum.inr ((z,(l,((i:Int),()))),((),())) else Sum.inl ((false,()),((),())))
 | 0,j,_,h=>absurd h (Nat.not_lt_zero _)
 | m+1,j,hj,h=>by
  rw [qi8]
  unfold qk3
  have e0:q1a l ((i:Nat):Int)=some w:=by rw [q1k hi,hw]
  by_cases c0:j<w.length
  ·have c0':((j:Nat):Int)<((w.length:Nat):Int):=by omega
   have ih:=qfc n z l i hi w hw hL m (j+1) (by omega) (by omega)
   have hd:w.drop j=w[j]::w.drop (j+1):=(List.drop_eq_getElem_cons c0)
   simp only [e0,Option.bind_some,c0',decide_true,cond_true,q2z c0,q0b,q06 (show j<4611686018427387904 by omega),ih,hd,List.all_cons,je7]
   cases decide ((97:Int)<=((w[j].toNat:Nat):Int))<;>cases decide (((w[j].toNat:Nat):Int)<=(122:Int))<;>cases decide ((65:Int)<=((w[j].toNat:Nat):Int))<;>cases decide (((w[j].toNat:Nat):Int)<=(90:Int))<;>cases decide ((48:Int)<=((w[j].toNat:Nat):Int))<;>cases decide (((w[j].toNat:Nat):Int)<=(57:Int))<;>cases decide (((w[j].toNat:Nat):Int)=(45:Int))<;>rfl
  ·have c0' : ¬ ((j:Nat):Int)<((w.length:Nat):Int):=by omega
   have:w.drop j = []:=List.drop_eq_nil_of_le (by omega)
   simp only [e0,Option.bind_some,c0',decide_false,cond_false,this,List.all_nil,if_true]
def q8u (z:Bool) (w:List UInt8):Bool:=q25 w&&(z || !(q2a w&&(decide (1<w.length)&&decide (w.head? = some 48))))
theorem j2y (w:List UInt8):q8u true w=q25 w:=by unfold q8u;simp
theorem j1d (w:List UInt8):q8u false w=q4h w:=by
 unfold q8u q4h
 cases w with
 | nil=>simp [q25]
 | cons c r =>
  cases hn:q2a (c::r) with
  | false=>simp
  | true =>
   by_cases hc:c=48
   ·subst hc
    cases r with
    | nil=>simp
    | cons d r=>simp
   ·simp [hc]
theorem qik (n:Nat) (z:Bool) (l:List (List UInt8)) (hl:l.length<=1000000) (hw : ∀w∈l,w.length<=1000000/\w.length<n) : ∀m i:Nat,i<=l.length->l.length - i<m->q6j n m z l (i:Int)=some (if (l.drop i).all (q8u z)=true then Sum.inr ((),((),())) else Sum.inl ((false,()),((),())))
 | 0,j,_,h=>absurd h (Nat.not_lt_zero _)
 | m+1,i,hi,h=>by
  rw [qj0]
  unfold qkm
  by_cases c0:i<l.length
  ·have c0':((i:Nat):Int)<((l.length:Nat):Int):=by omega
   have ih:=qik n z l hl hw m (i+1) (by omega) (by omega)
   have hd:l.drop i=l[i]::l.drop (i+1):=(List.drop_eq_getElem_cons c0)
   have hww:=hw l[i] (List.getElem_mem c0)
   have h1:=qfc n z l i c0 l[i] rfl hww.1 n 0 (Nat.zero_le _) (by omega)
   rw [show ((0:Nat):Int)=(0:Int) from rfl,List.drop_zero] at h1
   rw [hd,List.all_cons]
   simp only [c0',decide_true,cond_true,h1,Option.bind_some]
   rw [show q8u z l[i]=((l[i].all qux && !decide (l[i] = []))&&(z || !(q2a l[i]&&(decide (1<l[i].length)&&decide (l[i].head? = some 48))))) from rfl]
   cases hs:l[i].all qux with
   | false=>simp
   | true =>
    simp only [if_true,Sum.elim_inr,q1k c0,Option.bind_some,q88 n _ hww.1 hww.2,q0b,q06 (show i<4611686018427387904 by omega),ih]
    generalize hx:l[i]=x at hs hww
    cases x with
    | nil=>simp
    | cons c r =>
     have h0:sAt (c::r) (0:Int)=some ((c.toNat:Nat):Int):=q2z (s:=c::r) (j:=0) (by simp)
     have h2:decide (((c.toNat:Nat):Int)=(48:Int))=decide ((c::r).head? = some 48):=decide_eq_decide.2 (by
      simp only [List.head?_cons,Option.some.injEq]
      constructor
      ·intro h;exact UInt8.toNat_inj.1 (by have e48:(48:UInt8).toNat=48:=rfl;rw [e48];omega)
      ·rintro rfl;rfl)
     have h3:decide ((1:Int)<(((c::r).length:Nat):Int))=decide (1<(c::r).length):=decide_eq_decide.2 (by omega)
     have e0:decide (c::r=([]:List UInt8))=false:=by simp
     simp only [h0,h2,h3,e0,Option.bind_some,cond_false]
     cases z<;>cases q2a (c::r)<;>cases decide (1<(c::r).length)<;>cases decide ((c::r).head? = some 48)<;>simp
  ·have c0' : ¬ ((i:Nat):Int)<((l.length:Nat):Int):=by omega
   have:l.drop i = []:=List.drop_eq_nil_of_le (by omega)
   simp only [c0',decide_false,cond_false,this,List.all_nil,if_true]
theorem qnl (n:Nat) (s:List UInt8) (z:Bool) (hs:s.length<=100000) (hn:s.length+2<n):q9e n s z=some ((spl 46 [] s).all (q8u z)):=by
 unfold q9e
 have e1:q0n n s (46:Int)=some (spl 46 [] s):=q43 n s 46 (by omega) (by omega)
 rw [e1]
 have k:=q4s 46 s []
 have h:=qik n z (spl 46 [] s) (by omega) (fun w hw=>by have:=q4c 46 s [] w hw;simp at this;omega) n 0 (Nat.zero_le _) (by omega)
 rw [show ((0:Nat):Int)=(0:Int) from rfl,List.drop_zero] at h
 simp only [Option.bind_some,h]
 cases (spl 46 [] s).all (q8u z)<;>rfl
theorem jmd (n:Nat) (a:Int):qxe n a=some (jeg a):=by
 unfold qxe jeg
 cases decide ((0:Int)<=a)<;>rfl
theorem q72 (n:Nat) (v:VD) (hn:100<=n):q66 n v=some (q0u v):=by
 unfold q66 q0u
 simp only [jmd,Option.bind_some]
 cases jeg v.1 with
 | false=>rfl
 | true=>cases jeg v.2.1 with
  | false=>rfl
  | true=>cases jeg v.2.2.1 with
   | false=>rfl
   | true =>
    simp only [Bool.not_true,cond_false,Bool.true_and]
    unfold q7d
    have f1:(q8u true)=q25:=funext j2y
    have f2:(q8u false)=q4h:=funext j1d
    by_cases c1:(30:Int)<((v.2.2.2.1.length:Nat):Int)
    ·have e1:v.2.2.2.1 ≠ []:=fun e=>by rw [e] at c1;simp at c1
     have e2 : ¬ v.2.2.2.1.length<=30:=by omega
     simp [c1,e1,e2]
    ·by_cases c2:(30:Int)<((v.2.2.2.2.length:Nat):Int)
     ·have e1:v.2.2.2.2 ≠ []:=fun e=>by rw [e] at c2;simp at c2
      have e2 : ¬ v.2.2.2.2.length<=30:=by omega
      simp [c1,c2,e1,e2]
     ·have l1:v.2.2.2.1.length<=30:=by omega
      have l2:v.2.2.2.2.length<=30:=by omega
      have r1:=qnl n v.2.2.2.1 false (by omega) (by omega)
      have r2:=qnl n v.2.2.2.2 true (by omega) (by omega)
      rw [f2] at r1
      rw [f1] at r2
      simp only [c1,c2,decide_false,cond_false,r1,r2,l1,l2,decide_true,Bool.true_and,Option.bind_some]
      by_cases p:v.2.2.2.1 = []
      ·by_cases q:v.2.2.2.2 = []<;>simp [p,q]
      ·by_cases q:v.2.2.2.2 = []
       ·simp only [p,q,decide_false,decide_true,cond_false,cond_true,Bool.false_or,Bool.true_or,Bool.and_true]
        cases (spl 46 [] v.2.2.2.1).all q4h<;>rfl
       ·simp only [p,q,decide_false,decide_true,cond_false,cond_true,Bool.false_or]
        cases (spl 46 [] v.2.2.2.1).all q4h<;>rfl
end Go.Proofs.YtcdjkibiggjdoaaGreatDoor.AM
namespace Go.Proofs.YtcdjkibiggjdoaaGreatDoor.AM
open Go.RowKit
set_option linter.unusedVariables false
set_option linter.unusedSimpArgs false
theorem q3e (n:Nat) (a b:Int):q41 n a b=some (qaw a b):=by
 unfold q41 qaw
 by_cases h1:a<b
 ·simp [h1]
 ·by_cases h2:b<a
  ·simp [h1,h2]
  ·simp [h1,h2]
theorem jxz (a b:List UInt8):(bif ltS a b then some (-1:Int) else (bif !(ltS a b||decide (a=b)) then some (1:Int) else some (0:Int)))=some (cmpL jnj a b):=by
 unfold ltS
 rw [qii]
 have hr:=(qjp qoj).rng a b
 have hz:cmpL jnj a b=0↔a=b:=(qjp qoj).zero
 by_cases h1:cmpL jnj a b<0
 ·have:cmpL jnj a b = -1:=by omega
  simp [h1,this]
 ·by_cases h2:a=b
  ·have:=hz.2 h2
   simp [h1,h2,(qjp qoj).refl b]
  ·have:cmpL jnj a b=1:=by
    have : ¬ cmpL jnj a b=0:=fun e=>h2 (hz.1 e)
    omega
   simp [h2,this]
theorem j9m (n:Nat) (a b:List UInt8) (ha:a.length<=1000000) (hb:b.length<=1000000) (hn:a.length<n/\b.length<n):qhb n a b=some (jl9 a b):=by
 unfold qhb jl9 jtj
 rw [q88 n a ha hn.1,q88 n b hb hn.2]
 simp only [Option.bind_some,jxz,q3e]
 cases q2a a with
 | false=>cases q2a b with
  | false =>
   simp only [cond_false,Bool.false_eq_true,if_false]
   unfold qjt qaw or2
   simp
  | true =>
   simp only [cond_false,cond_true,Bool.not_false,Bool.false_eq_true,if_false,if_true]
   unfold qjt qaw or2
   simp
 | true=>cases q2a b with
  | false =>
   simp only [cond_false,cond_true,Bool.not_false,Bool.false_eq_true,if_false,if_true]
   unfold qjt qaw or2
   simp
  | true =>
   simp only [cond_true,cond_false,Bool.not_true,if_true]
   unfold qjt
   have e0:qaw (0:Int) 0=0:=by decide
   dsimp only
   rw [e0]
   unfold or2
   simp only [if_true]
   by_cases hl:((a.length:Nat):Int)=((b.length:Nat):Int)
   ·have:qaw ((a.length:Nat):Int) ((b.length:Nat):Int)=0:=by rw [hl];exact q53.refl _
    simp only [hl,decide_true,Bool.not_true,cond_false]
    rw [hl] at this
    rw [this];rfl
   ·have : ¬ qaw ((a.length:Nat):Int) ((b.length:Nat):Int)=0:=fun e=>hl (q53.eq _ _ e)
    simp only [hl,decide_false,Bool.not_false,cond_true,this,if_false]
theorem qw0 (n:Nat) (l1 l2:List (List UInt8)) (h1:l1.length<=1000000) (h2:l2.length<=1000000) (hw : ∀w,w∈l1\/w∈l2->w.length<=1000000/\w.length<n) : ∀m j:Nat,j<=l1.length->j<=l2.length->l1.length - j<m ->
  ((qe9 n m l1 l2 (j:Int)).bind fun (o16:((Int×(Unit))×(Unit)×(Unit))⊕(((List (List UInt8))×((List (List UInt8))×(Unit)))×(Unit)×(Unit)))=>Sum.elim (fun (q17:(Int×(Unit))×(Unit)×(Unit))=>some q17.1.1) (fun (q18:((List (List UInt8))×((List (List UInt8))×(Unit)))×(Unit)×(Unit))=>(q41 n ((List.length q18.1.1:Nat):Int) ((List.length q18.1.2.1:Nat):Int)).bind fun (r19:Int)=>some r19) o16)=some (cmpL jl9 (l1.drop j) (l2.drop j))
 | 0,j,_,_,h=>absurd h (Nat.not_lt_zero _)
 | m+1,j,hj,hj2,h=>by
  rw [qsw]
  unfold jap
  by_cases c0:j<l1.length
  ·have c0':((j:Nat):Int)<((l1.length:Nat):Int):=by omega
   have hd:l1.drop j=l1[j]::l1.drop (j+1):=(List.drop_eq_getElem_cons c0)
   by_cases c1:j<l2.length
   ·have c1':((j:Nat):Int)<((l2.length:Nat):Int):=by omega
    have hd2:l2.drop j=l2[j]::l2.drop (j+1):=(List.drop_eq_getElem_cons c1)
    have ih:=qw0 n l1 l2 h1 h2 hw m (j+1) (by omega) (by omega) (by omega)
    have k1:=hw l1[j] (Or.inl (List.getElem_mem c0))
    have k2:=hw l2[j] (Or.inr (List.getElem_mem c1))
    have hp:=j9m n l1[j] l2[j] k1.1 k2.1 ⟨k1.2,k2.2⟩
    rw [hd,hd2,cmpL]
    simp only [c0',decide_true,cond_true,q1k c0,Option.bind_some,c1',q1k c1,hp,q0b,q06 (show j<4611686018427387904 by omega)]
    unfold or2
    by_cases h0:jl9 l1[j] l2[j]=0
    ·simp only [h0,decide_true,Bool.not_true,cond_false,if_true]
     exact ih
    ·simp only [h0,decide_false,Bool.not_false,cond_true,if_false,Option.bind_some,Sum.elim_inl]
   ·have c1' : ¬ ((j:Nat):Int)<((l2.length:Nat):Int):=by omega
    have hd2:l2.drop j = []:=List.drop_eq_nil_of_le (by omega)
    have c3:qaw ((l1.length:Nat):Int) ((l2.length:Nat):Int)=1:=by unfold qaw;rw [if_neg (by omega),if_pos (by omega)]
    rw [hd,hd2,cmpL]
    simp only [c0',decide_true,cond_true,c1',decide_false,cond_false,Option.bind_some,Sum.elim_inr,q3e,c3]
  ·have c0' : ¬ ((j:Nat):Int)<((l1.length:Nat):Int):=by omega
   have hd:l1.drop j = []:=List.drop_eq_nil_of_le (by omega)
   simp only [c0',decide_false,cond_false,Option.bind_some,Sum.elim_inr,q3e]
   rw [hd]
   by_cases c1:j<l2.length
   ·have hd2:l2.drop j=l2[j]::l2.drop (j+1):=(List.drop_eq_getElem_cons c1)
    have c3:qaw ((l1.length:Nat):Int) ((l2.length:Nat):Int) = -1:=by unfold qaw;rw [if_pos (by omega)]
    rw [hd2,c3]
    rfl
   ·have hd2:l2.drop j = []:=List.drop_eq_nil_of_le (by omega)
    have c3:qaw ((l1.length:Nat):Int) ((l2.length:Nat):Int)=0:=by unfold qaw;rw [if_neg (by omega),if_neg (by omega)]
    rw [hd2,c3]
    rfl
theorem jne (n:Nat) (a b:List UInt8) (ha:a.length<=100000) (hb:b.length<=100000) (hn:a.length+3<n/\b.length+3<n):jdd n a b=some (qbx a b):=by
 unfold jdd qyu
 by_cases h1:a = []
 ·by_cases h2:b = []
  ·simp only [h1,h2,decide_true,cond_true,Option.bind_some,q3e]
   rfl
  ·simp only [h1,h2,decide_true,decide_false,cond_true,cond_false,Option.bind_some,q3e]
   unfold qbx qjt jl0 qaw or2
   simp [h2]
 ·by_cases h2:b = []
  ·simp only [h1,h2,decide_true,decide_false,cond_true,cond_false,Option.bind_some,q3e]
   unfold qbx qjt jl0 qaw or2
   simp [h1]
  ·simp only [h1,h2,decide_false,cond_false]
   have s1:q0n n a (46:Int)=some (spl 46 [] a):=q43 n a 46 (by omega) (by omega)
   have s2:q0n n b (46:Int)=some (spl 46 [] b):=q43 n b 46 (by omega) (by omega)
   have k1:=q4s 46 a []
   have k2:=q4s 46 b []
   rw [s1,s2]
   simp only [Option.bind_some]
   have h:=qw0 n (spl 46 [] a) (spl 46 [] b) (by omega) (by omega) (fun w hw=>by
     rcases hw with hw|hw
     ·have:=q4c 46 a [] w hw;simp at this;omega
     ·have:=q4c 46 b [] w hw;simp at this;omega) n 0 (Nat.zero_le _) (Nat.zero_le _) (by omega)
   rw [show ((0:Nat):Int)=(0:Int) from rfl,List.drop_zero,List.drop_zero] at h
   rw [h]
   unfold qbx jl0
   simp only [h1,h2,if_false]
   unfold qjt
   have e0:qaw (0:Int) 0=0:=by decide
   dsimp only
   rw [e0]
   unfold or2
   simp
theorem qa2 (n:Nat) (a b:VD) (hn:100<=n):q2u n a b=some (q8w a b):=by
 unfold q2u q8w
 rw [q72 n a hn,q72 n b hn]
 cases hca:q0u a with
 | false=>rfl
 | true=>cases hcb:q0u b with
  | false=>rfl
  | true =>
   obtain ⟨-,-,-,h4,-⟩:=q1g hca
   obtain ⟨-,-,-,k4,-⟩:=q1g hcb
   have t1:=q4v h4
   have t2:=q4v k4
   simp only [Option.bind_some,Bool.not_true,cond_false,q3e]
   rw [jne n _ _ (by omega) (by omega) ⟨by omega,by omega⟩]
   simp only [Option.bind_some,Bool.and_self,if_true]
   show _=some (or2 (qaw a.1 b.1) (or2 (qaw a.2.1 b.2.1) (or2 (qaw a.2.2.1 b.2.2.1) (qbx a.2.2.2.1 b.2.2.2.1))))
   have z : ∀x y:Int,qaw x y=0↔x=y:=fun x y=>q53.zero
   unfold or2
   simp only [z]
   by_cases e1:a.1=b.1
   ·by_cases e2:a.2.1=b.2.1
    ·by_cases e3:a.2.2.1=b.2.2.1<;>simp [e1,e2,e3]
    ·simp [e1,e2]
   ·simp [e1]
end Go.Proofs.YtcdjkibiggjdoaaGreatDoor.AM
namespace Go.Proofs.YtcdjkibiggjdoaaGreatDoor.AM
open Go.RowKit
set_option linter.unusedVariables false
set_option linter.unusedSimpArgs false
theorem jux {a b c:VD} (ha:q0u a=true) (hb:q0u b=true) (hc:q0u c=true) (h1:q8w a b<=0) (h2:q8w b c<=0):q8w a c<=0:=by
 rw [jas ha hb] at h1
 rw [jas hb hc] at h2
 rw [jas ha hc]
 exact qz4.tr _ _ _ h1 h2
theorem jo0 (a:VD):q8w a a=0:=by have:=qd1 a a;omega
end Go.Proofs.YtcdjkibiggjdoaaGreatDoor.AM
namespace Go.Proofs.YtcdjkibiggjdoaaGreatDoor.AM
open Go.RowKit
set_option linter.unusedVariables false
set_option linter.unusedSimpArgs false
def qh6 (c:UInt8):Bool:=qux c||decide (c.toNat=95)||decide (c.toNat=46)
def qcs (s:List UInt8):Bool:=!decide (s = [])&&(!decide (s = [46])&&(!decide (s = [46,46])&&s.all qh6))
def qbl (s:List UInt8):Bool:=decide (s.length<=60)&&(spl 47 [] s).all qcs
def q1n (w:List UInt8):Bool:=decide (w.head? = some 118)&&q2a (w.drop 1)
def anyS (s:List UInt8):Bool:=(spl 47 [] s).any q1n
def q8t (c:UInt8):List UInt8->Int
 | []=>-1
 | b::r=>if b=c then (r.length:Int) else q8t c r
def q9m (c:UInt8) (s:List UInt8):Int:=q8t c s.reverse
theorem jcg (c:UInt8) : ∀l,-1<=q8t c l/\q8t c l<(l.length:Int)
 | []=>by simp [q8t]
 | b::r=>by
  have:=jcg c r
  rw [q8t];split
  ·simp;omega
  ·simp;omega
theorem jdh (c:UInt8) (s:List UInt8) : -1<=q9m c s/\q9m c s<(s.length:Int):=by
 have:=jcg c s.reverse;unfold q9m;simpa using this
theorem qwa (c:UInt8) : ∀l,c ∉ l->q8t c l = -1
 | [],_=>rfl
 | b::r,h=>by
  have h1:b≠c:=fun e=>h (by simp [e])
  rw [q8t,if_neg h1,qwa c r (fun e=>h (by simp [e]))]
theorem j6k (c:UInt8) : ∀(y x:List UInt8),c ∉ y->q8t c (y++c::x)=(x.length:Int)
 | [],x,_=>by simp [q8t]
 | b::y,x,h=>by
  have h1:b≠c:=fun e=>h (by simp [e])
  rw [List.cons_append,q8t,if_neg h1,j6k c y x (fun e=>h (by simp [e]))]
theorem ji5 {c:UInt8} {s:List UInt8} (h:c ∉ s):q9m c s = -1:=qwa c _ (by simpa using h)
theorem jo2 {c:UInt8} {x y:List UInt8} (h:c ∉ y):q9m c (x++c::y)=(x.length:Int):=by
 have:=j6k c y.reverse x.reverse (by simpa using h)
 unfold q9m
 simpa using this
def q2i (s:List UInt8):List UInt8:=s.take (q9m 47 s).toNat
def q2f (s:List UInt8):List UInt8:=s.drop (q9m 47 s+1).toNat
theorem jf0 (c:UInt8) : ∀s:List UInt8,c ∉ s \/ ∃ x y,s=x++c::y/\c ∉ y
 | []=>Or.inl (by simp)
 | b::s=>by
  rcases jf0 c s with h|⟨x,y,rfl,h⟩
  ·by_cases hb:b=c
   ·subst hb;exact Or.inr ⟨[],s,rfl,h⟩
   ·exact Or.inl (by simp [h,Ne.symm hb])
  ·exact Or.inr ⟨b::x,y,rfl,h⟩
theorem j33 {s:List UInt8} (h:47 ∉ s):q2i s = []/\q2f s=s:=by
 unfold q2i q2f;rw [ji5 h];exact ⟨rfl,rfl⟩
theorem jdn {x y:List UInt8} (h:47 ∉ y):q2i (x++47::y)=x/\q2f (x++47::y)=y:=by
 unfold q2i q2f;rw [jo2 h]
 constructor
 ·simp
 ·rw [show (((x.length:Nat):Int)+1).toNat=x.length+1 from by omega];simp
theorem jbd (c:UInt8) : ∀(x cur y:List UInt8),spl c cur (x++c::y)=spl c cur x++spl c [] y
 | [],cur,y=>by simp [spl]
 | b::x,cur,y=>by
  rw [List.cons_append,spl,spl]
  split
  ·rw [jbd c x];rfl
  ·rw [jbd c x]
theorem jh5 (s:List UInt8):(47 ∉ s/\q2i s = []/\q2f s=s/\spl 47 [] s = [s])\/(s=q2i s++47::q2f s/\47 ∉ q2f s/\spl 47 [] s=spl 47 [] (q2i s) ++ [q2f s]):=by
 rcases jf0 47 s with h|⟨x,y,rfl,h⟩
 ·exact Or.inl ⟨h,(j33 h).1,(j33 h).2,q96 47 s h⟩
 ·refine Or.inr ?_
  rw [(jdn h).1,(jdn h).2]
  exact ⟨rfl,h,by rw [jbd,q96 47 y h]⟩
abbrev jgz:List UInt8:=[48,49,50,51,52,53,54,55,56,57]
theorem jqg (c:UInt8):jgz.contains c=q1i c:=by
 have h : ∀k:Fin 256,jgz.contains (UInt8.ofNat k.val)=q1i (UInt8.ofNat k.val):=by decide +kernel
 have h1:=h ⟨c.toNat,c.toNat_lt⟩
 simpa using h1
theorem dropWhile_nil (p:UInt8->Bool) : ∀l:List UInt8,l.dropWhile p = []↔l.all p=true
 | []=>by simp
 | b::l=>by
  rw [List.dropWhile_cons]
  cases h:p b with
  | true=>simp [h,dropWhile_nil p l]
  | false=>simp [h]
theorem qis {p:UInt8->Bool} {c:UInt8} : ∀{l:List UInt8},c∈l->p c=false->c∈l.dropWhile p
 | b::l,h,hp=>by
  rw [List.dropWhile_cons]
  rcases List.mem_cons.1 h with rfl|h
  ·simp [hp]
  ·cases hb:p b with
   | true=>simpa using qis h hp
   | false=>simp [h]
theorem jpy (s:List UInt8):decide (Lib.trimS s jgz = [])=s.all q1i:=by
 have he:(fun c=>jgz.contains c)=q1i:=funext jqg
 unfold Lib.trimS Lib.trimRightS Lib.trimLeftS
 rw [he]
 cases h:s.all q1i with
 | true =>
  have h2:s.reverse.all q1i=true:=by rw [List.all_reverse];exact h
  rw [(dropWhile_nil q1i s.reverse).2 h2];simp
 | false =>
  rw [decide_eq_false_iff_not,dropWhile_nil]
  intro hc
  have h3 : ∃ c,c∈s/\q1i c=false:=by
   have:=List.all_eq_false.1 h
   obtain ⟨c,hc,hn⟩:=this
   exact ⟨c,hc,by simpa using hn⟩
  obtain ⟨c,hm,hn⟩:=h3
  have h4:c∈(s.reverse.dropWhile q1i).reverse:=by simpa using qis (l:=s.reverse) (by simpa using hm) hn
  have:=List.all_eq_true.1 hc c h4
  rw [hn] at this;cases this
def numOf (s:List UInt8):Int:=match Lib.atoiAll s with
 | .ok v=>v
 | .range=>Lib.atoiSat s
 | _=>0
def qvy (s:List UInt8):Bool:=match Lib.atoiAll s with
 | .ok v=>decide (2<=v)&&(decide (v<=999999999)&&decide (s=Lib.itoa v))
 | _=>false
theorem jmk {n:Int} (h0:2<=n) (h1:n<=999999999):qvy (Lib.itoa n)=true/\numOf (Lib.itoa n)=n:=by
 unfold qvy numOf;rw [qhi (by omega) h1];simp [h0,h1]
theorem j7o {s:List UInt8} (h:qvy s=true):2<=numOf s/\numOf s<=999999999/\s=Lib.itoa (numOf s):=by
 unfold qvy at h;unfold numOf
 cases e:Lib.atoiAll s with
 | ok v=>rw [e] at h;simpa using h
 | range=>rw [e] at h;cases h
 | «syntax»=>rw [e] at h;cases h
def okS (p:List UInt8):Bool:=qbl p&&(!anyS (q2i p)&&(!q1n (q2f p)||(qvy ((q2f p).drop 1) && !decide (q2i p = []))))
def qcr (p:List UInt8):List UInt8×(Int×Bool):=if okS p then (if q1n (q2f p) then (q2i p,(numOf ((q2f p).drop 1),true)) else (p,(0,true))) else ([],(0,false))
theorem jgh {s:List UInt8} (h:qbl s=true):s.length<=60/\(spl 47 [] s).all qcs=true:=by
 unfold qbl at h;simpa using h
theorem jj4 {p:List UInt8} (h:okS p=true):qbl p=true/\anyS (q2i p)=false/\(q1n (q2f p)=true->qvy ((q2f p).drop 1)=true/\q2i p ≠ []):=by
 unfold okS at h
 simp only [Bool.and_eq_true,Bool.or_eq_true,Bool.not_eq_true',decide_eq_false_iff_not] at h
 refine ⟨h.1,h.2.1,fun ht=>?_⟩
 rcases h.2.2 with h3|h3
 ·rw [ht] at h3;cases h3
 ·exact h3
end Go.Proofs.YtcdjkibiggjdoaaGreatDoor.AM
namespace Go.Proofs
open Go.RowKit Go.Shelf Go.Lib
shelf_lay Lays.n160 Nm 160 at Tryz as Tryz.laysTrim
set_option linter.unusedVariables false
set_option linter.unusedSimpArgs false
namespace YtcdjkibiggjdoaaGreatDoor.AM
def qrs (s cs:List UInt8):Option (List UInt8):=if cs=jgz/\s.length<=1000000 then some (Lib.trimS s jgz) else none
def jey:FC:={ f:=122,args:=[quw,quw],res:=quw,F:=fun p=>qrs p.1 p.2 }
theorem jq9:q0a Inv Tryz.prog jey:=fun G hG=>⟨⟨by kernel_rfl,fun a r h=>by
 obtain ⟨s,cs⟩:=a
 have h':qrs s cs=some r:=h
 unfold qrs at h'
 split at h'
 case isFalse=>cases h'
 rename_i hc
 obtain ⟨rfl,hl⟩:=hc
 have hr:Lib.trimS s jgz=r:=Option.some.inj h'
 intro Pc w vs hg hlt hv
 obtain ⟨l⟩:=vs
 match l,hv with
 | [x,y],⟨h1,h2,_⟩ =>
  obtain rfl:x = .string (ba s):=q07 h1
  obtain rfl:y = .string (ba jgz):=q07 h2
  have e1:(ba s).data.toList=s:=by simp [ba]
  have e2:(ba jgz).data.toList=jgz:=by simp [ba]
  have hh:=Any.strings_Trim_laid Tryz.laysTrim (by kernel_rfl) (ba s) (ba jgz) w (by rw [q1o];omega) (by rw [q1o];decide) (by rw [e2];exact ascii_of_all (by decide))
  rw [e1,e2,hr] at hh
  refine hh.mono ?_
  rintro e w' ⟨rfl,hb⟩
  exact q5r rfl hb (q05 (.string (ba r)))⟩,rfl⟩
end YtcdjkibiggjdoaaGreatDoor.AM
end Go.Proofs
namespace Go.Proofs.YtcdjkibiggjdoaaGreatDoor.AM
open Go.RowKit
set_option linter.unusedVariables false
set_option maxRecDepth 20000
@[reducible] def qio:SSt:=⟨[(0,.one (.c (.d .str))),(1,.one (.c (.d (.int .u8)))),(5,.one (.c (.d (.int .i64))))],[],[]⟩
@[reducible] def q9w:List (Exit×SSt):=[(.ret,⟨[(4,.one (.c (.d (.int .i64))))],[],[]⟩),(.exit 0,⟨[],[],[]⟩)]
def qol (n:Nat) (rec:(List UInt8)->Int->Int->Option (((Int×(Unit))×(Unit)×(Unit))⊕((Unit)×(Unit)×(Unit)))) (a1:List UInt8) (a2:Int) (a3:Int):Option (((Int×(Unit))×(Unit)×(Unit))⊕((Unit)×(Unit)×(Unit))) :=
 (bif decide ((0:Int)<=a3) then (sAt a1 a3).bind fun (c2:Int)=>(bif decide (c2=a2) then some (Sum.inl ((a3,()),((),()))) else q0b (IntKind.wrap .i64 (a3 - (1:Int))) fun (n3:Int)=>rec a1 a2 n3) else some (Sum.inr (((),((),())))))
def j1b (n:Nat) (rec:pSt qio->Option (q0f q9w)) (p:pSt qio):Option (q0f q9w):=qol n (fun a1 a2 a3=>rec ((a1,(a2,(a3,()))),((),()))) p.1.1 p.1.2.1 p.1.2.2.1
def q9y (n m:Nat) (a1:List UInt8) (a2:Int) (a3:Int):Option (((Int×(Unit))×(Unit)×(Unit))⊕((Unit)×(Unit)×(Unit))):=q0g (j1b n) m ((a1,(a2,(a3,()))),((),()))
theorem qbk (n m:Nat) (a1:List UInt8) (a2:Int) (a3:Int):q9y n (m+1) a1 a2 a3=qol n (fun a1 a2 a3=>q9y n m a1 a2 a3) a1 a2 a3:=rfl
def jed (n:Nat):LC:={ sh:=qio,outs:=q9w,F:=q0g (j1b n) n }
def qph (n:Nat):List LC:=[jed n]
def qz5 (n:Nat) (a1:List UInt8) (a2:Int):Option (Int) :=
 q0b (IntKind.wrap .i64 (((List.length a1:Nat):Int) - (1:Int))) fun (n1:Int)=>(q9y n n a1 a2 n1).bind fun (o4:((Int×(Unit))×(Unit)×(Unit))⊕((Unit)×(Unit)×(Unit)))=>Sum.elim (fun (q5:(Int×(Unit))×(Unit)×(Unit))=>some q5.1.1) (fun (q6:(Unit)×(Unit)×(Unit))=>some (-1:Int)) o4
def qh7 (n:Nat):FC:={ f:=141,args:=[.one (.c (.d .str)),.one (.c (.d (.int .u8)))],res:=.one (.c (.d (.int .i64))),F:=fun p=>qz5 n p.1 p.2 }
def j04 (n:Nat):List FC:=[]
theorem qwk (n:Nat) {G:World->Prop} (hG:Know Inv G) : ∀c∈j04 n,q1b Tryz.prog G c/\q0e c.args=true:=(fun _ h=>by cases h)
def j0t:q0c:=[]
theorem je3:drB j0t (q00 Tryz.f141)=true:=by kernel_rfl
theorem jjw (n:Nat) : ∀rec p,j1b n rec p=round Tryz.prog 19 (j04 n) (qph n) j0t 1 qio q9w (q01 0 0 (q00 Tryz.f141)) rec p:=by intro rec p;kernel_rfl
theorem jil (n:Nat) {F:Fr} (hF:F.n=19) (hK:Know Inv F.G):q71 Tryz.prog F (jed n) (q01 0 0 (q00 Tryz.f141)) :=
 q0h hF (by kernel_rfl) (qwk n hK) (jjw n) (fuel:=n) (fun _=>rfl) (q02 fun j L h1 h2 h3=>absurd h2 (Nat.not_lt.2 (Nat.le_trans (by decide +kernel) h1))) (q0r je3)
theorem jrk (n:Nat) : ∀a,(qh7 n).F a=main Tryz.prog 19 (j04 n) (qph n) j0t (q00 Tryz.f141) [.tmp 4] (qh7 n).args (qh7 n).res a:=by intro a;kernel_rfl
theorem jqy (n:Nat):q0a Inv Tryz.prog (qh7 n):=fun G hG=>⟨⟨by kernel_rfl,fun a r h=>q03 (c:=q00 Tryz.f141) Tryz.func141 (by kernel_rfl) (by kernel_rfl) (Nat.le_of_ble_eq_true (by kernel_rfl)) hG.st (by kernel_rfl) (rs:=[.tmp 4]) (by kernel_rfl) (qwk n hG) (lts:=qph n) (fun F hF hFG=>have hK:Know Inv F.G:=hFG ▸ hG;(q02 (c:=(q00 Tryz.f141)) (fun j L h1 h2 h3=>by
  have h2':j<1:=Nat.lt_of_lt_of_le h2 (by decide +kernel)
  match j,h1,h2',h3 with
  | 0,_,_,h3=>obtain rfl:=Option.some.inj h3;exact (show q01 0 0 (q00 Tryz.f141)=q01 0 0 (q00 Tryz.f141) by kernel_rfl) ▸ jil n hF hK
  | j+1,_,h2',_=>exact absurd h2' (by omega)))) je3 ((jrk n a).symm.trans h)⟩,rfl⟩
def j7k (n:Nat):List LC:=[]
def j21 (n:Nat) (a1:List UInt8) (a2:Int):Option (Int) :=
 (qz5 n a1 a2).bind fun (r1:Int)=>some r1
def qjn (n:Nat):FC:={ f:=120,args:=[.one (.c (.d .str)),.one (.c (.d (.int .u8)))],res:=.one (.c (.d (.int .i64))),F:=fun p=>j21 n p.1 p.2 }
def jdx (n:Nat):List FC:=[qh7 n]
theorem ji1 (n:Nat) {G:World->Prop} (hG:Know Inv G) : ∀c∈jdx n,q1b Tryz.prog G c/\q0e c.args=true:=List.forall_mem_cons.2 ⟨jqy n G hG,(fun _ h=>by cases h)⟩
def jf6:q0c:=[]
theorem jqe:drB jf6 (q00 Tryz.f120)=true:=by kernel_rfl
theorem jr3 (n:Nat) : ∀a,(qjn n).F a=main Tryz.prog 8 (jdx n) (j7k n) jf6 (q00 Tryz.f120) [.tmp 4] (qjn n).args (qjn n).res a:=by intro a;kernel_rfl
theorem jf1 (n:Nat):q0a Inv Tryz.prog (qjn n):=fun G hG=>⟨⟨by kernel_rfl,fun a r h=>q03 (c:=q00 Tryz.f120) Tryz.func120 (by kernel_rfl) (by kernel_rfl) (Nat.le_of_ble_eq_true (by kernel_rfl)) hG.st (by kernel_rfl) (rs:=[.tmp 4]) (by kernel_rfl) (ji1 n hG) (lts:=j7k n) (fun F hF hFG=>have hK:Know Inv F.G:=hFG ▸ hG;(q02 fun j L h1 h2 h3=>absurd h2 (Nat.not_lt.2 (Nat.le_trans (by decide +kernel) h1)))) jqe ((jr3 n a).symm.trans h)⟩,rfl⟩
def qfg (n:Nat):List LC:=[]
def q8r (n:Nat) (a1:List UInt8) (a2:List UInt8):Option ((List UInt8)×(Bool)) :=
 (q2m n a1 a2).bind fun (r1:Bool)=>(bif !r1 then some (a1,false) else (q7n a1 ((List.length a2:Nat):Int) ((List.length a1:Nat):Int)).bind fun (s2:List UInt8)=>some (s2,true))
def q46 (n:Nat):FC:={ f:=107,args:=[.one (.c (.d .str)),.one (.c (.d .str))],res:=.tup [.c (.d .str),.c (.d .bool)],F:=fun p=>q8r n p.1 p.2 }
def qhk (n:Nat):List FC:=[q2w n]
theorem qq6 (n:Nat) {G:World->Prop} (hG:Know Inv G) : ∀c∈qhk n,q1b Tryz.prog G c/\q0e c.args=true:=List.forall_mem_cons.2 ⟨qjm n G hG,(fun _ h=>by cases h)⟩
def qjs:q0c:=[]
theorem qzk:drB qjs (q00 Tryz.f107)=true:=by kernel_rfl
theorem qzt (n:Nat) : ∀a,(q46 n).F a=main Tryz.prog 15 (qhk n) (qfg n) qjs (q00 Tryz.f107) [.tmp 4,.tmp 5] (q46 n).args (q46 n).res a:=by intro a;kernel_rfl
theorem qzo (n:Nat):q0a Inv Tryz.prog (q46 n):=fun G hG=>⟨⟨by kernel_rfl,fun a r h=>q03 (c:=q00 Tryz.f107) Tryz.func107 (by kernel_rfl) (by kernel_rfl) (Nat.le_of_ble_eq_true (by kernel_rfl)) hG.st (by kernel_rfl) (rs:=[.tmp 4,.tmp 5]) (by kernel_rfl) (qq6 n hG) (lts:=qfg n) (fun F hF hFG=>have hK:Know Inv F.G:=hFG ▸ hG;(q02 fun j L h1 h2 h3=>absurd h2 (Nat.not_lt.2 (Nat.le_trans (by decide +kernel) h1)))) qzk ((qzt n a).symm.trans h)⟩,rfl⟩
def qi4 (n:Nat):List LC:=[]
def q3g (n:Nat) (a1:List UInt8) (a2:List UInt8):Option ((List UInt8)×(Bool)) :=
 (q8r n a1 a2).bind fun (r1:(List UInt8)×(Bool))=>some r1
def q3l (n:Nat):FC:={ f:=82,args:=[.one (.c (.d .str)),.one (.c (.d .str))],res:=.tup [.c (.d .str),.c (.d .bool)],F:=fun p=>q3g n p.1 p.2 }
def qmc (n:Nat):List FC:=[q46 n]
theorem quz (n:Nat) {G:World->Prop} (hG:Know Inv G) : ∀c∈qmc n,q1b Tryz.prog G c/\q0e c.args=true:=List.forall_mem_cons.2 ⟨qzo n G hG,(fun _ h=>by cases h)⟩
def qn3:q0c:=[]
theorem j5e:drB qn3 (q00 Tryz.f82)=true:=by kernel_rfl
theorem j5m (n:Nat) : ∀a,(q3l n).F a=main Tryz.prog 11 (qmc n) (qi4 n) qn3 (q00 Tryz.f82) [.tmp 4,.tmp 5] (q3l n).args (q3l n).res a:=by intro a;kernel_rfl
theorem qmd (n:Nat):q0a Inv Tryz.prog (q3l n):=fun G hG=>⟨⟨by kernel_rfl,fun a r h=>q03 (c:=q00 Tryz.f82) Tryz.func82 (by kernel_rfl) (by kernel_rfl) (Nat.le_of_ble_eq_true (by kernel_rfl)) hG.st (by kernel_rfl) (rs:=[.tmp 4,.tmp 5]) (by kernel_rfl) (quz n hG) (lts:=qi4 n) (fun F hF hFG=>have hK:Know Inv F.G:=hFG ▸ hG;(q02 fun j L h1 h2 h3=>absurd h2 (Nat.not_lt.2 (Nat.le_trans (by decide +kernel) h1)))) j5e ((j5m n a).symm.trans h)⟩,rfl⟩
def qwe (n:Nat):List LC:=[]
def qhu (n:Nat) (a1:List UInt8):Option (Bool) :=
 (q3g n a1 ([118]:List UInt8)).bind fun (r1:(List UInt8)×(Bool))=>(bif r1.2 then (bif !decide (r1.1=([]:List UInt8)) then (qrs r1.1 ([48,49,50,51,52,53,54,55,56,57]:List UInt8)).bind fun (r2:List UInt8)=>some (decide (r2=([]:List UInt8))) else some false) else some false)
def qch (n:Nat):FC:={ f:=101,args:=[.one (.c (.d .str))],res:=.one (.c (.d .bool)),F:=fun p=>qhu n p }
def j6q (n:Nat):List FC:=[q3l n,jey]
theorem j8p (n:Nat) {G:World->Prop} (hG:Know Inv G) : ∀c∈j6q n,q1b Tryz.prog G c/\q0e c.args=true:=List.forall_mem_cons.2 ⟨qmd n G hG,List.forall_mem_cons.2 ⟨jq9 G hG,(fun _ h=>by cases h)⟩⟩
def j6l:q0c:=[]
theorem jo5:drB j6l (q00 Tryz.f101)=true:=by kernel_rfl
theorem job (n:Nat) : ∀a,(qch n).F a=main Tryz.prog 20 (j6q n) (qwe n) j6l (q00 Tryz.f101) [.tmp 2] (qch n).args (qch n).res a:=by intro a;kernel_rfl
theorem j5b (n:Nat):q0a Inv Tryz.prog (qch n):=fun G hG=>⟨⟨by kernel_rfl,fun a r h=>q03 (c:=q00 Tryz.f101) Tryz.func101 (by kernel_rfl) (by kernel_rfl) (Nat.le_of_ble_eq_true (by kernel_rfl)) hG.st (by kernel_rfl) (rs:=[.tmp 2]) (by kernel_rfl) (j8p n hG) (lts:=qwe n) (fun F hF hFG=>have hK:Know Inv F.G:=hFG ▸ hG;(q02 fun j L h1 h2 h3=>absurd h2 (Nat.not_lt.2 (Nat.le_trans (by decide +kernel) h1)))) jo5 ((job n a).symm.trans h)⟩,rfl⟩
end Go.Proofs.YtcdjkibiggjdoaaGreatDoor.AM
