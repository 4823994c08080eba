
import Derived.Test.YtapfankgdkdkgaaGreatDoorMk13
import Derived.Test.YtapfankgdkdkgaaGreatDoorMk14
import Derived.Test.YtapfankgdkdkgaaGreatDoorMk20
import Derived.Test.YtapfankgdkdkgaaGreatDoorMk21
import Derived.Test.YtapfankgdkdkgaaGreatDoorMk23
namespace Go.Proofs.YtapfankgdkdkgaaGreatDoor.AM
open Go.RowKit
set_option linter.unusedVariables false
set_option linter.unusedSimpArgs false
theorem j21 : ∀(k:Nat) (a:Int),0<=a->a<10 ^ (k+1)->k<=15->q1o (k+1) a=some (Lib.itoa a):=by
 intro k
 induction k with
 | zero =>
  intro a h0 h1 _
  have h1':a<10:=by simpa using h1
  unfold q1o
  have e1:jsb a 10=some (a % 10):=by unfold jsb;rw [if_pos (by decide),Int.tmod_eq_emod_of_nonneg h0]
  have w1:IntKind.wrap .i64 (48+a % 10)=48+a % 10:=wrap64 (by omega) (by omega)
  have w2:IntKind.wrap .u8 (48+a % 10)=48+a % 10:=jxu (by omega) (by omega)
  have c1 : ¬ (10:Int)<=a:=by omega
  simp only [e1,Option.bind_some,q08,w1,w2,c1,decide_false,cond_false]
  rw [jav h0,if_pos h1']
  simp only [List.map_cons,List.map_nil]
  rw [show (48+a % 10).toNat=48+a.toNat from by omega]
 | succ k ih =>
  intro a h0 h1 hk
  unfold q1o
  have e1:jsb a 10=some (a % 10):=by unfold jsb;rw [if_pos (by decide),Int.tmod_eq_emod_of_nonneg h0]
  have w1:IntKind.wrap .i64 (48+a % 10)=48+a % 10:=wrap64 (by omega) (by omega)
  have w2:IntKind.wrap .u8 (48+a % 10)=48+a % 10:=jxu (by omega) (by omega)
  have hp:(10:Int) ^ (k+1+1)=10*10 ^ (k+1):=by rw [Int.pow_succ];omega
  have hb:(10:Int) ^ (k+1)<=10 ^ 16:=by
   have:=Nat.pow_le_pow_right (n:=10) (by decide) (show k+1<=16 by omega)
   have e2:((10 ^ (k+1):Nat):Int)=(10:Int) ^ (k+1):=by simp
   have e3:((10 ^ 16:Nat):Int)=(10:Int) ^ 16:=by simp
   rw [<-e2,<-e3];omega
  have e9:(10:Int) ^ 16=10000000000000000:=by decide
  rw [hp] at h1
  rw [e9] at hb
  simp only [e1,Option.bind_some,q08,w1,w2]
  rw [jav h0]
  by_cases c1:(10:Int)<=a
  ·have q1:jwu .i64 a 10=some (a / 10):=by
    unfold jwu;rw [if_pos (by decide),Int.tdiv_eq_ediv_of_nonneg h0,wrap64 (by omega) (by omega)]
   have i1:=ih (a / 10) (by omega) (by omega) (by omega)
   have c2 : ¬ a<10:=by omega
   have hlen:(Lib.itoa (a / 10)).length<=20:=by
    rw [q2h (by omega)]
    have:=qkh 19 (a / 10).toNat (by omega)
    omega
   simp only [c1,decide_true,cond_true,q1,Option.bind_some,i1,c2,if_false,List.map_cons,List.map_nil]
   rw [q2b (by simp;omega)]
   rw [show (48+a % 10).toNat=48+(a % 10).toNat from by omega]
   rfl
  ·have c2:a<10:=by omega
   simp only [c1,c2,decide_false,cond_false,if_true,List.map_cons,List.map_nil]
   rw [show (48+a % 10).toNat=48+a.toNat from by omega]
theorem j9l (n:Nat) {a:Int} (h:0<=a/\a<=999999999) (hn:10<=n) : ∀k,n=k+10->q1o n a=some (Lib.itoa a):=by
 have more : ∀(k:Nat) (a:Int) (r:List UInt8),q1o k a=some r->q1o (k+1) a=some r:=by
  intro k
  induction k with
  | zero=>intro a r hr;cases hr
  | succ k ih =>
   intro a r hr
   rw [q1o] at hr ⊢
   cases e1:jsb a 10 with
   | none=>rw [e1] at hr;cases hr
   | some n1 =>
    rw [e1] at hr
    simp only [Option.bind_some,q08] at hr ⊢
    by_cases c1:(10:Int)<=a
    ·simp only [c1,decide_true,cond_true] at hr ⊢
     cases e2:jwu .i64 a 10 with
     | none=>rw [e2] at hr;cases hr
     | some n4 =>
      rw [e2] at hr
      simp only [Option.bind_some] at hr ⊢
      cases e3:q1o k n4 with
      | none=>rw [e3] at hr;cases hr
      | some r5 =>
       rw [e3] at hr
       rw [ih n4 r5 e3]
       exact hr
    ·simp only [c1,decide_false,cond_false] at hr ⊢
     exact hr
 intro k
 induction k generalizing n with
 | zero =>
  rintro rfl
  exact j21 9 a h.1 (by
                  have:(10:Int) ^ (9+1)=10000000000:=by decide
                  rw [this];omega) (by decide)
 | succ k ih =>
  rintro rfl
  exact more _ _ _ (ih (k+10) (by omega) rfl)
theorem qeu (n:Nat) {a:Int} (h:0<=a/\a<=999999999) (hn:10<=n):q1o n a=some (Lib.itoa a):=j9l n h hn (n - 10) (by omega)
end Go.Proofs.YtapfankgdkdkgaaGreatDoor.AM
namespace Go.Proofs.YtapfankgdkdkgaaGreatDoor.AM
open Go.RowKit
set_option linter.unusedVariables false
set_option linter.unusedSimpArgs false
end Go.Proofs.YtapfankgdkdkgaaGreatDoor.AM
namespace Go.Proofs.YtapfankgdkdkgaaGreatDoor.AM
open Go.RowKit
set_option linter.unusedVariables false
set_option linter.unusedSimpArgs false
theorem jeo (n:Nat) (v:VD) (hn:100<=n):qxk n v=some (q0n v):=by
 unfold qxk q0n
 rw [j7f n v hn]
 cases hc:q10 v with
 | false=>rfl
 | true =>
  obtain ⟨h1,h2,h3,h4,h5⟩:=q2m hc
  have l1:=qcj h1
  have l2:=qcj h2
  have l3:=qcj h3
  have t1:=q7u h4
  have t2:=q7u h5
  simp only [Option.bind_some,Bool.not_true,cond_false,qeu n h1 (by omega),qeu n h2 (by omega),qeu n h3 (by omega),if_true]
  unfold jra q6u
  generalize Lib.itoa v.1=A at l1
  generalize Lib.itoa v.2.1=B at l2
  generalize Lib.itoa v.2.2.1=C at l3
  generalize v.2.2.2.1=p at t1
  generalize v.2.2.2.2=q at t2
  rw [q2b (by simp;omega)];simp only [Option.bind_some]
  rw [q2b (by simp;omega)];simp only [Option.bind_some]
  rw [q2b (by simp;omega)];simp only [Option.bind_some]
  rw [q2b (by simp;omega)];simp only [Option.bind_some]
  rw [q2b (by simp;omega)];simp only [Option.bind_some]
  by_cases hp:p = []
  ·by_cases hq:q = []
   ·simp [hp,hq]
   ·simp only [hp,hq,decide_true,decide_false,Bool.not_true,Bool.not_false,cond_true,cond_false]
    rw [q2b (by simp;omega)];simp only [Option.bind_some]
    rw [q2b (by simp;omega)]
    simp
  ·by_cases hq:q = []
   ·simp only [hp,hq,decide_true,decide_false,Bool.not_true,Bool.not_false,cond_true,cond_false]
    rw [q2b (by simp;omega)];simp only [Option.bind_some]
    rw [q2b (by simp;omega)]
    simp
   ·simp only [hp,hq,decide_true,decide_false,Bool.not_true,Bool.not_false,cond_true,cond_false]
    rw [q2b (by simp;omega)];simp only [Option.bind_some]
    rw [q2b (by simp;omega)];simp only [Option.bind_some]
    rw [q2b (by simp;omega)];simp only [Option.bind_some]
    rw [q2b (by simp;omega)]
    simp
end Go.Proofs.YtapfankgdkdkgaaGreatDoor.AM
namespace Go.Proofs.YtapfankgdkdkgaaGreatDoor.AM
open Go.RowKit
set_option linter.unusedVariables false
set_option linter.unusedSimpArgs false
end Go.Proofs.YtapfankgdkdkgaaGreatDoor.AM
namespace Go.Proofs.YtapfankgdkdkgaaGreatDoor.AM
open Go.RowKit
set_option linter.unusedVariables false
set_option linter.unusedSimpArgs false
end Go.Proofs.YtapfankgdkdkgaaGreatDoor.AM
namespace Go.Proofs.YtapfankgdkdkgaaGreatDoor.AM
open Go.RowKit
set_option linter.unusedVariables false
set_option linter.unusedSimpArgs false
set_option synthInstance.maxSize 100000
set_option synthInstance.maxHeartbeats 0
theorem jji (x y:VD):(decide (x.1=y.1)&&(decide (x.2.1=y.2.1)&&(decide (x.2.2.1=y.2.2.1)&&(decide (x.2.2.2.1=y.2.2.2.1)&&(decide (x.2.2.2.2=y.2.2.2.2)&&true)))))=decide (x=y):=by
 obtain ⟨x1,x2,x3,x4,x5⟩:=x
 obtain ⟨y1,y2,y3,y4,y5⟩:=y
 simp only [Prod.mk.injEq,Bool.decide_and,Bool.and_true]
theorem jn6 (x y:Rq):(decide (x.1=y.1)&&((decide (x.2.1=y.2.1)&&(decide (x.2.2.1=y.2.2.1)&&(decide (x.2.2.2.1=y.2.2.2.1)&&(decide (x.2.2.2.2.1=y.2.2.2.2.1)&&(decide (x.2.2.2.2.2=y.2.2.2.2.2)&&true)))))&&true))=decide (x=y):=by
 rw [jji]
 obtain ⟨x1,x2⟩:=x
 obtain ⟨y1,y2⟩:=y
 simp only [Prod.mk.injEq,Bool.decide_and,Bool.and_true]
theorem jn4 (x y:Sw):(decide (x.1=y.1)&&(decide (x.2=y.2)&&true))=decide (x=y):=by
 obtain ⟨x1,x2⟩:=x
 obtain ⟨y1,y2⟩:=y
 simp only [Prod.mk.injEq,Bool.decide_and,Bool.and_true]
theorem jhr (x y:Sp):((decide (x.1=y.1)&&(decide (x.2.1=y.2.1)&&(decide (x.2.2.1=y.2.2.1)&&(decide (x.2.2.2.1=y.2.2.2.1)&&(decide (x.2.2.2.2.1=y.2.2.2.2.1)&&true)))))&&((decide (x.2.2.2.2.2.1=y.2.2.2.2.2.1)&&(decide (x.2.2.2.2.2.2.1=y.2.2.2.2.2.2.1)&&(decide (x.2.2.2.2.2.2.2.1=y.2.2.2.2.2.2.2.1)&&(decide (x.2.2.2.2.2.2.2.2.1=y.2.2.2.2.2.2.2.2.1)&&(decide (x.2.2.2.2.2.2.2.2.2=y.2.2.2.2.2.2.2.2.2)&&true)))))&&true))=decide (x=y):=by
 obtain ⟨x1,x2,x3,x4,x5,x6,x7,x8,x9,xa⟩:=x
 obtain ⟨y1,y2,y3,y4,y5,y6,y7,y8,y9,ya⟩:=y
 simp only [Prod.mk.injEq,Bool.decide_and,Bool.and_true,Bool.and_assoc]
theorem drop_eq {β:Type} {a b:List β} {j:Nat} (ha:j<a.length) (hb:j<b.length):a.drop j=b.drop j↔a[j]=b[j]/\a.drop (j+1)=b.drop (j+1):=by
 rw [List.drop_eq_getElem_cons ha,List.drop_eq_getElem_cons hb,List.cons.injEq]
theorem qh8 (n:Nat) (a b:List Rq) (hl:a.length=b.length) (hL:a.length<=4000000000000000000) : ∀m j:Nat,j<=a.length->a.length - j<m->q5p n m a b (j:Int)=some (if a.drop j=b.drop j then Sum.inr ((),((),())) else Sum.inl ((false,()),((),())))
 | 0,j,_,h=>absurd h (Nat.not_lt_zero _)
 | m+1,j,hj,h=>by
  rw [qgd]
  unfold qik
  by_cases c0:j<a.length
  ·have c0':((j:Nat):Int)<((a.length:Nat):Int):=by omega
   have c1:j<b.length:=by omega
   simp only [c0',decide_true,cond_true,q0o c0,q0o c1,Option.bind_some,jn6,q08,q07 (show j<4611686018427387904 by omega),drop_eq c0 c1]
   by_cases he:a[j]=b[j]
   ·simp only [he,decide_true,Bool.not_true,cond_false,true_and]
    exact qh8 n a b hl hL m (j+1) (by omega) (by omega)
   ·simp only [he,decide_false,Bool.not_false,cond_true,false_and,if_false]
  ·have c0' : ¬ ((j:Nat):Int)<((a.length:Nat):Int):=by omega
   simp only [c0',decide_false,cond_false]
   rw [List.drop_eq_nil_of_le (show a.length<=j by omega),List.drop_eq_nil_of_le (show b.length<=j by omega),if_pos rfl]
theorem qsf (n:Nat) (a b:List Rq) (hl:a.length=b.length) (hL:a.length<=4000000000000000000) : ∀m j:Nat,j<=a.length->a.length - j<m->qam n m a b ((a.length:Nat):Int) (j:Int)=some (if a.drop j=b.drop j then Sum.inr ((),((),())) else Sum.inl ((false,()),((),())))
 | 0,j,_,h=>absurd h (Nat.not_lt_zero _)
 | m+1,j,hj,h=>by
  rw [qmg]
  unfold qzt
  by_cases c0:j<a.length
  ·have c0':((j:Nat):Int)<((a.length:Nat):Int):=by omega
   have c1:j<b.length:=by omega
   simp only [c0',decide_true,cond_true,q0o c0,q0o c1,Option.bind_some,jn6,q08,q07 (show j<4611686018427387904 by omega),drop_eq c0 c1]
   by_cases he:a[j]=b[j]
   ·simp only [he,decide_true,Bool.not_true,cond_false,true_and]
    exact qsf n a b hl hL m (j+1) (by omega) (by omega)
   ·simp only [he,decide_false,Bool.not_false,cond_true,false_and,if_false]
  ·have c0' : ¬ ((j:Nat):Int)<((a.length:Nat):Int):=by omega
   simp only [c0',decide_false,cond_false]
   rw [List.drop_eq_nil_of_le (show a.length<=j by omega),List.drop_eq_nil_of_le (show b.length<=j by omega),if_pos rfl]
theorem ql3 (n:Nat) (a b:List Sw) (hl:a.length=b.length) (hL:a.length<=4000000000000000000) : ∀m j:Nat,j<=a.length->a.length - j<m->q7t n m a b ((a.length:Nat):Int) (j:Int)=some (if a.drop j=b.drop j then Sum.inr ((),((),())) else Sum.inl ((false,()),((),())))
 | 0,j,_,h=>absurd h (Nat.not_lt_zero _)
 | m+1,j,hj,h=>by
  rw [qjq]
  unfold qpk
  by_cases c0:j<a.length
  ·have c0':((j:Nat):Int)<((a.length:Nat):Int):=by omega
   have c1:j<b.length:=by omega
   simp only [c0',decide_true,cond_true,q0o c0,q0o c1,Option.bind_some,jn4,q08,q07 (show j<4611686018427387904 by omega),drop_eq c0 c1]
   by_cases he:a[j]=b[j]
   ·simp only [he,decide_true,Bool.not_true,cond_false,true_and]
    exact ql3 n a b hl hL m (j+1) (by omega) (by omega)
   ·simp only [he,decide_false,Bool.not_false,cond_true,false_and,if_false]
  ·have c0' : ¬ ((j:Nat):Int)<((a.length:Nat):Int):=by omega
   simp only [c0',decide_false,cond_false]
   rw [List.drop_eq_nil_of_le (show a.length<=j by omega),List.drop_eq_nil_of_le (show b.length<=j by omega),if_pos rfl]
theorem qln (n:Nat) (a b:List Sp) (hl:a.length=b.length) (hL:a.length<=4000000000000000000) : ∀m j:Nat,j<=a.length->a.length - j<m->q81 n m a b ((a.length:Nat):Int) (j:Int)=some (if a.drop j=b.drop j then Sum.inr ((),((),())) else Sum.inl ((false,()),((),())))
 | 0,j,_,h=>absurd h (Nat.not_lt_zero _)
 | m+1,j,hj,h=>by
  rw [qk9]
  unfold qqq
  by_cases c0:j<a.length
  ·have c0':((j:Nat):Int)<((a.length:Nat):Int):=by omega
   have c1:j<b.length:=by omega
   simp only [c0',decide_true,cond_true,q0o c0,q0o c1,Option.bind_some,jhr,q08,q07 (show j<4611686018427387904 by omega),drop_eq c0 c1]
   by_cases he:a[j]=b[j]
   ·simp only [he,decide_true,Bool.not_true,cond_false,true_and]
    exact qln n a b hl hL m (j+1) (by omega) (by omega)
   ·simp only [he,decide_false,Bool.not_false,cond_true,false_and,if_false]
  ·have c0' : ¬ ((j:Nat):Int)<((a.length:Nat):Int):=by omega
   simp only [c0',decide_false,cond_false]
   rw [List.drop_eq_nil_of_le (show a.length<=j by omega),List.drop_eq_nil_of_le (show b.length<=j by omega),if_pos rfl]
theorem qe5 (n:Nat) (m1:List UInt8) (g1:List UInt8) (r1:List Rq) (w1:List Sw) (e1:List Rq) (t1:List Sp) (m2:List UInt8) (g2:List UInt8) (r2:List Rq) (w2:List Sw) (e2:List Rq) (t2:List Sp) (hl:w1.length=w2.length) (hL:w1.length<=4000000000000000000) : ∀m j:Nat,j<=w1.length->w1.length - j<m->q5x n m (j:Int) m1 g1 r1 w1 e1 t1 m2 g2 r2 w2 e2 t2=some (if w1.drop j=w2.drop j then Sum.inr ((((),((),())),(((m1,(g1,(r1,(w1,(e1,t1))))),((m2,(g2,(r2,(w2,(e2,t2))))),())),()))) else Sum.inl ((false,()),((),())))
 | 0,j,_,h=>absurd h (Nat.not_lt_zero _)
 | m+1,j,hj,h=>by
  rw [qh1]
  unfold qiz
  by_cases c0:j<w1.length
  ·have c0':((j:Nat):Int)<((w1.length:Nat):Int):=by omega
   have c1:j<w2.length:=by omega
   simp only [c0',decide_true,cond_true,q0o c0,q0o c1,Option.bind_some,jn4,q08,q07 (show j<4611686018427387904 by omega),drop_eq c0 c1]
   by_cases he:w1[j]=w2[j]
   ·simp only [he,decide_true,Bool.not_true,cond_false,true_and]
    exact qe5 n m1 g1 r1 w1 e1 t1 m2 g2 r2 w2 e2 t2 hl hL m (j+1) (by omega) (by omega)
   ·simp only [he,decide_false,Bool.not_false,cond_true,false_and,if_false]
  ·have c0' : ¬ ((j:Nat):Int)<((w1.length:Nat):Int):=by omega
   simp only [c0',decide_false,cond_false]
   rw [List.drop_eq_nil_of_le (show w1.length<=j by omega),List.drop_eq_nil_of_le (show w2.length<=j by omega),if_pos rfl]
theorem qe1 (n:Nat) (m1:List UInt8) (g1:List UInt8) (r1:List Rq) (w1:List Sw) (e1:List Rq) (t1:List Sp) (m2:List UInt8) (g2:List UInt8) (r2:List Rq) (w2:List Sw) (e2:List Rq) (t2:List Sp) (hl:t1.length=t2.length) (hL:t1.length<=4000000000000000000) : ∀m j:Nat,j<=t1.length->t1.length - j<m->q5d n m (j:Int) m1 g1 r1 w1 e1 t1 m2 g2 r2 w2 e2 t2=some (if t1.drop j=t2.drop j then Sum.inr ((),((),())) else Sum.inl ((false,()),((),())))
 | 0,j,_,h=>absurd h (Nat.not_lt_zero _)
 | m+1,j,hj,h=>by
  rw [qhe]
  unfold qkj
  by_cases c0:j<t1.length
  ·have c0':((j:Nat):Int)<((t1.length:Nat):Int):=by omega
   have c1:j<t2.length:=by omega
   simp only [c0',decide_true,cond_true,q0o c0,q0o c1,Option.bind_some,jhr,q08,q07 (show j<4611686018427387904 by omega),drop_eq c0 c1]
   by_cases he:t1[j]=t2[j]
   ·simp only [he,decide_true,Bool.not_true,cond_false,true_and]
    exact qe1 n m1 g1 r1 w1 e1 t1 m2 g2 r2 w2 e2 t2 hl hL m (j+1) (by omega) (by omega)
   ·simp only [he,decide_false,Bool.not_false,cond_true,false_and,if_false]
  ·have c0' : ¬ ((j:Nat):Int)<((t1.length:Nat):Int):=by omega
   simp only [c0',decide_false,cond_false]
   rw [List.drop_eq_nil_of_le (show t1.length<=j by omega),List.drop_eq_nil_of_le (show t2.length<=j by omega),if_pos rfl]
theorem zI:((0:Nat):Int)=(0:Int):=rfl
theorem jpy {β:Type} (a b:List β):decide (((a.length:Nat):Int)=((b.length:Nat):Int))=decide (a.length=b.length):=by
 by_cases h:a.length=b.length
 ·rw [decide_eq_true h,decide_eq_true (by omega)]
 ·rw [decide_eq_false h,decide_eq_false (by omega)]
theorem qls (n:Nat) (a b:List Rq) (h:a.length<=1000000) (hn:1000000<n):qc8 n a b=some (decide (a=b)):=by
 unfold qc8
 by_cases hl:a.length=b.length
 ·have:=qh8 n a b hl (by omega) n 0 (Nat.zero_le _) (by omega)
  rw [zI,List.drop_zero,List.drop_zero] at this
  simp only [jpy,hl,decide_true,Bool.not_true,cond_false,this,Option.bind_some]
  by_cases he:a=b<;>simp [he]
 ·have he:a≠b:=fun h=>hl (by rw [h])
  simp only [jpy,hl,decide_false,Bool.not_false,cond_true,decide_eq_false he]
theorem qwf (n:Nat) (a b:List Rq) (h:a.length<=1000000) (hn:1000000<n):qq2 n a b=some (decide (a=b)):=by
 unfold qq2
 by_cases hl:a.length=b.length
 ·have:=qsf n a b hl (by omega) n 0 (Nat.zero_le _) (by omega)
  rw [zI,List.drop_zero,List.drop_zero] at this
  simp only [jpy,hl,decide_true,Bool.not_true,cond_false]
  rw [hl] at this
  simp only [this,Option.bind_some]
  by_cases he:a=b<;>simp [he]
 ·have he:a≠b:=fun h=>hl (by rw [h])
  simp only [jpy,hl,decide_false,Bool.not_false,cond_true,decide_eq_false he]
theorem ja6 (n:Nat) (a b:List Sw) (h:a.length<=1000000) (hn:1000000<n):qni n a b=some (decide (a=b)):=by
 unfold qni
 by_cases hl:a.length=b.length
 ·have:=ql3 n a b hl (by omega) n 0 (Nat.zero_le _) (by omega)
  rw [zI,List.drop_zero,List.drop_zero] at this
  simp only [jpy,hl,decide_true,Bool.not_true,cond_false]
  rw [hl] at this
  simp only [this,Option.bind_some]
  by_cases he:a=b<;>simp [he]
 ·have he:a≠b:=fun h=>hl (by rw [h])
  simp only [jpy,hl,decide_false,Bool.not_false,cond_true,decide_eq_false he]
theorem j9e (n:Nat) (a b:List Sp) (h:a.length<=1000000) (hn:1000000<n):qnc n a b=some (decide (a=b)):=by
 unfold qnc
 by_cases hl:a.length=b.length
 ·have:=qln n a b hl (by omega) n 0 (Nat.zero_le _) (by omega)
  rw [zI,List.drop_zero,List.drop_zero] at this
  simp only [jpy,hl,decide_true,Bool.not_true,cond_false]
  rw [hl] at this
  simp only [this,Option.bind_some]
  by_cases he:a=b<;>simp [he]
 ·have he:a≠b:=fun h=>hl (by rw [h])
  simp only [jpy,hl,decide_false,Bool.not_false,cond_true,decide_eq_false he]
def ML (k:Nat) (m:MD):Prop:=m.2.2.1.length<=k/\m.2.2.2.1.length<=k/\m.2.2.2.2.1.length<=k/\m.2.2.2.2.2.length<=k
theorem qlf (n:Nat) (x y:MD) (h:ML 1000000 x) (hn:1000000<n):q6f n x y=some (decide (x=y)):=by
 obtain ⟨m1,g1,r1,w1,e1,t1⟩:=x
 obtain ⟨m2,g2,r2,w2,e2,t2⟩:=y
 obtain ⟨h1,h2,h3,h4⟩:=h
 simp only at h1 h2 h3 h4
 unfold q6f
 simp only [qls n r1 r2 h1 hn,qls n e1 e2 h3 hn,Option.bind_some,jpy,Prod.mk.injEq,Bool.decide_and]
 by_cases hm:m1=m2
 ·by_cases hg:g1=g2
  ·by_cases hr:r1=r2
   ·by_cases he:e1=e2
    ·by_cases hlw:w1.length=w2.length
     ·by_cases hlt:t1.length=t2.length
      ·have a1:=qe5 n m1 g1 r1 w1 e1 t1 m2 g2 r2 w2 e2 t2 hlw (by omega) n 0 (Nat.zero_le _) (by omega)
       have a2:=qe1 n m1 g1 r1 w1 e1 t1 m2 g2 r2 w2 e2 t2 hlt (by omega) n 0 (Nat.zero_le _) (by omega)
       rw [zI,List.drop_zero,List.drop_zero] at a1 a2
       simp only [hm,hg,hr,he,hlw,hlt,decide_true,Bool.not_true,cond_false,Bool.true_and]
       rw [hm,hg,hr,he] at a1 a2
       rw [a1]
       by_cases hw:w1=w2
       ·rw [if_pos hw]
        simp only [Option.bind_some,Sum.elim_inr]
        rw [a2]
        by_cases ht:t1=t2<;>simp [hw,ht]
       ·rw [if_neg hw];simp [hw]
      ·have:t1≠t2:=fun h=>hlt (by rw [h])
       simp [hm,hg,hr,he,hlw,hlt,this]
     ·have:w1≠w2:=fun h=>hlw (by rw [h])
      simp [hm,hg,hr,he,hlw,this]
    ·simp [hm,hg,hr,he]
   ·simp [hm,hg,hr]
  ·simp [hm,hg]
 ·simp [hm]
theorem jgl (n:Nat) (x y:MD) (h:ML 1000000 x) (hn:1000000<n):qjf n x y=some (decide (x=y)):=by
 obtain ⟨m1,g1,r1,w1,e1,t1⟩:=x
 obtain ⟨m2,g2,r2,w2,e2,t2⟩:=y
 obtain ⟨h1,h2,h3,h4⟩:=h
 simp only at h1 h2 h3 h4
 unfold qjf
 simp only [qwf n r1 r2 h1 hn,qwf n e1 e2 h3 hn,ja6 n w1 w2 h2 hn,j9e n t1 t2 h4 hn,Option.bind_some,Prod.mk.injEq,Bool.decide_and]
 cases decide (m1=m2)<;>cases decide (g1=g2)<;>cases decide (r1=r2)<;>cases decide (w1=w2)<;>cases decide (e1=e2)<;>rfl
def j0f (q:Rq):Bool:=decide (q.1.length<=200)&&(decide (q.2.2.2.2.1.length<=200)&&decide (q.2.2.2.2.2.length<=200))
theorem leI (a b:Nat):decide (((a:Nat):Int)<=((b:Nat):Int))=decide (a<=b):=by
 by_cases h:a<=b
 ·rw [decide_eq_true h,decide_eq_true (by omega)]
 ·rw [decide_eq_false h,decide_eq_false (by omega)]
theorem qa3 (n:Nat) (q:Rq):q5r n q=some (j0f q):=by
 unfold q5r j0f
 rw [show decide ((((q.1.length:Nat):Int))<=200)=decide (q.1.length<=200) from leI _ 200,show decide ((((q.2.2.2.2.1.length:Nat):Int))<=200)=decide (q.2.2.2.2.1.length<=200) from leI _ 200,show decide ((((q.2.2.2.2.2.length:Nat):Int))<=200)=decide (q.2.2.2.2.2.length<=200) from leI _ 200]
 cases decide (q.1.length<=200)<;>cases decide (q.2.2.2.2.1.length<=200)<;>rfl
def smW (x:Sw):Bool:=decide (x.1.length+x.2.length<=400)
def smT (x:Sp):Bool:=j0f ([],qfz x)&&j0f ([],q4v x)
theorem sumI (a b k:Nat) (ha:a<=140737488355328) (hb:b<=140737488355328):decide (((k:Nat):Int)<IntKind.wrap .i64 (((a:Nat):Int)+((b:Nat):Int))) = !decide (a+b<=k):=by
 rw [wrap64 (by omega) (by omega)]
 by_cases h:a+b<=k
 ·rw [decide_eq_true h,decide_eq_false (by omega)];rfl
 ·rw [decide_eq_false h,decide_eq_true (by omega)];rfl
theorem qle (n:Nat) (m1 g1:List UInt8) (r1:List Rq) (w1:List Sw) (e1:List Rq) (t1:List Sp) (hL:r1.length<=4000000000000000000) : ∀m j:Nat,j<=r1.length->r1.length - j<m->q4f n m (j:Int) m1 g1 r1 w1 e1 t1=some (if (r1.drop j).all j0f=true then Sum.inr ((((),()),(((m1,(g1,(r1,(w1,(e1,t1))))),()),()))) else Sum.inl ((false,()),((),())))
 | 0,j,_,h=>absurd h (Nat.not_lt_zero _)
 | m+1,j,hj,h=>by
  rw [qf6]
  unfold qf0
  by_cases c0:j<r1.length
  ·have c0':((j:Nat):Int)<((r1.length:Nat):Int):=by omega
   have ih:=qle n m1 g1 r1 w1 e1 t1 hL m (j+1) (by omega) (by omega)
   rw [List.drop_eq_getElem_cons c0,List.all_cons]
   simp only [c0',decide_true,cond_true,q0o c0,Option.bind_some,q08,q07 (show j<4611686018427387904 by omega),qa3]
   cases j0f r1[j] with
   | false=>rfl
   | true =>
    simp only [Bool.not_true,cond_false,Bool.true_and]
    exact ih
  ·have c0' : ¬ ((j:Nat):Int)<((r1.length:Nat):Int):=by omega
   simp only [c0',decide_false,cond_false]
   rw [List.drop_eq_nil_of_le (show r1.length<=j by omega)]
   rfl
theorem qly (n:Nat) (m1 g1:List UInt8) (r1:List Rq) (w1:List Sw) (e1:List Rq) (t1:List Sp) (hL:e1.length<=4000000000000000000) : ∀m j:Nat,j<=e1.length->e1.length - j<m->q4i n m (j:Int) m1 g1 r1 w1 e1 t1=some (if (e1.drop j).all j0f=true then Sum.inr ((((),()),(((m1,(g1,(r1,(w1,(e1,t1))))),()),()))) else Sum.inl ((false,()),((),())))
 | 0,j,_,h=>absurd h (Nat.not_lt_zero _)
 | m+1,j,hj,h=>by
  rw [qez]
  unfold qf4
  by_cases c0:j<e1.length
  ·have c0':((j:Nat):Int)<((e1.length:Nat):Int):=by omega
   have ih:=qly n m1 g1 r1 w1 e1 t1 hL m (j+1) (by omega) (by omega)
   rw [List.drop_eq_getElem_cons c0,List.all_cons]
   simp only [c0',decide_true,cond_true,q0o c0,Option.bind_some,q08,q07 (show j<4611686018427387904 by omega),qa3]
   cases j0f e1[j] with
   | false=>rfl
   | true =>
    simp only [Bool.not_true,cond_false,Bool.true_and]
    exact ih
  ·have c0' : ¬ ((j:Nat):Int)<((e1.length:Nat):Int):=by omega
   simp only [c0',decide_false,cond_false]
   rw [List.drop_eq_nil_of_le (show e1.length<=j by omega)]
   rfl
theorem qm3 (n:Nat) (m1 g1:List UInt8) (r1:List Rq) (w1:List Sw) (e1:List Rq) (t1:List Sp) (hL:w1.length<=4000000000000000000) (hW : ∀x∈w1,x.1.length<=140737488355328/\x.2.length<=140737488355328) : ∀m j:Nat,j<=w1.length->w1.length - j<m->q4j n m (j:Int) m1 g1 r1 w1 e1 t1=some (if (w1.drop j).all smW=true then Sum.inr ((((),()),(((m1,(g1,(r1,(w1,(e1,t1))))),()),()))) else Sum.inl ((false,()),((),())))
 | 0,j,_,h=>absurd h (Nat.not_lt_zero _)
 | m+1,j,hj,h=>by
  rw [qf1]
  unfold qf2
  by_cases c0:j<w1.length
  ·have c0':((j:Nat):Int)<((w1.length:Nat):Int):=by omega
   have ih:=qm3 n m1 g1 r1 w1 e1 t1 hL hW m (j+1) (by omega) (by omega)
   rw [List.drop_eq_getElem_cons c0,List.all_cons]
   have hx:=hW w1[j] (List.getElem_mem c0)
   have hs:=sumI w1[j].1.length w1[j].2.length 400 hx.1 hx.2
   rw [show ((400:Nat):Int)=(400:Int) from rfl] at hs
   rw [show decide (w1[j].1.length+w1[j].2.length<=400)=smW w1[j] from rfl] at hs
   simp only [c0',decide_true,cond_true,q0o c0,Option.bind_some,q08,q07 (show j<4611686018427387904 by omega),hs]
   cases smW w1[j] with
   | false=>rfl
   | true =>
    simp only [Bool.not_true,cond_false,Bool.true_and]
    exact ih
  ·have c0' : ¬ ((j:Nat):Int)<((w1.length:Nat):Int):=by omega
   simp only [c0',decide_false,cond_false]
   rw [List.drop_eq_nil_of_le (show w1.length<=j by omega)]
   rfl
theorem qm8 (n:Nat) (m1 g1:List UInt8) (r1:List Rq) (w1:List Sw) (e1:List Rq) (t1:List Sp) (hL:t1.length<=4000000000000000000) : ∀m j:Nat,j<=t1.length->t1.length - j<m->q4e n m (j:Int) m1 g1 r1 w1 e1 t1=some (if (t1.drop j).all smT=true then Sum.inr ((),((),())) else Sum.inl ((false,()),((),())))
 | 0,j,_,h=>absurd h (Nat.not_lt_zero _)
 | m+1,j,hj,h=>by
  rw [qey]
  unfold qfc
  by_cases c0:j<t1.length
  ·have c0':((j:Nat):Int)<((t1.length:Nat):Int):=by omega
   have ih:=qm8 n m1 g1 r1 w1 e1 t1 hL m (j+1) (by omega) (by omega)
   rw [List.drop_eq_getElem_cons c0,List.all_cons]
   have f1:q5r n (([]:List UInt8),(t1[j].1,(t1[j].2.1,(t1[j].2.2.1,(t1[j].2.2.2.1,t1[j].2.2.2.2.1)))))=some (j0f ([],qfz t1[j])):=qa3 n ([],qfz t1[j])
   have f2:q5r n (([]:List UInt8),t1[j].2.2.2.2.2)=some (j0f ([],q4v t1[j])):=qa3 n ([],q4v t1[j])
   simp only [c0',decide_true,cond_true,q0o c0,Option.bind_some,q08,q07 (show j<4611686018427387904 by omega),f1,f2]
   unfold smT;cases j0f ([],qfz t1[j]) with
   | false=>rfl
   | true =>
    cases j0f ([],q4v t1[j]) with
    | false=>rfl
    | true =>
     simp only [Bool.not_true,cond_false,Bool.true_and]
     exact ih
  ·have c0' : ¬ ((j:Nat):Int)<((t1.length:Nat):Int):=by omega
   simp only [c0',decide_false,cond_false]
   rw [List.drop_eq_nil_of_le (show t1.length<=j by omega)]
   rfl
def j5n (m:MD):Bool:=decide (m.1.length+m.2.1.length<=400)&&(decide (m.2.2.1.length<=30)&&(decide (m.2.2.2.1.length<=30)&&(decide (m.2.2.2.2.1.length<=30)&&(decide (m.2.2.2.2.2.length<=30)&&(m.2.2.1.all j0f&&(m.2.2.2.2.1.all j0f&&(m.2.2.2.1.all smW&&m.2.2.2.2.2.all smT)))))))
theorem gtI {β:Type} (a:List β) (k:Nat):decide (((k:Nat):Int)<((a.length:Nat):Int)) = !decide (a.length<=k):=by
 by_cases h:a.length<=k
 ·rw [decide_eq_true h,decide_eq_false (by omega)];rfl
 ·rw [decide_eq_false h,decide_eq_true (by omega)];rfl
theorem qz1 (n:Nat) (m:MD) (h1:m.1.length<=140737488355328) (h2:m.2.1.length<=140737488355328) (hW : ∀x∈m.2.2.2.1,x.1.length<=140737488355328/\x.2.length<=140737488355328) (hn:1000<n):qdj n m=some (j5n m):=by
 obtain ⟨m1,g1,r1,w1,e1,t1⟩:=m
 simp only at h1 h2 hW
 unfold qdj j5n
 have s1:=sumI m1.length g1.length 400 h1 h2
 rw [show ((400:Nat):Int)=(400:Int) from rfl] at s1
 have g1':=gtI r1 30
 have g2':=gtI w1 30
 have g3':=gtI e1 30
 have g4':=gtI t1 30
 rw [show ((30:Nat):Int)=(30:Int) from rfl] at g1' g2' g3' g4'
 simp only [q08,s1,g1',g2',g3',g4']
 by_cases a0:m1.length+g1.length<=400
 ·by_cases a1:r1.length<=30
  ·by_cases a2:w1.length<=30
   ·by_cases a3:e1.length<=30
    ·by_cases a4:t1.length<=30
     ·have l0:=qle n m1 g1 r1 w1 e1 t1 (by omega) n 0 (Nat.zero_le _) (by omega)
      have l1:=qly n m1 g1 r1 w1 e1 t1 (by omega) n 0 (Nat.zero_le _) (by omega)
      have l2:=qm3 n m1 g1 r1 w1 e1 t1 (by omega) hW n 0 (Nat.zero_le _) (by omega)
      have l3:=qm8 n m1 g1 r1 w1 e1 t1 (by omega) n 0 (Nat.zero_le _) (by omega)
      rw [zI,List.drop_zero] at l0 l1 l2 l3
      simp only [a0,a1,a2,a3,a4,decide_true,Bool.not_true,cond_false,Bool.true_and,l0]
      cases r1.all j0f with
      | false=>rfl
      | true =>
       simp only [if_true,Option.bind_some,Sum.elim_inr,l1,Bool.true_and]
       cases e1.all j0f with
       | false=>rfl
       | true =>
        simp only [if_true,Option.bind_some,Sum.elim_inr,l2,Bool.true_and]
        cases w1.all smW with
        | false=>rfl
        | true =>
         simp only [if_true,Option.bind_some,Sum.elim_inr,l3,Bool.true_and]
         cases t1.all smT<;>rfl
     ·simp [a0,a1,a2,a3,a4]
    ·simp [a0,a1,a2,a3]
   ·simp [a0,a1,a2]
  ·simp [a0,a1]
 ·simp [a0]
theorem qi1 (n:Nat) (m1 g1:List UInt8) (r1:List Rq) (w1:List Sw) (e1:List Rq) (t1:List Sp) (b1 b2 m2 g2:List UInt8) (r2 e2:List Rq) (hL:w1.length<=1000000) : ∀(m j:Nat) (out:List Sw),j<=w1.length->w1.length - j<m->out.length=j->q7m n m (j:Int) m1 g1 r1 w1 e1 t1 b1 b2 m2 g2 r2 e2 out=some ((((),((),((),()))),(((m1,(g1,(r1,(w1,(e1,t1))))),((b1,(b2,((),((),((),()))))),((m2,(g2,(r2,((),(e2,()))))),()))),(out++w1.drop j,()))))
 | 0,j,_,_,h,_=>absurd h (Nat.not_lt_zero _)
 | m+1,j,out,hj,h,ho=>by
  rw [qio]
  unfold qt4
  by_cases c0:j<w1.length
  ·have c0':((j:Nat):Int)<((w1.length:Nat):Int):=by omega
   have a1:q3e 32 out [w1[j]]=some (out ++ [w1[j]]):=q37 (by simp;omega)
   simp only [c0',decide_true,cond_true,q0o c0,Option.bind_some,a1,q08,q07 (show j<4611686018427387904 by omega)]
   rw [qi1 n m1 g1 r1 w1 e1 t1 b1 b2 m2 g2 r2 e2 hL m (j+1) _ (by omega) (by omega) (by simp;omega),List.drop_eq_getElem_cons c0]
   simp only [List.append_assoc,List.singleton_append]
  ·have c0' : ¬ ((j:Nat):Int)<((w1.length:Nat):Int):=by omega
   simp only [c0',decide_false,cond_false]
   rw [List.drop_eq_nil_of_le (show w1.length<=j by omega),List.append_nil]
theorem qhz (n:Nat) (m1 g1:List UInt8) (r1:List Rq) (w1:List Sw) (e1:List Rq) (t1:List Sp) (b1 b2 m2 g2:List UInt8) (r2 e2:List Rq) (ws:List Sw) (hL:t1.length<=1000000) : ∀(m j:Nat) (out:List Sp),j<=t1.length->t1.length - j<m->out.length=j->q83 n m (j:Int) m1 g1 r1 w1 e1 t1 b1 b2 m2 g2 r2 e2 ws out=some ((((),((),())),(((b1,(b2,((),((),((),()))))),((m2,(g2,(r2,((),(e2,()))))),())),(ws,(out++t1.drop j,())))))
 | 0,j,_,_,h,_=>absurd h (Nat.not_lt_zero _)
 | m+1,j,out,hj,h,ho=>by
  rw [qjy]
  unfold qo9
  by_cases c0:j<t1.length
  ·have c0':((j:Nat):Int)<((t1.length:Nat):Int):=by omega
   have a1:q3e 112 out [t1[j]]=some (out ++ [t1[j]]):=q37 (by simp;omega)
   simp only [c0',decide_true,cond_true,q0o c0,Option.bind_some,a1,q08,q07 (show j<4611686018427387904 by omega)]
   rw [qhz n m1 g1 r1 w1 e1 t1 b1 b2 m2 g2 r2 e2 ws hL m (j+1) _ (by omega) (by omega) (by simp;omega),List.drop_eq_getElem_cons c0]
   simp only [List.append_assoc,List.singleton_append]
  ·have c0' : ¬ ((j:Nat):Int)<((t1.length:Nat):Int):=by omega
   simp only [c0',decide_false,cond_false]
   rw [List.drop_eq_nil_of_le (show t1.length<=j by omega),List.append_nil]
theorem j86 (n:Nat) (m:MD) (h:ML 1000000 m) (hn:1000000<n):qn0 n m=some m:=by
 obtain ⟨m1,g1,r1,w1,e1,t1⟩:=m
 obtain ⟨h1,h2,h3,h4⟩:=h
 simp only at h1 h2 h3 h4
 unfold qn0
 have l0:=qi1 n m1 g1 r1 w1 e1 t1 [] [] m1 g1 r1 e1 h2 n 0 [] (Nat.zero_le _) (by omega) rfl
 have l1:=qhz n m1 g1 r1 w1 e1 t1 [] [] m1 g1 r1 e1 w1 h4 n 0 [] (Nat.zero_le _) (by omega) rfl
 rw [zI,List.drop_zero,List.nil_append] at l0 l1
 simp only [l0,l1,Option.bind_some]
theorem qeb (n:Nat) (m1 g1:List UInt8) (r1:List Rq) (w1:List Sw) (e1:List Rq) (t1:List Sp) (b1 b2 m2 g2:List UInt8) (r2 e2:List Rq) (hL:w1.length<=1000000) : ∀(m j:Nat) (out:List Sw),j<=w1.length->w1.length - j<m->out.length=j->q5h n m (j:Int) m1 g1 r1 w1 e1 t1 b1 b2 m2 g2 r2 e2 out=some ((((),((),((),()))),(((m1,(g1,(r1,(w1,(e1,t1))))),((b1,(b2,((),((),((),()))))),((m2,(g2,(r2,((),(e2,()))))),()))),(out++w1.drop j,()))))
 | 0,j,_,_,h,_=>absurd h (Nat.not_lt_zero _)
 | m+1,j,out,hj,h,ho=>by
  rw [qft]
  unfold qk1
  by_cases c0:j<w1.length
  ·have c0':((j:Nat):Int)<((w1.length:Nat):Int):=by omega
   have a1:q3e 32 out [w1[j]]=some (out ++ [w1[j]]):=q37 (by simp;omega)
   simp only [c0',decide_true,cond_true,q0o c0,Option.bind_some,a1,q08,q07 (show j<4611686018427387904 by omega)]
   rw [qeb n m1 g1 r1 w1 e1 t1 b1 b2 m2 g2 r2 e2 hL m (j+1) _ (by omega) (by omega) (by simp;omega),List.drop_eq_getElem_cons c0]
   simp only [List.append_assoc,List.singleton_append]
  ·have c0' : ¬ ((j:Nat):Int)<((w1.length:Nat):Int):=by omega
   simp only [c0',decide_false,cond_false]
   rw [List.drop_eq_nil_of_le (show w1.length<=j by omega),List.append_nil]
theorem qdz (n:Nat) (m1 g1:List UInt8) (r1:List Rq) (w1:List Sw) (e1:List Rq) (t1:List Sp) (b1 b2 m2 g2:List UInt8) (r2 e2:List Rq) (ws:List Sw) (hL:t1.length<=1000000) : ∀(m j:Nat) (out:List Sp),j<=t1.length->t1.length - j<m->out.length=j->q5o n m (j:Int) m1 g1 r1 w1 e1 t1 b1 b2 m2 g2 r2 e2 ws out=some ((((),((),())),(((b1,(b2,((),((),((),()))))),((m2,(g2,(r2,((),(e2,()))))),())),(ws,(out++t1.drop j,())))))
 | 0,j,_,_,h,_=>absurd h (Nat.not_lt_zero _)
 | m+1,j,out,hj,h,ho=>by
  rw [qgc]
  unfold qii
  by_cases c0:j<t1.length
  ·have c0':((j:Nat):Int)<((t1.length:Nat):Int):=by omega
   have a1:q3e 112 out [t1[j]]=some (out ++ [t1[j]]):=q37 (by simp;omega)
   simp only [c0',decide_true,cond_true,q0o c0,Option.bind_some,a1,q08,q07 (show j<4611686018427387904 by omega)]
   rw [qdz n m1 g1 r1 w1 e1 t1 b1 b2 m2 g2 r2 e2 ws hL m (j+1) _ (by omega) (by omega) (by simp;omega),List.drop_eq_getElem_cons c0]
   simp only [List.append_assoc,List.singleton_append]
  ·have c0' : ¬ ((j:Nat):Int)<((t1.length:Nat):Int):=by omega
   simp only [c0',decide_false,cond_false]
   rw [List.drop_eq_nil_of_le (show t1.length<=j by omega),List.append_nil]
theorem qlq (n:Nat) (m:MD) (h:ML 1000000 m) (hn:1000000<n):q36 n m=some m:=by
 obtain ⟨m1,g1,r1,w1,e1,t1⟩:=m
 obtain ⟨h1,h2,h3,h4⟩:=h
 simp only at h1 h2 h3 h4
 unfold q36
 have l0:=qeb n m1 g1 r1 w1 e1 t1 [] [] m1 g1 r1 e1 h2 n 0 [] (Nat.zero_le _) (by omega) rfl
 have l1:=qdz n m1 g1 r1 w1 e1 t1 [] [] m1 g1 r1 e1 w1 h4 n 0 [] (Nat.zero_le _) (by omega) rfl
 rw [zI,List.drop_zero,List.nil_append] at l0 l1
 simp only [l0,l1,Option.bind_some]
end Go.Proofs.YtapfankgdkdkgaaGreatDoor.AM
