
import Derived.Test.YtapfankgdkdkgaaGreatDoorMn13
import Derived.Test.YtapfankgdkdkgaaGreatDoorMn14
import Derived.Test.YtapfankgdkdkgaaGreatDoorMn20
import Derived.Test.YtapfankgdkdkgaaGreatDoorMn21
import Derived.Test.YtapfankgdkdkgaaGreatDoorMn23
namespace Go.Proofs.YtapfankgdkdkgaaGreatDoor.AM
open Go.RowKit
set_option linter.unusedVariables false
set_option linter.unusedSimpArgs false
end Go.Proofs.YtapfankgdkdkgaaGreatDoor.AM
namespace Go.Proofs.YtapfankgdkdkgaaGreatDoor.AM
open Go.RowKit
set_option linter.unusedVariables false
set_option linter.unusedSimpArgs false
end Go.Proofs.YtapfankgdkdkgaaGreatDoor.AM
namespace Go.Proofs.YtapfankgdkdkgaaGreatDoor.AM
open Go.RowKit
set_option linter.unusedVariables false
set_option linter.unusedSimpArgs false
end Go.Proofs.YtapfankgdkdkgaaGreatDoor.AM
namespace Go.Proofs.YtapfankgdkdkgaaGreatDoor.AM
open Go.RowKit
set_option linter.unusedVariables false
set_option linter.unusedSimpArgs false
end Go.Proofs.YtapfankgdkdkgaaGreatDoor.AM
namespace Go.Proofs.YtapfankgdkdkgaaGreatDoor.AM
open Go.RowKit
set_option linter.unusedVariables false
set_option linter.unusedSimpArgs false
end Go.Proofs.YtapfankgdkdkgaaGreatDoor.AM
namespace Go.Proofs.YtapfankgdkdkgaaGreatDoor.AM
open Go.RowKit
set_option linter.unusedVariables false
set_option linter.unusedSimpArgs false
set_option synthInstance.maxSize 100000
set_option synthInstance.maxHeartbeats 0
theorem jp2 (x y:VD):(decide (x.1=y.1)&&(decide (x.2.1=y.2.1)&&(decide (x.2.2.1=y.2.2.1)&&(decide (x.2.2.2.1=y.2.2.2.1)&&(decide (x.2.2.2.2=y.2.2.2.2)&&true)))))=decide (x=y):=by
 obtain ⟨x1,x2,x3,x4,x5⟩:=x
 obtain ⟨y1,y2,y3,y4,y5⟩:=y
 simp only [Prod.mk.injEq,Bool.decide_and,Bool.and_true]
theorem jnd (x y:Rq):(decide (x.1=y.1)&&((decide (x.2.1=y.2.1)&&(decide (x.2.2.1=y.2.2.1)&&(decide (x.2.2.2.1=y.2.2.2.1)&&(decide (x.2.2.2.2.1=y.2.2.2.2.1)&&(decide (x.2.2.2.2.2=y.2.2.2.2.2)&&true)))))&&true))=decide (x=y):=by
 rw [jp2]
 obtain ⟨x1,x2⟩:=x
 obtain ⟨y1,y2⟩:=y
 simp only [Prod.mk.injEq,Bool.decide_and,Bool.and_true]
theorem joc (x y:Sw):(decide (x.1=y.1)&&(decide (x.2=y.2)&&true))=decide (x=y):=by
 obtain ⟨x1,x2⟩:=x
 obtain ⟨y1,y2⟩:=y
 simp only [Prod.mk.injEq,Bool.decide_and,Bool.and_true]
theorem jo2 (x y:Sp):((decide (x.1=y.1)&&(decide (x.2.1=y.2.1)&&(decide (x.2.2.1=y.2.2.1)&&(decide (x.2.2.2.1=y.2.2.2.1)&&(decide (x.2.2.2.2.1=y.2.2.2.2.1)&&true)))))&&((decide (x.2.2.2.2.2.1=y.2.2.2.2.2.1)&&(decide (x.2.2.2.2.2.2.1=y.2.2.2.2.2.2.1)&&(decide (x.2.2.2.2.2.2.2.1=y.2.2.2.2.2.2.2.1)&&(decide (x.2.2.2.2.2.2.2.2.1=y.2.2.2.2.2.2.2.2.1)&&(decide (x.2.2.2.2.2.2.2.2.2=y.2.2.2.2.2.2.2.2.2)&&true)))))&&true))=decide (x=y):=by
 obtain ⟨x1,x2,x3,x4,x5,x6,x7,x8,x9,xa⟩:=x
 obtain ⟨y1,y2,y3,y4,y5,y6,y7,y8,y9,ya⟩:=y
 simp only [Prod.mk.injEq,Bool.decide_and,Bool.and_true,Bool.and_assoc]
theorem drop_eq {β:Type} {a b:List β} {j:Nat} (ha:j<a.length) (hb:j<b.length):a.drop j=b.drop j↔a[j]=b[j]/\a.drop (j+1)=b.drop (j+1):=by
 rw [List.drop_eq_getElem_cons ha,List.drop_eq_getElem_cons hb,List.cons.injEq]
theorem qfe (n:Nat) (a b:List Rq) (hl:a.length=b.length) (hL:a.length<=4000000000000000000) : ∀m j:Nat,j<=a.length->a.length - j<m->q4k n m a b (j:Int)=some (if a.drop j=b.drop j then Sum.inr ((),((),())) else Sum.inl ((false,()),((),())))
 | 0,j,_,h=>absurd h (Nat.not_lt_zero _)
 | m+1,j,hj,h=>by
  rw [qda]
  unfold qh2
  by_cases c0:j<a.length
  ·have c0':((j:Nat):Int)<((a.length:Nat):Int):=by omega
   have c1:j<b.length:=by omega
   simp only [c0',decide_true,cond_true,q1l c0,q1l c1,Option.bind_some,jnd,q0b,q0g (show j<4611686018427387904 by omega),drop_eq c0 c1]
   by_cases he:a[j]=b[j]
   ·simp only [he,decide_true,Bool.not_true,cond_false,true_and]
    exact qfe n a b hl hL m (j+1) (by omega) (by omega)
   ·simp only [he,decide_false,Bool.not_false,cond_true,false_and,if_false]
  ·have c0' : ¬ ((j:Nat):Int)<((a.length:Nat):Int):=by omega
   simp only [c0',decide_false,cond_false]
   rw [List.drop_eq_nil_of_le (show a.length<=j by omega),List.drop_eq_nil_of_le (show b.length<=j by omega),if_pos rfl]
theorem qbw (n:Nat) (m1:List UInt8) (g1:List UInt8) (r1:List Rq) (w1:List Sw) (e1:List Rq) (t1:List Sp) (m2:List UInt8) (g2:List UInt8) (r2:List Rq) (w2:List Sw) (e2:List Rq) (t2:List Sp) (hl:w1.length=w2.length) (hL:w1.length<=4000000000000000000) : ∀m j:Nat,j<=w1.length->w1.length - j<m->q4l n m (j:Int) m1 g1 r1 w1 e1 t1 m2 g2 r2 w2 e2 t2=some (if w1.drop j=w2.drop j then Sum.inr ((((),((),())),(((m1,(g1,(r1,(w1,(e1,t1))))),((m2,(g2,(r2,(w2,(e2,t2))))),())),()))) else Sum.inl ((false,()),((),())))
 | 0,j,_,h=>absurd h (Nat.not_lt_zero _)
 | m+1,j,hj,h=>by
  rw [qet]
  unfold qgs
  by_cases c0:j<w1.length
  ·have c0':((j:Nat):Int)<((w1.length:Nat):Int):=by omega
   have c1:j<w2.length:=by omega
   simp only [c0',decide_true,cond_true,q1l c0,q1l c1,Option.bind_some,joc,q0b,q0g (show j<4611686018427387904 by omega),drop_eq c0 c1]
   by_cases he:w1[j]=w2[j]
   ·simp only [he,decide_true,Bool.not_true,cond_false,true_and]
    exact qbw n m1 g1 r1 w1 e1 t1 m2 g2 r2 w2 e2 t2 hl hL m (j+1) (by omega) (by omega)
   ·simp only [he,decide_false,Bool.not_false,cond_true,false_and,if_false]
  ·have c0' : ¬ ((j:Nat):Int)<((w1.length:Nat):Int):=by omega
   simp only [c0',decide_false,cond_false]
   rw [List.drop_eq_nil_of_le (show w1.length<=j by omega),List.drop_eq_nil_of_le (show w2.length<=j by omega),if_pos rfl]
theorem qc0 (n:Nat) (m1:List UInt8) (g1:List UInt8) (r1:List Rq) (w1:List Sw) (e1:List Rq) (t1:List Sp) (m2:List UInt8) (g2:List UInt8) (r2:List Rq) (w2:List Sw) (e2:List Rq) (t2:List Sp) (hl:t1.length=t2.length) (hL:t1.length<=4000000000000000000) : ∀m j:Nat,j<=t1.length->t1.length - j<m->q4w n m (j:Int) m1 g1 r1 w1 e1 t1 m2 g2 r2 w2 e2 t2=some (if t1.drop j=t2.drop j then Sum.inr ((),((),())) else Sum.inl ((false,()),((),())))
 | 0,j,_,h=>absurd h (Nat.not_lt_zero _)
 | m+1,j,hj,h=>by
  rw [qdc]
  unfold qhh
  by_cases c0:j<t1.length
  ·have c0':((j:Nat):Int)<((t1.length:Nat):Int):=by omega
   have c1:j<t2.length:=by omega
   simp only [c0',decide_true,cond_true,q1l c0,q1l c1,Option.bind_some,jo2,q0b,q0g (show j<4611686018427387904 by omega),drop_eq c0 c1]
   by_cases he:t1[j]=t2[j]
   ·simp only [he,decide_true,Bool.not_true,cond_false,true_and]
    exact qc0 n m1 g1 r1 w1 e1 t1 m2 g2 r2 w2 e2 t2 hl hL m (j+1) (by omega) (by omega)
   ·simp only [he,decide_false,Bool.not_false,cond_true,false_and,if_false]
  ·have c0' : ¬ ((j:Nat):Int)<((t1.length:Nat):Int):=by omega
   simp only [c0',decide_false,cond_false]
   rw [List.drop_eq_nil_of_le (show t1.length<=j by omega),List.drop_eq_nil_of_le (show t2.length<=j by omega),if_pos rfl]
theorem zI:((0:Nat):Int)=(0:Int):=rfl
theorem lenI {β:Type} (a b:List β):decide (((a.length:Nat):Int)=((b.length:Nat):Int))=decide (a.length=b.length):=by
 by_cases h:a.length=b.length
 ·rw [decide_eq_true h,decide_eq_true (by omega)]
 ·rw [decide_eq_false h,decide_eq_false (by omega)]
theorem qim (n:Nat) (a b:List Rq) (h:a.length<=1000000) (hn:1000000<n):q9r n a b=some (decide (a=b)):=by
 unfold q9r
 by_cases hl:a.length=b.length
 ·have:=qfe n a b hl (by omega) n 0 (Nat.zero_le _) (by omega)
  rw [zI,List.drop_zero,List.drop_zero] at this
  simp only [lenI,hl,decide_true,Bool.not_true,cond_false,this,Option.bind_some]
  by_cases he:a=b<;>simp [he]
 ·have he:a≠b:=fun h=>hl (by rw [h])
  simp only [lenI,hl,decide_false,Bool.not_false,cond_true,decide_eq_false he]
def ML (k:Nat) (m:MD):Prop:=m.2.2.1.length<=k/\m.2.2.2.1.length<=k/\m.2.2.2.2.1.length<=k/\m.2.2.2.2.2.length<=k
theorem qhu (n:Nat) (x y:MD) (h:ML 1000000 x) (hn:1000000<n):q9u n x y=some (decide (x=y)):=by
 obtain ⟨m1,g1,r1,w1,e1,t1⟩:=x
 obtain ⟨m2,g2,r2,w2,e2,t2⟩:=y
 obtain ⟨h1,h2,h3,h4⟩:=h
 simp only at h1 h2 h3 h4
 unfold q9u
 simp only [qim n r1 r2 h1 hn,qim n e1 e2 h3 hn,Option.bind_some,lenI,Prod.mk.injEq,Bool.decide_and]
 by_cases hm:m1=m2
 ·by_cases hg:g1=g2
  ·by_cases hr:r1=r2
   ·by_cases he:e1=e2
    ·by_cases hlw:w1.length=w2.length
     ·by_cases hlt:t1.length=t2.length
      ·have a1:=qbw n m1 g1 r1 w1 e1 t1 m2 g2 r2 w2 e2 t2 hlw (by omega) n 0 (Nat.zero_le _) (by omega)
       have a2:=qc0 n m1 g1 r1 w1 e1 t1 m2 g2 r2 w2 e2 t2 hlt (by omega) n 0 (Nat.zero_le _) (by omega)
       rw [zI,List.drop_zero,List.drop_zero] at a1 a2
       simp only [hm,hg,hr,he,hlw,hlt,decide_true,Bool.not_true,cond_false,Bool.true_and]
       rw [hm,hg,hr,he] at a1 a2
       rw [a1]
       by_cases hw:w1=w2
       ·rw [if_pos hw]
        simp only [Option.bind_some,Sum.elim_inr]
        rw [a2]
        by_cases ht:t1=t2<;>simp [hw,ht]
       ·rw [if_neg hw];simp [hw]
      ·have:t1≠t2:=fun h=>hlt (by rw [h])
       simp [hm,hg,hr,he,hlw,hlt,this]
     ·have:w1≠w2:=fun h=>hlw (by rw [h])
      simp [hm,hg,hr,he,hlw,this]
    ·simp [hm,hg,hr,he]
   ·simp [hm,hg,hr]
  ·simp [hm,hg]
 ·simp [hm]
theorem gtI {β:Type} (a:List β) (k:Nat):decide (((k:Nat):Int)<((a.length:Nat):Int)) = !decide (a.length<=k):=by
 by_cases h:a.length<=k
 ·rw [decide_eq_true h,decide_eq_false (by omega)];rfl
 ·rw [decide_eq_false h,decide_eq_true (by omega)];rfl
theorem qbz (n:Nat) (m1 g1:List UInt8) (r1:List Rq) (w1:List Sw) (e1:List Rq) (t1:List Sp) (b1 b2 m2 g2:List UInt8) (r2 e2:List Rq) (hL:w1.length<=1000000) : ∀(m j:Nat) (out:List Sw),j<=w1.length->w1.length - j<m->out.length=j->q4t n m (j:Int) m1 g1 r1 w1 e1 t1 b1 b2 m2 g2 r2 e2 out=some ((((),((),((),()))),(((m1,(g1,(r1,(w1,(e1,t1))))),((b1,(b2,((),((),((),()))))),((m2,(g2,(r2,((),(e2,()))))),()))),(out++w1.drop j,()))))
 | 0,j,_,_,h,_=>absurd h (Nat.not_lt_zero _)
 | m+1,j,out,hj,h,ho=>by
  rw [qfi]
  unfold qg8
  by_cases c0:j<w1.length
  ·have c0':((j:Nat):Int)<((w1.length:Nat):Int):=by omega
   have a1:q35 32 out [w1[j]]=some (out ++ [w1[j]]):=q5b (by simp;omega)
   simp only [c0',decide_true,cond_true,q1l c0,Option.bind_some,a1,q0b,q0g (show j<4611686018427387904 by omega)]
   rw [qbz n m1 g1 r1 w1 e1 t1 b1 b2 m2 g2 r2 e2 hL m (j+1) _ (by omega) (by omega) (by simp;omega),List.drop_eq_getElem_cons c0]
   simp only [List.append_assoc,List.singleton_append]
  ·have c0' : ¬ ((j:Nat):Int)<((w1.length:Nat):Int):=by omega
   simp only [c0',decide_false,cond_false]
   rw [List.drop_eq_nil_of_le (show w1.length<=j by omega),List.append_nil]
theorem qbx (n:Nat) (m1 g1:List UInt8) (r1:List Rq) (w1:List Sw) (e1:List Rq) (t1:List Sp) (b1 b2 m2 g2:List UInt8) (r2 e2:List Rq) (ws:List Sw) (hL:t1.length<=1000000) : ∀(m j:Nat) (out:List Sp),j<=t1.length->t1.length - j<m->out.length=j->q4r n m (j:Int) m1 g1 r1 w1 e1 t1 b1 b2 m2 g2 r2 e2 ws out=some ((((),((),())),(((b1,(b2,((),((),((),()))))),((m2,(g2,(r2,((),(e2,()))))),())),(ws,(out++t1.drop j,())))))
 | 0,j,_,_,h,_=>absurd h (Nat.not_lt_zero _)
 | m+1,j,out,hj,h,ho=>by
  rw [qdn]
  unfold qfr
  by_cases c0:j<t1.length
  ·have c0':((j:Nat):Int)<((t1.length:Nat):Int):=by omega
   have a1:q35 112 out [t1[j]]=some (out ++ [t1[j]]):=q5b (by simp;omega)
   simp only [c0',decide_true,cond_true,q1l c0,Option.bind_some,a1,q0b,q0g (show j<4611686018427387904 by omega)]
   rw [qbx n m1 g1 r1 w1 e1 t1 b1 b2 m2 g2 r2 e2 ws hL m (j+1) _ (by omega) (by omega) (by simp;omega),List.drop_eq_getElem_cons c0]
   simp only [List.append_assoc,List.singleton_append]
  ·have c0' : ¬ ((j:Nat):Int)<((t1.length:Nat):Int):=by omega
   simp only [c0',decide_false,cond_false]
   rw [List.drop_eq_nil_of_le (show t1.length<=j by omega),List.append_nil]
theorem q6d (n:Nat) (m:MD) (h:ML 1000000 m) (hn:1000000<n):q5d n m=some m:=by
 obtain ⟨m1,g1,r1,w1,e1,t1⟩:=m
 obtain ⟨h1,h2,h3,h4⟩:=h
 simp only at h1 h2 h3 h4
 unfold q5d
 have l0:=qbz n m1 g1 r1 w1 e1 t1 [] [] m1 g1 r1 e1 h2 n 0 [] (Nat.zero_le _) (by omega) rfl
 have l1:=qbx n m1 g1 r1 w1 e1 t1 [] [] m1 g1 r1 e1 w1 h4 n 0 [] (Nat.zero_le _) (by omega) rfl
 rw [zI,List.drop_zero,List.nil_append] at l0 l1
 simp only [l0,l1,Option.bind_some]
end Go.Proofs.YtapfankgdkdkgaaGreatDoor.AM
