
import Derived.Test.YtapfankgdkdkgaaGreatDoorEb12
import Derived.Test.YtapfankgdkdkgaaGreatDoorEb23
import Derived.Test.YtapfankgdkdkgaaGreatDoorEb24
import Derived.Test.YtapfankgdkdkgaaGreatDoorEb25
set_option linter.unusedVariables false
set_option linter.unusedSimpArgs false
namespace Go.Proofs.YtapfankgdkdkgaaGreatDoor.AM
open Go.RowKit
theorem jad : ∀(k:Nat) (a:Int),0<=a->a<10 ^ (k+1)->k<=15->q25 (k+1) a=some (Lib.itoa a):=by
 intro k
 induction k with
 | zero =>
  intro a h0 h1 _
  have h1':a<10:=by simpa using h1
  unfold q25
  have e1:k2h a 10=some (a % 10):=by unfold k2h;rw [if_pos (by decide),Int.tmod_eq_emod_of_nonneg h0]
  have w1:IntKind.wrap .i64 (48+a % 10)=48+a % 10:=wrap64 (by omega) (by omega)
  have w2:IntKind.wrap .u8 (48+a % 10)=48+a % 10:=k7r (by omega) (by omega)
  have c1 : ¬ (10:Int)<=a:=by omega
  simp only [e1,Option.bind_some,q04,w1,w2,c1,decide_false,cond_false]
  rw [jix h0,if_pos h1']
  simp only [List.map_cons,List.map_nil]
  rw [show (48+a % 10).toNat=48+a.toNat from by omega]
 | succ k ih =>
  intro a h0 h1 hk
  unfold q25
  have e1:k2h a 10=some (a % 10):=by unfold k2h;rw [if_pos (by decide),Int.tmod_eq_emod_of_nonneg h0]
  have w1:IntKind.wrap .i64 (48+a % 10)=48+a % 10:=wrap64 (by omega) (by omega)
  have w2:IntKind.wrap .u8 (48+a % 10)=48+a % 10:=k7r (by omega) (by omega)
  have hp:(10:Int) ^ (k+1+1)=10*10 ^ (k+1):=by rw [Int.pow_succ];omega
  have hb:(10:Int) ^ (k+1)<=10 ^ 16:=by
   have:=Nat.pow_le_pow_right (n:=10) (by decide) (show k+1<=16 by omega)
   have e2:((10 ^ (k+1):Nat):Int)=(10:Int) ^ (k+1):=by simp
   have e3:((10 ^ 16:Nat):Int)=(10:Int) ^ 16:=by simp
   rw [<-e2,<-e3];omega
  have e9:(10:Int) ^ 16=10000000000000000:=by decide
  rw [hp] at h1
  rw [e9] at hb
  simp only [e1,Option.bind_some,q04,w1,w2]
  rw [jix h0]
  by_cases c1:(10:Int)<=a
  ·have q1:k72 .i64 a 10=some (a / 10):=by
    unfold k72;rw [if_pos (by decide),Int.tdiv_eq_ediv_of_nonneg h0,wrap64 (by omega) (by omega)]
   have i1:=ih (a / 10) (by omega) (by omega) (by omega)
   have c2 : ¬ a<10:=by omega
   have hlen:(Lib.itoa (a / 10)).length<=20:=by
    rw [q1j (by omega)]
    have:=qhc 19 (a / 10).toNat (by omega)
    omega
   simp only [c1,decide_true,cond_true,q1,Option.bind_some,i1,c2,if_false,List.map_cons,List.map_nil]
   rw [q2o (by simp;omega)]
   rw [show (48+a % 10).toNat=48+(a % 10).toNat from by omega]
   rfl
  ·have c2:a<10:=by omega
   simp only [c1,c2,decide_false,cond_false,if_true,List.map_cons,List.map_nil]
   rw [show (48+a % 10).toNat=48+a.toNat from by omega]
theorem jcq (n:Nat) {a:Int} (h:0<=a/\a<=999999999) (hn:10<=n) : ∀k,n=k+10->q25 n a=some (Lib.itoa a):=by
 have more : ∀(k:Nat) (a:Int) (r:Yy),q25 k a=some r->q25 (k+1) a=some r:=by
  intro k
  induction k with
  | zero=>intro a r hr;cases hr
  | succ k ih =>
   intro a r hr
   rw [q25] at hr ⊢
   cases e1:k2h a 10 with
   | none=>rw [e1] at hr;cases hr
   | some n1 =>
    rw [e1] at hr
    simp only [Option.bind_some,q04] at hr ⊢
    by_cases c1:(10:Int)<=a
    ·simp only [c1,decide_true,cond_true] at hr ⊢
     cases e2:k72 .i64 a 10 with
     | none=>rw [e2] at hr;cases hr
     | some n4 =>
      rw [e2] at hr
      simp only [Option.bind_some] at hr ⊢
      cases e3:q25 k n4 with
      | none=>rw [e3] at hr;cases hr
      | some r5 =>
       rw [e3] at hr
       rw [ih n4 r5 e3]
       exact hr
    ·simp only [c1,decide_false,cond_false] at hr ⊢
     exact hr
 intro k
 induction k generalizing n with
 | zero =>
  rintro rfl
  exact jad 9 a h.1 (by
                  have:(10:Int) ^ (9+1)=10000000000:=by decide
                  rw [this];omega) (by decide)
 | succ k ih =>
  rintro rfl
  exact more _ _ _ (ih (k+10) (by omega) rfl)
theorem qgz (n:Nat) {a:Int} (h:0<=a/\a<=999999999) (hn:10<=n):q25 n a=some (Lib.itoa a):=jcq n h hn (n - 10) (by omega)
end Go.Proofs.YtapfankgdkdkgaaGreatDoor.AM
namespace Go.Proofs.YtapfankgdkdkgaaGreatDoor.AM
open Go.RowKit
end Go.Proofs.YtapfankgdkdkgaaGreatDoor.AM
namespace Go.Proofs.YtapfankgdkdkgaaGreatDoor.AM
open Go.RowKit
theorem qn2 (n:Nat) (v:VD) (hn:100<=n):q63 n v=some (q1g v):=by
 unfold q63 q1g
 rw [qap n v hn]
 cases hc:q1b v with
 | false=>rfl
 | true =>
  obtain ⟨h1,h2,h3,h4,h5⟩:=q1k hc
  have l1:=qbt h1
  have l2:=qbt h2
  have l3:=qbt h3
  have t1:=q5b h4
  have t2:=q5b h5
  simp only [Option.bind_some,Bool.not_true,cond_false,qgz n h1 (by omega),qgz n h2 (by omega),qgz n h3 (by omega),if_true]
  unfold jpd q64
  generalize Lib.itoa v.1=A at l1
  generalize Lib.itoa v.2.1=B at l2
  generalize Lib.itoa v.2.2.1=C at l3
  generalize v.2.2.2.1=p at t1
  generalize v.2.2.2.2=q at t2
  rw [q2o (by simp;omega)];simp only [Option.bind_some]
  rw [q2o (by simp;omega)];simp only [Option.bind_some]
  rw [q2o (by simp;omega)];simp only [Option.bind_some]
  rw [q2o (by simp;omega)];simp only [Option.bind_some]
  rw [q2o (by simp;omega)];simp only [Option.bind_some]
  by_cases hp:p = []
  ·by_cases hq:q = []
   ·simp [hp,hq]
   ·simp only [hp,hq,decide_true,decide_false,Bool.not_true,Bool.not_false,cond_true,cond_false]
    rw [q2o (by simp;omega)];simp only [Option.bind_some]
    rw [q2o (by simp;omega)]
    simp
  ·by_cases hq:q = []
   ·simp only [hp,hq,decide_true,decide_false,Bool.not_true,Bool.not_false,cond_true,cond_false]
    rw [q2o (by simp;omega)];simp only [Option.bind_some]
    rw [q2o (by simp;omega)]
    simp
   ·simp only [hp,hq,decide_true,decide_false,Bool.not_true,Bool.not_false,cond_true,cond_false]
    rw [q2o (by simp;omega)];simp only [Option.bind_some]
    rw [q2o (by simp;omega)];simp only [Option.bind_some]
    rw [q2o (by simp;omega)];simp only [Option.bind_some]
    rw [q2o (by simp;omega)]
    simp
theorem qse (n:Nat) (s:Yy) (c:UInt8) (hs:s.length<=1000000) : ∀m j:Nat,j<=s.length->s.length - j<m->qc6 n m s ((c.toNat:Nat):Int) (j:Int)=some (if Lib.index (s.drop j) [c] = -1 then Sum.inr ((),((),())) else Sum.inl (((j:Int)+Lib.index (s.drop j) [c],()),((),())))
 | 0,j,_,h=>absurd h (Nat.not_lt_zero _)
 | m+1,j,hj,h=>by
  rw [qpn]
  unfold j3x
  by_cases c0:j<s.length
  ·have c0':((j:Nat):Int)<((s.length:Nat):Int):=by omega
   have ih:=qse n s c hs m (j+1) (by omega) (by omega)
   have hd:s.drop j=s[j]::s.drop (j+1):=(List.drop_eq_getElem_cons c0)
   have hc:decide (((s[j].toNat:Nat):Int)=((c.toNat:Nat):Int))=decide (s[j]=c):=by
    apply decide_eq_decide.2
    constructor
    ·intro hh;exact UInt8.toNat_inj.1 (by omega)
    ·intro hh;rw [hh]
   simp only [c0',decide_true,cond_true,q1l c0,Option.bind_some,q04,q0a (show j<4611686018427387904 by omega),hc,hd]
   by_cases h1:s[j]=c
   ·have:=index_self c (s.drop (j+1))
    rw [h1,this]
    simp
   ·rw [qqw h1]
    simp only [h1,decide_false,cond_false,ih]
    have hge:=Lib.index_ge (s.drop (j+1)) [c]
    by_cases h2:Lib.index (s.drop (j+1)) [c] = -1
    ·simp [h2]
    ·have h3 : ¬ (Lib.index (s.drop (j+1)) [c] == -1)=true:=fun e=>h2 (beq_iff_eq.1 e)
     have h4 : ¬ Lib.index (s.drop (j+1)) [c]+1 = -1:=by omega
     rw [if_neg h3,if_neg h4,if_neg h2]
     congr 4
     omega
  ·have c0' : ¬ ((j:Nat):Int)<((s.length:Nat):Int):=by omega
   have hd:s.drop j = []:=List.drop_eq_nil_of_le (by omega)
   have:Lib.index ([]:Yy) [c] = -1:=qaf c [] (by simp)
   simp only [c0',decide_false,cond_false,hd,this,if_true]
theorem qzb (n:Nat) (s:Yy) (c:UInt8) (hs:s.length<=1000000) (hn:s.length<n):qce n s ((c.toNat:Nat):Int)=some (Lib.index s [c]):=by
 unfold qce
 have h:=qse n s c hs n 0 (Nat.zero_le _) (by omega)
 rw [show ((0:Nat):Int)=(0:Int) from rfl,List.drop_zero] at h
 rw [h]
 by_cases h1:Lib.index s [c] = -1
 ·simp [h1]
 ·simp [h1]
theorem qsl (n:Nat) (s:Yy) (hs:s.length<=9) (hd:s.all q1e=true) : ∀(m j:Nat) (a:Int),j<=s.length->s.length - j<m->0<=a->a<10 ^ j->qan n m s a (j:Int)=some ((qcp a (s.drop j),()),((),()))
 | 0,j,_,_,h,_,_=>absurd h (Nat.not_lt_zero _)
 | m+1,j,a,hj,h,ha,hb=>by
  rw [qpm]
  unfold j2m
  by_cases c0:j<s.length
  ·have c0':((j:Nat):Int)<((s.length:Nat):Int):=by omega
   have hdr:s.drop j=s[j]::s.drop (j+1):=(List.drop_eq_getElem_cons c0)
   have hdg:=List.all_eq_true.1 hd s[j] (List.getElem_mem c0)
   unfold q1e at hdg
   simp only [Bool.and_eq_true,decide_eq_true_eq] at hdg
   have hp:(10:Int) ^ (j+1)=10*10 ^ j:=by rw [Int.pow_succ];omega
   have hbb:(10:Int) ^ j<=10 ^ 9:=by
    have:=Nat.pow_le_pow_right (n:=10) (by decide) (show j<=9 by omega)
    have e2:((10 ^ j:Nat):Int)=(10:Int) ^ j:=by simp
    have e3:((10 ^ 9:Nat):Int)=(10:Int) ^ 9:=by simp
    rw [<-e2,<-e3];omega
   have e9:(10:Int) ^ 9=1000000000:=by decide
   rw [e9] at hbb
   have ih:=qsl n s hs hd m (j+1) (10*a+s[j].toNat - 48) (by omega) (by omega) (by omega) (by rw [hp];omega)
   have w1:IntKind.wrap .i64 (10*a)=10*a:=wrap64 (by omega) (by omega)
   have w2:IntKind.wrap .i64 ((s[j].toNat:Nat):Int)=((s[j].toNat:Nat):Int):=wrap64 (by omega) (by omega)
   have w3:IntKind.wrap .i64 (10*a+((s[j].toNat:Nat):Int))=10*a+((s[j].toNat:Nat):Int):=wrap64 (by omega) (by omega)
   have w4:IntKind.wrap .i64 (10*a+((s[j].toNat:Nat):Int) - 48)=10*a+((s[j].toNat:Nat):Int) - 48:=wrap64 (by omega) (by omega)
   simp only [c0',decide_true,cond_true,q1l c0,Option.bind_some,q04,q0a (show j<4611686018427387904 by omega),w1,w2,w3,w4,ih]
   rw [hdr,qcp]
  ·have c0' : ¬ ((j:Nat):Int)<((s.length:Nat):Int):=by omega
   have hdr:s.drop j = []:=List.drop_eq_nil_of_le (by omega)
   simp only [c0',decide_false,cond_false,hdr,qcp]
theorem qm6 (n:Nat) (s:Yy) (hs:s.length<=1000000) (hn:s.length<n/\10<=n):q1n n s=some (qg9 s):=by
 unfold q1n qg9
 rw [q8w n s hs hn.1]
 cases hd:q2q s with
 | false=>rfl
 | true =>
  by_cases h9:s.length<=9
  ·have c1 : ¬ (9:Int)<((s.length:Nat):Int):=by omega
   have ha:s.all q1e=true:=by unfold q2q at hd;simp only [Bool.and_eq_true] at hd;exact hd.1
   have h:=qsl n s h9 ha n 0 0 (Nat.zero_le _) (by omega) (by decide) (by decide)
   rw [show ((0:Nat):Int)=(0:Int) from rfl,List.drop_zero] at h
   simp only [Option.bind_some,Bool.not_true,cond_false,c1,decide_false,h,h9,decide_true,Bool.and_self,if_true]
  ·have c1:(9:Int)<((s.length:Nat):Int):=by omega
   simp only [Option.bind_some,Bool.not_true,cond_false,c1,decide_true,cond_true,h9,decide_false,Bool.and_false,Bool.false_eq_true,if_false]
def jnl (s:Yy) (l:List (Yy)) (p b:Yy):VD×Bool:=match l with
 | [x,y,z]=>if q1g (qg9 x,(qg9 y,(qg9 z,(p,b))))=s then ((qg9 x,(qg9 y,(qg9 z,(p,b)))),true) else (v0,false)
 | _=>(v0,false)
theorem jbc (n:Nat) (s r p b:Yy) (hr:r.length<=1000) (hn:2000<=n) :
  ((q0k n r (46:Int)).bind fun (r11:List (Yy))=>(bif !decide (((List.length r11:Nat):Int)=(3:Int)) then some (((0:Int),((0:Int),((0:Int),(([]:Yy),([]:Yy))))),false) else (q0n r11 (0:Int)).bind fun (x12:Yy)=>(q1n n x12).bind fun (r13:Int)=>(q0n r11 (1:Int)).bind fun (x14:Yy)=>(q1n n x14).bind fun (r15:Int)=>(q0n r11 (2:Int)).bind fun (x16:Yy)=>(q1n n x16).bind fun (r17:Int)=>(q63 n (r13,(r15,(r17,(p,b))))).bind fun (r18:Yy)=>(bif !decide (r18=s) then some (((0:Int),((0:Int),((0:Int),(([]:Yy),([]:Yy))))),false) else some ((r13,(r15,(r17,(p,b)))),true))))=some (jnl s (spl 46 [] r) p b):=by
 have e1:q0k n r (46:Int)=some (spl 46 [] r):=q3n n r 46 (by omega) (by omega)
 have hm : ∀w∈spl 46 [] r,w.length<=1000:=fun w hw=>by have:=q62 46 r [] w hw;simp at this;omega
 rw [e1]
 simp only [Option.bind_some]
 generalize spl 46 [] r=l at hm
 unfold jnl
 match l,hm with
 | [],_=>simp
 | [_],_=>simp
 | [_,_],_=>simp
 | [x,y,z],hm =>
  have hx:=hm x (by simp)
  have hy:=hm y (by simp)
  have hz:=hm z (by simp)
  have i0:q0n [x,y,z] (0:Int)=some x:=rfl
  have i1:q0n [x,y,z] (1:Int)=some y:=rfl
  have i2:q0n [x,y,z] (2:Int)=some z:=rfl
  have c3:((List.length [x,y,z]:Nat):Int)=3:=by simp
  simp only [c3,decide_true,Bool.not_true,cond_false,i0,i1,i2,Option.bind_some,qm6 n x (by omega) ⟨by omega,by omega⟩,qm6 n y (by omega) ⟨by omega,by omega⟩,qm6 n z (by omega) ⟨by omega,by omega⟩,qn2 n _ (show 100<=n by omega)]
  by_cases h:q1g (qg9 x,(qg9 y,(qg9 z,(p,b))))=s
  ·simp only [h,decide_true,Bool.not_true,cond_false,if_true]
  ·simp only [h,decide_false,Bool.not_false,cond_true,if_false]
 | _::_::_::_::t,_ =>
  have : ¬ ((((t.length+1+1+1+1:Nat)):Int)=3):=by omega
  simp only [List.length_cons,this,decide_false,Bool.not_false,cond_true]
theorem jfj (n:Nat) (s:Yy) (hs:s.length<=200) (hn:2000<=n):q4l n s=some (q0e s):=by
 have goal:q4l n s=some (if s.length<=100/\s.head? = some 118 then jnl s (spl 46 [] (q2s 45 (q2s 43 (s.drop 1)))) (q7t 45 (q2s 43 (s.drop 1))) (q7t 43 (s.drop 1)) else (v0,false)):=by
  unfold q4l
  by_cases c1:(100:Int)<((s.length:Nat):Int)
  ·have : ¬ s.length<=100:=by omega
   simp [c1,this]
  ·have c1':s.length<=100:=by omega
   cases s with
   | nil=>simp
   | cons c r =>
    have c2 : ¬ (((c::r).length:Nat):Int)=0:=by simp;omega
    have i0:sAt (c::r) (0:Int)=some ((c.toNat:Nat):Int):=q1l (s:=c::r) (j:=0) (by simp)
    have h1:decide (((c.toNat:Nat):Int)=(118:Int))=decide (c=118):=decide_eq_decide.2 (by
     constructor
     ·intro h;exact UInt8.toNat_inj.1 (by have e:(118:UInt8).toNat=118:=rfl;rw [e];omega)
     ·rintro rfl;rfl)
    have s1:q1d (c::r) (1:Int) (((c::r).length:Nat):Int)=some r:=by
     have:=sub_le (l:=c::r) (a:=1) (b:=(c::r).length) (by simp) (Nat.le_refl _)
     rw [show (1:Int)=((1:Nat):Int) from rfl,this];simp
    simp only [c1,c2,decide_false,cond_false,i0,Option.bind_some,h1,c1',true_and,List.head?_cons,Option.some.injEq,List.drop_succ_cons,List.drop_zero]
    by_cases h118:c=118
    ·subst h118
     have hr:r.length<=200:=by simp at c1';omega
     have f43:qce n r (43:Int)=some (Lib.index r [43]):=qzb n r 43 (by omega) (by omega)
     simp only [decide_true,Bool.not_true,cond_false,s1,Option.bind_some,f43,if_true]
     have cut45 : ∀(q b:Yy),q.length<=200 ->
       ((
        qce n q (45:Int)).bind fun (r7:Int)=>(bif decide ((0:Int)<=r7) then q04 (IntKind.wrap .i64 (r7+(1:Int))) fun (n8:Int)=>(q1d q n8 ((List.length q:Nat):Int)).bind fun (s9:Yy)=>(q1d q (0:Int) r7).bind fun (s10:Yy)=>(q0k n s10 (46:Int)).bind fun (r11:List (Yy))=>(bif !decide (((List.length r11:Nat):Int)=(3:Int)) then some (((0:Int),((0:Int),((0:Int),(([]:Yy),([]:Yy))))),false) else (q0n r11 (0:Int)).bind fun (x12:Yy)=>(q1n n x12).bind fun (r13:Int)=>(q0n r11 (1:Int)).bind fun (x14:Yy)=>(q1n n x14).bind fun (r15:Int)=>(q0n r11 (2:Int)).bind fun (x16:Yy)=>(q1n n x16).bind fun (r17:Int)=>(q63 n (r13,(r15,(r17,(s9,b))))).bind fun (r18:Yy)=>(bif !decide (r18=118::r) then some (((0:Int),((0:Int),((0:Int),(([]:Yy),([]:Yy))))),false) else some ((r13,(r15,(r17,(s9,b)))),true)))
        else (q0k n q (46:Int)).bind fun (r19:List (Yy))=>(bif !decide (((List.length r19:Nat):Int)=(3:Int)) then some (((0:Int),((0:Int),((0:Int),(([]:Yy),([]:Yy))))),false) else (q0n r19 (0:Int)).bind fun (x20:Yy)=>(q1n n x20).bind fun (r21:Int)=>(q0n r19 (1:Int)).bind fun (x22:Yy)=>(q1n n x22).bind fun (r23:Int)=>(q0n r19 (2:Int)).bind fun (x24:Yy)=>(q1n n x24).bind fun (r25:Int)=>(q63 n (r21,(r23,(r25,(([]:Yy),b))))).bind fun (r26:Yy)=>(bif !decide (r26=118::r) then some (((0:Int),((0:Int),((0:Int),(([]:Yy),([]:Yy))))),false) else some ((r21,(r23,(r25,(([]:Yy),b)))),true)))))=some (jnl (118::r) (spl 46 [] (q2s 45 q)) (q7t 45 q) b):=by
      intro q b hq
      have f45:qce n q (45:Int)=some (Lib.index q [45]):=qzb n q 45 (by omega) (by omega)
      rw [f45]
      simp only [Option.bind_some]
      have hge:=Lib.index_ge q [45]
      unfold q2s q7t
      by_cases k1:Lib.index q [45] = -1
      ·have k2 : ¬ (0:Int)<=-1:=by decide
       simp only [k1,k2,decide_false,cond_false,if_true]
       exact jbc n (118::r) q [] b (by omega) hn
      ·obtain ⟨i,hi⟩ : ∃ i:Nat,Lib.index q [45]=(i:Int):=⟨(Lib.index q [45]).toNat,by omega⟩
       have hlt:=qq3 45 q i hi
       have n1 : ¬ ((i:Nat):Int) = -1:=by omega
       have n2:(0:Int)<=((i:Nat):Int):=by omega
       rw [hi]
       have e6:(q.drop (i+1)).take (q.length - (i+1))=q.drop (i+1):=List.take_of_length_le (by rw [List.length_drop];exact Nat.le_refl _)
       simp only [n1,n2,decide_true,cond_true,if_false,q04,q0a (show i<4611686018427387904 by omega),sub_le (show i+1<=q.length by omega) (Nat.le_refl _),sub_zero (show i<=q.length by omega),Option.bind_some,Int.toNat_natCast,e6]
       exact jbc n (118::r) (q.take i) (q.drop (i+1)) b (by rw [List.length_take];omega) hn
     have hge:=Lib.index_ge r [43]
     by_cases k1:Lib.index r [43] = -1
     ·have k2 : ¬ (0:Int)<=-1:=by decide
      have u1:q2s 43 r=r:=by unfold q2s;rw [if_pos k1]
      have u2:q7t 43 r = []:=by unfold q7t;rw [if_pos k1]
      simp only [k1,k2,decide_false,cond_false,u1,u2]
      exact cut45 r [] hr
     ·obtain ⟨i,hi⟩ : ∃ i:Nat,Lib.index r [43]=(i:Int):=⟨(Lib.index r [43]).toNat,by omega⟩
      have hlt:=qq3 43 r i hi
      have n1 : ¬ ((i:Nat):Int) = -1:=by omega
      have n2:(0:Int)<=((i:Nat):Int):=by omega
      have u1:q2s 43 r=r.take i:=by unfold q2s;rw [if_neg k1,hi,Int.toNat_natCast]
      have u2:q7t 43 r=r.drop (i+1):=by unfold q7t;rw [if_neg k1,hi,Int.toNat_natCast]
      rw [hi]
      have e6:(r.drop (i+1)).take (r.length - (i+1))=r.drop (i+1):=List.take_of_length_le (by rw [List.length_drop];exact Nat.le_refl _)
      simp only [n2,decide_true,cond_true,q04,q0a (show i<4611686018427387904 by omega),sub_le (show i+1<=r.length by omega) (Nat.le_refl _),sub_zero (show i<=r.length by omega),Option.bind_some,u1,u2,e6]
      exact cut45 (r.take i) (r.drop (i+1)) (by rw [List.length_take];omega)
    ·simp [h118]
 rw [goal]
 congr 1
 by_cases ex : ∃ v,q1b v=true/\q1g v=s
 ·obtain ⟨v,hc,ht⟩:=ex
  rw [k06 hc ht]
  have e1:s=jpd v:=by rw [<-ht];unfold q1g;rw [if_pos hc]
  have hl:=jx8 hc
  have hcand:=jrd hc
  rw [<-e1] at hl hcand
  rw [if_pos ⟨by omega,by rw [e1];rfl⟩]
  unfold k45 at hcand
  unfold jnl
  split at hcand
  ·rename_i x y z hsp
   rw [hsp]
   have hv:=Option.some.inj hcand
   simp only [hv]
   rw [if_pos ht]
  ·cases hcand
 ·have hno : ∀v,q1b v=true->q1g v≠s:=fun v h1 h2=>ex ⟨v,h1,h2⟩
  rw [j0k hno]
  by_cases c:s.length<=100/\s.head? = some 118
  ·rw [if_pos c]
   unfold jnl
   split
   ·rename_i x y z hsp
    rw [if_neg]
    intro ht
    have hne:s ≠ []:=fun e=>by rw [e] at c;simp at c
    refine hno _ ?_ ht
    unfold q1g at ht
    split at ht
    ·assumption
    ·exact absurd ht.symm hne
   ·rfl
  ·rw [if_neg c]
end Go.Proofs.YtapfankgdkdkgaaGreatDoor.AM
namespace Go.Proofs.YtapfankgdkdkgaaGreatDoor.AM
open Go.RowKit
end Go.Proofs.YtapfankgdkdkgaaGreatDoor.AM
namespace Go.Proofs.YtapfankgdkdkgaaGreatDoor.AM
open Go.RowKit
theorem k0w : ∀n:Nat,0<n->(Lib.decDigits n).head? ≠ some 48:=by
 intro n
 induction n using Nat.strongRecOn with
 | _ n ih =>
  intro h0
  rw [Lib.decDigits]
  split
  ·rename_i h
   intro h2
   have h3:UInt8.ofNat (48+n)=48:=by simpa using h2
   have h4:=congrArg UInt8.toNat h3
   rw [UInt8.toNat_ofNat'] at h4
   have e48:(48:UInt8).toNat=48:=rfl
   rw [e48] at h4;omega
  ·rename_i h
   have:=ih (n / 10) (by omega) (by omega)
   have hne:=(qsh (n / 10)).2
   generalize Lib.decDigits (n / 10)=l at this hne
   cases l with
   | nil=>exact absurd rfl hne
   | cons b r=>simpa using this
theorem jr9 : ∀(k:Nat) (d:Yy),d.length=k->d.all q1e=true->d ≠ []->d.head? ≠ some 48->Lib.decDigits (qcp 0 d).toNat=d
 | 0,d,hk,_,hne,_=>absurd (List.eq_nil_of_length_eq_zero hk) hne
 | k+1,d,hk,hd,hne,h48=>by
  obtain ⟨l,c,rfl⟩ : ∃ l c,d=l ++ [c]:=⟨d.dropLast,d.getLast hne,(List.dropLast_concat_getLast hne).symm⟩
  have hl:l.length=k:=by simpa using hk
  rw [List.all_append,Bool.and_eq_true] at hd
  have hc:q1e c=true:=by simpa using hd.2
  have hc2:48<=c.toNat/\c.toNat<=57:=by unfold q1e at hc;simpa using hc
  have hb:=ql5 l 0 (by decide) hd.1
  rw [j22]
  have e1:qcp (qcp 0 l) [c]=10*qcp 0 l+c.toNat - 48:=by simp only [qcp]
  rw [e1,Lib.decDigits]
  have uc:UInt8.ofNat (48+(c.toNat - 48))=c:=by
   have:48+(c.toNat - 48)=c.toNat:=by omega
   rw [this];simp
  by_cases h0:l = []
  ·subst h0
   have:(10*qcp 0 ([]:Yy)+(c.toNat:Int) - 48).toNat=c.toNat - 48:=by show (10*(0:Int)+(c.toNat:Int) - 48).toNat=_;omega
   rw [this,dif_pos (by omega),uc];rfl
  ·have hh:l.head? ≠ some 48:=by
    cases l with
    | nil=>exact absurd rfl h0
    | cons b r=>simpa using h48
   have ih:=jr9 k l hl hd.1 h0 hh
   have hpos:qcp 0 l≠0:=fun h=>by
    rw [h] at ih
    have e0:Lib.decDigits (0:Int).toNat = [48]:=Lib.decDigits_one (by decide)
    rw [e0] at ih
    rw [<-ih] at hh;exact hh rfl
   have q1:(10*qcp 0 l+(c.toNat:Int) - 48).toNat / 10=(qcp 0 l).toNat:=by omega
   have q2:(10*qcp 0 l+(c.toNat:Int) - 48).toNat % 10=c.toNat - 48:=by omega
   rw [dif_neg (by omega),q1,q2,ih,uc]
def k6t (w:Yy):Int:=if 10<w.length then 0 else if (w.drop 1).head? = some 48 then 0 else if qcp 0 (w.drop 1)<2 then 0 else qcp 0 (w.drop 1)
theorem j95 {w:Yy} (h:q1x w=true):k6t w=if qyf (w.drop 1) then numOf (w.drop 1) else 0:=by
 have hl:w.length=(w.drop 1).length+1:=by
  cases w with
  | nil=>exact absurd h (by decide)
  | cons b r=>simp
 unfold q1x at h
 simp only [Bool.and_eq_true] at h
 have hd:=h.2
 unfold q2q at hd
 simp only [Bool.and_eq_true,Bool.not_eq_true',decide_eq_false_iff_not] at hd
 unfold k6t
 rw [hl]
 generalize w.drop 1=d at hd
 cases hf:qyf d with
 | true =>
  obtain ⟨n0,n1,ne⟩:=jal hf
  have li:=qbt (n:=numOf d) (by omega)
  have ed:Lib.decDigits (numOf d).toNat=d:=by rw [<-q1j (by omega)];exact ne.symm
  have hh:=k0w (numOf d).toNat (by omega)
  have hv:=jiz (numOf d).toNat
  rw [ed] at hh hv
  rw [<-ne] at li
  rw [if_neg (by omega),if_neg hh,hv,if_neg (by omega)]
  show (((numOf d).toNat:Nat):Int)=numOf d
  omega
 | false =>
  by_cases c1:10<d.length+1
  ·rw [if_pos c1];rfl
  by_cases c2:d.head? = some 48
  ·rw [if_neg c1,if_pos c2];rfl
  by_cases c3:qcp 0 d<2
  ·rw [if_neg c1,if_neg c2,if_pos c3];rfl
  ·exfalso
   have hb:=ql5 d 0 (by decide) hd.1
   have hp:(10:Int) ^ d.length<=10 ^ 9:=by
    have:=Nat.pow_le_pow_right (n:=10) (by decide) (show d.length<=9 by omega)
    have e2:((10 ^ d.length:Nat):Int)=(10:Int) ^ d.length:=by simp
    have e3:((10 ^ 9:Nat):Int)=(10:Int) ^ 9:=by simp
    rw [<-e2,<-e3];omega
   have e9:(10:Int) ^ 9=1000000000:=by decide
   rw [e9] at hp
   have ed:=jr9 d.length d rfl hd.1 hd.2 c2
   have ei:Lib.itoa (qcp 0 d)=d:=by rw [q1j hb.1];exact ed
   have:=(jvz (n:=qcp 0 d) (by omega) (by omega)).1
   rw [ei,hf] at this;cases this
theorem qor (n:Nat) (s:Yy) (hL:s.length<=1000000) : ∀m j:Nat,j<=s.length+1->s.length+1 - j<m->q6d n m s (j:Int)=some (if (s.drop j).all q1e=true then Sum.inr ((s,()),((),())) else Sum.inl ((false,()),((),())))
 | 0,j,_,h=>absurd h (Nat.not_lt_zero _)
 | m+1,j,hj,h=>by
  rw [qk1]
  unfold qn7
  by_cases c0:j<s.length
  ·have c0':((j:Nat):Int)<((s.length:Nat):Int):=by omega
   have ih:=qor n s hL m (j+1) (by omega) (by omega)
   have hd:s.drop j=s[j]::s.drop (j+1):=(List.drop_eq_getElem_cons c0)
   have hi:q1e s[j]=(!decide (((s[j].toNat:Nat):Int)<48) && !decide ((57:Int)<((s[j].toNat:Nat):Int))):=by
    unfold q1e
    rw [<-decide_not,<-decide_not]
    congr 1<;>exact decide_eq_decide.2 (by omega)
   simp only [c0',decide_true,cond_true,q1l c0,Option.bind_some,q04,q0a (show j<4611686018427387904 by omega),ih,hd,List.all_cons,hi]
   cases decide (((s[j].toNat:Nat):Int)<48)<;>cases decide ((57:Int)<((s[j].toNat:Nat):Int))<;>simp
  ·have c0' : ¬ ((j:Nat):Int)<((s.length:Nat):Int):=by omega
   have:s.drop j = []:=List.drop_eq_nil_of_le (by omega)
   simp [c0',this]
theorem qo2 (n:Nat) (s:Yy) (hL:s.length<=1000000) (hn:s.length+1<n):qee n s=some (q1x s):=by
 unfold qee q1x q2q
 have:=qor n s hL n 1 (by omega) (by omega)
 rw [show ((1:Nat):Int)=(1:Int) from rfl] at this
 rw [this]
 cases s with
 | nil=>rfl
 | cons b r =>
  simp only [List.drop_succ_cons,List.drop_zero,List.head?_cons,Option.some.injEq]
  have h0:sAt (b::r) (0:Int)=some ((b.toNat:Nat):Int):=q1l (s:=b::r) (j:=0) (by simp)
  have h1:decide (((b.toNat:Nat):Int)=(118:Int))=decide (b=118):=decide_eq_decide.2 (by
   constructor
   ·intro h;exact UInt8.toNat_inj.1 (by have e:(118:UInt8).toNat=118:=rfl;rw [e];omega)
   ·rintro rfl;rfl)
  have h2:decide ((1:Int)<(((b::r).length:Nat):Int)) = !decide (r = []):=by
   rw [<-decide_not]
   refine decide_eq_decide.2 ?_
   cases r with
   | nil=>simp
   | cons x y=>simp;omega
  cases hr:r.all q1e with
  | true =>
   simp only [if_true,Option.bind_some,Sum.elim_inr,h2,h0,h1,Bool.true_and]
   cases decide (r = [])<;>simp
  | false=>simp
theorem qjk (n:Nat) (s:Yy) (hL:s.length<=10) (hd:(s.drop 1).all q1e=true) : ∀(m j:Nat) (a:Int),1<=j->j<=s.length->s.length - j<m->0<=a->a<10 ^ j->q5j n m s a (j:Int)=some ((qcp a (s.drop j),()),((),()))
 | 0,j,a,_,_,h,_,_=>absurd h (Nat.not_lt_zero _)
 | m+1,j,a,hj1,hj,h,ha,hb=>by
  rw [qhf]
  unfold qhv
  by_cases c0:j<s.length
  ·have c0':((j:Nat):Int)<((s.length:Nat):Int):=by omega
   have hp:(10:Int) ^ j<=10 ^ 10:=by
    have:=Nat.pow_le_pow_right (n:=10) (by decide) (show j<=10 by omega)
    have e2:((10 ^ j:Nat):Int)=(10:Int) ^ j:=by simp
    have e3:((10 ^ 10:Nat):Int)=(10:Int) ^ 10:=by simp
    rw [<-e2,<-e3];omega
   have e9:(10:Int) ^ 10=10000000000:=by decide
   rw [e9] at hp
   have hdr:s.drop j=s[j]::s.drop (j+1):=(List.drop_eq_getElem_cons c0)
   have hm:s[j]∈s.drop 1:=by
    have e:s.drop 1=s.drop 1:=rfl
    have:(s.drop 1)[j - 1]'(by simp;omega)=s[j]:=by simp;congr 1;omega
    rw [<-this];exact List.getElem_mem _
   have hc:=List.all_eq_true.1 hd _ hm
   have hc2:48<=s[j].toNat/\s[j].toNat<=57:=by unfold q1e at hc;simpa using hc
   have e10:(10:Int) ^ (j+1)=10*10 ^ j:=by rw [Int.pow_succ];omega
   have ih:=qjk n s hL hd m (j+1) (10*a+(s[j].toNat:Int) - 48) (by omega) (by omega) (by omega) (by omega) (by rw [e10];omega)
   simp only [c0',decide_true,cond_true,q1l c0,Option.bind_some,q04,q0a (show j<4611686018427387904 by omega)]
   rw [wrap64 (n:=10*a) (by omega) (by omega),wrap64 (n:=((s[j].toNat:Nat):Int)) (by omega) (by omega),wrap64 (n:=10*a+((s[j].toNat:Nat):Int)) (by omega) (by omega),wrap64 (n:=10*a+((s[j].toNat:Nat):Int) - 48) (by omega) (by omega),ih,hdr]
   rfl
  ·have c0' : ¬ ((j:Nat):Int)<((s.length:Nat):Int):=by omega
   have:s.drop j = []:=List.drop_eq_nil_of_le (by omega)
   simp [c0',this,qcp]
theorem qky (n:Nat) (s:Yy) (hn:100<=n) (ht:q1x s=true):q9x n s=some (k6t s):=by
 have hd:(s.drop 1).all q1e=true/\s.drop 1 ≠ []:=by
  unfold q1x q2q at ht
  simp only [Bool.and_eq_true,Bool.not_eq_true',decide_eq_false_iff_not] at ht
  exact ht.2
 have h2:2<=s.length:=by
  cases s with
  | nil=>exact absurd rfl hd.2
  | cons b r=>cases r with
   | nil=>exact absurd rfl hd.2
   | cons c t=>simp
 unfold q9x k6t
 by_cases c1:10<s.length
 ·have c1':(10:Int)<((s.length:Nat):Int):=by omega
  simp [c1,c1']
 ·have c1' : ¬ (10:Int)<((s.length:Nat):Int):=by omega
  have h0:sAt s (1:Int)=some ((s[1].toNat:Nat):Int):=q1l (s:=s) (j:=1) (by omega)
  have e1:(s.drop 1).head? = some s[1]:=by rw [List.head?_drop];exact List.getElem?_eq_getElem _
  have h1:decide (((s[1].toNat:Nat):Int)=(48:Int))=decide (s[1]=48):=decide_eq_decide.2 (by
   constructor
   ·intro h;exact UInt8.toNat_inj.1 (by have e:(48:UInt8).toNat=48:=rfl;rw [e];omega)
   ·intro h;rw [h];rfl)
  have hlp:=qjk n s (by omega) hd.1 n 1 0 (by omega) (by omega) (by omega) (by omega) (by decide)
  rw [show ((1:Nat):Int)=(1:Int) from rfl] at hlp
  simp only [c1,c1',decide_false,cond_false,if_false,h0,h1,hlp,Option.bind_some,e1,Option.some.injEq]
  generalize qcp 0 (s.drop 1)=V
  by_cases c2:s[1]=48
  ·simp [c2]
  ·by_cases c3:V<2
   ·simp [c2,c3]
   ·simp [c2,c3]
theorem jcy (n m:Nat) (l:List (Yy)):q4c n (m+1) l ((l.length:Nat):Int)=some (Sum.inr ((),((),()))):=by
 rw [q8k];unfold qep;simp
theorem qoa (n:Nat) (f:List (Yy)) (x:Yy) (hl:f.length<=1000000) (hw : ∀w∈f ++ [x],w.length<=1000000/\w.length+1<n) (hn:100<=n) : ∀m j:Nat,j<=f.length->f.length+1 - j<m ->
  q4c n m (f ++ [x]) (j:Int)=some (if ((f.drop j).all (fun w=>!q1x w)&&(!q1x x||(!decide (f = []) && !decide (k6t x=0))))=true then Sum.inr ((),((),())) else Sum.inl ((false,()),((),())))
 | 0,j,_,h=>absurd h (Nat.not_lt_zero _)
 | m+1,j,hj,h=>by
  rw [q8k]
  unfold qep
  have hlen:(f ++ [x]).length=f.length+1:=by simp
  have c0:((j:Nat):Int)<(((f ++ [x]).length:Nat):Int):=by rw [hlen];omega
  have w1:IntKind.wrap .i64 ((((f ++ [x]).length:Nat):Int) - 1)=((f.length:Nat):Int):=by rw [hlen,wrap64 (by omega) (by omega)];omega
  have hx:q0n (f ++ [x]) ((j:Nat):Int)=some ((f ++ [x])[j]'(by rw [hlen];omega)):=q1c _
  have hm:=hw _ (List.getElem_mem (show j<(f ++ [x]).length by rw [hlen];omega))
  simp only [c0,decide_true,cond_true,hx,Option.bind_some,qo2 n _ hm.1 hm.2,q04,w1,q0a (show j<4611686018427387904 by omega)]
  by_cases c1:j<f.length
  ·have ih:=qoa n f x hl hw hn m (j+1) (by omega) (by omega)
   have hd:f.drop j=f[j]::f.drop (j+1):=(List.drop_eq_getElem_cons c1)
   have he:(f ++ [x])[j]'(by rw [hlen];omega)=f[j]:=List.getElem_append_left c1
   have c1':((j:Nat):Int)<((f.length:Nat):Int):=by omega
   rw [he,ih,hd]
   simp only [c1',decide_true,cond_true,List.all_cons]
   rcases Bool.eq_false_or_eq_true (q1x f[j]) with hb|hb
   ·simp only [hb,cond_true,Bool.not_true,Bool.false_and,Bool.false_eq_true,if_false]
   ·simp only [hb,cond_false,Bool.not_false,Bool.true_and]
  ·have hj2:j=f.length:=by omega
   subst hj2
   have he:(f ++ [x])[f.length]'(by rw [hlen];omega)=x:=by simp
   obtain ⟨k,rfl⟩ : ∃ k,m=k+1:=⟨m - 1,by omega⟩
   have hend:=jcy n k (f ++ [x])
   rw [hlen] at hend
   rw [he,hend]
   have d0:decide (((f.length:Nat):Int)=0)=decide (f = []):=decide_eq_decide.2 (by
    constructor
    ·intro h;exact List.eq_nil_of_length_eq_zero (by omega)
    ·rintro rfl;rfl)
   simp only [Int.lt_irrefl,decide_false,cond_false,d0,List.drop_length,List.all_nil,Bool.true_and]
   cases ht:q1x x with
   | false=>rfl
   | true =>
    rw [qky n x hn ht]
    simp only [cond_true,Option.bind_some,Bool.not_true,Bool.false_or]
    cases decide (f = [])<;>cases decide (k6t x=0)<;>rfl
theorem j82 (s:Yy) (hp:q4u s=true) : ∃ f,spl 47 [] s=f ++ [q2w s]/\f.all (fun w=>!q1x w) = !anyS (q2y s)/\decide (f = [])=decide (q2y s = []):=by
 have key : ∀b,anyS b = !((spl 47 [] b).all fun x=>!q1x x):=fun b=>by unfold anyS;rw [List.any_eq_not_all_not]
 rcases jns s with ⟨_,a,b,c⟩|⟨he,hs,hc⟩
 ·refine ⟨[],by rw [b,c];rfl,?_,by rw [a];rfl⟩
  rw [a];decide
 ·refine ⟨spl 47 [] (q2y s),hc,?_,?_⟩
  ·rw [key,Bool.not_not]
  ·have h1:=jpr 47 (q2y s) []
   have h2:q2y s ≠ []:=fun h=>by
    have:=(qli hp).2
    rw [hc,h] at this
    simp [spl] at this
    exact absurd this.1 (by decide)
   simp [h1,h2]
theorem qoy (n:Nat) (s:Yy) (hL:s.length<=1000) (hn:2000<=n):q4m n s=some (okS s):=by
 unfold q4m okS
 rw [qhe n s (by omega) (by omega)]
 cases hp:q4u s with
 | false=>rfl
 | true =>
  obtain ⟨f,e1,e2,e3⟩:=j82 s hp
  have hlen:=q4y 47 s []
  have hw : ∀w∈spl 47 [] s,w.length<=s.length:=fun w hm=>by have:=q62 47 s [] w hm;simpa using this
  rw [show (47:Int)=(((47:UInt8).toNat:Nat):Int) from rfl,q3n n s 47 (by omega) (by omega)]
  rw [e1] at hlen hw ⊢
  have hlen2:f.length+1<=s.length+1:=by simpa using hlen.2
  have hlp:=qoa n f (q2w s) (by omega) (fun w hm=>⟨by have:=hw w hm;omega,by have:=hw w hm;omega⟩) (by omega) n 0 (Nat.zero_le _) (by omega)
  rw [show ((0:Nat):Int)=(0:Int) from rfl] at hlp
  simp only [Option.bind_some,Bool.not_true,cond_false,hlp,List.drop_zero,e2,e3,Bool.true_and]
  cases ht:q1x (q2w s) with
  | false=>cases anyS (q2y s)<;>rfl
  | true =>
   rw [j95 ht]
   generalize (q2w s).drop 1=d
   cases hf:qyf d with
   | false=>cases anyS (q2y s)<;>simp
   | true =>
    have n0 : ¬ numOf d=0:=by have:=(jal hf).1;omega
    cases anyS (q2y s)<;>cases decide (q2y s = [])<;>simp [n0]
theorem qwn (n:Nat) (s:Yy) (hL:s.length<=1000000) : ∀m j:Nat,j<=s.length->j<m->q8e n m s ((j:Int) - 1)=some (if q9a 47 (s.take j).reverse = -1 then Sum.inr ((),((),())) else Sum.inl ((s.take (q9a 47 (s.take j).reverse).toNat,()),((),())))
 | 0,j,_,h=>absurd h (Nat.not_lt_zero _)
 | m+1,0,_,_=>by
  rw [q9f]
  unfold qkh
  simp [q9a]
 | m+1,j+1,hj,h=>by
  rw [q9f]
  unfold qkh
  have e1:((j+1:Nat):Int) - 1=((j:Nat):Int):=by omega
  have ih:=qwn n s hL m j (by omega) (by omega)
  have w1:IntKind.wrap .i64 (((j:Nat):Int) - 1)=((j:Nat):Int) - 1:=wrap64 (by omega) (by omega)
  have c0:(0:Int)<=((j:Nat):Int):=by omega
  have d1:decide (((s[j].toNat:Nat):Int)=(47:Int))=decide (s[j]=47):=decide_eq_decide.2 (by
   constructor
   ·intro h;exact UInt8.toNat_inj.1 (by have e:(47:UInt8).toNat=47:=rfl;rw [e];omega)
   ·intro h;rw [h];rfl)
  rw [e1]
  simp only [c0,decide_true,cond_true,q1l (show j<s.length by omega),Option.bind_some,d1,q04,w1,ih,qil s j (by omega),q9a,sub_zero (show j<=s.length by omega)]
  by_cases h0:s[j]=47
  ·have l1:(s.take j).reverse.length=j:=by simp;omega
   simp only [h0,decide_true,cond_true,if_true,l1]
   rw [if_neg (by omega),Int.toNat_natCast]
  ·simp [h0]
theorem je7 (n:Nat) (s:Yy) (hL:s.length<=1000000) (hn:s.length<n):qqk n s=some (q2y s):=by
 unfold qqk q2y qah
 have:=qwn n s hL n s.length (Nat.le_refl _) hn
 have w1:IntKind.wrap .i64 (((s.length:Nat):Int) - 1)=((s.length:Nat):Int) - 1:=wrap64 (by omega) (by omega)
 simp only [q04,w1,this,List.take_length]
 by_cases h:q9a 47 s.reverse = -1
 ·simp [h]
 ·simp [h]
theorem j8r (n:Nat) (s:Yy) (hL:s.length<=1000) (hn:2000<=n):qe3 n s=some (qe8 s):=by
 unfold qe3 qe8
 rw [qoy n s hL hn]
 cases ho:okS s with
 | false=>rfl
 | true =>
  obtain ⟨f,e1,_,_⟩:=j82 s (jd6 ho).1
  have hll:=jl9 s
  have hlen:=q4y 47 s []
  rw [e1] at hlen
  have hlen2:f.length+1<=s.length+1:=by simpa using hlen.2
  rw [show (47:Int)=(((47:UInt8).toNat:Nat):Int) from rfl,q3n n s 47 (by omega) (by omega),e1]
  have hl2:(f ++ [q2w s]).length=f.length+1:=by simp
  have w1:IntKind.wrap .i64 ((((f ++ [q2w s]).length:Nat):Int) - 1)=((f.length:Nat):Int):=by rw [hl2,wrap64 (by omega) (by omega)];omega
  have hx:q0n (f ++ [q2w s]) ((f.length:Nat):Int)=some (q2w s):=by
   have:=q1c (l:=f ++ [q2w s]) (j:=f.length) (by rw [hl2];omega)
   rw [this];simp
  simp only [Option.bind_some,Bool.not_true,cond_false,q04,w1,hx,qo2 n (q2w s) (by omega) (by omega),if_true]
  cases ht:q1x (q2w s) with
  | false=>rfl
  | true =>
   have hf:=((jd6 ho).2.2 ht).1
   simp only [Bool.not_true,cond_false,je7 n s (by omega) (by omega),qky n (q2w s) (by omega) ht,j95 ht,hf,if_true,Option.bind_some]
theorem jff (n:Nat) (s:Yy) (v:VD) (hL:s.length<=1000) (hn:2000<=n):qfr n s v=some (qco s v):=by
 unfold qfr qco
 rw [j8r n s hL hn,qap n v (by omega)]
 simp only [Option.bind_some,j5d]
 cases okS s with
 | false=>rfl
 | true=>cases hc:q1b v with
  | false=>rfl
  | true =>
   have h1:=(q1k hc).1
   simp only [Bool.not_true,cond_false,Bool.true_and]
   by_cases c0:(qe8 s).2.1=0
   ·rw [c0]
    by_cases c1:v.1=0
    ·simp [c1]
    ·have:decide (v.1=1)=decide (v.1<2):=decide_eq_decide.2 (by omega)
     simp [c1,this]
   ·by_cases c1:v.1=(qe8 s).2.1
    ·simp [c0,c1]
    ·simp [c0,c1]
end Go.Proofs.YtapfankgdkdkgaaGreatDoor.AM
namespace Go.Proofs.YtapfankgdkdkgaaGreatDoor.AM
open Go.RowKit
set_option synthInstance.maxSize 100000
set_option synthInstance.maxHeartbeats 0
theorem k39 (x y:VD):(decide (x.1=y.1)&&(decide (x.2.1=y.2.1)&&(decide (x.2.2.1=y.2.2.1)&&(decide (x.2.2.2.1=y.2.2.2.1)&&(decide (x.2.2.2.2=y.2.2.2.2)&&true)))))=decide (x=y):=by
 obtain ⟨x1,x2,x3,x4,x5⟩:=x
 obtain ⟨y1,y2,y3,y4,y5⟩:=y
 simp only [Prod.mk.injEq,Bool.decide_and,Bool.and_true]
theorem k5x (x y:Rq):(decide (x.1=y.1)&&((decide (x.2.1=y.2.1)&&(decide (x.2.2.1=y.2.2.1)&&(decide (x.2.2.2.1=y.2.2.2.1)&&(decide (x.2.2.2.2.1=y.2.2.2.2.1)&&(decide (x.2.2.2.2.2=y.2.2.2.2.2)&&true)))))&&true))=decide (x=y):=by
 rw [k39]
 obtain ⟨x1,x2⟩:=x
 obtain ⟨y1,y2⟩:=y
 simp only [Prod.mk.injEq,Bool.decide_and,Bool.and_true]
theorem zI:((0:Nat):Int)=(0:Int):=rfl
def ML (k:Nat) (m:MD):Prop:=m.2.2.1.length<=k/\m.2.2.2.1.length<=k/\m.2.2.2.2.1.length<=k/\m.2.2.2.2.2.length<=k
def k32 (q:Rq):Bool:=decide (q.1.length<=200)&&(decide (q.2.2.2.2.1.length<=200)&&decide (q.2.2.2.2.2.length<=200))
theorem leI (a b:Nat):decide (((a:Nat):Int)<=((b:Nat):Int))=decide (a<=b):=by
 by_cases h:a<=b
 ·rw [decide_eq_true h,decide_eq_true (by omega)]
 ·rw [decide_eq_false h,decide_eq_false (by omega)]
theorem gtI {β:Type} (a:List β) (k:Nat):decide (((k:Nat):Int)<((a.length:Nat):Int)) = !decide (a.length<=k):=by
 by_cases h:a.length<=k
 ·rw [decide_eq_true h,decide_eq_false (by omega)];rfl
 ·rw [decide_eq_false h,decide_eq_true (by omega)];rfl
end Go.Proofs.YtapfankgdkdkgaaGreatDoor.AM
