
import Derived.Test.YtapfankgdkdkgaaGreatDoorEb12
import Derived.Test.YtapfankgdkdkgaaGreatDoorEb13
import Derived.Test.YtapfankgdkdkgaaGreatDoorEb17
import Derived.Test.YtapfankgdkdkgaaGreatDoorEb19
import Derived.Test.YtapfankgdkdkgaaGreatDoorEb21
set_option linter.unusedVariables false
set_option linter.unusedSimpArgs false
namespace Go.Proofs.YtapfankgdkdkgaaGreatDoor.AM
open Go.RowKit
theorem qsn : ∀(k:Nat) (a:Int),0<=a->a<10 ^ (k+1)->k<=15->q1o (k+1) a=some (Lib.itoa a):=by
 intro k
 induction k with
 | zero =>
  intro a h0 h1 _
  have h1':a<10:=by simpa using h1
  unfold q1o
  have e1:jj4 a 10=some (a % 10):=by unfold jj4;rw [if_pos (by decide),Int.tmod_eq_emod_of_nonneg h0]
  have w1:IntKind.wrap .i64 (48+a % 10)=48+a % 10:=wrap64 (by omega) (by omega)
  have w2:IntKind.wrap .u8 (48+a % 10)=48+a % 10:=jpw (by omega) (by omega)
  have c1 : ¬ (10:Int)<=a:=by omega
  simp only [e1,Option.bind_some,q00,w1,w2,c1,decide_false,cond_false]
  rw [j1a h0,if_pos h1']
  simp only [List.map_cons,List.map_nil]
  rw [show (48+a % 10).toNat=48+a.toNat from by omega]
 | succ k ih =>
  intro a h0 h1 hk
  unfold q1o
  have e1:jj4 a 10=some (a % 10):=by unfold jj4;rw [if_pos (by decide),Int.tmod_eq_emod_of_nonneg h0]
  have w1:IntKind.wrap .i64 (48+a % 10)=48+a % 10:=wrap64 (by omega) (by omega)
  have w2:IntKind.wrap .u8 (48+a % 10)=48+a % 10:=jpw (by omega) (by omega)
  have hp:(10:Int) ^ (k+1+1)=10*10 ^ (k+1):=by rw [Int.pow_succ];omega
  have hb:(10:Int) ^ (k+1)<=10 ^ 16:=by
   have:=Nat.pow_le_pow_right (n:=10) (by decide) (show k+1<=16 by omega)
   have e2:((10 ^ (k+1):Nat):Int)=(10:Int) ^ (k+1):=by simp
   have e3:((10 ^ 16:Nat):Int)=(10:Int) ^ 16:=by simp
   rw [<-e2,<-e3];omega
  have e9:(10:Int) ^ 16=10000000000000000:=by decide
  rw [hp] at h1
  rw [e9] at hb
  simp only [e1,Option.bind_some,q00,w1,w2]
  rw [j1a h0]
  by_cases c1:(10:Int)<=a
  ·have q1:jnf .i64 a 10=some (a / 10):=by
    unfold jnf;rw [if_pos (by decide),Int.tdiv_eq_ediv_of_nonneg h0,wrap64 (by omega) (by omega)]
   have i1:=ih (a / 10) (by omega) (by omega) (by omega)
   have c2 : ¬ a<10:=by omega
   have hlen:(Lib.itoa (a / 10)).length<=20:=by
    rw [q0z (by omega)]
    have:=qby 19 (a / 10).toNat (by omega)
    omega
   simp only [c1,decide_true,cond_true,q1,Option.bind_some,i1,c2,if_false,List.map_cons,List.map_nil]
   rw [q2d (by simp;omega)]
   rw [show (48+a % 10).toNat=48+(a % 10).toNat from by omega]
   rfl
  ·have c2:a<10:=by omega
   simp only [c1,c2,decide_false,cond_false,if_true,List.map_cons,List.map_nil]
   rw [show (48+a % 10).toNat=48+a.toNat from by omega]
theorem qzh (n:Nat) {a:Int} (h:0<=a/\a<=999999999) (hn:10<=n) : ∀k,n=k+10->q1o n a=some (Lib.itoa a):=by
 have more : ∀(k:Nat) (a:Int) (r:Yy),q1o k a=some r->q1o (k+1) a=some r:=by
  intro k
  induction k with
  | zero=>intro a r hr;cases hr
  | succ k ih =>
   intro a r hr
   rw [q1o] at hr ⊢
   cases e1:jj4 a 10 with
   | none=>rw [e1] at hr;cases hr
   | some n1 =>
    rw [e1] at hr
    simp only [Option.bind_some,q00] at hr ⊢
    by_cases c1:(10:Int)<=a
    ·simp only [c1,decide_true,cond_true] at hr ⊢
     cases e2:jnf .i64 a 10 with
     | none=>rw [e2] at hr;cases hr
     | some n4 =>
      rw [e2] at hr
      simp only [Option.bind_some] at hr ⊢
      cases e3:q1o k n4 with
      | none=>rw [e3] at hr;cases hr
      | some r5 =>
       rw [e3] at hr
       rw [ih n4 r5 e3]
       exact hr
    ·simp only [c1,decide_false,cond_false] at hr ⊢
     exact hr
 intro k
 induction k generalizing n with
 | zero =>
  rintro rfl
  exact qsn 9 a h.1 (by
                  have:(10:Int) ^ (9+1)=10000000000:=by decide
                  rw [this];omega) (by decide)
 | succ k ih =>
  rintro rfl
  exact more _ _ _ (ih (k+10) (by omega) rfl)
theorem qbg (n:Nat) {a:Int} (h:0<=a/\a<=999999999) (hn:10<=n):q1o n a=some (Lib.itoa a):=qzh n h hn (n - 10) (by omega)
theorem j4l (n:Nat) (v:VD) (hn:100<=n):q6p n v=some (q0b v):=by
 unfold q6p q0b
 rw [q7d n v hn]
 cases hc:q0r v with
 | false=>rfl
 | true =>
  obtain ⟨h1,h2,h3,h4,h5⟩:=q1a hc
  have l1:=q7l h1
  have l2:=q7l h2
  have l3:=q7l h3
  have t1:=q4a h4
  have t2:=q4a h5
  simp only [Option.bind_some,Bool.not_true,cond_false,qbg n h1 (by omega),qbg n h2 (by omega),qbg n h3 (by omega),if_true]
  unfold j71 q4k
  generalize Lib.itoa v.1=A at l1
  generalize Lib.itoa v.2.1=B at l2
  generalize Lib.itoa v.2.2.1=C at l3
  generalize v.2.2.2.1=p at t1
  generalize v.2.2.2.2=q at t2
  rw [q2d (by simp;omega)];simp only [Option.bind_some]
  rw [q2d (by simp;omega)];simp only [Option.bind_some]
  rw [q2d (by simp;omega)];simp only [Option.bind_some]
  rw [q2d (by simp;omega)];simp only [Option.bind_some]
  rw [q2d (by simp;omega)];simp only [Option.bind_some]
  by_cases hp:p = []
  ·by_cases hq:q = []
   ·simp [hp,hq]
   ·simp only [hp,hq,decide_true,decide_false,Bool.not_true,Bool.not_false,cond_true,cond_false]
    rw [q2d (by simp;omega)];simp only [Option.bind_some]
    rw [q2d (by simp;omega)]
    simp
  ·by_cases hq:q = []
   ·simp only [hp,hq,decide_true,decide_false,Bool.not_true,Bool.not_false,cond_true,cond_false]
    rw [q2d (by simp;omega)];simp only [Option.bind_some]
    rw [q2d (by simp;omega)]
    simp
   ·simp only [hp,hq,decide_true,decide_false,Bool.not_true,Bool.not_false,cond_true,cond_false]
    rw [q2d (by simp;omega)];simp only [Option.bind_some]
    rw [q2d (by simp;omega)];simp only [Option.bind_some]
    rw [q2d (by simp;omega)];simp only [Option.bind_some]
    rw [q2d (by simp;omega)]
    simp
theorem qi3 (n:Nat) (s:Yy) (c:UInt8) (hs:s.length<=1000000) : ∀m j:Nat,j<=s.length->s.length - j<m->q8p n m s ((c.toNat:Nat):Int) (j:Int)=some (if Lib.index (s.drop j) [c] = -1 then Sum.inr ((),((),())) else Sum.inl (((j:Int)+Lib.index (s.drop j) [c],()),((),())))
 | 0,j,_,h=>absurd h (Nat.not_lt_zero _)
 | m+1,j,hj,h=>by
  rw [qgv]
  unfold qr4
  by_cases c0:j<s.length
  ·have c0':((j:Nat):Int)<((s.length:Nat):Int):=by omega
   have ih:=qi3 n s c hs m (j+1) (by omega) (by omega)
   have hd:s.drop j=s[j]::s.drop (j+1):=(List.drop_eq_getElem_cons c0)
   have hc:decide (((s[j].toNat:Nat):Int)=((c.toNat:Nat):Int))=decide (s[j]=c):=by
    apply decide_eq_decide.2
    constructor
    ·intro hh;exact UInt8.toNat_inj.1 (by omega)
    ·intro hh;rw [hh]
   simp only [c0',decide_true,cond_true,q1h c0,Option.bind_some,q00,q05 (show j<4611686018427387904 by omega),hc,hd]
   by_cases h1:s[j]=c
   ·have:=index_self c (s.drop (j+1))
    rw [h1,this]
    simp
   ·rw [qhc h1]
    simp only [h1,decide_false,cond_false,ih]
    have hge:=Lib.index_ge (s.drop (j+1)) [c]
    by_cases h2:Lib.index (s.drop (j+1)) [c] = -1
    ·simp [h2]
    ·have h3 : ¬ (Lib.index (s.drop (j+1)) [c] == -1)=true:=fun e=>h2 (beq_iff_eq.1 e)
     have h4 : ¬ Lib.index (s.drop (j+1)) [c]+1 = -1:=by omega
     rw [if_neg h3,if_neg h4,if_neg h2]
     congr 4
     omega
  ·have c0' : ¬ ((j:Nat):Int)<((s.length:Nat):Int):=by omega
   have hd:s.drop j = []:=List.drop_eq_nil_of_le (by omega)
   have:Lib.index ([]:Yy) [c] = -1:=q5d c [] (by simp)
   simp only [c0',decide_false,cond_false,hd,this,if_true]
theorem qnz (n:Nat) (s:Yy) (c:UInt8) (hs:s.length<=1000000) (hn:s.length<n):q86 n s ((c.toNat:Nat):Int)=some (Lib.index s [c]):=by
 unfold q86
 have h:=qi3 n s c hs n 0 (Nat.zero_le _) (by omega)
 rw [show ((0:Nat):Int)=(0:Int) from rfl,List.drop_zero] at h
 rw [h]
 by_cases h1:Lib.index s [c] = -1
 ·simp [h1]
 ·simp [h1]
theorem qj5 (n:Nat) (s:Yy) (hs:s.length<=9) (hd:s.all q0t=true) : ∀(m j:Nat) (a:Int),j<=s.length->s.length - j<m->0<=a->a<10 ^ j->q8f n m s a (j:Int)=some ((q90 a (s.drop j),()),((),()))
 | 0,j,_,_,h,_,_=>absurd h (Nat.not_lt_zero _)
 | m+1,j,a,hj,h,ha,hb=>by
  rw [qgn]
  unfold qpm
  by_cases c0:j<s.length
  ·have c0':((j:Nat):Int)<((s.length:Nat):Int):=by omega
   have hdr:s.drop j=s[j]::s.drop (j+1):=(List.drop_eq_getElem_cons c0)
   have hdg:=List.all_eq_true.1 hd s[j] (List.getElem_mem c0)
   unfold q0t at hdg
   simp only [Bool.and_eq_true,decide_eq_true_eq] at hdg
   have hp:(10:Int) ^ (j+1)=10*10 ^ j:=by rw [Int.pow_succ];omega
   have hbb:(10:Int) ^ j<=10 ^ 9:=by
    have:=Nat.pow_le_pow_right (n:=10) (by decide) (show j<=9 by omega)
    have e2:((10 ^ j:Nat):Int)=(10:Int) ^ j:=by simp
    have e3:((10 ^ 9:Nat):Int)=(10:Int) ^ 9:=by simp
    rw [<-e2,<-e3];omega
   have e9:(10:Int) ^ 9=1000000000:=by decide
   rw [e9] at hbb
   have ih:=qj5 n s hs hd m (j+1) (10*a+s[j].toNat - 48) (by omega) (by omega) (by omega) (by rw [hp];omega)
   have w1:IntKind.wrap .i64 (10*a)=10*a:=wrap64 (by omega) (by omega)
   have w2:IntKind.wrap .i64 ((s[j].toNat:Nat):Int)=((s[j].toNat:Nat):Int):=wrap64 (by omega) (by omega)
   have w3:IntKind.wrap .i64 (10*a+((s[j].toNat:Nat):Int))=10*a+((s[j].toNat:Nat):Int):=wrap64 (by omega) (by omega)
   have w4:IntKind.wrap .i64 (10*a+((s[j].toNat:Nat):Int) - 48)=10*a+((s[j].toNat:Nat):Int) - 48:=wrap64 (by omega) (by omega)
   simp only [c0',decide_true,cond_true,q1h c0,Option.bind_some,q00,q05 (show j<4611686018427387904 by omega),w1,w2,w3,w4,ih]
   rw [hdr,q90]
  ·have c0' : ¬ ((j:Nat):Int)<((s.length:Nat):Int):=by omega
   have hdr:s.drop j = []:=List.drop_eq_nil_of_le (by omega)
   simp only [c0',decide_false,cond_false,hdr,q90]
theorem qfl (n:Nat) (s:Yy) (hs:s.length<=1000000) (hn:s.length<n/\10<=n):q1b n s=some (qb0 s):=by
 unfold q1b qb0
 rw [q6d n s hs hn.1]
 cases hd:q29 s with
 | false=>rfl
 | true =>
  by_cases h9:s.length<=9
  ·have c1 : ¬ (9:Int)<((s.length:Nat):Int):=by omega
   have ha:s.all q0t=true:=by unfold q29 at hd;simp only [Bool.and_eq_true] at hd;exact hd.1
   have h:=qj5 n s h9 ha n 0 0 (Nat.zero_le _) (by omega) (by decide) (by decide)
   rw [show ((0:Nat):Int)=(0:Int) from rfl,List.drop_zero] at h
   simp only [Option.bind_some,Bool.not_true,cond_false,c1,decide_false,h,h9,decide_true,Bool.and_self,if_true]
  ·have c1:(9:Int)<((s.length:Nat):Int):=by omega
   simp only [Option.bind_some,Bool.not_true,cond_false,c1,decide_true,cond_true,h9,decide_false,Bool.and_false,Bool.false_eq_true,if_false]
def j5u (s:Yy) (l:List Yy) (p b:Yy):VD×Bool:=match l with
 | [x,y,z]=>if q0b (qb0 x,(qb0 y,(qb0 z,(p,b))))=s then ((qb0 x,(qb0 y,(qb0 z,(p,b)))),true) else (v0,false)
 | _=>(v0,false)
theorem qvn (n:Nat) (s r p b:Yy) (hr:r.length<=1000) (hn:2000<=n) :
  ((q0d n r (46:Int)).bind fun (r11:List Yy)=>(bif !decide (((List.length r11:Nat):Int)=(3:Int)) then some (((0:Int),((0:Int),((0:Int),(([]:Yy),([]:Yy))))),false) else (q0f r11 (0:Int)).bind fun (x12:Yy)=>(q1b n x12).bind fun (r13:Int)=>(q0f r11 (1:Int)).bind fun (x14:Yy)=>(q1b n x14).bind fun (r15:Int)=>(q0f r11 (2:Int)).bind fun (x16:Yy)=>(q1b n x16).bind fun (r17:Int)=>(q6p n (r13,(r15,(r17,(p,b))))).bind fun (r18:Yy)=>(bif !decide (r18=s) then some (((0:Int),((0:Int),((0:Int),(([]:Yy),([]:Yy))))),false) else some ((r13,(r15,(r17,(p,b)))),true))))=some (j5u s (spl 46 [] r) p b):=by
 have e1:q0d n r (46:Int)=some (spl 46 [] r):=q36 n r 46 (by omega) (by omega)
 have hm : ∀w∈spl 46 [] r,w.length<=1000:=fun w hw=>by have:=q4l 46 r [] w hw;simp at this;omega
 rw [e1]
 simp only [Option.bind_some]
 generalize spl 46 [] r=l at hm
 unfold j5u
 match l,hm with
 | [],_=>simp
 | [_],_=>simp
 | [_,_],_=>simp
 | [x,y,z],hm =>
  have hx:=hm x (by simp)
  have hy:=hm y (by simp)
  have hz:=hm z (by simp)
  have i0:q0f [x,y,z] (0:Int)=some x:=rfl
  have i1:q0f [x,y,z] (1:Int)=some y:=rfl
  have i2:q0f [x,y,z] (2:Int)=some z:=rfl
  have c3:((List.length [x,y,z]:Nat):Int)=3:=by simp
  simp only [c3,decide_true,Bool.not_true,cond_false,i0,i1,i2,Option.bind_some,qfl n x (by omega) ⟨by omega,by omega⟩,qfl n y (by omega) ⟨by omega,by omega⟩,qfl n z (by omega) ⟨by omega,by omega⟩,j4l n _ (show 100<=n by omega)]
  by_cases h:q0b (qb0 x,(qb0 y,(qb0 z,(p,b))))=s
  ·simp only [h,decide_true,Bool.not_true,cond_false,if_true]
  ·simp only [h,decide_false,Bool.not_false,cond_true,if_false]
 | _::_::_::_::t,_ =>
  have : ¬ ((((t.length+1+1+1+1:Nat)):Int)=3):=by omega
  simp only [List.length_cons,this,decide_false,Bool.not_false,cond_true]
theorem qxq (n:Nat) (s:Yy) (hs:s.length<=200) (hn:2000<=n):q3y n s=some (q09 s):=by
 have goal:q3y n s=some (if s.length<=100/\s.head? = some 118 then j5u s (spl 46 [] (q2b 45 (q2b 43 (s.drop 1)))) (q5e 45 (q2b 43 (s.drop 1))) (q5e 43 (s.drop 1)) else (v0,false)):=by
  unfold q3y
  by_cases c1:(100:Int)<((s.length:Nat):Int)
  ·have : ¬ s.length<=100:=by omega
   simp [c1,this]
  ·have c1':s.length<=100:=by omega
   cases s with
   | nil=>simp
   | cons c r =>
    have c2 : ¬ (((c::r).length:Nat):Int)=0:=by simp;omega
    have i0:sAt (c::r) (0:Int)=some ((c.toNat:Nat):Int):=q1h (s:=c::r) (j:=0) (by simp)
    have h1:decide (((c.toNat:Nat):Int)=(118:Int))=decide (c=118):=decide_eq_decide.2 (by
     constructor
     ·intro h;exact UInt8.toNat_inj.1 (by have e:(118:UInt8).toNat=118:=rfl;rw [e];omega)
     ·rintro rfl;rfl)
    have s1:q0w (c::r) (1:Int) (((c::r).length:Nat):Int)=some r:=by
     have:=sub_le (l:=c::r) (a:=1) (b:=(c::r).length) (by simp) (Nat.le_refl _)
     rw [show (1:Int)=((1:Nat):Int) from rfl,this];simp
    simp only [c1,c2,decide_false,cond_false,i0,Option.bind_some,h1,c1',true_and,List.head?_cons,Option.some.injEq,List.drop_succ_cons,List.drop_zero]
    by_cases h118:c=118
    ·subst h118
     have hr:r.length<=200:=by simp at c1';omega
     have f43:q86 n r (43:Int)=some (Lib.index r [43]):=qnz n r 43 (by omega) (by omega)
     simp only [decide_true,Bool.not_true,cond_false,s1,Option.bind_some,f43,if_true]
     have cut45 : ∀(q b:Yy),q.length<=200 ->
       ((
        q86 n q (45:Int)).bind fun (r7:Int)=>(bif decide ((0:Int)<=r7) then q00 (IntKind.wrap .i64 (r7+(1:Int))) fun (n8:Int)=>(q0w q n8 ((List.length q:Nat):Int)).bind fun (s9:Yy)=>(q0w q (0:Int) r7).bind fun (s10:Yy)=>(q0d n s10 (46:Int)).bind fun (r11:List Yy)=>(bif !decide (((List.length r11:Nat):Int)=(3:Int)) then some (((0:Int),((0:Int),((0:Int),(([]:Yy),([]:Yy))))),false) else (q0f r11 (0:Int)).bind fun (x12:Yy)=>(q1b n x12).bind fun (r13:Int)=>(q0f r11 (1:Int)).bind fun (x14:Yy)=>(q1b n x14).bind fun (r15:Int)=>(q0f r11 (2:Int)).bind fun (x16:Yy)=>(q1b n x16).bind fun (r17:Int)=>(q6p n (r13,(r15,(r17,(s9,b))))).bind fun (r18:Yy)=>(bif !decide (r18=118::r) then some (((0:Int),((0:Int),((0:Int),(([]:Yy),([]:Yy))))),false) else some ((r13,(r15,(r17,(s9,b)))),true)))
        else (q0d n q (46:Int)).bind fun (r19:List Yy)=>(bif !decide (((List.length r19:Nat):Int)=(3:Int)) then some (((0:Int),((0:Int),((0:Int),(([]:Yy),([]:Yy))))),false) else (q0f r19 (0:Int)).bind fun (x20:Yy)=>(q1b n x20).bind fun (r21:Int)=>(q0f r19 (1:Int)).bind fun (x22:Yy)=>(q1b n x22).bind fun (r23:Int)=>(q0f r19 (2:Int)).bind fun (x24:Yy)=>(q1b n x24).bind fun (r25:Int)=>(q6p n (r21,(r23,(r25,(([]:Yy),b))))).bind fun (r26:Yy)=>(bif !decide (r26=118::r) then some (((0:Int),((0:Int),((0:Int),(([]:Yy),([]:Yy))))),false) else some ((r21,(r23,(r25,(([]:Yy),b)))),true)))))=some (j5u (118::r) (spl 46 [] (q2b 45 q)) (q5e 45 q) b):=by
      intro q b hq
      have f45:q86 n q (45:Int)=some (Lib.index q [45]):=qnz n q 45 (by omega) (by omega)
      rw [f45]
      simp only [Option.bind_some]
      have hge:=Lib.index_ge q [45]
      unfold q2b q5e
      by_cases k1:Lib.index q [45] = -1
      ·have k2 : ¬ (0:Int)<=-1:=by decide
       simp only [k1,k2,decide_false,cond_false,if_true]
       exact qvn n (118::r) q [] b (by omega) hn
      ·obtain ⟨i,hi⟩ : ∃ i:Nat,Lib.index q [45]=(i:Int):=⟨(Lib.index q [45]).toNat,by omega⟩
       have hlt:=qh0 45 q i hi
       have n1 : ¬ ((i:Nat):Int) = -1:=by omega
       have n2:(0:Int)<=((i:Nat):Int):=by omega
       rw [hi]
       have e6:(q.drop (i+1)).take (q.length - (i+1))=q.drop (i+1):=List.take_of_length_le (by rw [List.length_drop];exact Nat.le_refl _)
       simp only [n1,n2,decide_true,cond_true,if_false,q00,q05 (show i<4611686018427387904 by omega),sub_le (show i+1<=q.length by omega) (Nat.le_refl _),sub_zero (show i<=q.length by omega),Option.bind_some,Int.toNat_natCast,e6]
       exact qvn n (118::r) (q.take i) (q.drop (i+1)) b (by rw [List.length_take];omega) hn
     have hge:=Lib.index_ge r [43]
     by_cases k1:Lib.index r [43] = -1
     ·have k2 : ¬ (0:Int)<=-1:=by decide
      have u1:q2b 43 r=r:=by unfold q2b;rw [if_pos k1]
      have u2:q5e 43 r = []:=by unfold q5e;rw [if_pos k1]
      simp only [k1,k2,decide_false,cond_false,u1,u2]
      exact cut45 r [] hr
     ·obtain ⟨i,hi⟩ : ∃ i:Nat,Lib.index r [43]=(i:Int):=⟨(Lib.index r [43]).toNat,by omega⟩
      have hlt:=qh0 43 r i hi
      have n1 : ¬ ((i:Nat):Int) = -1:=by omega
      have n2:(0:Int)<=((i:Nat):Int):=by omega
      have u1:q2b 43 r=r.take i:=by unfold q2b;rw [if_neg k1,hi,Int.toNat_natCast]
      have u2:q5e 43 r=r.drop (i+1):=by unfold q5e;rw [if_neg k1,hi,Int.toNat_natCast]
      rw [hi]
      have e6:(r.drop (i+1)).take (r.length - (i+1))=r.drop (i+1):=List.take_of_length_le (by rw [List.length_drop];exact Nat.le_refl _)
      simp only [n2,decide_true,cond_true,q00,q05 (show i<4611686018427387904 by omega),sub_le (show i+1<=r.length by omega) (Nat.le_refl _),sub_zero (show i<=r.length by omega),Option.bind_some,u1,u2,e6]
      exact cut45 (r.take i) (r.drop (i+1)) (by rw [List.length_take];omega)
    ·simp [h118]
 rw [goal]
 congr 1
 by_cases ex : ∃ v,q0r v=true/\q0b v=s
 ·obtain ⟨v,hc,ht⟩:=ex
  rw [j3a hc ht]
  have e1:s=j71 v:=by rw [<-ht];unfold q0b;rw [if_pos hc]
  have hl:=jc3 hc
  have hcand:=j7s hc
  rw [<-e1] at hl hcand
  rw [if_pos ⟨by omega,by rw [e1];rfl⟩]
  unfold jlq at hcand
  unfold j5u
  split at hcand
  ·rename_i x y z hsp
   rw [hsp]
   have hv:=Option.some.inj hcand
   simp only [hv]
   rw [if_pos ht]
  ·cases hcand
 ·have hno : ∀v,q0r v=true->q0b v≠s:=fun v h1 h2=>ex ⟨v,h1,h2⟩
  rw [qne hno]
  by_cases c:s.length<=100/\s.head? = some 118
  ·rw [if_pos c]
   unfold j5u
   split
   ·rename_i x y z hsp
    rw [if_neg]
    intro ht
    have hne:s ≠ []:=fun e=>by rw [e] at c;simp at c
    refine hno _ ?_ ht
    unfold q0b at ht
    split at ht
    ·assumption
    ·exact absurd ht.symm hne
   ·rfl
  ·rw [if_neg c]
theorem jhv : ∀n:Nat,0<n->(Lib.decDigits n).head? ≠ some 48:=by
 intro n
 induction n using Nat.strongRecOn with
 | _ n ih =>
  intro h0
  rw [Lib.decDigits]
  split
  ·rename_i h
   intro h2
   have h3:UInt8.ofNat (48+n)=48:=by simpa using h2
   have h4:=congrArg UInt8.toNat h3
   rw [UInt8.toNat_ofNat'] at h4
   have e48:(48:UInt8).toNat=48:=rfl
   rw [e48] at h4;omega
  ·rename_i h
   have:=ih (n / 10) (by omega) (by omega)
   have hne:=(qjt (n / 10)).2
   generalize Lib.decDigits (n / 10)=l at this hne
   cases l with
   | nil=>exact absurd rfl hne
   | cons b r=>simpa using this
theorem jbe : ∀(k:Nat) (d:Yy),d.length=k->d.all q0t=true->d ≠ []->d.head? ≠ some 48->Lib.decDigits (q90 0 d).toNat=d
 | 0,d,hk,_,hne,_=>absurd (List.eq_nil_of_length_eq_zero hk) hne
 | k+1,d,hk,hd,hne,h48=>by
  obtain ⟨l,c,rfl⟩ : ∃ l c,d=l ++ [c]:=⟨d.dropLast,d.getLast hne,(List.dropLast_concat_getLast hne).symm⟩
  have hl:l.length=k:=by simpa using hk
  rw [List.all_append,Bool.and_eq_true] at hd
  have hc:q0t c=true:=by simpa using hd.2
  have hc2:48<=c.toNat/\c.toNat<=57:=by unfold q0t at hc;simpa using hc
  have hb:=qek l 0 (by decide) hd.1
  rw [qpb]
  have e1:q90 (q90 0 l) [c]=10*q90 0 l+c.toNat - 48:=by simp only [q90]
  rw [e1,Lib.decDigits]
  have uc:UInt8.ofNat (48+(c.toNat - 48))=c:=by
   have:48+(c.toNat - 48)=c.toNat:=by omega
   rw [this];simp
  by_cases h0:l = []
  ·subst h0
   have:(10*q90 0 ([]:Yy)+(c.toNat:Int) - 48).toNat=c.toNat - 48:=by show (10*(0:Int)+(c.toNat:Int) - 48).toNat=_;omega
   rw [this,dif_pos (by omega),uc];rfl
  ·have hh:l.head? ≠ some 48:=by
    cases l with
    | nil=>exact absurd rfl h0
    | cons b r=>simpa using h48
   have ih:=jbe k l hl hd.1 h0 hh
   have hpos:q90 0 l≠0:=fun h=>by
    rw [h] at ih
    have e0:Lib.decDigits (0:Int).toNat = [48]:=Lib.decDigits_one (by decide)
    rw [e0] at ih
    rw [<-ih] at hh;exact hh rfl
   have q1:(10*q90 0 l+(c.toNat:Int) - 48).toNat / 10=(q90 0 l).toNat:=by omega
   have q2:(10*q90 0 l+(c.toNat:Int) - 48).toNat % 10=c.toNat - 48:=by omega
   rw [dif_neg (by omega),q1,q2,ih,uc]
def jn1 (w:Yy):Int:=if 10<w.length then 0 else if (w.drop 1).head? = some 48 then 0 else if q90 0 (w.drop 1)<2 then 0 else q90 0 (w.drop 1)
theorem quj {w:Yy} (h:q1l w=true):jn1 w=if qml (w.drop 1) then numOf (w.drop 1) else 0:=by
 have hl:w.length=(w.drop 1).length+1:=by
  cases w with
  | nil=>exact absurd h (by decide)
  | cons b r=>simp
 unfold q1l at h
 simp only [Bool.and_eq_true] at h
 have hd:=h.2
 unfold q29 at hd
 simp only [Bool.and_eq_true,Bool.not_eq_true',decide_eq_false_iff_not] at hd
 unfold jn1
 rw [hl]
 generalize w.drop 1=d at hd
 cases hf:qml d with
 | true =>
  obtain ⟨n0,n1,ne⟩:=qus hf
  have li:=q7l (n:=numOf d) (by omega)
  have ed:Lib.decDigits (numOf d).toNat=d:=by rw [<-q0z (by omega)];exact ne.symm
  have hh:=jhv (numOf d).toNat (by omega)
  have hv:=j1t (numOf d).toNat
  rw [ed] at hh hv
  rw [<-ne] at li
  rw [if_neg (by omega),if_neg hh,hv,if_neg (by omega)]
  show (((numOf d).toNat:Nat):Int)=numOf d
  omega
 | false =>
  by_cases c1:10<d.length+1
  ·rw [if_pos c1];rfl
  by_cases c2:d.head? = some 48
  ·rw [if_neg c1,if_pos c2];rfl
  by_cases c3:q90 0 d<2
  ·rw [if_neg c1,if_neg c2,if_pos c3];rfl
  ·exfalso
   have hb:=qek d 0 (by decide) hd.1
   have hp:(10:Int) ^ d.length<=10 ^ 9:=by
    have:=Nat.pow_le_pow_right (n:=10) (by decide) (show d.length<=9 by omega)
    have e2:((10 ^ d.length:Nat):Int)=(10:Int) ^ d.length:=by simp
    have e3:((10 ^ 9:Nat):Int)=(10:Int) ^ 9:=by simp
    rw [<-e2,<-e3];omega
   have e9:(10:Int) ^ 9=1000000000:=by decide
   rw [e9] at hp
   have ed:=jbe d.length d rfl hd.1 hd.2 c2
   have ei:Lib.itoa (q90 0 d)=d:=by rw [q0z hb.1];exact ed
   have:=(jd3 (n:=q90 0 d) (by omega) (by omega)).1
   rw [ei,hf] at this;cases this
theorem qgm (n:Nat) (s:Yy) (hL:s.length<=1000000) : ∀m j:Nat,j<=s.length+1->s.length+1 - j<m->q4t n m s (j:Int)=some (if (s.drop j).all q0t=true then Sum.inr ((s,()),((),())) else Sum.inl ((false,()),((),())))
 | 0,j,_,h=>absurd h (Nat.not_lt_zero _)
 | m+1,j,hj,h=>by
  rw [qdq]
  unfold qf6
  by_cases c0:j<s.length
  ·have c0':((j:Nat):Int)<((s.length:Nat):Int):=by omega
   have ih:=qgm n s hL m (j+1) (by omega) (by omega)
   have hd:s.drop j=s[j]::s.drop (j+1):=(List.drop_eq_getElem_cons c0)
   have hi:q0t s[j]=(!decide (((s[j].toNat:Nat):Int)<48) && !decide ((57:Int)<((s[j].toNat:Nat):Int))):=by
    unfold q0t
    rw [<-decide_not,<-decide_not]
    congr 1<;>exact decide_eq_decide.2 (by omega)
   simp only [c0',decide_true,cond_true,q1h c0,Option.bind_some,q00,q05 (show j<4611686018427387904 by omega),ih,hd,List.all_cons,hi]
   cases decide (((s[j].toNat:Nat):Int)<48)<;>cases decide ((57:Int)<((s[j].toNat:Nat):Int))<;>simp
  ·have c0' : ¬ ((j:Nat):Int)<((s.length:Nat):Int):=by omega
   have:s.drop j = []:=List.drop_eq_nil_of_le (by omega)
   simp [c0',this]
theorem qg7 (n:Nat) (s:Yy) (hL:s.length<=1000000) (hn:s.length+1<n):q97 n s=some (q1l s):=by
 unfold q97 q1l q29
 have:=qgm n s hL n 1 (by omega) (by omega)
 rw [show ((1:Nat):Int)=(1:Int) from rfl] at this
 rw [this]
 cases s with
 | nil=>rfl
 | cons b r =>
  simp only [List.drop_succ_cons,List.drop_zero,List.head?_cons,Option.some.injEq]
  have h0:sAt (b::r) (0:Int)=some ((b.toNat:Nat):Int):=q1h (s:=b::r) (j:=0) (by simp)
  have h1:decide (((b.toNat:Nat):Int)=(118:Int))=decide (b=118):=decide_eq_decide.2 (by
   constructor
   ·intro h;exact UInt8.toNat_inj.1 (by have e:(118:UInt8).toNat=118:=rfl;rw [e];omega)
   ·rintro rfl;rfl)
  have h2:decide ((1:Int)<(((b::r).length:Nat):Int)) = !decide (r = []):=by
   rw [<-decide_not]
   refine decide_eq_decide.2 ?_
   cases r with
   | nil=>simp
   | cons x y=>simp;omega
  cases hr:r.all q0t with
  | true =>
   simp only [if_true,Option.bind_some,Sum.elim_inr,h2,h0,h1,Bool.true_and]
   cases decide (r = [])<;>simp
  | false=>simp
theorem qd1 (n:Nat) (s:Yy) (hL:s.length<=10) (hd:(s.drop 1).all q0t=true) : ∀(m j:Nat) (a:Int),1<=j->j<=s.length->s.length - j<m->0<=a->a<10 ^ j->q4b n m s a (j:Int)=some ((q90 a (s.drop j),()),((),()))
 | 0,j,a,_,_,h,_,_=>absurd h (Nat.not_lt_zero _)
 | m+1,j,a,hj1,hj,h,ha,hb=>by
  rw [qbp]
  unfold qbr
  by_cases c0:j<s.length
  ·have c0':((j:Nat):Int)<((s.length:Nat):Int):=by omega
   have hp:(10:Int) ^ j<=10 ^ 10:=by
    have:=Nat.pow_le_pow_right (n:=10) (by decide) (show j<=10 by omega)
    have e2:((10 ^ j:Nat):Int)=(10:Int) ^ j:=by simp
    have e3:((10 ^ 10:Nat):Int)=(10:Int) ^ 10:=by simp
    rw [<-e2,<-e3];omega
   have e9:(10:Int) ^ 10=10000000000:=by decide
   rw [e9] at hp
   have hdr:s.drop j=s[j]::s.drop (j+1):=(List.drop_eq_getElem_cons c0)
   have hm:s[j]∈s.drop 1:=by
    have e:s.drop 1=s.drop 1:=rfl
    have:(s.drop 1)[j - 1]'(by simp;omega)=s[j]:=by simp;congr 1;omega
    rw [<-this];exact List.getElem_mem _
   have hc:=List.all_eq_true.1 hd _ hm
   have hc2:48<=s[j].toNat/\s[j].toNat<=57:=by unfold q0t at hc;simpa using hc
   have e10:(10:Int) ^ (j+1)=10*10 ^ j:=by rw [Int.pow_succ];omega
   have ih:=qd1 n s hL hd m (j+1) (10*a+(s[j].toNat:Int) - 48) (by omega) (by omega) (by omega) (by omega) (by rw [e10];omega)
   simp only [c0',decide_true,cond_true,q1h c0,Option.bind_some,q00,q05 (show j<4611686018427387904 by omega)]
   rw [wrap64 (n:=10*a) (by omega) (by omega),wrap64 (n:=((s[j].toNat:Nat):Int)) (by omega) (by omega),wrap64 (n:=10*a+((s[j].toNat:Nat):Int)) (by omega) (by omega),wrap64 (n:=10*a+((s[j].toNat:Nat):Int) - 48) (by omega) (by omega),ih,hdr]
   rfl
  ·have c0' : ¬ ((j:Nat):Int)<((s.length:Nat):Int):=by omega
   have:s.drop j = []:=List.drop_eq_nil_of_le (by omega)
   simp [c0',this,q90]
theorem qdt (n:Nat) (s:Yy) (hn:100<=n) (ht:q1l s=true):q71 n s=some (jn1 s):=by
 have hd:(s.drop 1).all q0t=true/\s.drop 1 ≠ []:=by
  unfold q1l q29 at ht
  simp only [Bool.and_eq_true,Bool.not_eq_true',decide_eq_false_iff_not] at ht
  exact ht.2
 have h2:2<=s.length:=by
  cases s with
  | nil=>exact absurd rfl hd.2
  | cons b r=>cases r with
   | nil=>exact absurd rfl hd.2
   | cons c t=>simp
 unfold q71 jn1
 by_cases c1:10<s.length
 ·have c1':(10:Int)<((s.length:Nat):Int):=by omega
  simp [c1,c1']
 ·have c1' : ¬ (10:Int)<((s.length:Nat):Int):=by omega
  have h0:sAt s (1:Int)=some ((s[1].toNat:Nat):Int):=q1h (s:=s) (j:=1) (by omega)
  have e1:(s.drop 1).head? = some s[1]:=by rw [List.head?_drop];exact List.getElem?_eq_getElem _
  have h1:decide (((s[1].toNat:Nat):Int)=(48:Int))=decide (s[1]=48):=decide_eq_decide.2 (by
   constructor
   ·intro h;exact UInt8.toNat_inj.1 (by have e:(48:UInt8).toNat=48:=rfl;rw [e];omega)
   ·intro h;rw [h];rfl)
  have hlp:=qd1 n s (by omega) hd.1 n 1 0 (by omega) (by omega) (by omega) (by omega) (by decide)
  rw [show ((1:Nat):Int)=(1:Int) from rfl] at hlp
  simp only [c1,c1',decide_false,cond_false,if_false,h0,h1,hlp,Option.bind_some,e1,Option.some.injEq]
  generalize q90 0 (s.drop 1)=V
  by_cases c2:s[1]=48
  ·simp [c2]
  ·by_cases c3:V<2
   ·simp [c2,c3]
   ·simp [c2,c3]
theorem qye (n m:Nat) (l:List Yy):q3i n (m+1) l ((l.length:Nat):Int)=some (Sum.inr ((),((),()))):=by
 rw [q60];unfold qau;simp
theorem qg2 (n:Nat) (f:List Yy) (x:Yy) (hl:f.length<=1000000) (hw : ∀w∈f ++ [x],w.length<=1000000/\w.length+1<n) (hn:100<=n) : ∀m j:Nat,j<=f.length->f.length+1 - j<m ->
  q3i n m (f ++ [x]) (j:Int)=some (if ((f.drop j).all (fun w=>!q1l w)&&(!q1l x||(!decide (f = []) && !decide (jn1 x=0))))=true then Sum.inr ((),((),())) else Sum.inl ((false,()),((),())))
 | 0,j,_,h=>absurd h (Nat.not_lt_zero _)
 | m+1,j,hj,h=>by
  rw [q60]
  unfold qau
  have hlen:(f ++ [x]).length=f.length+1:=by simp
  have c0:((j:Nat):Int)<(((f ++ [x]).length:Nat):Int):=by rw [hlen];omega
  have w1:IntKind.wrap .i64 ((((f ++ [x]).length:Nat):Int) - 1)=((f.length:Nat):Int):=by rw [hlen,wrap64 (by omega) (by omega)];omega
  have hx:q0f (f ++ [x]) ((j:Nat):Int)=some ((f ++ [x])[j]'(by rw [hlen];omega)):=q0l _
  have hm:=hw _ (List.getElem_mem (show j<(f ++ [x]).length by rw [hlen];omega))
  simp only [c0,decide_true,cond_true,hx,Option.bind_some,qg7 n _ hm.1 hm.2,q00,w1,q05 (show j<4611686018427387904 by omega)]
  by_cases c1:j<f.length
  ·have ih:=qg2 n f x hl hw hn m (j+1) (by omega) (by omega)
   have hd:f.drop j=f[j]::f.drop (j+1):=(List.drop_eq_getElem_cons c1)
   have he:(f ++ [x])[j]'(by rw [hlen];omega)=f[j]:=List.getElem_append_left c1
   have c1':((j:Nat):Int)<((f.length:Nat):Int):=by omega
   rw [he,ih,hd]
   simp only [c1',decide_true,cond_true,List.all_cons]
   rcases Bool.eq_false_or_eq_true (q1l f[j]) with hb|hb
   ·simp only [hb,cond_true,Bool.not_true,Bool.false_and,Bool.false_eq_true,if_false]
   ·simp only [hb,cond_false,Bool.not_false,Bool.true_and]
  ·have hj2:j=f.length:=by omega
   subst hj2
   have he:(f ++ [x])[f.length]'(by rw [hlen];omega)=x:=by simp
   obtain ⟨k,rfl⟩ : ∃ k,m=k+1:=⟨m - 1,by omega⟩
   have hend:=qye n k (f ++ [x])
   rw [hlen] at hend
   rw [he,hend]
   have d0:decide (((f.length:Nat):Int)=0)=decide (f = []):=decide_eq_decide.2 (by
    constructor
    ·intro h;exact List.eq_nil_of_length_eq_zero (by omega)
    ·rintro rfl;rfl)
   simp only [Int.lt_irrefl,decide_false,cond_false,d0,List.drop_length,List.all_nil,Bool.true_and]
   cases ht:q1l x with
   | false=>rfl
   | true =>
    rw [qdt n x hn ht]
    simp only [cond_true,Option.bind_some,Bool.not_true,Bool.false_or]
    cases decide (f = [])<;>cases decide (jn1 x=0)<;>rfl
theorem qv2 (s:Yy) (hp:q3a s=true) : ∃ f,spl 47 [] s=f ++ [q2e s]/\f.all (fun w=>!q1l w) = !anyS (q2i s)/\decide (f = [])=decide (q2i s = []):=by
 have key : ∀b,anyS b = !((spl 47 [] b).all fun x=>!q1l x):=fun b=>by unfold anyS;rw [List.any_eq_not_all_not]
 rcases j66 s with ⟨_,a,b,c⟩|⟨he,hs,hc⟩
 ·refine ⟨[],by rw [b,c];rfl,?_,by rw [a];rfl⟩
  rw [a];decide
 ·refine ⟨spl 47 [] (q2i s),hc,?_,?_⟩
  ·rw [key,Bool.not_not]
  ·have h1:=qtt 47 (q2i s) []
   have h2:q2i s ≠ []:=fun h=>by
    have:=(qao hp).2
    rw [hc,h] at this
    simp [spl] at this
    exact absurd this.1 (by decide)
   simp [h1,h2]
theorem qg4 (n:Nat) (s:Yy) (hL:s.length<=1000) (hn:2000<=n):q3n n s=some (okS s):=by
 unfold q3n okS
 rw [qbq n s (by omega) (by omega)]
 cases hp:q3a s with
 | false=>rfl
 | true =>
  obtain ⟨f,e1,e2,e3⟩:=qv2 s hp
  have hlen:=q45 47 s []
  have hw : ∀w∈spl 47 [] s,w.length<=s.length:=fun w hm=>by have:=q4l 47 s [] w hm;simpa using this
  rw [show (47:Int)=(((47:UInt8).toNat:Nat):Int) from rfl,q36 n s 47 (by omega) (by omega)]
  rw [e1] at hlen hw ⊢
  have hlen2:f.length+1<=s.length+1:=by simpa using hlen.2
  have hlp:=qg2 n f (q2e s) (by omega) (fun w hm=>⟨by have:=hw w hm;omega,by have:=hw w hm;omega⟩) (by omega) n 0 (Nat.zero_le _) (by omega)
  rw [show ((0:Nat):Int)=(0:Int) from rfl] at hlp
  simp only [Option.bind_some,Bool.not_true,cond_false,hlp,List.drop_zero,e2,e3,Bool.true_and]
  cases ht:q1l (q2e s) with
  | false=>cases anyS (q2i s)<;>rfl
  | true =>
   rw [quj ht]
   generalize (q2e s).drop 1=d
   cases hf:qml d with
   | false=>cases anyS (q2i s)<;>simp
   | true =>
    have n0 : ¬ numOf d=0:=by have:=(qus hf).1;omega
    cases anyS (q2i s)<;>cases decide (q2i s = [])<;>simp [n0]
theorem qll (n:Nat) (s:Yy) (hL:s.length<=1000000) : ∀m j:Nat,j<=s.length->j<m->q6k n m s ((j:Int) - 1)=some (if q6q 47 (s.take j).reverse = -1 then Sum.inr ((),((),())) else Sum.inl ((s.take (q6q 47 (s.take j).reverse).toNat,()),((),())))
 | 0,j,_,h=>absurd h (Nat.not_lt_zero _)
 | m+1,0,_,_=>by
  rw [q77]
  unfold qdw
  simp [q6q]
 | m+1,j+1,hj,h=>by
  rw [q77]
  unfold qdw
  have e1:((j+1:Nat):Int) - 1=((j:Nat):Int):=by omega
  have ih:=qll n s hL m j (by omega) (by omega)
  have w1:IntKind.wrap .i64 (((j:Nat):Int) - 1)=((j:Nat):Int) - 1:=wrap64 (by omega) (by omega)
  have c0:(0:Int)<=((j:Nat):Int):=by omega
  have d1:decide (((s[j].toNat:Nat):Int)=(47:Int))=decide (s[j]=47):=decide_eq_decide.2 (by
   constructor
   ·intro h;exact UInt8.toNat_inj.1 (by have e:(47:UInt8).toNat=47:=rfl;rw [e];omega)
   ·intro h;rw [h];rfl)
  rw [e1]
  simp only [c0,decide_true,cond_true,q1h (show j<s.length by omega),Option.bind_some,d1,q00,w1,ih,qcx s j (by omega),q6q,sub_zero (show j<=s.length by omega)]
  by_cases h0:s[j]=47
  ·have l1:(s.take j).reverse.length=j:=by simp;omega
   simp only [h0,decide_true,cond_true,if_true,l1]
   rw [if_neg (by omega),Int.toNat_natCast]
  ·simp [h0]
theorem qyv (n:Nat) (s:Yy) (hL:s.length<=1000000) (hn:s.length<n):qhx n s=some (q2i s):=by
 unfold qhx q2i q4j
 have:=qll n s hL n s.length (Nat.le_refl _) hn
 have w1:IntKind.wrap .i64 (((s.length:Nat):Int) - 1)=((s.length:Nat):Int) - 1:=wrap64 (by omega) (by omega)
 simp only [q00,w1,this,List.take_length]
 by_cases h:q6q 47 s.reverse = -1
 ·simp [h]
 ·simp [h]
theorem qwg (n:Nat) (s:Yy) (hL:s.length<=1000) (hn:2000<=n):q9n n s=some (q9d s):=by
 unfold q9n q9d
 rw [qg4 n s hL hn]
 cases ho:okS s with
 | false=>rfl
 | true =>
  obtain ⟨f,e1,_,_⟩:=qv2 s (qrn ho).1
  have hll:=j05 s
  have hlen:=q45 47 s []
  rw [e1] at hlen
  have hlen2:f.length+1<=s.length+1:=by simpa using hlen.2
  rw [show (47:Int)=(((47:UInt8).toNat:Nat):Int) from rfl,q36 n s 47 (by omega) (by omega),e1]
  have hl2:(f ++ [q2e s]).length=f.length+1:=by simp
  have w1:IntKind.wrap .i64 ((((f ++ [q2e s]).length:Nat):Int) - 1)=((f.length:Nat):Int):=by rw [hl2,wrap64 (by omega) (by omega)];omega
  have hx:q0f (f ++ [q2e s]) ((f.length:Nat):Int)=some (q2e s):=by
   have:=q0l (l:=f ++ [q2e s]) (j:=f.length) (by rw [hl2];omega)
   rw [this];simp
  simp only [Option.bind_some,Bool.not_true,cond_false,q00,w1,hx,qg7 n (q2e s) (by omega) (by omega),if_true]
  cases ht:q1l (q2e s) with
  | false=>rfl
  | true =>
   have hf:=((qrn ho).2.2 ht).1
   simp only [Bool.not_true,cond_false,qyv n s (by omega) (by omega),qdt n (q2e s) (by omega) ht,quj ht,hf,if_true,Option.bind_some]
theorem qy1 (n:Nat) (s:Yy) (v:VD) (hL:s.length<=1000) (hn:2000<=n):qai n s v=some (q40 s v):=by
 unfold qai q40
 rw [qwg n s hL hn,q7d n v (by omega)]
 simp only [Option.bind_some,qpl]
 cases okS s with
 | false=>rfl
 | true=>cases hc:q0r v with
  | false=>rfl
  | true =>
   have h1:=(q1a hc).1
   simp only [Bool.not_true,cond_false,Bool.true_and]
   by_cases c0:(q9d s).2.1=0
   ·rw [c0]
    by_cases c1:v.1=0
    ·simp [c1]
    ·have:decide (v.1=1)=decide (v.1<2):=decide_eq_decide.2 (by omega)
     simp [c1,this]
   ·by_cases c1:v.1=(q9d s).2.1
    ·simp [c0,c1]
    ·simp [c0,c1]
set_option synthInstance.maxSize 100000
set_option synthInstance.maxHeartbeats 0
theorem jma (x y:VD):(decide (x.1=y.1)&&(decide (x.2.1=y.2.1)&&(decide (x.2.2.1=y.2.2.1)&&(decide (x.2.2.2.1=y.2.2.2.1)&&(decide (x.2.2.2.2=y.2.2.2.2)&&true)))))=decide (x=y):=by
 obtain ⟨x1,x2,x3,x4,x5⟩:=x
 obtain ⟨y1,y2,y3,y4,y5⟩:=y
 simp only [Prod.mk.injEq,Bool.decide_and,Bool.and_true]
theorem qyi (x y:Rq):(decide (x.1=y.1)&&((decide (x.2.1=y.2.1)&&(decide (x.2.2.1=y.2.2.1)&&(decide (x.2.2.2.1=y.2.2.2.1)&&(decide (x.2.2.2.2.1=y.2.2.2.2.1)&&(decide (x.2.2.2.2.2=y.2.2.2.2.2)&&true)))))&&true))=decide (x=y):=by
 rw [jma]
 obtain ⟨x1,x2⟩:=x
 obtain ⟨y1,y2⟩:=y
 simp only [Prod.mk.injEq,Bool.decide_and,Bool.and_true]
theorem jlr (x y:Sw):(decide (x.1=y.1)&&(decide (x.2=y.2)&&true))=decide (x=y):=by
 obtain ⟨x1,x2⟩:=x
 obtain ⟨y1,y2⟩:=y
 simp only [Prod.mk.injEq,Bool.decide_and,Bool.and_true]
theorem jkn (x y:Sp):((decide (x.1=y.1)&&(decide (x.2.1=y.2.1)&&(decide (x.2.2.1=y.2.2.1)&&(decide (x.2.2.2.1=y.2.2.2.1)&&(decide (x.2.2.2.2.1=y.2.2.2.2.1)&&true)))))&&((decide (x.2.2.2.2.2.1=y.2.2.2.2.2.1)&&(decide (x.2.2.2.2.2.2.1=y.2.2.2.2.2.2.1)&&(decide (x.2.2.2.2.2.2.2.1=y.2.2.2.2.2.2.2.1)&&(decide (x.2.2.2.2.2.2.2.2.1=y.2.2.2.2.2.2.2.2.1)&&(decide (x.2.2.2.2.2.2.2.2.2=y.2.2.2.2.2.2.2.2.2)&&true)))))&&true))=decide (x=y):=by
 obtain ⟨x1,x2,x3,x4,x5,x6,x7,x8,x9,xa⟩:=x
 obtain ⟨y1,y2,y3,y4,y5,y6,y7,y8,y9,ya⟩:=y
 simp only [Prod.mk.injEq,Bool.decide_and,Bool.and_true,Bool.and_assoc]
theorem drop_eq {β:Type} {a b:List β} {j:Nat} (ha:j<a.length) (hb:j<b.length):a.drop j=b.drop j↔a[j]=b[j]/\a.drop (j+1)=b.drop (j+1):=by
 rw [List.drop_eq_getElem_cons ha,List.drop_eq_getElem_cons hb,List.cons.injEq]
theorem qch (n:Nat) (a b:List Rq) (hl:a.length=b.length) (hL:a.length<=4000000000000000000) : ∀m j:Nat,j<=a.length->a.length - j<m->q4s n m a b (j:Int)=some (if a.drop j=b.drop j then Sum.inr ((),((),())) else Sum.inl ((false,()),((),())))
 | 0,j,_,h=>absurd h (Nat.not_lt_zero _)
 | m+1,j,hj,h=>by
  rw [qcb]
  unfold qeu
  by_cases c0:j<a.length
  ·have c0':((j:Nat):Int)<((a.length:Nat):Int):=by omega
   have c1:j<b.length:=by omega
   simp only [c0',decide_true,cond_true,q0l c0,q0l c1,Option.bind_some,qyi,q00,q05 (show j<4611686018427387904 by omega),drop_eq c0 c1]
   by_cases he:a[j]=b[j]
   ·simp only [he,decide_true,Bool.not_true,cond_false,true_and]
    exact qch n a b hl hL m (j+1) (by omega) (by omega)
   ·simp only [he,decide_false,Bool.not_false,cond_true,false_and,if_false]
  ·have c0' : ¬ ((j:Nat):Int)<((a.length:Nat):Int):=by omega
   simp only [c0',decide_false,cond_false]
   rw [List.drop_eq_nil_of_le (show a.length<=j by omega),List.drop_eq_nil_of_le (show b.length<=j by omega),if_pos rfl]
theorem qb7 (n:Nat) (m1:Yy) (g1:Yy) (r1:List Rq) (w1:List Sw) (e1:List Rq) (t1:List Sp) (m2:Yy) (g2:Yy) (r2:List Rq) (w2:List Sw) (e2:List Rq) (t2:List Sp) (hl:w1.length=w2.length) (hL:w1.length<=4000000000000000000) : ∀m j:Nat,j<=w1.length->w1.length - j<m->q50 n m (j:Int) m1 g1 r1 w1 e1 t1 m2 g2 r2 w2 e2 t2=some (if w1.drop j=w2.drop j then Sum.inr ((((),((),())),(((m1,(g1,(r1,(w1,(e1,t1))))),((m2,(g2,(r2,(w2,(e2,t2))))),())),()))) else Sum.inl ((false,()),((),())))
 | 0,j,_,h=>absurd h (Nat.not_lt_zero _)
 | m+1,j,hj,h=>by
  rw [qcl]
  unfold qew
  by_cases c0:j<w1.length
  ·have c0':((j:Nat):Int)<((w1.length:Nat):Int):=by omega
   have c1:j<w2.length:=by omega
   simp only [c0',decide_true,cond_true,q0l c0,q0l c1,Option.bind_some,jlr,q00,q05 (show j<4611686018427387904 by omega),drop_eq c0 c1]
   by_cases he:w1[j]=w2[j]
   ·simp only [he,decide_true,Bool.not_true,cond_false,true_and]
    exact qb7 n m1 g1 r1 w1 e1 t1 m2 g2 r2 w2 e2 t2 hl hL m (j+1) (by omega) (by omega)
   ·simp only [he,decide_false,Bool.not_false,cond_true,false_and,if_false]
  ·have c0' : ¬ ((j:Nat):Int)<((w1.length:Nat):Int):=by omega
   simp only [c0',decide_false,cond_false]
   rw [List.drop_eq_nil_of_le (show w1.length<=j by omega),List.drop_eq_nil_of_le (show w2.length<=j by omega),if_pos rfl]
theorem qbc (n:Nat) (m1:Yy) (g1:Yy) (r1:List Rq) (w1:List Sw) (e1:List Rq) (t1:List Sp) (m2:Yy) (g2:Yy) (r2:List Rq) (w2:List Sw) (e2:List Rq) (t2:List Sp) (hl:t1.length=t2.length) (hL:t1.length<=4000000000000000000) : ∀m j:Nat,j<=t1.length->t1.length - j<m->q4z n m (j:Int) m1 g1 r1 w1 e1 t1 m2 g2 r2 w2 e2 t2=some (if t1.drop j=t2.drop j then Sum.inr ((),((),())) else Sum.inl ((false,()),((),())))
 | 0,j,_,h=>absurd h (Nat.not_lt_zero _)
 | m+1,j,hj,h=>by
  rw [qcg]
  unfold qeh
  by_cases c0:j<t1.length
  ·have c0':((j:Nat):Int)<((t1.length:Nat):Int):=by omega
   have c1:j<t2.length:=by omega
   simp only [c0',decide_true,cond_true,q0l c0,q0l c1,Option.bind_some,jkn,q00,q05 (show j<4611686018427387904 by omega),drop_eq c0 c1]
   by_cases he:t1[j]=t2[j]
   ·simp only [he,decide_true,Bool.not_true,cond_false,true_and]
    exact qbc n m1 g1 r1 w1 e1 t1 m2 g2 r2 w2 e2 t2 hl hL m (j+1) (by omega) (by omega)
   ·simp only [he,decide_false,Bool.not_false,cond_true,false_and,if_false]
  ·have c0' : ¬ ((j:Nat):Int)<((t1.length:Nat):Int):=by omega
   simp only [c0',decide_false,cond_false]
   rw [List.drop_eq_nil_of_le (show t1.length<=j by omega),List.drop_eq_nil_of_le (show t2.length<=j by omega),if_pos rfl]
theorem zI:((0:Nat):Int)=(0:Int):=rfl
theorem lenI {β:Type} (a b:List β):decide (((a.length:Nat):Int)=((b.length:Nat):Int))=decide (a.length=b.length):=by
 by_cases h:a.length=b.length
 ·rw [decide_eq_true h,decide_eq_true (by omega)]
 ·rw [decide_eq_false h,decide_eq_false (by omega)]
theorem q9b (n:Nat) (a b:List Rq) (h:a.length<=1000000) (hn:1000000<n):q6w n a b=some (decide (a=b)):=by
 unfold q6w
 by_cases hl:a.length=b.length
 ·have:=qch n a b hl (by omega) n 0 (Nat.zero_le _) (by omega)
  rw [zI,List.drop_zero,List.drop_zero] at this
  simp only [lenI,hl,decide_true,Bool.not_true,cond_false,this,Option.bind_some]
  by_cases he:a=b<;>simp [he]
 ·have he:a≠b:=fun h=>hl (by rw [h])
  simp only [lenI,hl,decide_false,Bool.not_false,cond_true,decide_eq_false he]
def ML (k:Nat) (m:MD):Prop:=m.2.2.1.length<=k/\m.2.2.2.1.length<=k/\m.2.2.2.2.1.length<=k/\m.2.2.2.2.2.length<=k
theorem qu3 (n:Nat) (x y:MD) (h:ML 1000000 x) (hn:1000000<n):qdv n x y=some (decide (x=y)):=by
 obtain ⟨m1,g1,r1,w1,e1,t1⟩:=x
 obtain ⟨m2,g2,r2,w2,e2,t2⟩:=y
 obtain ⟨h1,h2,h3,h4⟩:=h
 simp only at h1 h2 h3 h4
 unfold qdv
 simp only [q9b n r1 r2 h1 hn,q9b n e1 e2 h3 hn,Option.bind_some,lenI,Prod.mk.injEq,Bool.decide_and]
 by_cases hm:m1=m2
 ·by_cases hg:g1=g2
  ·by_cases hr:r1=r2
   ·by_cases he:e1=e2
    ·by_cases hlw:w1.length=w2.length
     ·by_cases hlt:t1.length=t2.length
      ·have a1:=qb7 n m1 g1 r1 w1 e1 t1 m2 g2 r2 w2 e2 t2 hlw (by omega) n 0 (Nat.zero_le _) (by omega)
       have a2:=qbc n m1 g1 r1 w1 e1 t1 m2 g2 r2 w2 e2 t2 hlt (by omega) n 0 (Nat.zero_le _) (by omega)
       rw [zI,List.drop_zero,List.drop_zero] at a1 a2
       simp only [hm,hg,hr,he,hlw,hlt,decide_true,Bool.not_true,cond_false,Bool.true_and]
       rw [hm,hg,hr,he] at a1 a2
       rw [a1]
       by_cases hw:w1=w2
       ·rw [if_pos hw]
        simp only [Option.bind_some,Sum.elim_inr]
        rw [a2]
        by_cases ht:t1=t2<;>simp [hw,ht]
       ·rw [if_neg hw];simp [hw]
      ·have:t1≠t2:=fun h=>hlt (by rw [h])
       simp [hm,hg,hr,he,hlw,hlt,this]
     ·have:w1≠w2:=fun h=>hlw (by rw [h])
      simp [hm,hg,hr,he,hlw,this]
    ·simp [hm,hg,hr,he]
   ·simp [hm,hg,hr]
  ·simp [hm,hg]
 ·simp [hm]
def jkw (q:Rq):Bool:=decide (q.1.length<=200)&&(decide (q.2.2.2.2.1.length<=200)&&decide (q.2.2.2.2.2.length<=200))
theorem leI (a b:Nat):decide (((a:Nat):Int)<=((b:Nat):Int))=decide (a<=b):=by
 by_cases h:a<=b
 ·rw [decide_eq_true h,decide_eq_true (by omega)]
 ·rw [decide_eq_false h,decide_eq_false (by omega)]
theorem gtI {β:Type} (a:List β) (k:Nat):decide (((k:Nat):Int)<((a.length:Nat):Int)) = !decide (a.length<=k):=by
 by_cases h:a.length<=k
 ·rw [decide_eq_true h,decide_eq_false (by omega)];rfl
 ·rw [decide_eq_false h,decide_eq_true (by omega)];rfl
end Go.Proofs.YtapfankgdkdkgaaGreatDoor.AM
