
import Derived.Test.YtcdjkibiggjdoaaGreatDoorLp18
import Derived.Test.YtcdjkibiggjdoaaGreatDoorLp17
namespace Go.Proofs.YtcdjkibiggjdoaaGreatDoor.AM
open Go.RowKit
set_option linter.unusedVariables false
set_option linter.unusedSimpArgs false
theorem jrp : ∀n:Nat,0<n->(Lib.decDigits n).head? ≠ some 48:=by
 intro n
 induction n using Nat.strongRecOn with
 | _ n ih =>
  intro h0
  rw [Lib.decDigits]
  split
  ·rename_i h
   intro h2
   have h3:UInt8.ofNat (48+n)=48:=by simpa using h2
   have h4:=congrArg UInt8.toNat h3
   rw [UInt8.toNat_ofNat'] at h4
   have e48:(48:UInt8).toNat=48:=rfl
   rw [e48] at h4;omega
  ·rename_i h
   have:=ih (n / 10) (by omega) (by omega)
   have hne:=(j0p (n / 10)).2
   generalize Lib.decDigits (n / 10)=l at this hne
   cases l with
   | nil=>exact absurd rfl hne
   | cons b r=>simpa using this
theorem jjo : ∀(k:Nat) (d:List UInt8),d.length=k->d.all q1i=true->d ≠ []->d.head? ≠ some 48->Lib.decDigits (qbo 0 d).toNat=d
 | 0,d,hk,_,hne,_=>absurd (List.eq_nil_of_length_eq_zero hk) hne
 | k+1,d,hk,hd,hne,h48=>by
  obtain ⟨l,c,rfl⟩ : ∃ l c,d=l ++ [c]:=⟨d.dropLast,d.getLast hne,(List.dropLast_concat_getLast hne).symm⟩
  have hl:l.length=k:=by simpa using hk
  rw [List.all_append,Bool.and_eq_true] at hd
  have hc:q1i c=true:=by simpa using hd.2
  have hc2:48<=c.toNat/\c.toNat<=57:=by unfold q1i at hc;simpa using hc
  have hb:=qke l 0 (by decide) hd.1
  rw [j2c]
  have e1:qbo (qbo 0 l) [c]=10*qbo 0 l+c.toNat - 48:=by simp only [qbo]
  rw [e1,Lib.decDigits]
  have uc:UInt8.ofNat (48+(c.toNat - 48))=c:=by
   have:48+(c.toNat - 48)=c.toNat:=by omega
   rw [this];simp
  by_cases h0:l = []
  ·subst h0
   have:(10*qbo 0 ([]:List UInt8)+(c.toNat:Int) - 48).toNat=c.toNat - 48:=by show (10*(0:Int)+(c.toNat:Int) - 48).toNat=_;omega
   rw [this,dif_pos (by omega),uc];rfl
  ·have hh:l.head? ≠ some 48:=by
    cases l with
    | nil=>exact absurd rfl h0
    | cons b r=>simpa using h48
   have ih:=jjo k l hl hd.1 h0 hh
   have hpos:qbo 0 l≠0:=fun h=>by
    rw [h] at ih
    have e0:Lib.decDigits (0:Int).toNat = [48]:=Lib.decDigits_one (by decide)
    rw [e0] at ih
    rw [<-ih] at hh;exact hh rfl
   have q1:(10*qbo 0 l+(c.toNat:Int) - 48).toNat / 10=(qbo 0 l).toNat:=by omega
   have q2:(10*qbo 0 l+(c.toNat:Int) - 48).toNat % 10=c.toNat - 48:=by omega
   rw [dif_neg (by omega),q1,q2,ih,uc]
def jwd (w:List UInt8):Int:=if 10<w.length then 0 else if (w.drop 1).head? = some 48 then 0 else if qbo 0 (w.drop 1)<2 then 0 else qbo 0 (w.drop 1)
theorem j4h {w:List UInt8} (h:q1n w=true):jwd w=if qvy (w.drop 1) then numOf (w.drop 1) else 0:=by
 have hl:w.length=(w.drop 1).length+1:=by
  cases w with
  | nil=>exact absurd h (by decide)
  | cons b r=>simp
 unfold q1n at h
 simp only [Bool.and_eq_true] at h
 have hd:=h.2
 unfold q2a at hd
 simp only [Bool.and_eq_true,Bool.not_eq_true',decide_eq_false_iff_not] at hd
 unfold jwd
 rw [hl]
 generalize w.drop 1=d at hd
 cases hf:qvy d with
 | true =>
  obtain ⟨n0,n1,ne⟩:=j7o hf
  have li:=qb8 (n:=numOf d) (by omega)
  have ed:Lib.decDigits (numOf d).toNat=d:=by rw [<-q0z (by omega)];exact ne.symm
  have hh:=jrp (numOf d).toNat (by omega)
  have hv:=jeu (numOf d).toNat
  rw [ed] at hh hv
  rw [<-ne] at li
  rw [if_neg (by omega),if_neg hh,hv,if_neg (by omega)]
  show (((numOf d).toNat:Nat):Int)=numOf d
  omega
 | false =>
  by_cases c1:10<d.length+1
  ·rw [if_pos c1];rfl
  by_cases c2:d.head? = some 48
  ·rw [if_neg c1,if_pos c2];rfl
  by_cases c3:qbo 0 d<2
  ·rw [if_neg c1,if_neg c2,if_pos c3];rfl
  ·exfalso
   have hb:=qke d 0 (by decide) hd.1
   have hp:(10:Int) ^ d.length<=10 ^ 9:=by
    have:=Nat.pow_le_pow_right (n:=10) (by decide) (show d.length<=9 by omega)
    have e2:((10 ^ d.length:Nat):Int)=(10:Int) ^ d.length:=by simp
    have e3:((10 ^ 9:Nat):Int)=(10:Int) ^ 9:=by simp
    rw [<-e2,<-e3];omega
   have e9:(10:Int) ^ 9=1000000000:=by decide
   rw [e9] at hp
   have ed:=jjo d.length d rfl hd.1 hd.2 c2
   have ei:Lib.itoa (qbo 0 d)=d:=by rw [q0z hb.1];exact ed
   have:=(jmk (n:=qbo 0 d) (by omega) (by omega)).1
   rw [ei,hf] at this;cases this
theorem qnc (n:Nat) (s:List UInt8) (hL:s.length<=1000000) : ∀m j:Nat,j<=s.length+1->s.length+1 - j<m->q69 n m s (j:Int)=some (if (s.drop j).all q1i=true then Sum.inr ((s,()),((),())) else Sum.inl ((false,()),((),())))
 | 0,j,_,h=>absurd h (Nat.not_lt_zero _)
 | m+1,j,hj,h=>by
  rw [qhj]
  unfold qkj
  by_cases c0:j<s.length
  ·have c0':((j:Nat):Int)<((s.length:Nat):Int):=by omega
   have ih:=qnc n s hL m (j+1) (by omega) (by omega)
   have hd:s.drop j=s[j]::s.drop (j+1):=(List.drop_eq_getElem_cons c0)
   have hi:q1i s[j]=(!decide (((s[j].toNat:Nat):Int)<48) && !decide ((57:Int)<((s[j].toNat:Nat):Int))):=by
    unfold q1i
    rw [<-decide_not,<-decide_not]
    congr 1<;>exact decide_eq_decide.2 (by omega)
   simp only [c0',decide_true,cond_true,q2z c0,Option.bind_some,q0b,q06 (show j<4611686018427387904 by omega),ih,hd,List.all_cons,hi]
   cases decide (((s[j].toNat:Nat):Int)<48)<;>cases decide ((57:Int)<((s[j].toNat:Nat):Int))<;>simp
  ·have c0' : ¬ ((j:Nat):Int)<((s.length:Nat):Int):=by omega
   have:s.drop j = []:=List.drop_eq_nil_of_le (by omega)
   simp [c0',this]
theorem qna (n:Nat) (s:List UInt8) (hL:s.length<=1000000) (hn:s.length+1<n):qcp n s=some (q1n s):=by
 unfold qcp q1n q2a
 have:=qnc n s hL n 1 (by omega) (by omega)
 rw [show ((1:Nat):Int)=(1:Int) from rfl] at this
 rw [this]
 cases s with
 | nil=>rfl
 | cons b r =>
  simp only [List.drop_succ_cons,List.drop_zero,List.head?_cons,Option.some.injEq]
  have h0:sAt (b::r) (0:Int)=some ((b.toNat:Nat):Int):=q2z (s:=b::r) (j:=0) (by simp)
  have h1:decide (((b.toNat:Nat):Int)=(118:Int))=decide (b=118):=decide_eq_decide.2 (by
   constructor
   ·intro h;exact UInt8.toNat_inj.1 (by have e:(118:UInt8).toNat=118:=rfl;rw [e];omega)
   ·rintro rfl;rfl)
  have h2:decide ((1:Int)<(((b::r).length:Nat):Int)) = !decide (r = []):=by
   rw [<-decide_not]
   refine decide_eq_decide.2 ?_
   cases r with
   | nil=>simp
   | cons x y=>simp;omega
  cases hr:r.all q1i with
  | true =>
   simp only [if_true,Option.bind_some,Sum.elim_inr,h2,h0,h1,Bool.true_and]
   cases decide (r = [])<;>simp
  | false=>simp
theorem qji (n:Nat) (s:List UInt8) (hL:s.length<=10) (hd:(s.drop 1).all q1i=true) : ∀(m j:Nat) (a:Int),1<=j->j<=s.length->s.length - j<m->0<=a->a<10 ^ j->q4w n m s a (j:Int)=some ((qbo a (s.drop j),()),((),()))
 | 0,j,a,_,_,h,_,_=>absurd h (Nat.not_lt_zero _)
 | m+1,j,a,hj1,hj,h,ha,hb=>by
  rw [qg3]
  unfold qgx
  by_cases c0:j<s.length
  ·have c0':((j:Nat):Int)<((s.length:Nat):Int):=by omega
   have hp:(10:Int) ^ j<=10 ^ 10:=by
    have:=Nat.pow_le_pow_right (n:=10) (by decide) (show j<=10 by omega)
    have e2:((10 ^ j:Nat):Int)=(10:Int) ^ j:=by simp
    have e3:((10 ^ 10:Nat):Int)=(10:Int) ^ 10:=by simp
    rw [<-e2,<-e3];omega
   have e9:(10:Int) ^ 10=10000000000:=by decide
   rw [e9] at hp
   have hdr:s.drop j=s[j]::s.drop (j+1):=(List.drop_eq_getElem_cons c0)
   have hm:s[j]∈s.drop 1:=by
    have e:s.drop 1=s.drop 1:=rfl
    have:(s.drop 1)[j - 1]'(by simp;omega)=s[j]:=by simp;congr 1;omega
    rw [<-this];exact List.getElem_mem _
   have hc:=List.all_eq_true.1 hd _ hm
   have hc2:48<=s[j].toNat/\s[j].toNat<=57:=by unfold q1i at hc;simpa using hc
   have e10:(10:Int) ^ (j+1)=10*10 ^ j:=by rw [Int.pow_succ];omega
   have ih:=qji n s hL hd m (j+1) (10*a+(s[j].toNat:Int) - 48) (by omega) (by omega) (by omega) (by omega) (by rw [e10];omega)
   simp only [c0',decide_true,cond_true,q2z c0,Option.bind_some,q0b,q06 (show j<4611686018427387904 by omega)]
   rw [wrap64 (n:=10*a) (by omega) (by omega),wrap64 (n:=((s[j].toNat:Nat):Int)) (by omega) (by omega),wrap64 (n:=10*a+((s[j].toNat:Nat):Int)) (by omega) (by omega),wrap64 (n:=10*a+((s[j].toNat:Nat):Int) - 48) (by omega) (by omega),ih,hdr]
   rfl
  ·have c0' : ¬ ((j:Nat):Int)<((s.length:Nat):Int):=by omega
   have:s.drop j = []:=List.drop_eq_nil_of_le (by omega)
   simp [c0',this,qbo]
theorem qhn (n:Nat) (s:List UInt8) (hn:100<=n) (ht:q1n s=true):q9r n s=some (jwd s):=by
 have hd:(s.drop 1).all q1i=true/\s.drop 1 ≠ []:=by
  unfold q1n q2a at ht
  simp only [Bool.and_eq_true,Bool.not_eq_true',decide_eq_false_iff_not] at ht
  exact ht.2
 have h2:2<=s.length:=by
  cases s with
  | nil=>exact absurd rfl hd.2
  | cons b r=>cases r with
   | nil=>exact absurd rfl hd.2
   | cons c t=>simp
 unfold q9r jwd
 by_cases c1:10<s.length
 ·have c1':(10:Int)<((s.length:Nat):Int):=by omega
  simp [c1,c1']
 ·have c1' : ¬ (10:Int)<((s.length:Nat):Int):=by omega
  have h0:sAt s (1:Int)=some ((s[1].toNat:Nat):Int):=q2z (s:=s) (j:=1) (by omega)
  have e1:(s.drop 1).head? = some s[1]:=by rw [List.head?_drop];exact List.getElem?_eq_getElem _
  have h1:decide (((s[1].toNat:Nat):Int)=(48:Int))=decide (s[1]=48):=decide_eq_decide.2 (by
   constructor
   ·intro h;exact UInt8.toNat_inj.1 (by have e:(48:UInt8).toNat=48:=rfl;rw [e];omega)
   ·intro h;rw [h];rfl)
  have hlp:=qji n s (by omega) hd.1 n 1 0 (by omega) (by omega) (by omega) (by omega) (by decide)
  rw [show ((1:Nat):Int)=(1:Int) from rfl] at hlp
  simp only [c1,c1',decide_false,cond_false,if_false,h0,h1,hlp,Option.bind_some,e1,Option.some.injEq]
  generalize qbo 0 (s.drop 1)=V
  by_cases c2:s[1]=48
  ·simp [c2]
  ·by_cases c3:V<2
   ·simp [c2,c3]
   ·simp [c2,c3]
theorem ja8 (n m:Nat) (l:List (List UInt8)):q3x n (m+1) l ((l.length:Nat):Int)=some (Sum.inr ((),((),()))):=by
 rw [q8e];unfold qeg;simp
theorem qme (n:Nat) (f:List (List UInt8)) (x:List UInt8) (hl:f.length<=1000000) (hw : ∀w∈f ++ [x],w.length<=1000000/\w.length+1<n) (hn:100<=n) : ∀m j:Nat,j<=f.length->f.length+1 - j<m ->
  q3x n m (f ++ [x]) (j:Int)=some (if ((f.drop j).all (fun w=>!q1n w)&&(!q1n x||(!decide (f = []) && !decide (jwd x=0))))=true then Sum.inr ((),((),())) else Sum.inl ((false,()),((),())))
 | 0,j,_,h=>absurd h (Nat.not_lt_zero _)
 | m+1,j,hj,h=>by
  rw [q8e]
  unfold qeg
  have hlen:(f ++ [x]).length=f.length+1:=by simp
  have c0:((j:Nat):Int)<(((f ++ [x]).length:Nat):Int):=by rw [hlen];omega
  have w1:IntKind.wrap .i64 ((((f ++ [x]).length:Nat):Int) - 1)=((f.length:Nat):Int):=by rw [hlen,wrap64 (by omega) (by omega)];omega
  have hx:q1a (f ++ [x]) ((j:Nat):Int)=some ((f ++ [x])[j]'(by rw [hlen];omega)):=q1k _
  have hm:=hw _ (List.getElem_mem (show j<(f ++ [x]).length by rw [hlen];omega))
  simp only [c0,decide_true,cond_true,hx,Option.bind_some,qna n _ hm.1 hm.2,q0b,w1,q06 (show j<4611686018427387904 by omega)]
  by_cases c1:j<f.length
  ·have ih:=qme n f x hl hw hn m (j+1) (by omega) (by omega)
   have hd:f.drop j=f[j]::f.drop (j+1):=(List.drop_eq_getElem_cons c1)
   have he:(f ++ [x])[j]'(by rw [hlen];omega)=f[j]:=List.getElem_append_left c1
   have c1':((j:Nat):Int)<((f.length:Nat):Int):=by omega
   rw [he,ih,hd]
   simp only [c1',decide_true,cond_true,List.all_cons]
   rcases Bool.eq_false_or_eq_true (q1n f[j]) with hb|hb
   ·simp only [hb,cond_true,Bool.not_true,Bool.false_and,Bool.false_eq_true,if_false]
   ·simp only [hb,cond_false,Bool.not_false,Bool.true_and]
  ·have hj2:j=f.length:=by omega
   subst hj2
   have he:(f ++ [x])[f.length]'(by rw [hlen];omega)=x:=by simp
   obtain ⟨k,rfl⟩ : ∃ k,m=k+1:=⟨m - 1,by omega⟩
   have hend:=ja8 n k (f ++ [x])
   rw [hlen] at hend
   rw [he,hend]
   have d0:decide (((f.length:Nat):Int)=0)=decide (f = []):=decide_eq_decide.2 (by
    constructor
    ·intro h;exact List.eq_nil_of_length_eq_zero (by omega)
    ·rintro rfl;rfl)
   simp only [Int.lt_irrefl,decide_false,cond_false,d0,List.drop_length,List.all_nil,Bool.true_and]
   cases ht:q1n x with
   | false=>rfl
   | true =>
    rw [qhn n x hn ht]
    simp only [cond_true,Option.bind_some,Bool.not_true,Bool.false_or]
    cases decide (f = [])<;>cases decide (jwd x=0)<;>rfl
theorem j5g (s:List UInt8) (hp:qbl s=true) : ∃ f,spl 47 [] s=f ++ [q2f s]/\f.all (fun w=>!q1n w) = !anyS (q2i s)/\decide (f = [])=decide (q2i s = []):=by
 have key : ∀b,anyS b = !((spl 47 [] b).all fun x=>!q1n x):=fun b=>by unfold anyS;rw [List.any_eq_not_all_not]
 rcases jh5 s with ⟨_,a,b,c⟩|⟨he,hs,hc⟩
 ·refine ⟨[],by rw [b,c];rfl,?_,by rw [a];rfl⟩
  rw [a];decide
 ·refine ⟨spl 47 [] (q2i s),hc,?_,?_⟩
  ·rw [key,Bool.not_not]
  ·have h1:=jis 47 (q2i s) []
   have h2:q2i s ≠ []:=fun h=>by
    have:=(jgh hp).2
    rw [hc,h] at this
    simp [spl] at this
    exact absurd this.1 (by decide)
   simp [h1,h2]
theorem qmk (n:Nat) (s:List UInt8) (hL:s.length<=5000) (hn:20000<=n):qbq n s=some (okS s):=by
 unfold qbq okS
 rw [jaa n s (by omega) (by omega)]
 cases hp:qbl s with
 | false=>rfl
 | true =>
  obtain ⟨f,e1,e2,e3⟩:=j5g s hp
  have hlen:=q4s 47 s []
  have hw : ∀w∈spl 47 [] s,w.length<=s.length:=fun w hm=>by have:=q4c 47 s [] w hm;simpa using this
  rw [show (47:Int)=(((47:UInt8).toNat:Nat):Int) from rfl,q43 n s 47 (by omega) (by omega)]
  rw [e1] at hlen hw ⊢
  have hlen2:f.length+1<=s.length+1:=by simpa using hlen.2
  have hlp:=qme n f (q2f s) (by omega) (fun w hm=>⟨by have:=hw w hm;omega,by have:=hw w hm;omega⟩) (by omega) n 0 (Nat.zero_le _) (by omega)
  rw [show ((0:Nat):Int)=(0:Int) from rfl] at hlp
  simp only [Option.bind_some,Bool.not_true,cond_false,hlp,List.drop_zero,e2,e3,Bool.true_and]
  cases ht:q1n (q2f s) with
  | false=>cases anyS (q2i s)<;>rfl
  | true =>
   rw [j4h ht]
   generalize (q2f s).drop 1=d
   cases hf:qvy d with
   | false=>cases anyS (q2i s)<;>simp
   | true =>
    have n0 : ¬ numOf d=0:=by have:=(j7o hf).1;omega
    cases anyS (q2i s)<;>cases decide (q2i s = [])<;>simp [n0]
theorem qrf (n:Nat) (s:List UInt8) (hL:s.length<=1000000) : ∀m j:Nat,j<=s.length->j<m->q8o n m s ((j:Int) - 1)=some (if q8t 47 (s.take j).reverse = -1 then Sum.inr ((),((),())) else Sum.inl ((s.take (q8t 47 (s.take j).reverse).toNat,()),((),())))
 | 0,j,_,h=>absurd h (Nat.not_lt_zero _)
 | m+1,0,_,_=>by
  rw [q9j]
  unfold qj9
  simp [q8t]
 | m+1,j+1,hj,h=>by
  rw [q9j]
  unfold qj9
  have e1:((j+1:Nat):Int) - 1=((j:Nat):Int):=by omega
  have ih:=qrf n s hL m j (by omega) (by omega)
  have w1:IntKind.wrap .i64 (((j:Nat):Int) - 1)=((j:Nat):Int) - 1:=wrap64 (by omega) (by omega)
  have c0:(0:Int)<=((j:Nat):Int):=by omega
  have d1:decide (((s[j].toNat:Nat):Int)=(47:Int))=decide (s[j]=47):=decide_eq_decide.2 (by
   constructor
   ·intro h;exact UInt8.toNat_inj.1 (by have e:(47:UInt8).toNat=47:=rfl;rw [e];omega)
   ·intro h;rw [h];rfl)
  rw [e1]
  simp only [c0,decide_true,cond_true,q2z (show j<s.length by omega),Option.bind_some,d1,q0b,w1,ih,qj1 s j (by omega),q8t,sub_zero (show j<=s.length by omega)]
  by_cases h0:s[j]=47
  ·have l1:(s.take j).reverse.length=j:=by simp;omega
   simp only [h0,decide_true,cond_true,if_true,l1]
   rw [if_neg (by omega),Int.toNat_natCast]
  ·simp [h0]
theorem jav (n:Nat) (s:List UInt8) (hL:s.length<=1000000) (hn:s.length<n):qp2 n s=some (q2i s):=by
 unfold qp2 q2i q9m
 have:=qrf n s hL n s.length (Nat.le_refl _) hn
 have w1:IntKind.wrap .i64 (((s.length:Nat):Int) - 1)=((s.length:Nat):Int) - 1:=wrap64 (by omega) (by omega)
 simp only [q0b,w1,this,List.take_length]
 by_cases h:q8t 47 s.reverse = -1
 ·simp [h]
 ·simp [h]
theorem j2s (n:Nat) (s:List UInt8) (hL:s.length<=5000) (hn:20000<=n):qh3 n s=some (qcr s):=by
 unfold qh3 qcr
 rw [qmk n s hL hn]
 cases ho:okS s with
 | false=>rfl
 | true =>
  obtain ⟨f,e1,_,_⟩:=j5g s (jj4 ho).1
  have hll:=jdu s
  have hlen:=q4s 47 s []
  rw [e1] at hlen
  have hlen2:f.length+1<=s.length+1:=by simpa using hlen.2
  rw [show (47:Int)=(((47:UInt8).toNat:Nat):Int) from rfl,q43 n s 47 (by omega) (by omega),e1]
  have hl2:(f ++ [q2f s]).length=f.length+1:=by simp
  have w1:IntKind.wrap .i64 ((((f ++ [q2f s]).length:Nat):Int) - 1)=((f.length:Nat):Int):=by rw [hl2,wrap64 (by omega) (by omega)];omega
  have hx:q1a (f ++ [q2f s]) ((f.length:Nat):Int)=some (q2f s):=by
   have:=q1k (l:=f ++ [q2f s]) (j:=f.length) (by rw [hl2];omega)
   rw [this];simp
  simp only [Option.bind_some,Bool.not_true,cond_false,q0b,w1,hx,qna n (q2f s) (by omega) (by omega),if_true]
  cases ht:q1n (q2f s) with
  | false=>rfl
  | true =>
   have hf:=((jj4 ho).2.2 ht).1
   simp only [Bool.not_true,cond_false,jav n s (by omega) (by omega),qhn n (q2f s) (by omega) ht,j4h ht,hf,if_true,Option.bind_some]
theorem qs2 (n:Nat) (s:List UInt8) (v:VD) (hL:s.length<=5000) (hn:20000<=n):qb9 n s v=some (qzf s v):=by
 unfold qb9 qzf
 rw [j2s n s hL hn,q72 n v (by omega)]
 simp only [Option.bind_some,j0g]
 cases okS s with
 | false=>rfl
 | true=>cases hc:q0u v with
  | false=>rfl
  | true =>
   have h1:=(q1g hc).1
   simp only [Bool.not_true,cond_false,Bool.true_and]
   by_cases c0:(qcr s).2.1=0
   ·rw [c0]
    by_cases c1:v.1=0
    ·simp [c1]
    ·have:decide (v.1=1)=decide (v.1<2):=decide_eq_decide.2 (by omega)
     simp [c1,this]
   ·by_cases c1:v.1=(qcr s).2.1
    ·simp [c0,c1]
    ·simp [c0,c1]
end Go.Proofs.YtcdjkibiggjdoaaGreatDoor.AM
namespace Go.Proofs
open Go.RowKit
set_option linter.unusedVariables false
set_option linter.unusedSimpArgs false
namespace YtcdjkibiggjdoaaGreatDoor.AM.Bs
theorem jka {x k:Nat} (hk:k≠0):j58 (x:Int) (k:Int)=some ((x % k:Nat):Int):=by
 unfold j58
 rw [if_pos (by omega)]
 rfl
end YtcdjkibiggjdoaaGreatDoor.AM.Bs
end Go.Proofs
namespace Go.Proofs
open Go.RowKit
set_option linter.unusedVariables false
set_option linter.unusedSimpArgs false
namespace YtcdjkibiggjdoaaGreatDoor.AM.Bs
def q3t (l:List Nat):List Int:=l.map fun (x:Nat)=>(x:Int)
theorem q5j (l:List Nat):(q3t l).length=l.length:=by simp [q3t]
theorem j3b (a b:List Nat):q3t (a++b)=q3t a++q3t b:=by simp [q3t]
theorem j74 {l:List Nat} {j:Nat} (h:j<l.length):q1a (q3t l) (j:Int)=some ((l[j]:Nat):Int):=by
 have h':j<(q3t l).length:=by rw [q5j];exact h
 rw [q1k h']
 congr 1
 simp [q3t]
theorem jle {l:List Nat} {j:Nat} (h:j<l.length):nth (q3t l) j=some ((l[j]:Nat):Int):=by
 have:=j74 h
 unfold q1a at this
 rw [if_pos (by omega),Int.toNat_natCast] at this
 exact this
theorem andN {a b:Nat} (ha:a<2 ^ 32) (hb:b<2 ^ 32):jpf .i64 (a:Int) (b:Int)=((a &&& b:Nat):Int):=by
 unfold jpf
 have h:=Nat.and_lt_two_pow a hb
 show IntKind.wrap .i64 (((BitVec.ofInt 64 (a:Int) &&& BitVec.ofInt 64 (b:Int)).toNat:Nat):Int)=_
 rw [BitVec.toNat_and,BitVec.ofInt_natCast,BitVec.ofInt_natCast,BitVec.toNat_ofNat,BitVec.toNat_ofNat,Nat.mod_eq_of_lt (by omega),Nat.mod_eq_of_lt (by omega),qp6 (by omega)]
theorem ja2 {a:Nat} (k:Nat) (hk:k<=32) (ha:a<2 ^ 32):jpf .i64 (a:Int) ((2 ^ k - 1:Nat):Int)=((a % 2 ^ k:Nat):Int):=by
 have h:2 ^ k<=2 ^ 32:=Nat.pow_le_pow_right (by decide) hk
 have h0:0<2 ^ k:=Nat.pow_pos (by decide)
 rw [andN ha (by omega),Nat.and_two_pow_sub_one_eq_mod]
theorem jxa {x j:Nat} (hj:j<=64):j1k .i64 (x:Int) (j:Int)=some ((x / 2 ^ j:Nat):Int):=by
 unfold j1k
 rw [if_pos (by omega)]
 have e:min (Int.toNat (j:Int)) (IntKind.bits .i64)=j:=by show min (Int.toNat (j:Int)) 64=j;rw [Int.toNat_natCast];omega
 rw [e]
 congr 1
 rw [Int.fdiv_eq_ediv_of_nonneg _ (by have:=Int.pow_pos (n:=2) (m:=j) (by decide);omega)]
 rw [show ((2:Int) ^ j)=((2 ^ j:Nat):Int) from (Int.natCast_pow 2 j).symm,<-Int.natCast_ediv]
def qv9 (c:UInt8):List Nat:=[c.toNat / 2 ^ 7 % 2,c.toNat / 2 ^ 6 % 2,c.toNat / 2 ^ 5 % 2,c.toNat / 2 ^ 4 % 2,c.toNat / 2 ^ 3 % 2,c.toNat / 2 ^ 2 % 2,c.toNat / 2 ^ 1 % 2,c.toNat / 2 ^ 0 % 2]
theorem qbw (n m:Nat) (s:List UInt8) (i k:Nat) (acc:List Int) (hk:k<=7) (hi:i<s.length) (ha:acc.length<=1000000) (z:Int) (hz:z=(k:Int) - 1) :
  q1e n (m+1) s (i:Int) (k:Int) acc=q1e n m s (i:Int) z (acc ++ [((s[i].toNat / 2 ^ k % 2:Nat):Int)]):=by
 have hc:=UInt8.toNat_lt s[i]
 rw [q5y]
 unfold q86
 have h1:s[i].toNat / 2 ^ k<2 ^ 32:=Nat.lt_of_le_of_lt (Nat.div_le_self _ _) (by omega)
 have h2:jpf .i64 ((s[i].toNat / 2 ^ k:Nat):Int) (1:Int)=((s[i].toNat / 2 ^ k % 2:Nat):Int):=ja2 1 (by decide) h1
 rw [decide_eq_true (by omega),cond_true,q2z hi,Option.bind_some,qp6 (by omega),q0m,jxa (by omega),Option.bind_some,h2,q0m,qdg (by simp;omega),Option.bind_some,show IntKind.wrap .i64 ((k:Int) - 1)=z from by rw [wrap64 (by omega) (by omega)];exact hz.symm,q0m]
theorem enc1 (n m:Nat) (s:List UInt8) (i:Nat) (acc:List Int) (hi:i<s.length) (ha:acc.length<=100000) :
  q1e n (m+9) s (i:Int) (7:Int) acc=some ((s,((),((i:Int),()))),((),(acc++q3t (qv9 s[i]),()))):=by
 have e7:=qbw n (m+8) s i 7 acc (by decide) hi (by omega) ((6:Nat):Int) (by decide)
 have e:q1e n (m+9) s (i:Int) (7:Int) acc=q1e n (m+8+1) s (i:Int) ((7:Nat):Int) acc:=rfl
 rw [e,e7,qbw n (m+7) s i 6 _ (by decide) hi (by simp;omega) ((5:Nat):Int) (by decide),qbw n (m+6) s i 5 _ (by decide) hi (by simp;omega) ((4:Nat):Int) (by decide),qbw n (m+5) s i 4 _ (by decide) hi (by simp;omega) ((3:Nat):Int) (by decide),qbw n (m+4) s i 3 _ (by decide) hi (by simp;omega) ((2:Nat):Int) (by decide),qbw n (m+3) s i 2 _ (by decide) hi (by simp;omega) ((1:Nat):Int) (by decide),qbw n (m+2) s i 1 _ (by decide) hi (by simp;omega) ((0:Nat):Int) (by decide),qbw n (m+1) s i 0 _ (by decide) hi (by simp;omega) (-1) (by decide),q5y]
 unfold q86
 rw [decide_eq_false (by decide),cond_false]
 simp only [List.append_assoc,List.cons_append,List.nil_append]
 rfl
def q7i (s:List UInt8):List Nat:=s.flatMap qv9
theorem enc0 (n:Nat) (hn:20<=n) (s:List UInt8) (hs:s.length<=5000) : ∀(m i:Nat) (acc:List Int),s.length - i<m->i<=s.length->acc.length<=8*i ->
  q2k n m s (i:Int) acc=some ((((),()),((),(acc++q3t (q7i (s.drop i)),()))))
 | 0,i,acc,h,_,_=>by omega
 | m+1,i,acc,h,hi,ha=>by
  rw [qf0]
  unfold qbp
  by_cases c:i<s.length
  ·obtain ⟨q,rfl⟩ : ∃ q,n=q+9:=⟨n - 9,by omega⟩
   have e1:=enc1 (q+9) q s i acc c (by omega)
   have ih:=enc0 (q+9) hn s hs m (i+1) (acc++q3t (qv9 s[i])) (by omega) (by omega) (by rw [List.length_append,q5j];show acc.length+8<=_;omega)
   rw [decide_eq_true (by omega),cond_true,e1,Option.bind_some]
   show (q0b (IntKind.wrap .i64 ((i:Int)+(1:Int))) fun (n8:Int)=>q2k (q+9) m s n8 (acc++q3t (qv9 s[i])))=_
   rw [q06 (by omega),q0m,ih]
   have e2:q7i (s.drop i)=qv9 s[i]++q7i (s.drop (i+1)):=by
    unfold q7i
    rw [List.drop_eq_getElem_cons c,List.flatMap_cons]
   rw [e2,j3b,List.append_assoc]
  ·obtain rfl:i=s.length:=by omega
   rw [decide_eq_false (by omega),cond_false,List.drop_length]
   show _=some ((((),()),((),(acc ++ [],()))))
   rw [List.append_nil]
def zs (l:Nat):Nat:=(6 - l % 6) % 6
theorem enc2 (n:Nat) : ∀(m:Nat) (acc:List Int),zs acc.length<m->acc.length<=99996->q1y n m acc=some ((((),()),((),(acc++List.replicate (zs acc.length) 0,()))))
 | 0,acc,h,_=>by omega
 | m+1,acc,h,ha=>by
  rw [qew]
  unfold qdk
  have hr:j58 ((acc.length:Nat):Int) (6:Int)=some ((acc.length % 6:Nat):Int):=jka (k:=6) (by decide)
  rw [hr,Option.bind_some]
  unfold zs at h ⊢
  by_cases c:acc.length % 6=0
  ·rw [c,decide_eq_true (show ((0:Nat):Int)=0 from rfl),Bool.not_true,cond_false]
   show _=some ((((),()),((),(acc ++ [],()))))
   rw [List.append_nil]
  ·rw [decide_eq_false (by omega),Bool.not_false,cond_true,qdg (by simp;omega),Option.bind_some]
   have hl:(acc ++ [(0:Int)]).length=acc.length+1:=by simp
   have ih:=enc2 n m (acc ++ [0]) (by unfold zs;rw [hl];omega) (by rw [hl];omega)
   unfold zs at ih
   rw [hl] at ih
   show q1y n m (acc ++ [0])=_
   rw [ih,List.append_assoc]
   have e:(6 - acc.length % 6) % 6=(6 - (acc.length+1) % 6) % 6+1:=by omega
   rw [e,List.replicate_succ]
   rfl
theorem qk9 (n m:Nat) (B:List Nat) (i k v:Nat) (acc:List Int) (hk:k<6) (hi:i+k<B.length) (hB:B.length<=1000000) (hv:v<1000) (hb:B[i+k]<2) :
  q1c n (m+1) (i:Int) (v:Int) (k:Int) (q3t B) acc=q1c n m (i:Int) ((2*v+B[i+k]:Nat):Int) ((k+1:Nat):Int) (q3t B) acc:=by
 rw [q5z]
 unfold q80
 have e1:IntKind.wrap .i64 ((2:Int)*(v:Int))=((2*v:Nat):Int):=by rw [wrap64 (by omega) (by omega)];omega
 have e2:IntKind.wrap .i64 ((i:Int)+(k:Int))=((i+k:Nat):Int):=wrap_add (by omega) (by omega)
 have e3:IntKind.wrap .i64 (((2*v:Nat):Int)+((B[i+k]:Nat):Int))=((2*v+B[i+k]:Nat):Int):=wrap_add (by omega) (by omega)
 rw [decide_eq_true (by omega),cond_true,e1,q0m,e2,q0m,j74 hi,Option.bind_some,Int.toNat_natCast,jle hi,Option.bind_some,e3,q0m,q06 (by omega),q0m]
def v6 (a b c d e f:Nat):Nat:=2*(2*(2*(2*(2*(2*0+a)+b)+c)+d)+e)+f
theorem enc4 (n m:Nat) (B:List Nat) (i:Nat) (acc:List Int) (hi:i+6<=B.length) (hB:B.length<=1000000) (h2 : ∀x∈B,x<2) :
  q1c n (m+7) (i:Int) (0:Int) (0:Int) (q3t B) acc=some ((((),((),((i:Int),(((v6 (B[i+0]'(by omega)) (B[i+1]'(by omega)) (B[i+2]'(by omega)) (B[i+3]'(by omega)) (B[i+4]'(by omega)) (B[i+5]'(by omega)):Nat):Int),())))),((),(q3t B,(acc,()))))):=by
 have q : ∀j (h:i+j<B.length),B[i+j]<2:=fun j h=>h2 _ (List.getElem_mem h)
 have q0:=q 0 (by omega);have q1:=q 1 (by omega);have q2:=q 2 (by omega);have q3:=q 3 (by omega);have q4:=q 4 (by omega);have q5:=q 5 (by omega)
 have e0:=qk9 n (m+6) B i 0 0 acc (by decide) (by omega) hB (by decide) q0
 have e:q1c n (m+7) (i:Int) (0:Int) (0:Int) (q3t B) acc=q1c n (m+6+1) (i:Int) ((0:Nat):Int) ((0:Nat):Int) (q3t B) acc:=rfl
 rw [e,e0,qk9 n (m+5) B i 1 _ acc (by decide) (by omega) hB (by omega) q1,qk9 n (m+4) B i 2 _ acc (by decide) (by omega) hB (by omega) q2,qk9 n (m+3) B i 3 _ acc (by decide) (by omega) hB (by omega) q3,qk9 n (m+2) B i 4 _ acc (by decide) (by omega) hB (by omega) q4,qk9 n (m+1) B i 5 _ acc (by decide) (by omega) hB (by omega) q5,q5z]
 unfold q80
 rw [decide_eq_false (by decide),cond_false]
 rfl
def jvu:List Nat->List UInt8
 | a::b::c::d::e::f::r=>sg (v6 a b c d e f)::jvu r
 | _=>[]
def q6c (l:List UInt8):List Int:=l.map fun c=>((c.toNat:Nat):Int)
theorem qte (l:List UInt8):(q6c l).length=l.length:=by simp [q6c]
theorem qyh (l:List UInt8):List.map (fun n:Int=>UInt8.ofNat n.toNat) (q6c l)=l:=by
 unfold q6c
 rw [List.map_map]
 have:((fun n:Int=>UInt8.ofNat n.toNat) ∘ fun c:UInt8=>((c.toNat:Nat):Int))=id:=by funext c;simp
 rw [this,List.map_id]
theorem jnf (a b:List UInt8):q6c (a++b)=q6c a++q6c b:=by simp [q6c]
theorem enc3 (n:Nat) (hn:20<=n) (B:List Nat) (hB:B.length<=100000) (h6:B.length % 6=0) (h2 : ∀x∈B,x<2) : ∀(m i:Nat) (acc:List Int),(B.length - i) / 6<m->i % 6=0->i<=B.length->acc.length<=i ->
  q1l n m (i:Int) (q3t B) acc=some ((((),()),((),(acc++q6c (jvu (B.drop i)),()))))
 | 0,i,acc,h,_,_,_=>by omega
 | m+1,i,acc,h,hi,hl,ha=>by
  rw [qeu]
  unfold qcm
  by_cases c:i<B.length
  ·have hle:i+6<=B.length:=by omega
   obtain ⟨q,rfl⟩ : ∃ q,n=q+7:=⟨n - 7,by omega⟩
   have e1:=enc4 (q+7) q B i acc hle (by omega) h2
   have p0 : ∀j (h:i+j<B.length),B[i+j]<2:=fun j h=>h2 _ (List.getElem_mem h)
   have q0:=p0 0 (by omega);have q1:=p0 1 (by omega);have q2:=p0 2 (by omega);have q3:=p0 3 (by omega);have q4:=p0 4 (by omega);have q5:=p0 5 (by omega)
   have hd:B.drop i=B[i+0]'(by omega)::B[i+1]'(by omega)::B[i+2]'(by omega)::B[i+3]'(by omega)::B[i+4]'(by omega)::B[i+5]'(by omega)::B.drop (i+6):=by
    rw [List.drop_eq_getElem_cons (i:=i) (by omega),List.drop_eq_getElem_cons (i:=i+1) (by omega),List.drop_eq_getElem_cons (i:=i+1+1) (by omega),List.drop_eq_getElem_cons (i:=i+1+1+1) (by omega),List.drop_eq_getElem_cons (i:=i+1+1+1+1) (by omega),List.drop_eq_getElem_cons (i:=i+1+1+1+1+1) (by omega)]
    rfl
   rw [hd]
   generalize B[i+0]'(by omega)=x0 at *
   generalize B[i+1]'(by omega)=x1 at *
   generalize B[i+2]'(by omega)=x2 at *
   generalize B[i+3]'(by omega)=x3 at *
   generalize B[i+4]'(by omega)=x4 at *
   generalize B[i+5]'(by omega)=x5 at *
   have hv:v6 x0 x1 x2 x3 x4 x5<64:=by unfold v6;omega
   have hs:=jk0 hv
   unfold sgT at hs
   have ih:=enc3 (q+7) hn B hB h6 h2 m (i+6) (acc ++ [(((sg (v6 x0 x1 x2 x3 x4 x5)).toNat:Nat):Int)]) (by omega) (by omega) hle (by simp;omega)
   have w:IntKind.wrap .i64 ((i:Int)+(6:Int))=((i+6:Nat):Int):=by rw [wrap64 (by omega) (by omega)];rfl
   rw [q5j,decide_eq_true (by omega),cond_true,e1,Option.bind_some]
   show ((sAt _ ((v6 x0 x1 x2 x3 x4 x5:Nat):Int)).bind fun (c20:Int)=>(qj6 1 acc ([c20]:List (Int))).bind fun (l21:List (Int))=>q0b (IntKind.wrap .i64 ((i:Int)+(6:Int))) fun (n22:Int)=>q1l (q+7) m n22 (q3t B) l21)=_
   rw [hs,Option.bind_some,qdg (by simp;omega),Option.bind_some,w,q0m,ih,List.append_assoc]
   rfl
  ·obtain rfl:i=B.length:=by omega
   rw [q5j,decide_eq_false (by omega),cond_false,List.drop_length]
   show _=some ((((),()),((),(acc ++ [],()))))
   rw [List.append_nil]
def ps (l:Nat):Nat:=(4 - l % 4) % 4
theorem enc5 (n:Nat) : ∀(m:Nat) (acc:List Int),ps acc.length<m->acc.length<=100000->q1d n m acc=some ((((),()),((),(acc++List.replicate (ps acc.length) 61,()))))
 | 0,acc,h,_=>by omega
 | m+1,acc,h,ha=>by
  rw [qf1]
  unfold qcu
  have hr:j58 ((acc.length:Nat):Int) (4:Int)=some ((acc.length % 4:Nat):Int):=jka (k:=4) (by decide)
  rw [hr,Option.bind_some]
  unfold ps at h ⊢
  by_cases c:acc.length % 4=0
  ·rw [c,decide_eq_true (show ((0:Nat):Int)=0 from rfl),Bool.not_true,cond_false]
   show _=some ((((),()),((),(acc ++ [],()))))
   rw [List.append_nil]
  ·rw [decide_eq_false (by omega),Bool.not_false,cond_true,qdg (by simp;omega),Option.bind_some]
   have hl:(acc ++ [(61:Int)]).length=acc.length+1:=by simp
   have ih:=enc5 n m (acc ++ [61]) (by unfold ps;rw [hl];omega) (by rw [hl];omega)
   unfold ps at ih
   rw [hl] at ih
   show q1d n m (acc ++ [61])=_
   rw [ih,List.append_assoc]
   have e:(4 - acc.length % 4) % 4=(4 - (acc.length+1) % 4) % 4+1:=by omega
   rw [e,List.replicate_succ]
   rfl
theorem jk1 (c:UInt8) : ∀x∈qv9 c,x<2:=fun x hx=>by
 unfold qv9 at hx
 simp only [List.mem_cons,List.not_mem_nil,or_false] at hx
 rcases hx with rfl|rfl|rfl|rfl|rfl|rfl|rfl|rfl<;>exact Nat.mod_lt _ (by decide)
theorem jmh (s:List UInt8) : ∀x∈q7i s,x<2:=fun x hx=>by
 unfold q7i at hx
 obtain ⟨c,_,h⟩:=List.mem_flatMap.1 hx
 exact jk1 c x h
theorem jkc (s:List UInt8):(q7i s).length=8*s.length:=by
 induction s with
 | nil=>rfl
 | cons a t ih=>unfold q7i at ih ⊢;rw [List.flatMap_cons,List.length_append,ih,List.length_cons];show 8+_=_;omega
theorem hi6 : ∀a:Fin 256,v6 (a.val / 2 ^ 7 % 2) (a.val / 2 ^ 6 % 2) (a.val / 2 ^ 5 % 2) (a.val / 2 ^ 4 % 2) (a.val / 2 ^ 3 % 2) (a.val / 2 ^ 2 % 2)=a.val / 4:=by decide +kernel
theorem lo6 : ∀a:Fin 256,v6 (a.val / 2 ^ 5 % 2) (a.val / 2 ^ 4 % 2) (a.val / 2 ^ 3 % 2) (a.val / 2 ^ 2 % 2) (a.val / 2 ^ 1 % 2) (a.val / 2 ^ 0 % 2)=a.val % 64:=by decide +kernel
theorem lo2 : ∀a:Fin 256,2*(a.val / 2 ^ 1 % 2)+a.val / 2 ^ 0 % 2=a.val % 4:=by decide +kernel
theorem hi4 : ∀a:Fin 256,2*(2*(2*(a.val / 2 ^ 7 % 2)+a.val / 2 ^ 6 % 2)+a.val / 2 ^ 5 % 2)+a.val / 2 ^ 4 % 2=a.val / 16:=by decide +kernel
theorem lo4 : ∀a:Fin 256,2*(2*(2*(a.val / 2 ^ 3 % 2)+a.val / 2 ^ 2 % 2)+a.val / 2 ^ 1 % 2)+a.val / 2 ^ 0 % 2=a.val % 16:=by decide +kernel
theorem hi2 : ∀a:Fin 256,2*(a.val / 2 ^ 7 % 2)+a.val / 2 ^ 6 % 2=a.val / 64:=by decide +kernel
theorem jyg (a b:UInt8):v6 (a.toNat / 2 ^ 1 % 2) (a.toNat / 2 ^ 0 % 2) (b.toNat / 2 ^ 7 % 2) (b.toNat / 2 ^ 6 % 2) (b.toNat / 2 ^ 5 % 2) (b.toNat / 2 ^ 4 % 2)=a.toNat % 4*16+b.toNat / 16:=by
 have h1:=lo2 ⟨a.toNat,UInt8.toNat_lt a⟩
 have h2:=hi4 ⟨b.toNat,UInt8.toNat_lt b⟩
 simp only at h1 h2
 rw [<-h1,<-h2]
 unfold v6
 omega
theorem mid42 (a b:UInt8):v6 (a.toNat / 2 ^ 3 % 2) (a.toNat / 2 ^ 2 % 2) (a.toNat / 2 ^ 1 % 2) (a.toNat / 2 ^ 0 % 2) (b.toNat / 2 ^ 7 % 2) (b.toNat / 2 ^ 6 % 2)=a.toNat % 16*4+b.toNat / 64:=by
 have h1:=lo4 ⟨a.toNat,UInt8.toNat_lt a⟩
 have h2:=hi2 ⟨b.toNat,UInt8.toNat_lt b⟩
 simp only at h1 h2
 rw [<-h1,<-h2]
 unfold v6
 omega
theorem end2 (a:UInt8):v6 (a.toNat / 2 ^ 1 % 2) (a.toNat / 2 ^ 0 % 2) 0 0 0 0=a.toNat % 4*16:=by
 have h1:=lo2 ⟨a.toNat,UInt8.toNat_lt a⟩
 simp only at h1
 rw [<-h1]
 unfold v6
 omega
theorem end4 (a:UInt8):v6 (a.toNat / 2 ^ 3 % 2) (a.toNat / 2 ^ 2 % 2) (a.toNat / 2 ^ 1 % 2) (a.toNat / 2 ^ 0 % 2) 0 0=a.toNat % 16*4:=by
 have h1:=lo4 ⟨a.toNat,UInt8.toNat_lt a⟩
 simp only at h1
 rw [<-h1]
 unfold v6
 omega
theorem hi6' (a:UInt8):v6 (a.toNat / 2 ^ 7 % 2) (a.toNat / 2 ^ 6 % 2) (a.toNat / 2 ^ 5 % 2) (a.toNat / 2 ^ 4 % 2) (a.toNat / 2 ^ 3 % 2) (a.toNat / 2 ^ 2 % 2)=a.toNat / 4:=hi6 ⟨a.toNat,UInt8.toNat_lt a⟩
theorem lo6' (a:UInt8):v6 (a.toNat / 2 ^ 5 % 2) (a.toNat / 2 ^ 4 % 2) (a.toNat / 2 ^ 3 % 2) (a.toNat / 2 ^ 2 % 2) (a.toNat / 2 ^ 1 % 2) (a.toNat / 2 ^ 0 % 2)=a.toNat % 64:=lo6 ⟨a.toNat,UInt8.toNat_lt a⟩
def E6 (s:List UInt8):List UInt8:=jvu (q7i s++List.replicate (zs (8*s.length)) 0)
theorem jta : ∀s:List UInt8,E6 s++List.replicate (ps (E6 s).length) 61=q73 s
 | a::b::c::r=>by
  have ih:=jta r
  have e:E6 (a::b::c::r)=sg (a.toNat / 4)::sg (a.toNat % 4*16+b.toNat / 16)::sg (b.toNat % 16*4+c.toNat / 64)::sg (c.toNat % 64)::E6 r:=by
   unfold E6
   have hz:zs (8*(a::b::c::r).length)=zs (8*r.length):=by unfold zs;simp only [List.length_cons];omega
   have hb:q7i (a::b::c::r)=qv9 a++(qv9 b++(qv9 c++q7i r)):=by unfold q7i;simp [List.flatMap_cons]
   rw [hz,hb]
   show sg (v6 _ _ _ _ _ _)::sg (v6 _ _ _ _ _ _)::sg (v6 _ _ _ _ _ _)::sg (v6 _ _ _ _ _ _)::jvu (q7i r++List.replicate (zs (8*r.length)) 0)=_
   rw [hi6' a,jyg a b,mid42 b c,lo6' c]
  rw [e]
  have hp:ps (sg (a.toNat / 4)::sg (a.toNat % 4*16+b.toNat / 16)::sg (b.toNat % 16*4+c.toNat / 64)::sg (c.toNat % 64)::E6 r).length=ps (E6 r).length:=by unfold ps;simp only [List.length_cons];omega
  rw [hp]
  show _::_::_::_::(E6 r++List.replicate (ps (E6 r).length) 61)=_
  rw [ih]
  rfl
 | [a,b]=>by
  have e:E6 [a,b] = [sg (a.toNat / 4),sg (a.toNat % 4*16+b.toNat / 16),sg (b.toNat % 16*4)]:=by
   unfold E6
   rw [show ([a,b]:List UInt8).length=2 from rfl,show zs (8*2)=2 from rfl]
   show [sg (v6 _ _ _ _ _ _),sg (v6 _ _ _ _ _ _),sg (v6 _ _ _ _ 0 0)]=_
   rw [hi6' a,jyg a b,end4 b]
  rw [e]
  rfl
 | [a]=>by
  have e:E6 [a] = [sg (a.toNat / 4),sg (a.toNat % 4*16)]:=by
   unfold E6
   rw [show ([a]:List UInt8).length=1 from rfl,show zs (8*1)=4 from rfl]
   show [sg (v6 _ _ _ _ _ _),sg (v6 _ _ 0 0 0 0)]=_
   rw [hi6' a,end2 a]
  rw [e]
  rfl
 | []=>rfl
theorem jod : ∀(m:Nat) (B:List Nat),B.length<=m->(jvu B).length<=B.length
 | 0,B,h=>by cases B with|nil=>exact Nat.le_refl _|cons _ _=>simp at h
 | m+1,B,h=>by
  unfold jvu
  split
  ·rename_i a b c d e f r
   have:=jod m r (by simp only [List.length_cons] at h;omega)
   simp only [List.length_cons] at this ⊢
   omega
  ·exact Nat.zero_le _
theorem qv7 (n:Nat) (hn:10000<=n) (s:List UInt8) (hs:s.length<=5000):q7k n s=some (q73 s):=by
 unfold q7k
 have e0:=enc0 n (by omega) s hs n 0 [] (by omega) (Nat.zero_le _) (Nat.le_refl _)
 rw [show ((0:Nat):Int)=(0:Int) from rfl,List.drop_zero,List.nil_append] at e0
 have hl:=jkc s
 have hil:(q3t (q7i s)).length=8*s.length:=by rw [q5j,hl]
 have hz:zs (8*s.length)<6:=Nat.mod_lt _ (by decide)
 have e2:=enc2 n n (q3t (q7i s)) (by rw [hil];omega) (by rw [hil];omega)
 rw [hil] at e2
 have hB:q3t (q7i s)++List.replicate (zs (8*s.length)) 0=q3t (q7i s++List.replicate (zs (8*s.length)) 0):=by rw [j3b];simp [q3t]
 rw [hB] at e2
 have hBl:(q7i s++List.replicate (zs (8*s.length)) 0).length=8*s.length+zs (8*s.length):=by rw [List.length_append,hl,List.length_replicate]
 have h6:(8*s.length+zs (8*s.length)) % 6=0:=by unfold zs;omega
 have e3:=enc3 n (by omega) (q7i s++List.replicate (zs (8*s.length)) 0) (by rw [hBl];omega) (by rw [hBl];exact h6) (fun x hx=>by
  rcases List.mem_append.1 hx with hx|hx
  ·exact jmh s x hx
  ·rw [(List.mem_replicate.1 hx).2];decide) n 0 [] (by rw [hBl];omega) rfl (Nat.zero_le _) (Nat.le_refl _)
 rw [show ((0:Nat):Int)=(0:Int) from rfl,List.drop_zero,List.nil_append] at e3
 have hg:=jod _ (q7i s++List.replicate (zs (8*s.length)) 0) (Nat.le_refl _)
 rw [hBl] at hg
 have hE:jvu (q7i s++List.replicate (zs (8*s.length)) 0)=E6 s:=rfl
 rw [hE] at e3 hg
 have hp:ps (E6 s).length<4:=Nat.mod_lt _ (by decide)
 have e5:=enc5 n n (q6c (E6 s)) (by rw [qte];omega) (by rw [qte];omega)
 rw [qte] at e5
 have h61:q6c (E6 s)++List.replicate (ps (E6 s).length) 61=q6c (q73 s):=by rw [<-jta s,jnf];simp [q6c]
 rw [h61] at e5
 rw [e0,Option.bind_some]
 show ((q1y n n (q3t (q7i s))).bind fun (o12:(Unit×(Unit))×(Unit)×((List (Int))×(Unit)))=>(q1l n n (0:Int) o12.2.2.1 []).bind fun (o23:(Unit×(Unit))×(Unit)×((List (Int))×(Unit)))=>(q1d n n o23.2.2.1).bind fun (o26:(Unit×(Unit))×(Unit)×((List (Int))×(Unit)))=>some (List.map (fun n:Int=>UInt8.ofNat n.toNat) o26.2.2.1))=_
 rw [e2,Option.bind_some]
 show ((q1l n n (0:Int) (q3t (q7i s++List.replicate (zs (8*s.length)) 0)) []).bind fun (o23:(Unit×(Unit))×(Unit)×((List (Int))×(Unit)))=>(q1d n n o23.2.2.1).bind fun (o26:(Unit×(Unit))×(Unit)×((List (Int))×(Unit)))=>some (List.map (fun n:Int=>UInt8.ofNat n.toNat) o26.2.2.1))=_
 rw [e3,Option.bind_some]
 show ((q1d n n (q6c (E6 s))).bind fun (o26:(Unit×(Unit))×(Unit)×((List (Int))×(Unit)))=>some (List.map (fun n:Int=>UInt8.ofNat n.toNat) o26.2.2.1))=_
 rw [e5,Option.bind_some]
 show some (List.map (fun n:Int=>UInt8.ofNat n.toNat) (q6c (q73 s)))=_
 rw [qyh]
theorem jpo (c:UInt8) {j:Nat} (h:j<sgT.length):nuL c (sgT.drop j) j=if sg j=c then some j else nuL c (sgT.drop (j+1)) (j+1):=by
 rw [List.drop_eq_getElem_cons h]
 have e:sgT[j]=sg j:=by unfold sg;rw [List.getD_eq_getElem?_getD,List.getElem?_eq_getElem h];rfl
 rw [show nuL c (sgT[j]::sgT.drop (j+1)) j=if sgT[j]=c then some j else nuL c (sgT.drop (j+1)) (j+1) from rfl,e]
theorem qrd (n:Nat) (c:UInt8) : ∀(m j:Nat),64 - j<m->j<=64->q40 n m ((c.toNat:Nat):Int) (j:Int)=match nuL c (sgT.drop j) j with|some k=>some (Sum.inl (((k:Int),()),((),())))|none=>some (Sum.inr (((),((),()))))
 | 0,j,h,_=>by omega
 | m+1,j,h,hj=>by
  rw [qf2]
  unfold qce
  by_cases q:j<64
  ·have hs:=jk0 q
   unfold sgT at hs
   rw [decide_eq_true (by omega),cond_true,hs,Option.bind_some,jpo c (show j<sgT.length from q)]
   by_cases d:sg j=c
   ·rw [decide_eq_true (by rw [d]),cond_true,if_pos d]
   ·rw [decide_eq_false (fun e=>d (UInt8.toNat.inj (by omega))),cond_false,if_neg d,q06 (by omega),q0m]
    exact qrd n c m (j+1) (by omega) (by omega)
  ·obtain rfl:j=64:=by omega
   rw [decide_eq_false (by decide),cond_false]
   rfl
theorem jbm (n:Nat) (hn:100<=n) (c:UInt8):qb2 n ((c.toNat:Nat):Int)=some (match nu c with|some k=>(k:Int)|none=>-1):=by
 unfold qb2
 have h:=qrd n c n 0 (by omega) (by decide)
 rw [show ((0:Nat):Int)=(0:Int) from rfl,List.drop_zero] at h
 rw [h]
 unfold nu
 cases nuL c sgT 0 with
 | some k=>rfl
 | none=>rfl
theorem j0w : ∀(t:List UInt8) (N b:Nat) (l:List UInt8),jhx t N b=some l->l.length<=t.length
 | [],N,b,l,h=>by
  obtain rfl : []=l:=Option.some.inj h
  exact Nat.le_refl _
 | c::t,N,b,l,h=>by
  unfold jhx at h
  split at h
  ·obtain rfl : []=l:=Option.some.inj h
   exact Nat.zero_le _
  ·split at h
   ·cases h
   ·split at h
    ·obtain ⟨l',h1,rfl⟩:=Option.map_eq_some_iff.1 h
     have:=j0w t _ _ l' h1
     simp only [List.length_cons]
     omega
    ·have:=j0w t _ _ l h
     simp only [List.length_cons]
     omega
theorem j26 (n:Nat) (hn:100<=n) (t:List UInt8) (ht:t.length<=5000) : ∀(m i N b:Nat) (acc:List Int),t.length - i<m->i<=t.length->N<65536->b<8->acc.length<=i ->
  q2o n m t (N:Int) (b:Int) (i:Int) acc=match jhx (t.drop i) N b with|none=>some (Sum.inl ((([]:List UInt8),(false,())),((),())))|some l=>some (Sum.inr (((t,((),())),((),(acc++q6c l,())))))
 | 0,i,N,b,acc,h,_,_,_,_=>by omega
 | m+1,i,N,b,acc,h,hi,hN,hb,ha=>by
  rw [qex]
  unfold qc0
  by_cases c:i<t.length
  ·rw [decide_eq_true (by omega),cond_true,q2z c,Option.bind_some,List.drop_eq_getElem_cons c]
   unfold jhx
   by_cases d:t[i]=61
   ·rw [if_pos d,d,decide_eq_true (show (((61:UInt8).toNat:Nat):Int)=61 from rfl),Bool.not_true,cond_false]
    show _=some (Sum.inr (((t,((),())),((),(acc ++ [],())))))
    rw [List.append_nil]
   ·have d' : ¬ ((t[i].toNat:Nat):Int)=61:=fun e=>d (UInt8.toNat.inj (by show t[i].toNat=61;omega))
    rw [if_neg d,decide_eq_false d',Bool.not_false,cond_true,Option.bind_some,jbm n hn,Option.bind_some]
    cases hq:nu t[i] with
    | none =>
     show (bif decide ((-1:Int)<0) then _ else _)=_
     rw [decide_eq_true (by decide),cond_true]
    | some k =>
     have hk:=qyw hq
     have w1:IntKind.wrap .i64 ((N:Int)*(64:Int))=((N*64:Nat):Int):=by rw [wrap64 (by omega) (by omega)];rfl
     have w2:IntKind.wrap .i64 (((N*64:Nat):Int)+(k:Int))=((N*64+k:Nat):Int):=wrap_add (by omega) (by omega)
     have w3:jpf .i64 ((N*64+k:Nat):Int) (65535:Int)=(((N*64+k) % 65536:Nat):Int):=ja2 16 (by decide) (by omega)
     have w4:IntKind.wrap .i64 ((b:Int)+(6:Int))=((b+6:Nat):Int):=by rw [wrap64 (by omega) (by omega)];rfl
     show (bif decide ((k:Int)<0) then _ else _)=_
     rw [decide_eq_false (by omega),cond_false,w1,q0m,w2,q0m,w3,q0m,w4,q0m]
     have hM:(N*64+k) % 65536<65536:=Nat.mod_lt _ (by decide)
     simp only
     generalize (N*64+k) % 65536=M at *
     by_cases e8:8<=b+6
     ·have w5:IntKind.wrap .i64 (((b+6:Nat):Int) - (8:Int))=((b+6 - 8:Nat):Int):=by rw [wrap64 (by omega) (by omega)];omega
      have hd:M / 2 ^ (b+6 - 8)<2 ^ 32:=Nat.lt_of_le_of_lt (Nat.div_le_self _ _) (by omega)
      have w6:jpf .i64 ((M / 2 ^ (b+6 - 8):Nat):Int) (255:Int)=((M / 2 ^ (b+6 - 8) % 256:Nat):Int):=ja2 8 (by decide) hd
      have hx:M / 2 ^ (b+6 - 8) % 256<256:=Nat.mod_lt _ (by decide)
      rw [if_pos (show b+6 >= 8 from e8),decide_eq_true (by omega),cond_true,w5,q0m,jxa (by omega),Option.bind_some,w6,q0m]
      generalize M / 2 ^ (b+6 - 8) % 256=x at *
      have w7:IntKind.wrap .u8 ((x:Nat):Int)=((x:Nat):Int):=by show ((x:Nat):Int) % (2 ^ 8)=_;omega
      rw [w7,q0m,qdg (by simp;omega),Option.bind_some,q06 (by omega),q0m]
      have ih:=j26 n hn t ht m (i+1) M (b+6 - 8) (acc ++ [(x:Int)]) (by omega) (by omega) hM (by omega) (by simp;omega)
      show q2o n m t (M:Int) ((b+6 - 8:Nat):Int) ((i+1:Nat):Int) (acc ++ [(x:Int)])=_
      rw [ih]
      cases jhx (t.drop (i+1)) M (b+6 - 8) with
      | none=>rfl
      | some l =>
       show some (Sum.inr (((t,((),())),((),(acc ++ [(x:Int)]++q6c l,())))))=some (Sum.inr (((t,((),())),((),(acc++q6c (UInt8.ofNat x::l),())))))
       have e9:q6c (UInt8.ofNat x::l) = [(x:Int)]++q6c l:=by
        have h0:(UInt8.ofNat x).toNat=x:=by rw [UInt8.toNat_ofNat'];omega
        show (((UInt8.ofNat x).toNat:Nat):Int)::q6c l=(x:Int)::q6c l
        rw [h0]
       rw [e9,List.append_assoc]
     ·rw [if_neg (show ¬ b+6 >= 8 from e8),decide_eq_false (by omega),cond_false,q06 (by omega),q0m]
      exact j26 n hn t ht m (i+1) M (b+6) acc (by omega) (by omega) hM (by omega) (by omega)
  ·obtain rfl:i=t.length:=by omega
   rw [decide_eq_false (by omega),cond_false,List.drop_length]
   show _=some (Sum.inr (((t,((),())),((),(acc ++ [],())))))
   rw [List.append_nil]
theorem qvm (n:Nat) (hn:10000<=n) (t:List UInt8) (ht:t.length<=5000):qba n t=some (qcx t):=by
 unfold qba qcx
 have h:=j26 n (by omega) t ht n 0 0 0 [] (by omega) (Nat.zero_le _) (by decide) (by decide) (Nat.zero_le _)
 rw [show ((0:Nat):Int)=(0:Int) from rfl,List.drop_zero] at h
 rw [h]
 cases hd:jhx t 0 0 with
 | none=>rfl
 | some l =>
  have hl:=j0w t 0 0 l hd
  show ((q7k n (List.map (fun n:Int=>UInt8.ofNat n.toNat) (q6c l))).bind fun (r18:List UInt8)=>(bif !decide (r18=t) then some (([]:List UInt8),false) else some ((List.map (fun n:Int=>UInt8.ofNat n.toNat) (q6c l)),true)))=some (if q73 l=t then (l,true) else ([],false))
  rw [qyh,qv7 n hn l (by omega),Option.bind_some]
  by_cases c:q73 l=t
  ·rw [decide_eq_true c,if_pos c];rfl
  ·rw [decide_eq_false c,if_neg c];rfl
end YtcdjkibiggjdoaaGreatDoor.AM.Bs
end Go.Proofs
namespace Go.Proofs.YtcdjkibiggjdoaaGreatDoor.AM
open Go.RowKit
set_option linter.unusedVariables false
set_option linter.unusedSimpArgs false
abbrev LT:=List TgD
def qu5 (ls:List LT):Nat:=(ls.map List.length).sum
theorem qfb (n:Nat) (ls:List LT) (hL:ls.length<=1000000) (hS:qu5 ls<=1000000000) : ∀m j:Nat,j<=ls.length->ls.length - j<m ->
  q5h n m ls ((qu5 (ls.take j):Nat):Int) ls ((ls.length:Nat):Int) (j:Int)=some ((ls,(((qu5 ls:Nat):Int),())),((),()))
 | 0,j,hj,hm=>absurd hm (Nat.not_lt_zero _)
 | m+1,j,hj,hm=>by
  rw [qkc]
  unfold qs4
  by_cases hjl:j<ls.length
  ·have h1:(j:Int)<((ls.length:Nat):Int):=by omega
   rw [decide_eq_true h1,cond_true,q1k hjl,Option.bind_some]
   have htk:qu5 (ls.take (j+1))=qu5 (ls.take j)+ls[j].length:=by
    unfold qu5;rw [q9o hjl,List.map_append,List.sum_append];simp
   have hle:qu5 (ls.take (j+1))<=qu5 ls:=by
    have:qu5 ls=qu5 (ls.take (j+1))+qu5 (ls.drop (j+1)):=by
     unfold qu5;rw [<-List.sum_append,<-List.map_append,List.take_append_drop]
    omega
   unfold q0b
   have hw:IntKind.wrap .i64 (((qu5 (ls.take j):Nat):Int)+((ls[j].length:Nat):Int))=((qu5 (ls.take (j+1)):Nat):Int):=by
    rw [htk,Int.natCast_add];exact wrap64 (by omega) (by omega)
   have hw2:IntKind.wrap .i64 ((j:Int)+1)=((j+1:Nat):Int):=q06 (by omega)
   have hng:decide ((((qu5 (ls.take (j+1)):Nat):Int))<0)=false:=decide_eq_false (by omega)
   show (bif decide ((IntKind.wrap .i64 (((qu5 (ls.take j):Nat):Int)+((ls[j].length:Nat):Int)))<0) then none else _)=_
   rw [hw,hng,cond_false,hw2]
   exact qfb n ls hL hS m (j+1) hjl (by omega)
  ·have h1 : ¬ (j:Int)<((ls.length:Nat):Int):=by omega
   rw [decide_eq_false h1,cond_false,List.take_of_length_le (by omega)]
theorem jrw (ls:List LT):ls.flatten.length=qu5 ls:=by unfold qu5;rw [List.length_flatten]
theorem qf3 (n:Nat) (ls:List LT) (hL:ls.length<=1000000) (hS:qu5 ls<=1000000000) : ∀m j:Nat,j<=ls.length->ls.length - j<m ->
  q57 n m ls ((ls.length:Nat):Int) (j:Int) (ls.take j).flatten=some (((),()),((),(ls.flatten,())))
 | 0,j,hj,hm=>absurd hm (Nat.not_lt_zero _)
 | m+1,j,hj,hm=>by
  rw [qkp]
  unfold qsm
  by_cases hjl:j<ls.length
  ·have h1:(j:Int)<((ls.length:Nat):Int):=by omega
   rw [decide_eq_true h1,cond_true,q1k hjl,Option.bind_some]
   have htk:(ls.take (j+1)).flatten=(ls.take j).flatten++ls[j]:=by
    rw [q9o hjl,List.flatten_append];simp
   have hle:((ls.take j).flatten++ls[j]).length<=qu5 ls:=by
    rw [<-htk,<-jrw]
    have:ls.flatten=(ls.take (j+1)).flatten++(ls.drop (j+1)).flatten:=by rw [<-List.flatten_append,List.take_append_drop]
    rw [this,List.length_append];omega
   rw [List.length_append] at hle
   have h3:qj6 88 (ls.take j).flatten ls[j]=some ((ls.take j).flatten++ls[j]):=qdg (by omega)
   rw [h3,Option.bind_some,<-htk]
   unfold q0b
   rw [q06 (by omega)]
   exact qf3 n ls hL hS m (j+1) hjl (by omega)
  ·have h1 : ¬ (j:Int)<((ls.length:Nat):Int):=by omega
   rw [decide_eq_false h1,cond_false,List.take_of_length_le (by omega)]
theorem ja9 (n:Nat) (ls:List LT) (hL:ls.length<=1000000) (hS:qu5 ls<=1000000000) (hn:ls.length<n):qie n ls=some ls.flatten:=by
 unfold qie
 have h0:=qfb n ls hL hS n 0 (Nat.zero_le _) (by omega)
 have h0':q5h n n ls (0:Int) ls ((List.length ls:Nat):Int) (0:Int)=_:=h0
 rw [h0',Option.bind_some]
 have hg:qyl () ((qu5 ls:Nat):Int)=some ((),((),([],()))):=by unfold qyl;rw [if_pos ⟨by omega,by omega⟩]
 rw [hg,Option.bind_some]
 have h1:=qf3 n ls hL hS n 0 (Nat.zero_le _) (by omega)
 have h1':q57 n n ls ((List.length ls:Nat):Int) (0:Int) []=_:=h1
 rw [h1',Option.bind_some]
def jph (l:List TgD) (t:TgD):List TgD×Int:=if q09 l t=0 then (l ++ [t],0) else ([],q09 l t)
theorem qyx (n:Nat) (hn:200000<=n) (l:List TgD) (t:TgD) (hL:l.length<=1000000) : ∀m j:Nat,j<=l.length->l.length - j<m ->
  q9c n m l l ((l.length:Nat):Int) (j:Int) t.1 t.2.1 t.2.2.1 t.2.2.2.1 t.2.2.2.2.1 t.2.2.2.2.2.1 t.2.2.2.2.2.2=some (if (l.drop j).any (qe2 t)=true then Sum.inl (((),((13:Int),())),((),())) else Sum.inr (((l,((),())),(((t,()),())))))
 | 0,j,hj,hm=>absurd hm (Nat.not_lt_zero _)
 | m+1,j,hj,hm=>by
  rw [qqf]
  unfold j92
  by_cases hjl:j<l.length
  ·have h1:(j:Int)<((l.length:Nat):Int):=by omega
   rw [decide_eq_true h1,cond_true,q1k hjl,Option.bind_some]
   have hd:l.drop j=l[j]::l.drop (j+1):=List.drop_eq_getElem_cons hjl
   rw [hd,List.any_cons]
   generalize l[j]=o
   have hw:IntKind.wrap .i64 ((j:Int)+1)=((j+1:Nat):Int):=q06 (by omega)
   by_cases hp:o.1=t.1
   ·rw [decide_eq_true hp,cond_true]
    show (qa3 n (tV o) (tV t)).bind _=_
    rw [qr3 n _ _ (by omega),Option.bind_some]
    by_cases hc:q8w (tV o) (tV t)<0
    ·have hh:qe2 t o=false:=by unfold qe2;rw [decide_eq_true hp,decide_eq_false (by omega)];rfl
     rw [decide_eq_true hc,Bool.not_true,cond_false,hh,Bool.false_or]
     unfold q0b
     rw [hw]
     exact qyx n hn l t hL m (j+1) hjl (by omega)
    ·have hh:qe2 t o=true:=by unfold qe2;rw [decide_eq_true hp,decide_eq_true (by omega)];rfl
     rw [decide_eq_false hc,Bool.not_false,cond_true,hh,Bool.true_or,if_pos rfl]
   ·have hh:qe2 t o=false:=by unfold qe2;rw [decide_eq_false hp];rfl
    rw [decide_eq_false hp,cond_false,hh,Bool.false_or]
    unfold q0b
    rw [hw]
    exact qyx n hn l t hL m (j+1) hjl (by omega)
  ·have h1 : ¬ (j:Int)<((l.length:Nat):Int):=by omega
   rw [decide_eq_false h1,cond_false,List.drop_of_length_le (by omega)]
   rfl
theorem qs1 (n:Nat) (hn:200000<=n) (l:List TgD) (t:TgD) (hL:l.length<=100000) (hs:small t):qmi n l t=some (jph l t):=by
 unfold qmi jph q09
 rw [qsi n t hs hn,Option.bind_some]
 by_cases hj:q31 t=0
 ·rw [hj,decide_eq_true rfl,Bool.not_true,cond_false,if_pos rfl]
  have h:=qyx n hn l t (by omega) n 0 (Nat.zero_le _) (by omega)
  have h':q9c n n l l ((l.length:Nat):Int) (0:Int) t.1 t.2.1 t.2.2.1 t.2.2.2.1 t.2.2.2.2.1 t.2.2.2.2.2.1 t.2.2.2.2.2.2=_:=h
  rw [h',Option.bind_some,List.drop_zero]
  by_cases ha:l.any (qe2 t)=true
  ·rw [if_pos ha,if_pos ha,if_neg (by omega)];rfl
  ·rw [if_neg ha,if_neg ha,if_pos rfl]
   have hc:=ja9 n [l,[t]] (by simp) (by unfold qu5;simp;omega) (by simp;omega)
   show (qie n [l,[t]]).bind _=_
   rw [hc,Option.bind_some]
   simp
 ·rw [decide_eq_false hj,Bool.not_false,cond_true,if_neg hj,if_neg hj]
theorem qnt (n:Nat) (hn:200000<=n) (s:List UInt8) (hs:s.length<=5000):q7j n s=some (q3u s):=by
 unfold q7j q3u
 by_cases h3:s.length<3
 ·rw [decide_eq_true (by omega),cond_true]
  have : ¬ h1L <+: s:=fun h=>by have:=h.length_le;unfold h1L at this;simp at this;omega
  rw [decide_eq_false this];rfl
 ·rw [decide_eq_false (by omega),cond_false]
  have e1:q7n s (0:Int) (3:Int)=some (s.take 3):=sub_zero (b:=3) (by omega)
  have e2:q7n s (3:Int) ((s.length:Nat):Int)=some (s.drop 3):=by
   rw [show (3:Int)=((3:Nat):Int) from rfl,sub_le (by omega) (Nat.le_refl _),List.take_of_length_le (by rw [List.length_drop];exact Nat.le_refl _)]
  rw [e1,Option.bind_some]
  have hpre:decide (s.take 3=([104,49,58]:List UInt8))=decide (h1L <+: s):=by
   refine decide_eq_decide.2 ?_
   rw [List.prefix_iff_eq_take]
   exact eq_comm
  rw [hpre]
  cases decide (h1L <+: s) with
  | false=>rfl
  | true =>
   rw [Bool.not_true,cond_false,e2,Option.bind_some,Bs.qvm n (by omega) (s.drop 3) (by rw [List.length_drop];omega),Option.bind_some,Bool.true_and]
   cases (Bs.qcx (s.drop 3)).2 with
   | false=>rfl
   | true =>
    rw [cond_true,Bool.true_and]
    congr 1
    exact decide_eq_decide.2 ⟨fun h=>by omega,fun h=>by omega⟩
def few (t:TgD):Prop:=t.1.length<=5000/\(tH t).length<=5000
theorem q58 {t:TgD} (h:few t):small t:=⟨by have:=h.1;omega,by have:=h.2;omega⟩
theorem qkh (n:Nat) (hn:200000<=n) (l:List TgD) (t:TgD) (hL:l.length<=1000000) : ∀m j:Nat,j<=l.length->l.length - j<m ->
  q2e n m l (j:Int) t.1 t.2.1 t.2.2.1 t.2.2.2.1 t.2.2.2.2.1 t.2.2.2.2.2.1 t.2.2.2.2.2.2=some (if (l.drop j).any (qe2 t)=true then Sum.inl (((13:Int),()),((),())) else Sum.inr (((),((),()))))
 | 0,j,hj,hm=>absurd hm (Nat.not_lt_zero _)
 | m+1,j,hj,hm=>by
  rw [qfw]
  unfold qgw
  by_cases hjl:j<l.length
  ·have h1:(j:Int)<((l.length:Nat):Int):=by omega
   rw [decide_eq_true h1,cond_true,q1k hjl,Option.bind_some,Option.bind_some]
   have hd:l.drop j=l[j]::l.drop (j+1):=List.drop_eq_getElem_cons hjl
   rw [hd,List.any_cons]
   generalize l[j]=o
   have hw:IntKind.wrap .i64 ((j:Int)+1)=((j+1:Nat):Int):=q06 (by omega)
   by_cases hp:o.1=t.1
   ·rw [decide_eq_true hp,cond_true]
    show (q2u n (tV o) (tV t)).bind _=_
    rw [qa2 n _ _ (by omega),Option.bind_some]
    by_cases hc:0<=q8w (tV o) (tV t)
    ·have hh:qe2 t o=true:=by unfold qe2;rw [decide_eq_true hp,decide_eq_true hc];rfl
     rw [decide_eq_true hc,cond_true,hh,Bool.true_or,if_pos rfl]
    ·have hh:qe2 t o=false:=by unfold qe2;rw [decide_eq_true hp,decide_eq_false hc];rfl
     rw [decide_eq_false hc,cond_false,hh,Bool.false_or]
     unfold q0b
     rw [hw]
     exact qkh n hn l t hL m (j+1) hjl (by omega)
   ·have hh:qe2 t o=false:=by unfold qe2;rw [decide_eq_false hp];rfl
    rw [decide_eq_false hp,cond_false,hh,Bool.false_or]
    unfold q0b
    rw [hw]
    exact qkh n hn l t hL m (j+1) hjl (by omega)
  ·have h1 : ¬ (j:Int)<((l.length:Nat):Int):=by omega
   rw [decide_eq_false h1,cond_false,List.drop_of_length_le (by omega)]
   rfl
theorem qhh (n:Nat) (hn:200000<=n) (l:List TgD) (t:TgD) (hL:l.length<=100000) (hs:few t):q9k n l t=some (q09 l t):=by
 unfold q9k q09 q31
 rw [qmk n t.1 hs.1 (by omega),Option.bind_some]
 cases okS t.1 with
 | false=>rfl
 | true =>
  show (q66 n (tV t)).bind _=_
  rw [q72 n (tV t) (by omega),Option.bind_some]
  cases q0u (tV t) with
  | false=>rfl
  | true =>
   show (qb9 n t.1 (tV t)).bind _=_
   rw [qs2 n t.1 (tV t) hs.1 (by omega),Option.bind_some]
   cases qzf t.1 (tV t) with
   | false=>rfl
   | true =>
    show (q7j n (tH t)).bind _=_
    rw [qnt n hn (tH t) hs.2,Option.bind_some]
    cases q3u (tH t) with
    | false=>rfl
    | true =>
     have h:=qkh n hn l t (by omega) n 0 (Nat.zero_le _) (by omega)
     have h':q2e n n l (0:Int) t.1 t.2.1 t.2.2.1 t.2.2.2.1 t.2.2.2.2.1 t.2.2.2.2.2.1 t.2.2.2.2.2.2=_:=h
     simp only [Bool.not_true,cond_false,if_true]
     show (q2e n n l (0:Int) t.1 t.2.1 t.2.2.1 t.2.2.2.1 t.2.2.2.2.1 t.2.2.2.2.2.1 t.2.2.2.2.2.2).bind _=_
     rw [h',Option.bind_some,List.drop_zero]
     cases l.any (qe2 t)<;>rfl
theorem qrj (n:Nat) (hn:200000<=n) (l:List TgD) (t:TgD) (hL:l.length<=100000) (hs:few t):qds n l t=some (jph l t):=by
 unfold qds jph
 rw [qhh n hn l t hL hs,Option.bind_some]
 by_cases hw:q09 l t=0
 ·rw [hw,decide_eq_true rfl,Bool.not_true,cond_false,if_pos rfl]
  have a1:qj6 88 ([]:List TgD) l=some ([]++l):=qdg (by simp only [List.length_nil];omega)
  have a2:qj6 88 ([]++l) [t]=some (([]++l) ++ [t]):=qdg (by simp only [List.nil_append,List.length_cons,List.length_nil];omega)
  show (qj6 88 ([]:List TgD) l).bind _=_
  rw [a1,Option.bind_some]
  show (qj6 88 ([]++l) [t]).bind _=_
  rw [a2,Option.bind_some];rfl
 ·rw [decide_eq_false hw,Bool.not_false,cond_true,if_neg hw]
end Go.Proofs.YtcdjkibiggjdoaaGreatDoor.AM
namespace Go.Proofs.YtcdjkibiggjdoaaGreatDoor.AM
open Go.RowKit
set_option linter.unusedVariables false
set_option linter.unusedSimpArgs false
abbrev jus:=((((List UInt8)×(Int×(Unit)))×(Unit)×(Unit))⊕(((List UInt8)×(Unit))×(Unit)×(Unit)))
def rtFin (r:jus):Option (List UInt8×Int):=Sum.elim (fun q16=>some (q16.1.1,q16.1.2.1)) (fun q17=>some (q17.1.1,(0:Int))) r
theorem qyj (n:Nat) (hn:200000<=n) (l:List TgD) (hL:l.length<=100000) (hs : ∀t∈l,few t) : ∀m j:Nat,j<=l.length->l.length - j<m ->
  ∃ r:jus,q3w n m l ((l.take j).map q4g).flatten (j:Int)=some r/\rtFin r=some (q4i (l.take j) (l.drop j))
 | 0,j,hj,hm=>absurd hm (Nat.not_lt_zero _)
 | m+1,j,hj,hm=>by
  rw [qic]
  unfold qlx
  by_cases hjl:j<l.length
  ·have h1:(j:Int)<((l.length:Nat):Int):=by omega
   have hx:=q1k hjl
   rw [decide_eq_true h1,cond_true,sub_zero (b:=j) (by omega),Option.bind_some,hx,Option.bind_some]
   have hd:l.drop j=l[j]::l.drop (j+1):=List.drop_eq_getElem_cons hjl
   have hst:=hs l[j] (List.getElem_mem hjl)
   have htk:=q9o hjl
   rw [qhh n hn (l.take j) l[j] (by rw [List.length_take];omega) hst,Option.bind_some,hd]
   generalize l[j]=t at *
   have hgo:q4i (l.take j) (t::l.drop (j+1))=if q09 (l.take j) t=0 then q4i (l.take j ++ [t]) (l.drop (j+1)) else ([],q09 (l.take j) t):=rfl
   rw [hgo]
   by_cases hw:q09 (l.take j) t=0
   ·rw [hw,decide_eq_true rfl,Bool.not_true,cond_false,if_pos rfl]
    have hacc:((l.take j).map q4g).flatten.length<=200200*100000:=by
     have:=qqz (l:=l.take j) (fun t ht=>q58 (hs t (List.mem_of_mem_take ht)))
     rw [List.length_take] at this
     have h5:min j l.length<=100000:=by omega
     calc _<=200200*min j l.length:=this
      _<=_:=Nat.mul_le_mul_left _ h5
    have hT:=qhl (tV t)
    have h1':=hst.1
    have h2':t.2.2.2.2.2.2.length<=5000:=hst.2
    have hA:(q4g t)=t.1++32::(q3f (tV t)++32::(tH t ++ [10])):=rfl
    generalize hacc2:((l.take j).map q4g).flatten=A at hacc
    rw [Option.bind_some,q1j (by omega),Option.bind_some,q1j (by simp only [List.length_append,List.length_cons,List.length_nil];omega),Option.bind_some,Option.bind_some]
    show ∃ r:jus,((q5v n (tV t)).bind _)=some r/\_
    rw [qwp n (tV t) (by omega),Option.bind_some,q1j (by simp only [List.length_append,List.length_cons,List.length_nil];omega),Option.bind_some,q1j (by simp only [List.length_append,List.length_cons,List.length_nil];omega),Option.bind_some,Option.bind_some,
     q1j (by simp only [List.length_append,List.length_cons,List.length_nil];omega),Option.bind_some,q1j (by simp only [List.length_append,List.length_cons,List.length_nil];omega),Option.bind_some]
    unfold q0b
    rw [q06 (by omega)]
    have hE:A++t.1 ++ [32]++q3f (tV t) ++ [32]++tH t ++ [10]=((l.take (j+1)).map q4g).flatten:=by
     rw [htk,List.map_append,List.flatten_append,hacc2]
     simp [q4g]
    rw [hE,<-htk]
    exact qyj n hn l hL hs m (j+1) hjl (by omega)
   ·rw [decide_eq_false hw,Bool.not_false,cond_true,if_neg hw]
    exact ⟨_,rfl,rfl⟩
  ·have h1 : ¬ (j:Int)<((l.length:Nat):Int):=by omega
   rw [decide_eq_false h1,cond_false,List.drop_of_length_le (by omega)]
   exact ⟨_,rfl,rfl⟩
theorem j75 (n:Nat) (hn:200000<=n) (l:List TgD) (hL:l.length<=100000) (hs : ∀t∈l,few t):qhp n l=some (q4i [] l):=by
 unfold qhp
 obtain ⟨r,h1,h2⟩:=qyj n hn l hL hs n 0 (Nat.zero_le _) (by omega)
 have h1':q3w n n l [] (0:Int)=some r:=h1
 rw [h1',Option.bind_some]
 exact h2
abbrev jlg:=((Unit×(Int×(Int×(Unit))))×(Unit)×(Unit))⊕(((List TgD)×(Unit))×(Unit)×(Unit))
def jtw (r:jlg):Option (List TgD×(Int×Int)):=Sum.elim (fun q13=>some (([]:List TgD),(q13.1.2.1,q13.1.2.2.1))) (fun q14=>some (q14.1.1,(((List.length q14.1.1:Nat):Int),(0:Int)))) r
theorem qu3 (n:Nat) (hn:200000<=n) (ls:List (List UInt8)) (hL:ls.length<=90000) (hs : ∀s∈ls,s.length<=5000) : ∀(m j:Nat) (d:List TgD),j<=ls.length->ls.length - j<m->d.length=j ->
  ∃ r:jlg,q30 n m d ls (j:Int)=some r/\jtw r=some (q0j d (ls.drop j))
 | 0,j,d,hj,hm,_=>absurd hm (Nat.not_lt_zero _)
 | m+1,j,d,hj,hm,hdl=>by
  rw [qg8]
  unfold qg7
  by_cases hjl:j<ls.length
  ·have h1:(j:Int)<((ls.length:Nat):Int):=by omega
   rw [decide_eq_true h1,cond_true,q1k hjl,Option.bind_some]
   have hd:ls.drop j=ls[j]::ls.drop (j+1):=List.drop_eq_getElem_cons hjl
   have hst:=hs ls[j] (List.getElem_mem hjl)
   rw [hd]
   generalize ls[j]=s at *
   have hsp:q0n n s (32:Int)=some (spl 32 [] s):=q43 n s 32 (by omega) (by omega)
   have hmem:=q4c 32 s []
   have hgo:q0j d (s::ls.drop (j+1))=match jh9 (spl 32 [] s) with
     | none=>([],((d.length:Int),10))
     | some t=>if q09 d t=0 then q0j (d ++ [t]) (ls.drop (j+1)) else ([],((d.length:Int),q09 d t)):=rfl
   rw [hgo]
   show ∃ r:jlg,((q0n n s (32:Int)).bind _)=some r/\_
   rw [hsp,Option.bind_some]
   have bad : ∀L:List (List UInt8),L.length≠3->jh9 L=none:=fun L h=>by
    match L,h with
    | [],_=>rfl
    | [a],_=>rfl
    | [a,b],_=>rfl
    | [a,b,c],h=>exact absurd rfl h
    | a::b::c::d::l,_=>rfl
   generalize spl 32 [] s=L at hmem
   by_cases h3:L.length=3
   ·match L,h3,hmem with
    | [p,v,h],_,hmem =>
     have hv:v.length<=5000:=by have:=hmem v (by simp);simp only [List.length_nil,Nat.zero_add] at this;omega
     have hp':p.length<=5000:=by have:=hmem p (by simp);simp only [List.length_nil,Nat.zero_add] at this;omega
     have hh':h.length<=5000:=by have:=hmem h (by simp);simp only [List.length_nil,Nat.zero_add] at this;omega
     have h3':decide ((([p,v,h]:List (List UInt8)).length:Int)=3)=true:=by simp
     have i1:q1a [p,v,h] (1:Int)=some v:=rfl
     have i0:q1a [p,v,h] (0:Int)=some p:=rfl
     have i2:q1a [p,v,h] (2:Int)=some h:=rfl
     rw [h3',Bool.not_true,cond_false,i1,Option.bind_some,j8r n v hv (by omega),Option.bind_some,i0,Option.bind_some,i2,Option.bind_some]
     show ∃ r:jlg,_=some r/\jtw r=some (match j7e p v h with
      | none=>([],((d.length:Int),10))
      | some t=>if q09 d t=0 then q0j (d ++ [t]) (ls.drop (j+1)) else ([],((d.length:Int),q09 d t)))
     by_cases hc:(q19 v).2=true
     ·rw [hc,Bool.not_true,cond_false]
      by_cases hp:p = []
      ·rw [decide_eq_true hp,cond_true,qa0 (fun h5=>h5.2.1 hp)]
       refine ⟨_,rfl,?_⟩
       rw [hdl];rfl
      ·rw [decide_eq_false hp,cond_false]
       by_cases hh:h = []
       ·rw [decide_eq_true hh,cond_true,qa0 (fun h5=>h5.2.2 hh)]
        refine ⟨_,rfl,?_⟩
        rw [hdl];rfl
       ·rw [decide_eq_false hh,cond_false,qqa ⟨hc,hp,hh⟩,Option.bind_some,Option.bind_some]
        show ∃ r:jlg,((qds n d (mkT p (q19 v).1 h)).bind _)=some r/\jtw r=some (if q09 d (mkT p (q19 v).1 h)=0 then q0j (d ++ [mkT p (q19 v).1 h]) (ls.drop (j+1)) else ([],((d.length:Int),q09 d (mkT p (q19 v).1 h))))
        rw [qrj n hn d (mkT p (q19 v).1 h) (by omega) ⟨hp',hh'⟩,Option.bind_some]
        unfold jph
        by_cases hw:q09 d (mkT p (q19 v).1 h)=0
        ·rw [if_pos hw,if_pos hw]
         simp only [decide_true,Bool.not_true,cond_false]
         unfold q0b
         rw [q06 (by omega)]
         exact qu3 n hn ls hL hs m (j+1) _ hjl (by omega) (by simp [hdl])
        ·rw [if_neg hw,if_neg hw]
         have h2:decide ((q09 d (mkT p (q19 v).1 h))=(0:Int))=false:=decide_eq_false hw
         simp only [h2,Bool.not_false,cond_true]
         refine ⟨_,rfl,?_⟩
         rw [hdl];rfl
     ·have hc':(q19 v).2=false:=Bool.eq_false_iff.2 hc
      rw [hc',Bool.not_false,cond_true,qa0 (fun h5=>hc h5.1)]
      refine ⟨_,rfl,?_⟩
      rw [hdl];rfl
   ·have h3':decide (((L.length:Nat):Int)=3)=false:=decide_eq_false (by omega)
    rw [h3',Bool.not_false,cond_true,bad L h3]
    refine ⟨_,rfl,?_⟩
    rw [hdl];rfl
  ·have h1 : ¬ (j:Int)<((ls.length:Nat):Int):=by omega
   rw [decide_eq_false h1,cond_false,List.drop_of_length_le (by omega)]
   exact ⟨_,rfl,rfl⟩
theorem j1u (n:Nat) (hn:200000<=n) (s:List UInt8) (hs:s.length<=5000):qdn n s=some (q0j [] (q0q s)):=by
 unfold qdn
 rw [jrs n s (by omega) (by omega),Option.bind_some]
 obtain ⟨k1,k2⟩:=q7h hs
 obtain ⟨r,h1,h2⟩:=qu3 n hn (q0q s) (by omega) k2 n 0 [] (Nat.zero_le _) (by omega) rfl
 have h1':q30 n n [] (q0q s) (0:Int)=some r:=h1
 rw [h1',Option.bind_some]
 exact h2
theorem q5p (n:Nat) (hn:100<=n) (l:List TgD) (p:List UInt8) (hL:l.length<=1000000000000) : ∀(m j:Nat) (b:Option TgD) (a6:List UInt8) (a7 a8 a9:Int) (a10 a11 a12:List UInt8),j<=l.length->l.length - j<m ->
  ∃ c:TgD,q2l n m l p b.isSome (j:Int) a6 a7 a8 a9 a10 a11 a12 (b.getD z0T).1 (b.getD z0T).2.1 (b.getD z0T).2.2.1 (b.getD z0T).2.2.2.1 (b.getD z0T).2.2.2.2.1 (b.getD z0T).2.2.2.2.2.1 (b.getD z0T).2.2.2.2.2.2 =
   some ((((),((),((q0i p b (l.drop j)).isSome,()))),((c,((q0i p b (l.drop j)).getD z0T,())),())))
 | 0,j,b,_,_,_,_,_,_,_,hj,hm=>absurd hm (Nat.not_lt_zero _)
 | m+1,j,b,a6,a7,a8,a9,a10,a11,a12,hj,hm=>by
  rw [qev]
  unfold qdc
  by_cases hjl:j<l.length
  ·have h1:(j:Int)<((l.length:Nat):Int):=by omega
   have hx:=q1k hjl
   rw [decide_eq_true h1,cond_true,hx,Option.bind_some]
   have hd:l.drop j=l[j]::l.drop (j+1):=List.drop_eq_getElem_cons hjl
   rw [hd]
   generalize l[j]=t at hx ⊢
   have hw:IntKind.wrap .i64 ((j:Int)+1)=((j+1:Nat):Int):=by rw [q06 (by omega)]
   by_cases hp:t.1=p
   ·rw [decide_eq_true hp,cond_true]
    cases b with
    | none =>
     have e1:q0i p none (t::l.drop (j+1))=q0i p (some t) (l.drop (j+1)):=by rw [q1t,if_pos hp]
     rw [e1]
     show ∃ c:TgD,q0b _ _=_
     unfold q0b
     rw [hw]
     exact q5p n hn l p hL m (j+1) (some t) _ _ _ _ _ _ _ hjl (by omega)
    | some q =>
     show ∃ c:TgD,(q2u n (tV t) (tV q)).bind _=_
     rw [qa2 n _ _ hn,Option.bind_some]
     by_cases hc:0<q8w (tV t) (tV q)
     ·have e1:q0i p (some q) (t::l.drop (j+1))=q0i p (some t) (l.drop (j+1)):=by rw [q1t,if_pos hp];simp only [hc,if_true]
      rw [decide_eq_true hc,cond_true,e1,Option.bind_some]
      unfold q0b
      rw [hw]
      exact q5p n hn l p hL m (j+1) (some t) _ _ _ _ _ _ _ hjl (by omega)
     ·have e1:q0i p (some q) (t::l.drop (j+1))=q0i p (some q) (l.drop (j+1)):=by rw [q1t,if_pos hp];simp only [hc,if_false]
      rw [decide_eq_false hc,cond_false,e1]
      unfold q0b
      rw [hw]
      exact q5p n hn l p hL m (j+1) (some q) _ _ _ _ _ _ _ hjl (by omega)
   ·have e1:q0i p b (t::l.drop (j+1))=q0i p b (l.drop (j+1)):=by rw [q1t,if_neg hp]
    rw [decide_eq_false hp,cond_false,e1]
    unfold q0b
    rw [hw]
    exact q5p n hn l p hL m (j+1) b _ _ _ _ _ _ _ hjl (by omega)
  ·have h1 : ¬ (j:Int)<((l.length:Nat):Int):=by omega
   rw [decide_eq_false h1,cond_false,List.drop_of_length_le (by omega)]
   exact ⟨_,rfl⟩
theorem qvl (n:Nat) (hn:100<=n) (l:List TgD) (p:List UInt8) (hL:l.length<=1000000000000) (hn2:l.length<n):qa5 n l p=some ((q0i p none l).getD z0T,(q0i p none l).isSome):=by
 unfold qa5
 obtain ⟨c,h⟩:=q5p n hn l p hL n 0 none [] 0 0 0 [] [] [] (Nat.zero_le _) (by omega)
 have h':q2l n n l p false (0:Int) [] 0 0 0 [] [] [] [] 0 0 0 [] [] []=_:=h
 rw [h',Option.bind_some,List.drop_zero]
def eqT (a b:TgD):Bool:=decide (a.1=b.1)&&((decide (a.2.1=b.2.1)&&(decide (a.2.2.1=b.2.2.1)&&(decide (a.2.2.2.1=b.2.2.2.1)&&(decide (a.2.2.2.2.1=b.2.2.2.2.1)&&(decide (a.2.2.2.2.2.1=b.2.2.2.2.2.1)&&true)))))&&(decide (a.2.2.2.2.2.2=b.2.2.2.2.2.2)&&true))
theorem qqp {a b:TgD} : eqT a b=true↔a=b:=by
 obtain ⟨a1,a2,a3,a4,a5,a6,a7⟩:=a
 obtain ⟨b1,b2,b3,b4,b5,b6,b7⟩:=b
 unfold eqT
 simp only [Bool.and_eq_true,decide_eq_true_eq,Prod.mk.injEq,and_true]
 constructor
 ·rintro ⟨h1,⟨h2,h3,h4,h5,h6⟩,h7⟩;exact ⟨h1,h2,h3,h4,h5,h6,h7⟩
 ·rintro ⟨h1,h2,h3,h4,h5,h6,h7⟩;exact ⟨h1,⟨h2,h3,h4,h5,h6⟩,h7⟩
theorem j3o (n:Nat) (l:List TgD) (hL:l.length<=1000000000) : ∀m j:Nat,j<=l.length->l.length - j<m->q4a n m l l (j:Int)=some (Sum.inr (((),((),()))))
 | 0,j,hj,hm=>absurd hm (Nat.not_lt_zero _)
 | m+1,j,hj,hm=>by
  rw [qjb]
  unfold qm6
  by_cases hjl:j<l.length
  ·have h1:(j:Int)<((l.length:Nat):Int):=by omega
   rw [decide_eq_true h1,cond_true,q1k hjl,Option.bind_some,Option.bind_some]
   show (bif !(eqT l[j] l[j]) then _ else _)=_
   rw [qqp.2 rfl,Bool.not_true,cond_false]
   unfold q0b
   rw [q06 (by omega)]
   exact j3o n l hL m (j+1) hjl (by omega)
  ·have h1 : ¬ (j:Int)<((l.length:Nat):Int):=by omega
   rw [decide_eq_false h1,cond_false]
theorem qda (n:Nat) (l:List TgD) (hL:l.length<=1000000000) (hn:l.length<n):q7l n l l=some true:=by
 unfold q7l
 rw [decide_eq_true rfl,Bool.not_true,cond_false]
 have h:=j3o n l hL n 0 (Nat.zero_le _) (by omega)
 have h':q4a n n l l (0:Int)=_:=h
 rw [h',Option.bind_some];rfl
def fewT (t:TgD):Bool:=decide (t.1.length<=200)&&(decide (t.2.2.2.2.2.2.length<=200)&&(decide (t.2.2.2.2.1.length<=200)&&decide (t.2.2.2.2.2.1.length<=200)))
def jt5 (l:List TgD):Bool:=l.all fewT&&decide (l.length<=60)
abbrev FOut:=((Bool×(Unit))×(Unit)×(Unit))⊕(((List TgD)×(Unit))×(Unit)×(Unit))
theorem jeq (n:Nat) (l:List TgD) (hL:l.length<=9223372036854775807) : ∀m j:Nat,j<=l.length->l.length - j<m->∃ r:FOut,q5d n m l (j:Int)=some r/\(Sum.elim (fun q7=>some q7.1.1) (fun q8=>some (decide (((List.length q8.1.1:Nat):Int)<=(60:Int)))) r:Option Bool)=some ((l.drop j).all fewT&&decide (l.length<=60))
 | 0,j,hj,hm=>absurd hm (Nat.not_lt_zero _)
 | m+1,j,hj,hm=>by
  rw [qle]
  unfold qu1
  by_cases hjl:j<l.length
  ·have h1:(j:Int)<((l.length:Nat):Int):=by omega
   rw [decide_eq_true h1,cond_true,q1k hjl,Option.bind_some,Option.bind_some,Option.bind_some,Option.bind_some]
   have hd:l.drop j=l[j]::l.drop (j+1):=List.drop_eq_getElem_cons hjl
   rw [hd,List.all_cons]
   generalize l[j]=t
   have dl : ∀s:List UInt8,decide ((200:Int)<((s.length:Nat):Int)) = !decide (s.length<=200):=fun s=>by
    by_cases h:s.length<=200
    ·rw [decide_eq_true h,decide_eq_false (by omega)];rfl
    ·rw [decide_eq_false h,decide_eq_true (by omega)];rfl
   rw [dl,dl,dl,dl]
   unfold fewT
   by_cases h2:t.1.length<=200
   ·by_cases h3:t.2.2.2.2.2.2.length<=200
    ·by_cases h4:t.2.2.2.2.1.length<=200
     ·by_cases h5:t.2.2.2.2.2.1.length<=200
      ·rw [decide_eq_true h2,decide_eq_true h3,decide_eq_true h4,decide_eq_true h5]
       simp only [Bool.not_true,cond_false,Bool.true_and]
       unfold q0b
       rw [show IntKind.wrap .i64 ((j:Int)+1)=((j+1:Nat):Int) from by rw [wrap64 (by omega) (by omega)];omega]
       exact jeq n l hL m (j+1) hjl (by omega)
      ·rw [decide_eq_true h2,decide_eq_true h3,decide_eq_true h4,decide_eq_false h5];exact ⟨_,rfl,rfl⟩
     ·rw [decide_eq_true h2,decide_eq_true h3,decide_eq_false h4];exact ⟨_,rfl,rfl⟩
    ·rw [decide_eq_true h2,decide_eq_false h3];exact ⟨_,rfl,rfl⟩
   ·rw [decide_eq_false h2];exact ⟨_,rfl,rfl⟩
  ·have h1 : ¬ (j:Int)<((l.length:Nat):Int):=by omega
   rw [decide_eq_false h1,cond_false,List.drop_of_length_le (by omega)]
   refine ⟨_,rfl,?_⟩
   show some (decide (((l.length:Nat):Int)<=60))=some (true&&decide (l.length<=60))
   rw [Bool.true_and]
   exact congrArg some (decide_eq_decide.2 ⟨fun h=>by omega,fun h=>by omega⟩)
theorem q7b (n:Nat) (l:List TgD) (hL:l.length<=9223372036854775807) (hn:l.length<n):q4x n l=some (jt5 l):=by
 unfold q4x
 obtain ⟨r,h1,h2⟩:=jeq n l hL n 0 (Nat.zero_le _) (by omega)
 have h1':q5d n n l (0:Int)=some r:=h1
 rw [h1',Option.bind_some]
 exact h2
end Go.Proofs.YtcdjkibiggjdoaaGreatDoor.AM
