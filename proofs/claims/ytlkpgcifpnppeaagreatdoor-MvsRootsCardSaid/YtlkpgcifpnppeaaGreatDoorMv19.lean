
import Derived.Test.YtlkpgcifpnppeaaGreatDoorMv13
import Derived.Test.YtlkpgcifpnppeaaGreatDoorMv14
import Derived.Test.YtlkpgcifpnppeaaGreatDoorMv15
import Derived.Test.YtlkpgcifpnppeaaGreatDoorMv18
import Derived.Test.YtlkpgcifpnppeaaGreatDoorMv17
set_option linter.unusedVariables false
set_option linter.unusedSimpArgs false
namespace Go.Proofs.YtlkpgcifpnppeaaGreatDoor.AM
open Go.RowKit
theorem jig : ∀n:Nat,0<n->(Lib.decDigits n).head? ≠ some 48:=by
 intro n
 induction n using Nat.strongRecOn with
 | _ n ih =>
  intro h0
  rw [Lib.decDigits]
  split
  ·rename_i h
   intro h2
   have h3:UInt8.ofNat (48+n)=48:=by simpa using h2
   have h4:=congrArg UInt8.toNat h3
   rw [UInt8.toNat_ofNat'] at h4
   have e48:(48:UInt8).toNat=48:=rfl
   rw [e48] at h4;omega
  ·rename_i h
   have:=ih (n / 10) (by omega) (by omega)
   have hne:=(jdu (n / 10)).2
   generalize Lib.decDigits (n / 10)=l at this hne
   cases l with
   | nil=>exact absurd rfl hne
   | cons b r=>simpa using this
theorem jau : ∀(k:Nat) (d:Yy),d.length=k->d.all q1v=true->d ≠ []->d.head? ≠ some 48->Lib.decDigits (qbr 0 d).toNat=d
 | 0,d,hk,_,hne,_=>absurd (List.eq_nil_of_length_eq_zero hk) hne
 | k+1,d,hk,hd,hne,h48=>by
  obtain ⟨l,c,rfl⟩ : ∃ l c,d=l ++ [c]:=⟨d.dropLast,d.getLast hne,(List.dropLast_concat_getLast hne).symm⟩
  have hl:l.length=k:=by simpa using hk
  rw [List.all_append,Bool.and_eq_true] at hd
  have hc:q1v c=true:=by simpa using hd.2
  have hc2:48<=c.toNat/\c.toNat<=57:=by unfold q1v at hc;simpa using hc
  have hb:=qhh l 0 (by decide) hd.1
  rw [qsb]
  have e1:qbr (qbr 0 l) [c]=10*qbr 0 l+c.toNat - 48:=by simp only [qbr]
  rw [e1,Lib.decDigits]
  have uc:UInt8.ofNat (48+(c.toNat - 48))=c:=by
   have:48+(c.toNat - 48)=c.toNat:=by omega
   rw [this];simp
  by_cases h0:l = []
  ·subst h0
   have:(10*qbr 0 ([]:Yy)+(c.toNat:Int) - 48).toNat=c.toNat - 48:=by show (10*(0:Int)+(c.toNat:Int) - 48).toNat=_;omega
   rw [this,dif_pos (by omega),uc];rfl
  ·have hh:l.head? ≠ some 48:=by
    cases l with
    | nil=>exact absurd rfl h0
    | cons b r=>simpa using h48
   have ih:=jau k l hl hd.1 h0 hh
   have hpos:qbr 0 l≠0:=fun h=>by
    rw [h] at ih
    have e0:Lib.decDigits (0:Int).toNat = [48]:=Lib.decDigits_one (by decide)
    rw [e0] at ih
    rw [<-ih] at hh;exact hh rfl
   have q1:(10*qbr 0 l+(c.toNat:Int) - 48).toNat / 10=(qbr 0 l).toNat:=by omega
   have q2:(10*qbr 0 l+(c.toNat:Int) - 48).toNat % 10=c.toNat - 48:=by omega
   rw [dif_neg (by omega),q1,q2,ih,uc]
def jp8 (w:Yy):Int:=if 10<w.length then 0 else if (w.drop 1).head? = some 48 then 0 else if qbr 0 (w.drop 1)<2 then 0 else qbr 0 (w.drop 1)
theorem qv0 {w:Yy} (h:q1i w=true):jp8 w=if qoc (w.drop 1) then numOf (w.drop 1) else 0:=by
 have hl:w.length=(w.drop 1).length+1:=by
  cases w with
  | nil=>exact absurd h (by decide)
  | cons b r=>simp
 unfold q1i at h
 simp only [Bool.and_eq_true] at h
 have hd:=h.2
 unfold q3g at hd
 simp only [Bool.and_eq_true,Bool.not_eq_true',decide_eq_false_iff_not] at hd
 unfold jp8
 rw [hl]
 generalize w.drop 1=d at hd
 cases hf:qoc d with
 | true =>
  obtain ⟨n0,n1,ne⟩:=qxg hf
  have li:=jis (n:=numOf d) (by omega)
  have ed:Lib.decDigits (numOf d).toNat=d:=by rw [<-qjo (by omega)];exact ne.symm
  have hh:=jig (numOf d).toNat (by omega)
  have hv:=ji6 (numOf d).toNat
  rw [ed] at hh hv
  rw [<-ne] at li
  rw [if_neg (by omega),if_neg hh,hv,if_neg (by omega)]
  show (((numOf d).toNat:Nat):Int)=numOf d
  omega
 | false =>
  by_cases c1:10<d.length+1
  ·rw [if_pos c1];rfl
  by_cases c2:d.head? = some 48
  ·rw [if_neg c1,if_pos c2];rfl
  by_cases c3:qbr 0 d<2
  ·rw [if_neg c1,if_neg c2,if_pos c3];rfl
  ·exfalso
   have hb:=qhh d 0 (by decide) hd.1
   have hp:(10:Int) ^ d.length<=10 ^ 9:=by
    have:=Nat.pow_le_pow_right (n:=10) (by decide) (show d.length<=9 by omega)
    have e2:((10 ^ d.length:Nat):Int)=(10:Int) ^ d.length:=by simp
    have e3:((10 ^ 9:Nat):Int)=(10:Int) ^ 9:=by simp
    rw [<-e2,<-e3];omega
   have e9:(10:Int) ^ 9=1000000000:=by decide
   rw [e9] at hp
   have ed:=jau d.length d rfl hd.1 hd.2 c2
   have ei:Lib.itoa (qbr 0 d)=d:=by rw [qjo hb.1];exact ed
   have:=(jds (n:=qbr 0 d) (by omega) (by omega)).1
   rw [ei,hf] at this;cases this
theorem qi8 (n:Nat) (s:Yy) (hL:s.length<=1000000) : ∀m j:Nat,j<=s.length+1->s.length+1 - j<m->q5o n m s (j:Int)=some (if (s.drop j).all q1v=true then Sum.inr ((s,()),((),())) else Sum.inl ((false,()),((),())))
 | 0,j,_,h=>absurd h (Nat.not_lt_zero _)
 | m+1,j,hj,h=>by
  rw [qfm]
  unfold qhe
  by_cases c0:j<s.length
  ·have c0':((j:Nat):Int)<((s.length:Nat):Int):=by omega
   have ih:=qi8 n s hL m (j+1) (by omega) (by omega)
   have hd:s.drop j=s[j]::s.drop (j+1):=(List.drop_eq_getElem_cons c0)
   have hi:q1v s[j]=(!decide (((s[j].toNat:Nat):Int)<48) && !decide ((57:Int)<((s[j].toNat:Nat):Int))):=by
    unfold q1v
    rw [<-decide_not,<-decide_not]
    congr 1<;>exact decide_eq_decide.2 (by omega)
   simp only [c0',decide_true,cond_true,q6n c0,Option.bind_some,q08,q00 (show j<4611686018427387904 by omega),ih,hd,List.all_cons,hi]
   cases decide (((s[j].toNat:Nat):Int)<48)<;>cases decide ((57:Int)<((s[j].toNat:Nat):Int))<;>simp
  ·have c0' : ¬ ((j:Nat):Int)<((s.length:Nat):Int):=by omega
   have:s.drop j = []:=List.drop_eq_nil_of_le (by omega)
   simp [c0',this]
theorem qi7 (n:Nat) (s:Yy) (hL:s.length<=1000000) (hn:s.length+1<n):qae n s=some (q1i s):=by
 unfold qae q1i q3g
 have:=qi8 n s hL n 1 (by omega) (by omega)
 rw [show ((1:Nat):Int)=(1:Int) from rfl] at this
 rw [this]
 cases s with
 | nil=>rfl
 | cons b r =>
  simp only [List.drop_succ_cons,List.drop_zero,List.head?_cons,Option.some.injEq]
  have h0:sAt (b::r) (0:Int)=some ((b.toNat:Nat):Int):=q6n (s:=b::r) (j:=0) (by simp)
  have h1:decide (((b.toNat:Nat):Int)=(118:Int))=decide (b=118):=decide_eq_decide.2 (by
   constructor
   ·intro h;exact UInt8.toNat_inj.1 (by have e:(118:UInt8).toNat=118:=rfl;rw [e];omega)
   ·rintro rfl;rfl)
  have h2:decide ((1:Int)<(((b::r).length:Nat):Int)) = !decide (r = []):=by
   rw [<-decide_not]
   refine decide_eq_decide.2 ?_
   cases r with
   | nil=>simp
   | cons x y=>simp;omega
  cases hr:r.all q1v with
  | true =>
   simp only [if_true,Option.bind_some,Sum.elim_inr,h2,h0,h1,Bool.true_and]
   cases decide (r = [])<;>simp
  | false=>simp
theorem qf8 (n:Nat) (s:Yy) (hL:s.length<=10) (hd:(s.drop 1).all q1v=true) : ∀(m j:Nat) (a:Int),1<=j->j<=s.length->s.length - j<m->0<=a->a<10 ^ j->q4m n m s a (j:Int)=some ((qbr a (s.drop j),()),((),()))
 | 0,j,a,_,_,h,_,_=>absurd h (Nat.not_lt_zero _)
 | m+1,j,a,hj1,hj,h,ha,hb=>by
  rw [qd6]
  unfold qdt
  by_cases c0:j<s.length
  ·have c0':((j:Nat):Int)<((s.length:Nat):Int):=by omega
   have hp:(10:Int) ^ j<=10 ^ 10:=by
    have:=Nat.pow_le_pow_right (n:=10) (by decide) (show j<=10 by omega)
    have e2:((10 ^ j:Nat):Int)=(10:Int) ^ j:=by simp
    have e3:((10 ^ 10:Nat):Int)=(10:Int) ^ 10:=by simp
    rw [<-e2,<-e3];omega
   have e9:(10:Int) ^ 10=10000000000:=by decide
   rw [e9] at hp
   have hdr:s.drop j=s[j]::s.drop (j+1):=(List.drop_eq_getElem_cons c0)
   have hm:s[j]∈s.drop 1:=by
    have e:s.drop 1=s.drop 1:=rfl
    have:(s.drop 1)[j - 1]'(by simp;omega)=s[j]:=by simp;congr 1;omega
    rw [<-this];exact List.getElem_mem _
   have hc:=List.all_eq_true.1 hd _ hm
   have hc2:48<=s[j].toNat/\s[j].toNat<=57:=by unfold q1v at hc;simpa using hc
   have e10:(10:Int) ^ (j+1)=10*10 ^ j:=by rw [Int.pow_succ];omega
   have ih:=qf8 n s hL hd m (j+1) (10*a+(s[j].toNat:Int) - 48) (by omega) (by omega) (by omega) (by omega) (by rw [e10];omega)
   simp only [c0',decide_true,cond_true,q6n c0,Option.bind_some,q08,q00 (show j<4611686018427387904 by omega)]
   rw [wrap64 (n:=10*a) (by omega) (by omega),wrap64 (n:=((s[j].toNat:Nat):Int)) (by omega) (by omega),wrap64 (n:=10*a+((s[j].toNat:Nat):Int)) (by omega) (by omega),wrap64 (n:=10*a+((s[j].toNat:Nat):Int) - 48) (by omega) (by omega),ih,hdr]
   rfl
  ·have c0' : ¬ ((j:Nat):Int)<((s.length:Nat):Int):=by omega
   have:s.drop j = []:=List.drop_eq_nil_of_le (by omega)
   simp [c0',this,qbr]
theorem qez (n:Nat) (s:Yy) (hn:100<=n) (ht:q1i s=true):q8g n s=some (jp8 s):=by
 have hd:(s.drop 1).all q1v=true/\s.drop 1 ≠ []:=by
  unfold q1i q3g at ht
  simp only [Bool.and_eq_true,Bool.not_eq_true',decide_eq_false_iff_not] at ht
  exact ht.2
 have h2:2<=s.length:=by
  cases s with
  | nil=>exact absurd rfl hd.2
  | cons b r=>cases r with
   | nil=>exact absurd rfl hd.2
   | cons c t=>simp
 unfold q8g jp8
 by_cases c1:10<s.length
 ·have c1':(10:Int)<((s.length:Nat):Int):=by omega
  simp [c1,c1']
 ·have c1' : ¬ (10:Int)<((s.length:Nat):Int):=by omega
  have h0:sAt s (1:Int)=some ((s[1].toNat:Nat):Int):=q6n (s:=s) (j:=1) (by omega)
  have e1:(s.drop 1).head? = some s[1]:=by rw [List.head?_drop];exact List.getElem?_eq_getElem _
  have h1:decide (((s[1].toNat:Nat):Int)=(48:Int))=decide (s[1]=48):=decide_eq_decide.2 (by
   constructor
   ·intro h;exact UInt8.toNat_inj.1 (by have e:(48:UInt8).toNat=48:=rfl;rw [e];omega)
   ·intro h;rw [h];rfl)
  have hlp:=qf8 n s (by omega) hd.1 n 1 0 (by omega) (by omega) (by omega) (by omega) (by decide)
  rw [show ((1:Nat):Int)=(1:Int) from rfl] at hlp
  simp only [c1,c1',decide_false,cond_false,if_false,h0,h1,hlp,Option.bind_some,e1,Option.some.injEq]
  generalize qbr 0 (s.drop 1)=V
  by_cases c2:s[1]=48
  ·simp [c2]
  ·by_cases c3:V<2
   ·simp [c2,c3]
   ·simp [c2,c3]
theorem j1h (n m:Nat) (l:List Yy):q45 n (m+1) l ((l.length:Nat):Int)=some (Sum.inr ((),((),()))):=by
 rw [q7j];unfold qb9;simp
theorem qhv (n:Nat) (f:List Yy) (x:Yy) (hl:f.length<=1000000) (hw : ∀w∈f ++ [x],w.length<=1000000/\w.length+1<n) (hn:100<=n) : ∀m j:Nat,j<=f.length->f.length+1 - j<m ->
  q45 n m (f ++ [x]) (j:Int)=some (if ((f.drop j).all (fun w=>!q1i w)&&(!q1i x||(!decide (f = []) && !decide (jp8 x=0))))=true then Sum.inr ((),((),())) else Sum.inl ((false,()),((),())))
 | 0,j,_,h=>absurd h (Nat.not_lt_zero _)
 | m+1,j,hj,h=>by
  rw [q7j]
  unfold qb9
  have hlen:(f ++ [x]).length=f.length+1:=by simp
  have c0:((j:Nat):Int)<(((f ++ [x]).length:Nat):Int):=by rw [hlen];omega
  have w1:IntKind.wrap .i64 ((((f ++ [x]).length:Nat):Int) - 1)=((f.length:Nat):Int):=by rw [hlen,wrap64 (by omega) (by omega)];omega
  have hx:q0w (f ++ [x]) ((j:Nat):Int)=some ((f ++ [x])[j]'(by rw [hlen];omega)):=q0a _
  have hm:=hw _ (List.getElem_mem (show j<(f ++ [x]).length by rw [hlen];omega))
  simp only [c0,decide_true,cond_true,hx,Option.bind_some,qi7 n _ hm.1 hm.2,q08,w1,q00 (show j<4611686018427387904 by omega)]
  by_cases c1:j<f.length
  ·have ih:=qhv n f x hl hw hn m (j+1) (by omega) (by omega)
   have hd:f.drop j=f[j]::f.drop (j+1):=(List.drop_eq_getElem_cons c1)
   have he:(f ++ [x])[j]'(by rw [hlen];omega)=f[j]:=List.getElem_append_left c1
   have c1':((j:Nat):Int)<((f.length:Nat):Int):=by omega
   rw [he,ih,hd]
   simp only [c1',decide_true,cond_true,List.all_cons]
   rcases Bool.eq_false_or_eq_true (q1i f[j]) with hb|hb
   ·simp only [hb,cond_true,Bool.not_true,Bool.false_and,Bool.false_eq_true,if_false]
   ·simp only [hb,cond_false,Bool.not_false,Bool.true_and]
  ·have hj2:j=f.length:=by omega
   subst hj2
   have he:(f ++ [x])[f.length]'(by rw [hlen];omega)=x:=by simp
   obtain ⟨k,rfl⟩ : ∃ k,m=k+1:=⟨m - 1,by omega⟩
   have hend:=j1h n k (f ++ [x])
   rw [hlen] at hend
   rw [he,hend]
   have d0:decide (((f.length:Nat):Int)=0)=decide (f = []):=decide_eq_decide.2 (by
    constructor
    ·intro h;exact List.eq_nil_of_length_eq_zero (by omega)
    ·rintro rfl;rfl)
   simp only [Int.lt_irrefl,decide_false,cond_false,d0,List.drop_length,List.all_nil,Bool.true_and]
   cases ht:q1i x with
   | false=>rfl
   | true =>
    rw [qez n x hn ht]
    simp only [cond_true,Option.bind_some,Bool.not_true,Bool.false_or]
    cases decide (f = [])<;>cases decide (jp8 x=0)<;>rfl
theorem qxv (s:Yy) (hp:qbt s=true) : ∃ f,spl 47 [] s=f ++ [q2l s]/\f.all (fun w=>!q1i w) = !anyS (q2q s)/\decide (f = [])=decide (q2q s = []):=by
 have key : ∀b,anyS b = !((spl 47 [] b).all fun x=>!q1i x):=fun b=>by unfold anyS;rw [List.any_eq_not_all_not]
 rcases j98 s with ⟨_,a,b,c⟩|⟨he,hs,hc⟩
 ·refine ⟨[],by rw [b,c];rfl,?_,by rw [a];rfl⟩
  rw [a];decide
 ·refine ⟨spl 47 [] (q2q s),hc,?_,?_⟩
  ·rw [key,Bool.not_not]
  ·have h1:=jjy 47 (q2q s) []
   have h2:q2q s ≠ []:=fun h=>by
    have:=(j7o hp).2
    rw [hc,h] at this
    simp [spl] at this
    exact absurd this.1 (by decide)
   simp [h1,h2]
theorem qv1 (n:Nat) (s:Yy) (hL:s.length<=1000) (hn:2000<=n):qe2 n s=some (okS s):=by
 unfold qe2 okS
 rw [j31 n s (by omega) (by omega)]
 cases hp:qbt s with
 | false=>rfl
 | true =>
  obtain ⟨f,e1,e2,e3⟩:=qxv s hp
  have hlen:=q6i 47 s []
  have hw : ∀w∈spl 47 [] s,w.length<=s.length:=fun w hm=>by have:=q9a 47 s [] w hm;simpa using this
  rw [show (47:Int)=(((47:UInt8).toNat:Nat):Int) from rfl,q8b n s 47 (by omega) (by omega)]
  rw [e1] at hlen hw ⊢
  have hlen2:f.length+1<=s.length+1:=by simpa using hlen.2
  have hlp:=qhv n f (q2l s) (by omega) (fun w hm=>⟨by have:=hw w hm;omega,by have:=hw w hm;omega⟩) (by omega) n 0 (Nat.zero_le _) (by omega)
  rw [show ((0:Nat):Int)=(0:Int) from rfl] at hlp
  simp only [Option.bind_some,Bool.not_true,cond_false,hlp,List.drop_zero,e2,e3,Bool.true_and]
  cases ht:q1i (q2l s) with
  | false=>cases anyS (q2q s)<;>rfl
  | true =>
   rw [qv0 ht]
   generalize (q2l s).drop 1=d
   cases hf:qoc d with
   | false=>cases anyS (q2q s)<;>simp
   | true =>
    have n0 : ¬ numOf d=0:=by have:=(qxg hf).1;omega
    cases anyS (q2q s)<;>cases decide (q2q s = [])<;>simp [n0]
theorem qm3 (n:Nat) (s:Yy) (hL:s.length<=1000000) : ∀m j:Nat,j<=s.length->j<m->q79 n m s ((j:Int) - 1)=some (if q7n 47 (s.take j).reverse = -1 then Sum.inr ((),((),())) else Sum.inl ((s.take (q7n 47 (s.take j).reverse).toNat,()),((),())))
 | 0,j,_,h=>absurd h (Nat.not_lt_zero _)
 | m+1,0,_,_=>by
  rw [q7z]
  unfold qed
  simp [q7n]
 | m+1,j+1,hj,h=>by
  rw [q7z]
  unfold qed
  have e1:((j+1:Nat):Int) - 1=((j:Nat):Int):=by omega
  have ih:=qm3 n s hL m j (by omega) (by omega)
  have w1:IntKind.wrap .i64 (((j:Nat):Int) - 1)=((j:Nat):Int) - 1:=wrap64 (by omega) (by omega)
  have c0:(0:Int)<=((j:Nat):Int):=by omega
  have d1:decide (((s[j].toNat:Nat):Int)=(47:Int))=decide (s[j]=47):=decide_eq_decide.2 (by
   constructor
   ·intro h;exact UInt8.toNat_inj.1 (by have e:(47:UInt8).toNat=47:=rfl;rw [e];omega)
   ·intro h;rw [h];rfl)
  rw [e1]
  simp only [c0,decide_true,cond_true,q6n (show j<s.length by omega),Option.bind_some,d1,q08,w1,ih,qem s j (by omega),q7n,sub_zero (show j<=s.length by omega)]
  by_cases h0:s[j]=47
  ·have l1:(s.take j).reverse.length=j:=by simp;omega
   simp only [h0,decide_true,cond_true,if_true,l1]
   rw [if_neg (by omega),Int.toNat_natCast]
  ·simp [h0]
theorem j1n (n:Nat) (s:Yy) (hL:s.length<=1000000) (hn:s.length<n):qjs n s=some (q2q s):=by
 unfold qjs q2q q82
 have:=qm3 n s hL n s.length (Nat.le_refl _) hn
 have w1:IntKind.wrap .i64 (((s.length:Nat):Int) - 1)=((s.length:Nat):Int) - 1:=wrap64 (by omega) (by omega)
 simp only [q08,w1,this,List.take_length]
 by_cases h:q7n 47 s.reverse = -1
 ·simp [h]
 ·simp [h]
theorem qwq (n:Nat) (s:Yy) (hL:s.length<=1000) (hn:2000<=n):qft n s=some (q9v s):=by
 unfold qft q9v
 rw [qv1 n s hL hn]
 cases ho:okS s with
 | false=>rfl
 | true =>
  obtain ⟨f,e1,_,_⟩:=qxv s (jbj ho).1
  have hll:=j6p s
  have hlen:=q6i 47 s []
  rw [e1] at hlen
  have hlen2:f.length+1<=s.length+1:=by simpa using hlen.2
  rw [show (47:Int)=(((47:UInt8).toNat:Nat):Int) from rfl,q8b n s 47 (by omega) (by omega),e1]
  have hl2:(f ++ [q2l s]).length=f.length+1:=by simp
  have w1:IntKind.wrap .i64 ((((f ++ [q2l s]).length:Nat):Int) - 1)=((f.length:Nat):Int):=by rw [hl2,wrap64 (by omega) (by omega)];omega
  have hx:q0w (f ++ [q2l s]) ((f.length:Nat):Int)=some (q2l s):=by
   have:=q0a (l:=f ++ [q2l s]) (j:=f.length) (by rw [hl2];omega)
   rw [this];simp
  simp only [Option.bind_some,Bool.not_true,cond_false,q08,w1,hx,qi7 n (q2l s) (by omega) (by omega),if_true]
  cases ht:q1i (q2l s) with
  | false=>rfl
  | true =>
   have hf:=((jbj ho).2.2 ht).1
   simp only [Bool.not_true,cond_false,j1n n s (by omega) (by omega),qez n (q2l s) (by omega) ht,qv0 ht,hf,if_true,Option.bind_some]
theorem j2c (n:Nat) (s:Yy) (v:VD) (hL:s.length<=1000) (hn:2000<=n):qjp n s v=some (j7u s v):=by
 unfold qjp j7u
 rw [qwq n s hL hn,qd7 n v (by omega)]
 simp only [Option.bind_some,j5u]
 cases okS s with
 | false=>rfl
 | true=>cases hc:q06 v with
  | false=>rfl
  | true =>
   have h1:=(q6g hc).1
   simp only [Bool.not_true,cond_false,Bool.true_and]
   by_cases c0:(q9v s).2.1=0
   ·rw [c0]
    by_cases c1:v.1=0
    ·simp [c1]
    ·have:decide (v.1=1)=decide (v.1<2):=decide_eq_decide.2 (by omega)
     simp [c1,this]
   ·by_cases c1:v.1=(q9v s).2.1
    ·simp [c0,c1]
    ·simp [c0,c1]
theorem q3u (n:Nat) (a b:Int):q41 n a b=some (q9c a b):=by
 unfold q41 q9c
 by_cases h1:a<b
 ·simp [h1]
 ·by_cases h2:b<a
  ·simp [h1,h2]
  ·simp [h1,h2]
theorem jpw (a b:Yy):(bif ltS a b then some (-1:Int) else (bif !(ltS a b||decide (a=b)) then some (1:Int) else some (0:Int)))=some (cmpL qix a b):=by
 unfold ltS
 rw [q9j]
 have hr:=(q1j q1o).rng a b
 have hz:cmpL qix a b=0↔a=b:=(q1j q1o).zero
 by_cases h1:cmpL qix a b<0
 ·have:cmpL qix a b = -1:=by omega
  simp [h1,this]
 ·by_cases h2:a=b
  ·have:=hz.2 h2
   simp [h1,h2,(q1j q1o).refl b]
  ·have:cmpL qix a b=1:=by
    have : ¬ cmpL qix a b=0:=fun e=>h2 (hz.1 e)
    omega
   simp [h2,this]
theorem j41 (n:Nat) (a b:Yy) (ha:a.length<=1000000) (hb:b.length<=1000000) (hn:a.length<n/\b.length<n):qex n a b=some (jge a b):=by
 unfold qex jge jld
 rw [qao n a ha hn.1,qao n b hb hn.2]
 simp only [Option.bind_some,jpw,q3u]
 cases q3g a with
 | false=>cases q3g b with
  | false =>
   simp only [cond_false,Bool.false_eq_true,if_false]
   unfold qg4 q9c or2
   simp
  | true =>
   simp only [cond_false,cond_true,Bool.not_false,Bool.false_eq_true,if_false,if_true]
   unfold qg4 q9c or2
   simp
 | true=>cases q3g b with
  | false =>
   simp only [cond_false,cond_true,Bool.not_false,Bool.false_eq_true,if_false,if_true]
   unfold qg4 q9c or2
   simp
  | true =>
   simp only [cond_true,cond_false,Bool.not_true,if_true]
   unfold qg4
   have e0:q9c (0:Int) 0=0:=by decide
   dsimp only
   rw [e0]
   unfold or2
   simp only [if_true]
   by_cases hl:((a.length:Nat):Int)=((b.length:Nat):Int)
   ·have:q9c ((a.length:Nat):Int) ((b.length:Nat):Int)=0:=by rw [hl];exact q4r.refl _
    simp only [hl,decide_true,Bool.not_true,cond_false]
    rw [hl] at this
    rw [this];rfl
   ·have : ¬ q9c ((a.length:Nat):Int) ((b.length:Nat):Int)=0:=fun e=>hl (q4r.eq _ _ e)
    simp only [hl,decide_false,Bool.not_false,cond_true,this,if_false]
theorem qpn (n:Nat) (l1 l2:List Yy) (h1:l1.length<=1000000) (h2:l2.length<=1000000) (hw : ∀w,w∈l1\/w∈l2->w.length<=1000000/\w.length<n) : ∀m j:Nat,j<=l1.length->j<=l2.length->l1.length - j<m ->
  ((qbc n m l1 l2 (j:Int)).bind fun (o16:((Int×Unit)×Unit×Unit)⊕(((List Yy)×((List Yy)×Unit))×Unit×Unit))=>Sum.elim (fun (q17:(Int×Unit)×Unit×Unit)=>some q17.1.1) (fun (q18:((List Yy)×((List Yy)×Unit))×Unit×Unit)=>(q41 n ((List.length q18.1.1:Nat):Int) ((List.length q18.1.2.1:Nat):Int)).bind fun (r19:Int)=>some r19) o16)=some (cmpL jge (l1.drop j) (l2.drop j))
 | 0,j,_,_,h=>absurd h (Nat.not_lt_zero _)
 | m+1,j,hj,hj2,h=>by
  rw [qmg]
  unfold j3f
  by_cases c0:j<l1.length
  ·have c0':((j:Nat):Int)<((l1.length:Nat):Int):=by omega
   have hd:l1.drop j=l1[j]::l1.drop (j+1):=(List.drop_eq_getElem_cons c0)
   by_cases c1:j<l2.length
   ·have c1':((j:Nat):Int)<((l2.length:Nat):Int):=by omega
    have hd2:l2.drop j=l2[j]::l2.drop (j+1):=(List.drop_eq_getElem_cons c1)
    have ih:=qpn n l1 l2 h1 h2 hw m (j+1) (by omega) (by omega) (by omega)
    have k1:=hw l1[j] (Or.inl (List.getElem_mem c0))
    have k2:=hw l2[j] (Or.inr (List.getElem_mem c1))
    have hp:=j41 n l1[j] l2[j] k1.1 k2.1 ⟨k1.2,k2.2⟩
    rw [hd,hd2,cmpL]
    simp only [c0',decide_true,cond_true,q0a c0,Option.bind_some,c1',q0a c1,hp,q08,q00 (show j<4611686018427387904 by omega)]
    unfold or2
    by_cases h0:jge l1[j] l2[j]=0
    ·simp only [h0,decide_true,Bool.not_true,cond_false,if_true]
     exact ih
    ·simp only [h0,decide_false,Bool.not_false,cond_true,if_false,Option.bind_some,Sum.elim_inl]
   ·have c1' : ¬ ((j:Nat):Int)<((l2.length:Nat):Int):=by omega
    have hd2:l2.drop j = []:=List.drop_eq_nil_of_le (by omega)
    have c3:q9c ((l1.length:Nat):Int) ((l2.length:Nat):Int)=1:=by unfold q9c;rw [if_neg (by omega),if_pos (by omega)]
    rw [hd,hd2,cmpL]
    simp only [c0',decide_true,cond_true,c1',decide_false,cond_false,Option.bind_some,Sum.elim_inr,q3u,c3]
  ·have c0' : ¬ ((j:Nat):Int)<((l1.length:Nat):Int):=by omega
   have hd:l1.drop j = []:=List.drop_eq_nil_of_le (by omega)
   simp only [c0',decide_false,cond_false,Option.bind_some,Sum.elim_inr,q3u]
   rw [hd]
   by_cases c1:j<l2.length
   ·have hd2:l2.drop j=l2[j]::l2.drop (j+1):=(List.drop_eq_getElem_cons c1)
    have c3:q9c ((l1.length:Nat):Int) ((l2.length:Nat):Int) = -1:=by unfold q9c;rw [if_pos (by omega)]
    rw [hd2,c3]
    rfl
   ·have hd2:l2.drop j = []:=List.drop_eq_nil_of_le (by omega)
    have c3:q9c ((l1.length:Nat):Int) ((l2.length:Nat):Int)=0:=by unfold q9c;rw [if_neg (by omega),if_neg (by omega)]
    rw [hd2,c3]
    rfl
theorem jf8 (n:Nat) (a b:Yy) (ha:a.length<=100000) (hb:b.length<=100000) (hn:a.length+3<n/\b.length+3<n):j6e n a b=some (qad a b):=by
 unfold j6e qqw
 by_cases h1:a = []
 ·by_cases h2:b = []
  ·simp only [h1,h2,decide_true,cond_true,Option.bind_some,q3u]
   rfl
  ·simp only [h1,h2,decide_true,decide_false,cond_true,cond_false,Option.bind_some,q3u]
   unfold qad qg4 jas q9c or2
   simp [h2]
 ·by_cases h2:b = []
  ·simp only [h1,h2,decide_true,decide_false,cond_true,cond_false,Option.bind_some,q3u]
   unfold qad qg4 jas q9c or2
   simp [h1]
  ·simp only [h1,h2,decide_false,cond_false]
   have s1:q2b n a (46:Int)=some (spl 46 [] a):=q8b n a 46 (by omega) (by omega)
   have s2:q2b n b (46:Int)=some (spl 46 [] b):=q8b n b 46 (by omega) (by omega)
   have k1:=q6i 46 a []
   have k2:=q6i 46 b []
   rw [s1,s2]
   simp only [Option.bind_some]
   have h:=qpn n (spl 46 [] a) (spl 46 [] b) (by omega) (by omega) (fun w hw=>by
     rcases hw with hw|hw
     ·have:=q9a 46 a [] w hw;simp at this;omega
     ·have:=q9a 46 b [] w hw;simp at this;omega) n 0 (Nat.zero_le _) (Nat.zero_le _) (by omega)
   rw [show ((0:Nat):Int)=(0:Int) from rfl,List.drop_zero,List.drop_zero] at h
   rw [h]
   unfold qad jas
   simp only [h1,h2,if_false]
   unfold qg4
   have e0:q9c (0:Int) 0=0:=by decide
   dsimp only
   rw [e0]
   unfold or2
   simp
theorem q1b (n:Nat) (a b:VD) (hn:100<=n):q0g n a b=some (q3d a b):=by
 unfold q0g q3d
 rw [qd7 n a hn,qd7 n b hn]
 cases hca:q06 a with
 | false=>rfl
 | true=>cases hcb:q06 b with
  | false=>rfl
  | true =>
   obtain ⟨-,-,-,h4,-⟩:=q6g hca
   obtain ⟨-,-,-,k4,-⟩:=q6g hcb
   have t1:=qj4 h4
   have t2:=qj4 k4
   simp only [Option.bind_some,Bool.not_true,cond_false,q3u]
   rw [jf8 n _ _ (by omega) (by omega) ⟨by omega,by omega⟩]
   simp only [Option.bind_some,Bool.and_self,if_true]
   show _=some (or2 (q9c a.1 b.1) (or2 (q9c a.2.1 b.2.1) (or2 (q9c a.2.2.1 b.2.2.1) (qad a.2.2.2.1 b.2.2.2.1))))
   have z : ∀x y:Int,q9c x y=0↔x=y:=fun x y=>q4r.zero
   unfold or2
   simp only [z]
   by_cases e1:a.1=b.1
   ·by_cases e2:a.2.1=b.2.1
    ·by_cases e3:a.2.2.1=b.2.2.1<;>simp [e1,e2,e3]
    ·simp [e1,e2]
   ·simp [e1]
abbrev q0:QD:=([],0,0,0,[],[])
theorem q1f (n:Nat) (q:QD) (h:q.1.length<=1000) (hn:2000<=n):q27 n q=some (q3b q):=by
 unfold q27
 rw [j2c n q.1 q.2 h hn];rfl
theorem eq_q (x q:QD):(decide (x.1=q.1)&&((decide (x.2.1=q.2.1)&&(decide (x.2.2.1=q.2.2.1)&&(decide (x.2.2.2.1=q.2.2.2.1)&&(decide (x.2.2.2.2.1=q.2.2.2.2.1)&&(decide (x.2.2.2.2.2=q.2.2.2.2.2)&&true)))))&&true))=decide (x=q):=by
 obtain ⟨p,x1,x2,x3,r,m⟩:=x
 obtain ⟨p',y1,y2,y3,r',m'⟩:=q
 rw [Bool.eq_iff_iff]
 simp only [Bool.and_eq_true,decide_eq_true_eq,Prod.mk.injEq,and_true]
theorem jdj (n:Nat) (L:List QD) (q:QD) (hl:L.length<=1000000) : ∀(m j:Nat),L.length - j<m->j<=L.length ->
  q95 n m L (j:Int) q.1 q.2.1 q.2.2.1 q.2.2.2.1 q.2.2.2.2.1 q.2.2.2.2.2=if q∈L.drop j then some (Sum.inl ((true,()),((),()))) else some (Sum.inr ((),((),())))
 | 0,j,h,_=>absurd h (Nat.not_lt_zero _)
 | m+1,j,h,hj=>by
  rw [qiu]
  unfold qud
  by_cases c:j<L.length
  ·rw [decide_eq_true (by omega),cond_true,q0a c,Option.bind_some,eq_q,List.drop_eq_getElem_cons c]
   by_cases e:L[j]=q
   ·rw [decide_eq_true e,if_pos (by rw [e];exact List.mem_cons_self ..)];rfl
   ·rw [decide_eq_false e,cond_false,q02,q00 (by omega)]
    have ih:=jdj n L q hl m (j+1) (by omega) (by omega)
    refine ih.trans ?_
    by_cases h2:q∈L.drop (j+1)
    ·rw [if_pos h2,if_pos (List.mem_cons_of_mem _ h2)]
    ·rw [if_neg h2,if_neg fun h3=>(List.mem_cons.1 h3).elim (fun h4=>e h4.symm) h2]
  ·rw [decide_eq_false (by omega),cond_false,List.drop_of_length_le (by omega)]
   rfl
theorem q83 (n:Nat) (L:List QD) (q:QD) (hn:1000000<=n) (hl:L.length<=900000):qaq n L q=some (decide (q∈L)):=by
 unfold qaq
 have:=jdj n L q (by omega) n 0 (by omega) (Nat.zero_le _)
 rw [show ((0:Nat):Int)=(0:Int) from rfl,List.drop_zero] at this
 rw [this]
 by_cases h:q∈L
 ·rw [if_pos h,decide_eq_true h];rfl
 ·rw [if_neg h,decide_eq_false h];rfl
theorem j62 (n:Nat) (L:List QD) (q:QD) (hl:L.length<=1000000) : ∀(m j:Nat),L.length - j<m->j<=L.length ->
  q70 n m (j:Int) q.1 q.2.1 q.2.2.1 q.2.2.2.1 q.2.2.2.2.1 q.2.2.2.2.2 L=if q∈L.drop j then some (Sum.inl ((true,()),((),(L,())))) else some (Sum.inr ((),((),(L,()))))
 | 0,j,h,_=>absurd h (Nat.not_lt_zero _)
 | m+1,j,h,hj=>by
  rw [qgp]
  unfold qlm
  by_cases c:j<L.length
  ·rw [decide_eq_true (by omega),cond_true,q0a c,Option.bind_some,Int.toNat_natCast,qnt c,Option.bind_some,eq_q,List.drop_eq_getElem_cons c]
   by_cases e:L[j]=q
   ·rw [decide_eq_true e,if_pos (by rw [e];exact List.mem_cons_self ..)];rfl
   ·rw [decide_eq_false e,cond_false,q02,q00 (by omega)]
    have ih:=j62 n L q hl m (j+1) (by omega) (by omega)
    refine ih.trans ?_
    by_cases h2:q∈L.drop (j+1)
    ·rw [if_pos h2,if_pos (List.mem_cons_of_mem _ h2)]
    ·rw [if_neg h2,if_neg fun h3=>(List.mem_cons.1 h3).elim (fun h4=>e h4.symm) h2]
  ·rw [decide_eq_false (by omega),cond_false,List.drop_of_length_le (by omega)]
   rfl
theorem j3g (n:Nat) (L:List QD) (q:QD) (hn:1000000<=n) (hl:L.length<=900000):qj9 n () q L=some (decide (q∈L),((),(L,()))):=by
 unfold qj9
 have:=j62 n L q (by omega) n 0 (by omega) (Nat.zero_le _)
 rw [show ((0:Nat):Int)=(0:Int) from rfl,List.drop_zero] at this
 rw [this]
 by_cases h:q∈L
 ·rw [if_pos h,decide_eq_true h];rfl
 ·rw [if_neg h,decide_eq_false h];rfl
theorem qzc (n:Nat) (L:List QD) (hL:ShQ L) (hn:1000000<=n) (hll:L.length<=400000) : ∀(m j:Nat) (out:List QD),L.length - j<m->j<=L.length->out.length+(L.length - j)<=800000 ->
  q5t n m L (j:Int) out=some (((),()),((),(q37 out (L.drop j),())))
 | 0,j,out,h,_,_=>absurd h (Nat.not_lt_zero _)
 | m+1,j,out,h,hj,ho=>by
  rw [qes]
  unfold qh7
  by_cases c:j<L.length
  ·have hm:(q5f out L[j]).length<=out.length+1:=by unfold q5f;split<;>simp
   have ih:=qzc n L hL hn hll m (j+1) (q5f out L[j]) (by omega) (by omega) (by omega)
   have e:q37 out (L.drop j)=q37 (q5f out L[j]) (L.drop (j+1)):=by rw [List.drop_eq_getElem_cons c];rfl
   rw [decide_eq_true (by omega),cond_true,q0a c,Option.bind_some,q1f n _ (hL _ (List.getElem_mem c)) (by omega),Option.bind_some,e]
   cases hmq:q3b L[j] with
   | false =>
    have e2:q5f out L[j]=out:=by unfold q5f;rw [if_neg (fun h=>by rw [hmq] at h;cases h.1)]
    rw [e2] at ih ⊢
    rw [cond_false,q02,q00 (by omega)]
    exact ih
   | true =>
    rw [cond_true,Option.bind_some,j3g n _ _ hn (by omega),Option.bind_some]
    by_cases h2:L[j]∈out
    ·have e2:q5f out L[j]=out:=by unfold q5f;rw [if_neg (fun h=>h.2 h2)]
     rw [e2] at ih ⊢
     rw [decide_eq_true h2]
     show (bif false then _ else q08 (IntKind.wrap .i64 ((j:Int)+1)) _)=_
     rw [cond_false,q02,q00 (by omega)]
     exact ih
    ·have e2:q5f out L[j]=out ++ [L[j]]:=by unfold q5f;rw [if_pos ⟨hmq,h2⟩]
     rw [e2] at ih ⊢
     rw [decide_eq_false h2]
     show (bif true then ((some L[j]).bind fun x5=>(q7r 72 out [x5]).bind _) else _)=_
     rw [cond_true,Option.bind_some,q1x (by simp;omega),Option.bind_some,q02,q00 (by omega)]
     exact ih
  ·rw [decide_eq_false (by omega),cond_false,List.drop_of_length_le (by omega)]
   rfl
theorem qhy (n:Nat) (L out:List QD) (hL:ShQ L) (hn:1000000<=n) (h:out.length<=300000) (hll:L.length<=300000):q9u n () L out=some ((),((),(q37 out L,()))):=by
 unfold q9u
 have:=qzc n L hL hn (by omega) n 0 out (by omega) (Nat.zero_le _) (by omega)
 rw [show ((0:Nat):Int)=(0:Int) from rfl,List.drop_zero] at this
 rw [this];rfl
theorem j6r (n:Nat) (l:List ND) (q:QD) (hl:l.length<=1000000) : ∀(m j:Nat),l.length - j<m->j<=l.length ->
  q2v n m l (j:Int) q.1 q.2.1 q.2.2.1 q.2.2.2.1 q.2.2.2.2.1 q.2.2.2.2.2=match jim (l.drop j) q with|some x=>some (Sum.inl ((nR x,()),((),())))|none=>some (Sum.inr ((),((),())))
 | 0,j,h,_=>absurd h (Nat.not_lt_zero _)
 | m+1,j,h,hj=>by
  rw [q9s]
  unfold q7l
  by_cases c:j<l.length
  ·rw [decide_eq_true (by omega),cond_true,q0a c,Option.bind_some,List.drop_eq_getElem_cons c]
   have e0:=eq_q (nq l[j]) q
   show (bif (decide ((nq l[j]).1=q.1)&&((decide ((nq l[j]).2.1=q.2.1)&&(decide ((nq l[j]).2.2.1=q.2.2.1)&&(decide ((nq l[j]).2.2.2.1=q.2.2.2.1)&&(decide ((nq l[j]).2.2.2.2.1=q.2.2.2.2.1)&&(decide ((nq l[j]).2.2.2.2.2=q.2.2.2.2.2)&&true)))))&&true)) then _ else _)=match (if nq l[j]=q then some l[j] else jim (l.drop (j+1)) q) with|some x=>some (Sum.inl ((nR x,()),((),())))|none=>some (Sum.inr ((),((),())))
   rw [e0]
   by_cases e:nq l[j]=q
   ·rw [decide_eq_true e,if_pos e];rfl
   ·rw [decide_eq_false e,if_neg e,cond_false,q02,q00 (by omega)]
    exact j6r n l q hl m (j+1) (by omega) (by omega)
  ·rw [decide_eq_false (by omega),cond_false,List.drop_of_length_le (by omega)]
   rfl
theorem qiv (n:Nat) (l:List ND) (q:QD) (hn:1000000<=n) (hl:l.length<=900000):q61 n l q=some (q1k l q):=by
 unfold q61
 have:=j6r n l q (by omega) n 0 (by omega) (Nat.zero_le _)
 rw [show ((0:Nat):Int)=(0:Int) from rfl,List.drop_zero] at this
 rw [this,quk]
 cases jim l q<;>rfl
theorem qks (n:Nat) (root:List QD) (l:List ND) (hl:ShN l) (hn:1000000<=n) (hb:(qf9 root l).length<=10000) (hc:l.length<=10000) : ∀(f m i:Nat) (out:List QD),ROk root l i out->(qf9 root l).length<i+f->f<m->i<=20000 ->
  q2g n m l (i:Int) out=some (((),()),((),(q50 l f i out,())))
 | f,0,i,out,_,_,h,_=>absurd h (Nat.not_lt_zero _)
 | f,m+1,i,out,hk,hf,hm,hi=>by
  have hol:=qsd hk
  rw [qav]
  unfold q91
  by_cases c:i<out.length
  ·obtain ⟨f,rfl⟩ : ∃ k,f=k+1:=⟨f - 1,by omega⟩
   have hrl:(q1k l out[i]).length<=10000:=by
    have:=jb4 l out[i]
    unfold qf9 at hb
    rw [List.length_append] at hb
    omega
   have er:q50 l (f+1) i out=q50 l f (i+1) (q37 out (q1k l out[i])):=by
    show (if h:i<out.length then q50 l f (i+1) (q37 out (q1k l out[i])) else out)=_
    rw [dif_pos c]
   rw [decide_eq_true (by omega),cond_true,q0a c,Option.bind_some,Int.toNat_natCast,qnt c,Option.bind_some,er,qiv n _ _ hn (by omega),Option.bind_some,qhy n _ _ (shR hl _) hn (by omega) (by omega),Option.bind_some,q02,q00 (by omega)]
   exact qks n root l hl hn hb hc f m (i+1) _ (qtf hk c) (by omega) (by omega) (by omega)
  ·have er:q50 l f i out=out:=by
    cases f with
    | zero=>rfl
    | succ f =>
     show (if h:i<out.length then q50 l f (i+1) (q37 out (q1k l out[i])) else out)=_
     rw [dif_neg c]
   rw [decide_eq_false (by omega),cond_false,er]
theorem qa1 (n:Nat) (root:List QD) (l:List ND) (hr:ShQ root) (hl:ShN l) (hn:1000000<=n) (hb:(qf9 root l).length<=10000) (hc:l.length<=10000):q5a n root l=some (q0d root l):=by
 have hrl:root.length<=10000:=by unfold qf9 at hb;rw [List.length_append] at hb;omega
 have h2:=qks n root l hl hn hb hc ((qf9 root l).length+1) n 0 (q37 [] root) (qlw root l) (by omega) (by omega) (by omega)
 rw [show ((0:Nat):Int)=(0:Int) from rfl] at h2
 unfold q5a
 rw [qhy n root [] hr hn (by simp) (by omega),Option.bind_some]
 show ((q2g n n l 0 (q37 [] root)).bind _)=_
 rw [h2];rfl
theorem qmr (n:Nat) (L:List QD) (p:Yy) (hn:2000<=n) (hl:L.length<=1000000) : ∀(m j:Nat) (b:Option QD),L.length - j<m->j<=L.length ->
  q4j n m L p b.isSome (j:Int) [] 0 0 0 [] [] (b.getD q0).1 (b.getD q0).2.1 (b.getD q0).2.2.1 (b.getD q0).2.2.2.1 (b.getD q0).2.2.2.2.1 (b.getD q0).2.2.2.2.2 =
   some (((),((),((ofF p b (L.drop j)).isSome,()))),((q0,((ofF p b (L.drop j)).getD q0,())),()))
 | 0,j,b,h,_=>absurd h (Nat.not_lt_zero _)
 | m+1,j,b,h,hj=>by
  rw [qir]
  unfold qth
  by_cases c:j<L.length
  ·have ed:ofF p b (L.drop j)=ofF p (if qg3 p b L[j]=true then some L[j] else b) (L.drop (j+1)):=by rw [List.drop_eq_getElem_cons c];rfl
   rw [decide_eq_true (by omega),cond_true,q0a c,Option.bind_some,ed]
   by_cases e:L[j].1=p
   ·rw [decide_eq_true e,cond_true]
    cases b with
    | none =>
     rw [qbp,decide_eq_true e,if_pos rfl]
     have ih:=qmr n L p hn hl m (j+1) (some L[j]) (by omega) (by omega)
     rw [Option.isSome_none,Bool.not_false,cond_true,Option.bind_some,q02,q00 (by omega)]
     exact ih
    | some y =>
     have hbt:qg3 p (some y) L[j]=decide (0<q3d L[j].2 y.2):=by
      unfold qg3
      rw [decide_eq_true e];rfl
     rw [hbt,Option.isSome_some,Bool.not_true,cond_false,Option.bind_some]
     show ((q0g n L[j].2 y.2).bind _)=_
     rw [q1b n _ _ (by omega),Option.bind_some]
     by_cases hb:0<q3d L[j].2 y.2
     ·rw [decide_eq_true hb,cond_true,if_pos rfl,Option.bind_some,q02,q00 (by omega)]
      exact qmr n L p hn hl m (j+1) (some L[j]) (by omega) (by omega)
     ·rw [decide_eq_false hb,cond_false,if_neg (by simp),q02,q00 (by omega)]
      exact qmr n L p hn hl m (j+1) (some y) (by omega) (by omega)
   ·have hbf:qg3 p b L[j]=false:=by unfold qg3;rw [decide_eq_false e];rfl
    rw [decide_eq_false e,cond_false,hbf,if_neg (by simp),q02,q00 (by omega)]
    exact qmr n L p hn hl m (j+1) b (by omega) (by omega)
  ·rw [decide_eq_false (by omega),cond_false,List.drop_of_length_le (by omega)]
   rfl
theorem qqb (n:Nat) (L:List QD) (p:Yy) (hn:1000000<=n) (hl:L.length<=900000):qni n L p=some ((ofQ L p).getD q0,(ofQ L p).isSome):=by
 unfold qni
 have:=qmr n L p (by omega) (by omega) n 0 none (by omega) (Nat.zero_le _)
 rw [show ((0:Nat):Int)=(0:Int) from rfl,List.drop_zero] at this
 show ((q4j n n L p false 0 [] 0 0 0 [] [] [] 0 0 0 [] []).bind _)=_
 have h2:q4j n n L p false 0 [] 0 0 0 [] [] [] 0 0 0 [] []=some (((),((),((ofQ L p).isSome,()))),((q0,((ofQ L p).getD q0,())),())):=this
 rw [h2];rfl
theorem jqc (a b:Yy):ltS a b=decide (cmpL qix a b<0):=by
 unfold ltS
 rw [q9j]
theorem qea (n:Nat) (L:List QD) (r:QD) (hl:L.length<=1000000) (hne : ∀x∈L,x.1≠r.1) : ∀(m j:Nat) (b:Bool) (acc:List QD),L.length - j<m->j<=L.length->acc.length+2*(L.length - j)<=10000000 ->
  ∃ b' acc',q55 n m L b (j:Int) r.1 r.2.1 r.2.2.1 r.2.2.2.1 r.2.2.2.2.1 r.2.2.2.2.2 acc=some (Sum.inr (((),((),(b',()))),((r,()),(acc',()))))/\(if b'=true then acc' else acc' ++ [r])=acc++(if b=true then L.drop j else qok r (L.drop j))/\acc'.length<=acc.length+2*(L.length - j)
 | 0,j,b,acc,h,_,_=>absurd h (Nat.not_lt_zero _)
 | m+1,j,b,acc,h,hj,ha=>by
  rw [q86]
  unfold qe5
  by_cases c:j<L.length
  ·rw [decide_eq_true (by omega),cond_true,q0a c,Option.bind_some,decide_eq_false (hne _ (List.getElem_mem c)),cond_false,List.drop_eq_getElem_cons c]
   cases b with
   | true =>
    rw [Bool.not_true,cond_false,Option.bind_some,q1x (by simp;omega),Option.bind_some,q02,q00 (by omega)]
    obtain ⟨b',acc',h1,h2,h3⟩:=qea n L r hl hne m (j+1) true (acc ++ [L[j]]) (by omega) (by omega) (by simp;omega)
    exact ⟨b',acc',h1,by rw [h2];simp,by simp at h3;omega⟩
   | false =>
    rw [Bool.not_false,cond_true,Option.bind_some,jqc]
    unfold qok
    by_cases hlt:cmpL qix r.1 L[j].1<0
    ·rw [decide_eq_true hlt,cond_true,if_pos hlt]
     show ∃ b' acc',((q7r 72 acc [r]).bind fun l3=>(some L[j]).bind fun x4=>(q7r 72 l3 [x4]).bind _)=_/\_
     rw [q1x (by simp;omega),Option.bind_some,Option.bind_some,q1x (by simp;omega),Option.bind_some,q02,q00 (by omega)]
     obtain ⟨b',acc',h1,h2,h3⟩:=qea n L r hl hne m (j+1) true (acc ++ [r] ++ [L[j]]) (by omega) (by omega) (by simp;omega)
     exact ⟨b',acc',h1,by rw [h2];simp,by simp at h3;omega⟩
    ·rw [decide_eq_false hlt,cond_false,if_neg hlt,Option.bind_some,q1x (by simp;omega),Option.bind_some,q02,q00 (by omega)]
     obtain ⟨b',acc',h1,h2,h3⟩:=qea n L r hl hne m (j+1) false (acc ++ [L[j]]) (by omega) (by omega) (by simp;omega)
     exact ⟨b',acc',h1,by rw [h2];simp,by simp at h3;omega⟩
  ·rw [decide_eq_false (by omega),cond_false,List.drop_of_length_le (by omega)]
   refine ⟨b,acc,rfl,?_,by omega⟩
   cases b
   ·rfl
   ·simp
theorem qfv (n:Nat) (L:List QD) (r:QD) (hl:L.length<=1000000) : ∀(m j:Nat) (b:Bool) (acc:List QD),L.length - j<m->j<=L.length->acc.length+2*(L.length - j)<=10000000->(∃ x∈L.drop j,x.1=r.1) ->
  q55 n m L b (j:Int) r.1 r.2.1 r.2.2.1 r.2.2.2.1 r.2.2.2.2.1 r.2.2.2.2.2 acc=some (Sum.inl ((L,()),((),())))
 | 0,j,b,acc,h,_,_,_=>absurd h (Nat.not_lt_zero _)
 | m+1,j,b,acc,h,hj,ha,hx=>by
  rw [q86]
  unfold qe5
  by_cases c:j<L.length
  ·rw [decide_eq_true (by omega),cond_true,q0a c,Option.bind_some]
   by_cases e:L[j].1=r.1
   ·rw [decide_eq_true e,cond_true]
   ·have hx' : ∃ x∈L.drop (j+1),x.1=r.1:=by
     obtain ⟨x,h1,h2⟩:=hx
     rw [List.drop_eq_getElem_cons c] at h1
     rcases List.mem_cons.1 h1 with rfl|h1
     ·exact absurd h2 e
     ·exact ⟨x,h1,h2⟩
    rw [decide_eq_false e,cond_false]
    cases b with
    | true =>
     rw [Bool.not_true,cond_false,Option.bind_some,q1x (by simp;omega),Option.bind_some,q02,q00 (by omega)]
     exact qfv n L r hl m (j+1) true (acc ++ [L[j]]) (by omega) (by omega) (by simp;omega) hx'
    | false =>
     rw [Bool.not_false,cond_true,Option.bind_some]
     cases ltS r.1 L[j].1 with
     | true =>
      rw [cond_true]
      show ((q7r 72 acc [r]).bind fun l3=>(some L[j]).bind fun x4=>(q7r 72 l3 [x4]).bind _)=_
      rw [q1x (by simp;omega),Option.bind_some,Option.bind_some,q1x (by simp;omega),Option.bind_some,q02,q00 (by omega)]
      exact qfv n L r hl m (j+1) true (acc ++ [r] ++ [L[j]]) (by omega) (by omega) (by simp;omega) hx'
     | false =>
      rw [cond_false,Option.bind_some,q1x (by simp;omega),Option.bind_some,q02,q00 (by omega)]
      exact qfv n L r hl m (j+1) false (acc ++ [L[j]]) (by omega) (by omega) (by simp;omega) hx'
  ·rw [List.drop_of_length_le (by omega)] at hx
   obtain ⟨x,h1,_⟩:=hx
   cases h1
theorem j2i (n:Nat) (L:List QD) (r:QD) (hn:1000000<=n) (hl:L.length<=900000):qj8 n L r=some (je9 L r):=by
 unfold qj8 je9
 by_cases h : ∃ x∈L,x.1=r.1
 ·have:=qfv n L r (by omega) n 0 false [] (by omega) (Nat.zero_le _) (by simp;omega) (by rw [List.drop_zero];exact h)
  rw [show ((0:Nat):Int)=(0:Int) from rfl] at this
  rw [if_pos h,this];rfl
 ·obtain ⟨b',acc',h1,h2,h3⟩:=qea n L r (by omega) (fun x hx e=>h ⟨x,hx,e⟩) n 0 false [] (by omega) (Nat.zero_le _) (by simp;omega)
  rw [show ((0:Nat):Int)=(0:Int) from rfl] at h1
  rw [if_neg h,h1,Option.bind_some]
  rw [List.drop_zero,List.nil_append,if_neg (show ¬ (false=true) by simp)] at h2
  rw [<-h2]
  cases b' with
  | true=>rfl
  | false =>
   show ((q7r 72 acc' [r]).bind _)=_
   rw [q1x (by simp at h3 ⊢;omega)];rfl
theorem qw1 (n:Nat) (all:List QD) (hn:1000000<=n) (hl:all.length<=400000) : ∀(m j:Nat) (L:List QD),all.length - j<m->j<=all.length->L.length+(all.length - j)<=800000 ->
  q5x n m L all (j:Int)=some ((qqd all L (all.drop j),()),((),()))
 | 0,j,L,h,_,_=>absurd h (Nat.not_lt_zero _)
 | m+1,j,L,h,hj,hL=>by
  rw [qen]
  unfold qhj
  by_cases c:j<all.length
  ·have h2:(je9 L ((ofQ all all[j].1).getD q0)).length<=L.length+1:=by
    unfold je9
    split
    ·omega
    ·rw [(q8d _ L).length_eq,List.length_cons];exact Nat.le_refl _
   rw [decide_eq_true (by omega),cond_true,q0a c,Option.bind_some,qqb n _ _ hn (by omega),Option.bind_some,j2i n _ _ hn (by omega),Option.bind_some,q02,q00 (by omega),List.drop_eq_getElem_cons c]
   exact qw1 n all hn hl m (j+1) (je9 L ((ofQ all all[j].1).getD q0)) (by omega) (by omega) (by omega)
  ·rw [decide_eq_false (by omega),cond_false,List.drop_of_length_le (by omega)]
   rfl
theorem qi5 (n:Nat) (root:List QD) (l:List ND) (hr:ShQ root) (hl:ShN l) (hn:1000000<=n) (hb:(qf9 root l).length<=10000) (hc:l.length<=10000):qa7 n root l=some (q1q root l):=by
 have hrl:=q7t root l
 have:=qw1 n (q0d root l) hn (by omega) n 0 [] (by omega) (Nat.zero_le _) (by simp;omega)
 rw [show ((0:Nat):Int)=(0:Int) from rfl,List.drop_zero] at this
 unfold qa7
 rw [qa1 n root l hr hl hn hb hc,Option.bind_some,this];rfl
theorem j65 (n:Nat) (L:List QD) (r:QD) (hL:ShQ L) (hn:1000000<=n) (hl:L.length<=900000) : ∀(m j:Nat),L.length - j<m->j<=L.length ->
  q3s n m (j:Int) r.1 r.2.1 r.2.2.1 r.2.2.2.1 r.2.2.2.2.1 r.2.2.2.2.2 L=match j0i r.1 j (L.drop j) with
   | some i=>some (Sum.inl (((),()),((),((if h:i<L.length then (if q3b L[i]=true/\0<=q3d L[i].2 r.2 then L else L.set i r) else L),()))))
   | none=>some (Sum.inr (((),((),())),((r,()),(L,()))))
 | 0,j,h,_=>absurd h (Nat.not_lt_zero _)
 | m+1,j,h,hj=>by
  rw [qac]
  unfold q8k
  by_cases c:j<L.length
  ·rw [decide_eq_true (by omega),cond_true,q0a c,Option.bind_some,Int.toNat_natCast,qnt c,Option.bind_some,List.drop_eq_getElem_cons c]
   unfold j0i
   by_cases e:L[j].1=r.1
   ·rw [if_pos e,decide_eq_true e,cond_true,Option.bind_some,Option.bind_some,q1f n _ (hL _ (List.getElem_mem c)) (by omega),Option.bind_some]
    show _=some (Sum.inl (((),()),((),((if h:j<L.length then _ else _),()))))
    rw [dif_pos c]
    cases hm:q3b L[j] with
    | false=>rw [if_neg (by simp)];rfl
    | true =>
     rw [Bool.not_true,cond_false,Option.bind_some,Option.bind_some]
     show ((q0g n L[j].2 r.2).bind _)=_
     rw [q1b n _ _ (by omega),Option.bind_some]
     by_cases hc:0<=q3d L[j].2 r.2
     ·rw [if_pos ⟨rfl,hc⟩,decide_eq_false (by omega)];rfl
     ·rw [if_neg (fun h=>hc h.2),decide_eq_true (by omega)];rfl
   ·rw [if_neg e,decide_eq_false e,cond_false,q02,q00 (by omega)]
    exact j65 n L r hL hn hl m (j+1) (by omega) (by omega)
  ·rw [decide_eq_false (by omega),cond_false,List.drop_of_length_le (by omega)]
   rfl
theorem ql3 (n:Nat) (root:List QD) (r:QD) (hr:ShQ root) (h:r.1.length<=1000) (hn:1000000<=n) (hl:root.length<=900000):q75 n root r=some (upQ root r):=by
 unfold q75 upQ
 rw [q1x (by simp;omega),Option.bind_some,q1f n r h (by omega),Option.bind_some,List.nil_append]
 cases hm:q3b r with
 | false=>rfl
 | true =>
  have hlp:=j65 n root r hr hn hl n 0 (by omega) (Nat.zero_le _)
  rw [show ((0:Nat):Int)=(0:Int) from rfl,List.drop_zero] at hlp
  rw [Bool.not_true,cond_false,if_pos rfl,hlp]
  cases hi:j0i r.1 0 root with
  | none =>
   rw [j2v r root 0 hi]
   show ((q7r 72 root [r]).bind _)=_
   rw [q1x (by simp;omega)];rfl
  | some i =>
   obtain ⟨k,h1,h2,h3⟩:=qjn r.1 root 0 i hi
   obtain rfl:k=i:=by omega
   rw [j1x r root 0 k (by rw [hi,Nat.zero_add]) h2]
   show some (if h:k<root.length then _ else _)=_
   rw [dif_pos h2]
theorem qpw (n:Nat) (root:List QD) (l:List ND) (hr:ShQ root) (hl:ShN l) (hn:1000000<=n) (hb:(qf9 root l).length<=10000) (hc:l.length<=10000):q1h n root l=some (q1q root l):=by
 have hg:=j0k (q0d root l) [] [] j18
 rw [List.nil_append] at hg
 have hrl:=q7t root l
 have hgl:=jlv hg
 unfold q1h
 rw [q2z n root l hr hl hn hb hc,Option.bind_some,qu9 n _ hn (by omega),Option.bind_some]
 show ((qbl () ((q0d root l).foldl qoe [])).bind _)=_
 unfold qbl
 rw [if_pos ⟨by omega,qfc hg⟩,jdn];rfl
theorem q36 (n:Nat) (root:List QD) (r:QD) (hr:ShQ root) (h:r.1.length<=1000) (hn:1000000<=n) (hl:root.length<=900000):q0z n root r=some (upQ root r):=by
 unfold q0z upQ q74
 rw [if_pos (by omega),Option.bind_some,qag n r h (by omega),Option.bind_some]
 cases hm:q3b r with
 | false=>rfl
 | true =>
  rw [Bool.not_true,cond_false,if_pos rfl]
  show ((qfk n () () r.1 r.2.1 r.2.2.1 r.2.2.2.1 r.2.2.2.2.1 r.2.2.2.2.2 root).bind _)=_
  rw [j26 n root r hn hl,Option.bind_some]
  cases hi:j0i r.1 0 root with
  | none =>
   rw [j2v r root 0 hi]
   show (bif decide ((-1:Int)<0) then _ else _)=_
   rw [decide_eq_true (by omega),cond_true,q1x (by simp;omega)];rfl
  | some i =>
   obtain ⟨k,h1,h2,h3⟩:=qjn r.1 root 0 i hi
   obtain rfl:k=i:=by omega
   have hu:=j1x r root 0 k (by rw [hi,Nat.zero_add]) h2
   rw [hu]
   show (bif decide ((k:Int)<0) then _ else _)=_
   rw [decide_eq_false (by omega),cond_false]
   show ((q0w root (k:Int)).bind _)=_
   rw [q0a h2,Option.bind_some]
   show ((nth root (Int.toNat (k:Int))).bind _)=_
   rw [Int.toNat_natCast,qnt h2,Option.bind_some,qag n _ (hr _ (List.getElem_mem h2)) (by omega),Option.bind_some]
   cases hx:q3b root[k] with
   | false =>
    rw [if_neg (by simp)]
    rfl
   | true =>
    show ((q8n n r root[k]).bind fun r12=>bif r12 then some (root.set k r) else some root)=_
    rw [q8l n _ _ (by omega),Option.bind_some]
    have ha:=q2n root[k].2 r.2
    unfold qc1
    by_cases hc:0<=q3d root[k].2 r.2
    ·rw [if_pos ⟨rfl,hc⟩,decide_eq_false (show ¬ 0<q3d r.2 root[k].2 by omega),Bool.and_false];rfl
    ·rw [if_neg (fun h=>hc h.2),decide_eq_true (show 0<q3d r.2 root[k].2 by omega),decide_eq_true h3.symm];rfl
structure Sm (root:List QD) (l:List ND):Prop where
 sr:ShQ root
 sl:ShN l
 rl:root.length<=300
 ll:l.length<=20
 nl : ∀x∈l,(nR x).length<=12
theorem qx0 {k:Nat} : ∀{l:List ND},(∀x∈l,(nR x).length<=k)->(l.flatMap nR).length<=l.length*k
 | [],_=>Nat.zero_le _
 | x::l,h=>by
  have h1:=h x (List.mem_cons_self ..)
  have h2:=qx0 (l:=l) fun z hz=>h z (List.mem_cons_of_mem _ hz)
  rw [List.flatMap_cons,List.length_append,List.length_cons,Nat.add_mul]
  omega
theorem Sm.flat {root:List QD} {l:List ND} (h:Sm root l):(l.flatMap nR).length<=240:=by
 have:=qx0 h.nl
 have:=h.ll
 omega
theorem Sm.all {root:List QD} {l:List ND} (h:Sm root l):(qf9 root l).length<=540:=by
 unfold qf9
 rw [List.length_append]
 have:=h.flat
 have:=h.rl
 omega
theorem qya : ∀l:List ND,(l.flatMap fun x=>nq x::nR x).length=l.length+(l.flatMap nR).length
 | []=>rfl
 | x::l=>by
  rw [List.flatMap_cons,List.flatMap_cons,List.length_append,List.length_append,qya l]
  simp only [List.length_cons];omega
theorem jcp {q r:QD} (hq:q.1.length<=1000) (hr:r.1.length<=1000) : ∀{acc:List ND},ShN acc->ShN (qob q r acc)
 | [],h=>by
  intro x hx
  unfold qob at hx
  rw [List.mem_singleton] at hx
  subst hx
  exact ⟨hq,fun y hy=>by rw [jg3,List.mem_singleton] at hy;rw [hy];exact hr⟩
 | x::t,h=>by
  intro y hy
  unfold qob at hy
  have hx:=h x (List.mem_cons_self ..)
  have ht:ShN t:=fun z hz=>h z (List.mem_cons_of_mem _ hz)
  split at hy
  ·rcases List.mem_cons.1 hy with rfl|hy
   ·refine ⟨hx.1,fun z hz=>?_⟩
    rw [jg3,List.mem_append,List.mem_singleton] at hz
    rcases hz with hz|rfl
    ·exact hx.2 z hz
    ·exact hr
   ·exact ht y hy
  ·rcases List.mem_cons.1 hy with rfl|hy
   ·exact hx
   ·exact jcp hq hr ht y hy
theorem j6u {r:QD} (hr:r.1.length<=1000) : ∀{L:List QD} {acc:List ND},ShQ L->ShN acc->ShN (qat r acc L)
 | [],acc,_,h=>h
 | y::L,acc,hL,h=>j6u hr (L:=L) (fun z hz=>hL z (List.mem_cons_of_mem _ hz)) (jcp (hL y (List.mem_cons_self ..)) hr h)
theorem qts : ∀{l:List ND} {met:List QD} {acc:List ND},ShN l->ShN acc->ShN (q1s met acc l)
 | [],met,acc,_,h=>h
 | x::l,met,acc,hl,h=>by
  have hx:=hl x (List.mem_cons_self ..)
  have ht:ShN l:=fun z hz=>hl z (List.mem_cons_of_mem _ hz)
  unfold q1s
  split
  ·exact qts ht h
  ·exact qts ht (j6u hx.1 hx.2 h)
theorem qz5 (q r:QD) : ∀acc:List ND,((qob q r acc).flatMap nR).length=(acc.flatMap nR).length+1
 | []=>rfl
 | x::t=>by
  unfold qob
  split
  ·rw [List.flatMap_cons,List.flatMap_cons,jg3]
   simp only [List.length_append,List.length_cons,List.length_nil];omega
  ·rw [List.flatMap_cons,List.flatMap_cons,List.length_append,List.length_append,qz5 q r t];omega
theorem qr2 (r:QD) : ∀(L:List QD) (acc:List ND),((qat r acc L).flatMap nR).length=(acc.flatMap nR).length+L.length
 | [],acc=>rfl
 | y::L,acc=>by
  show ((qat r (qob y r acc) L).flatMap nR).length=_
  rw [qr2 r L,qz5]
  simp only [List.length_cons];omega
theorem qhl : ∀(l:List ND) (met:List QD) (acc:List ND),((q1s met acc l).flatMap nR).length<=(acc.flatMap nR).length+(l.flatMap nR).length
 | [],met,acc=>Nat.le_refl _
 | x::l,met,acc=>by
  unfold q1s
  rw [List.flatMap_cons,List.length_append]
  split
  ·have:=qhl l met acc;omega
  ·have:=qhl l (met ++ [nq x]) (qat (nq x) acc (nR x))
   rw [qr2] at this;omega
theorem qv8 (r:QD) : ∀(L:List QD) (acc:List ND),(qat r acc L).length<=acc.length+L.length
 | [],acc=>Nat.le_refl _
 | y::L,acc=>by
  have h1:=qv8 r L (qob y r acc)
  have h2:=j6w y r acc
  show (qat r (qob y r acc) L).length<=_
  simp only [List.length_cons];omega
theorem qkt : ∀(l:List ND) (met:List QD) (acc:List ND),(q1s met acc l).length<=acc.length+(l.flatMap nR).length
 | [],met,acc=>Nat.le_refl _
 | x::l,met,acc=>by
  unfold q1s
  rw [List.flatMap_cons,List.length_append]
  split
  ·have:=qkt l met acc;omega
  ·have h1:=qkt l (met ++ [nq x]) (qat (nq x) acc (nR x))
   have h2:=qv8 (nq x) (nR x) acc
   omega
theorem jaj (n:Nat) (q r:QD) (s:List QD) (hn:2000<=n) (hs:s.length<=1000000):qcl n q () () r.1 r.2.1 r.2.2.1 r.2.2.2.1 r.2.2.2.2.1 r.2.2.2.2.2 s=some ((),((r,((),())),(s ++ [q].filter (qc1 r),()))):=by
 unfold qcl
 rw [q8l n _ _ hn,Option.bind_some,List.filter_cons]
 show (bif qc1 r q then _ else _)=_
 cases qc1 r q with
 | true=>rw [cond_true,q1x (by simp;omega),Option.bind_some];rfl
 | false=>rw [cond_false,if_neg (by simp)];simp
def qwi (r:QD) (l:List ND):List QD:=(l.flatMap fun x=>nq x::nR x).filter (qc1 r)
theorem qw0 (n:Nat) (A l:List ND) (r:QD) (hn:1000000<=n) (hl:l.length<=20) (hx : ∀x∈l,(nR x).length<=12) : ∀(m j:Nat) (s:List QD),l.length - j<m->j<=l.length->s.length+(l.length - j)*13<=10000 ->
  q6e n m A l ((l.length:Nat):Int) (j:Int) r.1 r.2.1 r.2.2.1 r.2.2.2.1 r.2.2.2.2.1 r.2.2.2.2.2 s=some ((A,((),())),(((),()),(s++qwi r (l.drop j),())))
 | 0,j,s,h,_,_=>absurd h (Nat.not_lt_zero _)
 | m+1,j,s,h,hj,hs=>by
  rw [qij]
  unfold qs5
  by_cases c:j<l.length
  ·have hxl:=hx _ (List.getElem_mem c)
   have h1:=jaj n (nq l[j]) r s (by omega) (by omega)
   have hf1:([nq l[j]].filter (qc1 r)).length<=1:=List.length_filter_le _ _
   have h2:=qeo n (nR l[j]) r (s ++ [nq l[j]].filter (qc1 r)) hn (by rw [List.length_append];omega)
   have hf2:((nR l[j]).filter (qc1 r)).length<=(nR l[j]).length:=List.length_filter_le _ _
   have ih:=qw0 n A l r hn hl hx m (j+1) (s ++ [nq l[j]].filter (qc1 r)++(nR l[j]).filter (qc1 r)) (by omega) (by omega) (by rw [List.length_append,List.length_append];omega)
   have e:s++qwi r (l.drop j)=s ++ [nq l[j]].filter (qc1 r)++(nR l[j]).filter (qc1 r)++qwi r (l.drop (j+1)):=by
    rw [List.drop_eq_getElem_cons c]
    unfold qwi
    rw [List.flatMap_cons,List.filter_append,show nq l[j]::nR l[j] = [nq l[j]]++nR l[j] from rfl,List.filter_append]
    simp only [List.append_assoc]
   rw [decide_eq_true (by omega),cond_true,q0a c,Option.bind_some,e]
   show ((qcl n (nq l[j]) () () r.1 r.2.1 r.2.2.1 r.2.2.2.1 r.2.2.2.2.1 r.2.2.2.2.2 s).bind _)=_
   rw [h1,Option.bind_some]
   show ((q62 n (nR l[j]) () r.1 r.2.1 r.2.2.1 r.2.2.2.1 r.2.2.2.2.1 r.2.2.2.2.2 (s ++ [nq l[j]].filter (qc1 r))).bind _)=_
   rw [h2,Option.bind_some,q02,q00 (by omega)]
   exact ih
  ·rw [decide_eq_false (by omega),cond_false,List.drop_of_length_le (by omega)]
   unfold qwi
   simp
theorem jhk {r q:QD} {root:List QD} {l:List ND} (hr:ShQ root) (hl:ShN l) (h:q∈q6t r root l):q.1.length<=1000:=by
 have:=(List.mem_filter.1 h).1
 rcases List.mem_append.1 this with h1|h1
 ·exact hr q h1
 ·obtain ⟨x,hx,h2⟩:=List.mem_flatMap.1 h1
  rcases List.mem_cons.1 h2 with rfl|h2
  ·exact (hl x hx).1
  ·exact (hl x hx).2 q h2
theorem j90 (n:Nat) (root:List QD) (l:List ND) (r:QD) (hn:1000000<=n) (h:Sm root l):qsh n root l r=some ((),((q9t (q0d (q6t r root l) (q1s [] [] l)),()),())):=by
 have h1:=qeo n root r [] hn (by have:=h.rl;simp;omega)
 have hf1:(root.filter (qc1 r)).length<=root.length:=List.length_filter_le _ _
 have h2:=qw0 n l l r hn h.ll h.nl n 0 (root.filter (qc1 r)) (by have:=h.ll;omega) (Nat.zero_le _) (by have:=h.ll;have:=h.rl;omega)
 rw [show ((0:Nat):Int)=(0:Int) from rfl] at h2
 have hfl:=h.flat
 have hhl:(q6t r root l).length<=560:=by
  have h3:(q6t r root l).length<=(root++l.flatMap fun x=>nq x::nR x).length:=List.length_filter_le _ _
  rw [List.length_append,qya] at h3
  have:=h.rl
  have:=h.ll
  omega
 have hT:((q1s [] [] l).flatMap nR).length<=240:=by
  have:=qhl l [] []
  simp only [List.flatMap_nil,List.length_nil] at this;omega
 have hTl:(q1s [] [] l).length<=240:=by
  have:=qkt l [] []
  simp only [List.length_nil] at this;omega
 have hall:(qf9 (q6t r root l) (q1s [] [] l)).length<=10000:=by
  unfold qf9
  rw [List.length_append];omega
 have hsm:qzi l:=⟨by have:=h.ll;omega,fun x hx=>by have:=h.nl x hx;omega⟩
 have h3:=q2z n (q6t r root l) (q1s [] [] l) (fun q hq=>jhk h.sr h.sl hq) (qts h.sl (fun x hx=>by cases hx)) hn hall (by omega)
 have hrl:=q7t (q6t r root l) (q1s [] [] l)
 have h4:=qwd n (q0d (q6t r root l) (q1s [] [] l)) hn (by omega) (j7i _ _)
 unfold qsh
 rw [h1,Option.bind_some]
 show ((q6e n n l l ((l.length:Nat):Int) 0 r.1 r.2.1 r.2.2.1 r.2.2.2.1 r.2.2.2.2.1 r.2.2.2.2.2 (root.filter (qc1 r))).bind _)=_
 rw [h2,Option.bind_some]
 show ((q8a l).bind _)=_
 unfold q8a
 rw [if_pos hsm,Option.bind_some,List.drop_zero]
 have e:root.filter (qc1 r)++qwi r l=q6t r root l:=by
  unfold q6t qwi
  rw [List.filter_append]
 show ((q1n n (root.filter (qc1 r)++qwi r l) (q1s [] [] l)).bind _)=_
 rw [e,h3,Option.bind_some,h4,Option.bind_some]
theorem q7b (n:Nat) (l:List ND) (out:List QD) (hn:1000000<=n) (hs:ShN l) (hl:l.length<=1000) : ∀(m j:Nat) (s:List QD),l.length - j<m->j<=l.length->s.length+(l.length - j)<=10000 ->
  q4n n m l ((l.length:Nat):Int) (j:Int) (q9t out) s=some (((),()),((q9t out,()),(s++q8p (l.drop j) out,())))
 | 0,j,s,h,_,_=>absurd h (Nat.not_lt_zero _)
 | m+1,j,s,h,hj,hsl=>by
  rw [qcm]
  unfold qc6
  by_cases c:j<l.length
  ·have e:q8p (l.drop j) out=(if (q3b (nq l[j]) && !decide (nq l[j]∈out))=true then nq l[j]::q8p (l.drop (j+1)) out else q8p (l.drop (j+1)) out):=by
    rw [List.drop_eq_getElem_cons c]
    unfold q8p
    rw [List.map_cons,List.filter_cons]
   rw [decide_eq_true (by omega),cond_true,q0a c,Option.bind_some,e]
   show ((qc0 n (nq l[j])).bind fun r2=>bif r2 then ((q8v n () (nq l[j]) (q9t out)).bind _) else _)=_
   rw [qag n _ (hs _ (List.getElem_mem c)).1 (by omega),Option.bind_some]
   cases hm:q3b (nq l[j]) with
   | false =>
    rw [cond_false,q02,q00 (by omega),Bool.false_and,if_neg (by simp)]
    exact q7b n l out hn hs hl m (j+1) s (by omega) (by omega) (by omega)
   | true =>
    rw [cond_true,qd4,Option.bind_some,Bool.true_and]
    by_cases ho:nq l[j]∈out
    ·rw [decide_eq_true ho,if_neg (by simp)]
     show (bif false then _ else q08 (IntKind.wrap .i64 ((j:Int)+1)) _)=_
     rw [cond_false,q02,q00 (by omega)]
     exact q7b n l out hn hs hl m (j+1) s (by omega) (by omega) (by omega)
    ·rw [decide_eq_false ho,if_pos (by simp)]
     show (bif true then ((q7r 72 s [nq l[j]]).bind _) else _)=_
     rw [cond_true,q1x (by simp;omega),Option.bind_some,q02,q00 (by omega)]
     have ih:=q7b n l out hn hs hl m (j+1) (s ++ [nq l[j]]) (by omega) (by omega) (by simp;omega)
     rw [List.append_assoc] at ih
     exact ih
  ·rw [decide_eq_false (by omega),cond_false,List.drop_of_length_le (by omega)]
   show _=some (((),()),((q9t out,()),(s ++ [],())))
   rw [List.append_nil]
theorem j70 (l:List ND) (out:List QD):(q8p l out).length<=l.length:=by
 unfold q8p
 refine Nat.le_trans (List.length_filter_le _ _) ?_
 rw [List.length_map];exact Nat.le_refl _
theorem qrw (n:Nat) (l:List ND) (out:List QD) (hn:1000000<=n) (hs:ShN l) (hl:l.length<=20):q84 n l () (q9t out)=some (q0k (quu (q8p l out)),((q9t out,()),())):=by
 have h1:=q7b n l out hn hs (by omega) n 0 [] (by omega) (Nat.zero_le _) (by simp;omega)
 rw [show ((0:Nat):Int)=(0:Int) from rfl,List.drop_zero,List.nil_append] at h1
 have h2:=j70 l out
 have h3:=qa8 (q8p l out)
 unfold q84
 rw [h1,Option.bind_some]
 show ((q7x () () (q8p l out)).bind _)=_
 unfold q7x
 rw [if_pos (by omega),Option.bind_some]
 show ((q63 () () (qbv (q8p l out))).bind _)=_
 unfold q63
 rw [if_pos (by omega),Option.bind_some,j6b]
theorem jku {q:QD} (hq:q06 q.2=true) : ∀{C:List QD},(∀z∈C,q06 z.2=true)->C.Pairwise (fun u v=>q10 u v<0)->∃ k,k<=C.length/\(C.filter fun c=>decide (q10 c q<0))=C.take k/\∀(i:Nat) (h:i<C.length),q10 C[i] q<0↔i<k
 | [],_,_=>⟨0,Nat.le_refl _,rfl,fun i h=>absurd h (Nat.not_lt_zero _)⟩
 | x::t,hc,h=>by
  obtain ⟨h1,h2⟩:=List.pairwise_cons.1 h
  have ht : ∀z∈t,q06 z.2=true:=fun z hz=>hc z (List.mem_cons_of_mem _ hz)
  have hx:=hc x (List.mem_cons_self ..)
  by_cases hl:q10 x q<0
  ·obtain ⟨k,k1,k2,k3⟩:=jku hq ht h2
   refine ⟨k+1,by simpa using k1,?_,fun i hi=>?_⟩
   ·rw [List.filter_cons,if_pos (decide_eq_true hl),k2];rfl
   ·cases i with
    | zero=>exact ⟨fun _=>Nat.succ_pos _,fun _=>hl⟩
    | succ i =>
     have hi':i<t.length:=by simpa using hi
     have:=k3 i hi'
     show q10 t[i] q<0↔i+1<k+1
     rw [this];omega
  ·have hall : ∀z∈t,¬ q10 z q<0:=fun z hz hzq=>hl (jgx hx (ht z hz) hq (h1 z hz) (by omega))
   refine ⟨0,Nat.zero_le _,?_,fun i hi=>⟨fun hlt=>?_,fun h0=>absurd h0 (Nat.not_lt_zero _)⟩⟩
   ·rw [List.filter_cons,if_neg (by simpa using hl),List.take_zero,List.filter_eq_nil_iff]
    intro z hz
    simpa using hall z hz
   ·cases i with
    | zero=>exact absurd hlt hl
    | succ i =>
     have hi':i<t.length:=by simpa using hi
     exact absurd hlt (hall t[i] (List.getElem_mem hi'))
theorem jpz (lo hi:Nat) (h1:lo<=1000000) (h2:hi<=1000000):jpj .u64 (IntKind.wrap .u64 (IntKind.wrap .i64 ((lo:Int)+(hi:Int)))) 1=some (((lo+hi) / 2:Nat):Int):=by
 rw [wrap_add (by omega) (by omega)]
 have e:IntKind.wrap .u64 ((lo+hi:Nat):Int)=((lo+hi:Nat):Int):=by
  simp only [IntKind.wrap,IntKind.signed,IntKind.bits]
  simp
  omega
 rw [e]
 unfold jpj
 rw [if_pos (by omega)]
 show some (((lo+hi:Nat):Int).fdiv 2)=_
 rw [Int.fdiv_eq_ediv_of_nonneg _ (by omega)]
 rfl
theorem qs9 (n:Nat) (C:List QD) (q:QD) (k:Nat) (a2:Int) (hn:1000000<=n) (hC:C.length<=1000) (hk : ∀(i:Nat) (h:i<C.length),q10 C[i] q<0↔i<k) : ∀(m lo hi:Nat),hi - lo<m->lo<=k->k<=hi->hi<=C.length ->
  qb5 n m C a2 (lo:Int) (hi:Int) q.1 q.2.1 q.2.2.1 q.2.2.2.1 q.2.2.2.2.1 q.2.2.2.2.2=some ((C,((),((),(a2,((k:Int),()))))),((q,()),()))
 | 0,lo,hi,h,_,_,_=>absurd h (Nat.not_lt_zero _)
 | m+1,lo,hi,h,h1,h2,h3=>by
  rw [qnn]
  unfold j1c
  by_cases c:lo<hi
  ·have hmid:(lo+hi) / 2<C.length:=by omega
   rw [decide_eq_true (by omega),cond_true,q02,q02,jpz lo hi (by omega) (by omega),Option.bind_some,q02,jjj (by omega),q0a hmid,Option.bind_some]
   show ((qo4 n C[(lo+hi) / 2] q).bind _)=_
   rw [qmd n _ _ (by omega),Option.bind_some]
   have hkm:=hk _ hmid
   by_cases hlt:q10 C[(lo+hi) / 2] q<0
   ·have:=hkm.1 hlt
    rw [decide_eq_true hlt,cond_true,q02,q00 (by omega)]
    exact qs9 n C q k a2 hn hC hk m ((lo+hi) / 2+1) hi (by omega) (by omega) h2 h3
   ·have : ¬ (lo+hi) / 2<k:=fun h=>hlt (hkm.2 h)
    rw [decide_eq_false hlt,cond_false]
    exact qs9 n C q k a2 hn hC hk m lo ((lo+hi) / 2) (by omega) h1 (by omega) (by omega)
  ·obtain rfl:k=lo:=by omega
   rw [decide_eq_false (by omega),cond_false]
theorem jdd (n:Nat) (C:List QD) (q:QD) (k:Nat) (hn:1000000<=n) (hC:C.length<=1000) (hkl:k<=C.length) (hk : ∀(i:Nat) (h:i<C.length),q10 C[i] q<0↔i<k) : ∃ b,j6a n C q ()=some ((k:Int),b):=by
 have h1:=qs9 n C q k ((C.length:Nat):Int) hn hC hk n 0 C.length (by omega) (Nat.zero_le _) hkl (Nat.le_refl _)
 rw [show ((0:Nat):Int)=(0:Int) from rfl] at h1
 unfold j6a
 rw [h1,Option.bind_some]
 show ∃ b,(bif decide ((k:Int)<((C.length:Nat):Int)) then ((q0w C (k:Int)).bind fun x9=>(qo4 n x9 q).bind _) else _)=_
 by_cases c:k<C.length
 ·rw [decide_eq_true (by omega),cond_true,q0a c,Option.bind_some,qmd n _ _ (by omega)]
  exact ⟨_,rfl⟩
 ·rw [decide_eq_false (by omega),cond_false]
  exact ⟨_,rfl⟩
theorem j43 (n:Nat) (C:List QD) (q:QD) (hn:1000000<=n) (hC:C.length<=1000) (hq:q06 q.2=true) (hs : ∀z∈C,q06 z.2=true) (hp:C.Pairwise fun u v=>q10 u v<0) :
  qfz n C q=some (match jo4 C q with|some y=>(y,true)|none=>(([],0,0,0,[],[]),false)):=by
 obtain ⟨k,h1,h2,h3⟩:=jku hq hs hp
 obtain ⟨b,hb⟩:=jdd n C q k hn hC h1 h3
 unfold qfz jo4
 rw [hb,Option.bind_some,h2]
 show (bif decide ((k:Int)=0) then _ else _)=_
 by_cases h0:k=0
 ·subst h0
  rw [decide_eq_true (by omega),cond_true,List.take_zero];rfl
 ·have hk1:k - 1<C.length:=by omega
  have hw:IntKind.wrap .i64 ((k:Int) - 1)=((k - 1:Nat):Int):=j5e (j:=1) (by omega) (by omega)
  have hg:(C.take k).getLast? = some C[k - 1]:=by
   rw [List.getLast?_eq_getElem?,List.length_take,List.getElem?_take,if_pos (by omega),show min k C.length - 1=k - 1 from by omega,List.getElem?_eq_getElem hk1]
  rw [decide_eq_false (by omega),cond_false,hg]
  show (q08 (IntKind.wrap .i64 ((k:Int) - 1)) _)=_
  rw [q02,hw,q0a hk1,Option.bind_some]
  show _=some (match (if C[k - 1].1=q.1 then some C[k - 1] else none) with|some y=>(y,true)|none=>_)
  by_cases e:C[k - 1].1=q.1
  ·rw [if_pos e,decide_eq_true e,Bool.not_true,cond_false,q02,q0a hk1,Option.bind_some]
  ·rw [if_neg e,decide_eq_false e];rfl
theorem qxm (n:Nat) (C:List QD) (root0:List QD) (l:List ND) (r:QD) (out:List QD) (hn:1000000<=n) (hC:C.length<=1000) (hs : ∀z∈C,q06 z.2=true) (hp:C.Pairwise fun u v=>q10 u v<0)
  (hout : ∀x∈root0,decide (x∈out)=qkv l r x) (hmo : ∀x∈out,q06 x.2=true) (hlow : ∀x∈out,jo4 C x=j7c l r x) (hl:root0.length<=1000) : ∀(m j:Nat) (s:List QD),root0.length - j<m->j<=root0.length->s.length+(root0.length - j)<=10000 ->
  q2d n m C root0 ((root0.length:Nat):Int) (j:Int) (q9t out) s=some (((),()),((),(s++q6y l r (root0.drop j),())))
 | 0,j,s,h,_,_=>absurd h (Nat.not_lt_zero _)
 | m+1,j,s,h,hj,hsl=>by
  rw [qa0]
  unfold q94
  by_cases c:j<root0.length
  ·have hx:=hout _ (List.getElem_mem c)
   have ih0:=qxm n C root0 l r out hn hC hs hp hout hmo hlow hl m (j+1)
   have e:q6y l r (root0.drop j)=if qkv l r root0[j]=true then (match j7c l r root0[j] with|some y=>y::q6y l r (root0.drop (j+1))|none=>q6y l r (root0.drop (j+1))) else root0[j]::q6y l r (root0.drop (j+1)):=by
    rw [List.drop_eq_getElem_cons c];rfl
   rw [decide_eq_true (by omega),cond_true,q0a c,Option.bind_some,qd4,Option.bind_some,e,<-hx]
   by_cases ho:root0[j]∈out
   ·rw [decide_eq_true ho,if_pos rfl]
    show ((qfz n C root0[j]).bind _)=_
    rw [j43 n C _ hn hC (hmo _ ho) hs hp,Option.bind_some,hlow _ ho]
    cases j7c l r root0[j] with
    | none =>
     show (bif false then _ else q08 (IntKind.wrap .i64 ((j:Int)+1)) _)=_
     rw [cond_false,q02,q00 (by omega)]
     exact ih0 s (by omega) (by omega) (by omega)
    | some y =>
     show (bif true then ((q7r 72 s [y]).bind _) else _)=_
     rw [cond_true,q1x (by simp;omega),Option.bind_some,q02,q00 (by omega)]
     have ih:=ih0 (s ++ [y]) (by omega) (by omega) (by simp;omega)
     rw [List.append_assoc] at ih
     exact ih
   ·rw [decide_eq_false ho,if_neg (by simp)]
    show ((q7r 72 s [root0[j]]).bind _)=_
    rw [q1x (by simp;omega),Option.bind_some,q02,q00 (by omega)]
    have ih:=ih0 (s ++ [root0[j]]) (by omega) (by omega) (by simp;omega)
    rw [List.append_assoc] at ih
    exact ih
  ·rw [decide_eq_false (by omega),cond_false,List.drop_of_length_le (by omega)]
   show _=some (((),()),((),(s ++ [],())))
   rw [List.append_nil]
theorem j7q (S:List QD):(q0k S).length<=S.length:=by
 cases S with
 | nil=>exact Nat.le_refl _
 | cons x r =>
  have:=qdq x r
  show (x::q2a x r).length<=_
  simp only [List.length_cons];omega
theorem q6o (n:Nat) (root:List QD) (l:List ND) (r:QD) (hn:1000000<=n) (h:Sm root l) (hrs:r.1.length<=1000):q1z n root l r=some (q6p root l r):=by
 unfold q1z q6p
 rw [qag n r hrs (by omega),Option.bind_some]
 cases hm:q3b r with
 | false =>
  have:=h.rl
  show ((q74 root).bind _)=_
  unfold q74
  rw [if_pos (by omega)];rfl
 | true =>
  rw [Bool.not_true,cond_false,j90 n root l r hn h,Option.bind_some,if_pos rfl]
  show ((q84 n l () (q9t (q0d (q6t r root l) (q1s [] [] l)))).bind _)=_
  rw [qrw n l _ hn h.sl h.ll,Option.bind_some]
  have hleft : ∀z∈q8p l (q0d (q6t r root l) (q1s [] [] l)),q06 z.2=true:=fun z hz=>by
   have:=(List.mem_filter.1 hz).2
   simp only [Bool.and_eq_true] at this
   exact q3q this.1
  have hS : ∀z∈quu (q8p l (q0d (q6t r root l) (q1s [] [] l))),q06 z.2=true:=fun z hz=>hleft z ((qtw _ z).1 hz)
  have hC:=qqg hS (jlc hleft)
  have hlen:(q0k (quu (q8p l (q0d (q6t r root l) (q1s [] [] l))))).length<=1000:=by
   have h1:=j7q (quu (q8p l (q0d (q6t r root l) (q1s [] [] l))))
   have h2:(quu (q8p l (q0d (q6t r root l) (q1s [] [] l)))).length<=20:=by
    rw [<-j6b,qa8]
    have:=j70 l (q0d (q6t r root l) (q1s [] [] l))
    have:=h.ll
    omega
   omega
  have hd:=qxm n _ root l r (q0d (q6t r root l) (q1s [] [] l)) hn hlen (fun z hz=>hS z (hC.sub z hz)) hC.pw (fun x hx=>by
   have:=jes (root:=root) (l:=l) (r:=r) (x:=x) (Or.inl hx)
   cases ho:qkv l r x with
   | true=>rw [ho] at this;exact decide_eq_true (this.2 rfl)
   | false=>rw [ho] at this;exact decide_eq_false fun h2=>by have:=this.1 h2;cases this) (fun x hx=>q3q (q53 hx)) (fun x hx=>jpe (q53 hx)) (by have:=h.rl;omega) n 0 [] (by have:=h.rl;omega) (Nat.zero_le _) (by have:=h.rl;simp;omega)
  rw [show ((0:Nat):Int)=(0:Int) from rfl,List.drop_zero,List.nil_append] at hd
  show ((q2d n n _ root ((root.length:Nat):Int) 0 (q9t (q0d (q6t r root l) (q1s [] [] l))) []).bind _)=_
  rw [hd];rfl
end Go.Proofs.YtlkpgcifpnppeaaGreatDoor.AM
