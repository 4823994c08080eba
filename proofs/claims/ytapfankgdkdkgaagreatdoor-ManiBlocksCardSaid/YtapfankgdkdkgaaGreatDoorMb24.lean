
import Derived.Test.YtapfankgdkdkgaaGreatDoorMb13
import Derived.Test.YtapfankgdkdkgaaGreatDoorMb14
import Derived.Test.YtapfankgdkdkgaaGreatDoorMb20
import Derived.Test.YtapfankgdkdkgaaGreatDoorMb21
import Derived.Test.YtapfankgdkdkgaaGreatDoorMb23
namespace Go.Proofs.YtapfankgdkdkgaaGreatDoor.AM
open Go.RowKit
set_option linter.unusedVariables false
set_option linter.unusedSimpArgs false
theorem j20 : ∀(k:Nat) (a:Int),0<=a->a<10 ^ (k+1)->k<=15->q1q (k+1) a=some (Lib.itoa a):=by
  intro k
  induction k with
  | zero =>
    intro a h0 h1 _
    have h1':a<10:=by simpa using h1
    unfold q1q
    have e1:ju1 a 10=some (a % 10):=by unfold ju1;rw [if_pos (by decide),Int.tmod_eq_emod_of_nonneg h0]
    have w1:IntKind.wrap .i64 (48+a % 10)=48+a % 10:=wrap64 (by omega) (by omega)
    have w2:IntKind.wrap .u8 (48+a % 10)=48+a % 10:=jz4 (by omega) (by omega)
    have c1 : ¬ (10:Int)<=a:=by omega
    simp only [e1,Option.bind_some,q05,w1,w2,c1,decide_false,cond_false]
    rw [jc6 h0,if_pos h1']
    simp only [List.map_cons,List.map_nil]
    rw [show (48+a % 10).toNat=48+a.toNat from by omega]
  | succ k ih =>
    intro a h0 h1 hk
    unfold q1q
    have e1:ju1 a 10=some (a % 10):=by unfold ju1;rw [if_pos (by decide),Int.tmod_eq_emod_of_nonneg h0]
    have w1:IntKind.wrap .i64 (48+a % 10)=48+a % 10:=wrap64 (by omega) (by omega)
    have w2:IntKind.wrap .u8 (48+a % 10)=48+a % 10:=jz4 (by omega) (by omega)
    have hp:(10:Int) ^ (k+1+1)=10*10 ^ (k+1):=by rw [Int.pow_succ];omega
    have hb:(10:Int) ^ (k+1)<=10 ^ 16:=by
      have:=Nat.pow_le_pow_right (n:=10) (by decide) (show k+1<=16 by omega)
      have e2:((10 ^ (k+1):Nat):Int)=(10:Int) ^ (k+1):=by simp
      have e3:((10 ^ 16:Nat):Int)=(10:Int) ^ 16:=by simp
      rw [<-e2,<-e3];omega
    have e9:(10:Int) ^ 16=10000000000000000:=by decide
    rw [hp] at h1
    rw [e9] at hb
    simp only [e1,Option.bind_some,q05,w1,w2]
    rw [jc6 h0]
    by_cases c1:(10:Int)<=a
    · have q1:jyq .i64 a 10=some (a / 10):=by
        unfold jyq;rw [if_pos (by decide),Int.tdiv_eq_ediv_of_nonneg h0,wrap64 (by omega) (by omega)]
      have i1:=ih (a / 10) (by omega) (by omega) (by omega)
      have c2 : ¬ a<10:=by omega
      have hlen:(Lib.itoa (a / 10)).length<=20:=by
        rw [q1t (by omega)]
        have:=qjl 19 (a / 10).toNat (by omega)
        omega
      simp only [c1,decide_true,cond_true,q1,Option.bind_some,i1,c2,if_false,List.map_cons,List.map_nil]
      rw [q2c (by simp;omega)]
      rw [show (48+a % 10).toNat=48+(a % 10).toNat from by omega]
      rfl
    · have c2:a<10:=by omega
      simp only [c1,c2,decide_false,cond_false,if_true,List.map_cons,List.map_nil]
      rw [show (48+a % 10).toNat=48+a.toNat from by omega]
theorem jag (n:Nat) {a:Int} (h:0<=a/\a<=999999999) (hn:10<=n) : ∀k,n=k+10->q1q n a=some (Lib.itoa a):=by
  have more : ∀(k:Nat) (a:Int) (r:List UInt8),q1q k a=some r->q1q (k+1) a=some r:=by
    intro k
    induction k with
    | zero=>intro a r hr;cases hr
    | succ k ih =>
      intro a r hr
      rw [q1q] at hr ⊢
      cases e1:ju1 a 10 with
      | none=>rw [e1] at hr;cases hr
      | some n1 =>
        rw [e1] at hr
        simp only [Option.bind_some,q05] at hr ⊢
        by_cases c1:(10:Int)<=a
        · simp only [c1,decide_true,cond_true] at hr ⊢
          cases e2:jyq .i64 a 10 with
          | none=>rw [e2] at hr;cases hr
          | some n4 =>
            rw [e2] at hr
            simp only [Option.bind_some] at hr ⊢
            cases e3:q1q k n4 with
            | none=>rw [e3] at hr;cases hr
            | some r5 =>
              rw [e3] at hr
              rw [ih n4 r5 e3]
              exact hr
        · simp only [c1,decide_false,cond_false] at hr ⊢
          exact hr
  intro k
  induction k generalizing n with
  | zero =>
    rintro rfl
    exact j20 9 a h.1 (by
                                   have:(10:Int) ^ (9+1)=10000000000:=by decide
                                   rw [this];omega) (by decide)
  | succ k ih =>
    rintro rfl
    exact more _ _ _ (ih (k+10) (by omega) rfl)
theorem qff (n:Nat) {a:Int} (h:0<=a/\a<=999999999) (hn:10<=n):q1q n a=some (Lib.itoa a):=jag n h hn (n - 10) (by omega)
end Go.Proofs.YtapfankgdkdkgaaGreatDoor.AM
namespace Go.Proofs.YtapfankgdkdkgaaGreatDoor.AM
open Go.RowKit
set_option linter.unusedVariables false
set_option linter.unusedSimpArgs false
end Go.Proofs.YtapfankgdkdkgaaGreatDoor.AM
namespace Go.Proofs.YtapfankgdkdkgaaGreatDoor.AM
open Go.RowKit
set_option linter.unusedVariables false
set_option linter.unusedSimpArgs false
theorem jil (n:Nat) (v:VD) (hn:100<=n):qya n v=some (q2x v):=by
  unfold qya q2x
  rw [qty n v hn]
  cases hc:q1m v with
  | false=>rfl
  | true =>
    obtain ⟨h1,h2,h3,h4,h5⟩:=q26 hc
    have l1:=qab h1
    have l2:=qab h2
    have l3:=qab h3
    have t1:=q7x h4
    have t2:=q7x h5
    simp only [Option.bind_some,Bool.not_true,cond_false,qff n h1 (by omega),qff n h2 (by omega),qff n h3 (by omega),if_true]
    unfold jsr q6n
    generalize Lib.itoa v.1=A at l1
    generalize Lib.itoa v.2.1=B at l2
    generalize Lib.itoa v.2.2.1=C at l3
    generalize v.2.2.2.1=p at t1
    generalize v.2.2.2.2=q at t2
    rw [q2c (by simp;omega)];simp only [Option.bind_some]
    rw [q2c (by simp;omega)];simp only [Option.bind_some]
    rw [q2c (by simp;omega)];simp only [Option.bind_some]
    rw [q2c (by simp;omega)];simp only [Option.bind_some]
    rw [q2c (by simp;omega)];simp only [Option.bind_some]
    by_cases hp:p = []
    · by_cases hq:q = []
      · simp [hp,hq]
      · simp only [hp,hq,decide_true,decide_false,Bool.not_true,Bool.not_false,cond_true,cond_false]
        rw [q2c (by simp;omega)];simp only [Option.bind_some]
        rw [q2c (by simp;omega)]
        simp
    · by_cases hq:q = []
      · simp only [hp,hq,decide_true,decide_false,Bool.not_true,Bool.not_false,cond_true,cond_false]
        rw [q2c (by simp;omega)];simp only [Option.bind_some]
        rw [q2c (by simp;omega)]
        simp
      · simp only [hp,hq,decide_true,decide_false,Bool.not_true,Bool.not_false,cond_true,cond_false]
        rw [q2c (by simp;omega)];simp only [Option.bind_some]
        rw [q2c (by simp;omega)];simp only [Option.bind_some]
        rw [q2c (by simp;omega)];simp only [Option.bind_some]
        rw [q2c (by simp;omega)]
        simp
end Go.Proofs.YtapfankgdkdkgaaGreatDoor.AM
namespace Go.Proofs.YtapfankgdkdkgaaGreatDoor.AM
open Go.RowKit
set_option linter.unusedVariables false
set_option linter.unusedSimpArgs false
end Go.Proofs.YtapfankgdkdkgaaGreatDoor.AM
namespace Go.Proofs.YtapfankgdkdkgaaGreatDoor.AM
open Go.RowKit
set_option linter.unusedVariables false
set_option linter.unusedSimpArgs false
theorem jrm : ∀n:Nat,0<n->(Lib.decDigits n).head? ≠ some 48:=by
  intro n
  induction n using Nat.strongRecOn with
  | _ n ih =>
    intro h0
    rw [Lib.decDigits]
    split
    · rename_i h
      intro h2
      have h3:UInt8.ofNat (48+n)=48:=by simpa using h2
      have h4:=congrArg UInt8.toNat h3
      rw [UInt8.toNat_ofNat'] at h4
      have e48:(48:UInt8).toNat=48:=rfl
      rw [e48] at h4;omega
    · rename_i h
      have:=ih (n / 10) (by omega) (by omega)
      have hne:=(qzi (n / 10)).2
      generalize Lib.decDigits (n / 10)=l at this hne
      cases l with
      | nil=>exact absurd rfl hne
      | cons b r=>simpa using this
theorem jl3 : ∀(k:Nat) (d:List UInt8),d.length=k->d.all q18=true->d ≠ []->d.head? ≠ some 48->Lib.decDigits (qe1 0 d).toNat=d
  | 0,d,hk,_,hne,_=>absurd (List.eq_nil_of_length_eq_zero hk) hne
  | k+1,d,hk,hd,hne,h48=>by
    obtain ⟨l,c,rfl⟩ : ∃ l c,d=l ++ [c]:=⟨d.dropLast,d.getLast hne,(List.dropLast_concat_getLast hne).symm⟩
    have hl:l.length=k:=by simpa using hk
    rw [List.all_append,Bool.and_eq_true] at hd
    have hc:q18 c=true:=by simpa using hd.2
    have hc2:48<=c.toNat/\c.toNat<=57:=by unfold q18 at hc;simpa using hc
    have hb:=qkp l 0 (by decide) hd.1
    rw [qyy]
    have e1:qe1 (qe1 0 l) [c]=10*qe1 0 l+c.toNat - 48:=by simp only [qe1]
    rw [e1,Lib.decDigits]
    have uc:UInt8.ofNat (48+(c.toNat - 48))=c:=by
      have:48+(c.toNat - 48)=c.toNat:=by omega
      rw [this];simp
    by_cases h0:l = []
    · subst h0
      have:(10*qe1 0 ([]:List UInt8)+(c.toNat:Int) - 48).toNat=c.toNat - 48:=by show (10*(0:Int)+(c.toNat:Int) - 48).toNat=_;omega
      rw [this,dif_pos (by omega),uc];rfl
    · have hh:l.head? ≠ some 48:=by
        cases l with
        | nil=>exact absurd rfl h0
        | cons b r=>simpa using h48
      have ih:=jl3 k l hl hd.1 h0 hh
      have hpos:qe1 0 l≠0:=fun h=>by
        rw [h] at ih
        have e0:Lib.decDigits (0:Int).toNat = [48]:=Lib.decDigits_one (by decide)
        rw [e0] at ih
        rw [<-ih] at hh;exact hh rfl
      have q1:(10*qe1 0 l+(c.toNat:Int) - 48).toNat / 10=(qe1 0 l).toNat:=by omega
      have q2:(10*qe1 0 l+(c.toNat:Int) - 48).toNat % 10=c.toNat - 48:=by omega
      rw [dif_neg (by omega),q1,q2,ih,uc]
def jyu (w:List UInt8):Int:=if 10<w.length then 0 else if (w.drop 1).head? = some 48 then 0 else if qe1 0 (w.drop 1)<2 then 0 else qe1 0 (w.drop 1)
theorem j61 {w:List UInt8} (h:q1n w=true):jyu w=if qv3 (w.drop 1) then numOf (w.drop 1) else 0:=by
  have hl:w.length=(w.drop 1).length+1:=by
    cases w with
    | nil=>exact absurd h (by decide)
    | cons b r=>simp
  unfold q1n at h
  simp only [Bool.and_eq_true] at h
  have hd:=h.2
  unfold q42 at hd
  simp only [Bool.and_eq_true,Bool.not_eq_true',decide_eq_false_iff_not] at hd
  unfold jyu
  rw [hl]
  generalize w.drop 1=d at hd
  cases hf:qv3 d with
  | true =>
    obtain ⟨n0,n1,ne⟩:=j2w hf
    have li:=qab (n:=numOf d) (by omega)
    have ed:Lib.decDigits (numOf d).toNat=d:=by rw [<-q1t (by omega)];exact ne.symm
    have hh:=jrm (numOf d).toNat (by omega)
    have hv:=js7 (numOf d).toNat
    rw [ed] at hh hv
    rw [<-ne] at li
    rw [if_neg (by omega),if_neg hh,hv,if_neg (by omega)]
    show (((numOf d).toNat:Nat):Int)=numOf d
    omega
  | false =>
    by_cases c1:10<d.length+1
    · rw [if_pos c1];rfl
    by_cases c2:d.head? = some 48
    · rw [if_neg c1,if_pos c2];rfl
    by_cases c3:qe1 0 d<2
    · rw [if_neg c1,if_neg c2,if_pos c3];rfl
    · exfalso
      have hb:=qkp d 0 (by decide) hd.1
      have hp:(10:Int) ^ d.length<=10 ^ 9:=by
        have:=Nat.pow_le_pow_right (n:=10) (by decide) (show d.length<=9 by omega)
        have e2:((10 ^ d.length:Nat):Int)=(10:Int) ^ d.length:=by simp
        have e3:((10 ^ 9:Nat):Int)=(10:Int) ^ 9:=by simp
        rw [<-e2,<-e3];omega
      have e9:(10:Int) ^ 9=1000000000:=by decide
      rw [e9] at hp
      have ed:=jl3 d.length d rfl hd.1 hd.2 c2
      have ei:Lib.itoa (qe1 0 d)=d:=by rw [q1t hb.1];exact ed
      have:=(jm0 (n:=qe1 0 d) (by omega) (by omega)).1
      rw [ei,hf] at this;cases this
theorem qmm (n:Nat) (s:List UInt8) (hL:s.length<=1000000) : ∀m j:Nat,j<=s.length+1->s.length+1 - j<m->q62 n m s (j:Int)=some (if (s.drop j).all q18=true then Sum.inr ((s,()),((),())) else Sum.inl ((false,()),((),())))
  | 0,j,_,h=>absurd h (Nat.not_lt_zero _)
  | m+1,j,hj,h=>by
    rw [qgk]
    unfold ql0
    by_cases c0:j<s.length
    · have c0':((j:Nat):Int)<((s.length:Nat):Int):=by omega
      have ih:=qmm n s hL m (j+1) (by omega) (by omega)
      have hd:s.drop j=s[j]::s.drop (j+1):=(List.drop_eq_getElem_cons c0)
      have hi:q18 s[j]=(!decide (((s[j].toNat:Nat):Int)<48) && !decide ((57:Int)<((s[j].toNat:Nat):Int))):=by
        unfold q18
        rw [<-decide_not,<-decide_not]
        congr 1<;>exact decide_eq_decide.2 (by omega)
      simp only [c0',decide_true,cond_true,q3g c0,Option.bind_some,q05,q0a (show j<4611686018427387904 by omega),ih,hd,List.all_cons,hi]
      cases decide (((s[j].toNat:Nat):Int)<48)<;>cases decide ((57:Int)<((s[j].toNat:Nat):Int))<;>simp
    · have c0' : ¬ ((j:Nat):Int)<((s.length:Nat):Int):=by omega
      have:s.drop j = []:=List.drop_eq_nil_of_le (by omega)
      simp [c0',this]
theorem qll (n:Nat) (s:List UInt8) (hL:s.length<=1000000) (hn:s.length+1<n):qc2 n s=some (q1n s):=by
  unfold qc2 q1n q42
  have:=qmm n s hL n 1 (by omega) (by omega)
  rw [show ((1:Nat):Int)=(1:Int) from rfl] at this
  rw [this]
  cases s with
  | nil=>rfl
  | cons b r =>
    simp only [List.drop_succ_cons,List.drop_zero,List.head?_cons,Option.some.injEq]
    have h0:sAt (b::r) (0:Int)=some ((b.toNat:Nat):Int):=q3g (s:=b::r) (j:=0) (by simp)
    have h1:decide (((b.toNat:Nat):Int)=(118:Int))=decide (b=118):=decide_eq_decide.2 (by
      constructor
      · intro h;exact UInt8.toNat_inj.1 (by have e:(118:UInt8).toNat=118:=rfl;rw [e];omega)
      · rintro rfl;rfl)
    have h2:decide ((1:Int)<(((b::r).length:Nat):Int)) = !decide (r = []):=by
      rw [<-decide_not]
      refine decide_eq_decide.2 ?_
      cases r with
      | nil=>simp
      | cons x y=>simp;omega
    cases hr:r.all q18 with
    | true =>
      simp only [if_true,Option.bind_some,Sum.elim_inr,h2,h0,h1,Bool.true_and]
      cases decide (r = [])<;>simp
    | false=>simp
theorem qhi (n:Nat) (s:List UInt8) (hL:s.length<=10) (hd:(s.drop 1).all q18=true) : ∀(m j:Nat) (a:Int),1<=j->j<=s.length->s.length - j<m->0<=a->a<10 ^ j->q4g n m s a (j:Int)=some ((qe1 a (s.drop j),()),((),()))
  | 0,j,a,_,_,h,_,_=>absurd h (Nat.not_lt_zero _)
  | m+1,j,a,hj1,hj,h,ha,hb=>by
    rw [qfq]
    unfold qfj
    by_cases c0:j<s.length
    · have c0':((j:Nat):Int)<((s.length:Nat):Int):=by omega
      have hp:(10:Int) ^ j<=10 ^ 10:=by
        have:=Nat.pow_le_pow_right (n:=10) (by decide) (show j<=10 by omega)
        have e2:((10 ^ j:Nat):Int)=(10:Int) ^ j:=by simp
        have e3:((10 ^ 10:Nat):Int)=(10:Int) ^ 10:=by simp
        rw [<-e2,<-e3];omega
      have e9:(10:Int) ^ 10=10000000000:=by decide
      rw [e9] at hp
      have hdr:s.drop j=s[j]::s.drop (j+1):=(List.drop_eq_getElem_cons c0)
      have hm:s[j]∈s.drop 1:=by
        have e:s.drop 1=s.drop 1:=rfl
        have:(s.drop 1)[j - 1]'(by simp;omega)=s[j]:=by simp;congr 1;omega
        rw [<-this];exact List.getElem_mem _
      have hc:=List.all_eq_true.1 hd _ hm
      have hc2:48<=s[j].toNat/\s[j].toNat<=57:=by unfold q18 at hc;simpa using hc
      have e10:(10:Int) ^ (j+1)=10*10 ^ j:=by rw [Int.pow_succ];omega
      have ih:=qhi n s hL hd m (j+1) (10*a+(s[j].toNat:Int) - 48) (by omega) (by omega) (by omega) (by omega) (by rw [e10];omega)
      simp only [c0',decide_true,cond_true,q3g c0,Option.bind_some,q05,q0a (show j<4611686018427387904 by omega)]
      rw [wrap64 (n:=10*a) (by omega) (by omega),wrap64 (n:=((s[j].toNat:Nat):Int)) (by omega) (by omega),wrap64 (n:=10*a+((s[j].toNat:Nat):Int)) (by omega) (by omega),wrap64 (n:=10*a+((s[j].toNat:Nat):Int) - 48) (by omega) (by omega),ih,hdr]
      rfl
    · have c0' : ¬ ((j:Nat):Int)<((s.length:Nat):Int):=by omega
      have:s.drop j = []:=List.drop_eq_nil_of_le (by omega)
      simp [c0',this,qe1]
theorem qho (n:Nat) (s:List UInt8) (hn:100<=n) (ht:q1n s=true):q8q n s=some (jyu s):=by
  have hd:(s.drop 1).all q18=true/\s.drop 1 ≠ []:=by
    unfold q1n q42 at ht
    simp only [Bool.and_eq_true,Bool.not_eq_true',decide_eq_false_iff_not] at ht
    exact ht.2
  have h2:2<=s.length:=by
    cases s with
    | nil=>exact absurd rfl hd.2
    | cons b r=>cases r with
      | nil=>exact absurd rfl hd.2
      | cons c t=>simp
  unfold q8q jyu
  by_cases c1:10<s.length
  · have c1':(10:Int)<((s.length:Nat):Int):=by omega
    simp [c1,c1']
  · have c1' : ¬ (10:Int)<((s.length:Nat):Int):=by omega
    have h0:sAt s (1:Int)=some ((s[1].toNat:Nat):Int):=q3g (s:=s) (j:=1) (by omega)
    have e1:(s.drop 1).head? = some s[1]:=by rw [List.head?_drop];exact List.getElem?_eq_getElem _
    have h1:decide (((s[1].toNat:Nat):Int)=(48:Int))=decide (s[1]=48):=decide_eq_decide.2 (by
      constructor
      · intro h;exact UInt8.toNat_inj.1 (by have e:(48:UInt8).toNat=48:=rfl;rw [e];omega)
      · intro h;rw [h];rfl)
    have hlp:=qhi n s (by omega) hd.1 n 1 0 (by omega) (by omega) (by omega) (by omega) (by decide)
    rw [show ((1:Nat):Int)=(1:Int) from rfl] at hlp
    simp only [c1,c1',decide_false,cond_false,if_false,h0,h1,hlp,Option.bind_some,e1,Option.some.injEq]
    generalize qe1 0 (s.drop 1)=V
    by_cases c2:s[1]=48
    · simp [c2]
    · by_cases c3:V<2
      · simp [c2,c3]
      · simp [c2,c3]
theorem j92 (n m:Nat) (l:List (List UInt8)):q3w n (m+1) l ((l.length:Nat):Int)=some (Sum.inr ((),((),()))):=by
  rw [q7k];unfold qdd;simp
theorem qmi (n:Nat) (f:List (List UInt8)) (x:List UInt8) (hl:f.length<=1000000) (hw : ∀w∈f ++ [x],w.length<=1000000/\w.length+1<n) (hn:100<=n) : ∀m j:Nat,j<=f.length->f.length+1 - j<m ->
    q3w n m (f ++ [x]) (j:Int)=some (if ((f.drop j).all (fun w=>!q1n w)&&(!q1n x||(!decide (f = []) && !decide (jyu x=0))))=true then Sum.inr ((),((),())) else Sum.inl ((false,()),((),())))
  | 0,j,_,h=>absurd h (Nat.not_lt_zero _)
  | m+1,j,hj,h=>by
    rw [q7k]
    unfold qdd
    have hlen:(f ++ [x]).length=f.length+1:=by simp
    have c0:((j:Nat):Int)<(((f ++ [x]).length:Nat):Int):=by rw [hlen];omega
    have w1:IntKind.wrap .i64 ((((f ++ [x]).length:Nat):Int) - 1)=((f.length:Nat):Int):=by rw [hlen,wrap64 (by omega) (by omega)];omega
    have hx:q0z (f ++ [x]) ((j:Nat):Int)=some ((f ++ [x])[j]'(by rw [hlen];omega)):=q0x _
    have hm:=hw _ (List.getElem_mem (show j<(f ++ [x]).length by rw [hlen];omega))
    simp only [c0,decide_true,cond_true,hx,Option.bind_some,qll n _ hm.1 hm.2,q05,w1,q0a (show j<4611686018427387904 by omega)]
    by_cases c1:j<f.length
    · have ih:=qmi n f x hl hw hn m (j+1) (by omega) (by omega)
      have hd:f.drop j=f[j]::f.drop (j+1):=(List.drop_eq_getElem_cons c1)
      have he:(f ++ [x])[j]'(by rw [hlen];omega)=f[j]:=List.getElem_append_left c1
      have c1':((j:Nat):Int)<((f.length:Nat):Int):=by omega
      rw [he,ih,hd]
      simp only [c1',decide_true,cond_true,List.all_cons]
      rcases Bool.eq_false_or_eq_true (q1n f[j]) with hb|hb
      · simp only [hb,cond_true,Bool.not_true,Bool.false_and,Bool.false_eq_true,if_false]
      · simp only [hb,cond_false,Bool.not_false,Bool.true_and]
    · have hj2:j=f.length:=by omega
      subst hj2
      have he:(f ++ [x])[f.length]'(by rw [hlen];omega)=x:=by simp
      obtain ⟨k,rfl⟩ : ∃ k,m=k+1:=⟨m - 1,by omega⟩
      have hend:=j92 n k (f ++ [x])
      rw [hlen] at hend
      rw [he,hend]
      have d0:decide (((f.length:Nat):Int)=0)=decide (f = []):=decide_eq_decide.2 (by
        constructor
        · intro h;exact List.eq_nil_of_length_eq_zero (by omega)
        · rintro rfl;rfl)
      simp only [Int.lt_irrefl,decide_false,cond_false,d0,List.drop_length,List.all_nil,Bool.true_and]
      cases ht:q1n x with
      | false=>rfl
      | true =>
        rw [qho n x hn ht]
        simp only [cond_true,Option.bind_some,Bool.not_true,Bool.false_or]
        cases decide (f = [])<;>cases decide (jyu x=0)<;>rfl
theorem j63 (s:List UInt8) (hp:q56 s=true) : ∃ f,spl 47 [] s=f ++ [q2g s]/\f.all (fun w=>!q1n w) = !anyS (q2j s)/\decide (f = [])=decide (q2j s = []):=by
  have key : ∀b,anyS b = !((spl 47 [] b).all fun x=>!q1n x):=fun b=>by unfold anyS;rw [List.any_eq_not_all_not]
  rcases jhi s with ⟨_,a,b,c⟩|⟨he,hs,hc⟩
  · refine ⟨[],by rw [b,c];rfl,?_,by rw [a];rfl⟩
    rw [a];decide
  · refine ⟨spl 47 [] (q2j s),hc,?_,?_⟩
    · rw [key,Bool.not_not]
    · have h1:=ju0 47 (q2j s) []
      have h2:q2j s ≠ []:=fun h=>by
        have:=(qjh hp).2
        rw [hc,h] at this
        simp [spl] at this
        exact absurd this.1 (by decide)
      simp [h1,h2]
theorem j6t (n:Nat) (s:List UInt8) (hL:s.length<=1000) (hn:2000<=n):qg1 n s=some (okS s):=by
  unfold qg1 okS
  rw [jb4 n s (by omega) (by omega)]
  cases hp:q56 s with
  | false=>rfl
  | true =>
    obtain ⟨f,e1,e2,e3⟩:=j63 s hp
    have hlen:=q8a 47 s []
    have hw : ∀w∈spl 47 [] s,w.length<=s.length:=fun w hm=>by have:=qck 47 s [] w hm;simpa using this
    rw [show (47:Int)=(((47:UInt8).toNat:Nat):Int) from rfl,qaz n s 47 (by omega) (by omega)]
    rw [e1] at hlen hw ⊢
    have hlen2:f.length+1<=s.length+1:=by simpa using hlen.2
    have hlp:=qmi n f (q2g s) (by omega) (fun w hm=>⟨by have:=hw w hm;omega,by have:=hw w hm;omega⟩) (by omega) n 0 (Nat.zero_le _) (by omega)
    rw [show ((0:Nat):Int)=(0:Int) from rfl] at hlp
    simp only [Option.bind_some,Bool.not_true,cond_false,hlp,List.drop_zero,e2,e3,Bool.true_and]
    cases ht:q1n (q2g s) with
    | false=>cases anyS (q2j s)<;>rfl
    | true =>
      rw [j61 ht]
      generalize (q2g s).drop 1=d
      cases hf:qv3 d with
      | false=>cases anyS (q2j s)<;>simp
      | true =>
        have n0 : ¬ numOf d=0:=by have:=(j2w hf).1;omega
        cases anyS (q2j s)<;>cases decide (q2j s = [])<;>simp [n0]
theorem qp0 (n:Nat) (s:List UInt8) (hL:s.length<=1000000) : ∀m j:Nat,j<=s.length->j<m->q7l n m s ((j:Int) - 1)=some (if q87 47 (s.take j).reverse = -1 then Sum.inr ((),((),())) else Sum.inl ((s.take (q87 47 (s.take j).reverse).toNat,()),((),())))
  | 0,j,_,h=>absurd h (Nat.not_lt_zero _)
  | m+1,0,_,_=>by
    rw [q8k]
    unfold qgs
    simp [q87]
  | m+1,j+1,hj,h=>by
    rw [q8k]
    unfold qgs
    have e1:((j+1:Nat):Int) - 1=((j:Nat):Int):=by omega
    have ih:=qp0 n s hL m j (by omega) (by omega)
    have w1:IntKind.wrap .i64 (((j:Nat):Int) - 1)=((j:Nat):Int) - 1:=wrap64 (by omega) (by omega)
    have c0:(0:Int)<=((j:Nat):Int):=by omega
    have d1:decide (((s[j].toNat:Nat):Int)=(47:Int))=decide (s[j]=47):=decide_eq_decide.2 (by
      constructor
      · intro h;exact UInt8.toNat_inj.1 (by have e:(47:UInt8).toNat=47:=rfl;rw [e];omega)
      · intro h;rw [h];rfl)
    rw [e1]
    simp only [c0,decide_true,cond_true,q3g (show j<s.length by omega),Option.bind_some,d1,q05,w1,ih,qhq s j (by omega),q87,sub_zero (show j<=s.length by omega)]
    by_cases h0:s[j]=47
    · have l1:(s.take j).reverse.length=j:=by simp;omega
      simp only [h0,decide_true,cond_true,if_true,l1]
      rw [if_neg (by omega),Int.toNat_natCast]
    · simp [h0]
theorem j8h (n:Nat) (s:List UInt8) (hL:s.length<=1000000) (hn:s.length<n):qno n s=some (q2j s):=by
  unfold qno q2j q92
  have:=qp0 n s hL n s.length (Nat.le_refl _) hn
  have w1:IntKind.wrap .i64 (((s.length:Nat):Int) - 1)=((s.length:Nat):Int) - 1:=wrap64 (by omega) (by omega)
  simp only [q05,w1,this,List.take_length]
  by_cases h:q87 47 s.reverse = -1
  · simp [h]
  · simp [h]
theorem j1i (n:Nat) (s:List UInt8) (hL:s.length<=1000) (hn:2000<=n):qg0 n s=some (qce s):=by
  unfold qg0 qce
  rw [j6t n s hL hn]
  cases ho:okS s with
  | false=>rfl
  | true =>
    obtain ⟨f,e1,_,_⟩:=j63 s (qyi ho).1
    have hll:=jco s
    have hlen:=q8a 47 s []
    rw [e1] at hlen
    have hlen2:f.length+1<=s.length+1:=by simpa using hlen.2
    rw [show (47:Int)=(((47:UInt8).toNat:Nat):Int) from rfl,qaz n s 47 (by omega) (by omega),e1]
    have hl2:(f ++ [q2g s]).length=f.length+1:=by simp
    have w1:IntKind.wrap .i64 ((((f ++ [q2g s]).length:Nat):Int) - 1)=((f.length:Nat):Int):=by rw [hl2,wrap64 (by omega) (by omega)];omega
    have hx:q0z (f ++ [q2g s]) ((f.length:Nat):Int)=some (q2g s):=by
      have:=q0x (l:=f ++ [q2g s]) (j:=f.length) (by rw [hl2];omega)
      rw [this];simp
    simp only [Option.bind_some,Bool.not_true,cond_false,q05,w1,hx,qll n (q2g s) (by omega) (by omega),if_true]
    cases ht:q1n (q2g s) with
    | false=>rfl
    | true =>
      have hf:=((qyi ho).2.2 ht).1
      simp only [Bool.not_true,cond_false,j8h n s (by omega) (by omega),qho n (q2g s) (by omega) ht,j61 ht,hf,if_true,Option.bind_some]
theorem jbo (n:Nat) (s:List UInt8) (v:VD) (hL:s.length<=1000) (hn:2000<=n):qmx n s v=some (q3p s v):=by
  unfold qmx q3p
  rw [j1i n s hL hn,qty n v (by omega)]
  simp only [Option.bind_some,qzm]
  cases okS s with
  | false=>rfl
  | true=>cases hc:q1m v with
    | false=>rfl
    | true =>
      have h1:=(q26 hc).1
      simp only [Bool.not_true,cond_false,Bool.true_and]
      by_cases c0:(qce s).2.1=0
      · rw [c0]
        by_cases c1:v.1=0
        · simp [c1]
        · have:decide (v.1=1)=decide (v.1<2):=decide_eq_decide.2 (by omega)
          simp [c1,this]
      · by_cases c1:v.1=(qce s).2.1
        · simp [c0,c1]
        · simp [c0,c1]
end Go.Proofs.YtapfankgdkdkgaaGreatDoor.AM
namespace Go.Proofs.YtapfankgdkdkgaaGreatDoor.AM
open Go.RowKit
set_option linter.unusedVariables false
set_option linter.unusedSimpArgs false
set_option synthInstance.maxSize 100000
set_option synthInstance.maxHeartbeats 0
theorem jwa (x y:VD):(decide (x.1=y.1)&&(decide (x.2.1=y.2.1)&&(decide (x.2.2.1=y.2.2.1)&&(decide (x.2.2.2.1=y.2.2.2.1)&&(decide (x.2.2.2.2=y.2.2.2.2)&&true)))))=decide (x=y):=by
  obtain ⟨x1,x2,x3,x4,x5⟩:=x
  obtain ⟨y1,y2,y3,y4,y5⟩:=y
  simp only [Prod.mk.injEq,Bool.decide_and,Bool.and_true]
theorem jyh (x y:Rq):(decide (x.1=y.1)&&((decide (x.2.1=y.2.1)&&(decide (x.2.2.1=y.2.2.1)&&(decide (x.2.2.2.1=y.2.2.2.1)&&(decide (x.2.2.2.2.1=y.2.2.2.2.1)&&(decide (x.2.2.2.2.2=y.2.2.2.2.2)&&true)))))&&true))=decide (x=y):=by
  rw [jwa]
  obtain ⟨x1,x2⟩:=x
  obtain ⟨y1,y2⟩:=y
  simp only [Prod.mk.injEq,Bool.decide_and,Bool.and_true]
theorem jxi (x y:Sw):(decide (x.1=y.1)&&(decide (x.2=y.2)&&true))=decide (x=y):=by
  obtain ⟨x1,x2⟩:=x
  obtain ⟨y1,y2⟩:=y
  simp only [Prod.mk.injEq,Bool.decide_and,Bool.and_true]
theorem jxz (x y:Sp):((decide (x.1=y.1)&&(decide (x.2.1=y.2.1)&&(decide (x.2.2.1=y.2.2.1)&&(decide (x.2.2.2.1=y.2.2.2.1)&&(decide (x.2.2.2.2.1=y.2.2.2.2.1)&&true)))))&&((decide (x.2.2.2.2.2.1=y.2.2.2.2.2.1)&&(decide (x.2.2.2.2.2.2.1=y.2.2.2.2.2.2.1)&&(decide (x.2.2.2.2.2.2.2.1=y.2.2.2.2.2.2.2.1)&&(decide (x.2.2.2.2.2.2.2.2.1=y.2.2.2.2.2.2.2.2.1)&&(decide (x.2.2.2.2.2.2.2.2.2=y.2.2.2.2.2.2.2.2.2)&&true)))))&&true))=decide (x=y):=by
  obtain ⟨x1,x2,x3,x4,x5,x6,x7,x8,x9,xa⟩:=x
  obtain ⟨y1,y2,y3,y4,y5,y6,y7,y8,y9,ya⟩:=y
  simp only [Prod.mk.injEq,Bool.decide_and,Bool.and_true,Bool.and_assoc]
theorem drop_eq {β:Type} {a b:List β} {j:Nat} (ha:j<a.length) (hb:j<b.length):a.drop j=b.drop j↔a[j]=b[j]/\a.drop (j+1)=b.drop (j+1):=by
  rw [List.drop_eq_getElem_cons ha,List.drop_eq_getElem_cons hb,List.cons.injEq]
theorem qgj (n:Nat) (a b:List Rq) (hl:a.length=b.length) (hL:a.length<=4000000000000000000) : ∀m j:Nat,j<=a.length->a.length - j<m->q5m n m a b (j:Int)=some (if a.drop j=b.drop j then Sum.inr ((),((),())) else Sum.inl ((false,()),((),())))
  | 0,j,_,h=>absurd h (Nat.not_lt_zero _)
  | m+1,j,hj,h=>by
    rw [qh6]
    unfold qks
    by_cases c0:j<a.length
    · have c0':((j:Nat):Int)<((a.length:Nat):Int):=by omega
      have c1:j<b.length:=by omega
      simp only [c0',decide_true,cond_true,q0x c0,q0x c1,Option.bind_some,jyh,q05,q0a (show j<4611686018427387904 by omega),drop_eq c0 c1]
      by_cases he:a[j]=b[j]
      · simp only [he,decide_true,Bool.not_true,cond_false,true_and]
        exact qgj n a b hl hL m (j+1) (by omega) (by omega)
      · simp only [he,decide_false,Bool.not_false,cond_true,false_and,if_false]
    · have c0' : ¬ ((j:Nat):Int)<((a.length:Nat):Int):=by omega
      simp only [c0',decide_false,cond_false]
      rw [List.drop_eq_nil_of_le (show a.length<=j by omega),List.drop_eq_nil_of_le (show b.length<=j by omega),if_pos rfl]
theorem qec (n:Nat) (m1:List UInt8) (g1:List UInt8) (r1:List Rq) (w1:List Sw) (e1:List Rq) (t1:List Sp) (m2:List UInt8) (g2:List UInt8) (r2:List Rq) (w2:List Sw) (e2:List Rq) (t2:List Sp) (hl:w1.length=w2.length) (hL:w1.length<=4000000000000000000) : ∀m j:Nat,j<=w1.length->w1.length - j<m->q5d n m (j:Int) m1 g1 r1 w1 e1 t1 m2 g2 r2 w2 e2 t2=some (if w1.drop j=w2.drop j then Sum.inr ((((),((),())),(((m1,(g1,(r1,(w1,(e1,t1))))),((m2,(g2,(r2,(w2,(e2,t2))))),())),()))) else Sum.inl ((false,()),((),())))
  | 0,j,_,h=>absurd h (Nat.not_lt_zero _)
  | m+1,j,hj,h=>by
    rw [qh2]
    unfold qju
    by_cases c0:j<w1.length
    · have c0':((j:Nat):Int)<((w1.length:Nat):Int):=by omega
      have c1:j<w2.length:=by omega
      simp only [c0',decide_true,cond_true,q0x c0,q0x c1,Option.bind_some,jxi,q05,q0a (show j<4611686018427387904 by omega),drop_eq c0 c1]
      by_cases he:w1[j]=w2[j]
      · simp only [he,decide_true,Bool.not_true,cond_false,true_and]
        exact qec n m1 g1 r1 w1 e1 t1 m2 g2 r2 w2 e2 t2 hl hL m (j+1) (by omega) (by omega)
      · simp only [he,decide_false,Bool.not_false,cond_true,false_and,if_false]
    · have c0' : ¬ ((j:Nat):Int)<((w1.length:Nat):Int):=by omega
      simp only [c0',decide_false,cond_false]
      rw [List.drop_eq_nil_of_le (show w1.length<=j by omega),List.drop_eq_nil_of_le (show w2.length<=j by omega),if_pos rfl]
theorem qed (n:Nat) (m1:List UInt8) (g1:List UInt8) (r1:List Rq) (w1:List Sw) (e1:List Rq) (t1:List Sp) (m2:List UInt8) (g2:List UInt8) (r2:List Rq) (w2:List Sw) (e2:List Rq) (t2:List Sp) (hl:t1.length=t2.length) (hL:t1.length<=4000000000000000000) : ∀m j:Nat,j<=t1.length->t1.length - j<m->q5z n m (j:Int) m1 g1 r1 w1 e1 t1 m2 g2 r2 w2 e2 t2=some (if t1.drop j=t2.drop j then Sum.inr ((),((),())) else Sum.inl ((false,()),((),())))
  | 0,j,_,h=>absurd h (Nat.not_lt_zero _)
  | m+1,j,hj,h=>by
    rw [qhs]
    unfold qjm
    by_cases c0:j<t1.length
    · have c0':((j:Nat):Int)<((t1.length:Nat):Int):=by omega
      have c1:j<t2.length:=by omega
      simp only [c0',decide_true,cond_true,q0x c0,q0x c1,Option.bind_some,jxz,q05,q0a (show j<4611686018427387904 by omega),drop_eq c0 c1]
      by_cases he:t1[j]=t2[j]
      · simp only [he,decide_true,Bool.not_true,cond_false,true_and]
        exact qed n m1 g1 r1 w1 e1 t1 m2 g2 r2 w2 e2 t2 hl hL m (j+1) (by omega) (by omega)
      · simp only [he,decide_false,Bool.not_false,cond_true,false_and,if_false]
    · have c0' : ¬ ((j:Nat):Int)<((t1.length:Nat):Int):=by omega
      simp only [c0',decide_false,cond_false]
      rw [List.drop_eq_nil_of_le (show t1.length<=j by omega),List.drop_eq_nil_of_le (show t2.length<=j by omega),if_pos rfl]
theorem zI:((0:Nat):Int)=(0:Int):=rfl
theorem lenI {β:Type} (a b:List β):decide (((a.length:Nat):Int)=((b.length:Nat):Int))=decide (a.length=b.length):=by
  by_cases h:a.length=b.length
  · rw [decide_eq_true h,decide_eq_true (by omega)]
  · rw [decide_eq_false h,decide_eq_false (by omega)]
theorem qbz (n:Nat) (a b:List Rq) (h:a.length<=1000000) (hn:1000000<n):q8s n a b=some (decide (a=b)):=by
  unfold q8s
  by_cases hl:a.length=b.length
  · have:=qgj n a b hl (by omega) n 0 (Nat.zero_le _) (by omega)
    rw [zI,List.drop_zero,List.drop_zero] at this
    simp only [lenI,hl,decide_true,Bool.not_true,cond_false,this,Option.bind_some]
    by_cases he:a=b<;>simp [he]
  · have he:a≠b:=fun h=>hl (by rw [h])
    simp only [lenI,hl,decide_false,Bool.not_false,cond_true,decide_eq_false he]
def ML (k:Nat) (m:MD):Prop:=m.2.2.1.length<=k/\m.2.2.2.1.length<=k/\m.2.2.2.2.1.length<=k/\m.2.2.2.2.2.length<=k
theorem j47 (n:Nat) (x y:MD) (h:ML 1000000 x) (hn:1000000<n):qg4 n x y=some (decide (x=y)):=by
  obtain ⟨m1,g1,r1,w1,e1,t1⟩:=x
  obtain ⟨m2,g2,r2,w2,e2,t2⟩:=y
  obtain ⟨h1,h2,h3,h4⟩:=h
  simp only at h1 h2 h3 h4
  unfold qg4
  simp only [qbz n r1 r2 h1 hn,qbz n e1 e2 h3 hn,Option.bind_some,lenI,Prod.mk.injEq,Bool.decide_and]
  by_cases hm:m1=m2
  · by_cases hg:g1=g2
    · by_cases hr:r1=r2
      · by_cases he:e1=e2
        · by_cases hlw:w1.length=w2.length
          · by_cases hlt:t1.length=t2.length
            · have a1:=qec n m1 g1 r1 w1 e1 t1 m2 g2 r2 w2 e2 t2 hlw (by omega) n 0 (Nat.zero_le _) (by omega)
              have a2:=qed n m1 g1 r1 w1 e1 t1 m2 g2 r2 w2 e2 t2 hlt (by omega) n 0 (Nat.zero_le _) (by omega)
              rw [zI,List.drop_zero,List.drop_zero] at a1 a2
              simp only [hm,hg,hr,he,hlw,hlt,decide_true,Bool.not_true,cond_false,Bool.true_and]
              rw [hm,hg,hr,he] at a1 a2
              rw [a1]
              by_cases hw:w1=w2
              · rw [if_pos hw]
                simp only [Option.bind_some,Sum.elim_inr]
                rw [a2]
                by_cases ht:t1=t2<;>simp [hw,ht]
              · rw [if_neg hw];simp [hw]
            · have:t1≠t2:=fun h=>hlt (by rw [h])
              simp [hm,hg,hr,he,hlw,hlt,this]
          · have:w1≠w2:=fun h=>hlw (by rw [h])
            simp [hm,hg,hr,he,hlw,this]
        · simp [hm,hg,hr,he]
      · simp [hm,hg,hr]
    · simp [hm,hg]
  · simp [hm]
def j6m (q:Rq):Bool:=decide (q.1.length<=200)&&(decide (q.2.2.2.2.1.length<=200)&&decide (q.2.2.2.2.2.length<=200))
theorem leI (a b:Nat):decide (((a:Nat):Int)<=((b:Nat):Int))=decide (a<=b):=by
  by_cases h:a<=b
  · rw [decide_eq_true h,decide_eq_true (by omega)]
  · rw [decide_eq_false h,decide_eq_false (by omega)]
theorem qa4 (n:Nat) (q:Rq):q5k n q=some (j6m q):=by
  unfold q5k j6m
  rw [show decide ((((q.1.length:Nat):Int))<=200)=decide (q.1.length<=200) from leI _ 200,show decide ((((q.2.2.2.2.1.length:Nat):Int))<=200)=decide (q.2.2.2.2.1.length<=200) from leI _ 200,show decide ((((q.2.2.2.2.2.length:Nat):Int))<=200)=decide (q.2.2.2.2.2.length<=200) from leI _ 200]
  cases decide (q.1.length<=200)<;>cases decide (q.2.2.2.2.1.length<=200)<;>rfl
def smW (x:Sw):Bool:=decide (x.1.length+x.2.length<=400)
def smT (x:Sp):Bool:=j6m ([],jiz x)&&j6m ([],qtd x)
theorem sumI (a b k:Nat) (ha:a<=140737488355328) (hb:b<=140737488355328):decide (((k:Nat):Int)<IntKind.wrap .i64 (((a:Nat):Int)+((b:Nat):Int))) = !decide (a+b<=k):=by
  rw [wrap64 (by omega) (by omega)]
  by_cases h:a+b<=k
  · rw [decide_eq_true h,decide_eq_false (by omega)];rfl
  · rw [decide_eq_false h,decide_eq_true (by omega)];rfl
theorem qlp (n:Nat) (m1 g1:List UInt8) (r1:List Rq) (w1:List Sw) (e1:List Rq) (t1:List Sp) (hL:r1.length<=4000000000000000000) : ∀m j:Nat,j<=r1.length->r1.length - j<m->q4j n m (j:Int) m1 g1 r1 w1 e1 t1=some (if (r1.drop j).all j6m=true then Sum.inr ((((),()),(((m1,(g1,(r1,(w1,(e1,t1))))),()),()))) else Sum.inl ((false,()),((),())))
  | 0,j,_,h=>absurd h (Nat.not_lt_zero _)
  | m+1,j,hj,h=>by
    rw [qf8]
    unfold qf5
    by_cases c0:j<r1.length
    · have c0':((j:Nat):Int)<((r1.length:Nat):Int):=by omega
      have ih:=qlp n m1 g1 r1 w1 e1 t1 hL m (j+1) (by omega) (by omega)
      rw [List.drop_eq_getElem_cons c0,List.all_cons]
      simp only [c0',decide_true,cond_true,q0x c0,Option.bind_some,q05,q0a (show j<4611686018427387904 by omega),qa4]
      cases j6m r1[j] with
      | false=>rfl
      | true =>
        simp only [Bool.not_true,cond_false,Bool.true_and]
        exact ih
    · have c0' : ¬ ((j:Nat):Int)<((r1.length:Nat):Int):=by omega
      simp only [c0',decide_false,cond_false]
      rw [List.drop_eq_nil_of_le (show r1.length<=j by omega)]
      rfl
theorem qlq (n:Nat) (m1 g1:List UInt8) (r1:List Rq) (w1:List Sw) (e1:List Rq) (t1:List Sp) (hL:e1.length<=4000000000000000000) : ∀m j:Nat,j<=e1.length->e1.length - j<m->q4i n m (j:Int) m1 g1 r1 w1 e1 t1=some (if (e1.drop j).all j6m=true then Sum.inr ((((),()),(((m1,(g1,(r1,(w1,(e1,t1))))),()),()))) else Sum.inl ((false,()),((),())))
  | 0,j,_,h=>absurd h (Nat.not_lt_zero _)
  | m+1,j,hj,h=>by
    rw [qfg]
    unfold qfn
    by_cases c0:j<e1.length
    · have c0':((j:Nat):Int)<((e1.length:Nat):Int):=by omega
      have ih:=qlq n m1 g1 r1 w1 e1 t1 hL m (j+1) (by omega) (by omega)
      rw [List.drop_eq_getElem_cons c0,List.all_cons]
      simp only [c0',decide_true,cond_true,q0x c0,Option.bind_some,q05,q0a (show j<4611686018427387904 by omega),qa4]
      cases j6m e1[j] with
      | false=>rfl
      | true =>
        simp only [Bool.not_true,cond_false,Bool.true_and]
        exact ih
    · have c0' : ¬ ((j:Nat):Int)<((e1.length:Nat):Int):=by omega
      simp only [c0',decide_false,cond_false]
      rw [List.drop_eq_nil_of_le (show e1.length<=j by omega)]
      rfl
theorem qlv (n:Nat) (m1 g1:List UInt8) (r1:List Rq) (w1:List Sw) (e1:List Rq) (t1:List Sp) (hL:w1.length<=4000000000000000000) (hW : ∀x∈w1,x.1.length<=140737488355328/\x.2.length<=140737488355328) : ∀m j:Nat,j<=w1.length->w1.length - j<m->q4m n m (j:Int) m1 g1 r1 w1 e1 t1=some (if (w1.drop j).all smW=true then Sum.inr ((((),()),(((m1,(g1,(r1,(w1,(e1,t1))))),()),()))) else Sum.inl ((false,()),((),())))
  | 0,j,_,h=>absurd h (Nat.not_lt_zero _)
  | m+1,j,hj,h=>by
    rw [qfo]
    unfold qft
    by_cases c0:j<w1.length
    · have c0':((j:Nat):Int)<((w1.length:Nat):Int):=by omega
      have ih:=qlv n m1 g1 r1 w1 e1 t1 hL hW m (j+1) (by omega) (by omega)
      rw [List.drop_eq_getElem_cons c0,List.all_cons]
      have hx:=hW w1[j] (List.getElem_mem c0)
      have hs:=sumI w1[j].1.length w1[j].2.length 400 hx.1 hx.2
      rw [show ((400:Nat):Int)=(400:Int) from rfl] at hs
      rw [show decide (w1[j].1.length+w1[j].2.length<=400)=smW w1[j] from rfl] at hs
      simp only [c0',decide_true,cond_true,q0x c0,Option.bind_some,q05,q0a (show j<4611686018427387904 by omega),hs]
      cases smW w1[j] with
      | false=>rfl
      | true =>
        simp only [Bool.not_true,cond_false,Bool.true_and]
        exact ih
    · have c0' : ¬ ((j:Nat):Int)<((w1.length:Nat):Int):=by omega
      simp only [c0',decide_false,cond_false]
      rw [List.drop_eq_nil_of_le (show w1.length<=j by omega)]
      rfl
theorem ql9 (n:Nat) (m1 g1:List UInt8) (r1:List Rq) (w1:List Sw) (e1:List Rq) (t1:List Sp) (hL:t1.length<=4000000000000000000) : ∀m j:Nat,j<=t1.length->t1.length - j<m->q4r n m (j:Int) m1 g1 r1 w1 e1 t1=some (if (t1.drop j).all smT=true then Sum.inr ((),((),())) else Sum.inl ((false,()),((),())))
  | 0,j,_,h=>absurd h (Nat.not_lt_zero _)
  | m+1,j,hj,h=>by
    rw [qfd]
    unfold qev
    by_cases c0:j<t1.length
    · have c0':((j:Nat):Int)<((t1.length:Nat):Int):=by omega
      have ih:=ql9 n m1 g1 r1 w1 e1 t1 hL m (j+1) (by omega) (by omega)
      rw [List.drop_eq_getElem_cons c0,List.all_cons]
      have f1:q5k n (([]:List UInt8),(t1[j].1,(t1[j].2.1,(t1[j].2.2.1,(t1[j].2.2.2.1,t1[j].2.2.2.2.1)))))=some (j6m ([],jiz t1[j])):=qa4 n ([],jiz t1[j])
      have f2:q5k n (([]:List UInt8),t1[j].2.2.2.2.2)=some (j6m ([],qtd t1[j])):=qa4 n ([],qtd t1[j])
      simp only [c0',decide_true,cond_true,q0x c0,Option.bind_some,q05,q0a (show j<4611686018427387904 by omega),f1,f2]
      unfold smT;cases j6m ([],jiz t1[j]) with
      | false=>rfl
      | true =>
        cases j6m ([],qtd t1[j]) with
        | false=>rfl
        | true =>
          simp only [Bool.not_true,cond_false,Bool.true_and]
          exact ih
    · have c0' : ¬ ((j:Nat):Int)<((t1.length:Nat):Int):=by omega
      simp only [c0',decide_false,cond_false]
      rw [List.drop_eq_nil_of_le (show t1.length<=j by omega)]
      rfl
def jec (m:MD):Bool:=decide (m.1.length+m.2.1.length<=400)&&(decide (m.2.2.1.length<=30)&&(decide (m.2.2.2.1.length<=30)&&(decide (m.2.2.2.2.1.length<=30)&&(decide (m.2.2.2.2.2.length<=30)&&(m.2.2.1.all j6m&&(m.2.2.2.2.1.all j6m&&(m.2.2.2.1.all smW&&m.2.2.2.2.2.all smT)))))))
theorem gtI {β:Type} (a:List β) (k:Nat):decide (((k:Nat):Int)<((a.length:Nat):Int)) = !decide (a.length<=k):=by
  by_cases h:a.length<=k
  · rw [decide_eq_true h,decide_eq_false (by omega)];rfl
  · rw [decide_eq_false h,decide_eq_true (by omega)];rfl
theorem qzc (n:Nat) (m:MD) (h1:m.1.length<=140737488355328) (h2:m.2.1.length<=140737488355328) (hW : ∀x∈m.2.2.2.1,x.1.length<=140737488355328/\x.2.length<=140737488355328) (hn:1000<n):qcn n m=some (jec m):=by
  obtain ⟨m1,g1,r1,w1,e1,t1⟩:=m
  simp only at h1 h2 hW
  unfold qcn jec
  have s1:=sumI m1.length g1.length 400 h1 h2
  rw [show ((400:Nat):Int)=(400:Int) from rfl] at s1
  have g1':=gtI r1 30
  have g2':=gtI w1 30
  have g3':=gtI e1 30
  have g4':=gtI t1 30
  rw [show ((30:Nat):Int)=(30:Int) from rfl] at g1' g2' g3' g4'
  simp only [q05,s1,g1',g2',g3',g4']
  by_cases a0:m1.length+g1.length<=400
  · by_cases a1:r1.length<=30
    · by_cases a2:w1.length<=30
      · by_cases a3:e1.length<=30
        · by_cases a4:t1.length<=30
          · have l0:=qlp n m1 g1 r1 w1 e1 t1 (by omega) n 0 (Nat.zero_le _) (by omega)
            have l1:=qlq n m1 g1 r1 w1 e1 t1 (by omega) n 0 (Nat.zero_le _) (by omega)
            have l2:=qlv n m1 g1 r1 w1 e1 t1 (by omega) hW n 0 (Nat.zero_le _) (by omega)
            have l3:=ql9 n m1 g1 r1 w1 e1 t1 (by omega) n 0 (Nat.zero_le _) (by omega)
            rw [zI,List.drop_zero] at l0 l1 l2 l3
            simp only [a0,a1,a2,a3,a4,decide_true,Bool.not_true,cond_false,Bool.true_and,l0]
            cases r1.all j6m with
            | false=>rfl
            | true =>
              simp only [if_true,Option.bind_some,Sum.elim_inr,l1,Bool.true_and]
              cases e1.all j6m with
              | false=>rfl
              | true =>
                simp only [if_true,Option.bind_some,Sum.elim_inr,l2,Bool.true_and]
                cases w1.all smW with
                | false=>rfl
                | true =>
                  simp only [if_true,Option.bind_some,Sum.elim_inr,l3,Bool.true_and]
                  cases t1.all smT<;>rfl
          · simp [a0,a1,a2,a3,a4]
        · simp [a0,a1,a2,a3]
      · simp [a0,a1,a2]
    · simp [a0,a1]
  · simp [a0]
theorem qe7 (n:Nat) (m1 g1:List UInt8) (r1:List Rq) (w1:List Sw) (e1:List Rq) (t1:List Sp) (b1 b2 m2 g2:List UInt8) (r2 e2:List Rq) (hL:w1.length<=1000000) : ∀(m j:Nat) (out:List Sw),j<=w1.length->w1.length - j<m->out.length=j->q5r n m (j:Int) m1 g1 r1 w1 e1 t1 b1 b2 m2 g2 r2 e2 out=some ((((),((),((),()))),(((m1,(g1,(r1,(w1,(e1,t1))))),((b1,(b2,((),((),((),()))))),((m2,(g2,(r2,((),(e2,()))))),()))),(out++w1.drop j,()))))
  | 0,j,_,_,h,_=>absurd h (Nat.not_lt_zero _)
  | m+1,j,out,hj,h,ho=>by
    rw [qij]
    unfold qkm
    by_cases c0:j<w1.length
    · have c0':((j:Nat):Int)<((w1.length:Nat):Int):=by omega
      have a1:q4q 32 out [w1[j]]=some (out ++ [w1[j]]):=q7c (by simp;omega)
      simp only [c0',decide_true,cond_true,q0x c0,Option.bind_some,a1,q05,q0a (show j<4611686018427387904 by omega)]
      rw [qe7 n m1 g1 r1 w1 e1 t1 b1 b2 m2 g2 r2 e2 hL m (j+1) _ (by omega) (by omega) (by simp;omega),List.drop_eq_getElem_cons c0]
      simp only [List.append_assoc,List.singleton_append]
    · have c0' : ¬ ((j:Nat):Int)<((w1.length:Nat):Int):=by omega
      simp only [c0',decide_false,cond_false]
      rw [List.drop_eq_nil_of_le (show w1.length<=j by omega),List.append_nil]
theorem qei (n:Nat) (m1 g1:List UInt8) (r1:List Rq) (w1:List Sw) (e1:List Rq) (t1:List Sp) (b1 b2 m2 g2:List UInt8) (r2 e2:List Rq) (ws:List Sw) (hL:t1.length<=1000000) : ∀(m j:Nat) (out:List Sp),j<=t1.length->t1.length - j<m->out.length=j->q5n n m (j:Int) m1 g1 r1 w1 e1 t1 b1 b2 m2 g2 r2 e2 ws out=some ((((),((),())),(((b1,(b2,((),((),((),()))))),((m2,(g2,(r2,((),(e2,()))))),())),(ws,(out++t1.drop j,())))))
  | 0,j,_,_,h,_=>absurd h (Nat.not_lt_zero _)
  | m+1,j,out,hj,h,ho=>by
    rw [qgg]
    unfold qk2
    by_cases c0:j<t1.length
    · have c0':((j:Nat):Int)<((t1.length:Nat):Int):=by omega
      have a1:q4q 112 out [t1[j]]=some (out ++ [t1[j]]):=q7c (by simp;omega)
      simp only [c0',decide_true,cond_true,q0x c0,Option.bind_some,a1,q05,q0a (show j<4611686018427387904 by omega)]
      rw [qei n m1 g1 r1 w1 e1 t1 b1 b2 m2 g2 r2 e2 ws hL m (j+1) _ (by omega) (by omega) (by simp;omega),List.drop_eq_getElem_cons c0]
      simp only [List.append_assoc,List.singleton_append]
    · have c0' : ¬ ((j:Nat):Int)<((t1.length:Nat):Int):=by omega
      simp only [c0',decide_false,cond_false]
      rw [List.drop_eq_nil_of_le (show t1.length<=j by omega),List.append_nil]
theorem qlm (n:Nat) (m:MD) (h:ML 1000000 m) (hn:1000000<n):qbw n m=some m:=by
  obtain ⟨m1,g1,r1,w1,e1,t1⟩:=m
  obtain ⟨h1,h2,h3,h4⟩:=h
  simp only at h1 h2 h3 h4
  unfold qbw
  have l0:=qe7 n m1 g1 r1 w1 e1 t1 [] [] m1 g1 r1 e1 h2 n 0 [] (Nat.zero_le _) (by omega) rfl
  have l1:=qei n m1 g1 r1 w1 e1 t1 [] [] m1 g1 r1 e1 w1 h4 n 0 [] (Nat.zero_le _) (by omega) rfl
  rw [zI,List.drop_zero,List.nil_append] at l0 l1
  simp only [l0,l1,Option.bind_some]
end Go.Proofs.YtapfankgdkdkgaaGreatDoor.AM
