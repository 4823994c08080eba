
import Derived.Test.YthpgnliicpejoaaGreatDoorVz23
import Derived.Test.YthpgnliicpejoaaGreatDoorVz21
namespace Go.Proofs.YthpgnliicpejoaaGreatDoor.AM
open Go.RowKit
set_option linter.unusedVariables false
set_option linter.unusedSimpArgs false
theorem jbi (l:List FD) (j:Nat) (h:j<l.length) (h0:0<j):qd7 (l.drop (j - 1))=(ltS (l[j - 1]'(by omega)).1 l[j].1&&qd7 (l.drop j)):=by
  have e1:l.drop (j - 1)=l[j - 1]::l.drop j:=by
    have:=List.drop_eq_getElem_cons (l:=l) (i:=j - 1) (by omega)
    rw [this];congr 2;omega
  have e2:l.drop j=l[j]::l.drop (j+1):=List.drop_eq_getElem_cons h
  rw [e1,e2,qd7]
theorem qn8 (n:Nat) (l:List FD) (hL:l.length<=1000000) : ∀m j:Nat,j<=l.length->l.length - j<m->q7q n m l l ((l.length:Nat):Int) (j:Int)=some (if ((l.drop j).all okF&&qd7 (l.drop (j - 1)))=true then Sum.inr ((),((),())) else Sum.inl ((false,()),((),())))
  | 0,j,_,h=>absurd h (Nat.not_lt_zero _)
  | m+1,j,hj,h=>by
    rw [qfk]
    unfold qrm
    by_cases c0:j<l.length
    · have c0':((j:Nat):Int)<((l.length:Nat):Int):=by omega
      have ih:=qn8 n l hL m (j+1) (by omega) (by omega)
      have hd:l.drop j=l[j]::l.drop (j+1):=(List.drop_eq_getElem_cons c0)
      have e4:qef l[j].1=some (q4m l[j].1):=rfl
      have eo:(l.drop j).all okF=((q4m l[j].1&&decide (l[j].2.length<=4096))&&(l.drop (j+1)).all okF):=by rw [hd,List.all_cons];rfl
      rw [eo]
      simp only [c0',decide_true,cond_true,q49 c0,Option.bind_some,e4,q1i,q24 (show j<4611686018427387904 by omega),ih,Nat.add_sub_cancel]
      cases q4m l[j].1 with
      | false=>simp
      | true =>
        by_cases c1:l[j].2.length<=4096
        · have c1' : ¬ (4096:Int)<((l[j].2.length:Nat):Int):=by omega
          by_cases c2:0<j
          · have c2':(0:Int)<((j:Nat):Int):=by omega
            have w1:IntKind.wrap .i64 (((j:Nat):Int) - 1)=((j - 1:Nat):Int):=by rw [wrap64 (by omega) (by omega)];omega
            rw [jbi l j c0 c2]
            simp only [c1,c1',c2',decide_true,decide_false,cond_true,cond_false,Bool.not_true,w1,q49 (show j - 1<l.length by omega),Option.bind_some,Bool.true_and]
            cases ltS (l[j - 1]'(by omega)).1 l[j].1 with
            | true=>simp only [Bool.not_true,cond_false,Bool.true_and]
            | false=>simp
          · have c2' : ¬ (0:Int)<((j:Nat):Int):=by omega
            have hj0:j=0:=by omega
            subst hj0
            simp only [c1,c1',decide_true,decide_false,cond_true,cond_false,Bool.not_true,Bool.true_and,Int.lt_irrefl,Int.natCast_zero,Nat.zero_sub]
        · have c1':(4096:Int)<((l[j].2.length:Nat):Int):=by omega
          simp [c1,c1']
    · have c0' : ¬ ((j:Nat):Int)<((l.length:Nat):Int):=by omega
      have e1:l.drop j = []:=List.drop_eq_nil_of_le (by omega)
      have e2:qd7 (l.drop (j - 1))=true:=by
        by_cases hz:l.length=0
        · rw [List.drop_eq_nil_of_le (by omega)];rfl
        · have:=List.drop_eq_getElem_cons (l:=l) (i:=j - 1) (by omega)
          rw [this,show j - 1+1=j from by omega,e1];rfl
      simp [c0',e1,e2]
theorem qhd (n:Nat) (l:List FD) (hL:l.length<=1000000) (hn:l.length<n):qoj n l=some (q8l l):=by
  unfold qoj q8l
  have:=qn8 n l hL n 0 (Nat.zero_le _) (by omega)
  rw [show ((0:Nat):Int)=(0:Int) from rfl] at this
  by_cases c:l.length<=40
  · have c' : ¬ (40:Int)<((l.length:Nat):Int):=by omega
    simp only [c,c',decide_true,decide_false,cond_false,this,Option.bind_some,List.drop_zero,Nat.zero_sub,Bool.true_and]
    cases (l.all okF&&qd7 l)<;>rfl
  · have c':(40:Int)<((l.length:Nat):Int):=by omega
    simp [c,c']
theorem eq_FD (x y:FD):(decide (x.1=y.1)&&(decide (x.2=y.2)&&true))=decide (x=y):=by
  rw [Bool.and_true,<-Bool.decide_and];exact decide_eq_decide.2 Prod.ext_iff.symm
theorem qga (n:Nat) (l k:List FD) (hk:l.length=k.length) (hL:l.length<=1000000) : ∀m j:Nat,j<=l.length->l.length - j<m->q59 n m l k (j:Int)=some (if l.drop j=k.drop j then Sum.inr ((),((),())) else Sum.inl ((false,()),((),())))
  | 0,j,_,h=>absurd h (Nat.not_lt_zero _)
  | m+1,j,hj,h=>by
    rw [qcg]
    unfold qg0
    by_cases c0:j<l.length
    · have c0':((j:Nat):Int)<((l.length:Nat):Int):=by omega
      have ih:=qga n l k hk hL m (j+1) (by omega) (by omega)
      have h1:l.drop j=l[j]::l.drop (j+1):=(List.drop_eq_getElem_cons c0)
      have h2:k.drop j=k[j]::k.drop (j+1):=(List.drop_eq_getElem_cons (by omega))
      simp only [c0',decide_true,cond_true,q49 c0,q49 (show j<k.length by omega),Option.bind_some,q1i,q24 (show j<4611686018427387904 by omega),ih,eq_FD,h1,h2,List.cons.injEq]
      by_cases c1:l[j]=k[j]
      · simp [c1]
      · simp [c1]
    · have c0' : ¬ ((j:Nat):Int)<((l.length:Nat):Int):=by omega
      have e1:l.drop j = []:=List.drop_eq_nil_of_le (by omega)
      have e2:k.drop j = []:=List.drop_eq_nil_of_le (by omega)
      simp [c0',e1,e2]
theorem qsr (n:Nat) (l k:List FD) (hL:l.length<=1000000) (hn:l.length<n):q9k n l k=some (decide (l=k)):=by
  unfold q9k
  by_cases hk:l.length=k.length
  · have:=qga n l k hk hL n 0 (Nat.zero_le _) (by omega)
    rw [show ((0:Nat):Int)=(0:Int) from rfl,List.drop_zero,List.drop_zero] at this
    simp only [<-hk,decide_true,Bool.not_true,cond_false,this,Option.bind_some]
    by_cases h:l=k
    · simp [h]
    · simp [h]
  · have c : ¬ ((l.length:Nat):Int)=((k.length:Nat):Int):=by omega
    have h : ¬ l=k:=fun h=>hk (by rw [h])
    simp [c,h]
theorem qxh {i:Nat} (h:i+1<=9223372036854775807):IntKind.wrap .i64 ((i:Int)+1)=((i+1:Nat):Int):=by rw [wrap64 (by omega) (by omega)];rfl
theorem qjh (n:Nat) (l:List OD) (hL:l.length<=9223372036854775807) : ∀m j:Nat,j<=l.length->l.length - j<m->q6e n m l (j:Int)=some (if ((l.drop j).all fun o=>decide (o.2.1.length<=200)&&decide (o.2.2.length<=5000))=true then Sum.inr ((l,()),((),())) else Sum.inl ((false,()),((),())))
  | 0,j,_,h=>absurd h (Nat.not_lt_zero _)
  | m+1,j,hj,h=>by
    rw [qda]
    unfold qlu
    by_cases c0:j<l.length
    · have c0':((j:Nat):Int)<((l.length:Nat):Int):=by omega
      have ih:=qjh n l hL m (j+1) (by omega) (by omega)
      have h1:l.drop j=l[j]::l.drop (j+1):=(List.drop_eq_getElem_cons c0)
      simp only [c0',decide_true,cond_true,q49 c0,Option.bind_some,q1i,qxh (show j+1<=9223372036854775807 by omega),ih,h1,List.all_cons]
      by_cases c1:l[j].2.1.length<=200
      · have c1' : ¬ (200:Int)<((l[j].2.1.length:Nat):Int):=by omega
        by_cases c2:l[j].2.2.length<=5000
        · have c2' : ¬ (5000:Int)<((l[j].2.2.length:Nat):Int):=by omega
          simp only [c1,c1',c2,c2',decide_true,decide_false,cond_false,Bool.true_and]
        · have c2':(5000:Int)<((l[j].2.2.length:Nat):Int):=by omega
          simp [c1,c1',c2,c2']
      · have c1':(200:Int)<((l[j].2.1.length:Nat):Int):=by omega
        simp [c1,c1']
    · have c0' : ¬ ((j:Nat):Int)<((l.length:Nat):Int):=by omega
      have e1:l.drop j = []:=List.drop_eq_nil_of_le (by omega)
      simp [c0',e1]
theorem qz7 (n:Nat) (l:List OD) (hL:l.length<=9223372036854775807) (hn:l.length<n):qmb n l=some (jc6 l):=by
  unfold qmb jc6
  have:=qjh n l hL n 0 (Nat.zero_le _) (by omega)
  rw [show ((0:Nat):Int)=(0:Int) from rfl,List.drop_zero] at this
  rw [this]
  have hc:decide (((l.length:Nat):Int)<=(100:Int))=decide (l.length<=100):=decide_eq_decide.2 (by omega)
  cases (l.all fun o=>decide (o.2.1.length<=200)&&decide (o.2.2.length<=5000)) with
  | true=>simp only [if_true,Option.bind_some,Sum.elim_inr,hc,Bool.true_and]
  | false=>simp
theorem qss (n:Nat) (o:OD):qk3 n o=some (q8k o):=by
  have e4:qef o.2.1=some (q4m o.2.1):=rfl
  unfold qk3 q8k
  simp only [e4,Option.bind_some]
  have hc:decide ((4096:Int)<((o.2.2.length:Nat):Int))=decide (4096<o.2.2.length):=decide_eq_decide.2 (by omega)
  rw [hc]
  cases q4m o.2.1 with
  | false=>rfl
  | true =>
    by_cases h:4096<o.2.2.length
    · cases o.1 with
      | false=>simp [h]
      | true =>
                by_cases h2:o.2.2 = []
                · simp [h2]
                · simp [h,h2]
    · cases o.1 with
      | false=>simp [h]
      | true =>
                by_cases h2:o.2.2 = []
                · simp [h2]
                · simp [h,h2]
end Go.Proofs.YthpgnliicpejoaaGreatDoor.AM
namespace Go.Proofs.YthpgnliicpejoaaGreatDoor.AM
open Go.RowKit
set_option linter.unusedVariables false
set_option linter.unusedSimpArgs false
theorem j40 (m:Nat):q1u m [] [] = []:=by cases m<;>rfl
theorem jbv {ops:List OD} (h:ops.length<=1000000) (r:OD):q94 40 ops [r]=some (ops ++ [r]):=if_pos (by simp;omega)
theorem qjz {β:Type} (x:β) (a:List β):q2v (x::a) (0:Int)=some x:=q49 (l:=x::a) (j:=0) (by simp)
theorem qmd {β:Type} (x:β) (a:List β):q4a (x::a) (1:Int) (((x::a).length:Nat):Int)=some a:=by
  have:=sub_le (l:=x::a) (a:=1) (b:=(x::a).length) (by simp) (Nat.le_refl _)
  rw [show ((1:Nat):Int)=(1:Int) from rfl] at this
  rw [this];simp
theorem qrd {β:Type} (x:β) (a:List β):decide ((0:Int)<(((x::a).length:Nat):Int))=true:=by rw [decide_eq_true_eq,List.length_cons];omega
theorem jaj {β:Type} (x:β) (a:List β):decide ((((x::a).length:Nat):Int)=(0:Int))=false:=by rw [decide_eq_false_iff_not,List.length_cons];omega
theorem j2o {β:Type} : decide ((0:Int)<((([]:List β).length:Nat):Int))=false:=rfl
theorem ja3 {β:Type} : decide (((([]:List β).length:Nat):Int)=(0:Int))=true:=rfl
theorem q3u (n:Nat) : ∀(m:Nat) (a b:List FD) (ops:List OD),a.length+b.length<m->ops.length+a.length+b.length<=1000000->q6m n m a b ops=some (((),()),((),(ops++q1u (a.length+b.length) a b,())))
  | 0,a,b,ops,h,_=>absurd h (Nat.not_lt_zero _)
  | m+1,[],[],ops,h,ho=>by
    rw [q38]
    unfold q7s
    simp only [j2o,cond_false,j40,List.append_nil]
  | m+1,x::a,[],ops,h,ho=>by
    simp only [List.length_cons,List.length_nil] at h ho
    rw [q38]
    unfold q7s
    have ih:=q3u n m a [] (ops ++ [(true,(x.1,[]))]) (by simp;omega) (by simp;omega)
    simp only [qrd,ja3,cond_true,qjz,jbv (show ops.length<=1000000 by omega),qmd,Option.bind_some,ih]
    simp [q1u]
  | m+1,[],y::b,ops,h,ho=>by
    simp only [List.length_cons,List.length_nil] at h ho
    rw [q38]
    unfold q7s
    have hp:q51 n y=some (false,y):=rfl
    have ih:=q3u n m [] b (ops ++ [(false,y)]) (by simp;omega) (by simp;omega)
    simp only [j2o,ja3,qrd,jaj,cond_true,cond_false,qjz,jbv (show ops.length<=1000000 by omega),qmd,Option.bind_some,hp,ih]
    simp [q1u]
  | m+1,x::a,y::b,ops,h,ho=>by
    simp only [List.length_cons] at h ho
    rw [q38]
    unfold q7s
    have hp:q51 n y=some (false,y):=rfl
    have e0:(x::a).length+(y::b).length=(a.length+(y::b).length)+1:=by simp;omega
    have e1:q1u (a.length+(y::b).length) (x::a) b=q1u ((x::a).length+b.length) (x::a) b:=by
      rw [show a.length+(y::b).length=(x::a).length+b.length from by simp;omega]
    have e2:q1u (a.length+(y::b).length) a b=q1u (a.length+b.length) a b:=qyt _ _ _ (by simp)
    have d:q1u ((x::a).length+(y::b).length) (x::a) (y::b)=if ltS x.1 y.1 then (true,(x.1,[]))::q1u (a.length+(y::b).length) a (y::b) else if ltS y.1 x.1 then (false,y)::q1u ((x::a).length+b.length) (x::a) b else if x.2=y.2 then q1u (a.length+b.length) a b else (false,y)::q1u (a.length+b.length) a b:=by
      rw [e0,q1u,e1,e2]
    rw [d]
    have i1:=q3u n m a (y::b) (ops ++ [(true,(x.1,[]))]) (by simp;omega) (by simp;omega)
    have i2:=q3u n m (x::a) b (ops ++ [(false,y)]) (by simp;omega) (by simp;omega)
    have i3:=q3u n m a b (ops ++ [(false,y)]) (by omega) (by simp;omega)
    have i4:=q3u n m a b ops (by omega) (by omega)
    simp only [qrd,jaj,cond_true,cond_false,qjz,jbv (show ops.length<=1000000 by omega),qmd,Option.bind_some,hp,i1,i2,i3,i4]
    cases ltS x.1 y.1 with
    | true=>simp
    | false=>cases ltS y.1 x.1 with
      | true=>simp
      | false =>
                 by_cases hd:x.2=y.2
                 · simp [hd]
                 · simp [hd]
theorem qxg (n:Nat) (a b:List FD) (ha:a.length<=100000) (hb:b.length<=100000) (hn:a.length+b.length<n):qkc n a b=some (q3z a b):=by
  unfold qkc q3z
  rw [qhd n a (by omega) (by omega),qhd n b (by omega) (by omega)]
  have:=q3u n n a b [] hn (by simp;omega)
  simp only [this,Option.bind_some]
  cases q8l a<;>cases q8l b<;>rfl
end Go.Proofs.YthpgnliicpejoaaGreatDoor.AM
namespace Go.Proofs.YthpgnliicpejoaaGreatDoor.AM
open Go.RowKit
set_option linter.unusedVariables false
set_option linter.unusedSimpArgs false
theorem jhj {s t:List UInt8} (h:s.length+t.length<=9223372036854775807):jat s t=some (s++t):=if_pos h
theorem shr8 (k:Nat):jai .i64 ((k:Nat):Int) (8:Int)=some ((k / 256:Nat):Int):=by
  unfold jai;rw [if_pos (by decide)]
  have e:(2:Int) ^ (min (8:Int).toNat (IntKind.bits .i64))=256:=by decide
  rw [e,Int.fdiv_eq_ediv_of_nonneg _ (by decide)];rfl
theorem jhh (k:Nat):b8 ((k:Nat):Int)=b8 ((k % 256:Nat):Int):=by
  unfold b8
  rw [IntKind.wrap_u8,IntKind.wrap_u8]
  congr 2;omega
theorem j1o (n:Nat) (o:OD) (h1:o.2.1.length<=1000000) (h2:o.2.2.length<=1000000):j2n n o=some (q5f o):=by
  unfold j2n q5f
  simp only [q1i,shr8,Option.bind_some,List.map_cons,List.map_nil]
  rw [jhj (by simp;omega)]
  simp only [Option.bind_some]
  rw [jhj (by simp;omega),jhj (by simp;omega)]
  simp only [Option.bind_some]
  rw [jhj (by simp;omega)]
  simp only [Option.bind_some]
  rw [jhj (by simp;omega)]
  cases o.1 with
  | true=>simp [b8]
  | false =>
    simp only [cond_false,Option.bind_some]
    have:=jhh o.2.2.length
    unfold b8 at this ⊢
    simp [this]
end Go.Proofs.YthpgnliicpejoaaGreatDoor.AM
namespace Go.Proofs.YthpgnliicpejoaaGreatDoor.AM
open Go.RowKit
set_option linter.unusedVariables false
set_option linter.unusedSimpArgs false
theorem qsx (A B:List UInt8) (x:UInt8) {j:Int} (hj:j=(A.length:Int)):sAt (A++x::B) j=some ((x.toNat:Nat):Int):=by
  subst hj
  have:=jaw (s:=A++x::B) (j:=A.length) (by simp)
  rw [this];simp
theorem j17 {β:Type} (A B:List β) (m:Nat) (hm:m<=B.length) {i j:Int} (hi:i=(A.length:Int)) (hj:j=((A.length+m:Nat):Int)):q4a (A++B) i j=some (B.take m):=by
  subst hi;subst hj
  have:=sub_le (l:=A++B) (a:=A.length) (b:=A.length+m) (by omega) (by simp;omega)
  rw [this]
  rw [List.drop_left,Nat.add_sub_cancel_left]
theorem shl8 (x:UInt8):jf8 .i64 ((x.toNat:Nat):Int) (8:Int)=some ((256*x.toNat:Nat):Int):=by
  have hx:=x.toNat_lt
  unfold jf8;rw [if_pos (by decide)]
  have e:(2:Int) ^ (min (8:Int).toNat (IntKind.bits .i64))=256:=by decide
  rw [e,wrap64 (by omega) (by omega)];congr 1;omega
theorem or8 (x y:UInt8):orI .i64 ((256*x.toNat:Nat):Int) ((y.toNat:Nat):Int)=((256*x.toNat+y.toNat:Nat):Int):=by
  have hx:=x.toNat_lt
  have hy:=y.toNat_lt
  unfold orI
  have h1:(BitVec.ofInt (IntKind.bits .i64) ((256*x.toNat:Nat):Int))=BitVec.ofNat 64 (256*x.toNat):=by rfl
  have h2:(BitVec.ofInt (IntKind.bits .i64) ((y.toNat:Nat):Int))=BitVec.ofNat 64 y.toNat:=by rfl
  rw [h1,h2]
  have h3:(BitVec.ofNat 64 (256*x.toNat) ||| BitVec.ofNat 64 y.toNat).toNat=256*x.toNat+y.toNat:=by
    rw [BitVec.toNat_or,BitVec.toNat_ofNat,BitVec.toNat_ofNat,Nat.mod_eq_of_lt (by omega),Nat.mod_eq_of_lt (by omega)]
    have h4:=Nat.shiftLeft_add_eq_or_of_lt (i:=8) (show y.toNat<2 ^ 8 by omega) x.toNat
    rw [Nat.shiftLeft_eq] at h4
    rw [show 256*x.toNat=x.toNat*2 ^ 8 from by omega,<-h4]
  show IntKind.wrap .i64 (((BitVec.ofNat 64 (256*x.toNat) ||| BitVec.ofNat 64 y.toNat).toNat:Nat):Int)=_
  rw [h3,wrap64 (by omega) (by omega)]
def q0w (s:List UInt8):OD×(Int×Bool):=match qre s with
  | some (o,k)=>(o,(((k:Nat):Int),true))
  | none=>((false,([],[])),(0,false))
theorem jcg {s:List UInt8} (h:s.length<2):qre s=none:=by
  match s,h with
  | [],_=>rfl
  | [_],_=>rfl
theorem qps : ∀(m:Nat) (s:List UInt8) (out:List OD),q3c m s=some out->out.length<=s.length/\∀o∈out,o.2.1.length<=s.length/\o.2.2.length<=s.length
  | 0,_,_,h=>by cases h
  | m+1,s,out,h=>by
    rw [q3c] at h
    split at h
    · cases h;exact ⟨Nat.zero_le _,fun o ho=>by cases ho⟩
    · split at h
      case h_2=>cases h
      rename_i o k ho
      cases hp:q3c m (s.drop k) with
      | none=>rw [hp] at h;cases h
      | some out' =>
        rw [hp] at h
        have:out=o::out':=by simpa using h.symm
        subst this
        obtain ⟨h1,h2,h3⟩:=qb8 ho
        obtain ⟨i1,i2⟩:=qps m _ _ hp
        rw [List.length_drop] at i1 i2
        have hlay:(q5f o).length<=s.length:=by have:=congrArg List.length h1;rw [List.length_append] at this;omega
        refine ⟨by simp;omega,fun o' ho'=>?_⟩
        rcases List.mem_cons.1 ho' with rfl|hm
        · unfold q5f at hlay
          refine ⟨by simp at hlay;omega,?_⟩
          obtain ⟨g,p,d⟩:=o'
          cases g with
          | true =>
            have hd0:d = []:=by
              match s,ho with
              | kk::c::r,ho =>
                rw [qre] at ho
                split at ho
                case isFalse=>cases ho
                split at ho
                case isTrue=>cases ho
                split at ho
                · simp only [Option.some.injEq,Prod.mk.injEq] at ho;exact ho.1.2.2.symm
                · split at ho
                  case h_2=>cases ho
                  split at ho
                  · cases ho
                  · simp at ho
            rw [hd0];exact Nat.zero_le _
          | false=>simp at hlay ⊢;omega
        · have:=i2 o' hm;omega
end Go.Proofs.YthpgnliicpejoaaGreatDoor.AM
namespace Go.Proofs.YthpgnliicpejoaaGreatDoor.AM
open Go.RowKit
set_option linter.unusedVariables false
set_option linter.unusedSimpArgs false
def q2o (l:List FD) (p:List UInt8):List FD:=l.filter fun f=>!decide (f.1=p)
def qzg (f:FD):List FD->List FD×Bool
  | []=>([],false)
  | x::t=>if ltS f.1 x.1 then (f::x::t,true) else (x::(qzg f t).1,(qzg f t).2)
def j4o (f:FD) (l:List FD):List FD:=if (qzg f l).2 then (qzg f l).1 else (qzg f l).1 ++ [f]
def q1t (l:List FD) (o:OD):List FD×Int :=
  if q4m o.2.1 then (if o.1 then (if (qil l o.2.1).2 then (q2o l o.2.1,0) else ([],5)) else if 4096<o.2.2.length then ([],2) else if 40<=(q2o l o.2.1).length then ([],3) else (j4o o.2 (q2o l o.2.1),0)) else ([],6)
def qgm:List FD->List OD->List FD×Int
  | l,[]=>(l,0)
  | l,o::t=>if (q1t l o).2=0 then qgm (q1t l o).1 t else ([],(q1t l o).2)
def q3b (l:List FD) (ops:List OD):List FD×Int:=if q8l l then qgm l ops else ([],1)
theorem qh6 (l:List FD) (p:List UInt8):(q2o l p).length<=l.length:=List.length_filter_le ..
end Go.Proofs.YthpgnliicpejoaaGreatDoor.AM
namespace Go.Proofs.YthpgnliicpejoaaGreatDoor.AM
open Go.RowKit
set_option linter.unusedVariables false
set_option linter.unusedSimpArgs false
abbrev l0:List FD:=[([97,47,120],[49]),([98],[51])]
end Go.Proofs.YthpgnliicpejoaaGreatDoor.AM
namespace Go.Proofs.YthpgnliicpejoaaGreatDoor.AM
open Go.RowKit
set_option linter.unusedVariables false
set_option linter.unusedSimpArgs false
theorem qv0 (s t:List UInt8):ltS s t=true↔cmpL jbt s t<0:=by
  unfold ltS;rw [q6y,decide_eq_true_eq]
theorem q5x {s t u:List UInt8} (h1:ltS s t=true) (h2:ltS t u=true):ltS s u=true:=by
  rw [qv0] at *
  have ht:=(q53 q5a).tr s t u (by omega) (by omega)
  have hr:=(q53 q5a).rng s u
  rcases Int.lt_or_eq_of_le ht with h|h
  · exact h
  · have e:=(q53 q5a).eq s u h
    subst e
    have ha:=(q53 q5a).anti s t
    omega
theorem jb2 (s:List UInt8):ltS s s=false:=by
  cases h:ltS s s with
  | false=>rfl
  | true=>rw [qv0,(q53 q5a).refl] at h;omega
theorem j3z {s t:List UInt8} (h1:ltS s t=false) (h2:s≠t):ltS t s=true:=by
  rw [qv0]
  have h3 : ¬ cmpL jbt s t<0:=fun h=>by rw [(qv0 s t).2 h] at h1;cases h1
  have h4:cmpL jbt s t≠0:=fun h=>h2 ((q53 q5a).eq s t h)
  have ha:=(q53 q5a).anti s t
  omega
def qfe (l:List FD):Prop:=l.Pairwise fun x y=>ltS x.1 y.1=true
theorem qtf : ∀l:List FD,qd7 l=true↔qfe l
  | []=>by simp [qd7,qfe]
  | [x]=>by simp [qd7,qfe]
  | x::y::t=>by
    have ih:=qtf (y::t)
    unfold qfe at ih ⊢
    rw [qd7,Bool.and_eq_true,ih]
    constructor
    · intro h
      have h1:=h.1
      have h2:=h.2
      refine List.pairwise_cons.2 ⟨fun z hz=>?_,h2⟩
      rcases List.mem_cons.1 hz with rfl|hz
      · exact h1
      · exact q5x h1 ((List.pairwise_cons.1 h2).1 z hz)
    · intro h
      have h':=List.pairwise_cons.1 h
      exact ⟨h'.1 y (List.mem_cons_self ..),h'.2⟩
theorem j0e (f:FD):j4o f [] = [f]:=rfl
theorem q9f (f x:FD) (t:List FD):j4o f (x::t)=if ltS f.1 x.1 then f::x::t else x::j4o f t:=by
  unfold j4o;rw [qzg]
  split
  · rfl
  · simp only
    split<;>simp
theorem qsk (f y:FD) : ∀l:List FD,y∈j4o f l↔y=f\/y∈l
  | []=>by simp [j0e]
  | x::t=>by
    rw [q9f]
    split
    · simp
    · rw [List.mem_cons,qsk f y t,List.mem_cons]
      constructor
      · rintro (h|h|h)
        · exact Or.inr (Or.inl h)
        · exact Or.inl h
        · exact Or.inr (Or.inr h)
      · rintro (h|h|h)
        · exact Or.inr (Or.inl h)
        · exact Or.inl h
        · exact Or.inr (Or.inr h)
theorem qbg (f:FD) : ∀l:List FD,(j4o f l).length=l.length+1
  | []=>rfl
  | x::t=>by
    rw [q9f];split
    · simp
    · simp [qbg f t]
def NoP (p:List UInt8) (l:List FD):Prop:=∀x∈l,x.1≠p
theorem qv8 {f:FD} : ∀{l:List FD},qfe l->NoP f.1 l->qfe (j4o f l)
  | [],_,_=>by unfold qfe;rw [j0e];simp
  | x::t,h,hn=>by
    have ⟨h1,h2⟩:=List.pairwise_cons.1 h
    rw [q9f]
    cases hc:ltS f.1 x.1 with
    | true =>
      simp only [if_true]
      refine List.pairwise_cons.2 ⟨fun z hz=>?_,h⟩
      rcases List.mem_cons.1 hz with rfl|hz
      · exact hc
      · exact q5x hc (h1 z hz)
    | false =>
      simp only [Bool.false_eq_true,if_false]
      refine List.pairwise_cons.2 ⟨fun z hz=>?_,qv8 h2 (fun y hy=>hn y (List.mem_cons_of_mem _ hy))⟩
      rcases (qsk f z t).1 hz with rfl|hz
      · exact j3z hc (fun e=>hn x (List.mem_cons_self ..) e.symm)
      · exact h1 z hz
theorem qd1 {l:List FD} (p:List UInt8) (h:qfe l):qfe (q2o l p):=List.Pairwise.filter _ h
theorem qs3 (l:List FD) (p:List UInt8):NoP p (q2o l p):=fun x hx=>by
  have:=(List.mem_filter.1 hx).2;simpa using this
theorem q50 {l:List FD} {p:List UInt8} (h:NoP p l):q2o l p=l:=by
  unfold q2o;rw [List.filter_eq_self]
  intro x hx;simpa using h x hx
theorem j11 : ∀{l:List FD} {p:List UInt8},NoP p l->qil l p=([],false)
  | [],_,_=>rfl
  | x::t,p,h=>by
    rw [qil,if_neg (h x (List.mem_cons_self ..))]
    exact j11 fun y hy=>h y (List.mem_cons_of_mem _ hy)
theorem qc9 (l:List FD):q8l l=true↔l.length<=40/\(∀f∈l,okF f=true)/\qfe l:=by
  unfold q8l
  rw [Bool.and_eq_true,Bool.and_eq_true,decide_eq_true_eq,List.all_eq_true,qtf]
theorem qty {l:List FD} {o:OD} (hl:q8l l=true) (h:(q1t l o).2=0):q8l (q1t l o).1=true:=by
  rw [qc9] at hl ⊢
  obtain ⟨h1,h2,h3⟩:=hl
  have hw : ∀f∈q2o l o.2.1,okF f=true:=fun f hf=>h2 f (List.mem_filter.1 hf).1
  have hwl:=qh6 l o.2.1
  unfold q1t at h ⊢
  cases hp:q4m o.2.1 with
  | false=>rw [hp] at h;simp at h
  | true =>
    rw [hp] at h
    simp only [if_true] at h ⊢
    cases ho:o.1 with
    | true =>
      rw [ho] at h
      simp only [if_true] at h ⊢
      cases hg:(qil l o.2.1).2 with
      | false=>rw [hg] at h;simp at h
      | true=>simp only [if_true];exact ⟨by omega,hw,qd1 _ h3⟩
    | false =>
      rw [ho] at h
      simp only [Bool.false_eq_true,if_false] at h ⊢
      by_cases c1:4096<o.2.2.length
      · rw [if_pos c1] at h;simp at h
      · rw [if_neg c1] at h ⊢
        by_cases c2:40<=(q2o l o.2.1).length
        · rw [if_pos c2] at h;simp at h
        · rw [if_neg c2]
          refine ⟨by simp only [qbg];omega,fun f hf=>?_,qv8 (qd1 _ h3) (qs3 _ _)⟩
          rcases (qsk o.2 f _).1 hf with rfl|hf
          · unfold okF;rw [hp];simp;omega
          · exact hw f hf
theorem j4i : ∀(ops:List OD) {l:List FD},q8l l=true->(qgm l ops).2=0->q8l (qgm l ops).1=true
  | [],l,h,_=>h
  | o::t,l,h,h0=>by
    rw [qgm] at h0 ⊢
    split at h0
    · rename_i hc;rw [if_pos hc];exact j4i t (qty h hc) h0
    · rename_i hc;exact absurd h0 hc
end Go.Proofs.YthpgnliicpejoaaGreatDoor.AM
namespace Go.Proofs.YthpgnliicpejoaaGreatDoor.AM
open Go.RowKit
set_option linter.unusedVariables false
set_option linter.unusedSimpArgs false
theorem qc7 (y:FD) : ∀(P a:List FD),(∀x∈P,ltS y.1 x.1=false)->(∀x∈a,ltS y.1 x.1=true)->j4o y (P++a)=P++y::a
  | [],[],_,_=>rfl
  | [],x::a,_,h=>by rw [List.nil_append,q9f,if_pos (h x (List.mem_cons_self ..))];rfl
  | x::P,a,h1,h2=>by
    rw [List.cons_append,q9f,h1 x (List.mem_cons_self ..),if_neg (by decide),qc7 y P a (fun z hz=>h1 z (List.mem_cons_of_mem _ hz)) h2];rfl
theorem qlp {s t:List UInt8} (h:ltS s t=true):ltS t s=false:=by
  cases h2:ltS t s with
  | false=>rfl
  | true=>have:=q5x h h2;rw [jb2] at this;cases this
theorem qk1 {s t:List UInt8} (h:ltS s t=true):s≠t:=fun e=>by subst e;rw [jb2] at h;cases h
theorem q4g {P a:List FD} : qfe (P++a)↔qfe P/\qfe a/\∀x∈P,∀y∈a,ltS x.1 y.1=true:=List.pairwise_append
theorem qr0 (x:FD) : ∀(P a:List FD),(qil (P++x::a) x.1).2=true
  | [],a=>by rw [List.nil_append,qil,if_pos rfl]
  | y::P,a=>by
    rw [List.cons_append,qil]
    split
    · rfl
    · exact qr0 x P a
theorem q8r {x:FD} {p:List UInt8} {P a:List FD} (hx:x.1=p) (h1:NoP p P) (h2:NoP p a):q2o (P++x::a) p=P++a:=by
  have e1:=q50 h1
  have e2:=q50 h2
  unfold q2o at *
  rw [List.filter_append,List.filter_cons,e1]
  simp [hx,e2]
theorem qfv {f:FD} (h:okF f=true):q4m f.1=true/\f.2.length<=4096:=by unfold okF at h;simpa using h
theorem q7p : ∀(n:Nat) (P a b:List FD),a.length+b.length<=n->qfe (P++a)->qfe (P++b)->(∀f∈P++a,okF f=true)->(∀f∈b,okF f=true)->(P++a).length<=40 ->
    qgm (P++a) (q1u n a b)=(P++b,0)\/(qgm (P++a) (q1u n a b)).2=3
  | 0,P,a,b,hn,_,_,_,_,_=>by
    have ha:a = []:=List.eq_nil_of_length_eq_zero (by omega)
    have hb:b = []:=List.eq_nil_of_length_eq_zero (by omega)
    subst ha;subst hb
    exact Or.inl rfl
  | n+1,P,[],[],_,_,_,_,_,_=>Or.inl rfl
  | n+1,P,x::a,b,hn,ha,hb,ka,kb,hl=>by
    have ⟨pP,pa,pc⟩:=q4g.1 ha
    have ⟨qP,qb,qc⟩:=q4g.1 hb
    have ⟨xa,ra⟩:=List.pairwise_cons.1 pa
    have kx:=qfv (ka x (by simp))
    have nP:NoP x.1 P:=fun z hz=>qk1 (pc z hz x (List.mem_cons_self ..))
    have na:NoP x.1 a:=fun z hz e=>qk1 (xa z hz) e.symm
    have ra':qfe (P++a):=q4g.2 ⟨pP,ra,fun z hz w hw=>pc z hz w (List.mem_cons_of_mem _ hw)⟩
    have ka' : ∀f∈P++a,okF f=true:=fun f hf=>ka f (by rcases List.mem_append.1 hf with h|h<;>simp [h])
    have la:(P++a).length<=40:=by simp at hl ⊢;omega
    have gone:q1t (P++x::a) (true,(x.1,[]))=(P++a,0):=by
      unfold q1t
      simp only [kx.1,if_true,qr0]
      rw [q8r rfl nP na]
    match b,hn,hb,qb,qc,kb with
    | [],hn,hb,qb,qc,kb =>
      rw [q1u,qgm,gone,if_pos rfl]
      exact q7p n P a [] (by simp at hn ⊢;omega) ra' hb ka' kb la
    | y::b,hn,hb,qb,qc,kb =>
      have ⟨yb,rb⟩:=List.pairwise_cons.1 qb
      have ky:=qfv (kb y (List.mem_cons_self ..))
      have kb' : ∀f∈b,okF f=true:=fun f hf=>kb f (List.mem_cons_of_mem _ hf)
      simp only [List.length_cons] at hn
      rw [q1u]
      cases c1:ltS x.1 y.1 with
      | true =>
        rw [if_pos rfl,qgm,gone,if_pos rfl]
        exact q7p n P a (y::b) (by simp;omega) ra' hb ka' kb la
      | false =>
        rw [if_neg (by decide)]
        have hb2:qfe ((P ++ [y])++b):=by rw [List.append_assoc];exact hb
        have yP : ∀z∈P,ltS y.1 z.1=false:=fun z hz=>qlp (qc z hz y (List.mem_cons_self ..))
        have nyP:NoP y.1 P:=fun z hz=>qk1 (qc z hz y (List.mem_cons_self ..))
        cases c2:ltS y.1 x.1 with
        | true =>
          rw [if_pos rfl,qgm]
          have ya : ∀z∈x::a,ltS y.1 z.1=true:=fun z hz=>by
            rcases List.mem_cons.1 hz with rfl|hz
            · exact c2
            · exact q5x c2 (xa z hz)
          have nya:NoP y.1 (P++x::a):=fun z hz=>by
            rcases List.mem_append.1 hz with h|h
            · exact nyP z h
            · exact fun e=>qk1 (ya z h) e.symm
          have hs:q1t (P++x::a) (false,y)=if 40<=(P++x::a).length then ([],3) else (P++y::x::a,0):=by
            unfold q1t
            have : ¬ 4096<y.2.length:=by omega
            simp only [ky.1,if_true,Bool.false_eq_true,if_false,this,q50 nya]
            rw [qc7 y P (x::a) yP ya]
          rw [hs]
          by_cases c3:40<=(P++x::a).length
          · rw [if_pos c3,if_neg (by decide)];exact Or.inr rfl
          · rw [if_neg c3,if_pos rfl]
            have:=q7p n (P ++ [y]) (x::a) b (by simp;omega) (by
              rw [List.append_assoc]
              refine q4g.2 ⟨pP,List.pairwise_cons.2 ⟨ya,pa⟩,fun z hz w hw=>?_⟩
              rcases List.mem_cons.1 hw with rfl|hw
              · exact qc z hz _ (List.mem_cons_self ..)
              · exact pc z hz w hw) hb2 (fun f hf=>by
                rw [List.append_assoc] at hf
                rcases List.mem_append.1 hf with h|h
                · exact ka f (by simp [h])
                · rcases List.mem_cons.1 h with rfl|h
                  · exact kb _ (List.mem_cons_self ..)
                  · exact ka f (List.mem_append.2 (Or.inr h))) kb' (by simp at c3 ⊢;omega)
            simpa using this
        | false =>
          rw [if_neg (by decide)]
          have he:x.1=y.1:=Classical.byContradiction fun h=>by rw [j3z c1 h] at c2;cases c2
          have yna:NoP y.1 a:=he ▸ na
          have ra2:qfe ((P ++ [y])++a):=by
            rw [List.append_assoc]
            refine q4g.2 ⟨pP,List.pairwise_cons.2 ⟨fun z hz=>he ▸ xa z hz,ra⟩,fun z hz w hw=>?_⟩
            rcases List.mem_cons.1 hw with rfl|hw
            · exact qc z hz _ (List.mem_cons_self ..)
            · exact pc z hz w (List.mem_cons_of_mem _ hw)
          have ka2 : ∀f∈(P ++ [y])++a,okF f=true:=fun f hf=>by
            rw [List.append_assoc] at hf
            rcases List.mem_append.1 hf with h|h
            · exact ka f (by simp [h])
            · rcases List.mem_cons.1 h with rfl|h
              · exact kb _ (List.mem_cons_self ..)
              · exact ka f (List.mem_append.2 (Or.inr (List.mem_cons_of_mem _ h)))
          have ih:=q7p n (P ++ [y]) a b (by omega) ra2 hb2 ka2 kb' (by simp at hl ⊢;omega)
          by_cases c3:x.2=y.2
          · rw [if_pos c3]
            have:x=y:=Prod.ext he c3
            subst this
            simpa using ih
          · rw [if_neg c3,qgm]
            have hs:q1t (P++x::a) (false,y)=(P++y::a,0):=by
              unfold q1t
              have h1 : ¬ 4096<y.2.length:=by omega
              have h2 : ¬ 40<=(P++a).length:=by simp at hl ⊢;omega
              simp only [ky.1,if_true,Bool.false_eq_true,if_false,h1,q8r he nyP yna,h2]
              rw [qc7 y P a yP (fun z hz=>he ▸ xa z hz)]
            rw [hs,if_pos rfl]
            simpa using ih
  | n+1,P,[],y::b,hn,ha,hb,ka,kb,hl=>by
    have ⟨qP,qb,qc⟩:=q4g.1 hb
    have ky:=qfv (kb y (List.mem_cons_self ..))
    have kb' : ∀f∈b,okF f=true:=fun f hf=>kb f (List.mem_cons_of_mem _ hf)
    have hb2:qfe ((P ++ [y])++b):=by rw [List.append_assoc];exact hb
    have yP : ∀z∈P,ltS y.1 z.1=false:=fun z hz=>qlp (qc z hz y (List.mem_cons_self ..))
    have nyP:NoP y.1 (P ++ []):=fun z hz=>qk1 (qc z (by simpa using hz) y (List.mem_cons_self ..))
    simp only [List.length_cons,List.length_nil] at hn
    rw [q1u,qgm]
    have hs:q1t (P ++ []) (false,y)=if 40<=(P ++ []).length then ([],3) else (P ++ [y],0):=by
      unfold q1t
      have : ¬ 4096<y.2.length:=by omega
      simp only [ky.1,if_true,Bool.false_eq_true,if_false,this,q50 nyP]
      rw [qc7 y P [] yP (fun z hz=>by cases hz)]
    rw [hs]
    by_cases c3:40<=(P ++ []).length
    · rw [if_pos c3,if_neg (by decide)];exact Or.inr rfl
    · rw [if_neg c3,if_pos rfl]
      have:=q7p n (P ++ [y]) [] b (by simp;omega) (by
        rw [List.append_nil]
        exact q4g.2 ⟨qP,List.pairwise_cons.2 ⟨(fun z hz=>by cases hz),List.Pairwise.nil⟩,fun z hz w hw=>by
          rcases List.mem_cons.1 hw with rfl|hw
          · exact qc z hz _ (List.mem_cons_self ..)
          · cases hw⟩) hb2 (fun f hf=>by
          rw [List.append_nil] at hf
          rcases List.mem_append.1 hf with h|h
          · exact ka f (by simp [h])
          · rcases List.mem_cons.1 h with rfl|h
            · exact kb _ (List.mem_cons_self ..)
            · cases h) kb' (by simp at c3 ⊢;omega)
      simpa using this
theorem j5s {l k:List FD} (hl:q8l l=true) (hk:q8l k=true):q3b l (q3z l k)=(k,0)\/(q3b l (q3z l k)).2=3:=by
  have h1:=(qc9 l).1 hl
  have h2:=(qc9 k).1 hk
  unfold q3b q3z
  rw [hl,hk]
  exact q7p (l.length+k.length) [] l k (Nat.le_refl _) h1.2.2 h2.2.2 h1.2.1 h2.2.1 h1.1
end Go.Proofs.YthpgnliicpejoaaGreatDoor.AM
namespace Go.Proofs.YthpgnliicpejoaaGreatDoor.AM
open Go.RowKit
set_option linter.unusedVariables false
set_option linter.unusedSimpArgs false
theorem get_mem : ∀{l:List FD} {p:List UInt8},(qil l p).2=true->∃ x∈l,x.1=p
  | [],_,h=>by cases h
  | x::t,p,h=>by
    rw [qil] at h
    split at h
    · rename_i hc;exact ⟨x,List.mem_cons_self ..,hc⟩
    · obtain ⟨y,hy,e⟩:=get_mem h;exact ⟨y,List.mem_cons_of_mem _ hy,e⟩
structure Good (a b:List FD) (o:OD):Prop where
  from_:(qil a o.2.1).2=true\/(qil b o.2.1).2=true
  gone:o.1=((qil a o.2.1).2 && !(qil b o.2.1).2)
  put:o.1=false->(qil b o.2.1).2=true/\(qil b o.2.1).1=o.2.2/\((qil a o.2.1).2=true->(qil a o.2.1).1≠o.2.2)
  none_:o.1=true->o.2.2 = []
theorem Good.above {a b:List FD} {o:OD} (h:Good a b o) {p:List UInt8} (ha : ∀x∈a,ltS p x.1=true) (hb : ∀x∈b,ltS p x.1=true):ltS p o.2.1=true:=by
  rcases h.from_ with h|h
  · obtain ⟨x,hx,e⟩:=get_mem h;rw [<-e];exact ha x hx
  · obtain ⟨x,hx,e⟩:=get_mem h;rw [<-e];exact hb x hx
end Go.Proofs.YthpgnliicpejoaaGreatDoor.AM
namespace Go.Proofs.YthpgnliicpejoaaGreatDoor.AM
open Go.RowKit
set_option linter.unusedVariables false
set_option linter.unusedSimpArgs false
theorem qt5 (n:Nat) (s:List UInt8) (hs:s.length<=1000000):qm8 n s=some (q0w s):=by
  unfold qm8 q0w
  by_cases hlt:s.length<2
  · have c0:decide (((s.length:Nat):Int)<(2:Int))=true:=by rw [decide_eq_true_eq];omega
    simp only [c0,cond_true]
    rw [jcg hlt]
  match s,hs,hlt with
  | [],_,h=>exact absurd (by decide) h
  | [_],_,h=>exact absurd (by simp) h
  | k::c::r,hs,_ =>
    have hc:=c.toNat_lt
    clear hs
    have c0:decide ((((k::c::r).length:Nat):Int)<(2:Int))=false:=by rw [decide_eq_false_iff_not,List.length_cons,List.length_cons];omega
    have h1:q4a (k::c::r) (0:Int) (1:Int)=some [k]:=by
      have:=sub_zero (l:=k::c::r) (b:=1) (by simp)
      rw [show ((1:Nat):Int)=(1:Int) from rfl] at this
      rw [this];rfl
    have d0:decide ([k]=([0]:List UInt8))=decide (k=0):=decide_eq_decide.2 (by simp)
    have d1:decide ([k]=([1]:List UInt8))=decide (k=1):=decide_eq_decide.2 (by simp)
    have a1:sAt (k::c::r) (1:Int)=some ((c.toNat:Nat):Int):=qsx [k] r c rfl
    have w1:IntKind.wrap .i64 ((c.toNat:Nat):Int)=((c.toNat:Nat):Int):=wrap64 (by omega) (by omega)
    have w2:IntKind.wrap .i64 ((2:Int)+((c.toNat:Nat):Int))=((2+c.toNat:Nat):Int):=by rw [wrap64 (by omega) (by omega)];omega
    have b1:decide ((((k::c::r).length:Nat):Int)<((2+c.toNat:Nat):Int))=decide (r.length<c.toNat):=decide_eq_decide.2 (by rw [List.length_cons,List.length_cons];omega)
    have w3:IntKind.wrap .i64 (((2+c.toNat:Nat):Int)+2)=((4+c.toNat:Nat):Int):=by rw [wrap64 (by omega) (by omega)];omega
    have w4:IntKind.wrap .i64 (((2+c.toNat:Nat):Int)+1)=((3+c.toNat:Nat):Int):=by rw [wrap64 (by omega) (by omega)];omega
    have b2:decide ((((k::c::r).length:Nat):Int)<((4+c.toNat:Nat):Int))=decide (r.length<c.toNat+2):=decide_eq_decide.2 (by rw [List.length_cons,List.length_cons];omega)
    rw [qre]
    simp only [c0,cond_false,h1,Option.bind_some,d0,d1,a1,q1i,w1,w2,b1,w3,w4,b2]
    by_cases hk:k=0\/k=1
    · rw [if_pos hk]
      by_cases hrc:r.length<c.toNat
      · rw [if_pos hrc]
        simp only [hrc,decide_true,cond_true]
        rcases hk with rfl|rfl<;>simp
      · rw [if_neg hrc]
        have p:q4a (k::c::r) (2:Int) ((2+c.toNat:Nat):Int)=some (r.take c.toNat):=j17 [k,c] r c.toNat (by omega) rfl rfl
        simp only [hrc,decide_false,cond_false,p,Option.bind_some]
        by_cases hk1:k=1
        · subst hk1
          have h10:decide ((1:UInt8)=0)=false:=by decide
          simp only [h10,decide_true,Bool.not_true,Bool.not_false,cond_true,cond_false,if_true]
        · have hk0:k=0:=by
                                 rcases hk with h|h
                                 · exact h
                                 · exact absurd h hk1
          have e0:decide (k=0)=true:=decide_eq_true hk0
          clear hk0
          rw [if_neg hk1]
          simp only [hk1,e0,decide_false,Bool.not_true,cond_false]
          by_cases h2:r.length<c.toNat+2
          · simp only [h2,decide_true,cond_true]
            have hdl:(r.drop c.toNat).length<2:=by rw [List.length_drop];omega
            generalize r.drop c.toNat=R at hdl
            match R,hdl with
            | [],_=>simp
            | [_],_=>simp
          · have hP:(r.take c.toNat).length=c.toNat:=by rw [List.length_take];omega
            have hr:r=r.take c.toNat++r.drop c.toNat:=(List.take_append_drop ..).symm
            have hdl:2<=(r.drop c.toNat).length:=by rw [List.length_drop];omega
            have hl2:r.length=c.toNat+(r.drop c.toNat).length:=by rw [List.length_drop];omega
            generalize r.drop c.toNat=R at hr hdl hl2
            match R,hdl with
            | x::y::t,_ =>
              have hx:=x.toNat_lt
              have hy:=y.toNat_lt
              generalize r.take c.toNat=P at hP hr
              subst hr
              simp only [List.length_cons] at hl2
              have s1:sAt (k::c::(P++x::y::t)) ((2+c.toNat:Nat):Int)=some ((x.toNat:Nat):Int):=qsx (k::c::P) (y::t) x (by simp;omega)
              have s2:sAt (k::c::(P++x::y::t)) ((3+c.toNat:Nat):Int)=some ((y.toNat:Nat):Int):=by
                have:=qsx (k::c::P ++ [x]) t y (j:=((3+c.toNat:Nat):Int)) (by simp;omega)
                simpa using this
              have wx:IntKind.wrap .i64 ((x.toNat:Nat):Int)=((x.toNat:Nat):Int):=wrap64 (by omega) (by omega)
              have wy:IntKind.wrap .i64 ((y.toNat:Nat):Int)=((y.toNat:Nat):Int):=wrap64 (by omega) (by omega)
              have w5:IntKind.wrap .i64 (((4+c.toNat:Nat):Int)+((256*x.toNat+y.toNat:Nat):Int))=((4+c.toNat+(256*x.toNat+y.toNat):Nat):Int):=by
                clear b1 b2 c0 p h2 hrc
                rw [wrap64 (by omega) (by omega)];omega
              have b3:decide ((((k::c::(P++x::y::t)).length:Nat):Int)<((4+c.toNat+(256*x.toNat+y.toNat):Nat):Int))=decide (t.length<256*x.toNat+y.toNat):=decide_eq_decide.2 (by clear c0 h1 a1 b1 b2 p;simp only [List.length_cons,List.length_append];omega)
              have v1:=shl8 x
              have v2:=or8 x y
              simp only [h2,decide_false,cond_false]
              rw [s1,Option.bind_some,wx,v1,Option.bind_some,s2,Option.bind_some,wy,v2,w5,b3]
              by_cases ht:t.length<256*x.toNat+y.toNat
              · simp [ht]
              · have q:q4a (k::c::(P++x::y::t)) ((4+c.toNat:Nat):Int) ((4+c.toNat+(256*x.toNat+y.toNat):Nat):Int)=some (t.take (256*x.toNat+y.toNat)):=by
                  have:=j17 (k::c::P ++ [x,y]) t (256*x.toNat+y.toNat) (by omega) (i:=((4+c.toNat:Nat):Int)) (j:=((4+c.toNat+(256*x.toNat+y.toNat):Nat):Int)) (by simp;omega) (by simp;omega)
                  simpa using this
                simp only [ht,q,decide_false,cond_false,Option.bind_some,if_false]
    · rw [if_neg hk]
      have k0 : ¬ k=0:=fun h=>hk (Or.inl h)
      have k1 : ¬ k=1:=fun h=>hk (Or.inr h)
      simp only [k0,k1,decide_false,Bool.not_false,cond_true]
end Go.Proofs.YthpgnliicpejoaaGreatDoor.AM
