
import Derived.Test.YtggoebaobojmjaaGreatDoorBq24
import Derived.Test.YtggoebaobojmjaaGreatDoorBq25
import Derived.Test.YtggoebaobojmjaaGreatDoorBq8
import Derived.Test.YtggoebaobojmjaaGreatDoorRows
import Derived.Test.YtggoebaobojmjaaGreatDoorBq9
import Derived.LaidLaws
namespace Go.Proofs.YtggoebaobojmjaaGreatDoor.AM
open Go.RowKit Gr
set_option linter.unusedVariables false
set_option linter.unusedSimpArgs false
theorem jt4 {i:Nat} (h:i+1≤9223372036854775807):IntKind.wrap .i64 ((i:Int)+1)=((i+1:Nat):Int):=by rw [wrap64 (by omega) (by omega)];rfl
theorem jfx (n:Nat) (w:List WnD) (hw:w.length≤9223372036854775807) (hn:9223372036854775807<n) : ∃ b,qup n w=some b∧(b=true→w.length≤20):=by
 have loop : ∀ m j:Nat,j≤w.length→w.length - j<m→q9m n m w (j:Int)=some (if (w.drop j).any (fun x=>decide (200<x.1.length))=true then Sum.inl ((false,()),((),())) else Sum.inr ((w,()),((),()))):=by
  intro m
  induction m with
  | zero=>intro j _ h;exact absurd h (Nat.not_lt_zero _)
  | succ m ih =>
   intro j hj h
   rw [qor]
   unfold qxv
   by_cases c:j<w.length
   ·rw [decide_eq_true (by omega),cond_true,q0i c,Option.bind_some,List.drop_eq_getElem_cons c,List.any_cons]
    by_cases e:200<w[j].1.length
    ·rw [decide_eq_true (by omega),cond_true,decide_eq_true e,Bool.true_or,if_pos rfl]
    ·rw [decide_eq_false (by omega),cond_false,decide_eq_false e,Bool.false_or,q0a,jt4 (by omega)]
     exact ih (j+1) (by omega) (by omega)
   ·obtain rfl:j=w.length:=by omega
    rw [decide_eq_false (by omega),cond_false,List.drop_length,List.any_nil,if_neg Bool.false_ne_true]
 have h:=loop n 0 (Nat.zero_le _) (by omega)
 unfold qup
 rw [show (0:Int)=((0:Nat):Int) from rfl,h,Option.bind_some]
 split
 ·exact ⟨false,rfl,fun h=>by cases h⟩
 ·exact ⟨decide (w.length≤20),by
   show some (decide (((w.length:Nat):Int)≤20))=_
   rw [decide_eq_decide.2 (by omega:((w.length:Nat):Int)≤20↔w.length≤20)],fun h=>of_decide_eq_true h⟩
structure Sm18 (ms:List MD) (tg:List TgD) (ch:List Int) (wn:List WnD):Prop where
 sm:SmL ms
 tg:tg.length≤60
 ch:ch.length≤30
 wn:wn.length≤20
theorem Sml.smL {l:List MD} (h:Sml l):SmL l:=⟨h.1,fun m hm=>by
 obtain ⟨h1,_,h2,_⟩:=h.2 m hm
 exact ⟨h1,by omega⟩⟩
theorem j9n (n:Nat) (ms:List MD) (tg:List TgD) (ch:List Int) (wn:List WnD) (h1:ms.length≤9223372036854775807) (h2:tg.length≤9223372036854775807) (h4:wn.length≤9223372036854775807) (hn:9223372036854775807<n) :
  ∃ b,qgq n (ms,(tg,(ch,wn)))=some b∧(b=true→Sm18 ms tg ch wn):=by
 obtain ⟨b,k1,k2⟩:=j6w n ms h1 hn
 obtain ⟨c,k3,k4⟩:=jfx n wn h4 hn
 unfold qgq
 rw [k1,Option.bind_some]
 cases b with
 | false=>exact ⟨false,rfl,fun h=>by cases h⟩
 | true =>
  rw [cond_true,jfz n tg h2 (by omega),Option.bind_some]
  cases hf:fewS tg with
  | false=>exact ⟨false,rfl,fun h=>by cases h⟩
  | true =>
   rw [cond_true]
   by_cases e:ch.length≤30
   ·rw [decide_eq_true (show ((ch.length:Nat):Int)≤30 by omega),cond_true,k3,Option.bind_some]
    exact ⟨c,rfl,fun h=>⟨(k2 rfl).smL,(k9p hf).1,e,k4 h⟩⟩
   ·rw [decide_eq_false (show ¬ ((ch.length:Nat):Int)≤30 by omega),cond_false]
    exact ⟨false,rfl,fun h=>by cases h⟩
theorem jit (n:Nat) (w:List WnD) (hw:w.length≤1000) (hn:1000<n):qlz n w=some w:=by
 have loop : ∀ m j:Nat,j≤w.length→w.length - j<m→q6l n m w (j:Int) (w.take j)=some (((),()),((),(w,()))):=by
  intro m
  induction m with
  | zero=>intro j _ h;exact absurd h (Nat.not_lt_zero _)
  | succ m ih =>
   intro j hj h
   rw [qrk]
   unfold j0p
   by_cases c:j<w.length
   ·rw [decide_eq_true (by omega),cond_true,q0i c,Option.bind_some,q3u (by rw [List.length_singleton,List.length_take];omega),Option.bind_some,q0a,q03 (by omega),← List.take_succ_eq_append_getElem c]
    exact ih (j+1) (by omega) (by omega)
   ·obtain rfl:j=w.length:=by omega
    rw [decide_eq_false (by omega),cond_false,List.take_length]
 have h:=loop n 0 (Nat.zero_le _) (by omega)
 have h':q6l n n w 0 []=_:=h
 unfold qlz
 rw [h'];rfl
theorem je8 (n:Nat) (w:List RlD) (hw:w.length≤1000) (hn:1000<n):qeu n w=some w:=by
 have loop : ∀ m j:Nat,j≤w.length→w.length - j<m→q4c n m w (j:Int) (w.take j)=some (((),()),((),(w,()))):=by
  intro m
  induction m with
  | zero=>intro j _ h;exact absurd h (Nat.not_lt_zero _)
  | succ m ih =>
   intro j hj h
   rw [qmg]
   unfold qrt
   by_cases c:j<w.length
   ·rw [decide_eq_true (by omega),cond_true,q0i c,Option.bind_some,q3u (by rw [List.length_singleton,List.length_take];omega),Option.bind_some,q0a,q03 (by omega),← List.take_succ_eq_append_getElem c]
    exact ih (j+1) (by omega) (by omega)
   ·obtain rfl:j=w.length:=by omega
    rw [decide_eq_false (by omega),cond_false,List.take_length]
 have h:=loop n 0 (Nat.zero_le _) (by omega)
 have h':q4c n n w 0 []=_:=h
 unfold qeu
 rw [h'];rfl
theorem jbm (n:Nat) (w:List RlD) (hw:w.length≤1000) (hn:1000<n):qf1 n w w=some true:=by
 have loop : ∀ m j:Nat,j≤w.length→w.length - j<m→q43 n m w w (j:Int)=some (Sum.inr ((),((),()))):=by
  intro m
  induction m with
  | zero=>intro j _ h;exact absurd h (Nat.not_lt_zero _)
  | succ m ih =>
   intro j hj h
   rw [qnx]
   unfold qph
   by_cases c:j<w.length
   ·rw [decide_eq_true (by omega),cond_true,q0i c,Option.bind_some,Option.bind_some]
    simp only [decide_true,Bool.and_self,Bool.not_true,cond_false]
    rw [q0a,q03 (by omega)]
    exact ih (j+1) (by omega) (by omega)
   ·obtain rfl:j=w.length:=by omega
    rw [decide_eq_false (by omega),cond_false]
 have h:=loop n 0 (Nat.zero_le _) (by omega)
 have h':q43 n n w w 0=_:=h
 unfold qf1
 rw [decide_eq_true rfl,Bool.not_true,cond_false,h'];rfl
theorem qtb (n:Nat) (w:List RD) (hw:w.length≤1000) (hn:1000<n):qb9 n w w=some true:=by
 have loop : ∀ m j:Nat,j≤w.length→w.length - j<m→q40 n m w w (j:Int)=some (Sum.inr ((),((),()))):=by
  intro m
  induction m with
  | zero=>intro j _ h;exact absurd h (Nat.not_lt_zero _)
  | succ m ih =>
   intro j hj h
   rw [qmo]
   unfold qpc
   by_cases c:j<w.length
   ·rw [decide_eq_true (by omega),cond_true,q0i c,Option.bind_some,Option.bind_some]
    simp only [decide_true,Bool.and_self,Bool.not_true,cond_false]
    rw [q0a,q03 (by omega)]
    exact ih (j+1) (by omega) (by omega)
   ·obtain rfl:j=w.length:=by omega
    rw [decide_eq_false (by omega),cond_false]
 have h:=loop n 0 (Nat.zero_le _) (by omega)
 have h':q40 n n w w 0=_:=h
 unfold qb9
 rw [decide_eq_true rfl,Bool.not_true,cond_false,h'];rfl
theorem j3j {α β:Type} (z:β) (f:β→Bool→Option α):jvx none z f=f z false:=rfl
theorem j5q {α β:Type} (v z:β) (f:β→Bool→Option α):jvx (some v) z f=f v true:=rfl
theorem qsw {β:Type} (p k:List UInt8) (y:β) : ∀ m:List (List UInt8×β),qb0 p (k4e k y m)=if p=k then some y else qb0 p m
 | []=>by
  show (if p=k then some y else qb0 p [])=_
  rfl
 | (k',v)::m=>by
  unfold k4e
  by_cases h:k=k'
  ·subst h
   rw [if_pos rfl]
   show (if p=k then some y else qb0 p m)=if p=k then some y else (if p=k then some v else qb0 p m)
   by_cases e:p=k
   ·rw [if_pos e,if_pos e]
   ·rw [if_neg e,if_neg e,if_neg e]
  ·rw [if_neg h]
   show (if p=k' then some v else qb0 p (k4e k y m))=if p=k then some y else (if p=k' then some v else qb0 p m)
   rw [qsw p k y m]
   by_cases e:p=k'
   ·rw [if_pos e,if_pos e,if_neg (fun e'=>h (e'.symm.trans e))]
   ·rw [if_neg e,if_neg e]
theorem qpu (l:List MD) (r:List RlD) (x:RlD) (p:List UInt8):qmt l (r ++ [x]) p=(qmt l r p).or (if jn2 l p x=true then some (k9w x) else none):=by
 unfold qmt
 rw [List.find?_append]
 cases r.find? (jn2 l p) with
 | some y=>rfl
 | none =>
  show (([x].find? (jn2 l p)).map k9w)=_
  rw [List.find?_cons,List.find?_nil]
  cases jn2 l p x<;>rfl
theorem j3w (n:Nat) (l:List MD) (a:Int):qwa n l a=some (decide (0≤a)&&decide (a<(l.length:Int))):=by
 unfold qwa
 cases decide (0≤a)<;>rfl
theorem jyh {l:List MD} {p:List UInt8} {x:RlD} {k:Nat} (h:x.1=(k:Int)) (hk:k<l.length):jn2 l p x=decide (l[k].2.1=p):=by
 unfold jn2
 rw [h,decide_eq_true (by omega),decide_eq_true (by omega),Int.toNat_natCast,List.getElem?_eq_getElem hk,Bool.true_and,Bool.true_and]
 exact decide_eq_decide.2 ⟨fun e=>Option.some.inj e,fun e=>congrArg some e⟩
theorem qt0 (n:Nat) (l:List MD) (a:Int) (r:List RlD) (hr:r.length≤1000) : ∀ (m j:Nat) (M:List (List UInt8×VD)),j≤r.length→r.length - j<m→(∀ p,qb0 p M=qmt l (r.take j) p) →
  ∃ M':List (List UInt8×VD),q60 n m l a r ((r.length:Nat):Int) (j:Int) M=some ((l,(a,((),()))),((M',()),()))∧∀ p,qb0 p M'=qmt l r p
 | 0,j,_,_,h,_=>absurd h (Nat.not_lt_zero _)
 | m+1,j,M,hj,h,hM=>by
  rw [qqf]
  unfold qx8
  by_cases c:j<r.length
  ·have htk:r.take (j+1)=r.take j ++ [r[j]]:=List.take_succ_eq_append_getElem c
   rw [decide_eq_true (by omega),cond_true,q0i c,Option.bind_some,j3w,Option.bind_some]
   have ih:=fun M' hM'=>qt0 n l a r hr m (j+1) M' (by omega) (by omega) hM'
   rw [htk] at ih
   generalize r[j]=x at ih ⊢
   by_cases h0:0≤x.1∧x.1<(l.length:Int)
   ·obtain ⟨k,hk⟩:=Int.eq_ofNat_of_zero_le h0.1
    have hkl:k<l.length:=by omega
    rw [decide_eq_true h0.1,decide_eq_true h0.2,Bool.and_self,Bool.not_true,cond_false,show q0s l x.1=some l[k] from by rw [hk];exact q0i hkl,Option.bind_some]
    cases hl:qb0 l[k].2.1 M with
    | none =>
     rw [j3j,Bool.not_false,cond_true,q0a,q03 (by omega)]
     refine ih _ fun p=>?_
     rw [qpu,← hM p,jyh hk hkl]
     refine (qsw p l[k].2.1 (k9w x) M).trans ?_
     by_cases e:p=l[k].2.1
     ·rw [if_pos e,e,hl,decide_eq_true rfl,if_pos rfl];rfl
     ·rw [if_neg e,decide_eq_false (fun e'=>e e'.symm),if_neg Bool.false_ne_true,Option.or_none]
    | some v =>
     rw [j5q,Bool.not_true,cond_false,q0a,q03 (by omega)]
     refine ih _ fun p=>?_
     rw [qpu,← hM p,jyh hk hkl]
     by_cases e:p=l[k].2.1
     ·rw [e,hl];rfl
     ·rw [decide_eq_false (fun e'=>e e'.symm),if_neg Bool.false_ne_true,Option.or_none]
   ·have hz:(decide (0≤x.1)&&decide (x.1<(l.length:Int)))=false:=by
     rw [Bool.and_eq_false_iff,decide_eq_false_iff_not,decide_eq_false_iff_not];omega
    rw [hz,Bool.not_false,cond_true,q0a,q03 (by omega)]
    refine ih _ fun p=>?_
    have hh:jn2 l p x=false:=by
     unfold jn2
     rw [← Bool.and_assoc,hz,Bool.false_and]
    rw [qpu,← hM p,hh,if_neg Bool.false_ne_true,Option.or_none]
  ·obtain rfl:j=r.length:=by omega
   rw [List.take_length] at hM
   rw [decide_eq_false (by omega),cond_false]
   exact ⟨M,rfl,hM⟩
theorem qfk (n:Nat) (q:List RD) (M:List (List UInt8×VD)) (hq:q.length≤1000) : ∀ (m j:Nat) (acc:List RD),acc.length≤j→j≤q.length→q.length - j<m →
  q67 n m q ((q.length:Nat):Int) (j:Int) M acc=some (((),()),((),(acc++(q.drop j).filterMap (fun x=>(qb0 x.1 M).map fun v=>(x.1,v)),())))
 | 0,j,_,_,_,h=>absurd h (Nat.not_lt_zero _)
 | m+1,j,acc,ha,hj,h=>by
  rw [qp9]
  unfold qyz
  by_cases c:j<q.length
  ·rw [decide_eq_true (by omega),cond_true,q0i c,Option.bind_some,List.drop_eq_getElem_cons c,List.filterMap_cons]
   cases hl:qb0 q[j].1 M with
   | none =>
    rw [j3j,cond_false,q0a,q03 (by omega)]
    exact qfk n q M hq m (j+1) acc (by omega) (by omega) (by omega)
   | some v =>
    rw [j5q,cond_true,q3u (by rw [List.length_singleton];omega),Option.bind_some,q0a,q03 (by omega)]
    refine (qfk n q M hq m (j+1) _ (by rw [List.length_append,List.length_singleton];omega) (by omega) (by omega)).trans ?_
    rw [List.append_assoc];rfl
  ·obtain rfl:j=q.length:=by omega
   rw [decide_eq_false (by omega),cond_false,List.drop_length,List.filterMap_nil,List.append_nil]
theorem qyx (n:Nat) (l:List MD) (r:List RlD) (a:Int) (hl:SmL l) (hr:r.length≤1000) (hn:1000<n):qc5 n l r a=some (j40 l r a):=by
 unfold qc5 j40
 rw [j3w,Option.bind_some]
 by_cases h0:0≤a∧a<(l.length:Int)
 ·obtain ⟨k,rfl⟩:=Int.eq_ofNat_of_zero_le h0.1
  have hkl:k<l.length:=by omega
  have hq:=(hl.2 _ (List.getElem_mem hkl)).2
  obtain ⟨M,m1,m2⟩:=qt0 n l (k:Int) r hr n 0 [] (Nat.zero_le _) (by omega) (fun p=>rfl)
  have m1':q60 n n l (k:Int) r ((r.length:Nat):Int) 0 []=_:=m1
  have hB:=qfk n l[k].2.2 M (by omega) n 0 [] (Nat.le_refl _) (Nat.zero_le _) (by omega)
  have hB':q67 n n l[k].2.2 ((l[k].2.2.length:Nat):Int) 0 M []=_:=hB
  rw [if_pos h0,decide_eq_true h0.1,decide_eq_true h0.2,Bool.and_self,Bool.not_true,cond_false,m1',Option.bind_some,q0i hkl,Option.bind_some,hB',Option.bind_some,Int.toNat_natCast,List.getElem?_eq_getElem hkl,List.drop_zero,List.nil_append]
  have hf:(fun x:RD=>(qb0 x.1 M).map fun v=>(x.1,v))=fun q=>(qmt l r q.1).map fun v=>(q.1,v):=by
   funext x
   rw [m2]
  show some (l[k].2.2.filterMap _)=some (l[k].2.2.filterMap _)
  rw [hf]
 ·have hz:(decide (0≤a)&&decide (a<(l.length:Int)))=false:=by
   rw [Bool.and_eq_false_iff,decide_eq_false_iff_not,decide_eq_false_iff_not];omega
  rw [if_neg h0,hz];rfl
theorem qih (n:Nat) (l:List MD) (r:List RlD) (a:Int) (i:Nat) (p:List UInt8) (acc:List RD) (hr:r.length≤1000) (hac:acc.length≤1000) : ∀ m j:Nat,j≤r.length→r.length - j<m →
  ∃ o,q2d n m l r a (i:Int) p (j:Int) acc=some o ∧
   (match qmt l (r.drop j) p with
   | none=>o=Sum.inr ((l,(r,(a,((),((i:Int),()))))),((),(acc,())))
   | some v=>∃ T,o=Sum.inl T∧T.1.1=l∧T.1.2.1=r∧T.1.2.2.1=a∧T.1.2.2.2.2.1=(i:Int)∧T.2.2.1=acc ++ [(p,v)])
 | 0,j,_,h=>absurd h (Nat.not_lt_zero _)
 | m+1,j,hj,h=>by
  rw [qjq]
  unfold qj5
  by_cases c:j<r.length
  ·obtain ⟨o,o1,o2⟩:=qih n l r a i p acc hr hac m (j+1) (by omega) (by omega)
   have hcons:qmt l (r.drop j) p=if jn2 l p r[j]=true then some (k9w r[j]) else qmt l (r.drop (j+1)) p:=by
    unfold qmt
    rw [List.drop_eq_getElem_cons c,List.find?_cons]
    cases jn2 l p r[j]<;>rfl
   have skip:jn2 l p r[j]=false→∃ o,q0f (IntKind.wrap .i64 ((j:Int)+1)) (fun n10=>q2d n m l r a (i:Int) p n10 acc)=some o ∧
     (match qmt l (r.drop j) p with
     | none=>o=Sum.inr ((l,(r,(a,((),((i:Int),()))))),((),(acc,())))
     | some v=>∃ T,o=Sum.inl T∧T.1.1=l∧T.1.2.1=r∧T.1.2.2.1=a∧T.1.2.2.2.2.1=(i:Int)∧T.2.2.1=acc ++ [(p,v)]):=by
    intro hh
    rw [q0a,q03 (by omega),hcons,hh,if_neg Bool.false_ne_true]
    exact ⟨o,o1,o2⟩
   rw [decide_eq_true (by omega),cond_true,q0i c,Option.bind_some]
   by_cases h0:0≤r[j].1
   ·rw [decide_eq_true h0,cond_true,Option.bind_some]
    by_cases h1:r[j].1<(l.length:Int)
    ·obtain ⟨k,hk⟩:=Int.eq_ofNat_of_zero_le h0
     have hkl:k<l.length:=by omega
     have hh:=jyh (p:=p) hk hkl
     rw [decide_eq_true h1,cond_true,Option.bind_some,show q0s l r[j].1=some l[k] from by rw [hk];exact q0i hkl,Option.bind_some]
     by_cases e:l[k].2.1=p
     ·rw [decide_eq_true e] at hh
      rw [decide_eq_true e,cond_true,Option.bind_some,q3u (by rw [List.length_singleton];omega),Option.bind_some,hcons,if_pos hh]
      exact ⟨_,rfl,_,rfl,rfl,rfl,rfl,rfl,rfl⟩
     ·rw [decide_eq_false e] at hh
      rw [decide_eq_false e,cond_false]
      exact skip hh
    ·rw [decide_eq_false h1,cond_false]
     refine skip ?_
     unfold jn2
     rw [decide_eq_false h1,Bool.false_and,Bool.and_false]
   ·rw [decide_eq_false h0,cond_false]
    refine skip ?_
    unfold jn2
    rw [decide_eq_false h0,Bool.false_and]
  ·obtain rfl:j=r.length:=by omega
   rw [decide_eq_false (by omega),cond_false,List.drop_length]
   exact ⟨_,rfl,rfl⟩
theorem qah (n:Nat) (l:List MD) (r:List RlD) (k:Nat) (hk:k<l.length) (hq:l[k].2.2.length≤500) (hr:r.length≤900) (hn:1000<n) : ∀ (m j:Nat) (acc:List RD),acc.length≤j→j≤l[k].2.2.length→l[k].2.2.length - j<m →
  q2c n m l r (k:Int) (j:Int) acc=some (((),()),((),(acc++(l[k].2.2.drop j).filterMap (fun x=>(qmt l r x.1).map fun v=>(x.1,v)),())))
 | 0,j,_,_,_,h=>absurd h (Nat.not_lt_zero _)
 | m+1,j,acc,ha,hj,h=>by
  rw [qkj]
  unfold qil
  rw [q0i hk,Option.bind_some]
  by_cases c:j<l[k].2.2.length
  ·obtain ⟨o,o1,o2⟩:=qih n l r (k:Int) j l[k].2.2[j].1 acc (by omega) (by omega) n 0 (Nat.zero_le _) (by omega)
   have o1':q2d n n l r (k:Int) (j:Int) l[k].2.2[j].1 0 acc=some o:=o1
   rw [List.drop_zero] at o2
   rw [decide_eq_true (by omega),cond_true,Option.bind_some,q0i c,Option.bind_some,o1',Option.bind_some,List.drop_eq_getElem_cons c,List.filterMap_cons]
   cases hv:qmt l r l[k].2.2[j].1 with
   | none =>
    rw [hv] at o2
    subst o2
    rw [Sum.elim_inr,q0a]
    show q2c n m l r (k:Int) (IntKind.wrap .i64 ((j:Int)+1)) acc=_
    rw [q03 (by omega)]
    exact qah n l r k hk hq hr hn m (j+1) acc (by omega) (by omega) (by omega)
   | some v =>
    rw [hv] at o2
    obtain ⟨T,rfl,t1,t2,t3,t4,t5⟩:=o2
    rw [Sum.elim_inl,t1,t2,t3,t4,t5,q0a,q03 (by omega)]
    refine (qah n l r k hk hq hr hn m (j+1) _ (by rw [List.length_append,List.length_singleton];omega) (by omega) (by omega)).trans ?_
    rw [List.append_assoc];rfl
  ·obtain rfl:j=l[k].2.2.length:=by omega
   rw [decide_eq_false (by omega),cond_false,List.drop_length,List.filterMap_nil,List.append_nil]
theorem qn3 (n:Nat) (l:List MD) (r:List RlD) (a:Int) (hl:SmL l) (hr:r.length≤900) (hn:1000<n):q4q n l r a=some (j40 l r a):=by
 unfold q4q j40
 by_cases c0:a<0
 ·rw [decide_eq_true c0,cond_true,if_neg (by omega)]
 rw [decide_eq_false c0,cond_false]
 by_cases c1:(l.length:Int)≤a
 ·rw [decide_eq_true c1,cond_true,if_neg (by omega)]
 obtain ⟨k,rfl⟩:=Int.eq_ofNat_of_zero_le (by omega:0≤a)
 have hkl:k<l.length:=by omega
 have hq:=(hl.2 _ (List.getElem_mem hkl)).2
 have hA:=qah n l r k hkl (by omega) hr hn n 0 [] (Nat.le_refl _) (Nat.zero_le _) (by omega)
 have hA':q2c n n l r (k:Int) 0 []=_:=hA
 rw [decide_eq_false c1,cond_false,hA',Option.bind_some,if_pos (by omega),Int.toNat_natCast,List.getElem?_eq_getElem hkl,List.drop_zero,List.nil_append]
theorem je7 (l:List MD) (r:List RlD) (a:Int) (hl:SmL l):(j40 l r a).length≤31:=by
 unfold j40
 split
 ·rename_i h0
  obtain ⟨k,rfl⟩:=Int.eq_ofNat_of_zero_le h0.1
  have hkl:k<l.length:=by omega
  rw [Int.toNat_natCast,List.getElem?_eq_getElem hkl]
  exact Nat.le_trans (List.length_filterMap_le ..) (hl.2 _ (List.getElem_mem hkl)).2
 ·exact Nat.zero_le _
theorem k92 {ms:List MD} {tg:List TgD} {wn:List WnD} {U:List Nat} (h:(jpj ms tg wn U).2=0):qc0 ms=0∧(j5w ms).length=ms.length∧q3c ms [] wn=0∧jrv ms tg wn (k79 ms U)=0∧(jpj ms tg wn U).1=(k79 ms U).map fun k=>(k45 ms tg wn k).1:=by
 unfold jpj at h ⊢
 by_cases c1:(q3z ms).2=0
 ·rw [if_pos c1] at h ⊢
  obtain ⟨k1,_,k2⟩:=qzm c1
  by_cases c2:q3c ms [] wn=0
  ·rw [if_pos c2] at h ⊢
   unfold k1n at h ⊢
   by_cases c3:jrv ms tg wn (k79 ms U)=0
   ·rw [if_pos c3];exact ⟨k1,k2,c2,c3,rfl⟩
   ·rw [if_neg c3] at h;exact absurd h c3
  ·rw [if_neg c2] at h;exact absurd h c2
 ·rw [if_neg c1] at h;exact absurd h c1
theorem k7a {ms:List MD} {tg:List TgD} {wn:List WnD} {U:List Nat} (h:(jpj ms tg wn U).2≠0):(jpj ms tg wn U).1 = []:=by
 unfold jpj at h ⊢
 by_cases c1:(q3z ms).2=0
 ·rw [if_pos c1] at h ⊢
  by_cases c2:q3c ms [] wn=0
  ·rw [if_pos c2] at h ⊢
   unfold k1n at h ⊢
   by_cases c3:jrv ms tg wn (k79 ms U)=0
   ·rw [if_pos c3] at h;exact absurd rfl h
   ·rw [if_neg c3]
  ·rw [if_neg c2]
 ·rw [if_neg c1]
theorem k7m (ms:List MD) (U:List Nat):(k79 ms U).length≤ms.length:=Nat.le_trans (List.length_filter_le ..) (j6t ms)
theorem k59 (ms:List MD) (tg:List TgD) (wn:List WnD) (U:List Nat):(jpj ms tg wn U).1.length≤ms.length:=by
 by_cases c:(jpj ms tg wn U).2=0
 ·rw [(k92 c).2.2.2.2,List.length_map];exact k7m ms U
 ·rw [k7a c];exact Nat.zero_le _
end Go.Proofs.YtggoebaobojmjaaGreatDoor.AM
namespace Go.Proofs.YtggoebaobojmjaaGreatDoor.AM
open Go.RowKit Gr
set_option linter.unusedVariables false
set_option linter.unusedSimpArgs false
theorem qwy (n:Nat) (ms:List MD) (tg:List TgD) (ch:List Int) (wn:List WnD) (l:List RlD) (a:Int) (r s:List RlD) (e f:Int) (hl:l.length≤1000) : ∀ m j:Nat,j≤l.length→l.length - j<m →
  q1e n m l a r e s f (j:Int) ms tg ch wn (l.take j)=some ((l,(a,((),(r,(e,(s,(f,((),())))))))),(((ms,(tg,(ch,wn))),()),(l,())))
 | 0,j,_,h=>absurd h (Nat.not_lt_zero _)
 | m+1,j,hj,h=>by
  rw [qee]
  unfold qao
  by_cases c:j<l.length
  ·rw [decide_eq_true (by omega),cond_true,q0i c,Option.bind_some,q3u (by rw [List.length_singleton,List.length_take];omega),Option.bind_some,q0a,q03 (by omega),← List.take_succ_eq_append_getElem c]
   exact qwy n ms tg ch wn l a r s e f hl m (j+1) (by omega) (by omega)
  ·obtain rfl:j=l.length:=by omega
   rw [decide_eq_false (by omega),cond_false,List.take_length]
theorem j8n (n:Nat) (hn:9223372036854775807<n) (hv:qbd n=some true) (ms:List MD) (tg:List TgD) (ch:List Int) (wn:List WnD) (l:List RlD) (a:Int) (h1:ms.length≤9223372036854775807) (h2:tg.length≤9223372036854775807) (h4:wn.length≤9223372036854775807) :
  q7b n (ms,(tg,(ch,wn))) l a=some true:=by
 obtain ⟨b,k1,k2⟩:=j9n n ms tg ch wn h1 h2 h4 hn
 unfold q7b
 rw [k1,Option.bind_some,hv]
 cases b with
 | false=>rfl
 | true =>
  have hs:=k2 rfl
  obtain ⟨s1,s2,s3,s4⟩:=hs
  have h20:=s1.1
  rw [Bool.not_true,cond_false]
  by_cases c:20<l.length
  ·rw [decide_eq_true (by omega)];rfl
  rw [decide_eq_false (by omega),cond_false]
  obtain ⟨U,u1,u2⟩:=j1x ms tg ch wn s1 (by omega) (by omega) (by omega)
  have u3:=qu9 n ms tg ch wn U s1 (by omega) (by omega) (by omega) (by omega) u2
  have hrl:=k59 ms tg wn U
  show (qlz n wn).bind _=_
  rw [jit n wn (by omega) (by omega),Option.bind_some]
  show (q1l ms tg ch wn).bind _=_
  rw [u1,Option.bind_some]
  show (q47 n ms tg ch wn).bind _=_
  rw [u3,Option.bind_some]
  generalize jpj ms tg wn U=R at hrl ⊢
  have hL:=qwy n ms tg ch wn l a R.1 R.1 R.2 R.2 (by omega) n 0 (Nat.zero_le _) (by omega)
  have hL':q1e n n l a R.1 R.2 R.1 R.2 0 ms tg ch wn []=_:=hL
  show (q1e n n l a R.1 R.2 R.1 R.2 0 ms tg ch wn []).bind _=_
  rw [hL',Option.bind_some]
  show (qeu n R.1).bind _=_
  rw [je8 n _ (by omega) (by omega),Option.bind_some]
  show (qf1 n R.1 R.1).bind _=_
  rw [jbm n _ (by omega) (by omega),Option.bind_some,cond_true]
  show (bif decide (R.2=R.2) then (qc5 n ms R.1 a).bind _ else _)=_
  have e1:=je7 ms R.1 a s1
  have e2:=je7 ms l a s1
  rw [decide_eq_true rfl,cond_true,qyx n ms R.1 a s1 (by omega) (by omega),Option.bind_some]
  show (q4q n ms R.1 a).bind _=_
  rw [qn3 n ms R.1 a s1 (by omega) (by omega),Option.bind_some,qtb n _ (by omega) (by omega),Option.bind_some,cond_true]
  show (qc5 n ms l a).bind _=_
  rw [qyx n ms l a s1 (by omega) (by omega),Option.bind_some]
  show (q4q n ms l a).bind _=_
  rw [qn3 n ms l a s1 (by omega) (by omega),Option.bind_some,qtb n _ (by omega) (by omega),Option.bind_some,cond_true]
  rfl
end Go.Proofs.YtggoebaobojmjaaGreatDoor.AM
namespace Go.Proofs.YtggoebaobojmjaaGreatDoor.AM
open Go.RowKit Gr
set_option linter.unusedVariables false
set_option linter.unusedSimpArgs false
end Go.Proofs.YtggoebaobojmjaaGreatDoor.AM
namespace Go.Proofs.YtggoebaobojmjaaGreatDoor.AM
open Go.RowKit
set_option linter.unusedVariables false
set_option maxRecDepth 100000
abbrev joe:Nat:=9223372036854775808
theorem k99:qbd joe=some true:=by kernel_rfl
abbrev LTgTy:Ty:=.lst (.prod .str (.prod (.int .i64) (.prod (.int .i64) (.prod (.int .i64) (.prod .str (.prod .str .str))))))
abbrev LMdTy:Ty:=.lst (.prod .str (.prod .str (.lst (.prod .str (.prod (.int .i64) (.prod (.int .i64) (.prod (.int .i64) (.prod .str .str))))))))
abbrev LWnTy:Ty:=.lst (.prod .str (.int .i64))
abbrev RlTy:Ty:=.prod (.int .i64) (.prod .bool (.prod (.int .i64) (.prod (.int .i64) (.prod (.int .i64) (.prod .str (.prod .str (.prod (.int .i64) (.prod (.int .i64) (.prod (.int .i64) (.prod .str (.prod .str (.int .i64))))))))))))
abbrev CsTy:Ty:=.prod LMdTy (.prod LTgTy (.prod (.lst (.int .i64)) LWnTy))
theorem k6s {n:Nat} (h:n≤maxLen):n≤9223372036854775807:=Nat.le_trans h (by unfold maxLen;omega)
theorem qu0 (c:den CsTy) (l:den (.lst RlTy)) (a:Int) (hc:j7p CsTy c) (_:j7p (.lst RlTy) l) (_:(Lit.int .i64 a).wf=true):q7b joe c l a=some true:=by
 obtain ⟨ms,tg,ch,wn⟩:=c
 exact j8n joe (by decide) k99 ms tg ch wn l a (k6s hc.1.1) (k6s hc.2.1.1) (k6s hc.2.2.2.1)
end Go.Proofs.YtggoebaobojmjaaGreatDoor.AM
namespace Go.Proofs.YtggoebaobojmjaaGreatDoor.AM
open Go.RowKit
set_option linter.unusedVariables false
set_option linter.unusedSimpArgs false
theorem jkw : "*" ++ "errors.errorString" = "*errors.errorString":=by decide
theorem jua (u:TypeId) (h:Tryz.prog.typeName? 3 u=some "*errors.errorString"):u=199 :=
 typeName_ptr_named (nm := "errors.errorString") (by rw [jkw];kernel_rfl) (by kernel_rfl) (by decide) u (by rw [jkw];exact h)
theorem kad:(Rows.laid_internal_strconv_uint64pow10:DataW Unit)=Lib.tabData .u64 Lib.pow10Tab:=by rfl
theorem k9s:Tryz.prog.globalNamed "internal/strconv.uint64pow10" = some ((Tryz.prog.globalNamed "internal/strconv.uint64pow10").getD 0)∧(Tryz.prog.globals[(Tryz.prog.globalNamed "internal/strconv.uint64pow10").getD 0]?).map (·.type)=some 202:=⟨by kernel_rfl,by kernel_rfl⟩
theorem k57:Tryz.prog.globalNamed "strconv.ErrSyntax" = some (Tryz.laysAtoi_ren.g 15)∧(Tryz.prog.globals[Tryz.laysAtoi_ren.g 15]?).map (·.type)=some 138:=⟨by kernel_rfl,by kernel_rfl⟩
theorem k7f:Tryz.prog.globalNamed "strconv.ErrRange" = some (Tryz.laysAtoi_ren.g 16)∧(Tryz.prog.globals[Tryz.laysAtoi_ren.g 16]?).map (·.type)=some 138:=⟨by kernel_rfl,by kernel_rfl⟩
theorem jes:Tryz.prog.cellsOf 201=1:=by kernel_rfl
theorem jdn:Tryz.prog.cellsOf 9=1:=by kernel_rfl
theorem k8p {w:World} (hsh:w.ShapedOpen Tryz.prog)
  (hL:laidMet Tryz.prog [("math/bits.deBruijn32tab",Rows.laid_math_bits_deBruijn32tab),("math/bits.deBruijn64tab",Rows.laid_math_bits_deBruijn64tab),("internal/strconv.uint64pow10",Rows.laid_internal_strconv_uint64pow10),("unicode/utf8.acceptRanges",Rows.laid_unicode_utf8_acceptRanges),("strconv.ErrRange",Rows.laid_strconv_ErrRange),("strconv.ErrSyntax",Rows.laid_strconv_ErrSyntax),("unicode/utf8.first",Rows.laid_unicode_utf8_first)] w):Inv w:=by
 obtain ⟨m,hm⟩:=Tryz.laysIndex.s1_3 w hsh
 have h3:=hL.tail.tail
 rw [kad] at h3
 have h5:=hL.tail.tail.tail.tail
 unfold Rows.laid_strconv_ErrRange at h5
 have h6:=hL.tail.tail.tail.tail.tail
 unfold Rows.laid_strconv_ErrSyntax at h6
 obtain ⟨a0,s0,hv0,-,-,-⟩:=laid_sentinel h5 k7f.1 k7f.2 Tryz.underlying138 jua Tryz.underlying199 Tryz.underlying201 rfl rfl Tryz.underlying9 jes jdn
 obtain ⟨a1,s1,hv1,-,-,-⟩:=laid_sentinel h6 k57.1 k57.2 Tryz.underlying138 jua Tryz.underlying199 Tryz.underlying201 rfl rfl Tryz.underlying9 jes jdn
 have c0:w.cell? ⟨Tryz.laysAtoi_ren.g 16,0,none⟩=some (.iface 199 (.pointer (some a0))):=by have h0:=World.var?_cell k7f.1 hv0 0;simpa using h0
 have c1:w.cell? ⟨Tryz.laysAtoi_ren.g 15,0,none⟩=some (.iface 199 (.pointer (some a1))):=by have h0:=World.var?_cell k57.1 hv1 0;simpa using h0
 exact ⟨⟨m,hm⟩,Lib.tabIs_of_head k9s.1 k9s.2 (n:=20) (e:=179) (by kernel_rfl) (by kernel_rfl) (by kernel_rfl) (by kernel_rfl) h3,⟨_,_,c1⟩,⟨_,_,c0⟩⟩
end Go.Proofs.YtggoebaobojmjaaGreatDoor.AM
