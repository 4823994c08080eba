
import Derived.Test.YtggoebaobojmjaaGreatDoorBp24
import Derived.Test.YtggoebaobojmjaaGreatDoorBp25
import Derived.Test.YtggoebaobojmjaaGreatDoorBp8
import Derived.Test.YtggoebaobojmjaaGreatDoorRows
import Derived.Test.YtggoebaobojmjaaGreatDoorBp9
import Derived.LaidLaws
namespace Go.Proofs.YtggoebaobojmjaaGreatDoor.AM
open Go.RowKit Gr
set_option linter.unusedVariables false
set_option linter.unusedSimpArgs false
theorem jp6 {i:Nat} (h:i+1≤9223372036854775807):IntKind.wrap .i64 ((i:Int)+1)=((i+1:Nat):Int):=by rw [wrap64 (by omega) (by omega)];rfl
theorem j7k (n:Nat) (w:List WnD) (hw:w.length≤9223372036854775807) (hn:9223372036854775807<n) : ∃ b,qoq n w=some b∧(b=true→w.length≤20):=by
 have loop : ∀ m j:Nat,j≤w.length→w.length - j<m→q7l n m w (j:Int)=some (if (w.drop j).any (fun x=>decide (200<x.1.length))=true then Sum.inl ((false,()),((),())) else Sum.inr ((w,()),((),()))):=by
  intro m
  induction m with
  | zero=>intro j _ h;exact absurd h (Nat.not_lt_zero _)
  | succ m ih =>
   intro j hj h
   rw [qjj]
   unfold qrk
   by_cases c:j<w.length
   ·rw [decide_eq_true (by omega),cond_true,q0m c,Option.bind_some,List.drop_eq_getElem_cons c,List.any_cons]
    by_cases e:200<w[j].1.length
    ·rw [decide_eq_true (by omega),cond_true,decide_eq_true e,Bool.true_or,if_pos rfl]
    ·rw [decide_eq_false (by omega),cond_false,decide_eq_false e,Bool.false_or,q0h,jp6 (by omega)]
     exact ih (j+1) (by omega) (by omega)
   ·obtain rfl:j=w.length:=by omega
    rw [decide_eq_false (by omega),cond_false,List.drop_length,List.any_nil,if_neg Bool.false_ne_true]
 have h:=loop n 0 (Nat.zero_le _) (by omega)
 unfold qoq
 rw [show (0:Int)=((0:Nat):Int) from rfl,h,Option.bind_some]
 split
 ·exact ⟨false,rfl,fun h=>by cases h⟩
 ·exact ⟨decide (w.length≤20),by
   show some (decide (((w.length:Nat):Int)≤20))=_
   rw [decide_eq_decide.2 (by omega:((w.length:Nat):Int)≤20↔w.length≤20)],fun h=>of_decide_eq_true h⟩
structure Sm18 (ms:List MD) (tg:List TgD) (ch:List Int) (wn:List WnD):Prop where
 sm:SmL ms
 tg:tg.length≤60
 ch:ch.length≤30
 wn:wn.length≤20
theorem Sml.smL {l:List MD} (h:Sml l):SmL l:=⟨h.1,fun m hm=>by
 obtain ⟨h1,_,h2,_⟩:=h.2 m hm
 exact ⟨h1,by omega⟩⟩
theorem qhv (n:Nat) (ms:List MD) (tg:List TgD) (ch:List Int) (wn:List WnD) (h1:ms.length≤9223372036854775807) (h2:tg.length≤9223372036854775807) (h4:wn.length≤9223372036854775807) (hn:9223372036854775807<n) :
  ∃ b,q90 n (ms,(tg,(ch,wn)))=some b∧(b=true→Sm18 ms tg ch wn):=by
 obtain ⟨b,k1,k2⟩:=qyw n ms h1 hn
 obtain ⟨c,k3,k4⟩:=j7k n wn h4 hn
 unfold q90
 rw [k1,Option.bind_some]
 cases b with
 | false=>exact ⟨false,rfl,fun h=>by cases h⟩
 | true =>
  rw [cond_true,qru n tg h2 (by omega),Option.bind_some]
  cases hf:jz4 tg with
  | false=>exact ⟨false,rfl,fun h=>by cases h⟩
  | true =>
   rw [cond_true]
   by_cases e:ch.length≤30
   ·rw [decide_eq_true (show ((ch.length:Nat):Int)≤30 by omega),cond_true,k3,Option.bind_some]
    exact ⟨c,rfl,fun h=>⟨(k2 rfl).smL,(juj hf).1,e,k4 h⟩⟩
   ·rw [decide_eq_false (show ¬ ((ch.length:Nat):Int)≤30 by omega),cond_false]
    exact ⟨false,rfl,fun h=>by cases h⟩
theorem qpo (n:Nat) (w:List WnD) (hw:w.length≤1000) (hn:1000<n):q7d n w=some w:=by
 have loop : ∀ m j:Nat,j≤w.length→w.length - j<m→q4z n m w (j:Int) (w.take j)=some (((),()),((),(w,()))):=by
  intro m
  induction m with
  | zero=>intro j _ h;exact absurd h (Nat.not_lt_zero _)
  | succ m ih =>
   intro j hj h
   rw [qjr]
   unfold qsw
   by_cases c:j<w.length
   ·rw [decide_eq_true (by omega),cond_true,q0m c,Option.bind_some,qce (by rw [List.length_singleton,List.length_take];omega),Option.bind_some,q0h,q04 (by omega),← List.take_succ_eq_append_getElem c]
    exact ih (j+1) (by omega) (by omega)
   ·obtain rfl:j=w.length:=by omega
    rw [decide_eq_false (by omega),cond_false,List.take_length]
 have h:=loop n 0 (Nat.zero_le _) (by omega)
 have h':q4z n n w 0 []=_:=h
 unfold q7d
 rw [h'];rfl
theorem qxb {α β:Type} (z:β) (f:β→Bool→Option α):jk8 none z f=f z false:=rfl
theorem qw0 {α β:Type} (v z:β) (f:β→Bool→Option α):jk8 (some v) z f=f v true:=rfl
theorem qmy {β:Type} (p k:List UInt8) (y:β) : ∀ m:List (List UInt8×β),q8i p (jub k y m)=if p=k then some y else q8i p m
 | []=>by
  show (if p=k then some y else q8i p [])=_
  rfl
 | (k',v)::m=>by
  unfold jub
  by_cases h:k=k'
  ·subst h
   rw [if_pos rfl]
   show (if p=k then some y else q8i p m)=if p=k then some y else (if p=k then some v else q8i p m)
   by_cases e:p=k
   ·rw [if_pos e,if_pos e]
   ·rw [if_neg e,if_neg e,if_neg e]
  ·rw [if_neg h]
   show (if p=k' then some v else q8i p (jub k y m))=if p=k then some y else (if p=k' then some v else q8i p m)
   rw [qmy p k y m]
   by_cases e:p=k'
   ·rw [if_pos e,if_pos e,if_neg (fun e'=>h (e'.symm.trans e))]
   ·rw [if_neg e,if_neg e]
theorem qld (l:List MD) (r:List RlD) (x:RlD) (p:List UInt8):qah l (r ++ [x]) p=(qah l r p).or (if qo8 l p x=true then some (j8x x) else none):=by
 unfold qah
 rw [List.find?_append]
 cases r.find? (qo8 l p) with
 | some y=>rfl
 | none =>
  show (([x].find? (qo8 l p)).map j8x)=_
  rw [List.find?_cons,List.find?_nil]
  cases qo8 l p x<;>rfl
theorem qx1 (n:Nat) (l:List MD) (a:Int):qsu n l a=some (decide (0≤a)&&decide (a<(l.length:Int))):=by
 unfold qsu
 cases decide (0≤a)<;>rfl
theorem j3t {l:List MD} {p:List UInt8} {x:RlD} {k:Nat} (h:x.1=(k:Int)) (hk:k<l.length):qo8 l p x=decide (l[k].2.1=p):=by
 unfold qo8
 rw [h,decide_eq_true (by omega),decide_eq_true (by omega),Int.toNat_natCast,List.getElem?_eq_getElem hk,Bool.true_and,Bool.true_and]
 exact decide_eq_decide.2 ⟨fun e=>Option.some.inj e,fun e=>congrArg some e⟩
theorem qni (n:Nat) (l:List MD) (a:Int) (r:List RlD) (hr:r.length≤1000) : ∀ (m j:Nat) (M:List (List UInt8×VD)),j≤r.length→r.length - j<m→(∀ p,q8i p M=qah l (r.take j) p) →
  ∃ M':List (List UInt8×VD),q56 n m l a r ((r.length:Nat):Int) (j:Int) M=some ((l,(a,((),()))),((M',()),()))∧∀ p,q8i p M'=qah l r p
 | 0,j,_,_,h,_=>absurd h (Nat.not_lt_zero _)
 | m+1,j,M,hj,h,hM=>by
  rw [qkc]
  unfold qqs
  by_cases c:j<r.length
  ·have htk:r.take (j+1)=r.take j ++ [r[j]]:=List.take_succ_eq_append_getElem c
   rw [decide_eq_true (by omega),cond_true,q0m c,Option.bind_some,qx1,Option.bind_some]
   have ih:=fun M' hM'=>qni n l a r hr m (j+1) M' (by omega) (by omega) hM'
   rw [htk] at ih
   generalize r[j]=x at ih ⊢
   by_cases h0:0≤x.1∧x.1<(l.length:Int)
   ·obtain ⟨k,hk⟩:=Int.eq_ofNat_of_zero_le h0.1
    have hkl:k<l.length:=by omega
    rw [decide_eq_true h0.1,decide_eq_true h0.2,Bool.and_self,Bool.not_true,cond_false,show q1a l x.1=some l[k] from by rw [hk];exact q0m hkl,Option.bind_some]
    cases hl:q8i l[k].2.1 M with
    | none =>
     rw [qxb,Bool.not_false,cond_true,q0h,q04 (by omega)]
     refine ih _ fun p=>?_
     rw [qld,← hM p,j3t hk hkl]
     refine (qmy p l[k].2.1 (j8x x) M).trans ?_
     by_cases e:p=l[k].2.1
     ·rw [if_pos e,e,hl,decide_eq_true rfl,if_pos rfl];rfl
     ·rw [if_neg e,decide_eq_false (fun e'=>e e'.symm),if_neg Bool.false_ne_true,Option.or_none]
    | some v =>
     rw [qw0,Bool.not_true,cond_false,q0h,q04 (by omega)]
     refine ih _ fun p=>?_
     rw [qld,← hM p,j3t hk hkl]
     by_cases e:p=l[k].2.1
     ·rw [e,hl];rfl
     ·rw [decide_eq_false (fun e'=>e e'.symm),if_neg Bool.false_ne_true,Option.or_none]
   ·have hz:(decide (0≤x.1)&&decide (x.1<(l.length:Int)))=false:=by
     rw [Bool.and_eq_false_iff,decide_eq_false_iff_not,decide_eq_false_iff_not];omega
    rw [hz,Bool.not_false,cond_true,q0h,q04 (by omega)]
    refine ih _ fun p=>?_
    have hh:qo8 l p x=false:=by
     unfold qo8
     rw [← Bool.and_assoc,hz,Bool.false_and]
    rw [qld,← hM p,hh,if_neg Bool.false_ne_true,Option.or_none]
  ·obtain rfl:j=r.length:=by omega
   rw [List.take_length] at hM
   rw [decide_eq_false (by omega),cond_false]
   exact ⟨M,rfl,hM⟩
theorem qbu (n:Nat) (q:List RD) (M:List (List UInt8×VD)) (hq:q.length≤1000) : ∀ (m j:Nat) (acc:List RD),acc.length≤j→j≤q.length→q.length - j<m →
  q4q n m q ((q.length:Nat):Int) (j:Int) M acc=some (((),()),((),(acc++(q.drop j).filterMap (fun x=>(q8i x.1 M).map fun v=>(x.1,v)),())))
 | 0,j,_,_,_,h=>absurd h (Nat.not_lt_zero _)
 | m+1,j,acc,ha,hj,h=>by
  rw [qlo]
  unfold qtz
  by_cases c:j<q.length
  ·rw [decide_eq_true (by omega),cond_true,q0m c,Option.bind_some,List.drop_eq_getElem_cons c,List.filterMap_cons]
   cases hl:q8i q[j].1 M with
   | none =>
    rw [qxb,cond_false,q0h,q04 (by omega)]
    exact qbu n q M hq m (j+1) acc (by omega) (by omega) (by omega)
   | some v =>
    rw [qw0,cond_true,qce (by rw [List.length_singleton];omega),Option.bind_some,q0h,q04 (by omega)]
    refine (qbu n q M hq m (j+1) _ (by rw [List.length_append,List.length_singleton];omega) (by omega) (by omega)).trans ?_
    rw [List.append_assoc];rfl
  ·obtain rfl:j=q.length:=by omega
   rw [decide_eq_false (by omega),cond_false,List.drop_length,List.filterMap_nil,List.append_nil]
theorem jad (n:Nat) (l:List MD) (r:List RlD) (a:Int) (hl:SmL l) (hr:r.length≤1000) (hn:1000<n):qih n l r a=some (jej l r a):=by
 unfold qih jej
 rw [qx1,Option.bind_some]
 by_cases h0:0≤a∧a<(l.length:Int)
 ·obtain ⟨k,rfl⟩:=Int.eq_ofNat_of_zero_le h0.1
  have hkl:k<l.length:=by omega
  have hq:=(hl.2 _ (List.getElem_mem hkl)).2
  obtain ⟨M,m1,m2⟩:=qni n l (k:Int) r hr n 0 [] (Nat.zero_le _) (by omega) (fun p=>rfl)
  have m1':q56 n n l (k:Int) r ((r.length:Nat):Int) 0 []=_:=m1
  have hB:=qbu n l[k].2.2 M (by omega) n 0 [] (Nat.le_refl _) (Nat.zero_le _) (by omega)
  have hB':q4q n n l[k].2.2 ((l[k].2.2.length:Nat):Int) 0 M []=_:=hB
  rw [if_pos h0,decide_eq_true h0.1,decide_eq_true h0.2,Bool.and_self,Bool.not_true,cond_false,m1',Option.bind_some,q0m hkl,Option.bind_some,hB',Option.bind_some,Int.toNat_natCast,List.getElem?_eq_getElem hkl,List.drop_zero,List.nil_append]
  have hf:(fun x:RD=>(q8i x.1 M).map fun v=>(x.1,v))=fun q=>(qah l r q.1).map fun v=>(q.1,v):=by
   funext x
   rw [m2]
  show some (l[k].2.2.filterMap _)=some (l[k].2.2.filterMap _)
  rw [hf]
 ·have hz:(decide (0≤a)&&decide (a<(l.length:Int)))=false:=by
   rw [Bool.and_eq_false_iff,decide_eq_false_iff_not,decide_eq_false_iff_not];omega
  rw [if_neg h0,hz];rfl
theorem jdc {ms:List MD} {tg:List TgD} {wn:List WnD} {U:List Nat} (h:(q59 ms tg wn U).2=0):qwk ms=0∧(jcb ms).length=ms.length∧q3p ms [] wn=0∧jj6 ms tg wn (quk ms U)=0∧(q59 ms tg wn U).1=(quk ms U).map fun k=>(j6z ms tg wn k).1:=by
 unfold q59 at h ⊢
 by_cases c1:(q2s ms).2=0
 ·rw [if_pos c1] at h ⊢
  obtain ⟨k1,_,k2⟩:=qp9 c1
  by_cases c2:q3p ms [] wn=0
  ·rw [if_pos c2] at h ⊢
   unfold jt1 at h ⊢
   by_cases c3:jj6 ms tg wn (quk ms U)=0
   ·rw [if_pos c3];exact ⟨k1,k2,c2,c3,rfl⟩
   ·rw [if_neg c3] at h;exact absurd h c3
  ·rw [if_neg c2] at h;exact absurd h c2
 ·rw [if_neg c1] at h;exact absurd h c1
theorem jmh {ms:List MD} {tg:List TgD} {wn:List WnD} {U:List Nat} (h:(q59 ms tg wn U).2≠0):(q59 ms tg wn U).1 = []:=by
 unfold q59 at h ⊢
 by_cases c1:(q2s ms).2=0
 ·rw [if_pos c1] at h ⊢
  by_cases c2:q3p ms [] wn=0
  ·rw [if_pos c2] at h ⊢
   unfold jt1 at h ⊢
   by_cases c3:jj6 ms tg wn (quk ms U)=0
   ·rw [if_pos c3] at h;exact absurd rfl h
   ·rw [if_neg c3]
  ·rw [if_neg c2]
 ·rw [if_neg c1]
theorem jx8 (ms:List MD) (U:List Nat):(quk ms U).length≤ms.length:=Nat.le_trans (List.length_filter_le ..) (j77 ms)
theorem jf9 {ms:List MD} {U:List Nat} {k:Nat} (h:k∈quk ms U):k<ms.length:=(j4m ms).lt k (List.mem_filter.1 h).1
theorem j7h (ms:List MD) (tg:List TgD) (wn:List WnD) (U:List Nat):(q59 ms tg wn U).1.length≤ms.length:=by
 by_cases c:(q59 ms tg wn U).2=0
 ·rw [(jdc c).2.2.2.2,List.length_map];exact jx8 ms U
 ·rw [jmh c];exact Nat.zero_le _
theorem j8j {ms:List MD} {tg:List TgD} {wn:List WnD} {k:Nat} (hk:k<ms.length):(j6z ms tg wn k).1.1=(k:Int):=by rw [jmx tg wn hk]
end Go.Proofs.YtggoebaobojmjaaGreatDoor.AM
namespace Go.Proofs.YtggoebaobojmjaaGreatDoor.AM
open Go.RowKit Gr
set_option linter.unusedVariables false
set_option linter.unusedSimpArgs false
theorem jho (n:Nat) (hn:9223372036854775807<n) (hv:q0w n=some true) (p:List UInt8) (l:List TgD) (k:Int) (hl:l.length≤9223372036854775807):qdh n p l k=some true:=by
 unfold qdh
 rw [qru n l hl (by omega),Option.bind_some,hv]
 cases hf:jz4 l with
 | false=>rfl
 | true =>
  have hl60:=(juj hf).1
  rw [Bool.not_true,cond_false]
  by_cases c:200<p.length
  ·rw [decide_eq_true (by omega)];rfl
  ·rw [decide_eq_false (by omega),cond_false,qqf n p (by omega) (by omega),Option.bind_some,qhk n p (by omega) (by omega),Option.bind_some,qwu n p l k (by omega) (by omega) (by omega),Option.bind_some,j68 n p l k (by omega) (by omega) (by omega),Option.bind_some]
   simp only [decide_true,Bool.and_self,cond_true,Option.bind_some]
theorem k01 {α:Type} {a b:α} {l1 l2:List α} (h:(a::l1).Sublist (b::l2)) (e:a≠b):(a::l1).Sublist l2:=by
 cases h with
 | cons _ h=>exact h
 | cons_cons _ h=>exact absurd rfl e
theorem q7y (n:Nat) (A B:List RlD) (hA:A.length≤1000) (hB:B.length≤1000) : ∀ m k j:Nat,k≤A.length→j≤B.length→(A.drop k).Sublist (B.drop j)→B.length - j<m →
  q1q n m A B (k:Int) (j:Int)=some ((A,((A.length:Nat):Int),()),((),()))
 | 0,k,j,_,_,_,h=>absurd h (Nat.not_lt_zero _)
 | m+1,k,j,hk,hj,hs,h=>by
  rw [qg8]
  unfold qjm
  by_cases c:j<B.length
  ·have hdB:=List.drop_eq_getElem_cons c
   rw [decide_eq_true (by omega),cond_true]
   by_cases d:k<A.length
   ·have hdA:=List.drop_eq_getElem_cons d
    rw [decide_eq_true (by omega),cond_true,q0m d,Option.bind_some,q0m c,Option.bind_some]
    rw [hdA,hdB] at hs
    have key : ∀ x y:RlD,(decide (x.1=y.1)&&(decide (x.2.1=y.2.1)&&((decide (x.2.2.1=y.2.2.1)&&(decide (x.2.2.2.1=y.2.2.2.1)&&(decide (x.2.2.2.2.1=y.2.2.2.2.1)&&(decide (x.2.2.2.2.2.1=y.2.2.2.2.2.1)&&(decide (x.2.2.2.2.2.2.1=y.2.2.2.2.2.2.1)&&true)))))&&((decide (x.2.2.2.2.2.2.2.1=y.2.2.2.2.2.2.2.1)&&(decide (x.2.2.2.2.2.2.2.2.1=y.2.2.2.2.2.2.2.2.1)&&(decide (x.2.2.2.2.2.2.2.2.2.1=y.2.2.2.2.2.2.2.2.2.1)&&(decide (x.2.2.2.2.2.2.2.2.2.2.1=y.2.2.2.2.2.2.2.2.2.2.1)&&(decide (x.2.2.2.2.2.2.2.2.2.2.2.1=y.2.2.2.2.2.2.2.2.2.2.2.1)&&true)))))&&(decide (x.2.2.2.2.2.2.2.2.2.2.2.2=y.2.2.2.2.2.2.2.2.2.2.2.2)&&true)))))=true↔x=y:=by
     rintro ⟨x1,x2,x3,x4,x5,x6,x7,x8,x9,xa,xb,xc,xd⟩ ⟨y1,y2,y3,y4,y5,y6,y7,y8,y9,ya,yb,yc,yd⟩
     simp only [Bool.and_eq_true,decide_eq_true_eq,Prod.mk.injEq,and_true,and_assoc]
    by_cases e:A[k]=B[j]
    ·rw [(key A[k] B[j]).2 e,cond_true,q0h,q0h,q04 (by omega),q04 (by omega)]
     rw [e] at hs
     exact q7y n A B hA hB m (k+1) (j+1) (by omega) (by omega) (List.cons_sublist_cons.1 hs) (by omega)
    ·have hne:=mt (key A[k] B[j]).1 e
     rw [Bool.not_eq_true] at hne
     rw [hne,cond_false,q0h,q04 (by omega)]
     refine q7y n A B hA hB m k (j+1) hk (by omega) ?_ (by omega)
     rw [hdA]
     exact k01 hs e
   ·have hkA:k=A.length:=by omega
    rw [decide_eq_false (by omega),cond_false,q0h,q04 (by omega)]
    refine q7y n A B hA hB m k (j+1) hk (by omega) ?_ (by omega)
    rw [hkA,List.drop_length];exact List.nil_sublist _
  ·have hjB:j=B.length:=by omega
   rw [hjB,List.drop_length,List.sublist_nil,List.drop_eq_nil_iff] at hs
   have hkA:k=A.length:=by omega
   rw [decide_eq_false (by omega),cond_false,hkA]
theorem jvf {ms:List MD} (k:Nat) : ¬ UpP ms [] k:=fun ⟨i,h,_⟩=>by cases h
theorem jst {ms:List MD} {U:List Nat} {P:Nat→Prop} (h:IsF ms.length P U) (hP : ∀ k,¬ P k):U = []:=by
 cases U with
 | nil=>rfl
 | cons x U=>exact absurd ((h.mem x).1 (List.mem_cons_self ..)).2 (hP x)
theorem jqk {ms:List MD} {tg:List TgD} {U:List Nat} (hU:qwk ms=0→q3p ms [] []=0→IsF ms.length (UpP ms ([]++iL (k0e ms []))) U):(q59 ms tg [] U).1 = []∧(q59 ms tg [] U).2=(q2s ms).2:=by
 unfold q59
 by_cases c1:(q2s ms).2=0
 ·have:U = []:=jst (hU (qp9 c1).1 rfl) fun k=>jvf k
  subst this
  have hd:quk ms [] = []:=List.filter_eq_nil_iff.2 fun a _=>by simp
  rw [if_pos c1,if_pos (show q3p ms [] []=0 from rfl),hd]
  exact ⟨rfl,c1.symm⟩
 ·rw [if_neg c1];exact ⟨rfl,rfl⟩
theorem jwq {ms:List MD} {U V:List Nat} (h : ∀ k,k∈U→k∈V):(quk ms U).Sublist (quk ms V):=by
 unfold quk
 have:(jcb ms).filter U.contains=((jcb ms).filter V.contains).filter U.contains:=by
  rw [List.filter_filter]
  apply List.filter_congr
  intro x _
  cases hU:U.contains x with
  | false=>rfl
  | true=>rw [List.contains_iff_mem.2 (h x (List.contains_iff_mem.1 hU))];rfl
 rw [this];exact List.filter_sublist
theorem jjk (n:Nat) (hn:9223372036854775807<n) (hv:q0w n=some true) (ms:List MD) (tg:List TgD) (ch:List Int) (wn:List WnD) (more:Int) (h1:ms.length≤9223372036854775807) (h2:tg.length≤9223372036854775807) (h4:wn.length≤9223372036854775807) :
  qh1 n (ms,(tg,(ch,wn))) more=some true:=by
 obtain ⟨b,k1,k2⟩:=qhv n ms tg ch wn h1 h2 h4 hn
 unfold qh1
 rw [k1,Option.bind_some,hv]
 cases b with
 | false=>rfl
 | true =>
  obtain ⟨s1,s2,s3,s4⟩:=k2 rfl
  have h20:=s1.1
  rw [Bool.not_true,cond_false]
  show (bif decide (29<((ch.length:Nat):Int)) then _ else (qxh 8 [] ch).bind _)=_
  by_cases c:29<ch.length
  ·rw [decide_eq_true (by omega)];rfl
  obtain ⟨U,u1,u2⟩:=q4k ms tg ch wn s1 (by omega) (by omega) (by omega)
  obtain ⟨V,v1,v2⟩:=q4k ms tg (ch ++ [more]) wn s1 (by rw [List.length_append,List.length_singleton];omega) (by omega) (by omega)
  obtain ⟨W,w1,w2⟩:=q4k ms tg [] [] s1 (Nat.zero_le _) (Nat.zero_le _) (by omega)
  obtain ⟨n1,n2⟩:=jqk (tg:=tg) w2
  rw [decide_eq_false (by omega),cond_false,qce (by simp;omega),Option.bind_some,List.nil_append,qce (by rw [List.length_singleton];omega),Option.bind_some]
  show (q7d n wn).bind _=_
  rw [qpo n wn (by omega) (by omega),Option.bind_some]
  show (q0p ms tg ch wn).bind _=_
  rw [u1,Option.bind_some,Option.bind_some]
  show (q0p ms tg (ch ++ [more]) wn).bind _=_
  rw [v1,Option.bind_some]
  show (q0p ms tg [] []).bind _=_
  rw [w1,Option.bind_some,n1,n2]
  have hUl:=j7h ms tg wn U
  have hVl:=j7h ms tg wn V
  have hUo:(q59 ms tg wn U).2=0→(q2s ms).2=0:=fun h=>by
   obtain ⟨q1,q2,_⟩:=jdc h
   unfold q2s;rw [if_pos q1,if_neg (by omega)]
  have main:(q59 ms tg wn V).2=0→(q59 ms tg wn U).2=0∧(q59 ms tg wn U).1.Sublist (q59 ms tg wn V).1:=fun h=>by
   obtain ⟨q1,q2,q3,q4,q5⟩:=jdc h
   have hU:=u2 q1 q3
   have hV:=v2 q1 q3
   have hs : ∀ k,k∈U→k∈V:=fun k hk=>by
    obtain ⟨k1,i,e1,e2⟩:=(hU.mem k).1 hk
    refine (hV.mem k).2 ⟨k1,i,?_,e2⟩
    rcases List.mem_append.1 e1 with e|e
    ·exact List.mem_append.2 (Or.inl (List.mem_append.2 (Or.inl e)))
    ·exact List.mem_append.2 (Or.inr e)
   have hd:=jwq (ms:=ms) hs
   have hz:jj6 ms tg wn (quk ms U)=0:=qsj.2 fun k hk=>qsj.1 q4 k (hd.subset hk)
   have ho:(q2s ms).2=0:=by unfold q2s;rw [if_pos q1,if_neg (by omega)]
   have hr:q59 ms tg wn U=((quk ms U).map fun k=>(j6z ms tg wn k).1,0):=by
    unfold q59 jt1
    rw [if_pos ho,if_pos q3,if_pos hz]
   rw [hr,q5]
   exact ⟨rfl,hd.map _⟩
  have tail:(bif !decide ((q59 ms tg wn V).2=0) then (bif decide ((((q59 ms tg wn V).1.length:Nat):Int)=0) then (some true).bind (fun r11=>some r11) else some false) else (bif !decide ((q59 ms tg wn U).2=0) then some false else (bif decide ((((q59 ms tg wn V).1.length:Nat):Int)<(((q59 ms tg wn U).1.length:Nat):Int)) then some false else (q1q n n (q59 ms tg wn U).1 (q59 ms tg wn V).1 0 0).bind fun o18=>(bif decide (o18.1.2.1=((o18.1.1.length:Nat):Int)) then (some true).bind (fun r19=>some r19) else some false))))=some true:=by
   by_cases hf:(q59 ms tg wn V).2=0
   ·obtain ⟨m1,m2⟩:=main hf
    have hlen:=m2.length_le
    have hL:=q7y n (q59 ms tg wn U).1 (q59 ms tg wn V).1 (by omega) (by omega) n 0 0 (Nat.zero_le _) (Nat.zero_le _) m2 (by omega)
    have hL':q1q n n (q59 ms tg wn U).1 (q59 ms tg wn V).1 0 0=_:=hL
    rw [decide_eq_true hf,Bool.not_true,cond_false,decide_eq_true m1,Bool.not_true,cond_false,decide_eq_false (by omega),cond_false,hL',Option.bind_some]
    show (bif decide ((((q59 ms tg wn U).1.length:Nat):Int)=(((q59 ms tg wn U).1.length:Nat):Int)) then _ else _)=_
    rw [decide_eq_true rfl];rfl
   ·rw [decide_eq_false hf,Bool.not_false,cond_true,jmh hf];rfl
  show (bif !decide ((0:Int)=0) then _ else (bif !decide ((q2s ms).2=0) then (bif decide ((q59 ms tg wn U).2=0) then some false else _) else _))=_
  rw [decide_eq_true (p:=(0:Int)=0) rfl,Bool.not_true,cond_false]
  by_cases hg:(q2s ms).2=0
  ·rw [decide_eq_true hg,Bool.not_true,cond_false];exact tail
  ·rw [decide_eq_false hg,Bool.not_false,cond_true]
   refine (congrArg (fun b:Bool=>bif b then some false else _) (decide_eq_false (fun h=>hg (hUo h)))).trans ?_
   exact tail
theorem qtu (n:Nat) (ms:List MD) (tg:List TgD) (ch:List Int) (wn:List WnD) (r:List RlD) (d:List RD) (a:Nat) (ha:a<ms.length) (i:Nat) (hi:i<ms[a].2.2.length) (hr:r.length≤1000) (hR : ∀ x∈r,∃ k:Nat,x.1=(k:Int)∧k<ms.length)
  (hU : ∀ j k,∀ hj:j<r.length,∀ hk:k<r.length,qo8 ms ms[a].2.2[i].1 r[j]=true→qo8 ms ms[a].2.2[i].1 r[k]=true→j=k) (q:Nat) (hq:q≤1000)
  (hd : ∀ v,qah ms r ms[a].2.2[i].1=some v→∃ h:q<d.length,d[q]=(ms[a].2.2[i].1,v)) : ∀ m j:Nat,j≤r.length→r.length - j<m →
  q2v n m (a:Int) r d ((q+(if (r.take j).any (qo8 ms ms[a].2.2[i].1)=true then 1 else 0):Nat):Int) (i:Int) (j:Int) ms tg ch wn =
   some (Sum.inr (((a:Int),((),(r,(d,(((q+(if r.any (qo8 ms ms[a].2.2[i].1)=true then 1 else 0):Nat):Int),((i:Int),())))))),(((ms,(tg,(ch,wn))),()),())))
 | 0,j,_,h=>absurd h (Nat.not_lt_zero _)
 | m+1,j,hj,h=>by
  rw [qfn]
  unfold qf9
  by_cases c:j<r.length
  ·have ih:=qtu n ms tg ch wn r d a ha i hi hr hR hU q hq hd m (j+1) (by omega) (by omega)
   obtain ⟨k,hk,hkl⟩:=hR _ (List.getElem_mem c)
   have hh:=j3t (p:=ms[a].2.2[i].1) hk hkl
   rw [List.take_succ_eq_append_getElem c,List.any_append,List.any_cons,List.any_nil,Bool.or_false] at ih
   rw [decide_eq_true (by omega),cond_true,q0m c,Option.bind_some,decide_eq_false (by omega),cond_false,Option.bind_some,decide_eq_false (by omega),cond_false,Option.bind_some,show q1a ms r[j].1=some ms[k] from by rw [hk];exact q0m hkl,Option.bind_some,q0m ha,Option.bind_some,q0m hi,Option.bind_some]
   by_cases e:ms[k].2.1=ms[a].2.2[i].1
   ·rw [decide_eq_true e] at hh
    have hno:(r.take j).any (qo8 ms ms[a].2.2[i].1)=false:=by
     rw [List.any_eq_false]
     intro x hx hhx
     obtain ⟨b,hb,rfl⟩:=List.getElem_of_mem hx
     rw [List.length_take] at hb
     rw [List.getElem_take] at hhx
     have:=hU b j (by omega) c hhx hh
     omega
    have hn1:qah ms r ms[a].2.2[i].1=some (j8x r[j]):=by
     unfold qah
     have hsp:r=r.take j++r[j]::r.drop (j+1):=by
      conv=>lhs;rw [← List.take_append_drop j r,List.drop_eq_getElem_cons c]
     have hf:(r.take j++r[j]::r.drop (j+1)).find? (qo8 ms ms[a].2.2[i].1)=some r[j]:=by
      rw [List.find?_append,List.find?_eq_none.2 (fun x hx=>List.any_eq_false.1 hno x hx),Option.none_or,List.find?_cons,hh]
     rw [← hsp] at hf
     rw [hf];rfl
    obtain ⟨hqd,hdq⟩:=hd _ hn1
    rw [hno,hh,Bool.false_or,if_pos rfl] at ih
    rw [decide_eq_true e,Bool.not_true,cond_false,hno,if_neg Bool.false_ne_true,Nat.add_zero,decide_eq_false (by omega),cond_false,q0m hqd,Option.bind_some,Option.bind_some,q0m hi,Option.bind_some,hdq,decide_eq_true rfl,Bool.not_true,cond_false,Option.bind_some,Option.bind_some]
    show (bif !(decide ((j8x r[j]).1=(j8x r[j]).1)&&(decide ((j8x r[j]).2.1=(j8x r[j]).2.1)&&(decide ((j8x r[j]).2.2.1=(j8x r[j]).2.2.1)&&(decide ((j8x r[j]).2.2.2.1=(j8x r[j]).2.2.2.1)&&(decide ((j8x r[j]).2.2.2.2=(j8x r[j]).2.2.2.2)&&true))))) then _ else _)=_
    simp only [decide_true,Bool.and_self,Bool.not_true,cond_false]
    rw [q0h,q0h,q04 (by omega),q04 (by omega)]
    exact ih
   ·rw [decide_eq_false e] at hh
    rw [hh,Bool.or_false] at ih
    rw [decide_eq_false e,Bool.not_false,cond_true,q0h,q04 (by omega)]
    exact ih
  ·obtain rfl:j=r.length:=by omega
   rw [decide_eq_false (by omega),cond_false,List.take_length]
theorem jqs {ms:List MD} {r:List RlD} {p:List UInt8} : (qah ms r p).isSome=r.any (qo8 ms p):=by
 unfold qah
 rw [Option.isSome_map]
 cases h:r.find? (qo8 ms p) with
 | none =>
  symm
  rw [Option.isSome_none,List.any_eq_false]
  exact fun x hx=>List.find?_eq_none.1 h x hx
 | some x =>
  symm
  exact List.any_eq_true.2 ⟨x,List.mem_of_find?_eq_some h,List.find?_some h⟩
theorem qtr (n:Nat) (ms:List MD) (tg:List TgD) (ch:List Int) (wn:List WnD) (r:List RlD) (a:Nat) (ha:a<ms.length) (hq:ms[a].2.2.length≤500) (hr:r.length≤900) (hn:1000<n) (hR : ∀ x∈r,∃ k:Nat,x.1=(k:Int)∧k<ms.length)
  (hU : ∀ p j k,∀ hj:j<r.length,∀ hk:k<r.length,qo8 ms p r[j]=true→qo8 ms p r[k]=true→j=k) (f:RD→Option RD) (hf:f=fun x=>(qah ms r x.1).map fun v=>(x.1,v)) : ∀ m i:Nat,i≤ms[a].2.2.length→ms[a].2.2.length - i<m →
  q1i n m (a:Int) r (ms[a].2.2.filterMap f) ((((ms[a].2.2.take i).filterMap f).length:Nat):Int) (i:Int) ms tg ch wn=some (Sum.inr (((ms[a].2.2.filterMap f),((((ms[a].2.2.filterMap f).length:Nat):Int),())),((),())))
 | 0,i,_,h=>absurd h (Nat.not_lt_zero _)
 | m+1,i,hi,h=>by
  rw [qeo]
  unfold qfc
  rw [q0m ha,Option.bind_some]
  by_cases c:i<ms[a].2.2.length
  ·have ih:=qtr n ms tg ch wn r a ha hq hr hn hR hU f hf m (i+1) (by omega) (by omega)
   have hsp:ms[a].2.2.filterMap f=(ms[a].2.2.take i).filterMap f++(f ms[a].2.2[i]).toList++(ms[a].2.2.drop (i+1)).filterMap f:=by
    conv=>lhs;rw [← List.take_append_drop i ms[a].2.2,List.drop_eq_getElem_cons c]
    rw [List.filterMap_append,List.filterMap_cons,List.append_assoc]
    cases f ms[a].2.2[i]<;>rfl
   have hl1:((ms[a].2.2.take i).filterMap f).length≤500:=Nat.le_trans (List.length_filterMap_le ..) (by rw [List.length_take];omega)
   have hB:=qtu n ms tg ch wn r (ms[a].2.2.filterMap f) a ha i c (by omega) hR (fun j k hj hk=>hU _ j k hj hk) ((ms[a].2.2.take i).filterMap f).length (by omega) (fun v hv=>by
    have hfi:f ms[a].2.2[i]=some (ms[a].2.2[i].1,v):=by rw [hf];show Option.map _ _=_;rw [hv];rfl
    rw [hfi] at hsp
    have hlt:((ms[a].2.2.take i).filterMap f).length<(ms[a].2.2.filterMap f).length:=by
     rw [hsp,List.length_append,List.length_append];simp;omega
    refine ⟨hlt,?_⟩
    have:(ms[a].2.2.filterMap f)[((ms[a].2.2.take i).filterMap f).length]? = some (ms[a].2.2[i].1,v):=by
     conv=>lhs;rw [hsp]
     rw [List.append_assoc,List.getElem?_append_right (Nat.le_refl _),Nat.sub_self];rfl
    rw [List.getElem?_eq_getElem hlt] at this
    exact Option.some.inj this) n 0 (Nat.zero_le _) (by omega)
   rw [List.take_zero,List.any_nil,if_neg Bool.false_ne_true,Nat.add_zero] at hB
   have hB':q2v n n (a:Int) r (ms[a].2.2.filterMap f) ((((ms[a].2.2.take i).filterMap f).length:Nat):Int) (i:Int) 0 ms tg ch wn=_:=hB
   rw [decide_eq_true (by omega),cond_true,hB',Option.bind_some,Sum.elim_inr]
   show q0d (IntKind.wrap .i64 ((i:Int)+1)) (fun n27=>q1i n m (a:Int) r (ms[a].2.2.filterMap f) _ n27 ms tg ch wn)=_
   rw [q0h,q04 (by omega)]
   have hcount:((ms[a].2.2.take i).filterMap f).length+(if r.any (qo8 ms ms[a].2.2[i].1)=true then 1 else 0)=((ms[a].2.2.take (i+1)).filterMap f).length:=by
    rw [List.take_succ_eq_append_getElem c,List.filterMap_append,List.length_append,← jqs]
    congr 1
    rw [List.filterMap_cons,List.filterMap_nil,hf]
    cases h:qah ms r ms[a].2.2[i].1<;>simp [h]
   rw [hcount]
   exact ih
  ·obtain rfl:i=ms[a].2.2.length:=by omega
   rw [decide_eq_false (by omega),cond_false,List.take_length]
theorem jp3 (ms:List MD) (U:List Nat):(quk ms U).Nodup:=(j4m ms).nd.filter _
theorem k0g {ms:List MD} {tg:List TgD} {wn:List WnD} {U:List Nat} {x:RlD} (h:x∈(quk ms U).map fun k=>(j6z ms tg wn k).1) : ∃ k:Nat,x.1=(k:Int)∧k<ms.length:=by
 obtain ⟨k,h1,rfl⟩:=List.mem_map.1 h
 exact ⟨k,j8j (jf9 h1),jf9 h1⟩
theorem jqt {ms:List MD} {tg:List TgD} {wn:List WnD} {U:List Nat} (hc:qwk ms=0) (p:List UInt8) (j k:Nat) (hj:j<((quk ms U).map fun k=>(j6z ms tg wn k).1).length) (hk:k<((quk ms U).map fun k=>(j6z ms tg wn k).1).length)
  (h1:qo8 ms p ((quk ms U).map fun k=>(j6z ms tg wn k).1)[j]=true) (h2:qo8 ms p ((quk ms U).map fun k=>(j6z ms tg wn k).1)[k]=true):j=k:=by
 rw [List.length_map] at hj hk
 rw [List.getElem_map] at h1 h2
 have lj:=jf9 (List.getElem_mem hj)
 have lk:=jf9 (List.getElem_mem hk)
 rw [j3t (j8j lj) lj] at h1
 rw [j3t (j8j lk) lk] at h2
 have e1:=of_decide_eq_true h1
 have e2:=of_decide_eq_true h2
 have p1:=j1e hc lj
 have p2:=j1e hc lk
 rw [e1] at p1
 rw [e2,p1] at p2
 have e:(quk ms U)[j]=(quk ms U)[k]:=Option.some.inj p2
 exact (List.getElem_inj (h₀:=hj) (h₁:=hk) (jp3 ms U)).1 e
theorem jj3 (n:Nat) (hn:9223372036854775807<n) (hv:q0w n=some true) (ms:List MD) (tg:List TgD) (ch:List Int) (wn:List WnD) (a:Int) (h1:ms.length≤9223372036854775807) (h2:tg.length≤9223372036854775807) (h4:wn.length≤9223372036854775807) :
  qdm n (ms,(tg,(ch,wn))) a=some true:=by
 obtain ⟨b,k1,k2⟩:=qhv n ms tg ch wn h1 h2 h4 hn
 unfold qdm
 rw [k1,Option.bind_some,hv]
 cases b with
 | false=>rfl
 | true =>
  obtain ⟨s1,s2,s3,s4⟩:=k2 rfl
  have h20:=s1.1
  rw [Bool.not_true,cond_false]
  show (bif decide (a<0) then _ else (bif decide (((ms.length:Nat):Int)≤a) then _ else (q7d n wn).bind _))=_
  by_cases c0:a<0
  ·rw [decide_eq_true c0];rfl
  by_cases c1:((ms.length:Nat):Int)≤a
  ·rw [decide_eq_false c0,decide_eq_true c1];rfl
  obtain ⟨k,rfl⟩:=Int.eq_ofNat_of_zero_le (by omega:0≤a)
  have hk:k<ms.length:=by omega
  have hq:=(s1.2 _ (List.getElem_mem hk)).2
  obtain ⟨U,u1,u2⟩:=q4k ms tg ch wn s1 (by omega) (by omega) (by omega)
  rw [decide_eq_false c0,cond_false,decide_eq_false c1,cond_false,qpo n wn (by omega) (by omega),Option.bind_some]
  show (q0p ms tg ch wn).bind _=_
  rw [u1,Option.bind_some]
  by_cases ce:(q59 ms tg wn U).2=0
  ·obtain ⟨q1,q2,q3,q4,q5⟩:=jdc ce
   have hrl:=j7h ms tg wn U
   have hRat : ∀ x∈(q59 ms tg wn U).1,∃ k:Nat,x.1=(k:Int)∧k<ms.length:=fun x hx=>k0g (by rw [← q5];exact hx)
   have hRu : ∀ p j k,∀ hj:j<(q59 ms tg wn U).1.length,∀ hk:k<(q59 ms tg wn U).1.length,qo8 ms p (q59 ms tg wn U).1[j]=true→qo8 ms p (q59 ms tg wn U).1[k]=true→j=k:=by
    rw [q5]
    exact fun p j k hj hk=>jqt q1 p j k hj hk
   have hed:jej ms (q59 ms tg wn U).1 (k:Int)=ms[k].2.2.filterMap (fun x=>(qah ms (q59 ms tg wn U).1 x.1).map fun v=>(x.1,v)):=by
    unfold jej
    rw [if_pos (by omega),Int.toNat_natCast,List.getElem?_eq_getElem hk]
   have hL:=qtr n ms tg ch wn (q59 ms tg wn U).1 k hk (by omega) (by omega) (by omega) hRat hRu _ rfl n 0 (Nat.zero_le _) (by omega)
   rw [List.take_zero,List.filterMap_nil] at hL
   have hL':q1i n n (k:Int) (q59 ms tg wn U).1 (ms[k].2.2.filterMap (fun x=>(qah ms (q59 ms tg wn U).1 x.1).map fun v=>(x.1,v))) 0 0 ms tg ch wn=_:=hL
   rw [decide_eq_true ce,Bool.not_true,cond_false]
   show (qih n ms (q59 ms tg wn U).1 (k:Int)).bind _=_
   rw [jad n ms _ _ s1 (by omega) (by omega),Option.bind_some,hed]
   show (q1i n n (k:Int) (q59 ms tg wn U).1 (ms[k].2.2.filterMap (fun x=>(qah ms (q59 ms tg wn U).1 x.1).map fun v=>(x.1,v))) 0 0 ms tg ch wn).bind _=_
   rw [hL',Option.bind_some,Sum.elim_inr]
   show (bif decide ((((ms[k].2.2.filterMap (fun x=>(qah ms (q59 ms tg wn U).1 x.1).map fun v=>(x.1,v))).length:Nat):Int)=(((ms[k].2.2.filterMap (fun x=>(qah ms (q59 ms tg wn U).1 x.1).map fun v=>(x.1,v))).length:Nat):Int)) then _ else _)=_
   rw [decide_eq_true rfl];rfl
  ·rw [decide_eq_false ce];rfl
end Go.Proofs.YtggoebaobojmjaaGreatDoor.AM
namespace Go.Proofs.YtggoebaobojmjaaGreatDoor.AM
open Go.RowKit Gr
set_option linter.unusedVariables false
set_option linter.unusedSimpArgs false
end Go.Proofs.YtggoebaobojmjaaGreatDoor.AM
namespace Go.Proofs.YtggoebaobojmjaaGreatDoor.AM
open Go.RowKit
set_option linter.unusedVariables false
set_option maxRecDepth 100000
abbrev qe9:Nat:=9223372036854775808
theorem jpo:q0w qe9=some true:=by kernel_rfl
abbrev jxe:Ty:=.lst (.prod .str (.prod (.int .i64) (.prod (.int .i64) (.prod (.int .i64) (.prod .str (.prod .str .str))))))
abbrev LMdTy:Ty:=.lst (.prod .str (.prod .str (.lst (.prod .str (.prod (.int .i64) (.prod (.int .i64) (.prod (.int .i64) (.prod .str .str))))))))
abbrev LWnTy:Ty:=.lst (.prod .str (.int .i64))
abbrev CsTy:Ty:=.prod LMdTy (.prod jxe (.prod (.lst (.int .i64)) LWnTy))
theorem j8r {n:Nat} (h:n≤maxLen):n≤9223372036854775807:=Nat.le_trans h (by unfold maxLen;omega)
theorem j1f (p:List UInt8) (l:den jxe) (k:Int) (_:p.length≤maxLen) (hl:qux jxe l) (_:(Lit.int .i64 k).wf=true):qdh qe9 p l k=some true:=jho qe9 (by decide) jpo p l k (j8r hl.1)
theorem j4w (c:den CsTy) (a:Int) (hc:qux CsTy c) (_:(Lit.int .i64 a).wf=true):qh1 qe9 c a=some true:=by
 obtain ⟨ms,tg,ch,wn⟩:=c
 exact jjk qe9 (by decide) jpo ms tg ch wn a (j8r hc.1.1) (j8r hc.2.1.1) (j8r hc.2.2.2.1)
theorem j1d (c:den CsTy) (a:Int) (hc:qux CsTy c) (_:(Lit.int .i64 a).wf=true):qdm qe9 c a=some true:=by
 obtain ⟨ms,tg,ch,wn⟩:=c
 exact jj3 qe9 (by decide) jpo ms tg ch wn a (j8r hc.1.1) (j8r hc.2.1.1) (j8r hc.2.2.2.1)
end Go.Proofs.YtggoebaobojmjaaGreatDoor.AM
namespace Go.Proofs.YtggoebaobojmjaaGreatDoor.AM
open Go.RowKit
set_option linter.unusedVariables false
set_option linter.unusedSimpArgs false
theorem jcp : "*" ++ "errors.errorString" = "*errors.errorString":=by decide
theorem jk6 (u:TypeId) (h:Tryz.prog.typeName? 3 u=some "*errors.errorString"):u=199 :=
 typeName_ptr_named (nm := "errors.errorString") (by rw [jcp];kernel_rfl) (by kernel_rfl) (by decide) u (by rw [jcp];exact h)
theorem jzl:(Rows.laid_internal_strconv_uint64pow10:DataW Unit)=Lib.tabData .u64 Lib.pow10Tab:=by rfl
theorem k0d:Tryz.prog.globalNamed "internal/strconv.uint64pow10" = some ((Tryz.prog.globalNamed "internal/strconv.uint64pow10").getD 0)∧(Tryz.prog.globals[(Tryz.prog.globalNamed "internal/strconv.uint64pow10").getD 0]?).map (·.type)=some 202:=⟨by kernel_rfl,by kernel_rfl⟩
theorem jw0:Tryz.prog.globalNamed "strconv.ErrSyntax" = some (Tryz.laysAtoi_ren.g 15)∧(Tryz.prog.globals[Tryz.laysAtoi_ren.g 15]?).map (·.type)=some 138:=⟨by kernel_rfl,by kernel_rfl⟩
theorem jwx:Tryz.prog.globalNamed "strconv.ErrRange" = some (Tryz.laysAtoi_ren.g 16)∧(Tryz.prog.globals[Tryz.laysAtoi_ren.g 16]?).map (·.type)=some 138:=⟨by kernel_rfl,by kernel_rfl⟩
theorem j1w:Tryz.prog.cellsOf 201=1:=by kernel_rfl
theorem j25:Tryz.prog.cellsOf 9=1:=by kernel_rfl
theorem jja {w:World} (hsh:w.ShapedOpen Tryz.prog)
  (hL:laidMet Tryz.prog [("math/bits.deBruijn32tab",Rows.laid_math_bits_deBruijn32tab),("math/bits.deBruijn64tab",Rows.laid_math_bits_deBruijn64tab),("internal/strconv.uint64pow10",Rows.laid_internal_strconv_uint64pow10),("unicode/utf8.acceptRanges",Rows.laid_unicode_utf8_acceptRanges),("strconv.ErrRange",Rows.laid_strconv_ErrRange),("strconv.ErrSyntax",Rows.laid_strconv_ErrSyntax),("unicode/utf8.first",Rows.laid_unicode_utf8_first)] w):Inv w:=by
 obtain ⟨m,hm⟩:=Tryz.laysIndex.s1_3 w hsh
 have h3:=hL.tail.tail
 rw [jzl] at h3
 have h5:=hL.tail.tail.tail.tail
 unfold Rows.laid_strconv_ErrRange at h5
 have h6:=hL.tail.tail.tail.tail.tail
 unfold Rows.laid_strconv_ErrSyntax at h6
 obtain ⟨a0,s0,hv0,-,-,-⟩:=laid_sentinel h5 jwx.1 jwx.2 Tryz.underlying138 jk6 Tryz.underlying199 Tryz.underlying201 rfl rfl Tryz.underlying9 j1w j25
 obtain ⟨a1,s1,hv1,-,-,-⟩:=laid_sentinel h6 jw0.1 jw0.2 Tryz.underlying138 jk6 Tryz.underlying199 Tryz.underlying201 rfl rfl Tryz.underlying9 j1w j25
 have c0:w.cell? ⟨Tryz.laysAtoi_ren.g 16,0,none⟩=some (.iface 199 (.pointer (some a0))):=by have h0:=World.var?_cell jwx.1 hv0 0;simpa using h0
 have c1:w.cell? ⟨Tryz.laysAtoi_ren.g 15,0,none⟩=some (.iface 199 (.pointer (some a1))):=by have h0:=World.var?_cell jw0.1 hv1 0;simpa using h0
 exact ⟨⟨m,hm⟩,Lib.tabIs_of_head k0d.1 k0d.2 (n:=20) (e:=179) (by kernel_rfl) (by kernel_rfl) (by kernel_rfl) (by kernel_rfl) h3,⟨_,_,c1⟩,⟨_,_,c0⟩⟩
end Go.Proofs.YtggoebaobojmjaaGreatDoor.AM
