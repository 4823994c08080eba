
import Derived.Test.YtggoebaobojmjaaGreatDoorBr24
import Derived.Test.YtggoebaobojmjaaGreatDoorBr25
import Derived.Test.YtggoebaobojmjaaGreatDoorBr8
import Derived.Test.YtggoebaobojmjaaGreatDoorRows
import Derived.Test.YtggoebaobojmjaaGreatDoorBr9
import Derived.LaidLaws
namespace Go.Proofs.YtggoebaobojmjaaGreatDoor.AM
open Go.RowKit Gr
set_option linter.unusedVariables false
set_option linter.unusedSimpArgs false
theorem jqc {i:Nat} (h:i+1≤9223372036854775807):IntKind.wrap .i64 ((i:Int)+1)=((i+1:Nat):Int):=by rw [wrap64 (by omega) (by omega)];rfl
theorem jb7 (n:Nat) (w:List WnD) (hw:w.length≤9223372036854775807) (hn:9223372036854775807<n) : ∃ b,qp8 n w=some b∧(b=true→w.length≤20):=by
 have loop : ∀ m j:Nat,j≤w.length→w.length - j<m→q85 n m w (j:Int)=some (if (w.drop j).any (fun x=>decide (200<x.1.length))=true then Sum.inl ((false,()),((),())) else Sum.inr ((w,()),((),()))):=by
  intro m
  induction m with
  | zero=>intro j _ h;exact absurd h (Nat.not_lt_zero _)
  | succ m ih =>
   intro j hj h
   rw [qlb]
   unfold qur
   by_cases c:j<w.length
   ·rw [decide_eq_true (by omega),cond_true,q0k c,Option.bind_some,List.drop_eq_getElem_cons c,List.any_cons]
    by_cases e:200<w[j].1.length
    ·rw [decide_eq_true (by omega),cond_true,decide_eq_true e,Bool.true_or,if_pos rfl]
    ·rw [decide_eq_false (by omega),cond_false,decide_eq_false e,Bool.false_or,q0f,jqc (by omega)]
     exact ih (j+1) (by omega) (by omega)
   ·obtain rfl:j=w.length:=by omega
    rw [decide_eq_false (by omega),cond_false,List.drop_length,List.any_nil,if_neg Bool.false_ne_true]
 have h:=loop n 0 (Nat.zero_le _) (by omega)
 unfold qp8
 rw [show (0:Int)=((0:Nat):Int) from rfl,h,Option.bind_some]
 split
 ·exact ⟨false,rfl,fun h=>by cases h⟩
 ·exact ⟨decide (w.length≤20),by
   show some (decide (((w.length:Nat):Int)≤20))=_
   rw [decide_eq_decide.2 (by omega:((w.length:Nat):Int)≤20↔w.length≤20)],fun h=>of_decide_eq_true h⟩
structure Sm18 (ms:List MD) (tg:List TgD) (ch:List Int) (wn:List WnD):Prop where
 sm:SmL ms
 tg:tg.length≤60
 ch:ch.length≤30
 wn:wn.length≤20
theorem Sml.smL {l:List MD} (h:Sml l):SmL l:=⟨h.1,fun m hm=>by
 obtain ⟨h1,_,h2,_⟩:=h.2 m hm
 exact ⟨h1,by omega⟩⟩
theorem qzv (n:Nat) (ms:List MD) (tg:List TgD) (ch:List Int) (wn:List WnD) (h1:ms.length≤9223372036854775807) (h2:tg.length≤9223372036854775807) (h4:wn.length≤9223372036854775807) (hn:9223372036854775807<n) :
  ∃ b,qel n (ms,(tg,(ch,wn)))=some b∧(b=true→Sm18 ms tg ch wn):=by
 obtain ⟨b,k1,k2⟩:=j1a n ms h1 hn
 obtain ⟨c,k3,k4⟩:=jb7 n wn h4 hn
 unfold qel
 rw [k1,Option.bind_some]
 cases b with
 | false=>exact ⟨false,rfl,fun h=>by cases h⟩
 | true =>
  rw [cond_true,j7x n tg h2 (by omega),Option.bind_some]
  cases hf:fewS tg with
  | false=>exact ⟨false,rfl,fun h=>by cases h⟩
  | true =>
   rw [cond_true]
   by_cases e:ch.length≤30
   ·rw [decide_eq_true (show ((ch.length:Nat):Int)≤30 by omega),cond_true,k3,Option.bind_some]
    exact ⟨c,rfl,fun h=>⟨(k2 rfl).smL,(jzo hf).1,e,k4 h⟩⟩
   ·rw [decide_eq_false (show ¬ ((ch.length:Nat):Int)≤30 by omega),cond_false]
    exact ⟨false,rfl,fun h=>by cases h⟩
theorem jar (n:Nat) (w:List WnD) (hw:w.length≤1000) (hn:1000<n):qk1 n w=some w:=by
 have loop : ∀ m j:Nat,j≤w.length→w.length - j<m→q53 n m w (j:Int) (w.take j)=some (((),()),((),(w,()))):=by
  intro m
  induction m with
  | zero=>intro j _ h;exact absurd h (Nat.not_lt_zero _)
  | succ m ih =>
   intro j hj h
   rw [qm2]
   unfold qqg
   by_cases c:j<w.length
   ·rw [decide_eq_true (by omega),cond_true,q0k c,Option.bind_some,qf4 (by rw [List.length_singleton,List.length_take];omega),Option.bind_some,q0f,q04 (by omega),← List.take_succ_eq_append_getElem c]
    exact ih (j+1) (by omega) (by omega)
   ·obtain rfl:j=w.length:=by omega
    rw [decide_eq_false (by omega),cond_false,List.take_length]
 have h:=loop n 0 (Nat.zero_le _) (by omega)
 have h':q53 n n w 0 []=_:=h
 unfold qk1
 rw [h'];rfl
theorem k19 {ms:List MD} {tg:List TgD} {wn:List WnD} {U:List Nat} (h:(jsw ms tg wn U).2=0):qlx ms=0∧(jbe ms).length=ms.length∧q5j ms [] wn=0∧jk1 ms tg wn (q1h ms U)=0∧(jsw ms tg wn U).1=(q1h ms U).map fun k=>(qo0 ms tg wn k).1:=by
 unfold jsw at h ⊢
 by_cases c1:(q82 ms).2=0
 ·rw [if_pos c1] at h ⊢
  obtain ⟨k1,_,k2⟩:=j2n c1
  by_cases c2:q5j ms [] wn=0
  ·rw [if_pos c2] at h ⊢
   unfold jy9 at h ⊢
   by_cases c3:jk1 ms tg wn (q1h ms U)=0
   ·rw [if_pos c3];exact ⟨k1,k2,c2,c3,rfl⟩
   ·rw [if_neg c3] at h;exact absurd h c3
  ·rw [if_neg c2] at h;exact absurd h c2
 ·rw [if_neg c1] at h;exact absurd h c1
theorem jxe {ms:List MD} {tg:List TgD} {wn:List WnD} {U:List Nat} (h:(jsw ms tg wn U).2≠0):(jsw ms tg wn U).1 = []:=by
 unfold jsw at h ⊢
 by_cases c1:(q82 ms).2=0
 ·rw [if_pos c1] at h ⊢
  by_cases c2:q5j ms [] wn=0
  ·rw [if_pos c2] at h ⊢
   unfold jy9 at h ⊢
   by_cases c3:jk1 ms tg wn (q1h ms U)=0
   ·rw [if_pos c3] at h;exact absurd rfl h
   ·rw [if_neg c3]
  ·rw [if_neg c2]
 ·rw [if_neg c1]
theorem j9v (ms:List MD) (U:List Nat):(q1h ms U).length≤ms.length:=Nat.le_trans (List.length_filter_le ..) (jcd ms)
theorem jve {ms:List MD} {U:List Nat} {k:Nat} (h:k∈q1h ms U):k<ms.length:=(qo7 ms).lt k (List.mem_filter.1 h).1
theorem jl0 {ms:List MD} {tg:List TgD} {wn:List WnD} {k:Nat} (hk:k<ms.length):(qo0 ms tg wn k).1.1=(k:Int):=by rw [j3d tg wn hk]
theorem jwy {p:List UInt8} {l:List TgD} {k:Int} (h:(q9e p l k).2=0):qp1 p (jyz (q9e p l k).1)=true∧((q9e p l k).1.2.1=true→qre (rOld (q9e p l k).1) (jyz (q9e p l k).1)<0):=by
 unfold q9e at h ⊢
 by_cases c1:(qnj p).2=true
 case neg=>rw [if_neg c1] at h;cases h
 rw [if_pos c1] at h ⊢
 by_cases c2:jh8 k=true
 case neg=>rw [if_neg c2] at h;cases h
 rw [if_pos c2] at h ⊢
 cases hl:q1b p none l with
 | none =>
  refine ⟨?_,fun h=>by cases h⟩
  show qp1 p (qnj p).1=true
  unfold qnj at c1 ⊢
  by_cases cm:(q1e p).2.2=true
  case neg=>rw [if_neg cm] at c1;cases c1
  have hok:okS p=true:=by
   cases ho:okS p with
   | true=>rfl
   | false=>unfold q1e at cm;rw [ho] at cm;cases cm
  rw [if_pos cm]
  unfold qp1
  by_cases c0:(q1e p).2.1=0
  ·rw [if_pos c0,if_pos c0,hok];rfl
  ·have hr:2≤(q1e p).2.1∧(q1e p).2.1≤999999999:=by
    rcases jc6 p with ⟨_,e⟩|⟨_,_,e⟩|⟨x,n,h1,h2,_,_,_,_,e⟩
    ·rw [e] at cm;cases cm
    ·rw [e] at c0;exact absurd rfl c0
    ·rw [e];exact ⟨h1,h2⟩
   rw [if_neg c0,if_neg c0,hok]
   have hn:qvf (q1e p).2.1=true:=by
    unfold qvf;rw [decide_eq_true (by omega),decide_eq_true (by omega)];rfl
   have hc:q1f ((q1e p).2.1,(0,(0,([],[]))))=true:=by
    unfold q1f
    show (qvf (q1e p).2.1&&qvf 0&&qvf 0&&q5p q5e []&&q5p q2f [])=true
    rw [hn];rfl
   rw [hc,decide_eq_true rfl];rfl
 | some t =>
  rw [hl] at h
  show qp1 p (jyz (if (q20 p (tV t) k).2=0 then (mkR 0 true (tV t) (q20 p (tV t) k).1 k,(0:Int)) else (r0,(q20 p (tV t) k).2)).1)=true∧((if (q20 p (tV t) k).2=0 then (mkR 0 true (tV t) (q20 p (tV t) k).1 k,(0:Int)) else (r0,(q20 p (tV t) k).2)).1.2.1=true→qre (rOld (if (q20 p (tV t) k).2=0 then (mkR 0 true (tV t) (q20 p (tV t) k).1 k,(0:Int)) else (r0,(q20 p (tV t) k).2)).1) (jyz (if (q20 p (tV t) k).2=0 then (mkR 0 true (tV t) (q20 p (tV t) k).1 k,(0:Int)) else (r0,(q20 p (tV t) k).2)).1)<0)
  have h:(if (q20 p (tV t) k).2=0 then (mkR 0 true (tV t) (q20 p (tV t) k).1 k,(0:Int)) else (r0,(q20 p (tV t) k).2)).2=0:=h
  by_cases ca:(q20 p (tV t) k).2=0
  case neg=>rw [if_neg ca] at h;exact absurd h ca
  rw [if_pos ca]
  show qp1 p (q20 p (tV t) k).1=true∧(true=true→qre (tV t) (q20 p (tV t) k).1<0)
  unfold q20 at ca ⊢
  by_cases e1:q1f (tV t)=true
  case neg=>rw [if_neg e1] at ca;cases ca
  rw [if_pos e1] at ca ⊢
  by_cases e2:(qm7 (tV t) k).2=0
  case neg=>rw [if_neg e2] at ca;exact absurd ca e2
  rw [if_pos e2] at ca ⊢
  by_cases e3:qp1 p (qm7 (tV t) k).1=true
  case neg=>rw [if_neg e3] at ca;cases ca
  rw [if_pos e3]
  obtain ⟨b1,b2,M,m,q,b3,b4,b5,b6,b7⟩:=jgp e2
  have hab:=ji1 b4 b5 b6 b1 b2 b7
  refine ⟨e3,fun _=>?_⟩
  rw [b3,jqe,hab];decide
end Go.Proofs.YtggoebaobojmjaaGreatDoor.AM
namespace Go.Proofs.YtggoebaobojmjaaGreatDoor.AM
open Go.RowKit Gr
set_option linter.unusedVariables false
set_option linter.unusedSimpArgs false
theorem jq9 (ms:List MD) (U:List Nat):(q1h ms U).Nodup:=(qo7 ms).nd.filter _
end Go.Proofs.YtggoebaobojmjaaGreatDoor.AM
namespace Go.Proofs.YtggoebaobojmjaaGreatDoor.AM
open Go.RowKit Gr
set_option linter.unusedVariables false
set_option linter.unusedSimpArgs false
theorem qu6 (n:Nat) (ms:List MD) (tg:List TgD) (ch:List Int) (wn:List WnD) (r:List RlD) (hr:r.length≤1000) : ∀ (m j:Nat),j≤r.length→r.length - j<m →
  q1s n m r (j:Int) ms tg ch wn ((r.take j).map (fun x=>x.1))=some (((),(r,((),()))),(((ms,(tg,(ch,wn))),()),(r.map (fun x=>x.1),())))
 | 0,j,_,h=>absurd h (Nat.not_lt_zero _)
 | m+1,j,hj,h=>by
  rw [qev]
  unfold qde
  by_cases c:j<r.length
  ·have ih:=qu6 n ms tg ch wn r hr m (j+1) (by omega) (by omega)
   rw [List.take_succ_eq_append_getElem c,List.map_append] at ih
   rw [decide_eq_true (by omega),cond_true,q0k c,Option.bind_some,qf4 (by rw [List.length_singleton,List.length_map,List.length_take];omega),Option.bind_some,q0f,q04 (by omega)]
   exact ih
  ·obtain rfl:j=r.length:=by omega
   rw [decide_eq_false (by omega),cond_false,List.take_length]
theorem qgk (n:Nat) (ms:List MD) (tg:List TgD) (ch:List Int) (wn:List WnD) (r:List RlD) (i:Nat) (hi:i<ms.length) (out:List Int) (hw:wn.length≤1000) : ∀ (m j:Nat) (b:Bool),j≤wn.length→wn.length - j<m →
  q2k n m r (i:Int) b (j:Int) ms tg ch wn out=some (((),(r,((),((i:Int),((b||(wn.drop j).any (fun x=>decide (x.1=ms[i].2.1))),()))))),(((ms,(tg,(ch,wn))),()),(out,())))
 | 0,j,_,_,h=>absurd h (Nat.not_lt_zero _)
 | m+1,j,b,hj,h=>by
  rw [qez]
  unfold qc2
  by_cases c:j<wn.length
  ·rw [decide_eq_true (by omega),cond_true,List.drop_eq_getElem_cons c,List.any_cons]
   cases b with
   | true =>
    rw [cond_true,q0f,q04 (by omega)]
    refine (qgk n ms tg ch wn r i hi out hw m (j+1) true (by omega) (by omega)).trans ?_
    rw [Bool.true_or,Bool.true_or]
   | false =>
    rw [cond_false,q0k c,Option.bind_some,q0k hi,Option.bind_some,q0f,q04 (by omega),Bool.false_or]
    exact qgk n ms tg ch wn r i hi out hw m (j+1) _ (by omega) (by omega)
  ·obtain rfl:j=wn.length:=by omega
   rw [decide_eq_false (by omega),cond_false,List.drop_length,List.any_nil,Bool.or_false]
theorem qgf (n:Nat) (ms:List MD) (tg:List TgD) (ch:List Int) (wn:List WnD) (r:List RlD) (i:Int) (out:List Int) (E:List Nat) (hE:E.length≤100) (ho:out.length≤100000) (hn:100000<n) : ∀ (m j:Nat) (b:Bool),j≤E.length→E.length - j<m →
  q1v n m r i b (iL E) (j:Int) ms tg ch wn out=some (((),(r,((),(i,((b||(E.drop j).any (fun x=>decide (((x:Nat):Int)∈out))),()))))),(((ms,(tg,(ch,wn))),()),(out,())))
 | 0,j,_,_,h=>absurd h (Nat.not_lt_zero _)
 | m+1,j,b,hj,h=>by
  rw [qes]
  unfold qd4
  rw [q3g]
  by_cases c:j<E.length
  ·have hx:q0x (iL E) (j:Int)=some ((E[j]:Nat):Int):=by rw [q0k (by rw [q3g];exact c)];simp [iL]
   rw [decide_eq_true (by omega),cond_true,List.drop_eq_getElem_cons c,List.any_cons]
   cases b with
   | true =>
    rw [cond_true,q0f,q04 (by omega)]
    refine (qgf n ms tg ch wn r i out E hE ho hn m (j+1) true (by omega) (by omega)).trans ?_
    rw [Bool.true_or,Bool.true_or]
   | false =>
    rw [cond_false,hx,Option.bind_some,q6o n out _ ho hn,Option.bind_some,q0f,q04 (by omega),Bool.false_or]
    exact qgf n ms tg ch wn r i out E hE ho hn m (j+1) _ (by omega) (by omega)
  ·obtain rfl:j=E.length:=by omega
   rw [decide_eq_false (by omega),cond_false,List.drop_length,List.any_nil,Bool.or_false]
theorem j9n {ms:List MD} {ch:List Int} {wn:List WnD} {U:List Nat} (hc:qlx ms=0) (hol:(jbe ms).length=ms.length) (hU:IsF ms.length (UpP ms (ch++iL (jn5 ms wn))) U) {k:Nat} : k∈q1h ms U↔k<ms.length∧UpP ms (ch++iL (jn5 ms wn)) k:=by
 unfold q1h
 rw [List.mem_filter,List.contains_iff_mem,hU.mem]
 constructor
 ·exact fun h=>h.2
 ·exact fun h=>⟨jsm (qo7 ms).nd (qo7 ms).lt (by omega) h.1,h⟩
theorem jy4 {ms:List MD} {ch:List Int} {wn:List WnD} {U:List Nat} (hc:qlx ms=0) (hol:(jbe ms).length=ms.length) (hU:IsF ms.length (UpP ms (ch++iL (jn5 ms wn))) U) {i:Nat} (hi:i<ms.length) :
  decide (((i:Nat):Int)∈iL (q1h ms U))=((decide (((i:Nat):Int)∈ch)||(wn.drop 0).any (fun x=>decide (x.1=ms[i].2.1)))||((jjz ms (i:Int)).drop 0).any (fun x=>decide (((x:Nat):Int)∈iL (q1h ms U)))):=by
 rw [Bool.eq_iff_iff,decide_eq_true_iff,qjl,j9n hc hol hU,Bool.or_eq_true,Bool.or_eq_true,decide_eq_true_iff,List.drop_zero,List.drop_zero,List.any_eq_true,List.any_eq_true,jfv hc hi]
 have hat:i∈jn5 ms wn ↔ ∃ x,x∈wn∧decide (x.1=ms[i].2.1)=true:=by
  unfold jn5
  rw [List.mem_filterMap]
  constructor
  ·rintro ⟨x,h1,h2⟩
   obtain ⟨_,h3⟩:=q6p h2
   exact ⟨x,h1,decide_eq_true h3.symm⟩
  ·rintro ⟨x,h1,h2⟩
   refine ⟨x,h1,?_⟩
   rw [of_decide_eq_true h2]
   exact jg5 hc hi
 have hfrom:((i:Nat):Int)∈ch++iL (jn5 ms wn)↔(((i:Nat):Int)∈ch ∨ ∃ x,x∈wn∧decide (x.1=ms[i].2.1)=true):=by
  rw [List.mem_append,qjl,hat]
 rw [← hfrom]
 constructor
 ·rintro ⟨_,k,e1,e2,rfl|e3⟩
  ·exact Or.inl e1
  ·obtain ⟨j,k1,k2,k3,k4⟩:=e3.first
   refine Or.inr ⟨j,q3i.2 ⟨k2,k3⟩,?_⟩
   rw [decide_eq_true_iff,qjl,j9n hc hol hU]
   exact ⟨k2,k,e1,e2,k4⟩
 ·rintro (e|⟨k,k1,k2⟩)
  ·exact ⟨hi,i,e,hi,Or.inl rfl⟩
  ·rw [decide_eq_true_iff,qjl,j9n hc hol hU] at k2
   obtain ⟨k3,j,e1,e2,e3⟩:=k2
   obtain ⟨x1,x2⟩:=q3i.1 k1
   refine ⟨hi,j,e1,e2,Or.inr ?_⟩
   rcases e3 with rfl|e3
   ·exact .one hi x1 x2
   ·exact .more hi x1 x2 e3
theorem qsr (n:Nat) (ms:List MD) (tg:List TgD) (ch:List Int) (wn:List WnD) (r:List RlD) (U:List Nat) (hs:SmL ms) (hc:qlx ms=0) (hol:(jbe ms).length=ms.length) (hU:IsF ms.length (UpP ms (ch++iL (jn5 ms wn))) U) (hw:wn.length≤1000) (hch:ch.length≤1000) (hn:100000<n) : ∀ (m i:Nat),i≤ms.length→ms.length - i<m →
  q1g n m r (i:Int) ms tg ch wn (iL (q1h ms U))=some (Sum.inr (((),(r,((),()))),(((ms,(tg,(ch,wn))),()),(iL (q1h ms U),()))))
 | 0,j,_,h=>absurd h (Nat.not_lt_zero _)
 | m+1,i,hi,h=>by
  have h20:=hs.1
  have hdl:=j9v ms U
  rw [qey]
  unfold qbs
  by_cases c:i<ms.length
  ·have hE:=jg9 ms (i:Int)
   have h2:=qgk n ms tg ch wn r i c (iL (q1h ms U)) hw n 0 (decide (((i:Nat):Int)∈ch)) (Nat.zero_le _) (by omega)
   have h2':q2k n n r (i:Int) (decide (((i:Nat):Int)∈ch)) 0 ms tg ch wn (iL (q1h ms U))=_:=h2
   rw [decide_eq_true (by omega),cond_true,q6o n ch _ (by omega) hn,Option.bind_some,h2',Option.bind_some]
   show (q6n n ms (i:Int)).bind _=_
   rw [qin n ms _ hs hn,Option.bind_some]
   have h3:=qgf n ms tg ch wn r (i:Int) (iL (q1h ms U)) (jjz ms (i:Int)) (by omega) (by rw [q3g];omega) hn n 0 (decide (((i:Nat):Int)∈ch)||(wn.drop 0).any (fun x=>decide (x.1=ms[i].2.1))) (Nat.zero_le _) (by omega)
   have h3':q1v n n r (i:Int) (decide (((i:Nat):Int)∈ch)||(wn.drop 0).any (fun x=>decide (x.1=ms[i].2.1))) (iL (jjz ms (i:Int))) 0 ms tg ch wn (iL (q1h ms U))=_:=h3
   show (q1v n n r (i:Int) (decide (((i:Nat):Int)∈ch)||(wn.drop 0).any (fun x=>decide (x.1=ms[i].2.1))) (iL (jjz ms (i:Int))) 0 ms tg ch wn (iL (q1h ms U))).bind _=_
   rw [h3',Option.bind_some,← jy4 hc hol hU c]
   show (q8u n (iL (q1h ms U)) (i:Int)).bind _=_
   rw [q6o n _ _ (by rw [q3g];omega) hn,Option.bind_some]
   show (bif !decide (decide (((i:Nat):Int)∈iL (q1h ms U))=decide (((i:Nat):Int)∈iL (q1h ms U))) then _ else q0e (IntKind.wrap .i64 ((i:Int)+1)) (fun n23=>q1g n m r n23 ms tg ch wn (iL (q1h ms U))))=_
   rw [decide_eq_true rfl,Bool.not_true,cond_false,q0f,q04 (by omega)]
   exact qsr n ms tg ch wn r U hs hc hol hU hw hch hn m (i+1) (by omega) (by omega)
  ·obtain rfl:i=ms.length:=by omega
   rw [decide_eq_false (by omega),cond_false]
theorem jwp {ms:List MD} {U:List Nat} {p s:List Nat} {x:Nat} (h:q1h ms U=p++x::s) {d:Nat} (hd:d<ms.length) (ha:adj ms x d=true) (hm:d∈q1h ms U):d∈p:=by
 unfold q1h at h hm
 obtain ⟨a,b,h1,h2,h3⟩:=List.filter_eq_append_iff.1 h
 obtain ⟨c,e,h4,h5,h6,h7⟩:=List.filter_eq_cons_iff.1 h3
 have h8:=(qo7 ms).pre (a++c) x e (by rw [h1,h4,List.append_assoc]) d hd ha
 rw [← h2]
 rcases List.mem_append.1 h8 with h9|h9
 ·exact List.mem_filter.2 ⟨h9,(List.mem_filter.1 hm).2⟩
 ·exact absurd (List.mem_filter.1 hm).2 (h5 d h9)
theorem quv (n:Nat) (ms:List MD) (tg:List TgD) (ch:List Int) (wn:List WnD) (r:List RlD) (D E:List Nat) (i:Nat) (hi:i≤D.length) (hD:D.length≤1000) (hE:E.length≤100) (hp : ∀ d∈E,d∈D→d∈D.take i) (hn:100000<n)
  (a6:List RlD) (a7 a8:Int) (a9:List MD) (a10:Int) (a11:Bool) (a12:List Int) (a13:Int) (a14:List Int) (a15:List Int) (a16 a17:Int) (a18:Bool) : ∀ m j:Nat,j≤E.length→E.length - j<m →
  ∃ q,q2j n m r (iL D) (i:Int) (iL E) (j:Int) a6 a7 a8 a9 a10 a11 a12 a13 a14 a15 a16 a17 a18 ms tg ch wn=some (Sum.inr q)∧q.1.2.1=r∧q.1.2.2.1=iL D∧q.1.2.2.2.1=(i:Int)∧q.2.1.1=(ms,(tg,(ch,wn)))
 | 0,j,_,h=>absurd h (Nat.not_lt_zero _)
 | m+1,j,hj,h=>by
  rw [qew]
  unfold qco
  rw [q3g]
  by_cases c:j<E.length
  ·have hx:q0x (iL E) (j:Int)=some ((E[j]:Nat):Int):=by rw [q0k (by rw [q3g];exact c)];simp [iL]
   have ih:=quv n ms tg ch wn r D E i hi hD hE hp hn a6 a7 a8 a9 a10 a11 a12 a13 a14 a15 a16 a17 a18 m (j+1) (by omega) (by omega)
   rw [decide_eq_true (by omega),cond_true,hx,Option.bind_some,q6o n _ _ (by rw [q3g];omega) hn,Option.bind_some]
   by_cases d:E[j]∈D
   ·have ht:(iL D).take i=iL (D.take i):=by unfold iL;rw [List.map_take]
    have hm:=hp _ (List.getElem_mem c) d
    rw [decide_eq_true (qjl.2 d),cond_true,sub_zero (by rw [q3g];exact hi),Option.bind_some,Option.bind_some,ht,q6o n _ _ (by rw [q3g,List.length_take];omega) hn,Option.bind_some,decide_eq_true (qjl.2 hm),Bool.not_true,cond_false,q0f,q04 (by omega)]
    exact ih
   ·rw [decide_eq_false (fun h=>d (qjl.1 h)),cond_false,q0f,q04 (by omega)]
    exact ih
  ·obtain rfl:j=E.length:=by omega
   rw [decide_eq_false (by omega),cond_false]
   exact ⟨_,rfl,rfl,rfl,rfl,rfl⟩
theorem qfn (n:Nat) (ms:List MD) (tg:List TgD) (ch:List Int) (wn:List WnD) (U:List Nat) (hs:SmL ms) (hc:qlx ms=0) (hz:jk1 ms tg wn (q1h ms U)=0) (hn:100000<n) : ∀ (m i:Nat),i≤(q1h ms U).length→(q1h ms U).length - i<m →
  q1t n m ((q1h ms U).map fun k=>(qo0 ms tg wn k).1) (iL (q1h ms U)) (i:Int) ms tg ch wn=some (Sum.inr ((),((),())))
 | 0,j,_,h=>absurd h (Nat.not_lt_zero _)
 | m+1,i,hi,h=>by
  have h20:=hs.1
  have hdl:=j9v ms U
  rw [qet]
  unfold qdd
  rw [List.length_map]
  by_cases c:i<(q1h ms U).length
  ·have hlt:=jve (List.getElem_mem c)
   have hx:q0x ((q1h ms U).map fun k=>(qo0 ms tg wn k).1) (i:Int)=some (qo0 ms tg wn (q1h ms U)[i]).1:=by rw [q0k (by rw [List.length_map];exact c),List.getElem_map]
   have hy:q0x (iL (q1h ms U)) (i:Int)=some (((q1h ms U)[i]:Nat):Int):=by rw [q0k (by rw [q3g];exact c)];simp [iL]
   have ht:(iL (q1h ms U)).take i=iL ((q1h ms U).take i):=by unfold iL;rw [List.map_take]
   have h1:=jl0 (tg:=tg) (wn:=wn) hlt
   have hsplit:q1h ms U=(q1h ms U).take i++(q1h ms U)[i]::(q1h ms U).drop (i+1):=by
    conv=>lhs;rw [← List.take_append_drop i (q1h ms U),List.drop_eq_getElem_cons c]
   have hni:(q1h ms U)[i] ∉ (q1h ms U).take i:=fun hmem=>by
    have h2:=jq9 ms U
    rw [hsplit] at h2
    exact (List.nodup_append.1 h2).2.2 _ hmem _ (List.mem_cons_self ..) rfl
   have hE:=jg9 ms (((q1h ms U)[i]:Nat):Int)
   have hnext:(q9e ms[(q1h ms U)[i]].2.1 tg (q9j wn ms[(q1h ms U)[i]].2.1)).2=0:=by
    have:=j5u.1 hz _ (List.getElem_mem c)
    rw [j3d tg wn hlt] at this
    exact this
   obtain ⟨f1,f2⟩:=jwy hnext
   have hp:=(hs.2 _ (List.getElem_mem hlt)).1
   obtain ⟨q,q0,q1,q2,q3,q4⟩:=quv n ms tg ch wn ((q1h ms U).map fun k=>(qo0 ms tg wn k).1) (q1h ms U) (jjz ms (((q1h ms U)[i]:Nat):Int)) i hi (by omega) (by omega) (fun d hd hm=>by
    rw [jfv hc hlt] at hd
    obtain ⟨x1,x2⟩:=q3i.1 hd
    exact jwp hsplit x1 x2 hm) hn ((q1h ms U).map fun k=>(qo0 ms tg wn k).1) (i:Int) (((q1h ms U)[i]:Nat):Int) ms ((ms.length:Nat):Int) false (iL (q1h ms U)) (i:Int) (iL ((q1h ms U).take i)) (iL (q1h ms U)) (i:Int) (((q1h ms U)[i]:Nat):Int) false n 0 (Nat.zero_le _) (by omega)
   have q0':q2j n n ((q1h ms U).map fun k=>(qo0 ms tg wn k).1) (iL (q1h ms U)) (i:Int) (iL (jjz ms (((q1h ms U)[i]:Nat):Int))) 0 ((q1h ms U).map fun k=>(qo0 ms tg wn k).1) (i:Int) (((q1h ms U)[i]:Nat):Int) ms ((ms.length:Nat):Int) false (iL (q1h ms U)) (i:Int) (iL ((q1h ms U).take i)) (iL (q1h ms U)) (i:Int) (((q1h ms U)[i]:Nat):Int) false ms tg ch wn=some (Sum.inr q):=q0
   rw [decide_eq_true (by omega),cond_true,hx,Option.bind_some,h1,decide_eq_false (by omega),cond_false,Option.bind_some,h1,decide_eq_false (by omega),cond_false,sub_zero (by rw [q3g];omega),Option.bind_some,hy,Option.bind_some,ht,q6o n _ _ (by rw [q3g,List.length_take];omega) hn,Option.bind_some,decide_eq_false (fun h=>hni (qjl.1 h)),cond_false,Option.bind_some,h1,qin n ms _ hs hn,Option.bind_some,q0',Option.bind_some,Sum.elim_inr,q1,q2,q3,q4,hx,Option.bind_some,h1]
   show (q0x ms (((q1h ms U)[i]:Nat):Int)).bind _=_
   rw [q0k hlt,Option.bind_some,Option.bind_some,j3d tg wn hlt]
   show (qk4 n ms[(q1h ms U)[i]].2.1 (jyz (q9e ms[(q1h ms U)[i]].2.1 tg (q9j wn ms[(q1h ms U)[i]].2.1)).1)).bind _=_
   rw [j7w n _ _ (by omega) (by omega),Option.bind_some,f1,Bool.not_true,cond_false,Option.bind_some]
   show (bif (q9e ms[(q1h ms U)[i]].2.1 tg (q9j wn ms[(q1h ms U)[i]].2.1)).1.2.1 then _ else _)=_
   cases hb:(q9e ms[(q1h ms U)[i]].2.1 tg (q9j wn ms[(q1h ms U)[i]].2.1)).1.2.1 with
   | false =>
    rw [cond_false,q0f,q04 (by omega)]
    exact qfn n ms tg ch wn U hs hc hz hn m (i+1) (by omega) (by omega)
   | true =>
    have f3:=f2 hb
    rw [cond_true,Option.bind_some,Option.bind_some]
    show (q9u n (rOld (q9e ms[(q1h ms U)[i]].2.1 tg (q9j wn ms[(q1h ms U)[i]].2.1)).1) (jyz (q9e ms[(q1h ms U)[i]].2.1 tg (q9j wn ms[(q1h ms U)[i]].2.1)).1)).bind _=_
    rw [j09 n _ _ (by omega),Option.bind_some,decide_eq_false (by omega),cond_false,q0f,q04 (by omega)]
    exact qfn n ms tg ch wn U hs hc hz hn m (i+1) (by omega) (by omega)
  ·obtain rfl:i=(q1h ms U).length:=by omega
   rw [decide_eq_false (by omega),cond_false]
theorem j8u (n:Nat) (hn:9223372036854775807<n) (hv:q9s n=some true) (ms:List MD) (tg:List TgD) (ch:List Int) (wn:List WnD) (h1:ms.length≤9223372036854775807) (h2:tg.length≤9223372036854775807) (h4:wn.length≤9223372036854775807) :
  qav n (ms,(tg,(ch,wn)))=some true:=by
 obtain ⟨b,k1,k2⟩:=qzv n ms tg ch wn h1 h2 h4 hn
 unfold qav
 rw [k1,Option.bind_some,hv]
 cases b with
 | false=>rfl
 | true =>
  obtain ⟨s1,s2,s3,s4⟩:=k2 rfl
  have h20:=s1.1
  obtain ⟨U,u1,u2⟩:=qvr ms tg ch wn s1 (by omega) (by omega) (by omega)
  rw [Bool.not_true,cond_false]
  show (qk1 n wn).bind _=_
  rw [jar n wn (by omega) (by omega),Option.bind_some]
  show (q1o ms tg ch wn).bind _=_
  rw [u1,Option.bind_some]
  by_cases ce:(jsw ms tg wn U).2=0
  ·obtain ⟨q1,q2,q3,q4,q5⟩:=k19 ce
   have hdl:=j9v ms U
   have hU:=u2 q1 q3
   have hmap:((q1h ms U).map fun k=>(qo0 ms tg wn k).1).map (fun x=>x.1)=iL (q1h ms U):=by
    rw [List.map_map]
    exact List.map_congr_left fun k hk=>jl0 (jve hk)
   have hA:=qu6 n ms tg ch wn ((q1h ms U).map fun k=>(qo0 ms tg wn k).1) (by rw [List.length_map];omega) n 0 (Nat.zero_le _) (by rw [List.length_map];omega)
   rw [hmap] at hA
   have hA':q1s n n ((q1h ms U).map fun k=>(qo0 ms tg wn k).1) 0 ms tg ch wn []=_:=hA
   have hB:=qsr n ms tg ch wn ((q1h ms U).map fun k=>(qo0 ms tg wn k).1) U s1 q1 q2 hU (by omega) (by omega) (by omega) n 0 (Nat.zero_le _) (by omega)
   have hB':q1g n n ((q1h ms U).map fun k=>(qo0 ms tg wn k).1) 0 ms tg ch wn (iL (q1h ms U))=_:=hB
   have hC:=qfn n ms tg ch wn U s1 q1 q4 (by omega) n 0 (Nat.zero_le _) (by omega)
   have hC':q1t n n ((q1h ms U).map fun k=>(qo0 ms tg wn k).1) (iL (q1h ms U)) 0 ms tg ch wn=_:=hC
   rw [decide_eq_true ce,Bool.not_true,cond_false,q5]
   show (q1s n n ((q1h ms U).map fun k=>(qo0 ms tg wn k).1) 0 ms tg ch wn []).bind _=_
   rw [hA',Option.bind_some]
   show (q1g n n ((q1h ms U).map fun k=>(qo0 ms tg wn k).1) 0 ms tg ch wn (iL (q1h ms U))).bind _=_
   rw [hB',Option.bind_some,Sum.elim_inr]
   show (q1t n n ((q1h ms U).map fun k=>(qo0 ms tg wn k).1) (iL (q1h ms U)) 0 ms tg ch wn).bind _=_
   rw [hC'];rfl
  ·rw [decide_eq_false ce,Bool.not_false,cond_true,jxe ce];rfl
end Go.Proofs.YtggoebaobojmjaaGreatDoor.AM
namespace Go.Proofs.YtggoebaobojmjaaGreatDoor.AM
open Go.RowKit
set_option linter.unusedVariables false
set_option maxRecDepth 100000
abbrev jdl:Nat:=9223372036854775808
theorem jzn:q9s jdl=some true:=by kernel_rfl
abbrev LTgTy:Ty:=.lst (.prod .str (.prod (.int .i64) (.prod (.int .i64) (.prod (.int .i64) (.prod .str (.prod .str .str))))))
abbrev LMdTy:Ty:=.lst (.prod .str (.prod .str (.lst (.prod .str (.prod (.int .i64) (.prod (.int .i64) (.prod (.int .i64) (.prod .str .str))))))))
abbrev LWnTy:Ty:=.lst (.prod .str (.int .i64))
abbrev CsTy:Ty:=.prod LMdTy (.prod LTgTy (.prod (.lst (.int .i64)) LWnTy))
theorem jyk {n:Nat} (h:n≤maxLen):n≤9223372036854775807:=Nat.le_trans h (by unfold maxLen;omega)
theorem qv9 (c:den CsTy) (hc:ja4 CsTy c):qav jdl c=some true:=by
 obtain ⟨ms,tg,ch,wn⟩:=c
 exact j8u jdl (by decide) jzn ms tg ch wn (jyk hc.1.1) (jyk hc.2.1.1) (jyk hc.2.2.2.1)
end Go.Proofs.YtggoebaobojmjaaGreatDoor.AM
namespace Go.Proofs.YtggoebaobojmjaaGreatDoor.AM
open Go.RowKit
set_option linter.unusedVariables false
set_option linter.unusedSimpArgs false
theorem jfc : "*" ++ "errors.errorString" = "*errors.errorString":=by decide
theorem jlg (u:TypeId) (h:Tryz.prog.typeName? 3 u=some "*errors.errorString"):u=199 :=
 typeName_ptr_named (nm := "errors.errorString") (by rw [jfc];kernel_rfl) (by kernel_rfl) (by decide) u (by rw [jfc];exact h)
theorem k02:(Rows.laid_internal_strconv_uint64pow10:DataW Unit)=Lib.tabData .u64 Lib.pow10Tab:=by rfl
theorem k0q:Tryz.prog.globalNamed "internal/strconv.uint64pow10" = some ((Tryz.prog.globalNamed "internal/strconv.uint64pow10").getD 0)∧(Tryz.prog.globals[(Tryz.prog.globalNamed "internal/strconv.uint64pow10").getD 0]?).map (·.type)=some 202:=⟨by kernel_rfl,by kernel_rfl⟩
theorem jy5:Tryz.prog.globalNamed "strconv.ErrSyntax" = some (Tryz.laysAtoi_ren.g 15)∧(Tryz.prog.globals[Tryz.laysAtoi_ren.g 15]?).map (·.type)=some 138:=⟨by kernel_rfl,by kernel_rfl⟩
theorem jw4:Tryz.prog.globalNamed "strconv.ErrRange" = some (Tryz.laysAtoi_ren.g 16)∧(Tryz.prog.globals[Tryz.laysAtoi_ren.g 16]?).map (·.type)=some 138:=⟨by kernel_rfl,by kernel_rfl⟩
theorem j66:Tryz.prog.cellsOf 201=1:=by kernel_rfl
theorem j58:Tryz.prog.cellsOf 9=1:=by kernel_rfl
theorem jzp {w:World} (hsh:w.ShapedOpen Tryz.prog)
  (hL:laidMet Tryz.prog [("math/bits.deBruijn32tab",Rows.laid_math_bits_deBruijn32tab),("math/bits.deBruijn64tab",Rows.laid_math_bits_deBruijn64tab),("internal/strconv.uint64pow10",Rows.laid_internal_strconv_uint64pow10),("unicode/utf8.acceptRanges",Rows.laid_unicode_utf8_acceptRanges),("strconv.ErrRange",Rows.laid_strconv_ErrRange),("strconv.ErrSyntax",Rows.laid_strconv_ErrSyntax),("unicode/utf8.first",Rows.laid_unicode_utf8_first)] w):Inv w:=by
 obtain ⟨m,hm⟩:=Tryz.laysIndex.s1_3 w hsh
 have h3:=hL.tail.tail
 rw [k02] at h3
 have h5:=hL.tail.tail.tail.tail
 unfold Rows.laid_strconv_ErrRange at h5
 have h6:=hL.tail.tail.tail.tail.tail
 unfold Rows.laid_strconv_ErrSyntax at h6
 obtain ⟨a0,s0,hv0,-,-,-⟩:=laid_sentinel h5 jw4.1 jw4.2 Tryz.underlying138 jlg Tryz.underlying199 Tryz.underlying201 rfl rfl Tryz.underlying9 j66 j58
 obtain ⟨a1,s1,hv1,-,-,-⟩:=laid_sentinel h6 jy5.1 jy5.2 Tryz.underlying138 jlg Tryz.underlying199 Tryz.underlying201 rfl rfl Tryz.underlying9 j66 j58
 have c0:w.cell? ⟨Tryz.laysAtoi_ren.g 16,0,none⟩=some (.iface 199 (.pointer (some a0))):=by have h0:=World.var?_cell jw4.1 hv0 0;simpa using h0
 have c1:w.cell? ⟨Tryz.laysAtoi_ren.g 15,0,none⟩=some (.iface 199 (.pointer (some a1))):=by have h0:=World.var?_cell jy5.1 hv1 0;simpa using h0
 exact ⟨⟨m,hm⟩,Lib.tabIs_of_head k0q.1 k0q.2 (n:=20) (e:=179) (by kernel_rfl) (by kernel_rfl) (by kernel_rfl) (by kernel_rfl) h3,⟨_,_,c1⟩,⟨_,_,c0⟩⟩
end Go.Proofs.YtggoebaobojmjaaGreatDoor.AM
