
import Derived.Test.YtlkpgcifpnppeaaGreatDoorMv19
namespace Go.Proofs.YtlkpgcifpnppeaaGreatDoor.AM
open Go.RowKit
set_option linter.unusedVariables false
set_option linter.unusedSimpArgs false
set_option synthInstance.maxSize 100000
set_option synthInstance.maxHeartbeats 0
theorem jmn (x:QD) (l:List ND):(qf9 [x] l).length=1+(l.flatMap nR).length:=by unfold qf9;rw [List.length_append];rfl
theorem qlx (n:Nat) (x:QD) (l:List ND) (r:QD) (hx:x.1.length<=1000) (hl:ShN l) (hn:1000000<=n) (hb:(l.flatMap nR).length<=9000) (hc:l.length<=10000):q9d n x l r=some (qkv l r x):=by
 have hb2:(qf9 [x] l).length<=10000:=by rw [jmn];omega
 have h1:=q72 [x] l
 have h2:=q7t [x] l
 unfold q9d qkv
 rw [qi5 n [x] l (fun q hq=>by rw [List.mem_singleton] at hq;rw [hq];exact hx) hl hn hb2 hc,Option.bind_some,qqb n _ _ hn (by omega),Option.bind_some]
 unfold q1q
 cases ofQ (qih (q0d [x] l)) r.1 with
 | none=>rfl
 | some y =>
  show ((q0g n y.2 r.2).bind _)=_
  rw [q1b n _ _ (by omega)];rfl
def jkl (l:List ND) (r x:QD) (D:List ND):List QD:=(D.map nq).filter fun y=>decide (y.1=x.1)&&(q3b y&&(decide (q3d y.2 x.2<0) && !qkv l r y))
theorem j6i (n:Nat) (l:List ND) (r x:QD) (hl:ShN l) (hn:1000000<=n) (hb:(l.flatMap nR).length<=9000) (hc:l.length<=10000) : ∀(m j:Nat) (b:Option QD),l.length - j<m->j<=l.length ->
  q3h n m l b.isSome (j:Int) x.1 x.2.1 x.2.2.1 x.2.2.2.1 x.2.2.2.2.1 x.2.2.2.2.2 r.1 r.2.1 r.2.2.1 r.2.2.2.1 r.2.2.2.2.1 r.2.2.2.2.2 [] 0 0 0 [] [] (b.getD q0).1 (b.getD q0).2.1 (b.getD q0).2.2.1 (b.getD q0).2.2.2.1 (b.getD q0).2.2.2.2.1 (b.getD q0).2.2.2.2.2 =
   some (((),((),((ofF x.1 b (jkl l r x (l.drop j))).isSome,()))),((q0,((ofF x.1 b (jkl l r x (l.drop j))).getD q0,())),()))
 | 0,j,b,h,_=>absurd h (Nat.not_lt_zero _)
 | m+1,j,b,h,hj=>by
  rw [qdc]
  unfold qcu
  by_cases c:j<l.length
  ·have ih:=fun b=>j6i n l r x hl hn hb hc m (j+1) b (by omega) (by omega)
   have ed:jkl l r x (l.drop j)=if (decide ((nq l[j]).1=x.1)&&(q3b (nq l[j])&&(decide (q3d (nq l[j]).2 x.2<0) && !qkv l r (nq l[j]))))=true then nq l[j]::jkl l r x (l.drop (j+1)) else jkl l r x (l.drop (j+1)):=by
    rw [List.drop_eq_getElem_cons c]
    unfold jkl
    rw [List.map_cons,List.filter_cons]
   rw [decide_eq_true (by omega),cond_true,q0a c,Option.bind_some,ed]
   show (bif !decide ((nq l[j]).1=x.1) then _ else ((q27 n (nq l[j])).bind _))=_
   by_cases e:(nq l[j]).1=x.1
   ·rw [decide_eq_true e,Bool.not_true,cond_false,q1f n _ (hl _ (List.getElem_mem c)).1 (by omega),Option.bind_some,Bool.true_and]
    cases hm:q3b (nq l[j]) with
    | false =>
     rw [Bool.false_and,if_neg (by simp),Bool.not_false,cond_true,q02,q00 (by omega)]
     exact ih b
    | true =>
     rw [Bool.true_and,Bool.not_true,cond_false]
     show ((q0g n (nq l[j]).2 x.2).bind _)=_
     rw [q1b n _ _ (by omega),Option.bind_some]
     by_cases hlt:q3d (nq l[j]).2 x.2<0
     ·rw [decide_eq_true hlt,decide_eq_false (show ¬ 0<=q3d (nq l[j]).2 x.2 by omega),cond_false,Bool.true_and]
      show ((q9d n (nq l[j]) l r).bind _)=_
      rw [qlx n _ l r (hl _ (List.getElem_mem c)).1 hl hn hb hc,Option.bind_some]
      cases ho:qkv l r (nq l[j]) with
      | true =>
       rw [Bool.not_true,if_neg (by simp),cond_true,q02,q00 (by omega)]
       exact ih b
      | false =>
       rw [Bool.not_false,if_pos rfl,cond_false]
       have e2:ofF x.1 b (nq l[j]::jkl l r x (l.drop (j+1)))=ofF x.1 (if qg3 x.1 b (nq l[j])=true then some (nq l[j]) else b) (jkl l r x (l.drop (j+1))):=rfl
       rw [e2]
       cases b with
       | none =>
        rw [qbp,decide_eq_true e,if_pos rfl,Option.isSome_none,Bool.not_false,cond_true,q02,q00 (by omega)]
        exact ih (some (nq l[j]))
       | some y =>
        have hbt:qg3 x.1 (some y) (nq l[j])=decide (0<q3d (nq l[j]).2 y.2):=by
         unfold qg3
         rw [decide_eq_true e];rfl
        rw [hbt,Option.isSome_some,Bool.not_true,cond_false]
        show ((q0g n (nq l[j]).2 y.2).bind _)=_
        rw [q1b n _ _ (by omega),Option.bind_some]
        by_cases hgt:0<q3d (nq l[j]).2 y.2
        ·rw [decide_eq_true hgt,cond_true,if_pos rfl,q02,q00 (by omega)]
         exact ih (some (nq l[j]))
        ·rw [decide_eq_false hgt,cond_false,if_neg (by simp),q02,q00 (by omega)]
         exact ih (some y)
     ·rw [decide_eq_false hlt,decide_eq_true (show 0<=q3d (nq l[j]).2 x.2 by omega),cond_true,Bool.false_and,if_neg (by simp),q02,q00 (by omega)]
      exact ih b
   ·rw [decide_eq_false e,Bool.not_false,cond_true,Bool.false_and,if_neg (by simp),q02,q00 (by omega)]
    exact ih b
  ·rw [decide_eq_false (by omega),cond_false,List.drop_of_length_le (by omega)]
   rfl
theorem qtp (n:Nat) (x:QD) (l:List ND) (r:QD) (hl:ShN l) (hn:1000000<=n) (hb:(l.flatMap nR).length<=9000) (hc:l.length<=10000):q8h n x l r=some ((j7c l r x).getD q0,(j7c l r x).isSome):=by
 unfold q8h
 have:=j6i n l r x hl hn hb hc n 0 none (by omega) (Nat.zero_le _)
 rw [show ((0:Nat):Int)=(0:Int) from rfl,List.drop_zero] at this
 have h2:q3h n n l false 0 x.1 x.2.1 x.2.2.1 x.2.2.2.1 x.2.2.2.2.1 x.2.2.2.2.2 r.1 r.2.1 r.2.2.1 r.2.2.2.1 r.2.2.2.2.1 r.2.2.2.2.2 [] 0 0 0 [] [] [] 0 0 0 [] []=some (((),((),((j7c l r x).isSome,()))),((q0,((j7c l r x).getD q0,())),())):=this
 rw [h2];rfl
theorem qr4 (n:Nat) (root:List QD) (l:List ND) (r:QD) (hr:ShQ root) (hl:ShN l) (hn:1000000<=n) (hb:(l.flatMap nR).length<=9000) (hc:l.length<=10000) (hrl:root.length<=10000) : ∀(m j:Nat) (s:List QD),root.length - j<m->j<=root.length->s.length+(root.length - j)<=100000 ->
  q2o n m root l (j:Int) r.1 r.2.1 r.2.2.1 r.2.2.2.1 r.2.2.2.2.1 r.2.2.2.2.2 s=some (((),()),((),(s++q6y l r (root.drop j),())))
 | 0,j,s,h,_,_=>absurd h (Nat.not_lt_zero _)
 | m+1,j,s,h,hj,hs=>by
  rw [q8u]
  unfold q6d
  by_cases c:j<root.length
  ·have ih0:=qr4 n root l r hr hl hn hb hc hrl m (j+1)
   have e:q6y l r (root.drop j)=if qkv l r root[j]=true then (match j7c l r root[j] with|some y=>y::q6y l r (root.drop (j+1))|none=>q6y l r (root.drop (j+1))) else root[j]::q6y l r (root.drop (j+1)):=by
    rw [List.drop_eq_getElem_cons c];rfl
   rw [decide_eq_true (by omega),cond_true,q0a c,Option.bind_some,e]
   show ((q9d n root[j] l r).bind _)=_
   rw [qlx n _ l r (hr _ (List.getElem_mem c)) hl hn hb hc,Option.bind_some]
   cases ho:qkv l r root[j] with
   | false =>
    rw [if_neg (by simp),Bool.not_false,cond_true,q1x (by simp;omega),Option.bind_some,q02,q00 (by omega)]
    have ih:=ih0 (s ++ [root[j]]) (by omega) (by omega) (by simp;omega)
    rw [List.append_assoc] at ih
    exact ih
   | true =>
    rw [if_pos rfl,Bool.not_true,cond_false]
    show ((q8h n root[j] l r).bind _)=_
    rw [qtp n _ l r hl hn hb hc,Option.bind_some]
    cases j7c l r root[j] with
    | none =>
     show (bif false then _ else q08 (IntKind.wrap .i64 ((j:Int)+1)) _)=_
     rw [cond_false,q02,q00 (by omega)]
     exact ih0 s (by omega) (by omega) (by omega)
    | some y =>
     show (bif true then ((q7r 72 s [y]).bind _) else _)=_
     rw [cond_true,q1x (by simp;omega),Option.bind_some,q02,q00 (by omega)]
     have ih:=ih0 (s ++ [y]) (by omega) (by omega) (by simp;omega)
     rw [List.append_assoc] at ih
     exact ih
  ·rw [decide_eq_false (by omega),cond_false,List.drop_of_length_le (by omega)]
   show _=some (((),()),((),(s ++ [],())))
   rw [List.append_nil]
theorem qgt (n:Nat) (root:List QD) (l:List ND) (r:QD) (hn:1000000<=n) (h:Sm root l) (hrs:r.1.length<=1000):q4y n root l r=some (q6p root l r):=by
 have hf:=h.flat
 have hll:=h.ll
 have hrl:=h.rl
 unfold q4y q6p
 rw [q1f n r hrs (by omega),Option.bind_some]
 cases hm:q3b r with
 | false =>
  show ((q7r 72 [] root).bind _)=_
  rw [q1x (by simp;omega)];rfl
 | true =>
  have:=qr4 n root l r h.sr h.sl hn (by omega) (by omega) (by omega) n 0 [] (by omega) (Nat.zero_le _) (by simp;omega)
  rw [show ((0:Nat):Int)=(0:Int) from rfl,List.drop_zero,List.nil_append] at this
  rw [Bool.not_true,cond_false,if_pos rfl,this];rfl
theorem qwm (n:Nat) (a b:List QD) (hl:a.length=b.length) (ha:a.length<=1000000) : ∀(m j:Nat),a.length - j<m->j<=a.length ->
  q60 n m a b (j:Int)=if a.drop j=b.drop j then some (Sum.inr ((),((),()))) else some (Sum.inl ((false,()),((),())))
 | 0,j,h,_=>absurd h (Nat.not_lt_zero _)
 | m+1,j,h,hj=>by
  rw [qev]
  unfold qg8
  by_cases c:j<a.length
  ·have cb:j<b.length:=by omega
   rw [decide_eq_true (by omega),cond_true,q0a c,Option.bind_some,q0a cb,Option.bind_some,eq_q,List.drop_eq_getElem_cons c,List.drop_eq_getElem_cons cb]
   by_cases e:a[j]=b[j]
   ·rw [decide_eq_true e,Bool.not_true,cond_false,q02,q00 (by omega)]
    refine (qwm n a b hl ha m (j+1) (by omega) (by omega)).trans ?_
    by_cases h2:a.drop (j+1)=b.drop (j+1)
    ·rw [if_pos h2,if_pos (by rw [e,h2])]
    ·rw [if_neg h2,if_neg (fun h3=>h2 (List.cons.inj h3).2)]
   ·rw [decide_eq_false e,if_neg (fun h3=>e (List.cons.inj h3).1)];rfl
  ·rw [decide_eq_false (by omega),cond_false,List.drop_of_length_le (by omega),List.drop_of_length_le (by omega),if_pos rfl]
theorem q1p (n:Nat) (a b:List QD) (hn:1000000<=n) (ha:a.length<=900000):q1a n a b=some (decide (a=b)):=by
 unfold q1a
 by_cases hl:a.length=b.length
 ·have:=qwm n a b hl (by omega) n 0 (by omega) (Nat.zero_le _)
  rw [show ((0:Nat):Int)=(0:Int) from rfl,List.drop_zero,List.drop_zero] at this
  rw [decide_eq_true (show ((a.length:Nat):Int)=((b.length:Nat):Int) by omega),Bool.not_true,cond_false,this]
  by_cases h:a=b
  ·rw [if_pos h,decide_eq_true h];rfl
  ·rw [if_neg h,decide_eq_false h];rfl
 ·rw [decide_eq_false (show ¬ ((a.length:Nat):Int)=((b.length:Nat):Int) by omega),decide_eq_false (fun e=>hl (by rw [e]))];rfl
theorem qzn {i:Nat} (h:i+1<=9223372036854775807):IntKind.wrap .i64 ((i:Int)+1)=((i+1:Nat):Int):=by rw [wrap64 (by omega) (by omega)];rfl
theorem j5f (n:Nat) (L:List QD) (hl:L.length<=9223372036854775807) : ∀(m j:Nat),L.length - j<m->j<=L.length ->
  q5c n m L (j:Int)=some (Sum.inl ((false,()),((),())))\/(q5c n m L (j:Int)=some (Sum.inr ((L,()),((),())))/\∀q∈L.drop j,q.1.length<=200)
 | 0,j,h,_=>absurd h (Nat.not_lt_zero _)
 | m+1,j,h,hj=>by
  rw [qh4]
  unfold qmk
  by_cases c:j<L.length
  ·rw [decide_eq_true (by omega),cond_true,q0a c,Option.bind_some,List.drop_eq_getElem_cons c]
   by_cases e1:(200:Int)<((L[j].1.length:Nat):Int)
   ·rw [decide_eq_true e1];exact Or.inl rfl
   ·rw [decide_eq_false e1,cond_false,Option.bind_some]
    cases decide ((200:Int)<((L[j].2.2.2.2.1.length:Nat):Int)) with
    | true=>exact Or.inl rfl
    | false =>
     rw [cond_false,Option.bind_some]
     cases decide ((200:Int)<((L[j].2.2.2.2.2.length:Nat):Int)) with
     | true=>exact Or.inl rfl
     | false =>
      rw [cond_false,q02,qzn (by omega)]
      rcases j5f n L hl m (j+1) (by omega) (by omega) with h1|⟨h1,h2⟩
      ·exact Or.inl h1
      ·refine Or.inr ⟨h1,fun q hq=>?_⟩
       rcases List.mem_cons.1 hq with rfl|hq
       ·omega
       ·exact h2 q hq
  ·rw [decide_eq_false (by omega),cond_false,List.drop_of_length_le (by omega)]
   exact Or.inr ⟨rfl,fun q hq=>by cases hq⟩
theorem qcd (n:Nat) (L:List QD) (hl:L.length<=9223372036854775807) (hn:9223372036854775807<n) : ∃ b,q48 n L=some b/\(b=true->ShQ L/\L.length<=12):=by
 unfold q48
 have:=j5f n L hl n 0 (by omega) (Nat.zero_le _)
 rw [show ((0:Nat):Int)=(0:Int) from rfl,List.drop_zero] at this
 rcases this with h|⟨h,h2⟩
 ·rw [h];exact ⟨false,rfl,fun h=>by cases h⟩
 ·rw [h]
  refine ⟨decide (((L.length:Nat):Int)<=12),rfl,fun h3=>⟨fun q hq=>by have:=h2 q hq;omega,?_⟩⟩
  have:=of_decide_eq_true h3
  omega
theorem qqa (n:Nat) (root:List QD) (l:List ND) (hl:l.length<=9223372036854775807) (hx : ∀x∈l,(nR x).length<=9223372036854775807) (hn:9223372036854775807<n) : ∀(m j:Nat),l.length - j<m->j<=l.length ->
  q3r n m root l (j:Int)=some (Sum.inl ((false,()),((),())))\/(q3r n m root l (j:Int)=some (Sum.inr ((root,(l,())),((),())))/\∀x∈l.drop j,(nq x).1.length<=1000/\ShQ (nR x)/\(nR x).length<=12)
 | 0,j,h,_=>absurd h (Nat.not_lt_zero _)
 | m+1,j,h,hj=>by
  rw [qdl]
  unfold qd1
  by_cases c:j<l.length
  ·obtain ⟨b1,h1,h2⟩:=qcd n (nR l[j]) (hx _ (List.getElem_mem c)) hn
   obtain ⟨b2,h3,h4⟩:=qcd n [nq l[j]] (by simp) hn
   rw [decide_eq_true (by omega),cond_true,q0a c,Option.bind_some,List.drop_eq_getElem_cons c]
   show ((q48 n (nR l[j])).bind fun r2=>bif !r2 then _ else (some l[j]).bind _)=_\/((q48 n (nR l[j])).bind _=_/\_)
   rw [h1,Option.bind_some]
   cases b1 with
   | false=>exact Or.inl rfl
   | true =>
    rw [Bool.not_true,cond_false,Option.bind_some]
    show ((q48 n [nq l[j]]).bind _)=_\/((q48 n [nq l[j]]).bind _=_/\_)
    rw [h3,Option.bind_some]
    cases b2 with
    | false=>exact Or.inl rfl
    | true =>
     rw [Bool.not_true,cond_false,q02,qzn (by omega)]
     rcases qqa n root l hl hx hn m (j+1) (by omega) (by omega) with h5|⟨h5,h6⟩
     ·exact Or.inl h5
     ·refine Or.inr ⟨h5,fun x hx=>?_⟩
      rcases List.mem_cons.1 hx with rfl|hx
      ·exact ⟨(h4 rfl).1 _ (List.mem_cons_self ..),(h2 rfl).1,(h2 rfl).2⟩
      ·exact h6 x hx
  ·rw [decide_eq_false (by omega),cond_false,List.drop_of_length_le (by omega)]
   exact Or.inr ⟨rfl,fun x hx=>by cases hx⟩
theorem qs3 (n:Nat) (root:List QD) (l:List ND) (hr:root.length<=9223372036854775807) (hl:l.length<=9223372036854775807) (hx : ∀x∈l,(nR x).length<=9223372036854775807) (hn:9223372036854775807<n) :
  ∃ b,q0v n root l=some b/\(b=true->Sm root l/\root.length<=12):=by
 unfold q0v
 have:=qqa n root l hl hx hn n 0 (by omega) (Nat.zero_le _)
 rw [show ((0:Nat):Int)=(0:Int) from rfl,List.drop_zero] at this
 rcases this with h|⟨h,h2⟩
 ·rw [h];exact ⟨false,rfl,fun h=>by cases h⟩
 ·obtain ⟨b,h3,h4⟩:=qcd n root hr hn
  rw [h]
  show ∃ b,((q48 n root).bind _)=some b/\_
  rw [h3]
  cases b with
  | false=>exact ⟨false,rfl,fun h=>by cases h⟩
  | true =>
   refine ⟨decide (((l.length:Nat):Int)<=20),rfl,fun h5=>?_⟩
   have:=of_decide_eq_true h5
   obtain ⟨h6,h7⟩:=h4 rfl
   exact ⟨⟨h6,fun x hx=>⟨(h2 x hx).1,(h2 x hx).2.1⟩,by omega,by omega,fun x hx=>(h2 x hx).2.2⟩,h7⟩
end Go.Proofs.YtlkpgcifpnppeaaGreatDoor.AM
