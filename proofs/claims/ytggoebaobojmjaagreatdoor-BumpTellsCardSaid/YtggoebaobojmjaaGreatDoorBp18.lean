
import Derived.Test.YtggoebaobojmjaaGreatDoorBp16
import Derived.Test.YtggoebaobojmjaaGreatDoorBp17
import Derived.Test.YtggoebaobojmjaaGreatDoorBp9
import Derived.Test.YtggoebaobojmjaaGreatDoorBp14
namespace Go.Proofs.YtggoebaobojmjaaGreatDoor.AM
open Go.RowKit
set_option linter.unusedVariables false
set_option linter.unusedSimpArgs false
abbrev TgD:=List UInt8×(Int×(Int×(Int×(List UInt8×(List UInt8×List UInt8)))))
def tV (t:TgD):VD:=(t.2.1,(t.2.2.1,(t.2.2.2.1,(t.2.2.2.2.1,t.2.2.2.2.2.1))))
abbrev tH (t:TgD):List UInt8:=t.2.2.2.2.2.2
def q0l (p:List UInt8):Option TgD->List TgD->Option TgD
 | b,[]=>b
 | b,t::l=>if t.1=p then (match b with
   | none=>q0l p (some t) l
   | some m=>if 0<qmq (tV t) (tV m) then q0l p (some t) l else q0l p b l) else q0l p b l
def z0T:TgD:=([],(0,(0,(0,([],([],[]))))))
theorem q2e (p:List UInt8) (b:Option TgD) (t:TgD) (l:List TgD):q0l p b (t::l)=if t.1=p then (match b with
   | none=>q0l p (some t) l
   | some m=>if 0<qmq (tV t) (tV m) then q0l p (some t) l else q0l p b l) else q0l p b l:=by cases b<;>rfl
theorem q6h (n:Nat) (hn:100<=n) (l:List TgD) (p:List UInt8) (hL:l.length<=1000000000000) : ∀(m j:Nat) (b:Option TgD) (a6:List UInt8) (a7 a8 a9:Int) (a10 a11 a12:List UInt8),j<=l.length->l.length - j<m ->
  ∃ c:List UInt8×(Int×(Int×(Int×(List UInt8×(List UInt8×List UInt8))))),q3a n m p b.isSome l ((l.length:Nat):Int) (j:Int) a6 a7 a8 a9 a10 a11 a12 (b.getD z0T).1 (b.getD z0T).2.1 (b.getD z0T).2.2.1 (b.getD z0T).2.2.2.1 (b.getD z0T).2.2.2.2.1 (b.getD z0T).2.2.2.2.2.1 (b.getD z0T).2.2.2.2.2.2 =
   some ((((),((),((q0l p b (l.drop j)).isSome,()))),((c,((q0l p b (l.drop j)).getD z0T,())),())))
 | 0,j,b,_,_,_,_,_,_,_,hj,hm=>absurd hm (Nat.not_lt_zero _)
 | m+1,j,b,a6,a7,a8,a9,a10,a11,a12,hj,hm=>by
  rw [qgv]
  unfold qkj
  by_cases hjl:j<l.length
  ·have h1:(j:Int)<((l.length:Nat):Int):=by omega
   rw [decide_eq_true h1,cond_true,q0m hjl,Option.bind_some]
   have hd:l.drop j=l[j]::l.drop (j+1):=List.drop_eq_getElem_cons hjl
   rw [hd]
   generalize l[j]=t
   have hw:IntKind.wrap .i64 ((j:Int)+1)=((j+1:Nat):Int):=by rw [q04 (by omega)]
   by_cases hp:t.1=p
   ·rw [decide_eq_true hp,cond_true]
    cases b with
    | none =>
     have e1:q0l p none (t::l.drop (j+1))=q0l p (some t) (l.drop (j+1)):=by rw [q2e,if_pos hp]
     rw [e1]
     show ∃ c:TgD,q0d _ _=_
     unfold q0d
     rw [hw]
     exact q6h n hn l p hL m (j+1) (some t) _ _ _ _ _ _ _ hjl (by omega)
    | some q =>
     show ∃ c:TgD,(q64 n (tV t) (tV q)).bind _=_
     rw [qhp n _ _ hn,Option.bind_some]
     by_cases hc:0<qmq (tV t) (tV q)
     ·have e1:q0l p (some q) (t::l.drop (j+1))=q0l p (some t) (l.drop (j+1)):=by rw [q2e,if_pos hp];simp only [hc,if_true]
      rw [decide_eq_true hc,cond_true,e1]
      unfold q0d
      rw [hw]
      exact q6h n hn l p hL m (j+1) (some t) _ _ _ _ _ _ _ hjl (by omega)
     ·have e1:q0l p (some q) (t::l.drop (j+1))=q0l p (some q) (l.drop (j+1)):=by rw [q2e,if_pos hp];simp only [hc,if_false]
      rw [decide_eq_false hc,cond_false,e1]
      unfold q0d
      rw [hw]
      exact q6h n hn l p hL m (j+1) (some q) _ _ _ _ _ _ _ hjl (by omega)
   ·have e1:q0l p b (t::l.drop (j+1))=q0l p b (l.drop (j+1)):=by rw [q2e,if_neg hp]
    rw [decide_eq_false hp,cond_false,e1]
    unfold q0d
    rw [hw]
    exact q6h n hn l p hL m (j+1) b _ _ _ _ _ _ _ hjl (by omega)
  ·have h1 : ¬ (j:Int)<((l.length:Nat):Int):=by omega
   rw [decide_eq_false h1,cond_false,List.drop_of_length_le (by omega)]
   exact ⟨_,rfl⟩
theorem j29 (n:Nat) (hn:100<=n) (l:List TgD) (p:List UInt8) (hL:l.length<=1000000000000) (hn2:l.length<n):qg7 n l p=some ((q0l p none l).getD z0T,(q0l p none l).isSome):=by
 unfold qg7
 obtain ⟨c,h⟩:=q6h n hn l p hL n 0 none [] 0 0 0 [] [] [] (Nat.zero_le _) (by omega)
 have h':q3a n n p false l ((l.length:Nat):Int) (0:Int) [] 0 0 0 [] [] [] [] 0 0 0 [] [] []=_:=h
 rw [h',Option.bind_some,List.drop_zero]
def few (t:TgD):Prop:=t.1.length<=5000/\(tH t).length<=5000
theorem q50 (n:Nat) (hn:100<=n) (l:List TgD) (p:List UInt8) (hL:l.length<=1000000000000) : ∀(m j:Nat) (b:Option TgD) (a6:List UInt8) (a7 a8 a9:Int) (a10 a11 a12:List UInt8),j<=l.length->l.length - j<m ->
  ∃ c:TgD,q2f n m l p b.isSome (j:Int) a6 a7 a8 a9 a10 a11 a12 (b.getD z0T).1 (b.getD z0T).2.1 (b.getD z0T).2.2.1 (b.getD z0T).2.2.2.1 (b.getD z0T).2.2.2.2.1 (b.getD z0T).2.2.2.2.2.1 (b.getD z0T).2.2.2.2.2.2 =
   some ((((),((),((q0l p b (l.drop j)).isSome,()))),((c,((q0l p b (l.drop j)).getD z0T,())),())))
 | 0,j,b,_,_,_,_,_,_,_,hj,hm=>absurd hm (Nat.not_lt_zero _)
 | m+1,j,b,a6,a7,a8,a9,a10,a11,a12,hj,hm=>by
  rw [qe1]
  unfold qc5
  by_cases hjl:j<l.length
  ·have h1:(j:Int)<((l.length:Nat):Int):=by omega
   have hx:=q0m hjl
   rw [decide_eq_true h1,cond_true,hx,Option.bind_some]
   have hd:l.drop j=l[j]::l.drop (j+1):=List.drop_eq_getElem_cons hjl
   rw [hd]
   generalize l[j]=t at hx ⊢
   have hw:IntKind.wrap .i64 ((j:Int)+1)=((j+1:Nat):Int):=by rw [q04 (by omega)]
   by_cases hp:t.1=p
   ·rw [decide_eq_true hp,cond_true]
    cases b with
    | none =>
     have e1:q0l p none (t::l.drop (j+1))=q0l p (some t) (l.drop (j+1)):=by rw [q2e,if_pos hp]
     rw [e1]
     show ∃ c:TgD,q0d _ _=_
     unfold q0d
     rw [hw]
     exact q50 n hn l p hL m (j+1) (some t) _ _ _ _ _ _ _ hjl (by omega)
    | some q =>
     show ∃ c:TgD,(q1y n (tV t) (tV q)).bind _=_
     rw [qhc n _ _ hn,Option.bind_some]
     by_cases hc:0<qmq (tV t) (tV q)
     ·have e1:q0l p (some q) (t::l.drop (j+1))=q0l p (some t) (l.drop (j+1)):=by rw [q2e,if_pos hp];simp only [hc,if_true]
      rw [decide_eq_true hc,cond_true,e1,Option.bind_some]
      unfold q0d
      rw [hw]
      exact q50 n hn l p hL m (j+1) (some t) _ _ _ _ _ _ _ hjl (by omega)
     ·have e1:q0l p (some q) (t::l.drop (j+1))=q0l p (some q) (l.drop (j+1)):=by rw [q2e,if_pos hp];simp only [hc,if_false]
      rw [decide_eq_false hc,cond_false,e1]
      unfold q0d
      rw [hw]
      exact q50 n hn l p hL m (j+1) (some q) _ _ _ _ _ _ _ hjl (by omega)
   ·have e1:q0l p b (t::l.drop (j+1))=q0l p b (l.drop (j+1)):=by rw [q2e,if_neg hp]
    rw [decide_eq_false hp,cond_false,e1]
    unfold q0d
    rw [hw]
    exact q50 n hn l p hL m (j+1) b _ _ _ _ _ _ _ hjl (by omega)
  ·have h1 : ¬ (j:Int)<((l.length:Nat):Int):=by omega
   rw [decide_eq_false h1,cond_false,List.drop_of_length_le (by omega)]
   exact ⟨_,rfl⟩
theorem qur (n:Nat) (hn:100<=n) (l:List TgD) (p:List UInt8) (hL:l.length<=1000000000000) (hn2:l.length<n):q9d n l p=some ((q0l p none l).getD z0T,(q0l p none l).isSome):=by
 unfold q9d
 obtain ⟨c,h⟩:=q50 n hn l p hL n 0 none [] 0 0 0 [] [] [] (Nat.zero_le _) (by omega)
 have h':q2f n n l p false (0:Int) [] 0 0 0 [] [] [] [] 0 0 0 [] [] []=_:=h
 rw [h',Option.bind_some,List.drop_zero]
def fewT (t:TgD):Bool:=decide (t.1.length<=200)&&(decide (t.2.2.2.2.2.2.length<=200)&&(decide (t.2.2.2.2.1.length<=200)&&decide (t.2.2.2.2.2.1.length<=200)))
def jz4 (l:List TgD):Bool:=l.all fewT&&decide (l.length<=60)
abbrev FOut:=((Bool×(Unit))×(Unit)×(Unit))⊕(((List TgD)×(Unit))×(Unit)×(Unit))
theorem jcv (n:Nat) (l:List TgD) (hL:l.length<=9223372036854775807) : ∀m j:Nat,j<=l.length->l.length - j<m->∃ r:FOut,q53 n m l (j:Int)=some r/\(Sum.elim (fun q7=>some q7.1.1) (fun q8=>some (decide (((List.length q8.1.1:Nat):Int)<=(60:Int)))) r:Option Bool)=some ((l.drop j).all fewT&&decide (l.length<=60))
 | 0,j,hj,hm=>absurd hm (Nat.not_lt_zero _)
 | m+1,j,hj,hm=>by
  rw [qlk]
  unfold qpx
  by_cases hjl:j<l.length
  ·have h1:(j:Int)<((l.length:Nat):Int):=by omega
   rw [decide_eq_true h1,cond_true,q0m hjl,Option.bind_some,Option.bind_some,Option.bind_some,Option.bind_some]
   have hd:l.drop j=l[j]::l.drop (j+1):=List.drop_eq_getElem_cons hjl
   rw [hd,List.all_cons]
   generalize l[j]=t
   have dl : ∀s:List UInt8,decide ((200:Int)<((s.length:Nat):Int)) = !decide (s.length<=200):=fun s=>by
    by_cases h:s.length<=200
    ·rw [decide_eq_true h,decide_eq_false (by omega)];rfl
    ·rw [decide_eq_false h,decide_eq_true (by omega)];rfl
   rw [dl,dl,dl,dl]
   unfold fewT
   by_cases h2:t.1.length<=200
   ·by_cases h3:t.2.2.2.2.2.2.length<=200
    ·by_cases h4:t.2.2.2.2.1.length<=200
     ·by_cases h5:t.2.2.2.2.2.1.length<=200
      ·rw [decide_eq_true h2,decide_eq_true h3,decide_eq_true h4,decide_eq_true h5]
       simp only [Bool.not_true,cond_false,Bool.true_and]
       unfold q0d
       rw [show IntKind.wrap .i64 ((j:Int)+1)=((j+1:Nat):Int) from by rw [wrap64 (by omega) (by omega)];omega]
       exact jcv n l hL m (j+1) hjl (by omega)
      ·rw [decide_eq_true h2,decide_eq_true h3,decide_eq_true h4,decide_eq_false h5];exact ⟨_,rfl,rfl⟩
     ·rw [decide_eq_true h2,decide_eq_true h3,decide_eq_false h4];exact ⟨_,rfl,rfl⟩
    ·rw [decide_eq_true h2,decide_eq_false h3];exact ⟨_,rfl,rfl⟩
   ·rw [decide_eq_false h2];exact ⟨_,rfl,rfl⟩
  ·have h1 : ¬ (j:Int)<((l.length:Nat):Int):=by omega
   rw [decide_eq_false h1,cond_false,List.drop_of_length_le (by omega)]
   refine ⟨_,rfl,?_⟩
   show some (decide (((l.length:Nat):Int)<=60))=some (true&&decide (l.length<=60))
   rw [Bool.true_and]
   exact congrArg some (decide_eq_decide.2 ⟨fun h=>by omega,fun h=>by omega⟩)
theorem qru (n:Nat) (l:List TgD) (hL:l.length<=9223372036854775807) (hn:l.length<n):qid n l=some (jz4 l):=by
 unfold qid
 obtain ⟨r,h1,h2⟩:=jcv n l hL n 0 (Nat.zero_le _) (by omega)
 have h1':q53 n n l (0:Int)=some r:=h1
 rw [h1',Option.bind_some]
 exact h2
theorem juj {l:List TgD} (h:jz4 l=true):l.length<=60/\∀t∈l,few t:=by
 unfold jz4 at h
 obtain ⟨h1,h2⟩:=Bool.and_eq_true_iff.1 h
 refine ⟨of_decide_eq_true h2,fun t ht=>?_⟩
 have h3:=List.all_eq_true.1 h1 t ht
 unfold fewT at h3
 obtain ⟨h4,h5⟩:=Bool.and_eq_true_iff.1 h3
 obtain ⟨h6,h7⟩:=Bool.and_eq_true_iff.1 h5
 have h4':=of_decide_eq_true h4
 have h6':=of_decide_eq_true h6
 exact ⟨by omega,by show t.2.2.2.2.2.2.length<=5000;omega⟩
end Go.Proofs.YtggoebaobojmjaaGreatDoor.AM
namespace Go.Proofs.YtggoebaobojmjaaGreatDoor.AM.Gr
set_option linter.unusedVariables false
set_option linter.unusedSimpArgs false
theorem jjq : ∀{a b:List Nat},a.Nodup->(∀x∈a,x∈b)->a.length<=b.length
 | [],b,_,_=>Nat.zero_le _
 | x::a,b,hd,h=>by
  have hx:x∈b:=h x (List.mem_cons_self ..)
  obtain ⟨h1,h2⟩:=List.nodup_cons.1 hd
  have:=jjq (a:=a) (b:=b.erase x) h2 fun y hy=>(List.mem_erase_of_ne (fun e:y=x=>h1 (by rw [<-e];exact hy))).2 (h y (List.mem_cons_of_mem _ hy))
  rw [List.length_erase_of_mem hx] at this
  have hb:0<b.length:=List.length_pos_of_mem hx
  rw [List.length_cons];omega
theorem qj3 {n:Nat} {l:List Nat} (hd:l.Nodup) (h : ∀x∈l,x<n):l.length<=n:=by
 have:=jjq (b:=List.range n) hd fun x hx=>List.mem_range.2 (h x hx)
 rwa [List.length_range] at this
inductive Dep (n:Nat) (A:Nat->Nat->Bool):Nat->Nat->Prop
 | one {i j:Nat} (hi:i<n) (hj:j<n) (h:A i j=true):Dep n A i j
 | more {i j k:Nat} (hi:i<n) (hj:j<n) (h:A i j=true) (hk:Dep n A j k):Dep n A i k
variable {n:Nat} {A:Nat->Nat->Bool}
theorem Dep.lt {i j:Nat} (h:Dep n A i j):i<n/\j<n:=by
 induction h with
 | one hi hj _=>exact ⟨hi,hj⟩
 | more hi _ _ _ ih=>exact ⟨hi,ih.2⟩
theorem Dep.trans {i j k:Nat} (h:Dep n A i j) (h2:Dep n A j k):Dep n A i k:=by
 induction h with
 | one hi hj h=>exact .more hi hj h h2
 | more hi hj h _ ih=>exact .more hi hj h (ih h2)
theorem Dep.mono {B:Nat->Nat->Bool} (hAB : ∀i j,i<n->j<n->A i j=true->B i j=true) {i j:Nat} (h:Dep n A i j):Dep n B i j:=by
 induction h with
 | one hi hj h=>exact .one hi hj (hAB _ _ hi hj h)
 | more hi hj h _ ih=>exact .more hi hj (hAB _ _ hi hj h) ih
theorem Dep.down {D:Nat->Prop} (hD : ∀j,D j->∀k,k<n->A j k=true->D k) {j k:Nat} (h:Dep n A j k):D j->D k:=by
 induction h with
 | one _ hj h=>exact fun hd=>hD _ hd _ hj h
 | more _ hj h _ ih=>exact fun hd=>ih (hD _ hd _ hj h)
theorem Dep.up {U:Nat->Prop} (hU : ∀j,U j->∀k,k<n->A k j=true->U k) {j k:Nat} (h:Dep n A k j):U j->U k:=by
 induction h with
 | one hi _ h=>exact fun hd=>hU _ hd _ hi h
 | more hi _ h _ ih=>exact fun hd=>hU _ (ih hd) _ hi h
theorem Dep.first {i k:Nat} (h:Dep n A i k) : ∃ j,i<n/\j<n/\A i j=true/\(j=k\/Dep n A j k):=by
 cases h with
 | one hi hj h=>exact ⟨_,hi,hj,h,Or.inl rfl⟩
 | more hi hj h hk=>exact ⟨_,hi,hj,h,Or.inr hk⟩
def hs (M:List Bool) (k:Nat):Bool:=M.getD k false
theorem jo8 {M:List Bool} {j k:Nat} (hj:j<M.length):hs (M.set j true) k=true↔(k=j\/hs M k=true):=by
 unfold hs
 rw [List.getD_eq_getElem?_getD,List.getD_eq_getElem?_getD,List.getElem?_set]
 by_cases h:j=k
 ·subst h;simp [hj]
 ·rw [if_neg h]
  constructor
  ·exact fun h'=>Or.inr h'
  ·rintro (rfl|h')
   ·exact absurd rfl h
   ·exact h'
structure Climb (n:Nat) (A:Nat->Nat->Bool) (i:Nat) (M R:List Bool):Prop where
 len:R.length=M.length
 sub : ∀k,hs M k=true->hs R k=true
 new : ∀k,hs R k=true->hs M k=true\/Dep n A k i
 nb : ∀k,k<n->A k i=true->hs R k=true
 cl : ∀k,hs R k=true->hs M k=false->∀q,q<n->A q k=true->hs R q=true
structure Climb0 (n:Nat) (A:Nat->Nat->Bool) (i j:Nat) (M R:List Bool):Prop where
 len:R.length=M.length
 sub : ∀k,hs M k=true->hs R k=true
 new : ∀k,hs R k=true->hs M k=true\/Dep n A k i
 nb : ∀k,k<j->A k i=true->hs R k=true
 cl : ∀k,hs R k=true->hs M k=false->∀q,q<n->A q k=true->hs R q=true
theorem Climb0.start (n:Nat) (A:Nat->Nat->Bool) (i:Nat) (M:List Bool):Climb0 n A i 0 M M :=
 ⟨rfl,fun _ h=>h,fun _ h=>Or.inl h,fun _ h=>absurd h (Nat.not_lt_zero _),fun k h h'=>by rw [h] at h';cases h'⟩
theorem Climb0.skip {i j:Nat} {M R:List Bool} (h:Climb0 n A i j M R) (hj:hs R j=true\/A j i=false):Climb0 n A i (j+1) M R :=
 ⟨h.len,h.sub,h.new,fun k hk ha=>by
  by_cases e:k=j
  ·subst e
   rcases hj with hj|hj
   ·exact hj
   ·rw [hj] at ha;cases ha
  ·exact h.nb k (by omega) ha,h.cl⟩
theorem Climb0.step {i j:Nat} {M R R':List Bool} (h:Climb0 n A i j M R) (hj:j<n) (hi:i<n) (hl:j<R.length) (ha:A j i=true) (hc:Climb n A j (R.set j true) R'):Climb0 n A i (j+1) M R':=by
 have hset : ∀k,hs (R.set j true) k=true↔(k=j\/hs R k=true):=fun k=>jo8 hl
 refine ⟨hc.len.trans ((List.length_set ..).trans h.len),fun k hk=>hc.sub k ((hset k).2 (Or.inr (h.sub k hk))),fun k hk=>?_,fun k hk hka=>?_,fun k hk hkm q hq hqa=>?_⟩
 ·rcases hc.new k hk with h1|h1
  ·rcases (hset k).1 h1 with rfl|h1
   ·exact Or.inr (.one hj hi ha)
   ·exact h.new k h1
  ·exact Or.inr (h1.trans (.one hj hi ha))
 ·by_cases e:k=j
  ·subst e;exact hc.sub k ((hset k).2 (Or.inl rfl))
  ·exact hc.sub k ((hset k).2 (Or.inr (h.nb k (by omega) hka)))
 ·cases hR:hs R k with
  | true=>exact hc.sub q ((hset q).2 (Or.inr (h.cl k hR hkm q hq hqa)))
  | false =>
   by_cases e:k=j
   ·subst e;exact hc.nb q hq hqa
   ·refine hc.cl k hk ?_ q hq hqa
    cases hs':hs (R.set j true) k with
    | false=>rfl
    | true =>
     rcases (hset k).1 hs' with h1|h1
     ·exact absurd h1 e
     ·rw [hR] at h1;cases h1
theorem Climb0.done {i:Nat} {M R:List Bool} (h:Climb0 n A i n M R):Climb n A i M R:=⟨h.len,h.sub,h.new,h.nb,h.cl⟩
def j3x (n:Nat) (A:Nat->Nat->Bool) (M:List Bool):Prop:=∀k,hs M k=true->∀q,q<n->A q k=true->hs M q=true
theorem j3p {i:Nat} {M R:List Bool} (hM:j3x n A M) (hi:i<M.length) (h:Climb n A i (M.set i true) R):j3x n A R/\∀k,hs R k=true↔(hs M k=true\/k=i\/Dep n A k i):=by
 have hset : ∀k,hs (M.set i true) k=true↔(k=i\/hs M k=true):=fun k=>jo8 hi
 have hcl:j3x n A R:=fun k hk q hq ha=>by
  by_cases e:k=i
  ·subst e;exact h.nb q hq ha
  ·cases hm:hs M k with
   | true=>exact h.sub q ((hset q).2 (Or.inr (hM k hm q hq ha)))
   | false =>
    refine h.cl k hk ?_ q hq ha
    cases hs':hs (M.set i true) k with
    | false=>rfl
    | true =>
     rcases (hset k).1 hs' with h1|h1
     ·exact absurd h1 e
     ·rw [hm] at h1;cases h1
 refine ⟨hcl,fun k=>⟨fun hk=>?_,fun hk=>?_⟩⟩
 ·rcases h.new k hk with h1|h1
  ·rcases (hset k).1 h1 with h1|h1
   ·exact Or.inr (Or.inl h1)
   ·exact Or.inl h1
  ·exact Or.inr (Or.inr h1)
 ·rcases hk with h1|rfl|h1
  ·exact h.sub k ((hset k).2 (Or.inr h1))
  ·exact h.sub k ((hset k).2 (Or.inl rfl))
  ·exact h1.up (U:=fun k=>hs R k=true) hcl (h.sub i ((hset i).2 (Or.inl rfl)))
theorem jip {M:List Bool} (hM:j3x n A M) {i k:Nat} (hi:hs M i=true) (h:Dep n A k i):hs M k=true:=h.up (U:=fun k=>hs M k=true) hM hi
def cnt (M:List Bool):Nat:=(M.filter (fun b=>!b)).length
theorem jot : ∀{M:List Bool} {j:Nat},j<M.length->hs M j=false->cnt (M.set j true)+1=cnt M
 | b::M,0,_,h=>by
  have hb:b=false:=h
  subst hb
  simp [cnt]
 | b::M,j+1,hj,h=>by
  have:=jot (M:=M) (j:=j) (by simpa using hj) h
  unfold cnt at *
  rw [List.set_cons_succ,List.filter_cons,List.filter_cons]
  cases b<;>simp<;>omega
theorem jz5 {M R:List Bool} : R.length=M.length->(∀k,hs M k=true->hs R k=true)->cnt R<=cnt M:=by
 induction M generalizing R with
 | nil=>intro hl _;have:R = []:=List.eq_nil_of_length_eq_zero hl;subst this;exact Nat.le_refl _
 | cons b M ih =>
  intro hl h
  cases R with
  | nil=>cases hl
  | cons c R =>
   have h1:=ih (R:=R) (by simpa using hl) fun k hk=>h (k+1) hk
   have h0:=h 0
   unfold cnt at *
   rw [List.filter_cons,List.filter_cons]
   cases b<;>cases c<;>simp [hs] at *<;>omega
theorem k0i (M:List Bool):cnt M<=M.length:=List.length_filter_le _ _
def qb3 (n:Nat) (A:Nat->Nat->Bool) (i:Nat):List Nat:=(List.range n).filter (A i)
theorem q94 {i j:Nat} : j∈qb3 n A i↔j<n/\A i j=true:=by
 unfold qb3;rw [List.mem_filter,List.mem_range]
def ready (n:Nat) (A:Nat->Nat->Bool) (O:List Nat) (i:Nat):Bool:=!(O.contains i)&&(qb3 n A i).all O.contains
def nxt (n:Nat) (A:Nat->Nat->Bool) (O:List Nat):Option Nat:=(List.range n).find? (ready n A O)
def jy2 (n:Nat) (A:Nat->Nat->Bool):Nat->List Nat->List Nat
 | 0,O=>O
 | f+1,O=>match nxt n A O with
  | some i=>jy2 n A f (O ++ [i])
  | none=>O
theorem jlk {O:List Nat} {i:Nat} : ready n A O i=true↔i ∉ O/\∀j,j<n->A i j=true->j∈O:=by
 unfold ready
 simp only [Bool.and_eq_true,Bool.not_eq_true',List.all_eq_true,q94,List.contains_iff_mem,and_imp]
 rw [Bool.eq_false_iff,ne_eq,List.contains_iff_mem]
structure Ord (n:Nat) (A:Nat->Nat->Bool) (O:List Nat):Prop where
 nd:O.Nodup
 lt : ∀x∈O,x<n
 pre : ∀p i s,O=p++i::s->∀j,j<n->A i j=true->j∈p
theorem Ord.nil:Ord n A []:=⟨List.nodup_nil,fun x h=>(by cases h),fun p i s h=>by simp at h⟩
theorem jeo {O:List Nat} {i:Nat} (h:nxt n A O=some i):i<n/\i ∉ O/\∀j,j<n->A i j=true->j∈O:=by
 unfold nxt at h
 have h1:=List.find?_some h
 have h2:=List.mem_of_find?_eq_some h
 exact ⟨List.mem_range.1 h2,jlk.1 h1⟩
theorem Ord.snoc {O:List Nat} {i:Nat} (h:Ord n A O) (hi:nxt n A O=some i):Ord n A (O ++ [i]):=by
 obtain ⟨h1,h2,h3⟩:=jeo hi
 refine ⟨List.nodup_append.2 ⟨h.nd,by simp,fun a ha b hb=>by rw [List.mem_singleton] at hb;subst hb;exact fun e=>h2 (e ▸ ha)⟩,fun x hx=>?_,fun p k s he j hj ha=>?_⟩
 ·rcases List.mem_append.1 hx with hx|hx
  ·exact h.lt x hx
  ·rw [List.mem_singleton] at hx;subst hx;exact h1
 ·rcases List.eq_nil_or_concat s with rfl|⟨s',x,rfl⟩
  ·have:=List.append_inj' he rfl
   simp only [List.cons.injEq,and_true] at this
   obtain ⟨rfl,rfl⟩:=this
   exact h3 j hj ha
  ·rw [List.concat_eq_append,<-List.cons_append,<-List.append_assoc] at he
   have:=List.append_inj' he rfl
   exact h.pre p k s' this.1 j hj ha
theorem je7 : ∀(f:Nat) {O:List Nat},Ord n A O->Ord n A (jy2 n A f O)
 | 0,O,h=>h
 | f+1,O,h=>by
  unfold jy2
  cases hn:nxt n A O with
  | none=>exact h
  | some i=>exact je7 f (h.snoc hn)
structure Down (n:Nat) (A:Nat->Nat->Bool) (i k:Nat) (D:List Nat):Prop where
 nd:D.Nodup
 dep : ∀x∈D,Dep n A i x
 own : ∀j,j<n->A i j=true->j∈D
 cl : ∀q,q<k->∀x,D[q]? = some x->∀j,j<n->A x j=true->j∈D
theorem Down.start {i:Nat} (hi:i<n):Down n A i 0 (qb3 n A i) :=
 ⟨List.nodup_range.filter _,fun x hx=>by obtain ⟨h1,h2⟩:=q94.1 hx;exact .one hi h1 h2,fun j hj ha=>q94.2 ⟨hj,ha⟩,fun q hq=>absurd hq (Nat.not_lt_zero _)⟩
def jq4 (D:List Nat):List Nat->List Nat
 | []=>D
 | x::l=>jq4 (if D.contains x then D else D ++ [x]) l
theorem j09 : ∀(l:List Nat) (D:List Nat),∃ s,jq4 D l=D++s
 | [],D=>⟨[],by simp [jq4]⟩
 | x::l,D=>by
  unfold jq4
  by_cases h:D.contains x=true
  ·rw [if_pos h];exact j09 l D
  ·rw [if_neg h]
   obtain ⟨s,hs⟩:=j09 l (D ++ [x])
   exact ⟨[x]++s,by rw [hs,List.append_assoc]⟩
theorem qiw : ∀(l:List Nat) (D:List Nat) (y:Nat),y∈jq4 D l↔y∈D\/y∈l
 | [],D,y=>by simp [jq4]
 | x::l,D,y=>by
  unfold jq4
  rw [qiw l,List.mem_cons]
  by_cases h:D.contains x=true
  ·rw [if_pos h]
   have hx:x∈D:=List.contains_iff_mem.1 h
   constructor
   ·rintro (h1|h1)
    ·exact Or.inl h1
    ·exact Or.inr (Or.inr h1)
   ·rintro (h1|rfl|h1)
    ·exact Or.inl h1
    ·exact Or.inl hx
    ·exact Or.inr h1
  ·rw [if_neg h,List.mem_append,List.mem_singleton]
   constructor
   ·rintro ((h1|h1)|h1)
    ·exact Or.inl h1
    ·exact Or.inr (Or.inl h1)
    ·exact Or.inr (Or.inr h1)
   ·rintro (h1|h1|h1)
    ·exact Or.inl (Or.inl h1)
    ·exact Or.inl (Or.inr h1)
    ·exact Or.inr h1
theorem jag : ∀(l:List Nat) (D:List Nat),D.Nodup->(jq4 D l).Nodup
 | [],D,h=>h
 | x::l,D,h=>by
  unfold jq4
  by_cases hc:D.contains x=true
  ·rw [if_pos hc];exact jag l D h
  ·rw [if_neg hc]
   refine jag l _ (List.nodup_append.2 ⟨h,by simp,fun a ha b hb=>?_⟩)
   rw [List.mem_singleton] at hb;subst hb
   exact fun e=>hc (List.contains_iff_mem.2 (e ▸ ha))
theorem Down.step {i k:Nat} {D:List Nat} (h:Down n A i k D) {x:Nat} (hx:D[k]? = some x):Down n A i (k+1) (jq4 D (qb3 n A x)):=by
 have hxD:x∈D:=List.mem_of_getElem? hx
 obtain ⟨s,hs⟩:=j09 (qb3 n A x) D
 refine ⟨jag _ _ h.nd,fun y hy=>?_,fun j hj ha=>(qiw _ _ _).2 (Or.inl (h.own j hj ha)),fun q hq y hy j hj ha=>?_⟩
 ·rcases (qiw _ _ _).1 hy with h1|h1
  ·exact h.dep y h1
  ·obtain ⟨h2,h3⟩:=q94.1 h1
   exact (h.dep x hxD).trans (.one (h.dep x hxD).lt.2 h2 h3)
 ·have hkD:k<D.length:=(List.getElem?_eq_some_iff.1 hx).1
  rw [hs,List.getElem?_append_left (by omega)] at hy
  by_cases e:q=k
  ·subst e
   rw [hx] at hy
   obtain rfl:=Option.some.inj hy
   exact (qiw _ _ _).2 (Or.inr (q94.2 ⟨hj,ha⟩))
  ·exact (qiw _ _ _).2 (Or.inl (h.cl q (by omega) y hy j hj ha))
theorem Down.len {i k:Nat} {D:List Nat} (h:Down n A i k D):D.length<=n:=qj3 h.nd fun x hx=>(h.dep x hx).lt.2
theorem Down.done {i k:Nat} {D:List Nat} (h:Down n A i k D) (hk:D.length<=k) (x:Nat):x∈D↔Dep n A i x:=by
 constructor
 ·exact h.dep x
 ·intro hd
  have hcl : ∀j,j∈D->∀q,q<n->A j q=true->q∈D:=fun j hj q hq ha=>by
   obtain ⟨p,hp,rfl⟩:=List.getElem_of_mem hj
   exact h.cl p (by omega) _ (List.getElem?_eq_getElem hp) q hq ha
  obtain ⟨j,hi,hj,ha,h1⟩:=hd.first
  have hjD:=h.own j hj ha
  rcases h1 with rfl|h1
  ·exact hjD
  ·exact h1.down (D:=fun x=>x∈D) hcl hjD
end Go.Proofs.YtggoebaobojmjaaGreatDoor.AM.Gr
namespace Go.Proofs.YtggoebaobojmjaaGreatDoor.AM
open Go.RowKit Gr
set_option linter.unusedVariables false
set_option linter.unusedSimpArgs false
abbrev RD:Type:=List UInt8×(Int×(Int×(Int×(List UInt8×List UInt8))))
abbrev MD:Type:=List UInt8×(List UInt8×List RD)
def k0a (m:MD) (p:List UInt8):Bool:=m.2.2.any fun r=>decide (r.1=p)
def adj (l:List MD) (i j:Nat):Bool:=match l[i]?,l[j]? with
 | some a,some b=>k0a a b.2.1
 | _,_=>false
theorem ju1 {l:List MD} {i j:Nat} (hi:i<l.length) (hj:j<l.length):adj l i j=k0a l[i] l[j].2.1:=by
 unfold adj;rw [List.getElem?_eq_getElem hi,List.getElem?_eq_getElem hj]
def SmL (l:List MD):Prop:=l.length<=20/\∀m∈l,m.2.1.length<=200/\m.2.2.length<=31
def iL (l:List Nat):List Int:=l.map fun k=>((k:Nat):Int)
theorem jz1 (a b:List Nat):iL (a++b)=iL a++iL b:=List.map_append
theorem qmg (a:List Nat):(iL a).length=a.length:=List.length_map ..
theorem q0h {α β:Type} (x:β) (f:β->Option α):q0d x f=f x:=rfl
theorem qvz (n:Nat) (l:List RD) (p:List UInt8) (hl:l.length<=1000) : ∀m j:Nat,j<=l.length->l.length - j<m ->
  ∃ k:Nat,q6g n m l ((l.length:Nat):Int) (j:Int) p=some (bif (l.drop j).any (fun r=>decide (r.1=p)) then Sum.inl (((k:Int),()),((p,()),())) else Sum.inr ((),((p,()),())))
 | 0,j,_,h=>absurd h (Nat.not_lt_zero _)
 | m+1,j,hj,h=>by
  rw [qnk]
  unfold j1b
  by_cases c:j<l.length
  ·rw [decide_eq_true (by omega),cond_true,q0m c,Option.bind_some]
   unfold j92
   rw [Option.bind_some,List.drop_eq_getElem_cons c,List.any_cons]
   by_cases e:l[j].1=p
   ·refine ⟨j,?_⟩
    rw [decide_eq_true e,cond_true,Bool.true_or,cond_true]
   ·obtain ⟨k,hk⟩:=qvz n l p hl m (j+1) (by omega) (by omega)
    refine ⟨k,?_⟩
    rw [decide_eq_false e,cond_false,Bool.false_or,q0h,q04 (by omega)]
    exact hk
  ·obtain rfl:j=l.length:=by omega
   refine ⟨0,?_⟩
   rw [decide_eq_false (by omega),cond_false,List.drop_length];rfl
theorem j4k (n:Nat) (m:MD) (p:List UInt8) (hl:m.2.2.length<=1000) (hn:1000<n):j2r n m p=some (k0a m p):=by
 obtain ⟨k,hk⟩:=qvz n m.2.2 p hl n 0 (Nat.zero_le _) (by omega)
 have hk':q6g n n m.2.2 ((m.2.2.length:Nat):Int) (0:Int) p=some (bif k0a m p then Sum.inl (((k:Int),()),((p,()),())) else Sum.inr ((),((p,()),()))):=hk
 unfold j2r jp0 j9d
 rw [hk']
 cases k0a m p with
 | true =>
  simp only [cond_true,Option.bind_some,Sum.elim_inl]
  rw [decide_eq_true (by omega)]
 | false=>rfl
def jp8:List (List UInt8)->List (List UInt8)->Bool
 | _,[]=>false
 | pre,x::xs=>pre.any (fun y=>decide (y=x))||jp8 (pre ++ [x]) xs
def chkP (ps:List (List UInt8)):Int:=if 12<ps.length then 1 else bif ps.all okS then (bif jp8 [] ps then 11 else 0) else 6
def qt2 (l:List MD):List (List UInt8):=l.map fun m=>m.2.1
def qwk (l:List MD):Int:=chkP (qt2 l)
theorem jm7 (n:Nat) (l:List MD) (x:MD) (hl:l.length<=1000) (hn:1000<n):jfe n l () x.1 x.2.1 x.2.2=some (l.any (fun o=>decide (o.2.1=x.2.1)),(((x.1,(x.2.1,x.2.2)),()),())):=by
 have loop : ∀m j:Nat,j<=l.length->l.length - j<m ->
   ∃ k:Nat,q6s n m l ((l.length:Nat):Int) (j:Int) x.1 x.2.1 x.2.2=some (bif (l.drop j).any (fun o=>decide (o.2.1=x.2.1)) then Sum.inl (((k:Int),()),(((x.1,(x.2.1,x.2.2)),()),())) else Sum.inr ((),(((x.1,(x.2.1,x.2.2)),()),()))):=by
  intro m
  induction m with
  | zero=>intro j _ h;exact absurd h (Nat.not_lt_zero _)
  | succ m ih =>
   intro j hj h
   rw [qnu]
   unfold qyl
   by_cases c:j<l.length
   ·rw [decide_eq_true (by omega),cond_true,q0m c,Option.bind_some]
    unfold j9c
    rw [Option.bind_some,List.drop_eq_getElem_cons c,List.any_cons]
    by_cases e:l[j].2.1=x.2.1
    ·refine ⟨j,?_⟩
     rw [decide_eq_true e,cond_true,Bool.true_or,cond_true]
    ·obtain ⟨k,hk⟩:=ih (j+1) (by omega) (by omega)
     refine ⟨k,?_⟩
     rw [decide_eq_false e,cond_false,Bool.false_or,q0h,q04 (by omega)]
     exact hk
   ·obtain rfl:j=l.length:=by omega
    refine ⟨0,?_⟩
    rw [decide_eq_false (by omega),cond_false,List.drop_length];rfl
 obtain ⟨k,hk⟩:=loop n 0 (Nat.zero_le _) (by omega)
 have hk':q6s n n l ((l.length:Nat):Int) (0:Int) x.1 x.2.1 x.2.2=some (bif l.any (fun o=>decide (o.2.1=x.2.1)) then Sum.inl (((k:Int),()),(((x.1,(x.2.1,x.2.2)),()),())) else Sum.inr ((),(((x.1,(x.2.1,x.2.2)),()),()))):=hk
 unfold jfe j86
 rw [hk']
 cases l.any (fun o=>decide (o.2.1=x.2.1)) with
 | true =>
  simp only [cond_true,Option.bind_some,Sum.elim_inl]
  rw [decide_eq_true (by omega)]
 | false=>rfl
theorem jtb (l:List MD) (j:Nat) (x:List UInt8):(l.take j).any (fun o=>decide (o.2.1=x))=((qt2 l).take j).any (fun y=>decide (y=x)):=by
 unfold qt2;rw [<-List.map_take,List.any_map];rfl
theorem q9p (l:List MD):(qt2 l).length=l.length:=List.length_map ..
theorem jsf {ps:List (List UInt8)} {j:Nat} (c:j<ps.length):jp8 (ps.take j) (ps.drop j)=((ps.take j).any (fun y=>decide (y=ps[j]))||jp8 (ps.take (j+1)) (ps.drop (j+1))):=by
 rw [List.drop_eq_getElem_cons c,jp8,List.take_succ_eq_append_getElem c]
theorem qn3 (n:Nat) (l:List MD) (hl:SmL l) (hn:100000<n) : ∀m j:Nat,j<=l.length->l.length - j<m ->
  q4u n m l l ((l.length:Nat):Int) (j:Int)=some (bif ((qt2 l).drop j).all okS then Sum.inr ((l,()),((),())) else Sum.inl (((6:Int),()),((),())))
 | 0,j,_,h=>absurd h (Nat.not_lt_zero _)
 | m+1,j,hj,h=>by
  have h20:=hl.1
  rw [qks]
  unfold qqw
  by_cases c:j<l.length
  ·have hp:=(hl.2 _ (List.getElem_mem c)).1
   have c':j<(qt2 l).length:=by rw [q9p];exact c
   have hx:(qt2 l)[j]=l[j].2.1:=by simp [qt2]
   rw [decide_eq_true (by omega),cond_true,q0m c,Option.bind_some,jay n _ (by omega) (by omega),Option.bind_some,List.drop_eq_getElem_cons c',List.all_cons,hx]
   cases okS l[j].2.1 with
   | false=>rfl
   | true =>
    rw [Bool.not_true,cond_false,q0h,q04 (by omega),Bool.true_and]
    exact qn3 n l hl hn m (j+1) (by omega) (by omega)
  ·obtain rfl:j=l.length:=by omega
   rw [decide_eq_false (by omega),cond_false,<-q9p l,List.drop_length];rfl
theorem qmi (n:Nat) (l:List MD) (hl:SmL l) (hn:100000<n) : ∀m j:Nat,j<=l.length->l.length - j<m ->
  q38 n m l l ((l.length:Nat):Int) (j:Int)=some (bif jp8 ((qt2 l).take j) ((qt2 l).drop j) then Sum.inl (((11:Int),()),((),())) else Sum.inr ((),((),())))
 | 0,j,_,h=>absurd h (Nat.not_lt_zero _)
 | m+1,j,hj,h=>by
  have h20:=hl.1
  rw [qjf]
  unfold qro
  by_cases c:j<l.length
  ·have c':j<(qt2 l).length:=by rw [q9p];exact c
   have hx:(qt2 l)[j]=l[j].2.1:=by simp [qt2]
   rw [decide_eq_true (by omega),cond_true,q0m c,Option.bind_some,sub_zero (by omega),Option.bind_some,jm7 n (l.take j) l[j] (by rw [List.length_take];omega) (by omega),Option.bind_some,jtb,jsf c',hx]
   cases ((qt2 l).take j).any (fun y=>decide (y=l[j].2.1)) with
   | true=>rfl
   | false =>
    rw [cond_false,q0h,q04 (by omega),Bool.false_or]
    exact qmi n l hl hn m (j+1) (by omega) (by omega)
  ·obtain rfl:j=l.length:=by omega
   rw [decide_eq_false (by omega),cond_false,<-q9p l,List.drop_length];rfl
theorem qqm (n:Nat) (l:List MD) (hl:SmL l) (hn:100000<n):qgr n l=some (qwk l):=by
 have h20:=hl.1
 have hA:=qn3 n l hl hn n 0 (Nat.zero_le _) (by omega)
 have hB:=qmi n l hl hn n 0 (Nat.zero_le _) (by omega)
 unfold qgr qwk chkP
 rw [q9p]
 by_cases c:12<l.length
 ·rw [decide_eq_true (by omega),cond_true,if_pos c]
 ·rw [decide_eq_false (by omega),cond_false,if_neg c]
  have hA':q4u n n l l ((l.length:Nat):Int) (0:Int)=some (bif (qt2 l).all okS then Sum.inr ((l,()),((),())) else Sum.inl (((6:Int),()),((),()))):=hA
  rw [hA',Option.bind_some]
  cases (qt2 l).all okS with
  | false=>rfl
  | true =>
   have hB':q38 n n l l ((l.length:Nat):Int) (0:Int)=some (bif jp8 [] (qt2 l) then Sum.inl (((11:Int),()),((),())) else Sum.inr ((),((),()))):=hB
   rw [cond_true,Sum.elim_inr]
   show (q38 n n l l ((l.length:Nat):Int) (0:Int)).bind _=_
   rw [hB',Option.bind_some]
   cases jp8 [] (qt2 l)<;>rfl
theorem j02 {l:List MD} (h:qwk l=0):l.length<=12:=by
 unfold qwk chkP at h
 rw [q9p] at h
 by_cases c:12<l.length
 ·rw [if_pos c] at h;cases h
 ·omega
theorem qf1 (n:Nat) (l:List MD) (i:Nat) (hi:i<l.length) (hl:SmL l) (hn:100000<n) : ∀m j:Nat,∀acc:List Int,acc.length<=j->j<=l.length->l.length - j<m ->
  q4p n m l (i:Int) l ((l.length:Nat):Int) (j:Int) acc=some (((),()),((),(acc++iL ((List.range' j (l.length - j)).filter (adj l i)),())))
 | 0,j,_,_,_,h=>absurd h (Nat.not_lt_zero _)
 | m+1,j,acc,ha,hj,h=>by
  have h20:=hl.1
  rw [qj7]
  unfold qs2
  by_cases c:j<l.length
  ·have hr:=(hl.2 _ (List.getElem_mem hi)).2
   obtain ⟨k,hk⟩ : ∃ k,l.length - j=k+1:=⟨l.length - j - 1,by omega⟩
   have hk':l.length - (j+1)=k:=by omega
   rw [decide_eq_true (by omega),cond_true,q0m c,Option.bind_some,q0m hi,Option.bind_some,j4k n _ _ (by omega) (by omega),Option.bind_some,<-ju1 hi c,hk,List.range'_succ,List.filter_cons]
   cases ha':adj l i j with
   | true =>
    rw [cond_true,if_pos rfl,qce (by simp;omega),Option.bind_some,q0h,q04 (by omega)]
    refine (qf1 n l i hi hl hn m (j+1) _ (by simp;omega) (by omega) (by omega)).trans ?_
    rw [hk']
    simp [iL]
   | false =>
    rw [cond_false,if_neg (by decide),q0h,q04 (by omega)]
    refine (qf1 n l i hi hl hn m (j+1) _ (by omega) (by omega) (by omega)).trans ?_
    rw [hk']
  ·obtain rfl:j=l.length:=by omega
   rw [decide_eq_false (by omega),cond_false,Nat.sub_self]
   simp [iL]
theorem j9z (n:Nat) (l:List MD) (i:Nat) (hi:i<l.length) (hl:SmL l) (hn:100000<n):qo6 n l (i:Int)=some (iL (qb3 l.length (adj l) i)):=by
 have h20:=hl.1
 have:=qf1 n l i hi hl hn n 0 [] (Nat.le_refl _) (Nat.zero_le _) (by omega)
 unfold qo6 qb3
 rw [List.range_eq_range']
 have h':q4p n n l (i:Int) l ((l.length:Nat):Int) (0:Int) []=some (((),()),((),([]++iL ((List.range' 0 (l.length - 0)).filter (adj l i)),()))):=this
 rw [h',Option.bind_some,List.nil_append,Nat.sub_zero]
abbrev B12T:Type:=Bool×(Bool×(Bool×(Bool×(Bool×(Bool×(Bool×(Bool×(Bool×(Bool×(Bool×Bool))))))))))
def P12 (M:List Bool):B12T:=(M.getD 0 false,(M.getD 1 false,(M.getD 2 false,(M.getD 3 false,(M.getD 4 false,(M.getD 5 false,(M.getD 6 false,(M.getD 7 false,(M.getD 8 false,(M.getD 9 false,(M.getD 10 false,M.getD 11 false)))))))))))
def qj4 {β:Type} (f:Bool->Bool->Bool->Bool->Bool->Bool->Bool->Bool->Bool->Bool->Bool->Bool->β) (M:List Bool):β :=
 f (M.getD 0 false) (M.getD 1 false) (M.getD 2 false) (M.getD 3 false) (M.getD 4 false) (M.getD 5 false) (M.getD 6 false) (M.getD 7 false) (M.getD 8 false) (M.getD 9 false) (M.getD 10 false) (M.getD 11 false)
theorem jo0 {M:List Bool} (hM:M.length=12) : [M.getD 0 false,M.getD 1 false,M.getD 2 false,M.getD 3 false,M.getD 4 false,M.getD 5 false,M.getD 6 false,M.getD 7 false,M.getD 8 false,M.getD 9 false,M.getD 10 false,M.getD 11 false]=M:=by
 match M,hM with
 | [_,_,_,_,_,_,_,_,_,_,_,_],_=>rfl
theorem j5t {M:List Bool} {k:Nat} (hk:k<M.length):nth M k=some (hs M k):=by
 unfold hs;rw [jpb hk,List.getD_eq_getElem?_getD,List.getElem?_eq_getElem hk];rfl
theorem qc9 {k len:Nat} (hk:k<len):inA (k:Int) len=true:=by
 unfold inA;rw [decide_eq_true (by omega),decide_eq_true (by omega)];rfl
theorem q5a {M:List Bool} {j k:Nat} (y:Bool) (hk:k<M.length):q1t k (j:Int) y (M.getD k false)=(M.set j y).getD k false:=by
 unfold q1t
 rw [Int.toNat_natCast,List.getD_eq_getElem?_getD,List.getD_eq_getElem?_getD,List.getElem?_set]
 by_cases h:k=j
 ·subst h
  rw [Nat.beq_refl,cond_true,if_pos rfl,if_pos hk];rfl
 ·have hb:Nat.beq k j=false:=by
   cases hb:Nat.beq k j with
   | false=>rfl
   | true=>exact absurd (Nat.eq_of_beq_eq_true hb) h
  rw [hb,cond_false,if_neg (fun e=>h e.symm)]
theorem jof {β:Type} {M:List Bool} {j:Nat} (y:Bool) (hM:M.length=12) (f:Bool->Bool->Bool->Bool->Bool->Bool->Bool->Bool->Bool->Bool->Bool->Bool->β) :
  f (q1t 0 (j:Int) y (M.getD 0 false)) (q1t 1 (j:Int) y (M.getD 1 false)) (q1t 2 (j:Int) y (M.getD 2 false)) (q1t 3 (j:Int) y (M.getD 3 false)) (q1t 4 (j:Int) y (M.getD 4 false)) (q1t 5 (j:Int) y (M.getD 5 false)) (q1t 6 (j:Int) y (M.getD 6 false)) (q1t 7 (j:Int) y (M.getD 7 false)) (q1t 8 (j:Int) y (M.getD 8 false)) (q1t 9 (j:Int) y (M.getD 9 false)) (q1t 10 (j:Int) y (M.getD 10 false)) (q1t 11 (j:Int) y (M.getD 11 false))=qj4 f (M.set j y):=by
 unfold qj4
 rw [q5a _ (by omega),q5a _ (by omega),q5a _ (by omega),q5a _ (by omega),q5a _ (by omega),q5a _ (by omega),q5a _ (by omega),q5a _ (by omega),q5a _ (by omega),q5a _ (by omega),q5a _ (by omega),q5a _ (by omega)]
end Go.Proofs.YtggoebaobojmjaaGreatDoor.AM
namespace Go.Proofs.YtggoebaobojmjaaGreatDoor.AM
open Go.RowKit Gr
set_option linter.unusedVariables false
set_option linter.unusedSimpArgs false
def IsF (n:Nat) (P:Nat->Prop) (L:List Nat):Prop:=∃ p:Nat->Bool,L=(List.range n).filter p/\∀k,k<n->(p k=true↔P k)
theorem IsF.eq {n:Nat} {P Q:Nat->Prop} {L L':List Nat} (h:IsF n P L) (h':IsF n Q L') (hPQ : ∀k,k<n->(P k↔Q k)):L=L':=by
 obtain ⟨p,rfl,hp⟩:=h
 obtain ⟨q,rfl,hq⟩:=h'
 apply List.filter_congr
 intro k hk
 have hk':=List.mem_range.1 hk
 have:=((hp k hk').trans (hPQ k hk')).trans (hq k hk').symm
 cases hpk:p k<;>cases hqk:q k<;>simp_all
theorem IsF.mem {n:Nat} {P:Nat->Prop} {L:List Nat} (h:IsF n P L) (k:Nat):k∈L↔k<n/\P k:=by
 obtain ⟨p,rfl,hp⟩:=h
 rw [List.mem_filter,List.mem_range]
 constructor
 ·exact fun ⟨h1,h2⟩=>⟨h1,(hp k h1).1 h2⟩
 ·exact fun ⟨h1,h2⟩=>⟨h1,(hp k h1).2 h2⟩
theorem IsF.lt {n:Nat} {P:Nat->Prop} {L:List Nat} (h:IsF n P L):L.length<=n:=by
 obtain ⟨p,rfl,hp⟩:=h
 have:=List.length_filter_le p (List.range n)
 rwa [List.length_range] at this
theorem qwb {f:Nat->Bool} {n:Nat} : ∀d:Nat,(∀k,n<=k->f k=false)->(List.range (n+d)).filter f=(List.range n).filter f
 | 0,_=>rfl
 | d+1,h=>by
  rw [<-Nat.add_assoc,List.range_succ,List.filter_append,qwb d h,List.filter_cons,h _ (by omega)]
  simp
theorem jyu {M:List Bool} {k:Nat} (h:M.length<=k):hs M k=false:=by
 unfold hs;rw [List.getD_eq_getElem?_getD,List.getElem?_eq_none h];rfl
theorem qve (n:Nat) (L:List Nat) (M:List Bool) (hM:M.length=12) (hL : ∀x∈L,x<12) (hl:L.length<=1000) : ∀m j:Nat,j<=L.length->L.length - j<m ->
  ∃ k:Nat,qj4 (q9s n m (iL L) ((L.length:Nat):Int) (j:Int)) M=some (bif (L.drop j).any (fun x=>!(hs M x)) then Sum.inl (((k:Int),()),(((),((P12 M,()))),())) else Sum.inr ((),(((),(P12 M,())),())))
 | 0,j,_,h=>absurd h (Nat.not_lt_zero _)
 | m+1,j,hj,h=>by
  unfold qj4
  rw [qns]
  unfold j04
  by_cases c:j<L.length
  ·have hx:=hL _ (List.getElem_mem c)
   have hi:q1a (iL L) (j:Int)=some ((L[j]:Nat):Int):=by
    rw [q0m (by rw [qmg];exact c)];simp [iL]
   rw [decide_eq_true (by omega),cond_true,hi,Option.bind_some]
   unfold j7z
   rw [qc9 hx,cond_true,jo0 hM,Int.toNat_natCast,j5t (by omega),Option.bind_some,Option.bind_some,List.drop_eq_getElem_cons c,List.any_cons]
   cases hs M L[j] with
   | false=>exact ⟨j,rfl⟩
   | true =>
    obtain ⟨k,hk⟩:=qve n L M hM hL hl m (j+1) (by omega) (by omega)
    refine ⟨k,?_⟩
    rw [Bool.not_true,cond_false,Bool.false_or,q0h,q04 (by omega)]
    exact hk
  ·obtain rfl:j=L.length:=by omega
   refine ⟨0,?_⟩
   rw [decide_eq_false (by omega),cond_false,List.drop_length];rfl
theorem jwc {L:List Nat} {f:Nat->Bool} : (!L.any (fun x=>!(f x)))=L.all f:=by
 induction L with
 | nil=>rfl
 | cons x L ih=>rw [List.any_cons,List.all_cons,<-ih];cases f x<;>simp
theorem jgr (n:Nat) (L:List Nat) (M:List Bool) (hM:M.length=12) (hL : ∀x∈L,x<12) (hl:L.length<=1000) (hn:1000<n):qj4 (qyj n () (iL L)) M=some (L.all (hs M),((P12 M,()),())):=by
 obtain ⟨k,hk⟩:=qve n L M hM hL hl n 0 (Nat.zero_le _) (by omega)
 rw [List.drop_zero] at hk
 rw [<-jwc]
 unfold qj4 at hk
 unfold qj4 qyj jlb jb6
 rw [qmg]
 have hk':=hk
 rw [show ((0:Nat):Int)=(0:Int) from rfl] at hk'
 rw [hk']
 cases L.any (fun x=>!(hs M x)) with
 | true =>
  simp only [cond_true,Option.bind_some,Sum.elim_inl]
  rw [decide_eq_true (by omega)]
 | false=>rfl
theorem qcb (n:Nat) (M:List Bool) (hM:M.length=12) : ∀m j:Nat,∀acc:List Int,acc.length<=j->j<=12->12 - j<m ->
  qj4 (q5x n m (j:Int)) M acc=some (((),()),((P12 M,()),(acc++iL ((List.range' j (12 - j)).filter (hs M)),())))
 | 0,j,_,_,_,h=>absurd h (Nat.not_lt_zero _)
 | m+1,j,acc,ha,hj,h=>by
  unfold qj4
  rw [qho]
  unfold qli
  by_cases c:j<12
  ·obtain ⟨k,hk⟩ : ∃ k,12 - j=k+1:=⟨12 - j - 1,by omega⟩
   have hk':12 - (j+1)=k:=by omega
   rw [decide_eq_true (by omega),cond_true,qc9 c,cond_true,jo0 hM,Int.toNat_natCast,j5t (by omega),Option.bind_some,hk,List.range'_succ,List.filter_cons]
   cases hs M j with
   | true =>
    rw [cond_true,if_pos rfl,qce (by simp;omega),Option.bind_some,q0h,q04 (by omega)]
    refine (qcb n M hM m (j+1) _ (by simp;omega) (by omega) (by omega)).trans ?_
    rw [hk']
    simp [iL]
   | false =>
    rw [cond_false,if_neg (by decide),q0h,q04 (by omega)]
    refine (qcb n M hM m (j+1) _ (by omega) (by omega) (by omega)).trans ?_
    rw [hk']
  ·obtain rfl:j=12:=by omega
   rw [decide_eq_false (by omega),cond_false,Nat.sub_self]
   simp [iL,P12]
theorem j1x (n:Nat) (M:List Bool) (hM:M.length=12) (hn:1000<n) {k:Nat} (hk:k<=12) (hh : ∀q,hs M q=true->q<k):qj4 (qbt n ()) M=some (iL ((List.range k).filter (hs M)),((P12 M,()),())):=by
 have:=qcb n M hM n 0 [] (Nat.le_refl _) (Nat.zero_le _) (by omega)
 unfold qj4 at this
 unfold qj4 qbt
 rw [show (0:Int)=((0:Nat):Int) from rfl,this,Option.bind_some,List.nil_append,Nat.sub_zero,<-List.range_eq_range']
 have h2:=qwb (f:=hs M) (n:=k) (12 - k) (fun q hq=>by
  cases hs':hs M q with
  | false=>rfl
  | true=>exact absurd (hh q hs') (by omega))
 rw [show k+(12 - k)=12 by omega] at h2
 rw [h2]
def Rep (M:List Bool) (O:List Nat):Prop:=M.length=12/\∀k,hs M k=O.contains k
theorem Rep.snoc {M:List Bool} {O:List Nat} {i:Nat} (h:Rep M O) (hi:i<12):Rep (M.set i true) (O ++ [i]):=by
 refine ⟨by rw [List.length_set];exact h.1,fun k=>?_⟩
 have h1:=jo8 (M:=M) (j:=i) (k:=k) (by rw [h.1];exact hi)
 have h2:=h.2 k
 have h3:(O ++ [i]).contains k=true↔(k=i\/O.contains k=true):=by
  rw [List.contains_iff_mem,List.mem_append,List.mem_singleton,List.contains_iff_mem]
  exact Or.comm
 rw [h2] at h1
 cases ha:hs (M.set i true) k<;>cases hb:(O ++ [i]).contains k<;>simp_all
theorem qxt (n:Nat) (l:List MD) (O:List Nat) (M:List Bool) (hR:Rep M O) (hl:SmL l) (hl12:l.length<=12) (hn:100000<n) : ∀m j:Nat,j<=l.length->l.length - j<m ->
  qj4 (q9u n m l ((l.length:Nat):Int) (j:Int)) M=some (match (List.range' j (l.length - j)).find? (ready l.length (adj l) O) with
   | some i=>Sum.inl (((i:Int),(true,())),((P12 M,()),()))
   | none=>Sum.inr ((),((P12 M,()),())))
 | 0,j,_,h=>absurd h (Nat.not_lt_zero _)
 | m+1,j,hj,h=>by
  unfold qj4
  rw [qno]
  unfold qyb
  by_cases c:j<l.length
  ·obtain ⟨k,hk⟩ : ∃ k,l.length - j=k+1:=⟨l.length - j - 1,by omega⟩
   have hk':l.length - (j+1)=k:=by omega
   have ih:=qxt n l O M hR hl hl12 hn m (j+1) (by omega) (by omega)
   rw [hk'] at ih
   have hrd:ready l.length (adj l) O j=(!(hs M j)&&(qb3 l.length (adj l) j).all (hs M)):=by
    unfold ready
    rw [hR.2 j]
    congr 1
    exact List.all_congr rfl fun x=>(hR.2 x).symm
   rw [decide_eq_true (by omega),cond_true,qc9 (by omega),cond_true,jo0 hR.1,Int.toNat_natCast,j5t (by rw [hR.1];omega),Option.bind_some,hk,List.range'_succ,List.find?_cons,hrd]
   cases hs M j with
   | true =>
    rw [Bool.not_true,cond_false,Bool.false_and,q0h,q04 (by omega)]
    exact ih
   | false =>
    have hh:=jgr n (qb3 l.length (adj l) j) M hR.1 (fun x hx=>by have:=(q94.1 hx).1;omega) (by have:=List.length_filter_le (adj l j) (List.range l.length);rw [List.length_range] at this;unfold qb3;omega) (by omega)
    unfold qj4 at hh
    rw [Bool.not_false,cond_true,j9z n l j c hl hn,Option.bind_some,hh,Option.bind_some,Bool.true_and]
    cases (qb3 l.length (adj l) j).all (hs M) with
    | true=>rfl
    | false =>
     rw [cond_false,q0h,q04 (by omega)]
     exact ih
  ·obtain rfl:j=l.length:=by omega
   rw [decide_eq_false (by omega),cond_false,Nat.sub_self]
   rfl
theorem jg2 (n:Nat) (l:List MD) (O:List Nat) (M:List Bool) (hR:Rep M O) (hl:SmL l) (hl12:l.length<=12) (hn:100000<n) :
  qj4 (qzv n l ()) M=some (match nxt l.length (adj l) O with
   | some i=>(((i:Int),true),((P12 M,()),()))
   | none=>(((0:Int),false),((P12 M,()),()))):=by
 have:=qxt n l O M hR hl hl12 hn n 0 (Nat.zero_le _) (by omega)
 unfold qj4 at this
 unfold qj4 qzv nxt
 rw [show (0:Int)=((0:Nat):Int) from rfl,this,Option.bind_some,List.range_eq_range',Nat.sub_zero]
 cases (List.range' 0 l.length).find? (ready l.length (adj l) O)<;>rfl
def jcb (l:List MD):List Nat:=jy2 l.length (adj l) 13 []
def q2s (l:List MD):List Int×Int:=if qwk l=0 then (if (jcb l).length<l.length then ([],12) else (iL (jcb l),0)) else ([],qwk l)
theorem jpj:Rep [false,false,false,false,false,false,false,false,false,false,false,false] []:=⟨rfl,fun k=>by
 by_cases h:k<12
 ·match k,h with
  | 0,_|1,_|2,_|3,_|4,_|5,_|6,_|7,_|8,_|9,_|10,_|11,_=>rfl
 ·rw [jyu (by simp;omega)];rfl⟩
theorem qwz (n:Nat) (l:List MD) (hl:SmL l) (hl12:l.length<=12) (hn:100000<n) : ∀(d i:Nat) (M:List Bool),M.length=12->cnt M<d->i<l.length ->
  ∃ R,qj4 (q89 n d l (i:Int) ()) M=some ((),((P12 R,()),()))/\Climb l.length (adj l) i M R
 | 0,i,M,_,h,_=>absurd h (Nat.not_lt_zero _)
 | d+1,i,M0,hM0,hd,hi=>by
  have h20:=hl.1
  have loop : ∀m j R0,j<=l.length->l.length - j<m->Climb0 l.length (adj l) i j M0 R0 ->
    ∃ R,qj4 (q7h (q89 n d) n m l (i:Int) l ((l.length:Nat):Int) (j:Int)) R0=some ((),((P12 R,()),()))/\Climb0 l.length (adj l) i l.length M0 R:=by
   intro m
   induction m with
   | zero=>intro j R0 _ h _;exact absurd h (Nat.not_lt_zero _)
   | succ m ih =>
    intro j R0 hj h hc
    have hR0:R0.length=12:=hc.len.trans hM0
    unfold qj4
    rw [qk5]
    unfold qtb
    by_cases c:j<l.length
    ·have hr:=(hl.2 _ (List.getElem_mem c)).2
     rw [decide_eq_true (by omega),cond_true,q0m c,Option.bind_some,qc9 (by omega),cond_true,jo0 hR0,Int.toNat_natCast,j5t (by omega),Option.bind_some]
     cases hsj:hs R0 j with
     | true =>
      rw [Bool.not_true,cond_false,q0h,q04 (by omega)]
      exact ih (j+1) R0 (by omega) (by omega) (hc.skip (Or.inl hsj))
     | false =>
      rw [Bool.not_false,cond_true,q0m hi,Option.bind_some,j4k n _ _ (by omega) (by omega),Option.bind_some,<-ju1 c hi]
      cases ha:adj l j i with
      | false =>
       rw [cond_false,q0h,q04 (by omega)]
       exact ih (j+1) R0 (by omega) (by omega) (hc.skip (Or.inr ha))
      | true =>
       have hcnt:=jot (M:=R0) (j:=j) (by omega) hsj
       have hle:=jz5 hc.len hc.sub
       obtain ⟨R',h1,h2⟩:=qwz n l hl hl12 hn d j (R0.set j true) (by rw [List.length_set];exact hR0) (by omega) c
       obtain ⟨R,h3,h4⟩:=ih (j+1) R' (by omega) (by omega) (hc.step c hi (by omega) ha h2)
       refine ⟨R,?_,h4⟩
       rw [cond_true,cond_true,cond_true]
       have h5:=(jof true hR0 (q89 n d l (j:Int) ())).trans h1
       rw [h5,Option.bind_some,q0h,q04 (by omega)]
       exact h3
    ·obtain rfl:j=l.length:=by omega
     refine ⟨R0,?_,hc⟩
     rw [decide_eq_false (by omega),cond_false]
     rfl
  obtain ⟨R,h1,h2⟩:=loop n 0 M0 (Nat.zero_le _) (by omega) (Climb0.start _ _ _ _)
  refine ⟨R,?_,h2.done⟩
  unfold qj4 at h1 ⊢
  show qoi (q89 n d) n l (i:Int) () _ _ _ _ _ _ _ _ _ _ _ _=_
  unfold qoi
  rw [show (0:Int)=((0:Nat):Int) from rfl,h1,Option.bind_some]
def M0:List Bool:=[false,false,false,false,false,false,false,false,false,false,false,false]
theorem jz7 (k:Nat):hs M0 k=false:=by
 have:=jpj.2 k
 exact this
def UpP (l:List MD) (from_:List Int) (k:Nat):Prop:=∃ i:Nat,(i:Int)∈from_/\i<l.length/\(k=i\/Dep l.length (adj l) k i)
theorem UpP.snoc {l:List MD} {f:List Int} {x:Int} {k:Nat} : UpP l (f ++ [x]) k↔UpP l f k \/ ∃ i:Nat,x=(i:Int)/\i<l.length/\(k=i\/Dep l.length (adj l) k i):=by
 constructor
 ·rintro ⟨i,h1,h2,h3⟩
  rcases List.mem_append.1 h1 with h1|h1
  ·exact Or.inl ⟨i,h1,h2,h3⟩
  ·exact Or.inr ⟨i,(List.mem_singleton.1 h1).symm,h2,h3⟩
 ·rintro (⟨i,h1,h2,h3⟩|⟨i,rfl,h2,h3⟩)
  ·exact ⟨i,List.mem_append.2 (Or.inl h1),h2,h3⟩
  ·exact ⟨i,List.mem_append.2 (Or.inr (List.mem_singleton.2 rfl)),h2,h3⟩
theorem UpP.lt {l:List MD} {f:List Int} {k:Nat} (h:UpP l f k):k<l.length:=by
 obtain ⟨i,_,h2,rfl|h3⟩:=h
 ·exact h2
 ·exact h3.lt.1
theorem qgm (n:Nat) (l:List MD) (f:List Int) (hl:SmL l) (hl12:l.length<=12) (hf:f.length<=1000) (hn:100000<n) : ∀m j M,j<=f.length->f.length - j<m->M.length=12->j3x l.length (adj l) M->(∀k,hs M k=true↔UpP l (f.take j) k) ->
  ∃ M',qj4 (qc3 n m l f ((f.length:Nat):Int) (j:Int)) M=some (((),()),((P12 M',()),()))/\M'.length=12/\∀k,hs M' k=true↔UpP l f k
 | 0,j,_,_,h,_,_,_=>absurd h (Nat.not_lt_zero _)
 | m+1,j,M,hj,h,hM,hcl,hk=>by
  unfold qj4
  rw [qv4]
  unfold jmv
  by_cases c:j<f.length
  ·have htk:f.take (j+1)=f.take j ++ [f[j]]:=List.take_succ_eq_append_getElem c
   rw [decide_eq_true (by omega),cond_true,q0m c,Option.bind_some]
   have skip : ∀(hno : ∀k,(∃ i:Nat,f[j]=(i:Int)/\i<l.length/\(k=i\/Dep l.length (adj l) k i))->hs M k=true),∀k,hs M k=true↔UpP l (f.take (j+1)) k:=fun hno k=>by
    rw [htk,UpP.snoc,<-hk]
    exact ⟨fun h=>Or.inl h,fun h=>h.elim id (hno k)⟩
   unfold j9y
   by_cases h0:0<=f[j]
   ·rw [decide_eq_true h0,cond_true,Option.bind_some]
    by_cases h1:f[j]<(l.length:Int)
    ·obtain ⟨i,hi⟩:=Int.eq_ofNat_of_zero_le h0
     have hil:i<l.length:=by omega
     rw [decide_eq_true h1,cond_true,hi,qc9 (by omega),cond_true,jo0 hM,Int.toNat_natCast,j5t (by omega),Option.bind_some]
     cases hsi:hs M i with
     | true =>
      rw [Bool.not_true,cond_false,q0h,q04 (by omega)]
      refine qgm n l f hl hl12 hf hn m (j+1) M (by omega) (by omega) hM hcl (skip fun k=>?_)
      rintro ⟨i',e1,e2,e3⟩
      obtain rfl:i'=i:=by omega
      rcases e3 with rfl|e3
      ·exact hsi
      ·exact jip hcl hsi e3
     | false =>
      have hlt:=k0i (M.set i true)
      rw [List.length_set] at hlt
      obtain ⟨R,h2,h3⟩:=qwz n l hl hl12 hn n i (M.set i true) (by rw [List.length_set];exact hM) (by omega) hil
      obtain ⟨h4,h5⟩:=j3p hcl (by omega) h3
      have hR:R.length=12:=by rw [h3.len,List.length_set];exact hM
      obtain ⟨M',h6,h7⟩:=qgm n l f hl hl12 hf hn m (j+1) R (by omega) (by omega) hR h4 (fun k=>by
       rw [htk,UpP.snoc,<-hk,h5]
       constructor
       ·rintro (e|e)
        ·exact Or.inl e
        ·exact Or.inr ⟨i,hi,hil,e⟩
       ·rintro (e|⟨i',e1,e2,e3⟩)
        ·exact Or.inl e
        ·obtain rfl:i'=i:=by omega
         exact Or.inr e3)
      refine ⟨M',?_,h7⟩
      rw [Bool.not_false,cond_true,cond_true,cond_true]
      have h8:=(jof true hM (q89 n n l (i:Int) ())).trans h2
      rw [h8,Option.bind_some,q0h,q04 (by omega)]
      exact h6
    ·rw [decide_eq_false h1,cond_false,q0h,q04 (by omega)]
     refine qgm n l f hl hl12 hf hn m (j+1) M (by omega) (by omega) hM hcl (skip fun k=>?_)
     rintro ⟨i',e1,e2,e3⟩
     omega
   ·rw [decide_eq_false h0,cond_false,Option.bind_some,cond_false,q0h,q04 (by omega)]
    refine qgm n l f hl hl12 hf hn m (j+1) M (by omega) (by omega) hM hcl (skip fun k=>?_)
    rintro ⟨i',e1,e2,e3⟩
    omega
  ·obtain rfl:j=f.length:=by omega
   rw [List.take_length] at hk
   refine ⟨M,?_,hM,hk⟩
   rw [decide_eq_false (by omega),cond_false]
   rfl
theorem jsv (n:Nat) (l:List MD) (f:List Int) (hl:SmL l) (hf:f.length<=1000) (hn:100000<n) : ∃ L,jlp n l f=some (iL L)/\(qwk l≠0->L = [])/\(qwk l=0->IsF l.length (UpP l f) L):=by
 unfold jlp
 rw [qqm n l hl hn,Option.bind_some]
 by_cases c:qwk l=0
 ·have h12:=j02 c
  obtain ⟨C,h1,h2,h3⟩:=qgm n l f hl h12 hf hn n 0 M0 (Nat.zero_le _) (by omega) rfl (fun k hk=>by rw [jz7] at hk;cases hk) (fun k=>by
   rw [jz7,List.take_zero]
   exact ⟨fun h=>(by cases h),fun ⟨i,h1,_⟩=>(by cases h1)⟩)
  have h1':qc3 n n l f ((f.length:Nat):Int) (0:Int) false false false false false false false false false false false false=some (((),()),((P12 C,()),())):=h1
  have hp:=j1x n C h2 (by omega) h12 (fun q hq=>((h3 q).1 hq).lt)
  refine ⟨_,?_,fun h=>absurd c h,fun _=>⟨hs C,rfl,fun k hk=>h3 k⟩⟩
  rw [decide_eq_true c,Bool.not_true,cond_false,h1',Option.bind_some]
  show (qj4 (qbt n ()) C).bind _=_
  rw [hp,Option.bind_some]
 ·exact ⟨[],by rw [decide_eq_false c,Bool.not_false,cond_true];rfl,fun _=>rfl,fun h=>absurd h c⟩
end Go.Proofs.YtggoebaobojmjaaGreatDoor.AM
