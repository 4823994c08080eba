
import Derived.Test.YtggoebaobojmjaaGreatDoorBq16
import Derived.Test.YtggoebaobojmjaaGreatDoorBq17
import Derived.Test.YtggoebaobojmjaaGreatDoorBq9
import Derived.Test.YtggoebaobojmjaaGreatDoorBq14
namespace Go.Proofs.YtggoebaobojmjaaGreatDoor.AM
open Go.RowKit
set_option linter.unusedVariables false
set_option linter.unusedSimpArgs false
abbrev TgD:=List UInt8×(Int×(Int×(Int×(List UInt8×(List UInt8×List UInt8)))))
def tV (t:TgD):VD:=(t.2.1,(t.2.2.1,(t.2.2.2.1,(t.2.2.2.2.1,t.2.2.2.2.2.1))))
abbrev tH (t:TgD):List UInt8:=t.2.2.2.2.2.2
def q0m (p:List UInt8):Option TgD->List TgD->Option TgD
 | b,[]=>b
 | b,t::l=>if t.1=p then (match b with
   | none=>q0m p (some t) l
   | some m=>if 0<qsv (tV t) (tV m) then q0m p (some t) l else q0m p b l) else q0m p b l
def z0T:TgD:=([],(0,(0,(0,([],([],[]))))))
theorem q2m (p:List UInt8) (b:Option TgD) (t:TgD) (l:List TgD):q0m p b (t::l)=if t.1=p then (match b with
   | none=>q0m p (some t) l
   | some m=>if 0<qsv (tV t) (tV m) then q0m p (some t) l else q0m p b l) else q0m p b l:=by cases b<;>rfl
theorem q7z (n:Nat) (hn:100<=n) (l:List TgD) (p:List UInt8) (hL:l.length<=1000000000000) : ∀(m j:Nat) (b:Option TgD) (a6:List UInt8) (a7 a8 a9:Int) (a10 a11 a12:List UInt8),j<=l.length->l.length - j<m ->
  ∃ c:List UInt8×(Int×(Int×(Int×(List UInt8×(List UInt8×List UInt8))))),q48 n m p b.isSome l ((l.length:Nat):Int) (j:Int) a6 a7 a8 a9 a10 a11 a12 (b.getD z0T).1 (b.getD z0T).2.1 (b.getD z0T).2.2.1 (b.getD z0T).2.2.2.1 (b.getD z0T).2.2.2.2.1 (b.getD z0T).2.2.2.2.2.1 (b.getD z0T).2.2.2.2.2.2 =
   some ((((),((),((q0m p b (l.drop j)).isSome,()))),((c,((q0m p b (l.drop j)).getD z0T,())),())))
 | 0,j,b,_,_,_,_,_,_,_,hj,hm=>absurd hm (Nat.not_lt_zero _)
 | m+1,j,b,a6,a7,a8,a9,a10,a11,a12,hj,hm=>by
  rw [qng]
  unfold qr7
  by_cases hjl:j<l.length
  ·have h1:(j:Int)<((l.length:Nat):Int):=by omega
   rw [decide_eq_true h1,cond_true,q0i hjl,Option.bind_some]
   have hd:l.drop j=l[j]::l.drop (j+1):=List.drop_eq_getElem_cons hjl
   rw [hd]
   generalize l[j]=t
   have hw:IntKind.wrap .i64 ((j:Int)+1)=((j+1:Nat):Int):=by rw [q03 (by omega)]
   by_cases hp:t.1=p
   ·rw [decide_eq_true hp,cond_true]
    cases b with
    | none =>
     have e1:q0m p none (t::l.drop (j+1))=q0m p (some t) (l.drop (j+1)):=by rw [q2m,if_pos hp]
     rw [e1]
     show ∃ c:TgD,q0f _ _=_
     unfold q0f
     rw [hw]
     exact q7z n hn l p hL m (j+1) (some t) _ _ _ _ _ _ _ hjl (by omega)
    | some q =>
     show ∃ c:TgD,(q7p n (tV t) (tV q)).bind _=_
     rw [qn0 n _ _ hn,Option.bind_some]
     by_cases hc:0<qsv (tV t) (tV q)
     ·have e1:q0m p (some q) (t::l.drop (j+1))=q0m p (some t) (l.drop (j+1)):=by rw [q2m,if_pos hp];simp only [hc,if_true]
      rw [decide_eq_true hc,cond_true,e1]
      unfold q0f
      rw [hw]
      exact q7z n hn l p hL m (j+1) (some t) _ _ _ _ _ _ _ hjl (by omega)
     ·have e1:q0m p (some q) (t::l.drop (j+1))=q0m p (some q) (l.drop (j+1)):=by rw [q2m,if_pos hp];simp only [hc,if_false]
      rw [decide_eq_false hc,cond_false,e1]
      unfold q0f
      rw [hw]
      exact q7z n hn l p hL m (j+1) (some q) _ _ _ _ _ _ _ hjl (by omega)
   ·have e1:q0m p b (t::l.drop (j+1))=q0m p b (l.drop (j+1)):=by rw [q2m,if_neg hp]
    rw [decide_eq_false hp,cond_false,e1]
    unfold q0f
    rw [hw]
    exact q7z n hn l p hL m (j+1) b _ _ _ _ _ _ _ hjl (by omega)
  ·have h1 : ¬ (j:Int)<((l.length:Nat):Int):=by omega
   rw [decide_eq_false h1,cond_false,List.drop_of_length_le (by omega)]
   exact ⟨_,rfl⟩
theorem j9y (n:Nat) (hn:100<=n) (l:List TgD) (p:List UInt8) (hL:l.length<=1000000000000) (hn2:l.length<n):qlb n l p=some ((q0m p none l).getD z0T,(q0m p none l).isSome):=by
 unfold qlb
 obtain ⟨c,h⟩:=q7z n hn l p hL n 0 none [] 0 0 0 [] [] [] (Nat.zero_le _) (by omega)
 have h':q48 n n p false l ((l.length:Nat):Int) (0:Int) [] 0 0 0 [] [] [] [] 0 0 0 [] [] []=_:=h
 rw [h',Option.bind_some,List.drop_zero]
def few (t:TgD):Prop:=t.1.length<=5000/\(tH t).length<=5000
theorem q6i (n:Nat) (hn:100<=n) (l:List TgD) (p:List UInt8) (hL:l.length<=1000000000000) : ∀(m j:Nat) (b:Option TgD) (a6:List UInt8) (a7 a8 a9:Int) (a10 a11 a12:List UInt8),j<=l.length->l.length - j<m ->
  ∃ c:TgD,q2p n m l p b.isSome (j:Int) a6 a7 a8 a9 a10 a11 a12 (b.getD z0T).1 (b.getD z0T).2.1 (b.getD z0T).2.2.1 (b.getD z0T).2.2.2.1 (b.getD z0T).2.2.2.2.1 (b.getD z0T).2.2.2.2.2.1 (b.getD z0T).2.2.2.2.2.2 =
   some ((((),((),((q0m p b (l.drop j)).isSome,()))),((c,((q0m p b (l.drop j)).getD z0T,())),())))
 | 0,j,b,_,_,_,_,_,_,_,hj,hm=>absurd hm (Nat.not_lt_zero _)
 | m+1,j,b,a6,a7,a8,a9,a10,a11,a12,hj,hm=>by
  rw [qhu]
  unfold qfu
  by_cases hjl:j<l.length
  ·have h1:(j:Int)<((l.length:Nat):Int):=by omega
   have hx:=q0i hjl
   rw [decide_eq_true h1,cond_true,hx,Option.bind_some]
   have hd:l.drop j=l[j]::l.drop (j+1):=List.drop_eq_getElem_cons hjl
   rw [hd]
   generalize l[j]=t at hx ⊢
   have hw:IntKind.wrap .i64 ((j:Int)+1)=((j+1:Nat):Int):=by rw [q03 (by omega)]
   by_cases hp:t.1=p
   ·rw [decide_eq_true hp,cond_true]
    cases b with
    | none =>
     have e1:q0m p none (t::l.drop (j+1))=q0m p (some t) (l.drop (j+1)):=by rw [q2m,if_pos hp]
     rw [e1]
     show ∃ c:TgD,q0f _ _=_
     unfold q0f
     rw [hw]
     exact q6i n hn l p hL m (j+1) (some t) _ _ _ _ _ _ _ hjl (by omega)
    | some q =>
     show ∃ c:TgD,(q2b n (tV t) (tV q)).bind _=_
     rw [qlr n _ _ hn,Option.bind_some]
     by_cases hc:0<qsv (tV t) (tV q)
     ·have e1:q0m p (some q) (t::l.drop (j+1))=q0m p (some t) (l.drop (j+1)):=by rw [q2m,if_pos hp];simp only [hc,if_true]
      rw [decide_eq_true hc,cond_true,e1,Option.bind_some]
      unfold q0f
      rw [hw]
      exact q6i n hn l p hL m (j+1) (some t) _ _ _ _ _ _ _ hjl (by omega)
     ·have e1:q0m p (some q) (t::l.drop (j+1))=q0m p (some q) (l.drop (j+1)):=by rw [q2m,if_pos hp];simp only [hc,if_false]
      rw [decide_eq_false hc,cond_false,e1]
      unfold q0f
      rw [hw]
      exact q6i n hn l p hL m (j+1) (some q) _ _ _ _ _ _ _ hjl (by omega)
   ·have e1:q0m p b (t::l.drop (j+1))=q0m p b (l.drop (j+1)):=by rw [q2m,if_neg hp]
    rw [decide_eq_false hp,cond_false,e1]
    unfold q0f
    rw [hw]
    exact q6i n hn l p hL m (j+1) b _ _ _ _ _ _ _ hjl (by omega)
  ·have h1 : ¬ (j:Int)<((l.length:Nat):Int):=by omega
   rw [decide_eq_false h1,cond_false,List.drop_of_length_le (by omega)]
   exact ⟨_,rfl⟩
theorem j1v (n:Nat) (hn:100<=n) (l:List TgD) (p:List UInt8) (hL:l.length<=1000000000000) (hn2:l.length<n):qcn n l p=some ((q0m p none l).getD z0T,(q0m p none l).isSome):=by
 unfold qcn
 obtain ⟨c,h⟩:=q6i n hn l p hL n 0 none [] 0 0 0 [] [] [] (Nat.zero_le _) (by omega)
 have h':q2p n n l p false (0:Int) [] 0 0 0 [] [] [] [] 0 0 0 [] [] []=_:=h
 rw [h',Option.bind_some,List.drop_zero]
def fewT (t:TgD):Bool:=decide (t.1.length<=200)&&(decide (t.2.2.2.2.2.2.length<=200)&&(decide (t.2.2.2.2.1.length<=200)&&decide (t.2.2.2.2.2.1.length<=200)))
def fewS (l:List TgD):Bool:=l.all fewT&&decide (l.length<=60)
abbrev FOut:=((Bool×(Unit))×(Unit)×(Unit))⊕(((List TgD)×(Unit))×(Unit)×(Unit))
theorem jlj (n:Nat) (l:List TgD) (hL:l.length<=9223372036854775807) : ∀m j:Nat,j<=l.length->l.length - j<m->∃ r:FOut,q64 n m l (j:Int)=some r/\(Sum.elim (fun q7=>some q7.1.1) (fun q8=>some (decide ((q8.1.1.length:Int)<=(60:Int)))) r:Option Bool)=some ((l.drop j).all fewT&&decide (l.length<=60))
 | 0,j,hj,hm=>absurd hm (Nat.not_lt_zero _)
 | m+1,j,hj,hm=>by
  rw [qpk]
  unfold j1q
  by_cases hjl:j<l.length
  ·have h1:(j:Int)<((l.length:Nat):Int):=by omega
   rw [decide_eq_true h1,cond_true,q0i hjl,Option.bind_some,Option.bind_some,Option.bind_some,Option.bind_some]
   have hd:l.drop j=l[j]::l.drop (j+1):=List.drop_eq_getElem_cons hjl
   rw [hd,List.all_cons]
   generalize l[j]=t
   have dl : ∀s:List UInt8,decide ((200:Int)<((s.length:Nat):Int)) = !decide (s.length<=200):=fun s=>by
    by_cases h:s.length<=200
    ·rw [decide_eq_true h,decide_eq_false (by omega)];rfl
    ·rw [decide_eq_false h,decide_eq_true (by omega)];rfl
   rw [dl,dl,dl,dl]
   unfold fewT
   by_cases h2:t.1.length<=200
   ·by_cases h3:t.2.2.2.2.2.2.length<=200
    ·by_cases h4:t.2.2.2.2.1.length<=200
     ·by_cases h5:t.2.2.2.2.2.1.length<=200
      ·rw [decide_eq_true h2,decide_eq_true h3,decide_eq_true h4,decide_eq_true h5]
       simp only [Bool.not_true,cond_false,Bool.true_and]
       unfold q0f
       rw [show IntKind.wrap .i64 ((j:Int)+1)=((j+1:Nat):Int) from by rw [wrap64 (by omega) (by omega)];omega]
       exact jlj n l hL m (j+1) hjl (by omega)
      ·rw [decide_eq_true h2,decide_eq_true h3,decide_eq_true h4,decide_eq_false h5];exact ⟨_,rfl,rfl⟩
     ·rw [decide_eq_true h2,decide_eq_true h3,decide_eq_false h4];exact ⟨_,rfl,rfl⟩
    ·rw [decide_eq_true h2,decide_eq_false h3];exact ⟨_,rfl,rfl⟩
   ·rw [decide_eq_false h2];exact ⟨_,rfl,rfl⟩
  ·have h1 : ¬ (j:Int)<((l.length:Nat):Int):=by omega
   rw [decide_eq_false h1,cond_false,List.drop_of_length_le (by omega)]
   refine ⟨_,rfl,?_⟩
   show some (decide (((l.length:Nat):Int)<=60))=some (true&&decide (l.length<=60))
   rw [Bool.true_and]
   exact congrArg some (decide_eq_decide.2 ⟨fun h=>by omega,fun h=>by omega⟩)
theorem jfz (n:Nat) (l:List TgD) (hL:l.length<=9223372036854775807) (hn:l.length<n):qus n l=some (fewS l):=by
 unfold qus
 obtain ⟨r,h1,h2⟩:=jlj n l hL n 0 (Nat.zero_le _) (by omega)
 have h1':q64 n n l (0:Int)=some r:=h1
 rw [h1',Option.bind_some]
 exact h2
theorem k9p {l:List TgD} (h:fewS l=true):l.length<=60/\∀t∈l,few t:=by
 unfold fewS at h
 obtain ⟨h1,h2⟩:=Bool.and_eq_true_iff.1 h
 refine ⟨of_decide_eq_true h2,fun t ht=>?_⟩
 have h3:=List.all_eq_true.1 h1 t ht
 unfold fewT at h3
 obtain ⟨h4,h5⟩:=Bool.and_eq_true_iff.1 h3
 obtain ⟨h6,h7⟩:=Bool.and_eq_true_iff.1 h5
 have h4':=of_decide_eq_true h4
 have h6':=of_decide_eq_true h6
 exact ⟨by omega,by show t.2.2.2.2.2.2.length<=5000;omega⟩
end Go.Proofs.YtggoebaobojmjaaGreatDoor.AM
namespace Go.Proofs.YtggoebaobojmjaaGreatDoor.AM.Gr
set_option linter.unusedVariables false
set_option linter.unusedSimpArgs false
theorem jgl : ∀{a b:List Nat},a.Nodup->(∀x∈a,x∈b)->a.length<=b.length
 | [],b,_,_=>Nat.zero_le _
 | x::a,b,hd,h=>by
  have hx:x∈b:=h x (List.mem_cons_self ..)
  obtain ⟨h1,h2⟩:=List.nodup_cons.1 hd
  have:=jgl (a:=a) (b:=b.erase x) h2 fun y hy=>(List.mem_erase_of_ne (fun e:y=x=>h1 (by rw [<-e];exact hy))).2 (h y (List.mem_cons_of_mem _ hy))
  rw [List.length_erase_of_mem hx] at this
  have hb:0<b.length:=List.length_pos_of_mem hx
  rw [List.length_cons];omega
theorem q3o {n:Nat} {l:List Nat} (hd:l.Nodup) (h : ∀x∈l,x<n):l.length<=n:=by
 have:=jgl (b:=List.range n) hd fun x hx=>List.mem_range.2 (h x hx)
 rwa [List.length_range] at this
theorem jna {n:Nat} {l:List Nat} (hd:l.Nodup) (h : ∀x∈l,x<n) (hl:n<=l.length) {i:Nat} (hi:i<n):i∈l:=by
 apply Classical.byContradiction
 intro hn
 have:=q3o (n:=n) (List.nodup_cons.2 ⟨hn,hd⟩) (by
  intro x hx
  rcases List.mem_cons.1 hx with rfl|hx
  ·exact hi
  ·exact h x hx)
 rw [List.length_cons] at this;omega
theorem jwp {n:Nat} {l:List Nat} (hl:l.length<n) : ∃ i,i<n/\i ∉ l:=by
 apply Classical.byContradiction
 intro hn
 have:=jgl (a:=List.range n) (b:=l) List.nodup_range fun x hx=>by
  apply Classical.byContradiction
  intro hx'
  exact hn ⟨x,List.mem_range.1 hx,hx'⟩
 rw [List.length_range] at this;omega
inductive Dep (n:Nat) (A:Nat->Nat->Bool):Nat->Nat->Prop
 | one {i j:Nat} (hi:i<n) (hj:j<n) (h:A i j=true):Dep n A i j
 | more {i j k:Nat} (hi:i<n) (hj:j<n) (h:A i j=true) (hk:Dep n A j k):Dep n A i k
variable {n:Nat} {A:Nat->Nat->Bool}
theorem Dep.lt {i j:Nat} (h:Dep n A i j):i<n/\j<n:=by
 induction h with
 | one hi hj _=>exact ⟨hi,hj⟩
 | more hi _ _ _ ih=>exact ⟨hi,ih.2⟩
theorem Dep.trans {i j k:Nat} (h:Dep n A i j) (h2:Dep n A j k):Dep n A i k:=by
 induction h with
 | one hi hj h=>exact .more hi hj h h2
 | more hi hj h _ ih=>exact .more hi hj h (ih h2)
theorem Dep.mono {B:Nat->Nat->Bool} (hAB : ∀i j,i<n->j<n->A i j=true->B i j=true) {i j:Nat} (h:Dep n A i j):Dep n B i j:=by
 induction h with
 | one hi hj h=>exact .one hi hj (hAB _ _ hi hj h)
 | more hi hj h _ ih=>exact .more hi hj (hAB _ _ hi hj h) ih
theorem Dep.down {D:Nat->Prop} (hD : ∀j,D j->∀k,k<n->A j k=true->D k) {j k:Nat} (h:Dep n A j k):D j->D k:=by
 induction h with
 | one _ hj h=>exact fun hd=>hD _ hd _ hj h
 | more _ hj h _ ih=>exact fun hd=>ih (hD _ hd _ hj h)
theorem Dep.up {U:Nat->Prop} (hU : ∀j,U j->∀k,k<n->A k j=true->U k) {j k:Nat} (h:Dep n A k j):U j->U k:=by
 induction h with
 | one hi _ h=>exact fun hd=>hU _ hd _ hi h
 | more hi _ h _ ih=>exact fun hd=>hU _ (ih hd) _ hi h
theorem Dep.first {i k:Nat} (h:Dep n A i k) : ∃ j,i<n/\j<n/\A i j=true/\(j=k\/Dep n A j k):=by
 cases h with
 | one hi hj h=>exact ⟨_,hi,hj,h,Or.inl rfl⟩
 | more hi hj h hk=>exact ⟨_,hi,hj,h,Or.inr hk⟩
def hs (M:List Bool) (k:Nat):Bool:=M.getD k false
theorem jw3 {M:List Bool} {j k:Nat} (hj:j<M.length):hs (M.set j true) k=true↔(k=j\/hs M k=true):=by
 unfold hs
 rw [List.getD_eq_getElem?_getD,List.getD_eq_getElem?_getD,List.getElem?_set]
 by_cases h:j=k
 ·subst h;simp [hj]
 ·rw [if_neg h]
  constructor
  ·exact fun h'=>Or.inr h'
  ·rintro (rfl|h')
   ·exact absurd rfl h
   ·exact h'
structure Climb (n:Nat) (A:Nat->Nat->Bool) (i:Nat) (M R:List Bool):Prop where
 len:R.length=M.length
 sub : ∀k,hs M k=true->hs R k=true
 new : ∀k,hs R k=true->hs M k=true\/Dep n A k i
 nb : ∀k,k<n->A k i=true->hs R k=true
 cl : ∀k,hs R k=true->hs M k=false->∀q,q<n->A q k=true->hs R q=true
structure Climb0 (n:Nat) (A:Nat->Nat->Bool) (i j:Nat) (M R:List Bool):Prop where
 len:R.length=M.length
 sub : ∀k,hs M k=true->hs R k=true
 new : ∀k,hs R k=true->hs M k=true\/Dep n A k i
 nb : ∀k,k<j->A k i=true->hs R k=true
 cl : ∀k,hs R k=true->hs M k=false->∀q,q<n->A q k=true->hs R q=true
theorem Climb0.start (n:Nat) (A:Nat->Nat->Bool) (i:Nat) (M:List Bool):Climb0 n A i 0 M M :=
 ⟨rfl,fun _ h=>h,fun _ h=>Or.inl h,fun _ h=>absurd h (Nat.not_lt_zero _),fun k h h'=>by rw [h] at h';cases h'⟩
theorem Climb0.skip {i j:Nat} {M R:List Bool} (h:Climb0 n A i j M R) (hj:hs R j=true\/A j i=false):Climb0 n A i (j+1) M R :=
 ⟨h.len,h.sub,h.new,fun k hk ha=>by
  by_cases e:k=j
  ·subst e
   rcases hj with hj|hj
   ·exact hj
   ·rw [hj] at ha;cases ha
  ·exact h.nb k (by omega) ha,h.cl⟩
theorem Climb0.step {i j:Nat} {M R R':List Bool} (h:Climb0 n A i j M R) (hj:j<n) (hi:i<n) (hl:j<R.length) (ha:A j i=true) (hc:Climb n A j (R.set j true) R'):Climb0 n A i (j+1) M R':=by
 have hset : ∀k,hs (R.set j true) k=true↔(k=j\/hs R k=true):=fun k=>jw3 hl
 refine ⟨hc.len.trans ((List.length_set ..).trans h.len),fun k hk=>hc.sub k ((hset k).2 (Or.inr (h.sub k hk))),fun k hk=>?_,fun k hk hka=>?_,fun k hk hkm q hq hqa=>?_⟩
 ·rcases hc.new k hk with h1|h1
  ·rcases (hset k).1 h1 with rfl|h1
   ·exact Or.inr (.one hj hi ha)
   ·exact h.new k h1
  ·exact Or.inr (h1.trans (.one hj hi ha))
 ·by_cases e:k=j
  ·subst e;exact hc.sub k ((hset k).2 (Or.inl rfl))
  ·exact hc.sub k ((hset k).2 (Or.inr (h.nb k (by omega) hka)))
 ·cases hR:hs R k with
  | true=>exact hc.sub q ((hset q).2 (Or.inr (h.cl k hR hkm q hq hqa)))
  | false =>
   by_cases e:k=j
   ·subst e;exact hc.nb q hq hqa
   ·refine hc.cl k hk ?_ q hq hqa
    cases hs':hs (R.set j true) k with
    | false=>rfl
    | true =>
     rcases (hset k).1 hs' with h1|h1
     ·exact absurd h1 e
     ·rw [hR] at h1;cases h1
theorem Climb0.done {i:Nat} {M R:List Bool} (h:Climb0 n A i n M R):Climb n A i M R:=⟨h.len,h.sub,h.new,h.nb,h.cl⟩
def jdd (n:Nat) (A:Nat->Nat->Bool) (M:List Bool):Prop:=∀k,hs M k=true->∀q,q<n->A q k=true->hs M q=true
theorem jcq {i:Nat} {M R:List Bool} (hM:jdd n A M) (hi:i<M.length) (h:Climb n A i (M.set i true) R):jdd n A R/\∀k,hs R k=true↔(hs M k=true\/k=i\/Dep n A k i):=by
 have hset : ∀k,hs (M.set i true) k=true↔(k=i\/hs M k=true):=fun k=>jw3 hi
 have hcl:jdd n A R:=fun k hk q hq ha=>by
  by_cases e:k=i
  ·subst e;exact h.nb q hq ha
  ·cases hm:hs M k with
   | true=>exact h.sub q ((hset q).2 (Or.inr (hM k hm q hq ha)))
   | false =>
    refine h.cl k hk ?_ q hq ha
    cases hs':hs (M.set i true) k with
    | false=>rfl
    | true =>
     rcases (hset k).1 hs' with h1|h1
     ·exact absurd h1 e
     ·rw [hm] at h1;cases h1
 refine ⟨hcl,fun k=>⟨fun hk=>?_,fun hk=>?_⟩⟩
 ·rcases h.new k hk with h1|h1
  ·rcases (hset k).1 h1 with h1|h1
   ·exact Or.inr (Or.inl h1)
   ·exact Or.inl h1
  ·exact Or.inr (Or.inr h1)
 ·rcases hk with h1|rfl|h1
  ·exact h.sub k ((hset k).2 (Or.inr h1))
  ·exact h.sub k ((hset k).2 (Or.inl rfl))
  ·exact h1.up (U:=fun k=>hs R k=true) hcl (h.sub i ((hset i).2 (Or.inl rfl)))
theorem jqx {M:List Bool} (hM:jdd n A M) {i k:Nat} (hi:hs M i=true) (h:Dep n A k i):hs M k=true:=h.up (U:=fun k=>hs M k=true) hM hi
def cnt (M:List Bool):Nat:=(M.filter (fun b=>!b)).length
theorem jvs : ∀{M:List Bool} {j:Nat},j<M.length->hs M j=false->cnt (M.set j true)+1=cnt M
 | b::M,0,_,h=>by
  have hb:b=false:=h
  subst hb
  simp [cnt]
 | b::M,j+1,hj,h=>by
  have:=jvs (M:=M) (j:=j) (by simpa using hj) h
  unfold cnt at *
  rw [List.set_cons_succ,List.filter_cons,List.filter_cons]
  cases b<;>simp<;>omega
theorem k8y {M R:List Bool} : R.length=M.length->(∀k,hs M k=true->hs R k=true)->cnt R<=cnt M:=by
 induction M generalizing R with
 | nil=>intro hl _;have:R = []:=List.eq_nil_of_length_eq_zero hl;subst this;exact Nat.le_refl _
 | cons b M ih =>
  intro hl h
  cases R with
  | nil=>cases hl
  | cons c R =>
   have h1:=ih (R:=R) (by simpa using hl) fun k hk=>h (k+1) hk
   have h0:=h 0
   unfold cnt at *
   rw [List.filter_cons,List.filter_cons]
   cases b<;>cases c<;>simp [hs] at *<;>omega
theorem ka8 (M:List Bool):cnt M<=M.length:=List.length_filter_le _ _
def q3v (n:Nat) (A:Nat->Nat->Bool) (i:Nat):List Nat:=(List.range n).filter (A i)
theorem qb6 {i j:Nat} : j∈q3v n A i↔j<n/\A i j=true:=by
 unfold q3v;rw [List.mem_filter,List.mem_range]
def ready (n:Nat) (A:Nat->Nat->Bool) (O:List Nat) (i:Nat):Bool:=!(O.contains i)&&(q3v n A i).all O.contains
def nxt (n:Nat) (A:Nat->Nat->Bool) (O:List Nat):Option Nat:=(List.range n).find? (ready n A O)
def jva (n:Nat) (A:Nat->Nat->Bool):Nat->List Nat->List Nat
 | 0,O=>O
 | f+1,O=>match nxt n A O with
  | some i=>jva n A f (O ++ [i])
  | none=>O
theorem jdb {O:List Nat} {i:Nat} : ready n A O i=true↔i ∉ O/\∀j,j<n->A i j=true->j∈O:=by
 unfold ready
 simp only [Bool.and_eq_true,Bool.not_eq_true',List.all_eq_true,qb6,List.contains_iff_mem,and_imp]
 rw [Bool.eq_false_iff,ne_eq,List.contains_iff_mem]
structure Ord (n:Nat) (A:Nat->Nat->Bool) (O:List Nat):Prop where
 nd:O.Nodup
 lt : ∀x∈O,x<n
 pre : ∀p i s,O=p++i::s->∀j,j<n->A i j=true->j∈p
theorem Ord.nil:Ord n A []:=⟨List.nodup_nil,fun x h=>(by cases h),fun p i s h=>by simp at h⟩
theorem j8w {O:List Nat} {i:Nat} (h:nxt n A O=some i):i<n/\i ∉ O/\∀j,j<n->A i j=true->j∈O:=by
 unfold nxt at h
 have h1:=List.find?_some h
 have h2:=List.mem_of_find?_eq_some h
 exact ⟨List.mem_range.1 h2,jdb.1 h1⟩
theorem Ord.snoc {O:List Nat} {i:Nat} (h:Ord n A O) (hi:nxt n A O=some i):Ord n A (O ++ [i]):=by
 obtain ⟨h1,h2,h3⟩:=j8w hi
 refine ⟨List.nodup_append.2 ⟨h.nd,by simp,fun a ha b hb=>by rw [List.mem_singleton] at hb;subst hb;exact fun e=>h2 (e ▸ ha)⟩,fun x hx=>?_,fun p k s he j hj ha=>?_⟩
 ·rcases List.mem_append.1 hx with hx|hx
  ·exact h.lt x hx
  ·rw [List.mem_singleton] at hx;subst hx;exact h1
 ·rcases List.eq_nil_or_concat s with rfl|⟨s',x,rfl⟩
  ·have:=List.append_inj' he rfl
   simp only [List.cons.injEq,and_true] at this
   obtain ⟨rfl,rfl⟩:=this
   exact h3 j hj ha
  ·rw [List.concat_eq_append,<-List.cons_append,<-List.append_assoc] at he
   have:=List.append_inj' he rfl
   exact h.pre p k s' this.1 j hj ha
theorem qv8 : ∀(f:Nat) {O:List Nat},Ord n A O->Ord n A (jva n A f O)
 | 0,O,h=>h
 | f+1,O,h=>by
  unfold jva
  cases hn:nxt n A O with
  | none=>exact h
  | some i=>exact qv8 f (h.snoc hn)
theorem stuck {O:List Nat} (hn:nxt n A O=none) (hl:O.length<n) : ∃ i,Dep n A i i:=by
 apply Classical.byContradiction
 intro hno
 have step : ∀i,i<n->i ∉ O->∃ j,j<n/\j ∉ O/\A i j=true:=fun i hi hiO=>by
  unfold nxt at hn
  have:=List.find?_eq_none.1 hn i (List.mem_range.2 hi)
  apply Classical.byContradiction
  intro hne
  refine this (jdb.2 ⟨hiO,fun j hj ha=>?_⟩)
  apply Classical.byContradiction
  intro hjO
  exact hne ⟨j,hj,hjO,ha⟩
 have chain : ∀m:Nat,∃ h t,(h::t).Nodup/\(∀x∈h::t,x<n/\x ∉ O)/\(∀y∈t,Dep n A y h)/\t.length=m:=by
  intro m
  induction m with
  | zero =>
   obtain ⟨i,h1,h2⟩:=jwp hl
   exact ⟨i,[],by simp,by simpa using ⟨h1,h2⟩,by simp,rfl⟩
  | succ m ih =>
   obtain ⟨h,t,k1,k2,k3,k4⟩:=ih
   obtain ⟨h1,h2⟩:=k2 h (List.mem_cons_self ..)
   obtain ⟨j,j1,j2,j3⟩:=step h h1 h2
   have hd : ∀y∈h::t,Dep n A y j:=fun y hy=>by
    rcases List.mem_cons.1 hy with rfl|hy
    ·exact .one h1 j1 j3
    ·exact (k3 y hy).trans (.one h1 j1 j3)
   refine ⟨j,h::t,List.nodup_cons.2 ⟨fun hj=>hno ⟨j,hd j hj⟩,k1⟩,fun x hx=>?_,hd,by rw [List.length_cons,k4]⟩
   rcases List.mem_cons.1 hx with rfl|hx
   ·exact ⟨j1,j2⟩
   ·exact k2 x hx
 obtain ⟨h,t,k1,k2,k3,k4⟩:=chain n
 have:=q3o k1 fun x hx=>(k2 x hx).1
 rw [List.length_cons] at this;omega
theorem k58 {O:List Nat} (h:Ord n A O) {i j:Nat} (hd:Dep n A i j) : ∀p s,O=p++i::s->j∈p:=by
 induction hd with
 | one hi hj ha=>intro p s he;exact h.pre p _ s he _ hj ha
 | more hi hj ha _ ih =>
  intro p s he
  have h1:=h.pre p _ s he _ hj ha
  obtain ⟨p1,s1,rfl⟩:=List.append_of_mem h1
  have h2:=ih p1 _ (by rw [he,List.append_assoc,List.cons_append])
  exact List.mem_append.2 (Or.inl h2)
theorem jkk {O:List Nat} (h:Ord n A O) (hl:n<=O.length) (i:Nat) : ¬ Dep n A i i:=fun hd=>by
 have hi:=jna h.nd h.lt hl hd.lt.1
 obtain ⟨p,s,he⟩:=List.append_of_mem hi
 have h1:=k58 h hd p s he
 have h2:=h.nd
 rw [he] at h2
 exact (List.nodup_append.1 h2).2.2 i h1 i (List.mem_cons_self ..) rfl
theorem k1x {O:List Nat} (h:Ord n A O) (hl:n<=O.length):nxt n A O=none:=by
 cases hn:nxt n A O with
 | none=>rfl
 | some i =>
  obtain ⟨h1,h2,_⟩:=j8w hn
  exact absurd (jna h.nd h.lt hl h1) h2
theorem jnk : ∀(f:Nat) {O:List Nat},Ord n A O->n<O.length+f->nxt n A (jva n A f O)=none
 | 0,O,h,hf=>by
  have:=q3o h.nd h.lt
  omega
 | f+1,O,h,hf=>by
  unfold jva
  cases hn:nxt n A O with
  | none=>exact hn
  | some i=>exact jnk f (h.snoc hn) (by rw [List.length_append,List.length_singleton];omega)
theorem jxm (f:Nat) (hf:n<f):(jva n A f []).length=n ↔ ∀i,¬ Dep n A i i:=by
 have ho:=qv8 f (Ord.nil (n:=n) (A:=A))
 have he:=jnk f (Ord.nil (n:=n) (A:=A)) (by simpa using hf)
 have hl:=q3o ho.nd ho.lt
 constructor
 ·intro h i hd;exact jkk ho (by omega) i hd
 ·intro h
  apply Classical.byContradiction
  intro hne
  obtain ⟨i,hd⟩:=stuck he (by omega)
  exact h i hd
structure Down (n:Nat) (A:Nat->Nat->Bool) (i k:Nat) (D:List Nat):Prop where
 nd:D.Nodup
 dep : ∀x∈D,Dep n A i x
 own : ∀j,j<n->A i j=true->j∈D
 cl : ∀q,q<k->∀x,D[q]? = some x->∀j,j<n->A x j=true->j∈D
theorem Down.start {i:Nat} (hi:i<n):Down n A i 0 (q3v n A i) :=
 ⟨List.nodup_range.filter _,fun x hx=>by obtain ⟨h1,h2⟩:=qb6.1 hx;exact .one hi h1 h2,fun j hj ha=>qb6.2 ⟨hj,ha⟩,fun q hq=>absurd hq (Nat.not_lt_zero _)⟩
def jra (D:List Nat):List Nat->List Nat
 | []=>D
 | x::l=>jra (if D.contains x then D else D ++ [x]) l
theorem qut : ∀(l:List Nat) (D:List Nat),∃ s,jra D l=D++s
 | [],D=>⟨[],by simp [jra]⟩
 | x::l,D=>by
  unfold jra
  by_cases h:D.contains x=true
  ·rw [if_pos h];exact qut l D
  ·rw [if_neg h]
   obtain ⟨s,hs⟩:=qut l (D ++ [x])
   exact ⟨[x]++s,by rw [hs,List.append_assoc]⟩
theorem qmd : ∀(l:List Nat) (D:List Nat) (y:Nat),y∈jra D l↔y∈D\/y∈l
 | [],D,y=>by simp [jra]
 | x::l,D,y=>by
  unfold jra
  rw [qmd l,List.mem_cons]
  by_cases h:D.contains x=true
  ·rw [if_pos h]
   have hx:x∈D:=List.contains_iff_mem.1 h
   constructor
   ·rintro (h1|h1)
    ·exact Or.inl h1
    ·exact Or.inr (Or.inr h1)
   ·rintro (h1|rfl|h1)
    ·exact Or.inl h1
    ·exact Or.inl hx
    ·exact Or.inr h1
  ·rw [if_neg h,List.mem_append,List.mem_singleton]
   constructor
   ·rintro ((h1|h1)|h1)
    ·exact Or.inl h1
    ·exact Or.inr (Or.inl h1)
    ·exact Or.inr (Or.inr h1)
   ·rintro (h1|h1|h1)
    ·exact Or.inl (Or.inl h1)
    ·exact Or.inl (Or.inr h1)
    ·exact Or.inr h1
theorem jj8 : ∀(l:List Nat) (D:List Nat),D.Nodup->(jra D l).Nodup
 | [],D,h=>h
 | x::l,D,h=>by
  unfold jra
  by_cases hc:D.contains x=true
  ·rw [if_pos hc];exact jj8 l D h
  ·rw [if_neg hc]
   refine jj8 l _ (List.nodup_append.2 ⟨h,by simp,fun a ha b hb=>?_⟩)
   rw [List.mem_singleton] at hb;subst hb
   exact fun e=>hc (List.contains_iff_mem.2 (e ▸ ha))
theorem Down.step {i k:Nat} {D:List Nat} (h:Down n A i k D) {x:Nat} (hx:D[k]? = some x):Down n A i (k+1) (jra D (q3v n A x)):=by
 have hxD:x∈D:=List.mem_of_getElem? hx
 obtain ⟨s,hs⟩:=qut (q3v n A x) D
 refine ⟨jj8 _ _ h.nd,fun y hy=>?_,fun j hj ha=>(qmd _ _ _).2 (Or.inl (h.own j hj ha)),fun q hq y hy j hj ha=>?_⟩
 ·rcases (qmd _ _ _).1 hy with h1|h1
  ·exact h.dep y h1
  ·obtain ⟨h2,h3⟩:=qb6.1 h1
   exact (h.dep x hxD).trans (.one (h.dep x hxD).lt.2 h2 h3)
 ·have hkD:k<D.length:=(List.getElem?_eq_some_iff.1 hx).1
  rw [hs,List.getElem?_append_left (by omega)] at hy
  by_cases e:q=k
  ·subst e
   rw [hx] at hy
   obtain rfl:=Option.some.inj hy
   exact (qmd _ _ _).2 (Or.inr (qb6.2 ⟨hj,ha⟩))
  ·exact (qmd _ _ _).2 (Or.inl (h.cl q (by omega) y hy j hj ha))
theorem Down.len {i k:Nat} {D:List Nat} (h:Down n A i k D):D.length<=n:=q3o h.nd fun x hx=>(h.dep x hx).lt.2
theorem Down.done {i k:Nat} {D:List Nat} (h:Down n A i k D) (hk:D.length<=k) (x:Nat):x∈D↔Dep n A i x:=by
 constructor
 ·exact h.dep x
 ·intro hd
  have hcl : ∀j,j∈D->∀q,q<n->A j q=true->q∈D:=fun j hj q hq ha=>by
   obtain ⟨p,hp,rfl⟩:=List.getElem_of_mem hj
   exact h.cl p (by omega) _ (List.getElem?_eq_getElem hp) q hq ha
  obtain ⟨j,hi,hj,ha,h1⟩:=hd.first
  have hjD:=h.own j hj ha
  rcases h1 with rfl|h1
  ·exact hjD
  ·exact h1.down (D:=fun x=>x∈D) hcl hjD
end Go.Proofs.YtggoebaobojmjaaGreatDoor.AM.Gr
namespace Go.Proofs.YtggoebaobojmjaaGreatDoor.AM
open Go.RowKit Gr
set_option linter.unusedVariables false
set_option linter.unusedSimpArgs false
abbrev RD:Type:=List UInt8×(Int×(Int×(Int×(List UInt8×List UInt8))))
abbrev MD:Type:=List UInt8×(List UInt8×List RD)
def k4k (m:MD) (p:List UInt8):Bool:=m.2.2.any fun r=>decide (r.1=p)
def adj (l:List MD) (i j:Nat):Bool:=match l[i]?,l[j]? with
 | some a,some b=>k4k a b.2.1
 | _,_=>false
theorem jve {l:List MD} {i j:Nat} (hi:i<l.length) (hj:j<l.length):adj l i j=k4k l[i] l[j].2.1:=by
 unfold adj;rw [List.getElem?_eq_getElem hi,List.getElem?_eq_getElem hj]
def SmL (l:List MD):Prop:=l.length<=20/\∀m∈l,m.2.1.length<=200/\m.2.2.length<=31
def iL (l:List Nat):List Int:=l.map fun k=>((k:Nat):Int)
theorem jma (a b:List Nat):iL (a++b)=iL a++iL b:=List.map_append
theorem q1h (a:List Nat):(iL a).length=a.length:=List.length_map ..
theorem q0a {α β:Type} (x:β) (f:β->Option α):q0f x f=f x:=rfl
theorem j5t (n:Nat) (l:List RD) (p:List UInt8) (hl:l.length<=1000) : ∀m j:Nat,j<=l.length->l.length - j<m ->
  ∃ k:Nat,q81 n m l ((l.length:Nat):Int) (j:Int) p=some (bif (l.drop j).any (fun r=>decide (r.1=p)) then Sum.inl (((k:Int),()),((p,()),())) else Sum.inr ((),((p,()),())))
 | 0,j,_,h=>absurd h (Nat.not_lt_zero _)
 | m+1,j,hj,h=>by
  rw [qtw]
  unfold j75
  by_cases c:j<l.length
  ·rw [decide_eq_true (by omega),cond_true,q0i c,Option.bind_some]
   unfold jhy
   rw [Option.bind_some,List.drop_eq_getElem_cons c,List.any_cons]
   by_cases e:l[j].1=p
   ·refine ⟨j,?_⟩
    rw [decide_eq_true e,cond_true,Bool.true_or,cond_true]
   ·obtain ⟨k,hk⟩:=j5t n l p hl m (j+1) (by omega) (by omega)
    refine ⟨k,?_⟩
    rw [decide_eq_false e,cond_false,Bool.false_or,q0a,q03 (by omega)]
    exact hk
  ·obtain rfl:j=l.length:=by omega
   refine ⟨0,?_⟩
   rw [decide_eq_false (by omega),cond_false,List.drop_length];rfl
theorem jcx (n:Nat) (m:MD) (p:List UInt8) (hl:m.2.2.length<=1000) (hn:1000<n):jdt n m p=some (k4k m p):=by
 obtain ⟨k,hk⟩:=j5t n m.2.2 p hl n 0 (Nat.zero_le _) (by omega)
 have hk':q81 n n m.2.2 ((m.2.2.length:Nat):Int) (0:Int) p=some (bif k4k m p then Sum.inl (((k:Int),()),((p,()),())) else Sum.inr ((),((p,()),()))):=hk
 unfold jdt jvi jhq
 rw [hk']
 cases k4k m p with
 | true =>
  simp only [cond_true,Option.bind_some,Sum.elim_inl]
  rw [decide_eq_true (by omega)]
 | false=>rfl
def jmm:List (List UInt8)->List (List UInt8)->Bool
 | _,[]=>false
 | pre,x::xs=>pre.any (fun y=>decide (y=x))||jmm (pre ++ [x]) xs
def k8w (ps:List (List UInt8)):Int:=if 12<ps.length then 1 else bif ps.all okS then (bif jmm [] ps then 11 else 0) else 6
def qay (l:List MD):List (List UInt8):=l.map fun m=>m.2.1
def qc0 (l:List MD):Int:=k8w (qay l)
theorem jub (n:Nat) (l:List MD) (x:MD) (hl:l.length<=1000) (hn:1000<n):jmv n l () x.1 x.2.1 x.2.2=some (l.any (fun o=>decide (o.2.1=x.2.1)),(((x.1,(x.2.1,x.2.2)),()),())):=by
 have loop : ∀m j:Nat,j<=l.length->l.length - j<m ->
   ∃ k:Nat,q8h n m l ((l.length:Nat):Int) (j:Int) x.1 x.2.1 x.2.2=some (bif (l.drop j).any (fun o=>decide (o.2.1=x.2.1)) then Sum.inl (((k:Int),()),(((x.1,(x.2.1,x.2.2)),()),())) else Sum.inr ((),(((x.1,(x.2.1,x.2.2)),()),()))):=by
  intro m
  induction m with
  | zero=>intro j _ h;exact absurd h (Nat.not_lt_zero _)
  | succ m ih =>
   intro j hj h
   rw [qu7]
   unfold j6l
   by_cases c:j<l.length
   ·rw [decide_eq_true (by omega),cond_true,q0i c,Option.bind_some]
    unfold jjj
    rw [Option.bind_some,List.drop_eq_getElem_cons c,List.any_cons]
    by_cases e:l[j].2.1=x.2.1
    ·refine ⟨j,?_⟩
     rw [decide_eq_true e,cond_true,Bool.true_or,cond_true]
    ·obtain ⟨k,hk⟩:=ih (j+1) (by omega) (by omega)
     refine ⟨k,?_⟩
     rw [decide_eq_false e,cond_false,Bool.false_or,q0a,q03 (by omega)]
     exact hk
   ·obtain rfl:j=l.length:=by omega
    refine ⟨0,?_⟩
    rw [decide_eq_false (by omega),cond_false,List.drop_length];rfl
 obtain ⟨k,hk⟩:=loop n 0 (Nat.zero_le _) (by omega)
 have hk':q8h n n l ((l.length:Nat):Int) (0:Int) x.1 x.2.1 x.2.2=some (bif l.any (fun o=>decide (o.2.1=x.2.1)) then Sum.inl (((k:Int),()),(((x.1,(x.2.1,x.2.2)),()),())) else Sum.inr ((),(((x.1,(x.2.1,x.2.2)),()),()))):=hk
 unfold jmv jij
 rw [hk']
 cases l.any (fun o=>decide (o.2.1=x.2.1)) with
 | true =>
  simp only [cond_true,Option.bind_some,Sum.elim_inl]
  rw [decide_eq_true (by omega)]
 | false=>rfl
theorem k0g (l:List MD) (j:Nat) (x:List UInt8):(l.take j).any (fun o=>decide (o.2.1=x))=((qay l).take j).any (fun y=>decide (y=x)):=by
 unfold qay;rw [<-List.map_take,List.any_map];rfl
theorem q3s (l:List MD):(qay l).length=l.length:=List.length_map ..
theorem jnn {ps:List (List UInt8)} {j:Nat} (c:j<ps.length):jmm (ps.take j) (ps.drop j)=((ps.take j).any (fun y=>decide (y=ps[j]))||jmm (ps.take (j+1)) (ps.drop (j+1))):=by
 rw [List.drop_eq_getElem_cons c,jmm,List.take_succ_eq_append_getElem c]
theorem qtn (n:Nat) (l:List MD) (hl:SmL l) (hn:100000<n) : ∀m j:Nat,j<=l.length->l.length - j<m ->
  q61 n m l l ((l.length:Nat):Int) (j:Int)=some (bif ((qay l).drop j).all okS then Sum.inr ((l,()),((),())) else Sum.inl (((6:Int),()),((),())))
 | 0,j,_,h=>absurd h (Nat.not_lt_zero _)
 | m+1,j,hj,h=>by
  have h20:=hl.1
  rw [qqe]
  unfold qvv
  by_cases c:j<l.length
  ·have hp:=(hl.2 _ (List.getElem_mem c)).1
   have c':j<(qay l).length:=by rw [q3s];exact c
   have hx:(qay l)[j]=l[j].2.1:=by simp [qay]
   rw [decide_eq_true (by omega),cond_true,q0i c,Option.bind_some,jh9 n _ (by omega) (by omega),Option.bind_some,List.drop_eq_getElem_cons c',List.all_cons,hx]
   cases okS l[j].2.1 with
   | false=>rfl
   | true =>
    rw [Bool.not_true,cond_false,q0a,q03 (by omega),Bool.true_and]
    exact qtn n l hl hn m (j+1) (by omega) (by omega)
  ·obtain rfl:j=l.length:=by omega
   rw [decide_eq_false (by omega),cond_false,<-q3s l,List.drop_length];rfl
theorem qsi (n:Nat) (l:List MD) (hl:SmL l) (hn:100000<n) : ∀m j:Nat,j<=l.length->l.length - j<m ->
  q3w n m l l ((l.length:Nat):Int) (j:Int)=some (bif jmm ((qay l).take j) ((qay l).drop j) then Sum.inl (((11:Int),()),((),())) else Sum.inr ((),((),())))
 | 0,j,_,h=>absurd h (Nat.not_lt_zero _)
 | m+1,j,hj,h=>by
  have h20:=hl.1
  rw [qrb]
  unfold qya
  by_cases c:j<l.length
  ·have c':j<(qay l).length:=by rw [q3s];exact c
   have hx:(qay l)[j]=l[j].2.1:=by simp [qay]
   rw [decide_eq_true (by omega),cond_true,q0i c,Option.bind_some,sub_zero (by omega),Option.bind_some,jub n (l.take j) l[j] (by rw [List.length_take];omega) (by omega),Option.bind_some,k0g,jnn c',hx]
   cases ((qay l).take j).any (fun y=>decide (y=l[j].2.1)) with
   | true=>rfl
   | false =>
    rw [cond_false,q0a,q03 (by omega),Bool.false_or]
    exact qsi n l hl hn m (j+1) (by omega) (by omega)
  ·obtain rfl:j=l.length:=by omega
   rw [decide_eq_false (by omega),cond_false,<-q3s l,List.drop_length];rfl
theorem j1b (n:Nat) (l:List MD) (hl:SmL l) (hn:100000<n):qnr n l=some (qc0 l):=by
 have h20:=hl.1
 have hA:=qtn n l hl hn n 0 (Nat.zero_le _) (by omega)
 have hB:=qsi n l hl hn n 0 (Nat.zero_le _) (by omega)
 unfold qnr qc0 k8w
 rw [q3s]
 by_cases c:12<l.length
 ·rw [decide_eq_true (by omega),cond_true,if_pos c]
 ·rw [decide_eq_false (by omega),cond_false,if_neg c]
  have hA':q61 n n l l ((l.length:Nat):Int) (0:Int)=some (bif (qay l).all okS then Sum.inr ((l,()),((),())) else Sum.inl (((6:Int),()),((),()))):=hA
  rw [hA',Option.bind_some]
  cases (qay l).all okS with
  | false=>rfl
  | true =>
   have hB':q3w n n l l ((l.length:Nat):Int) (0:Int)=some (bif jmm [] (qay l) then Sum.inl (((11:Int),()),((),())) else Sum.inr ((),((),()))):=hB
   rw [cond_true,Sum.elim_inr]
   show (q3w n n l l ((l.length:Nat):Int) (0:Int)).bind _=_
   rw [hB',Option.bind_some]
   cases jmm [] (qay l)<;>rfl
theorem qeo {l:List MD} (h:qc0 l=0):l.length<=12:=by
 unfold qc0 k8w at h
 rw [q3s] at h
 by_cases c:12<l.length
 ·rw [if_pos c] at h;cases h
 ·omega
theorem qkx (n:Nat) (l:List MD) (i:Nat) (hi:i<l.length) (hl:SmL l) (hn:100000<n) : ∀m j:Nat,∀acc:List Int,acc.length<=j->j<=l.length->l.length - j<m ->
  q6k n m l (i:Int) l ((l.length:Nat):Int) (j:Int) acc=some (((),()),((),(acc++iL ((List.range' j (l.length - j)).filter (adj l i)),())))
 | 0,j,_,_,_,h=>absurd h (Nat.not_lt_zero _)
 | m+1,j,acc,ha,hj,h=>by
  have h20:=hl.1
  rw [qqj]
  unfold qzp
  by_cases c:j<l.length
  ·have hr:=(hl.2 _ (List.getElem_mem hi)).2
   obtain ⟨k,hk⟩ : ∃ k,l.length - j=k+1:=⟨l.length - j - 1,by omega⟩
   have hk':l.length - (j+1)=k:=by omega
   rw [decide_eq_true (by omega),cond_true,q0i c,Option.bind_some,q0i hi,Option.bind_some,jcx n _ _ (by omega) (by omega),Option.bind_some,<-jve hi c,hk,List.range'_succ,List.filter_cons]
   cases ha':adj l i j with
   | true =>
    rw [cond_true,if_pos rfl,q3u (by simp;omega),Option.bind_some,q0a,q03 (by omega)]
    refine (qkx n l i hi hl hn m (j+1) _ (by simp;omega) (by omega) (by omega)).trans ?_
    rw [hk']
    simp [iL]
   | false =>
    rw [cond_false,if_neg (by decide),q0a,q03 (by omega)]
    refine (qkx n l i hi hl hn m (j+1) _ (by omega) (by omega) (by omega)).trans ?_
    rw [hk']
  ·obtain rfl:j=l.length:=by omega
   rw [decide_eq_false (by omega),cond_false,Nat.sub_self]
   simp [iL]
theorem jgy (n:Nat) (l:List MD) (i:Nat) (hi:i<l.length) (hl:SmL l) (hn:100000<n):qvc n l (i:Int)=some (iL (q3v l.length (adj l) i)):=by
 have h20:=hl.1
 have:=qkx n l i hi hl hn n 0 [] (Nat.le_refl _) (Nat.zero_le _) (by omega)
 unfold qvc q3v
 rw [List.range_eq_range']
 have h':q6k n n l (i:Int) l ((l.length:Nat):Int) (0:Int) []=some (((),()),((),([]++iL ((List.range' 0 (l.length - 0)).filter (adj l i)),()))):=this
 rw [h',Option.bind_some,List.nil_append,Nat.sub_zero]
def jt1 (l:List MD) (i:Int):List Nat:=if qc0 l=0/\0<=i/\i<(l.length:Int) then q3v l.length (adj l) i.toNat else []
theorem j82 {l:List MD} (h:qc0 l=0) {i:Nat} (hi:i<l.length):jt1 l (i:Int)=q3v l.length (adj l) i:=by
 unfold jt1;rw [if_pos ⟨h,by omega,by omega⟩,Int.toNat_natCast]
abbrev B12T:Type:=Bool×(Bool×(Bool×(Bool×(Bool×(Bool×(Bool×(Bool×(Bool×(Bool×(Bool×Bool))))))))))
def P12 (M:List Bool):B12T:=(M.getD 0 false,(M.getD 1 false,(M.getD 2 false,(M.getD 3 false,(M.getD 4 false,(M.getD 5 false,(M.getD 6 false,(M.getD 7 false,(M.getD 8 false,(M.getD 9 false,(M.getD 10 false,M.getD 11 false)))))))))))
def qok {β:Type} (f:Bool->Bool->Bool->Bool->Bool->Bool->Bool->Bool->Bool->Bool->Bool->Bool->β) (M:List Bool):β :=
 f (M.getD 0 false) (M.getD 1 false) (M.getD 2 false) (M.getD 3 false) (M.getD 4 false) (M.getD 5 false) (M.getD 6 false) (M.getD 7 false) (M.getD 8 false) (M.getD 9 false) (M.getD 10 false) (M.getD 11 false)
theorem jxj {M:List Bool} (hM:M.length=12) : [M.getD 0 false,M.getD 1 false,M.getD 2 false,M.getD 3 false,M.getD 4 false,M.getD 5 false,M.getD 6 false,M.getD 7 false,M.getD 8 false,M.getD 9 false,M.getD 10 false,M.getD 11 false]=M:=by
 match M,hM with
 | [_,_,_,_,_,_,_,_,_,_,_,_],_=>rfl
theorem jea {M:List Bool} {k:Nat} (hk:k<M.length):nth M k=some (hs M k):=by
 unfold hs;rw [jci hk,List.getD_eq_getElem?_getD,List.getElem?_eq_getElem hk];rfl
theorem qez {k len:Nat} (hk:k<len):inA (k:Int) len=true:=by
 unfold inA;rw [decide_eq_true (by omega),decide_eq_true (by omega)];rfl
theorem q6n {M:List Bool} {j k:Nat} (y:Bool) (hk:k<M.length):q23 k (j:Int) y (M.getD k false)=(M.set j y).getD k false:=by
 unfold q23
 rw [Int.toNat_natCast,List.getD_eq_getElem?_getD,List.getD_eq_getElem?_getD,List.getElem?_set]
 by_cases h:k=j
 ·subst h
  rw [Nat.beq_refl,cond_true,if_pos rfl,if_pos hk];rfl
 ·have hb:Nat.beq k j=false:=by
   cases hb:Nat.beq k j with
   | false=>rfl
   | true=>exact absurd (Nat.eq_of_beq_eq_true hb) h
  rw [hb,cond_false,if_neg (fun e=>h e.symm)]
theorem jwh {β:Type} {M:List Bool} {j:Nat} (y:Bool) (hM:M.length=12) (f:Bool->Bool->Bool->Bool->Bool->Bool->Bool->Bool->Bool->Bool->Bool->Bool->β) :
  f (q23 0 (j:Int) y (M.getD 0 false)) (q23 1 (j:Int) y (M.getD 1 false)) (q23 2 (j:Int) y (M.getD 2 false)) (q23 3 (j:Int) y (M.getD 3 false)) (q23 4 (j:Int) y (M.getD 4 false)) (q23 5 (j:Int) y (M.getD 5 false)) (q23 6 (j:Int) y (M.getD 6 false)) (q23 7 (j:Int) y (M.getD 7 false)) (q23 8 (j:Int) y (M.getD 8 false)) (q23 9 (j:Int) y (M.getD 9 false)) (q23 10 (j:Int) y (M.getD 10 false)) (q23 11 (j:Int) y (M.getD 11 false))=qok f (M.set j y):=by
 unfold qok
 rw [q6n _ (by omega),q6n _ (by omega),q6n _ (by omega),q6n _ (by omega),q6n _ (by omega),q6n _ (by omega),q6n _ (by omega),q6n _ (by omega),q6n _ (by omega),q6n _ (by omega),q6n _ (by omega),q6n _ (by omega)]
end Go.Proofs.YtggoebaobojmjaaGreatDoor.AM
namespace Go.Proofs.YtggoebaobojmjaaGreatDoor.AM
open Go.RowKit Gr
set_option linter.unusedVariables false
set_option linter.unusedSimpArgs false
def IsF (n:Nat) (P:Nat->Prop) (L:List Nat):Prop:=∃ p:Nat->Bool,L=(List.range n).filter p/\∀k,k<n->(p k=true↔P k)
theorem IsF.eq {n:Nat} {P Q:Nat->Prop} {L L':List Nat} (h:IsF n P L) (h':IsF n Q L') (hPQ : ∀k,k<n->(P k↔Q k)):L=L':=by
 obtain ⟨p,rfl,hp⟩:=h
 obtain ⟨q,rfl,hq⟩:=h'
 apply List.filter_congr
 intro k hk
 have hk':=List.mem_range.1 hk
 have:=((hp k hk').trans (hPQ k hk')).trans (hq k hk').symm
 cases hpk:p k<;>cases hqk:q k<;>simp_all
theorem IsF.mem {n:Nat} {P:Nat->Prop} {L:List Nat} (h:IsF n P L) (k:Nat):k∈L↔k<n/\P k:=by
 obtain ⟨p,rfl,hp⟩:=h
 rw [List.mem_filter,List.mem_range]
 constructor
 ·exact fun ⟨h1,h2⟩=>⟨h1,(hp k h1).1 h2⟩
 ·exact fun ⟨h1,h2⟩=>⟨h1,(hp k h1).2 h2⟩
theorem IsF.lt {n:Nat} {P:Nat->Prop} {L:List Nat} (h:IsF n P L):L.length<=n:=by
 obtain ⟨p,rfl,hp⟩:=h
 have:=List.length_filter_le p (List.range n)
 rwa [List.length_range] at this
theorem j5k {f:Nat->Bool} {n:Nat} : ∀d:Nat,(∀k,n<=k->f k=false)->(List.range (n+d)).filter f=(List.range n).filter f
 | 0,_=>rfl
 | d+1,h=>by
  rw [<-Nat.add_assoc,List.range_succ,List.filter_append,j5k d h,List.filter_cons,h _ (by omega)]
  simp
theorem ka7 {M:List Bool} {k:Nat} (h:M.length<=k):hs M k=false:=by
 unfold hs;rw [List.getD_eq_getElem?_getD,List.getElem?_eq_none h];rfl
theorem j3l (n:Nat) (L:List Nat) (M:List Bool) (hM:M.length=12) (hL : ∀x∈L,x<12) (hl:L.length<=1000) : ∀m j:Nat,j<=L.length->L.length - j<m ->
  ∃ k:Nat,qok (qc1 n m (iL L) ((L.length:Nat):Int) (j:Int)) M=some (bif (L.drop j).any (fun x=>!(hs M x)) then Sum.inl (((k:Int),()),(((),((P12 M,()))),())) else Sum.inr ((),(((),(P12 M,())),())))
 | 0,j,_,h=>absurd h (Nat.not_lt_zero _)
 | m+1,j,hj,h=>by
  unfold qok
  rw [qug]
  unfold j7a
  by_cases c:j<L.length
  ·have hx:=hL _ (List.getElem_mem c)
   have hi:q0s (iL L) (j:Int)=some ((L[j]:Nat):Int):=by
    rw [q0i (by rw [q1h];exact c)];simp [iL]
   rw [decide_eq_true (by omega),cond_true,hi,Option.bind_some]
   unfold jkc
   rw [qez hx,cond_true,jxj hM,Int.toNat_natCast,jea (by omega),Option.bind_some,Option.bind_some,List.drop_eq_getElem_cons c,List.any_cons]
   cases hs M L[j] with
   | false=>exact ⟨j,rfl⟩
   | true =>
    obtain ⟨k,hk⟩:=j3l n L M hM hL hl m (j+1) (by omega) (by omega)
    refine ⟨k,?_⟩
    rw [Bool.not_true,cond_false,Bool.false_or,q0a,q03 (by omega)]
    exact hk
  ·obtain rfl:j=L.length:=by omega
   refine ⟨0,?_⟩
   rw [decide_eq_false (by omega),cond_false,List.drop_length];rfl
theorem k5h {L:List Nat} {f:Nat->Bool} : (!L.any (fun x=>!(f x)))=L.all f:=by
 induction L with
 | nil=>rfl
 | cons x L ih=>rw [List.any_cons,List.all_cons,<-ih];cases f x<;>simp
theorem jru (n:Nat) (L:List Nat) (M:List Bool) (hM:M.length=12) (hL : ∀x∈L,x<12) (hl:L.length<=1000) (hn:1000<n):qok (j7q n () (iL L)) M=some (L.all (hs M),((P12 M,()),())):=by
 obtain ⟨k,hk⟩:=j3l n L M hM hL hl n 0 (Nat.zero_le _) (by omega)
 rw [List.drop_zero] at hk
 rw [<-k5h]
 unfold qok at hk
 unfold qok j7q jxk jj0
 rw [q1h]
 have hk':=hk
 rw [show ((0:Nat):Int)=(0:Int) from rfl] at hk'
 rw [hk']
 cases L.any (fun x=>!(hs M x)) with
 | true =>
  simp only [cond_true,Option.bind_some,Sum.elim_inl]
  rw [decide_eq_true (by omega)]
 | false=>rfl
theorem qfp (n:Nat) (M:List Bool) (hM:M.length=12) : ∀m j:Nat,∀acc:List Int,acc.length<=j->j<=12->12 - j<m ->
  qok (q72 n m (j:Int)) M acc=some (((),()),((P12 M,()),(acc++iL ((List.range' j (12 - j)).filter (hs M)),())))
 | 0,j,_,_,_,h=>absurd h (Nat.not_lt_zero _)
 | m+1,j,acc,ha,hj,h=>by
  unfold qok
  rw [qla]
  unfold qq5
  by_cases c:j<12
  ·obtain ⟨k,hk⟩ : ∃ k,12 - j=k+1:=⟨12 - j - 1,by omega⟩
   have hk':12 - (j+1)=k:=by omega
   rw [decide_eq_true (by omega),cond_true,qez c,cond_true,jxj hM,Int.toNat_natCast,jea (by omega),Option.bind_some,hk,List.range'_succ,List.filter_cons]
   cases hs M j with
   | true =>
    rw [cond_true,if_pos rfl,q3u (by simp;omega),Option.bind_some,q0a,q03 (by omega)]
    refine (qfp n M hM m (j+1) _ (by simp;omega) (by omega) (by omega)).trans ?_
    rw [hk']
    simp [iL]
   | false =>
    rw [cond_false,if_neg (by decide),q0a,q03 (by omega)]
    refine (qfp n M hM m (j+1) _ (by omega) (by omega) (by omega)).trans ?_
    rw [hk']
  ·obtain rfl:j=12:=by omega
   rw [decide_eq_false (by omega),cond_false,Nat.sub_self]
   simp [iL,P12]
theorem jf6 (n:Nat) (M:List Bool) (hM:M.length=12) (hn:1000<n) {k:Nat} (hk:k<=12) (hh : ∀q,hs M q=true->q<k):qok (qg7 n ()) M=some (iL ((List.range k).filter (hs M)),((P12 M,()),())):=by
 have:=qfp n M hM n 0 [] (Nat.le_refl _) (Nat.zero_le _) (by omega)
 unfold qok at this
 unfold qok qg7
 rw [show (0:Int)=((0:Nat):Int) from rfl,this,Option.bind_some,List.nil_append,Nat.sub_zero,<-List.range_eq_range']
 have h2:=j5k (f:=hs M) (n:=k) (12 - k) (fun q hq=>by
  cases hs':hs M q with
  | false=>rfl
  | true=>exact absurd (hh q hs') (by omega))
 rw [show k+(12 - k)=12 by omega] at h2
 rw [h2]
def Rep (M:List Bool) (O:List Nat):Prop:=M.length=12/\∀k,hs M k=O.contains k
theorem Rep.snoc {M:List Bool} {O:List Nat} {i:Nat} (h:Rep M O) (hi:i<12):Rep (M.set i true) (O ++ [i]):=by
 refine ⟨by rw [List.length_set];exact h.1,fun k=>?_⟩
 have h1:=jw3 (M:=M) (j:=i) (k:=k) (by rw [h.1];exact hi)
 have h2:=h.2 k
 have h3:(O ++ [i]).contains k=true↔(k=i\/O.contains k=true):=by
  rw [List.contains_iff_mem,List.mem_append,List.mem_singleton,List.contains_iff_mem]
  exact Or.comm
 rw [h2] at h1
 cases ha:hs (M.set i true) k<;>cases hb:(O ++ [i]).contains k<;>simp_all
theorem j3z (n:Nat) (l:List MD) (O:List Nat) (M:List Bool) (hR:Rep M O) (hl:SmL l) (hl12:l.length<=12) (hn:100000<n) : ∀m j:Nat,j<=l.length->l.length - j<m ->
  qok (qce n m l ((l.length:Nat):Int) (j:Int)) M=some (match (List.range' j (l.length - j)).find? (ready l.length (adj l) O) with
   | some i=>Sum.inl (((i:Int),(true,())),((P12 M,()),()))
   | none=>Sum.inr ((),((P12 M,()),())))
 | 0,j,_,h=>absurd h (Nat.not_lt_zero _)
 | m+1,j,hj,h=>by
  unfold qok
  rw [qu8]
  unfold j6y
  by_cases c:j<l.length
  ·obtain ⟨k,hk⟩ : ∃ k,l.length - j=k+1:=⟨l.length - j - 1,by omega⟩
   have hk':l.length - (j+1)=k:=by omega
   have ih:=j3z n l O M hR hl hl12 hn m (j+1) (by omega) (by omega)
   rw [hk'] at ih
   have hrd:ready l.length (adj l) O j=(!(hs M j)&&(q3v l.length (adj l) j).all (hs M)):=by
    unfold ready
    rw [hR.2 j]
    congr 1
    exact List.all_congr rfl fun x=>(hR.2 x).symm
   rw [decide_eq_true (by omega),cond_true,qez (by omega),cond_true,jxj hR.1,Int.toNat_natCast,jea (by rw [hR.1];omega),Option.bind_some,hk,List.range'_succ,List.find?_cons,hrd]
   cases hs M j with
   | true =>
    rw [Bool.not_true,cond_false,Bool.false_and,q0a,q03 (by omega)]
    exact ih
   | false =>
    have hh:=jru n (q3v l.length (adj l) j) M hR.1 (fun x hx=>by have:=(qb6.1 hx).1;omega) (by have:=List.length_filter_le (adj l j) (List.range l.length);rw [List.length_range] at this;unfold q3v;omega) (by omega)
    unfold qok at hh
    rw [Bool.not_false,cond_true,jgy n l j c hl hn,Option.bind_some,hh,Option.bind_some,Bool.true_and]
    cases (q3v l.length (adj l) j).all (hs M) with
    | true=>rfl
    | false =>
     rw [cond_false,q0a,q03 (by omega)]
     exact ih
  ·obtain rfl:j=l.length:=by omega
   rw [decide_eq_false (by omega),cond_false,Nat.sub_self]
   rfl
theorem jsg (n:Nat) (l:List MD) (O:List Nat) (M:List Bool) (hR:Rep M O) (hl:SmL l) (hl12:l.length<=12) (hn:100000<n) :
  qok (j9d n l ()) M=some (match nxt l.length (adj l) O with
   | some i=>(((i:Int),true),((P12 M,()),()))
   | none=>(((0:Int),false),((P12 M,()),()))):=by
 have:=j3z n l O M hR hl hl12 hn n 0 (Nat.zero_le _) (by omega)
 unfold qok at this
 unfold qok j9d nxt
 rw [show (0:Int)=((0:Nat):Int) from rfl,this,Option.bind_some,List.range_eq_range',Nat.sub_zero]
 cases (List.range' 0 l.length).find? (ready l.length (adj l) O)<;>rfl
def j5w (l:List MD):List Nat:=jva l.length (adj l) 13 []
def q3z (l:List MD):List Int×Int:=if qc0 l=0 then (if (j5w l).length<l.length then ([],12) else (iL (j5w l),0)) else ([],qc0 l)
theorem jvz:Rep [false,false,false,false,false,false,false,false,false,false,false,false] []:=⟨rfl,fun k=>by
 by_cases h:k<12
 ·match k,h with
  | 0,_|1,_|2,_|3,_|4,_|5,_|6,_|7,_|8,_|9,_|10,_|11,_=>rfl
 ·rw [ka7 (by simp;omega)];rfl⟩
theorem j4e (n:Nat) (l:List MD) (hl:SmL l) (hl12:l.length<=12) (hn:100000<n) : ∀(d i:Nat) (M:List Bool),M.length=12->cnt M<d->i<l.length ->
  ∃ R,qok (qag n d l (i:Int) ()) M=some ((),((P12 R,()),()))/\Climb l.length (adj l) i M R
 | 0,i,M,_,h,_=>absurd h (Nat.not_lt_zero _)
 | d+1,i,M0,hM0,hd,hi=>by
  have h20:=hl.1
  have loop : ∀m j R0,j<=l.length->l.length - j<m->Climb0 l.length (adj l) i j M0 R0 ->
    ∃ R,qok (q9x (qag n d) n m l (i:Int) l ((l.length:Nat):Int) (j:Int)) R0=some ((),((P12 R,()),()))/\Climb0 l.length (adj l) i l.length M0 R:=by
   intro m
   induction m with
   | zero=>intro j R0 _ h _;exact absurd h (Nat.not_lt_zero _)
   | succ m ih =>
    intro j R0 hj h hc
    have hR0:R0.length=12:=hc.len.trans hM0
    unfold qok
    rw [qqi]
    unfold qzj
    by_cases c:j<l.length
    ·have hr:=(hl.2 _ (List.getElem_mem c)).2
     rw [decide_eq_true (by omega),cond_true,q0i c,Option.bind_some,qez (by omega),cond_true,jxj hR0,Int.toNat_natCast,jea (by omega),Option.bind_some]
     cases hsj:hs R0 j with
     | true =>
      rw [Bool.not_true,cond_false,q0a,q03 (by omega)]
      exact ih (j+1) R0 (by omega) (by omega) (hc.skip (Or.inl hsj))
     | false =>
      rw [Bool.not_false,cond_true,q0i hi,Option.bind_some,jcx n _ _ (by omega) (by omega),Option.bind_some,<-jve c hi]
      cases ha:adj l j i with
      | false =>
       rw [cond_false,q0a,q03 (by omega)]
       exact ih (j+1) R0 (by omega) (by omega) (hc.skip (Or.inr ha))
      | true =>
       have hcnt:=jvs (M:=R0) (j:=j) (by omega) hsj
       have hle:=k8y hc.len hc.sub
       obtain ⟨R',h1,h2⟩:=j4e n l hl hl12 hn d j (R0.set j true) (by rw [List.length_set];exact hR0) (by omega) c
       obtain ⟨R,h3,h4⟩:=ih (j+1) R' (by omega) (by omega) (hc.step c hi (by omega) ha h2)
       refine ⟨R,?_,h4⟩
       rw [cond_true,cond_true,cond_true]
       have h5:=(jwh true hR0 (qag n d l (j:Int) ())).trans h1
       rw [h5,Option.bind_some,q0a,q03 (by omega)]
       exact h3
    ·obtain rfl:j=l.length:=by omega
     refine ⟨R0,?_,hc⟩
     rw [decide_eq_false (by omega),cond_false]
     rfl
  obtain ⟨R,h1,h2⟩:=loop n 0 M0 (Nat.zero_le _) (by omega) (Climb0.start _ _ _ _)
  refine ⟨R,?_,h2.done⟩
  unfold qok at h1 ⊢
  show qvh (qag n d) n l (i:Int) () _ _ _ _ _ _ _ _ _ _ _ _=_
  unfold qvh
  rw [show (0:Int)=((0:Nat):Int) from rfl,h1,Option.bind_some]
def M0:List Bool:=[false,false,false,false,false,false,false,false,false,false,false,false]
theorem k9r (k:Nat):hs M0 k=false:=by
 have:=jvz.2 k
 exact this
def UpP (l:List MD) (from_:List Int) (k:Nat):Prop:=∃ i:Nat,(i:Int)∈from_/\i<l.length/\(k=i\/Dep l.length (adj l) k i)
theorem UpP.snoc {l:List MD} {f:List Int} {x:Int} {k:Nat} : UpP l (f ++ [x]) k↔UpP l f k \/ ∃ i:Nat,x=(i:Int)/\i<l.length/\(k=i\/Dep l.length (adj l) k i):=by
 constructor
 ·rintro ⟨i,h1,h2,h3⟩
  rcases List.mem_append.1 h1 with h1|h1
  ·exact Or.inl ⟨i,h1,h2,h3⟩
  ·exact Or.inr ⟨i,(List.mem_singleton.1 h1).symm,h2,h3⟩
 ·rintro (⟨i,h1,h2,h3⟩|⟨i,rfl,h2,h3⟩)
  ·exact ⟨i,List.mem_append.2 (Or.inl h1),h2,h3⟩
  ·exact ⟨i,List.mem_append.2 (Or.inr (List.mem_singleton.2 rfl)),h2,h3⟩
theorem UpP.lt {l:List MD} {f:List Int} {k:Nat} (h:UpP l f k):k<l.length:=by
 obtain ⟨i,_,h2,rfl|h3⟩:=h
 ·exact h2
 ·exact h3.lt.1
theorem qne (n:Nat) (l:List MD) (f:List Int) (hl:SmL l) (hl12:l.length<=12) (hf:f.length<=1000) (hn:100000<n) : ∀m j M,j<=f.length->f.length - j<m->M.length=12->jdd l.length (adj l) M->(∀k,hs M k=true↔UpP l (f.take j) k) ->
  ∃ M',qok (qfh n m l f ((f.length:Nat):Int) (j:Int)) M=some (((),()),((P12 M',()),()))/\M'.length=12/\∀k,hs M' k=true↔UpP l f k
 | 0,j,_,_,h,_,_,_=>absurd h (Nat.not_lt_zero _)
 | m+1,j,M,hj,h,hM,hcl,hk=>by
  unfold qok
  rw [j2f]
  unfold ju6
  by_cases c:j<f.length
  ·have htk:f.take (j+1)=f.take j ++ [f[j]]:=List.take_succ_eq_append_getElem c
   rw [decide_eq_true (by omega),cond_true,q0i c,Option.bind_some]
   have skip : ∀(hno : ∀k,(∃ i:Nat,f[j]=(i:Int)/\i<l.length/\(k=i\/Dep l.length (adj l) k i))->hs M k=true),∀k,hs M k=true↔UpP l (f.take (j+1)) k:=fun hno k=>by
    rw [htk,UpP.snoc,<-hk]
    exact ⟨fun h=>Or.inl h,fun h=>h.elim id (hno k)⟩
   unfold jja
   by_cases h0:0<=f[j]
   ·rw [decide_eq_true h0,cond_true,Option.bind_some]
    by_cases h1:f[j]<(l.length:Int)
    ·obtain ⟨i,hi⟩:=Int.eq_ofNat_of_zero_le h0
     have hil:i<l.length:=by omega
     rw [decide_eq_true h1,cond_true,hi,qez (by omega),cond_true,jxj hM,Int.toNat_natCast,jea (by omega),Option.bind_some]
     cases hsi:hs M i with
     | true =>
      rw [Bool.not_true,cond_false,q0a,q03 (by omega)]
      refine qne n l f hl hl12 hf hn m (j+1) M (by omega) (by omega) hM hcl (skip fun k=>?_)
      rintro ⟨i',e1,e2,e3⟩
      obtain rfl:i'=i:=by omega
      rcases e3 with rfl|e3
      ·exact hsi
      ·exact jqx hcl hsi e3
     | false =>
      have hlt:=ka8 (M.set i true)
      rw [List.length_set] at hlt
      obtain ⟨R,h2,h3⟩:=j4e n l hl hl12 hn n i (M.set i true) (by rw [List.length_set];exact hM) (by omega) hil
      obtain ⟨h4,h5⟩:=jcq hcl (by omega) h3
      have hR:R.length=12:=by rw [h3.len,List.length_set];exact hM
      obtain ⟨M',h6,h7⟩:=qne n l f hl hl12 hf hn m (j+1) R (by omega) (by omega) hR h4 (fun k=>by
       rw [htk,UpP.snoc,<-hk,h5]
       constructor
       ·rintro (e|e)
        ·exact Or.inl e
        ·exact Or.inr ⟨i,hi,hil,e⟩
       ·rintro (e|⟨i',e1,e2,e3⟩)
        ·exact Or.inl e
        ·obtain rfl:i'=i:=by omega
         exact Or.inr e3)
      refine ⟨M',?_,h7⟩
      rw [Bool.not_false,cond_true,cond_true,cond_true]
      have h8:=(jwh true hM (qag n n l (i:Int) ())).trans h2
      rw [h8,Option.bind_some,q0a,q03 (by omega)]
      exact h6
    ·rw [decide_eq_false h1,cond_false,q0a,q03 (by omega)]
     refine qne n l f hl hl12 hf hn m (j+1) M (by omega) (by omega) hM hcl (skip fun k=>?_)
     rintro ⟨i',e1,e2,e3⟩
     omega
   ·rw [decide_eq_false h0,cond_false,Option.bind_some,cond_false,q0a,q03 (by omega)]
    refine qne n l f hl hl12 hf hn m (j+1) M (by omega) (by omega) hM hcl (skip fun k=>?_)
    rintro ⟨i',e1,e2,e3⟩
    omega
  ·obtain rfl:j=f.length:=by omega
   rw [List.take_length] at hk
   refine ⟨M,?_,hM,hk⟩
   rw [decide_eq_false (by omega),cond_false]
   rfl
theorem k3b (n:Nat) (l:List MD) (f:List Int) (hl:SmL l) (hf:f.length<=1000) (hn:100000<n) : ∃ L,jwa n l f=some (iL L)/\(qc0 l≠0->L = [])/\(qc0 l=0->IsF l.length (UpP l f) L):=by
 unfold jwa
 rw [j1b n l hl hn,Option.bind_some]
 by_cases c:qc0 l=0
 ·have h12:=qeo c
  obtain ⟨C,h1,h2,h3⟩:=qne n l f hl h12 hf hn n 0 M0 (Nat.zero_le _) (by omega) rfl (fun k hk=>by rw [k9r] at hk;cases hk) (fun k=>by
   rw [k9r,List.take_zero]
   exact ⟨fun h=>(by cases h),fun ⟨i,h1,_⟩=>(by cases h1)⟩)
  have h1':qfh n n l f ((f.length:Nat):Int) (0:Int) false false false false false false false false false false false false=some (((),()),((P12 C,()),())):=h1
  have hp:=jf6 n C h2 (by omega) h12 (fun q hq=>((h3 q).1 hq).lt)
  refine ⟨_,?_,fun h=>absurd c h,fun _=>⟨hs C,rfl,fun k hk=>h3 k⟩⟩
  rw [decide_eq_true c,Bool.not_true,cond_false,h1',Option.bind_some]
  show (qok (qg7 n ()) C).bind _=_
  rw [hp,Option.bind_some]
 ·exact ⟨[],by rw [decide_eq_false c,Bool.not_false,cond_true];rfl,fun _=>rfl,fun h=>absurd h c⟩
end Go.Proofs.YtggoebaobojmjaaGreatDoor.AM
