
import Derived.Test.YtggoebaobojmjaaGreatDoorBr16
import Derived.Test.YtggoebaobojmjaaGreatDoorBr17
import Derived.Test.YtggoebaobojmjaaGreatDoorBr9
import Derived.Test.YtggoebaobojmjaaGreatDoorBr14
namespace Go.Proofs.YtggoebaobojmjaaGreatDoor.AM
open Go.RowKit
set_option linter.unusedVariables false
set_option linter.unusedSimpArgs false
abbrev TgD:=List UInt8×(Int×(Int×(Int×(List UInt8×(List UInt8×List UInt8)))))
def tV (t:TgD):VD:=(t.2.1,(t.2.2.1,(t.2.2.2.1,(t.2.2.2.2.1,t.2.2.2.2.2.1))))
abbrev tH (t:TgD):List UInt8:=t.2.2.2.2.2.2
def q1b (p:List UInt8):Option TgD->List TgD->Option TgD
 | b,[]=>b
 | b,t::l=>if t.1=p then (match b with
   | none=>q1b p (some t) l
   | some m=>if 0<qre (tV t) (tV m) then q1b p (some t) l else q1b p b l) else q1b p b l
def z0T:TgD:=([],(0,(0,(0,([],([],[]))))))
theorem qaw (p:List UInt8) (b:Option TgD) (t:TgD) (l:List TgD):q1b p b (t::l)=if t.1=p then (match b with
   | none=>q1b p (some t) l
   | some m=>if 0<qre (tV t) (tV m) then q1b p (some t) l else q1b p b l) else q1b p b l:=by cases b<;>rfl
theorem q79 (n:Nat) (hn:100<=n) (l:List TgD) (p:List UInt8) (hL:l.length<=1000000000000) : ∀(m j:Nat) (b:Option TgD) (a6:List UInt8) (a7 a8 a9:Int) (a10 a11 a12:List UInt8),j<=l.length->l.length - j<m ->
  ∃ c:List UInt8×(Int×(Int×(Int×(List UInt8×(List UInt8×List UInt8))))),q40 n m p b.isSome l ((l.length:Nat):Int) (j:Int) a6 a7 a8 a9 a10 a11 a12 (b.getD z0T).1 (b.getD z0T).2.1 (b.getD z0T).2.2.1 (b.getD z0T).2.2.2.1 (b.getD z0T).2.2.2.2.1 (b.getD z0T).2.2.2.2.2.1 (b.getD z0T).2.2.2.2.2.2 =
   some ((((),((),((q1b p b (l.drop j)).isSome,()))),((c,((q1b p b (l.drop j)).getD z0T,())),())))
 | 0,j,b,_,_,_,_,_,_,_,hj,hm=>absurd hm (Nat.not_lt_zero _)
 | m+1,j,b,a6,a7,a8,a9,a10,a11,a12,hj,hm=>by
  rw [qja]
  unfold qkn
  by_cases hjl:j<l.length
  ·have h1:(j:Int)<((l.length:Nat):Int):=by omega
   rw [decide_eq_true h1,cond_true,q0k hjl,Option.bind_some]
   have hd:l.drop j=l[j]::l.drop (j+1):=List.drop_eq_getElem_cons hjl
   rw [hd]
   generalize l[j]=t
   have hw:IntKind.wrap .i64 ((j:Int)+1)=((j+1:Nat):Int):=by rw [q04 (by omega)]
   by_cases hp:t.1=p
   ·rw [decide_eq_true hp,cond_true]
    cases b with
    | none =>
     have e1:q1b p none (t::l.drop (j+1))=q1b p (some t) (l.drop (j+1)):=by rw [qaw,if_pos hp]
     rw [e1]
     show ∃ c:TgD,q0e _ _=_
     unfold q0e
     rw [hw]
     exact q79 n hn l p hL m (j+1) (some t) _ _ _ _ _ _ _ hjl (by omega)
    | some q =>
     show ∃ c:TgD,(q6i n (tV t) (tV q)).bind _=_
     rw [qju n _ _ hn,Option.bind_some]
     by_cases hc:0<qre (tV t) (tV q)
     ·have e1:q1b p (some q) (t::l.drop (j+1))=q1b p (some t) (l.drop (j+1)):=by rw [qaw,if_pos hp];simp only [hc,if_true]
      rw [decide_eq_true hc,cond_true,e1]
      unfold q0e
      rw [hw]
      exact q79 n hn l p hL m (j+1) (some t) _ _ _ _ _ _ _ hjl (by omega)
     ·have e1:q1b p (some q) (t::l.drop (j+1))=q1b p (some q) (l.drop (j+1)):=by rw [qaw,if_pos hp];simp only [hc,if_false]
      rw [decide_eq_false hc,cond_false,e1]
      unfold q0e
      rw [hw]
      exact q79 n hn l p hL m (j+1) (some q) _ _ _ _ _ _ _ hjl (by omega)
   ·have e1:q1b p b (t::l.drop (j+1))=q1b p b (l.drop (j+1)):=by rw [qaw,if_neg hp]
    rw [decide_eq_false hp,cond_false,e1]
    unfold q0e
    rw [hw]
    exact q79 n hn l p hL m (j+1) b _ _ _ _ _ _ _ hjl (by omega)
  ·have h1 : ¬ (j:Int)<((l.length:Nat):Int):=by omega
   rw [decide_eq_false h1,cond_false,List.drop_of_length_le (by omega)]
   exact ⟨_,rfl⟩
theorem j7n (n:Nat) (hn:100<=n) (l:List TgD) (p:List UInt8) (hL:l.length<=1000000000000) (hn2:l.length<n):qjf n l p=some ((q1b p none l).getD z0T,(q1b p none l).isSome):=by
 unfold qjf
 obtain ⟨c,h⟩:=q79 n hn l p hL n 0 none [] 0 0 0 [] [] [] (Nat.zero_le _) (by omega)
 have h':q40 n n p false l ((l.length:Nat):Int) (0:Int) [] 0 0 0 [] [] [] [] 0 0 0 [] [] []=_:=h
 rw [h',Option.bind_some,List.drop_zero]
def few (t:TgD):Prop:=t.1.length<=5000/\(tH t).length<=5000
def fewT (t:TgD):Bool:=decide (t.1.length<=200)&&(decide (t.2.2.2.2.2.2.length<=200)&&(decide (t.2.2.2.2.1.length<=200)&&decide (t.2.2.2.2.2.1.length<=200)))
def fewS (l:List TgD):Bool:=l.all fewT&&decide (l.length<=60)
abbrev FOut:=((Bool×(Unit))×(Unit)×(Unit))⊕(((List TgD)×(Unit))×(Unit)×(Unit))
theorem jf4 (n:Nat) (l:List TgD) (hL:l.length<=9223372036854775807) : ∀m j:Nat,j<=l.length->l.length - j<m->∃ r:FOut,q4z n m l (j:Int)=some r/\(Sum.elim (fun q7=>some q7.1.1) (fun q8=>some (decide (((List.length q8.1.1:Nat):Int)<=(60:Int)))) r:Option Bool)=some ((l.drop j).all fewT&&decide (l.length<=60))
 | 0,j,hj,hm=>absurd hm (Nat.not_lt_zero _)
 | m+1,j,hj,hm=>by
  rw [qm8]
  unfold qsz
  by_cases hjl:j<l.length
  ·have h1:(j:Int)<((l.length:Nat):Int):=by omega
   rw [decide_eq_true h1,cond_true,q0k hjl,Option.bind_some,Option.bind_some,Option.bind_some,Option.bind_some]
   have hd:l.drop j=l[j]::l.drop (j+1):=List.drop_eq_getElem_cons hjl
   rw [hd,List.all_cons]
   generalize l[j]=t
   have dl : ∀s:List UInt8,decide ((200:Int)<((s.length:Nat):Int)) = !decide (s.length<=200):=fun s=>by
    by_cases h:s.length<=200
    ·rw [decide_eq_true h,decide_eq_false (by omega)];rfl
    ·rw [decide_eq_false h,decide_eq_true (by omega)];rfl
   rw [dl,dl,dl,dl]
   unfold fewT
   by_cases h2:t.1.length<=200
   ·by_cases h3:t.2.2.2.2.2.2.length<=200
    ·by_cases h4:t.2.2.2.2.1.length<=200
     ·by_cases h5:t.2.2.2.2.2.1.length<=200
      ·rw [decide_eq_true h2,decide_eq_true h3,decide_eq_true h4,decide_eq_true h5]
       simp only [Bool.not_true,cond_false,Bool.true_and]
       unfold q0e
       rw [show IntKind.wrap .i64 ((j:Int)+1)=((j+1:Nat):Int) from by rw [wrap64 (by omega) (by omega)];omega]
       exact jf4 n l hL m (j+1) hjl (by omega)
      ·rw [decide_eq_true h2,decide_eq_true h3,decide_eq_true h4,decide_eq_false h5];exact ⟨_,rfl,rfl⟩
     ·rw [decide_eq_true h2,decide_eq_true h3,decide_eq_false h4];exact ⟨_,rfl,rfl⟩
    ·rw [decide_eq_true h2,decide_eq_false h3];exact ⟨_,rfl,rfl⟩
   ·rw [decide_eq_false h2];exact ⟨_,rfl,rfl⟩
  ·have h1 : ¬ (j:Int)<((l.length:Nat):Int):=by omega
   rw [decide_eq_false h1,cond_false,List.drop_of_length_le (by omega)]
   refine ⟨_,rfl,?_⟩
   show some (decide (((l.length:Nat):Int)<=60))=some (true&&decide (l.length<=60))
   rw [Bool.true_and]
   exact congrArg some (decide_eq_decide.2 ⟨fun h=>by omega,fun h=>by omega⟩)
theorem j7x (n:Nat) (l:List TgD) (hL:l.length<=9223372036854775807) (hn:l.length<n):qpi n l=some (fewS l):=by
 unfold qpi
 obtain ⟨r,h1,h2⟩:=jf4 n l hL n 0 (Nat.zero_le _) (by omega)
 have h1':q4z n n l (0:Int)=some r:=h1
 rw [h1',Option.bind_some]
 exact h2
theorem jzo {l:List TgD} (h:fewS l=true):l.length<=60/\∀t∈l,few t:=by
 unfold fewS at h
 obtain ⟨h1,h2⟩:=Bool.and_eq_true_iff.1 h
 refine ⟨of_decide_eq_true h2,fun t ht=>?_⟩
 have h3:=List.all_eq_true.1 h1 t ht
 unfold fewT at h3
 obtain ⟨h4,h5⟩:=Bool.and_eq_true_iff.1 h3
 obtain ⟨h6,h7⟩:=Bool.and_eq_true_iff.1 h5
 have h4':=of_decide_eq_true h4
 have h6':=of_decide_eq_true h6
 exact ⟨by omega,by show t.2.2.2.2.2.2.length<=5000;omega⟩
end Go.Proofs.YtggoebaobojmjaaGreatDoor.AM
namespace Go.Proofs.YtggoebaobojmjaaGreatDoor.AM.Gr
set_option linter.unusedVariables false
set_option linter.unusedSimpArgs false
theorem jq6 : ∀{a b:List Nat},a.Nodup->(∀x∈a,x∈b)->a.length<=b.length
 | [],b,_,_=>Nat.zero_le _
 | x::a,b,hd,h=>by
  have hx:x∈b:=h x (List.mem_cons_self ..)
  obtain ⟨h1,h2⟩:=List.nodup_cons.1 hd
  have:=jq6 (a:=a) (b:=b.erase x) h2 fun y hy=>(List.mem_erase_of_ne (fun e:y=x=>h1 (by rw [<-e];exact hy))).2 (h y (List.mem_cons_of_mem _ hy))
  rw [List.length_erase_of_mem hx] at this
  have hb:0<b.length:=List.length_pos_of_mem hx
  rw [List.length_cons];omega
theorem qdy {n:Nat} {l:List Nat} (hd:l.Nodup) (h : ∀x∈l,x<n):l.length<=n:=by
 have:=jq6 (b:=List.range n) hd fun x hx=>List.mem_range.2 (h x hx)
 rwa [List.length_range] at this
theorem jsm {n:Nat} {l:List Nat} (hd:l.Nodup) (h : ∀x∈l,x<n) (hl:n<=l.length) {i:Nat} (hi:i<n):i∈l:=by
 apply Classical.byContradiction
 intro hn
 have:=qdy (n:=n) (List.nodup_cons.2 ⟨hn,hd⟩) (by
  intro x hx
  rcases List.mem_cons.1 hx with rfl|hx
  ·exact hi
  ·exact h x hx)
 rw [List.length_cons] at this;omega
inductive Dep (n:Nat) (A:Nat->Nat->Bool):Nat->Nat->Prop
 | one {i j:Nat} (hi:i<n) (hj:j<n) (h:A i j=true):Dep n A i j
 | more {i j k:Nat} (hi:i<n) (hj:j<n) (h:A i j=true) (hk:Dep n A j k):Dep n A i k
variable {n:Nat} {A:Nat->Nat->Bool}
theorem Dep.lt {i j:Nat} (h:Dep n A i j):i<n/\j<n:=by
 induction h with
 | one hi hj _=>exact ⟨hi,hj⟩
 | more hi _ _ _ ih=>exact ⟨hi,ih.2⟩
theorem Dep.trans {i j k:Nat} (h:Dep n A i j) (h2:Dep n A j k):Dep n A i k:=by
 induction h with
 | one hi hj h=>exact .more hi hj h h2
 | more hi hj h _ ih=>exact .more hi hj h (ih h2)
theorem Dep.mono {B:Nat->Nat->Bool} (hAB : ∀i j,i<n->j<n->A i j=true->B i j=true) {i j:Nat} (h:Dep n A i j):Dep n B i j:=by
 induction h with
 | one hi hj h=>exact .one hi hj (hAB _ _ hi hj h)
 | more hi hj h _ ih=>exact .more hi hj (hAB _ _ hi hj h) ih
theorem Dep.down {D:Nat->Prop} (hD : ∀j,D j->∀k,k<n->A j k=true->D k) {j k:Nat} (h:Dep n A j k):D j->D k:=by
 induction h with
 | one _ hj h=>exact fun hd=>hD _ hd _ hj h
 | more _ hj h _ ih=>exact fun hd=>ih (hD _ hd _ hj h)
theorem Dep.up {U:Nat->Prop} (hU : ∀j,U j->∀k,k<n->A k j=true->U k) {j k:Nat} (h:Dep n A k j):U j->U k:=by
 induction h with
 | one hi _ h=>exact fun hd=>hU _ hd _ hi h
 | more hi _ h _ ih=>exact fun hd=>hU _ (ih hd) _ hi h
theorem Dep.first {i k:Nat} (h:Dep n A i k) : ∃ j,i<n/\j<n/\A i j=true/\(j=k\/Dep n A j k):=by
 cases h with
 | one hi hj h=>exact ⟨_,hi,hj,h,Or.inl rfl⟩
 | more hi hj h hk=>exact ⟨_,hi,hj,h,Or.inr hk⟩
def hs (M:List Bool) (k:Nat):Bool:=M.getD k false
theorem jl3 {M:List Bool} {j k:Nat} (hj:j<M.length):hs (M.set j true) k=true↔(k=j\/hs M k=true):=by
 unfold hs
 rw [List.getD_eq_getElem?_getD,List.getD_eq_getElem?_getD,List.getElem?_set]
 by_cases h:j=k
 ·subst h;simp [hj]
 ·rw [if_neg h]
  constructor
  ·exact fun h'=>Or.inr h'
  ·rintro (rfl|h')
   ·exact absurd rfl h
   ·exact h'
structure Climb (n:Nat) (A:Nat->Nat->Bool) (i:Nat) (M R:List Bool):Prop where
 len:R.length=M.length
 sub : ∀k,hs M k=true->hs R k=true
 new : ∀k,hs R k=true->hs M k=true\/Dep n A k i
 nb : ∀k,k<n->A k i=true->hs R k=true
 cl : ∀k,hs R k=true->hs M k=false->∀q,q<n->A q k=true->hs R q=true
structure Climb0 (n:Nat) (A:Nat->Nat->Bool) (i j:Nat) (M R:List Bool):Prop where
 len:R.length=M.length
 sub : ∀k,hs M k=true->hs R k=true
 new : ∀k,hs R k=true->hs M k=true\/Dep n A k i
 nb : ∀k,k<j->A k i=true->hs R k=true
 cl : ∀k,hs R k=true->hs M k=false->∀q,q<n->A q k=true->hs R q=true
theorem Climb0.start (n:Nat) (A:Nat->Nat->Bool) (i:Nat) (M:List Bool):Climb0 n A i 0 M M :=
 ⟨rfl,fun _ h=>h,fun _ h=>Or.inl h,fun _ h=>absurd h (Nat.not_lt_zero _),fun k h h'=>by rw [h] at h';cases h'⟩
theorem Climb0.skip {i j:Nat} {M R:List Bool} (h:Climb0 n A i j M R) (hj:hs R j=true\/A j i=false):Climb0 n A i (j+1) M R :=
 ⟨h.len,h.sub,h.new,fun k hk ha=>by
  by_cases e:k=j
  ·subst e
   rcases hj with hj|hj
   ·exact hj
   ·rw [hj] at ha;cases ha
  ·exact h.nb k (by omega) ha,h.cl⟩
theorem Climb0.step {i j:Nat} {M R R':List Bool} (h:Climb0 n A i j M R) (hj:j<n) (hi:i<n) (hl:j<R.length) (ha:A j i=true) (hc:Climb n A j (R.set j true) R'):Climb0 n A i (j+1) M R':=by
 have hset : ∀k,hs (R.set j true) k=true↔(k=j\/hs R k=true):=fun k=>jl3 hl
 refine ⟨hc.len.trans ((List.length_set ..).trans h.len),fun k hk=>hc.sub k ((hset k).2 (Or.inr (h.sub k hk))),fun k hk=>?_,fun k hk hka=>?_,fun k hk hkm q hq hqa=>?_⟩
 ·rcases hc.new k hk with h1|h1
  ·rcases (hset k).1 h1 with rfl|h1
   ·exact Or.inr (.one hj hi ha)
   ·exact h.new k h1
  ·exact Or.inr (h1.trans (.one hj hi ha))
 ·by_cases e:k=j
  ·subst e;exact hc.sub k ((hset k).2 (Or.inl rfl))
  ·exact hc.sub k ((hset k).2 (Or.inr (h.nb k (by omega) hka)))
 ·cases hR:hs R k with
  | true=>exact hc.sub q ((hset q).2 (Or.inr (h.cl k hR hkm q hq hqa)))
  | false =>
   by_cases e:k=j
   ·subst e;exact hc.nb q hq hqa
   ·refine hc.cl k hk ?_ q hq hqa
    cases hs':hs (R.set j true) k with
    | false=>rfl
    | true =>
     rcases (hset k).1 hs' with h1|h1
     ·exact absurd h1 e
     ·rw [hR] at h1;cases h1
theorem Climb0.done {i:Nat} {M R:List Bool} (h:Climb0 n A i n M R):Climb n A i M R:=⟨h.len,h.sub,h.new,h.nb,h.cl⟩
def j39 (n:Nat) (A:Nat->Nat->Bool) (M:List Bool):Prop:=∀k,hs M k=true->∀q,q<n->A q k=true->hs M q=true
theorem j60 {i:Nat} {M R:List Bool} (hM:j39 n A M) (hi:i<M.length) (h:Climb n A i (M.set i true) R):j39 n A R/\∀k,hs R k=true↔(hs M k=true\/k=i\/Dep n A k i):=by
 have hset : ∀k,hs (M.set i true) k=true↔(k=i\/hs M k=true):=fun k=>jl3 hi
 have hcl:j39 n A R:=fun k hk q hq ha=>by
  by_cases e:k=i
  ·subst e;exact h.nb q hq ha
  ·cases hm:hs M k with
   | true=>exact h.sub q ((hset q).2 (Or.inr (hM k hm q hq ha)))
   | false =>
    refine h.cl k hk ?_ q hq ha
    cases hs':hs (M.set i true) k with
    | false=>rfl
    | true =>
     rcases (hset k).1 hs' with h1|h1
     ·exact absurd h1 e
     ·rw [hm] at h1;cases h1
 refine ⟨hcl,fun k=>⟨fun hk=>?_,fun hk=>?_⟩⟩
 ·rcases h.new k hk with h1|h1
  ·rcases (hset k).1 h1 with h1|h1
   ·exact Or.inr (Or.inl h1)
   ·exact Or.inl h1
  ·exact Or.inr (Or.inr h1)
 ·rcases hk with h1|rfl|h1
  ·exact h.sub k ((hset k).2 (Or.inr h1))
  ·exact h.sub k ((hset k).2 (Or.inl rfl))
  ·exact h1.up (U:=fun k=>hs R k=true) hcl (h.sub i ((hset i).2 (Or.inl rfl)))
theorem jio {M:List Bool} (hM:j39 n A M) {i k:Nat} (hi:hs M i=true) (h:Dep n A k i):hs M k=true:=h.up (U:=fun k=>hs M k=true) hM hi
def cnt (M:List Bool):Nat:=(M.filter (fun b=>!b)).length
theorem jmr : ∀{M:List Bool} {j:Nat},j<M.length->hs M j=false->cnt (M.set j true)+1=cnt M
 | b::M,0,_,h=>by
  have hb:b=false:=h
  subst hb
  simp [cnt]
 | b::M,j+1,hj,h=>by
  have:=jmr (M:=M) (j:=j) (by simpa using hj) h
  unfold cnt at *
  rw [List.set_cons_succ,List.filter_cons,List.filter_cons]
  cases b<;>simp<;>omega
theorem k17 {M R:List Bool} : R.length=M.length->(∀k,hs M k=true->hs R k=true)->cnt R<=cnt M:=by
 induction M generalizing R with
 | nil=>intro hl _;have:R = []:=List.eq_nil_of_length_eq_zero hl;subst this;exact Nat.le_refl _
 | cons b M ih =>
  intro hl h
  cases R with
  | nil=>cases hl
  | cons c R =>
   have h1:=ih (R:=R) (by simpa using hl) fun k hk=>h (k+1) hk
   have h0:=h 0
   unfold cnt at *
   rw [List.filter_cons,List.filter_cons]
   cases b<;>cases c<;>simp [hs] at *<;>omega
theorem k14 (M:List Bool):cnt M<=M.length:=List.length_filter_le _ _
def q71 (n:Nat) (A:Nat->Nat->Bool) (i:Nat):List Nat:=(List.range n).filter (A i)
theorem q3i {i j:Nat} : j∈q71 n A i↔j<n/\A i j=true:=by
 unfold q71;rw [List.mem_filter,List.mem_range]
def ready (n:Nat) (A:Nat->Nat->Bool) (O:List Nat) (i:Nat):Bool:=!(O.contains i)&&(q71 n A i).all O.contains
def nxt (n:Nat) (A:Nat->Nat->Bool) (O:List Nat):Option Nat:=(List.range n).find? (ready n A O)
def jyv (n:Nat) (A:Nat->Nat->Bool):Nat->List Nat->List Nat
 | 0,O=>O
 | f+1,O=>match nxt n A O with
  | some i=>jyv n A f (O ++ [i])
  | none=>O
theorem jke {O:List Nat} {i:Nat} : ready n A O i=true↔i ∉ O/\∀j,j<n->A i j=true->j∈O:=by
 unfold ready
 simp only [Bool.and_eq_true,Bool.not_eq_true',List.all_eq_true,q3i,List.contains_iff_mem,and_imp]
 rw [Bool.eq_false_iff,ne_eq,List.contains_iff_mem]
structure Ord (n:Nat) (A:Nat->Nat->Bool) (O:List Nat):Prop where
 nd:O.Nodup
 lt : ∀x∈O,x<n
 pre : ∀p i s,O=p++i::s->∀j,j<n->A i j=true->j∈p
theorem Ord.nil:Ord n A []:=⟨List.nodup_nil,fun x h=>(by cases h),fun p i s h=>by simp at h⟩
theorem jdp {O:List Nat} {i:Nat} (h:nxt n A O=some i):i<n/\i ∉ O/\∀j,j<n->A i j=true->j∈O:=by
 unfold nxt at h
 have h1:=List.find?_some h
 have h2:=List.mem_of_find?_eq_some h
 exact ⟨List.mem_range.1 h2,jke.1 h1⟩
theorem Ord.snoc {O:List Nat} {i:Nat} (h:Ord n A O) (hi:nxt n A O=some i):Ord n A (O ++ [i]):=by
 obtain ⟨h1,h2,h3⟩:=jdp hi
 refine ⟨List.nodup_append.2 ⟨h.nd,by simp,fun a ha b hb=>by rw [List.mem_singleton] at hb;subst hb;exact fun e=>h2 (e ▸ ha)⟩,fun x hx=>?_,fun p k s he j hj ha=>?_⟩
 ·rcases List.mem_append.1 hx with hx|hx
  ·exact h.lt x hx
  ·rw [List.mem_singleton] at hx;subst hx;exact h1
 ·rcases List.eq_nil_or_concat s with rfl|⟨s',x,rfl⟩
  ·have:=List.append_inj' he rfl
   simp only [List.cons.injEq,and_true] at this
   obtain ⟨rfl,rfl⟩:=this
   exact h3 j hj ha
  ·rw [List.concat_eq_append,<-List.cons_append,<-List.append_assoc] at he
   have:=List.append_inj' he rfl
   exact h.pre p k s' this.1 j hj ha
theorem jel : ∀(f:Nat) {O:List Nat},Ord n A O->Ord n A (jyv n A f O)
 | 0,O,h=>h
 | f+1,O,h=>by
  unfold jyv
  cases hn:nxt n A O with
  | none=>exact h
  | some i=>exact jel f (h.snoc hn)
structure Down (n:Nat) (A:Nat->Nat->Bool) (i k:Nat) (D:List Nat):Prop where
 nd:D.Nodup
 dep : ∀x∈D,Dep n A i x
 own : ∀j,j<n->A i j=true->j∈D
 cl : ∀q,q<k->∀x,D[q]? = some x->∀j,j<n->A x j=true->j∈D
theorem Down.start {i:Nat} (hi:i<n):Down n A i 0 (q71 n A i) :=
 ⟨List.nodup_range.filter _,fun x hx=>by obtain ⟨h1,h2⟩:=q3i.1 hx;exact .one hi h1 h2,fun j hj ha=>q3i.2 ⟨hj,ha⟩,fun q hq=>absurd hq (Nat.not_lt_zero _)⟩
def jqz (D:List Nat):List Nat->List Nat
 | []=>D
 | x::l=>jqz (if D.contains x then D else D ++ [x]) l
theorem j0c : ∀(l:List Nat) (D:List Nat),∃ s,jqz D l=D++s
 | [],D=>⟨[],by simp [jqz]⟩
 | x::l,D=>by
  unfold jqz
  by_cases h:D.contains x=true
  ·rw [if_pos h];exact j0c l D
  ·rw [if_neg h]
   obtain ⟨s,hs⟩:=j0c l (D ++ [x])
   exact ⟨[x]++s,by rw [hs,List.append_assoc]⟩
theorem qk2 : ∀(l:List Nat) (D:List Nat) (y:Nat),y∈jqz D l↔y∈D\/y∈l
 | [],D,y=>by simp [jqz]
 | x::l,D,y=>by
  unfold jqz
  rw [qk2 l,List.mem_cons]
  by_cases h:D.contains x=true
  ·rw [if_pos h]
   have hx:x∈D:=List.contains_iff_mem.1 h
   constructor
   ·rintro (h1|h1)
    ·exact Or.inl h1
    ·exact Or.inr (Or.inr h1)
   ·rintro (h1|rfl|h1)
    ·exact Or.inl h1
    ·exact Or.inl hx
    ·exact Or.inr h1
  ·rw [if_neg h,List.mem_append,List.mem_singleton]
   constructor
   ·rintro ((h1|h1)|h1)
    ·exact Or.inl h1
    ·exact Or.inr (Or.inl h1)
    ·exact Or.inr (Or.inr h1)
   ·rintro (h1|h1|h1)
    ·exact Or.inl (Or.inl h1)
    ·exact Or.inl (Or.inr h1)
    ·exact Or.inr h1
theorem ja7 : ∀(l:List Nat) (D:List Nat),D.Nodup->(jqz D l).Nodup
 | [],D,h=>h
 | x::l,D,h=>by
  unfold jqz
  by_cases hc:D.contains x=true
  ·rw [if_pos hc];exact ja7 l D h
  ·rw [if_neg hc]
   refine ja7 l _ (List.nodup_append.2 ⟨h,by simp,fun a ha b hb=>?_⟩)
   rw [List.mem_singleton] at hb;subst hb
   exact fun e=>hc (List.contains_iff_mem.2 (e ▸ ha))
theorem Down.step {i k:Nat} {D:List Nat} (h:Down n A i k D) {x:Nat} (hx:D[k]? = some x):Down n A i (k+1) (jqz D (q71 n A x)):=by
 have hxD:x∈D:=List.mem_of_getElem? hx
 obtain ⟨s,hs⟩:=j0c (q71 n A x) D
 refine ⟨ja7 _ _ h.nd,fun y hy=>?_,fun j hj ha=>(qk2 _ _ _).2 (Or.inl (h.own j hj ha)),fun q hq y hy j hj ha=>?_⟩
 ·rcases (qk2 _ _ _).1 hy with h1|h1
  ·exact h.dep y h1
  ·obtain ⟨h2,h3⟩:=q3i.1 h1
   exact (h.dep x hxD).trans (.one (h.dep x hxD).lt.2 h2 h3)
 ·have hkD:k<D.length:=(List.getElem?_eq_some_iff.1 hx).1
  rw [hs,List.getElem?_append_left (by omega)] at hy
  by_cases e:q=k
  ·subst e
   rw [hx] at hy
   obtain rfl:=Option.some.inj hy
   exact (qk2 _ _ _).2 (Or.inr (q3i.2 ⟨hj,ha⟩))
  ·exact (qk2 _ _ _).2 (Or.inl (h.cl q (by omega) y hy j hj ha))
theorem Down.len {i k:Nat} {D:List Nat} (h:Down n A i k D):D.length<=n:=qdy h.nd fun x hx=>(h.dep x hx).lt.2
theorem Down.done {i k:Nat} {D:List Nat} (h:Down n A i k D) (hk:D.length<=k) (x:Nat):x∈D↔Dep n A i x:=by
 constructor
 ·exact h.dep x
 ·intro hd
  have hcl : ∀j,j∈D->∀q,q<n->A j q=true->q∈D:=fun j hj q hq ha=>by
   obtain ⟨p,hp,rfl⟩:=List.getElem_of_mem hj
   exact h.cl p (by omega) _ (List.getElem?_eq_getElem hp) q hq ha
  obtain ⟨j,hi,hj,ha,h1⟩:=hd.first
  have hjD:=h.own j hj ha
  rcases h1 with rfl|h1
  ·exact hjD
  ·exact h1.down (D:=fun x=>x∈D) hcl hjD
end Go.Proofs.YtggoebaobojmjaaGreatDoor.AM.Gr
namespace Go.Proofs.YtggoebaobojmjaaGreatDoor.AM
open Go.RowKit Gr
set_option linter.unusedVariables false
set_option linter.unusedSimpArgs false
abbrev RD:Type:=List UInt8×(Int×(Int×(Int×(List UInt8×List UInt8))))
abbrev MD:Type:=List UInt8×(List UInt8×List RD)
def juw (m:MD) (p:List UInt8):Bool:=m.2.2.any fun r=>decide (r.1=p)
def adj (l:List MD) (i j:Nat):Bool:=match l[i]?,l[j]? with
 | some a,some b=>juw a b.2.1
 | _,_=>false
theorem jms {l:List MD} {i j:Nat} (hi:i<l.length) (hj:j<l.length):adj l i j=juw l[i] l[j].2.1:=by
 unfold adj;rw [List.getElem?_eq_getElem hi,List.getElem?_eq_getElem hj]
def SmL (l:List MD):Prop:=l.length<=20/\∀m∈l,m.2.1.length<=200/\m.2.2.length<=31
def iL (l:List Nat):List Int:=l.map fun k=>((k:Nat):Int)
theorem k0j (a b:List Nat):iL (a++b)=iL a++iL b:=List.map_append
theorem q3g (a:List Nat):(iL a).length=a.length:=List.length_map ..
theorem q0f {α β:Type} (x:β) (f:β->Option α):q0e x f=f x:=rfl
theorem qxm (n:Nat) (l:List RD) (p:List UInt8) (hl:l.length<=1000) : ∀m j:Nat,j<=l.length->l.length - j<m ->
  ∃ k:Nat,q6z n m l ((l.length:Nat):Int) (j:Int) p=some (bif (l.drop j).any (fun r=>decide (r.1=p)) then Sum.inl (((k:Int),()),((p,()),())) else Sum.inr ((),((p,()),())))
 | 0,j,_,h=>absurd h (Nat.not_lt_zero _)
 | m+1,j,hj,h=>by
  rw [qp4]
  unfold qz5
  by_cases c:j<l.length
  ·rw [decide_eq_true (by omega),cond_true,q0k c,Option.bind_some]
   unfold jbs
   rw [Option.bind_some,List.drop_eq_getElem_cons c,List.any_cons]
   by_cases e:l[j].1=p
   ·refine ⟨j,?_⟩
    rw [decide_eq_true e,cond_true,Bool.true_or,cond_true]
   ·obtain ⟨k,hk⟩:=qxm n l p hl m (j+1) (by omega) (by omega)
    refine ⟨k,?_⟩
    rw [decide_eq_false e,cond_false,Bool.false_or,q0f,q04 (by omega)]
    exact hk
  ·obtain rfl:j=l.length:=by omega
   refine ⟨0,?_⟩
   rw [decide_eq_false (by omega),cond_false,List.drop_length];rfl
theorem j38 (n:Nat) (m:MD) (p:List UInt8) (hl:m.2.2.length<=1000) (hn:1000<n):j6k n m p=some (juw m p):=by
 obtain ⟨k,hk⟩:=qxm n m.2.2 p hl n 0 (Nat.zero_le _) (by omega)
 have hk':q6z n n m.2.2 ((m.2.2.length:Nat):Int) (0:Int) p=some (bif juw m p then Sum.inl (((k:Int),()),((p,()),())) else Sum.inr ((),((p,()),()))):=hk
 unfold j6k jk7 jbi
 rw [hk']
 cases juw m p with
 | true =>
  simp only [cond_true,Option.bind_some,Sum.elim_inl]
  rw [decide_eq_true (by omega)]
 | false=>rfl
def jd9:List (List UInt8)->List (List UInt8)->Bool
 | _,[]=>false
 | pre,x::xs=>pre.any (fun y=>decide (y=x))||jd9 (pre ++ [x]) xs
def k0e (ps:List (List UInt8)):Int:=if 12<ps.length then 1 else bif ps.all okS then (bif jd9 [] ps then 11 else 0) else 6
def q90 (l:List MD):List (List UInt8):=l.map fun m=>m.2.1
def qlx (l:List MD):Int:=k0e (q90 l)
theorem jpg (n:Nat) (l:List MD) (x:MD) (hl:l.length<=1000) (hn:1000<n):je3 n l () x.1 x.2.1 x.2.2=some (l.any (fun o=>decide (o.2.1=x.2.1)),(((x.1,(x.2.1,x.2.2)),()),())):=by
 have loop : ∀m j:Nat,j<=l.length->l.length - j<m ->
   ∃ k:Nat,q6u n m l ((l.length:Nat):Int) (j:Int) x.1 x.2.1 x.2.2=some (bif (l.drop j).any (fun o=>decide (o.2.1=x.2.1)) then Sum.inl (((k:Int),()),(((x.1,(x.2.1,x.2.2)),()),())) else Sum.inr ((),(((x.1,(x.2.1,x.2.2)),()),()))):=by
  intro m
  induction m with
  | zero=>intro j _ h;exact absurd h (Nat.not_lt_zero _)
  | succ m ih =>
   intro j hj h
   rw [qos]
   unfold j1q
   by_cases c:j<l.length
   ·rw [decide_eq_true (by omega),cond_true,q0k c,Option.bind_some]
    unfold j9a
    rw [Option.bind_some,List.drop_eq_getElem_cons c,List.any_cons]
    by_cases e:l[j].2.1=x.2.1
    ·refine ⟨j,?_⟩
     rw [decide_eq_true e,cond_true,Bool.true_or,cond_true]
    ·obtain ⟨k,hk⟩:=ih (j+1) (by omega) (by omega)
     refine ⟨k,?_⟩
     rw [decide_eq_false e,cond_false,Bool.false_or,q0f,q04 (by omega)]
     exact hk
   ·obtain rfl:j=l.length:=by omega
    refine ⟨0,?_⟩
    rw [decide_eq_false (by omega),cond_false,List.drop_length];rfl
 obtain ⟨k,hk⟩:=loop n 0 (Nat.zero_le _) (by omega)
 have hk':q6u n n l ((l.length:Nat):Int) (0:Int) x.1 x.2.1 x.2.2=some (bif l.any (fun o=>decide (o.2.1=x.2.1)) then Sum.inl (((k:Int),()),(((x.1,(x.2.1,x.2.2)),()),())) else Sum.inr ((),(((x.1,(x.2.1,x.2.2)),()),()))):=hk
 unfold je3 j89
 rw [hk']
 cases l.any (fun o=>decide (o.2.1=x.2.1)) with
 | true =>
  simp only [cond_true,Option.bind_some,Sum.elim_inl]
  rw [decide_eq_true (by omega)]
 | false=>rfl
theorem jrt (l:List MD) (j:Nat) (x:List UInt8):(l.take j).any (fun o=>decide (o.2.1=x))=((q90 l).take j).any (fun y=>decide (y=x)):=by
 unfold q90;rw [<-List.map_take,List.any_map];rfl
theorem q3b (l:List MD):(q90 l).length=l.length:=List.length_map ..
theorem je8 {ps:List (List UInt8)} {j:Nat} (c:j<ps.length):jd9 (ps.take j) (ps.drop j)=((ps.take j).any (fun y=>decide (y=ps[j]))||jd9 (ps.take (j+1)) (ps.drop (j+1))):=by
 rw [List.drop_eq_getElem_cons c,jd9,List.take_succ_eq_append_getElem c]
theorem qn6 (n:Nat) (l:List MD) (hl:SmL l) (hn:100000<n) : ∀m j:Nat,j<=l.length->l.length - j<m ->
  q52 n m l l ((l.length:Nat):Int) (j:Int)=some (bif ((q90 l).drop j).all okS then Sum.inr ((l,()),((),())) else Sum.inl (((6:Int),()),((),())))
 | 0,j,_,h=>absurd h (Nat.not_lt_zero _)
 | m+1,j,hj,h=>by
  have h20:=hl.1
  rw [ql4]
  unfold qrm
  by_cases c:j<l.length
  ·have hp:=(hl.2 _ (List.getElem_mem c)).1
   have c':j<(q90 l).length:=by rw [q3b];exact c
   have hx:(q90 l)[j]=l[j].2.1:=by simp [q90]
   rw [decide_eq_true (by omega),cond_true,q0k c,Option.bind_some,j8s n _ (by omega) (by omega),Option.bind_some,List.drop_eq_getElem_cons c',List.all_cons,hx]
   cases okS l[j].2.1 with
   | false=>rfl
   | true =>
    rw [Bool.not_true,cond_false,q0f,q04 (by omega),Bool.true_and]
    exact qn6 n l hl hn m (j+1) (by omega) (by omega)
  ·obtain rfl:j=l.length:=by omega
   rw [decide_eq_false (by omega),cond_false,<-q3b l,List.drop_length];rfl
theorem qna (n:Nat) (l:List MD) (hl:SmL l) (hn:100000<n) : ∀m j:Nat,j<=l.length->l.length - j<m ->
  q3e n m l l ((l.length:Nat):Int) (j:Int)=some (bif jd9 ((q90 l).take j) ((q90 l).drop j) then Sum.inl (((11:Int),()),((),())) else Sum.inr ((),((),())))
 | 0,j,_,h=>absurd h (Nat.not_lt_zero _)
 | m+1,j,hj,h=>by
  have h20:=hl.1
  rw [ql6]
  unfold qtq
  by_cases c:j<l.length
  ·have c':j<(q90 l).length:=by rw [q3b];exact c
   have hx:(q90 l)[j]=l[j].2.1:=by simp [q90]
   rw [decide_eq_true (by omega),cond_true,q0k c,Option.bind_some,sub_zero (by omega),Option.bind_some,jpg n (l.take j) l[j] (by rw [List.length_take];omega) (by omega),Option.bind_some,jrt,je8 c',hx]
   cases ((q90 l).take j).any (fun y=>decide (y=l[j].2.1)) with
   | true=>rfl
   | false =>
    rw [cond_false,q0f,q04 (by omega),Bool.false_or]
    exact qna n l hl hn m (j+1) (by omega) (by omega)
  ·obtain rfl:j=l.length:=by omega
   rw [decide_eq_false (by omega),cond_false,<-q3b l,List.drop_length];rfl
theorem quy (n:Nat) (l:List MD) (hl:SmL l) (hn:100000<n):qip n l=some (qlx l):=by
 have h20:=hl.1
 have hA:=qn6 n l hl hn n 0 (Nat.zero_le _) (by omega)
 have hB:=qna n l hl hn n 0 (Nat.zero_le _) (by omega)
 unfold qip qlx k0e
 rw [q3b]
 by_cases c:12<l.length
 ·rw [decide_eq_true (by omega),cond_true,if_pos c]
 ·rw [decide_eq_false (by omega),cond_false,if_neg c]
  have hA':q52 n n l l ((l.length:Nat):Int) (0:Int)=some (bif (q90 l).all okS then Sum.inr ((l,()),((),())) else Sum.inl (((6:Int),()),((),()))):=hA
  rw [hA',Option.bind_some]
  cases (q90 l).all okS with
  | false=>rfl
  | true =>
   have hB':q3e n n l l ((l.length:Nat):Int) (0:Int)=some (bif jd9 [] (q90 l) then Sum.inl (((11:Int),()),((),())) else Sum.inr ((),((),()))):=hB
   rw [cond_true,Sum.elim_inr]
   show (q3e n n l l ((l.length:Nat):Int) (0:Int)).bind _=_
   rw [hB',Option.bind_some]
   cases jd9 [] (q90 l)<;>rfl
theorem j1y {l:List MD} (h:qlx l=0):l.length<=12:=by
 unfold qlx k0e at h
 rw [q3b] at h
 by_cases c:12<l.length
 ·rw [if_pos c] at h;cases h
 ·omega
theorem qg9 (n:Nat) (l:List MD) (i:Nat) (hi:i<l.length) (hl:SmL l) (hn:100000<n) : ∀m j:Nat,∀acc:List Int,acc.length<=j->j<=l.length->l.length - j<m ->
  q57 n m l (i:Int) l ((l.length:Nat):Int) (j:Int) acc=some (((),()),((),(acc++iL ((List.range' j (l.length - j)).filter (adj l i)),())))
 | 0,j,_,_,_,h=>absurd h (Nat.not_lt_zero _)
 | m+1,j,acc,ha,hj,h=>by
  have h20:=hl.1
  rw [qlw]
  unfold qrr
  by_cases c:j<l.length
  ·have hr:=(hl.2 _ (List.getElem_mem hi)).2
   obtain ⟨k,hk⟩ : ∃ k,l.length - j=k+1:=⟨l.length - j - 1,by omega⟩
   have hk':l.length - (j+1)=k:=by omega
   rw [decide_eq_true (by omega),cond_true,q0k c,Option.bind_some,q0k hi,Option.bind_some,j38 n _ _ (by omega) (by omega),Option.bind_some,<-jms hi c,hk,List.range'_succ,List.filter_cons]
   cases ha':adj l i j with
   | true =>
    rw [cond_true,if_pos rfl,qf4 (by simp;omega),Option.bind_some,q0f,q04 (by omega)]
    refine (qg9 n l i hi hl hn m (j+1) _ (by simp;omega) (by omega) (by omega)).trans ?_
    rw [hk']
    simp [iL]
   | false =>
    rw [cond_false,if_neg (by decide),q0f,q04 (by omega)]
    refine (qg9 n l i hi hl hn m (j+1) _ (by omega) (by omega) (by omega)).trans ?_
    rw [hk']
  ·obtain rfl:j=l.length:=by omega
   rw [decide_eq_false (by omega),cond_false,Nat.sub_self]
   simp [iL]
theorem jb5 (n:Nat) (l:List MD) (i:Nat) (hi:i<l.length) (hl:SmL l) (hn:100000<n):qq2 n l (i:Int)=some (iL (q71 l.length (adj l) i)):=by
 have h20:=hl.1
 have:=qg9 n l i hi hl hn n 0 [] (Nat.le_refl _) (Nat.zero_le _) (by omega)
 unfold qq2 q71
 rw [List.range_eq_range']
 have h':q57 n n l (i:Int) l ((l.length:Nat):Int) (0:Int) []=some (((),()),((),([]++iL ((List.range' 0 (l.length - 0)).filter (adj l i)),()))):=this
 rw [h',Option.bind_some,List.nil_append,Nat.sub_zero]
def jjz (l:List MD) (i:Int):List Nat:=if qlx l=0/\0<=i/\i<(l.length:Int) then q71 l.length (adj l) i.toNat else []
theorem jfv {l:List MD} (h:qlx l=0) {i:Nat} (hi:i<l.length):jjz l (i:Int)=q71 l.length (adj l) i:=by
 unfold jjz;rw [if_pos ⟨h,by omega,by omega⟩,Int.toNat_natCast]
abbrev B12T:Type:=Bool×(Bool×(Bool×(Bool×(Bool×(Bool×(Bool×(Bool×(Bool×(Bool×(Bool×Bool))))))))))
def P12 (M:List Bool):B12T:=(M.getD 0 false,(M.getD 1 false,(M.getD 2 false,(M.getD 3 false,(M.getD 4 false,(M.getD 5 false,(M.getD 6 false,(M.getD 7 false,(M.getD 8 false,(M.getD 9 false,(M.getD 10 false,M.getD 11 false)))))))))))
def qk9 {β:Type} (f:Bool->Bool->Bool->Bool->Bool->Bool->Bool->Bool->Bool->Bool->Bool->Bool->β) (M:List Bool):β :=
 f (M.getD 0 false) (M.getD 1 false) (M.getD 2 false) (M.getD 3 false) (M.getD 4 false) (M.getD 5 false) (M.getD 6 false) (M.getD 7 false) (M.getD 8 false) (M.getD 9 false) (M.getD 10 false) (M.getD 11 false)
theorem jkc {M:List Bool} (hM:M.length=12) : [M.getD 0 false,M.getD 1 false,M.getD 2 false,M.getD 3 false,M.getD 4 false,M.getD 5 false,M.getD 6 false,M.getD 7 false,M.getD 8 false,M.getD 9 false,M.getD 10 false,M.getD 11 false]=M:=by
 match M,hM with
 | [_,_,_,_,_,_,_,_,_,_,_,_],_=>rfl
theorem j6n {M:List Bool} {k:Nat} (hk:k<M.length):nth M k=some (hs M k):=by
 unfold hs;rw [jmz hk,List.getD_eq_getElem?_getD,List.getElem?_eq_getElem hk];rfl
theorem qd6 {k len:Nat} (hk:k<len):inA (k:Int) len=true:=by
 unfold inA;rw [decide_eq_true (by omega),decide_eq_true (by omega)];rfl
theorem q5i {M:List Bool} {j k:Nat} (y:Bool) (hk:k<M.length):q29 k (j:Int) y (M.getD k false)=(M.set j y).getD k false:=by
 unfold q29
 rw [Int.toNat_natCast,List.getD_eq_getElem?_getD,List.getD_eq_getElem?_getD,List.getElem?_set]
 by_cases h:k=j
 ·subst h
  rw [Nat.beq_refl,cond_true,if_pos rfl,if_pos hk];rfl
 ·have hb:Nat.beq k j=false:=by
   cases hb:Nat.beq k j with
   | false=>rfl
   | true=>exact absurd (Nat.eq_of_beq_eq_true hb) h
  rw [hb,cond_false,if_neg (fun e=>h e.symm)]
theorem jli {β:Type} {M:List Bool} {j:Nat} (y:Bool) (hM:M.length=12) (f:Bool->Bool->Bool->Bool->Bool->Bool->Bool->Bool->Bool->Bool->Bool->Bool->β) :
  f (q29 0 (j:Int) y (M.getD 0 false)) (q29 1 (j:Int) y (M.getD 1 false)) (q29 2 (j:Int) y (M.getD 2 false)) (q29 3 (j:Int) y (M.getD 3 false)) (q29 4 (j:Int) y (M.getD 4 false)) (q29 5 (j:Int) y (M.getD 5 false)) (q29 6 (j:Int) y (M.getD 6 false)) (q29 7 (j:Int) y (M.getD 7 false)) (q29 8 (j:Int) y (M.getD 8 false)) (q29 9 (j:Int) y (M.getD 9 false)) (q29 10 (j:Int) y (M.getD 10 false)) (q29 11 (j:Int) y (M.getD 11 false))=qk9 f (M.set j y):=by
 unfold qk9
 rw [q5i _ (by omega),q5i _ (by omega),q5i _ (by omega),q5i _ (by omega),q5i _ (by omega),q5i _ (by omega),q5i _ (by omega),q5i _ (by omega),q5i _ (by omega),q5i _ (by omega),q5i _ (by omega),q5i _ (by omega)]
end Go.Proofs.YtggoebaobojmjaaGreatDoor.AM
namespace Go.Proofs.YtggoebaobojmjaaGreatDoor.AM
open Go.RowKit Gr
set_option linter.unusedVariables false
set_option linter.unusedSimpArgs false
def IsF (n:Nat) (P:Nat->Prop) (L:List Nat):Prop:=∃ p:Nat->Bool,L=(List.range n).filter p/\∀k,k<n->(p k=true↔P k)
theorem IsF.eq {n:Nat} {P Q:Nat->Prop} {L L':List Nat} (h:IsF n P L) (h':IsF n Q L') (hPQ : ∀k,k<n->(P k↔Q k)):L=L':=by
 obtain ⟨p,rfl,hp⟩:=h
 obtain ⟨q,rfl,hq⟩:=h'
 apply List.filter_congr
 intro k hk
 have hk':=List.mem_range.1 hk
 have:=((hp k hk').trans (hPQ k hk')).trans (hq k hk').symm
 cases hpk:p k<;>cases hqk:q k<;>simp_all
theorem IsF.mem {n:Nat} {P:Nat->Prop} {L:List Nat} (h:IsF n P L) (k:Nat):k∈L↔k<n/\P k:=by
 obtain ⟨p,rfl,hp⟩:=h
 rw [List.mem_filter,List.mem_range]
 constructor
 ·exact fun ⟨h1,h2⟩=>⟨h1,(hp k h1).1 h2⟩
 ·exact fun ⟨h1,h2⟩=>⟨h1,(hp k h1).2 h2⟩
theorem IsF.lt {n:Nat} {P:Nat->Prop} {L:List Nat} (h:IsF n P L):L.length<=n:=by
 obtain ⟨p,rfl,hp⟩:=h
 have:=List.length_filter_le p (List.range n)
 rwa [List.length_range] at this
theorem qxj {f:Nat->Bool} {n:Nat} : ∀d:Nat,(∀k,n<=k->f k=false)->(List.range (n+d)).filter f=(List.range n).filter f
 | 0,_=>rfl
 | d+1,h=>by
  rw [<-Nat.add_assoc,List.range_succ,List.filter_append,qxj d h,List.filter_cons,h _ (by omega)]
  simp
theorem k0p {M:List Bool} {k:Nat} (h:M.length<=k):hs M k=false:=by
 unfold hs;rw [List.getD_eq_getElem?_getD,List.getElem?_eq_none h];rfl
theorem qwg (n:Nat) (L:List Nat) (M:List Bool) (hM:M.length=12) (hL : ∀x∈L,x<12) (hl:L.length<=1000) : ∀m j:Nat,j<=L.length->L.length - j<m ->
  ∃ k:Nat,qk9 (qa4 n m (iL L) ((L.length:Nat):Int) (j:Int)) M=some (bif (L.drop j).any (fun x=>!(hs M x)) then Sum.inl (((k:Int),()),(((),((P12 M,()))),())) else Sum.inr ((),(((),(P12 M,())),())))
 | 0,j,_,h=>absurd h (Nat.not_lt_zero _)
 | m+1,j,hj,h=>by
  unfold qk9
  rw [qov]
  unfold qz0
  by_cases c:j<L.length
  ·have hx:=hL _ (List.getElem_mem c)
   have hi:q0x (iL L) (j:Int)=some ((L[j]:Nat):Int):=by
    rw [q0k (by rw [q3g];exact c)];simp [iL]
   rw [decide_eq_true (by omega),cond_true,hi,Option.bind_some]
   unfold j98
   rw [qd6 hx,cond_true,jkc hM,Int.toNat_natCast,j6n (by omega),Option.bind_some,Option.bind_some,List.drop_eq_getElem_cons c,List.any_cons]
   cases hs M L[j] with
   | false=>exact ⟨j,rfl⟩
   | true =>
    obtain ⟨k,hk⟩:=qwg n L M hM hL hl m (j+1) (by omega) (by omega)
    refine ⟨k,?_⟩
    rw [Bool.not_true,cond_false,Bool.false_or,q0f,q04 (by omega)]
    exact hk
  ·obtain rfl:j=L.length:=by omega
   refine ⟨0,?_⟩
   rw [decide_eq_false (by omega),cond_false,List.drop_length];rfl
theorem jwe {L:List Nat} {f:Nat->Bool} : (!L.any (fun x=>!(f x)))=L.all f:=by
 induction L with
 | nil=>rfl
 | cons x L ih=>rw [List.any_cons,List.all_cons,<-ih];cases f x<;>simp
theorem ji4 (n:Nat) (L:List Nat) (M:List Bool) (hM:M.length=12) (hL : ∀x∈L,x<12) (hl:L.length<=1000) (hn:1000<n):qk9 (qza n () (iL L)) M=some (L.all (hs M),((P12 M,()),())):=by
 obtain ⟨k,hk⟩:=qwg n L M hM hL hl n 0 (Nat.zero_le _) (by omega)
 rw [List.drop_zero] at hk
 rw [<-jwe]
 unfold qk9 at hk
 unfold qk9 qza jmb jcf
 rw [q3g]
 have hk':=hk
 rw [show ((0:Nat):Int)=(0:Int) from rfl] at hk'
 rw [hk']
 cases L.any (fun x=>!(hs M x)) with
 | true =>
  simp only [cond_true,Option.bind_some,Sum.elim_inl]
  rw [decide_eq_true (by omega)]
 | false=>rfl
theorem qck (n:Nat) (M:List Bool) (hM:M.length=12) : ∀m j:Nat,∀acc:List Int,acc.length<=j->j<=12->12 - j<m ->
  qk9 (q64 n m (j:Int)) M acc=some (((),()),((P12 M,()),(acc++iL ((List.range' j (12 - j)).filter (hs M)),())))
 | 0,j,_,_,_,h=>absurd h (Nat.not_lt_zero _)
 | m+1,j,acc,ha,hj,h=>by
  unfold qk9
  rw [qhj]
  unfold qli
  by_cases c:j<12
  ·obtain ⟨k,hk⟩ : ∃ k,12 - j=k+1:=⟨12 - j - 1,by omega⟩
   have hk':12 - (j+1)=k:=by omega
   rw [decide_eq_true (by omega),cond_true,qd6 c,cond_true,jkc hM,Int.toNat_natCast,j6n (by omega),Option.bind_some,hk,List.range'_succ,List.filter_cons]
   cases hs M j with
   | true =>
    rw [cond_true,if_pos rfl,qf4 (by simp;omega),Option.bind_some,q0f,q04 (by omega)]
    refine (qck n M hM m (j+1) _ (by simp;omega) (by omega) (by omega)).trans ?_
    rw [hk']
    simp [iL]
   | false =>
    rw [cond_false,if_neg (by decide),q0f,q04 (by omega)]
    refine (qck n M hM m (j+1) _ (by omega) (by omega) (by omega)).trans ?_
    rw [hk']
  ·obtain rfl:j=12:=by omega
   rw [decide_eq_false (by omega),cond_false,Nat.sub_self]
   simp [iL,P12]
theorem j6e (n:Nat) (M:List Bool) (hM:M.length=12) (hn:1000<n) {k:Nat} (hk:k<=12) (hh : ∀q,hs M q=true->q<k):qk9 (qc6 n ()) M=some (iL ((List.range k).filter (hs M)),((P12 M,()),())):=by
 have:=qck n M hM n 0 [] (Nat.le_refl _) (Nat.zero_le _) (by omega)
 unfold qk9 at this
 unfold qk9 qc6
 rw [show (0:Int)=((0:Nat):Int) from rfl,this,Option.bind_some,List.nil_append,Nat.sub_zero,<-List.range_eq_range']
 have h2:=qxj (f:=hs M) (n:=k) (12 - k) (fun q hq=>by
  cases hs':hs M q with
  | false=>rfl
  | true=>exact absurd (hh q hs') (by omega))
 rw [show k+(12 - k)=12 by omega] at h2
 rw [h2]
def Rep (M:List Bool) (O:List Nat):Prop:=M.length=12/\∀k,hs M k=O.contains k
theorem Rep.snoc {M:List Bool} {O:List Nat} {i:Nat} (h:Rep M O) (hi:i<12):Rep (M.set i true) (O ++ [i]):=by
 refine ⟨by rw [List.length_set];exact h.1,fun k=>?_⟩
 have h1:=jl3 (M:=M) (j:=i) (k:=k) (by rw [h.1];exact hi)
 have h2:=h.2 k
 have h3:(O ++ [i]).contains k=true↔(k=i\/O.contains k=true):=by
  rw [List.contains_iff_mem,List.mem_append,List.mem_singleton,List.contains_iff_mem]
  exact Or.comm
 rw [h2] at h1
 cases ha:hs (M.set i true) k<;>cases hb:(O ++ [i]).contains k<;>simp_all
theorem qy0 (n:Nat) (l:List MD) (O:List Nat) (M:List Bool) (hR:Rep M O) (hl:SmL l) (hl12:l.length<=12) (hn:100000<n) : ∀m j:Nat,j<=l.length->l.length - j<m ->
  qk9 (qa7 n m l ((l.length:Nat):Int) (j:Int)) M=some (match (List.range' j (l.length - j)).find? (ready l.length (adj l) O) with
   | some i=>Sum.inl (((i:Int),(true,())),((P12 M,()),()))
   | none=>Sum.inr ((),((P12 M,()),())))
 | 0,j,_,h=>absurd h (Nat.not_lt_zero _)
 | m+1,j,hj,h=>by
  unfold qk9
  rw [qp3]
  unfold qz2
  by_cases c:j<l.length
  ·obtain ⟨k,hk⟩ : ∃ k,l.length - j=k+1:=⟨l.length - j - 1,by omega⟩
   have hk':l.length - (j+1)=k:=by omega
   have ih:=qy0 n l O M hR hl hl12 hn m (j+1) (by omega) (by omega)
   rw [hk'] at ih
   have hrd:ready l.length (adj l) O j=(!(hs M j)&&(q71 l.length (adj l) j).all (hs M)):=by
    unfold ready
    rw [hR.2 j]
    congr 1
    exact List.all_congr rfl fun x=>(hR.2 x).symm
   rw [decide_eq_true (by omega),cond_true,qd6 (by omega),cond_true,jkc hR.1,Int.toNat_natCast,j6n (by rw [hR.1];omega),Option.bind_some,hk,List.range'_succ,List.find?_cons,hrd]
   cases hs M j with
   | true =>
    rw [Bool.not_true,cond_false,Bool.false_and,q0f,q04 (by omega)]
    exact ih
   | false =>
    have hh:=ji4 n (q71 l.length (adj l) j) M hR.1 (fun x hx=>by have:=(q3i.1 hx).1;omega) (by have:=List.length_filter_le (adj l j) (List.range l.length);rw [List.length_range] at this;unfold q71;omega) (by omega)
    unfold qk9 at hh
    rw [Bool.not_false,cond_true,jb5 n l j c hl hn,Option.bind_some,hh,Option.bind_some,Bool.true_and]
    cases (q71 l.length (adj l) j).all (hs M) with
    | true=>rfl
    | false =>
     rw [cond_false,q0f,q04 (by omega)]
     exact ih
  ·obtain rfl:j=l.length:=by omega
   rw [decide_eq_false (by omega),cond_false,Nat.sub_self]
   rfl
theorem jjq (n:Nat) (l:List MD) (O:List Nat) (M:List Bool) (hR:Rep M O) (hl:SmL l) (hl12:l.length<=12) (hn:100000<n) :
  qk9 (j0g n l ()) M=some (match nxt l.length (adj l) O with
   | some i=>(((i:Int),true),((P12 M,()),()))
   | none=>(((0:Int),false),((P12 M,()),()))):=by
 have:=qy0 n l O M hR hl hl12 hn n 0 (Nat.zero_le _) (by omega)
 unfold qk9 at this
 unfold qk9 j0g nxt
 rw [show (0:Int)=((0:Nat):Int) from rfl,this,Option.bind_some,List.range_eq_range',Nat.sub_zero]
 cases (List.range' 0 l.length).find? (ready l.length (adj l) O)<;>rfl
def jbe (l:List MD):List Nat:=jyv l.length (adj l) 13 []
def q82 (l:List MD):List Int×Int:=if qlx l=0 then (if (jbe l).length<l.length then ([],12) else (iL (jbe l),0)) else ([],qlx l)
theorem jod:Rep [false,false,false,false,false,false,false,false,false,false,false,false] []:=⟨rfl,fun k=>by
 by_cases h:k<12
 ·match k,h with
  | 0,_|1,_|2,_|3,_|4,_|5,_|6,_|7,_|8,_|9,_|10,_|11,_=>rfl
 ·rw [k0p (by simp;omega)];rfl⟩
theorem qy8 (n:Nat) (l:List MD) (hl:SmL l) (hl12:l.length<=12) (hn:100000<n) : ∀(d i:Nat) (M:List Bool),M.length=12->cnt M<d->i<l.length ->
  ∃ R,qk9 (q8t n d l (i:Int) ()) M=some ((),((P12 R,()),()))/\Climb l.length (adj l) i M R
 | 0,i,M,_,h,_=>absurd h (Nat.not_lt_zero _)
 | d+1,i,M0,hM0,hd,hi=>by
  have h20:=hl.1
  have loop : ∀m j R0,j<=l.length->l.length - j<m->Climb0 l.length (adj l) i j M0 R0 ->
    ∃ R,qk9 (q7u (q8t n d) n m l (i:Int) l ((l.length:Nat):Int) (j:Int)) R0=some ((),((P12 R,()),()))/\Climb0 l.length (adj l) i l.length M0 R:=by
   intro m
   induction m with
   | zero=>intro j R0 _ h _;exact absurd h (Nat.not_lt_zero _)
   | succ m ih =>
    intro j R0 hj h hc
    have hR0:R0.length=12:=hc.len.trans hM0
    unfold qk9
    rw [qmz]
    unfold qrn
    by_cases c:j<l.length
    ·have hr:=(hl.2 _ (List.getElem_mem c)).2
     rw [decide_eq_true (by omega),cond_true,q0k c,Option.bind_some,qd6 (by omega),cond_true,jkc hR0,Int.toNat_natCast,j6n (by omega),Option.bind_some]
     cases hsj:hs R0 j with
     | true =>
      rw [Bool.not_true,cond_false,q0f,q04 (by omega)]
      exact ih (j+1) R0 (by omega) (by omega) (hc.skip (Or.inl hsj))
     | false =>
      rw [Bool.not_false,cond_true,q0k hi,Option.bind_some,j38 n _ _ (by omega) (by omega),Option.bind_some,<-jms c hi]
      cases ha:adj l j i with
      | false =>
       rw [cond_false,q0f,q04 (by omega)]
       exact ih (j+1) R0 (by omega) (by omega) (hc.skip (Or.inr ha))
      | true =>
       have hcnt:=jmr (M:=R0) (j:=j) (by omega) hsj
       have hle:=k17 hc.len hc.sub
       obtain ⟨R',h1,h2⟩:=qy8 n l hl hl12 hn d j (R0.set j true) (by rw [List.length_set];exact hR0) (by omega) c
       obtain ⟨R,h3,h4⟩:=ih (j+1) R' (by omega) (by omega) (hc.step c hi (by omega) ha h2)
       refine ⟨R,?_,h4⟩
       rw [cond_true,cond_true,cond_true]
       have h5:=(jli true hR0 (q8t n d l (j:Int) ())).trans h1
       rw [h5,Option.bind_some,q0f,q04 (by omega)]
       exact h3
    ·obtain rfl:j=l.length:=by omega
     refine ⟨R0,?_,hc⟩
     rw [decide_eq_false (by omega),cond_false]
     rfl
  obtain ⟨R,h1,h2⟩:=loop n 0 M0 (Nat.zero_le _) (by omega) (Climb0.start _ _ _ _)
  refine ⟨R,?_,h2.done⟩
  unfold qk9 at h1 ⊢
  show qpv (q8t n d) n l (i:Int) () _ _ _ _ _ _ _ _ _ _ _ _=_
  unfold qpv
  rw [show (0:Int)=((0:Nat):Int) from rfl,h1,Option.bind_some]
def M0:List Bool:=[false,false,false,false,false,false,false,false,false,false,false,false]
theorem k0v (k:Nat):hs M0 k=false:=by
 have:=jod.2 k
 exact this
def UpP (l:List MD) (from_:List Int) (k:Nat):Prop:=∃ i:Nat,(i:Int)∈from_/\i<l.length/\(k=i\/Dep l.length (adj l) k i)
theorem UpP.snoc {l:List MD} {f:List Int} {x:Int} {k:Nat} : UpP l (f ++ [x]) k↔UpP l f k \/ ∃ i:Nat,x=(i:Int)/\i<l.length/\(k=i\/Dep l.length (adj l) k i):=by
 constructor
 ·rintro ⟨i,h1,h2,h3⟩
  rcases List.mem_append.1 h1 with h1|h1
  ·exact Or.inl ⟨i,h1,h2,h3⟩
  ·exact Or.inr ⟨i,(List.mem_singleton.1 h1).symm,h2,h3⟩
 ·rintro (⟨i,h1,h2,h3⟩|⟨i,rfl,h2,h3⟩)
  ·exact ⟨i,List.mem_append.2 (Or.inl h1),h2,h3⟩
  ·exact ⟨i,List.mem_append.2 (Or.inr (List.mem_singleton.2 rfl)),h2,h3⟩
theorem UpP.lt {l:List MD} {f:List Int} {k:Nat} (h:UpP l f k):k<l.length:=by
 obtain ⟨i,_,h2,rfl|h3⟩:=h
 ·exact h2
 ·exact h3.lt.1
theorem qhd (n:Nat) (l:List MD) (f:List Int) (hl:SmL l) (hl12:l.length<=12) (hf:f.length<=1000) (hn:100000<n) : ∀m j M,j<=f.length->f.length - j<m->M.length=12->j39 l.length (adj l) M->(∀k,hs M k=true↔UpP l (f.take j) k) ->
  ∃ M',qk9 (qci n m l f ((f.length:Nat):Int) (j:Int)) M=some (((),()),((P12 M',()),()))/\M'.length=12/\∀k,hs M' k=true↔UpP l f k
 | 0,j,_,_,h,_,_,_=>absurd h (Nat.not_lt_zero _)
 | m+1,j,M,hj,h,hM,hcl,hk=>by
  unfold qk9
  rw [qvj]
  unfold jpy
  by_cases c:j<f.length
  ·have htk:f.take (j+1)=f.take j ++ [f[j]]:=List.take_succ_eq_append_getElem c
   rw [decide_eq_true (by omega),cond_true,q0k c,Option.bind_some]
   have skip : ∀(hno : ∀k,(∃ i:Nat,f[j]=(i:Int)/\i<l.length/\(k=i\/Dep l.length (adj l) k i))->hs M k=true),∀k,hs M k=true↔UpP l (f.take (j+1)) k:=fun hno k=>by
    rw [htk,UpP.snoc,<-hk]
    exact ⟨fun h=>Or.inl h,fun h=>h.elim id (hno k)⟩
   unfold j8a
   by_cases h0:0<=f[j]
   ·rw [decide_eq_true h0,cond_true,Option.bind_some]
    by_cases h1:f[j]<(l.length:Int)
    ·obtain ⟨i,hi⟩:=Int.eq_ofNat_of_zero_le h0
     have hil:i<l.length:=by omega
     rw [decide_eq_true h1,cond_true,hi,qd6 (by omega),cond_true,jkc hM,Int.toNat_natCast,j6n (by omega),Option.bind_some]
     cases hsi:hs M i with
     | true =>
      rw [Bool.not_true,cond_false,q0f,q04 (by omega)]
      refine qhd n l f hl hl12 hf hn m (j+1) M (by omega) (by omega) hM hcl (skip fun k=>?_)
      rintro ⟨i',e1,e2,e3⟩
      obtain rfl:i'=i:=by omega
      rcases e3 with rfl|e3
      ·exact hsi
      ·exact jio hcl hsi e3
     | false =>
      have hlt:=k14 (M.set i true)
      rw [List.length_set] at hlt
      obtain ⟨R,h2,h3⟩:=qy8 n l hl hl12 hn n i (M.set i true) (by rw [List.length_set];exact hM) (by omega) hil
      obtain ⟨h4,h5⟩:=j60 hcl (by omega) h3
      have hR:R.length=12:=by rw [h3.len,List.length_set];exact hM
      obtain ⟨M',h6,h7⟩:=qhd n l f hl hl12 hf hn m (j+1) R (by omega) (by omega) hR h4 (fun k=>by
       rw [htk,UpP.snoc,<-hk,h5]
       constructor
       ·rintro (e|e)
        ·exact Or.inl e
        ·exact Or.inr ⟨i,hi,hil,e⟩
       ·rintro (e|⟨i',e1,e2,e3⟩)
        ·exact Or.inl e
        ·obtain rfl:i'=i:=by omega
         exact Or.inr e3)
      refine ⟨M',?_,h7⟩
      rw [Bool.not_false,cond_true,cond_true,cond_true]
      have h8:=(jli true hM (q8t n n l (i:Int) ())).trans h2
      rw [h8,Option.bind_some,q0f,q04 (by omega)]
      exact h6
    ·rw [decide_eq_false h1,cond_false,q0f,q04 (by omega)]
     refine qhd n l f hl hl12 hf hn m (j+1) M (by omega) (by omega) hM hcl (skip fun k=>?_)
     rintro ⟨i',e1,e2,e3⟩
     omega
   ·rw [decide_eq_false h0,cond_false,Option.bind_some,cond_false,q0f,q04 (by omega)]
    refine qhd n l f hl hl12 hf hn m (j+1) M (by omega) (by omega) hM hcl (skip fun k=>?_)
    rintro ⟨i',e1,e2,e3⟩
    omega
  ·obtain rfl:j=f.length:=by omega
   rw [List.take_length] at hk
   refine ⟨M,?_,hM,hk⟩
   rw [decide_eq_false (by omega),cond_false]
   rfl
theorem jrf (n:Nat) (l:List MD) (f:List Int) (hl:SmL l) (hf:f.length<=1000) (hn:100000<n) : ∃ L,jnj n l f=some (iL L)/\(qlx l≠0->L = [])/\(qlx l=0->IsF l.length (UpP l f) L):=by
 unfold jnj
 rw [quy n l hl hn,Option.bind_some]
 by_cases c:qlx l=0
 ·have h12:=j1y c
  obtain ⟨C,h1,h2,h3⟩:=qhd n l f hl h12 hf hn n 0 M0 (Nat.zero_le _) (by omega) rfl (fun k hk=>by rw [k0v] at hk;cases hk) (fun k=>by
   rw [k0v,List.take_zero]
   exact ⟨fun h=>(by cases h),fun ⟨i,h1,_⟩=>(by cases h1)⟩)
  have h1':qci n n l f ((f.length:Nat):Int) (0:Int) false false false false false false false false false false false false=some (((),()),((P12 C,()),())):=h1
  have hp:=j6e n C h2 (by omega) h12 (fun q hq=>((h3 q).1 hq).lt)
  refine ⟨_,?_,fun h=>absurd c h,fun _=>⟨hs C,rfl,fun k hk=>h3 k⟩⟩
  rw [decide_eq_true c,Bool.not_true,cond_false,h1',Option.bind_some]
  show (qk9 (qc6 n ()) C).bind _=_
  rw [hp,Option.bind_some]
 ·exact ⟨[],by rw [decide_eq_false c,Bool.not_false,cond_true];rfl,fun _=>rfl,fun h=>absurd h c⟩
end Go.Proofs.YtggoebaobojmjaaGreatDoor.AM
