
import Derived.Test.YtapfankgdkdkgaaGreatDoorEb24
import Derived.Test.YtapfankgdkdkgaaGreatDoorEb13
import Derived.Test.YtapfankgdkdkgaaGreatDoorEb17
set_option linter.unusedVariables false
set_option linter.unusedSimpArgs false
namespace Go.Proofs.YtapfankgdkdkgaaGreatDoor.AM
open Go.RowKit
set_option synthInstance.maxSize 100000
set_option synthInstance.maxHeartbeats 0
theorem qaw (n:Nat) (s:Yy) (hn:2000<=n):q3y n s=some (q09 s):=by
 by_cases h:s.length<=200
 ·exact qxq n s h hn
 ·have c1:(100:Int)<((s.length:Nat):Int):=by omega
  have hp:q09 s=(v0,false):=qne (fun v hv e=>by have:=qpe v;rw [e] at this;omega)
  unfold q3y
  rw [hp]
  simp [c1]
theorem jax {s:Yy} (h:1000<s.length):q3a s=false:=by
 cases hp:q3a s with
 | false=>rfl
 | true=>have:=jfa hp;omega
theorem q7s (n:Nat) (s:Yy) (hL:s.length<=1000000) (hn:2000<=n):q3n n s=some (okS s):=by
 by_cases h:s.length<=1000
 ·exact qg4 n s h hn
 ·unfold q3n okS
  rw [qbq n s (by omega) (by omega),jax (by omega)]
  rfl
theorem j61 (n:Nat) (s:Yy) (v:VD) (hL:s.length<=1000000) (hn:2000<=n):qai n s v=some (q40 s v):=by
 by_cases h:s.length<=1000
 ·exact qy1 n s v h hn
 ·have ho:okS s=false:=by unfold okS;rw [jax (by omega)];rfl
  unfold qai q9n q40
  rw [q7s n s hL hn,ho]
  rfl
theorem qb8 (n:Nat) (s:Yy) (hL:s.length<=1000000) : ∀m j:Nat,j<=s.length->s.length - j<m->q3m n m s (j:Int)=some (if (s.drop j).all q0t=true then Sum.inr ((s,()),((),())) else Sum.inl ((false,()),((),())))
 | 0,j,_,h=>absurd h (Nat.not_lt_zero _)
 | m+1,j,hj,h=>by
  rw [qb2]
  unfold q9k
  by_cases c0:j<s.length
  ·have c0':((j:Nat):Int)<((s.length:Nat):Int):=by omega
   rw [List.drop_eq_getElem_cons c0,List.all_cons,j74 s[j]]
   simp only [c0',decide_true,cond_true,q1h c0,Option.bind_some,q00,q05 (show j<4611686018427387904 by omega)]
   by_cases h1:((s[j].toNat:Nat):Int)<48
   ·simp [h1]
   ·by_cases h2:(57:Int)<((s[j].toNat:Nat):Int)
    ·simp [h1,h2]
    ·simp only [h1,h2,decide_false,cond_false,Bool.not_false,Bool.true_and]
     exact qb8 n s hL m (j+1) (by omega) (by omega)
  ·have c0' : ¬ ((j:Nat):Int)<((s.length:Nat):Int):=by omega
   simp only [c0',decide_false,cond_false]
   rw [List.drop_eq_nil_of_le (by omega)]
   simp
theorem qb4 (n:Nat) (s:Yy) (hL:s.length<=1000000) (hn:s.length<n):q3c n s=some (q4e s):=by
 unfold q3c
 have h:=qb8 n s hL n 0 (Nat.zero_le _) (by omega)
 rw [zI,List.drop_zero] at h
 rw [h]
 unfold q4e
 cases s.all q0t with
 | false=>simp
 | true =>
  simp only [if_true,Option.bind_some,Sum.elim_inr,Bool.true_and]
  match s with
  | []=>rfl
  | [c] =>
   by_cases hc:c=48<;>simp [hc]
  | c::d::r =>
   have h1:(1:Int)<=(((c::d::r).length:Nat):Int):=by simp only [List.length_cons];omega
   have h2 : ¬ (((c::d::r).length:Nat):Int)=1:=by simp only [List.length_cons];omega
   have h3:=leI (c::d::r).length 9
   rw [show ((9:Nat):Int)=(9:Int) from rfl] at h3
   have i0:=q1h (s:=c::d::r) (j:=0) (by simp)
   rw [zI] at i0
   have h4:1<=(c::d::r).length:=by simp only [List.length_cons];omega
   simp only [h1,h2,h3,h4,decide_true,decide_false,cond_true,cond_false,i0,Option.bind_some,List.getElem_cons_zero,List.head?_cons,Option.some.injEq,Bool.true_and,c48]
   cases decide ((c::d::r).length<=9) with
   | false=>rfl
   | true=>simp
theorem qiv (n:Nat) (s:Yy) (hL:s.length<=100001) (hn:200000<n):q6b n s=some (q8y s):=by
 have e1:q0d n s (46:Int)=some (spl 46 [] s):=by
  rw [show (46:Int)=(((46:UInt8).toNat:Nat):Int) from rfl,q36 n s 46 (by omega) (by omega)]
 have hw : ∀w∈spl 46 [] s,w.length<=s.length:=fun w hm=>by have:=q4l 46 s [] w hm;simpa using this
 unfold q6b
 show ((q0d n s (46:Int)).bind fun r1=>(bif decide ((r1.length:Int)=(2:Int)) then (q0f r1 (0:Int)).bind fun x2=>(q3c n x2).bind fun r3=>(bif r3 then (q0f r1 (1:Int)).bind fun x4=>(q3c n x4).bind fun r5=>some r5 else some false) else some false))=_
 rw [e1,Option.bind_some]
 by_cases hm:(46:UInt8)∈s
 ·obtain ⟨a,b,hs,ha⟩:=List.eq_append_cons_of_mem hm
  have hc:=qlv 46 a b ha
  have es:spl 46 [] s=a::spl 46 [] b:=by rw [hs,qdy 46 a b ha]
  rw [es] at hw ⊢
  have el:q8y s=(q4e a&&q4e b):=by unfold q8y;rw [hs,hc.1,hc.2]
  rw [el]
  by_cases hb:(46:UInt8)∈b
  ·obtain ⟨a2,b2,hs2,ha2⟩:=List.eq_append_cons_of_mem hb
   have es2:spl 46 [] b=a2::spl 46 [] b2:=by rw [hs2,qdy 46 a2 b2 ha2]
   have hne:=qtt 46 b2 []
   have hl : ¬ ((((a::spl 46 [] b).length:Nat):Int)=2):=by
    rw [es2]
    cases h:spl 46 [] b2 with
    | nil=>exact absurd h hne
    | cons x r=>simp only [List.length_cons];omega
   have hnb:q4e b=false:=by
    cases h:q4e b with
    | false=>rfl
    | true=>exact absurd ((qqp h).1 46 hb) (by decide)
   rw [decide_eq_false hl,cond_false,hnb,Bool.and_false]
  ·rw [q6x 46 b hb] at hw ⊢
   have i0:q0f [a,b] (0:Int)=some a:=rfl
   have i1:q0f [a,b] (1:Int)=some b:=rfl
   have wa:=hw a (by simp)
   have wb:=hw b (by simp)
   rw [show decide ((([a,b].length:Nat):Int)=2)=true from rfl,cond_true,i0,Option.bind_some,qb4 n a (by omega) (by omega),Option.bind_some]
   cases q4e a with
   | false=>rfl
   | true=>rw [cond_true,i1,Option.bind_some,qb4 n b (by omega) (by omega)];rfl
 ·rw [q6x 46 s hm]
  have:q5e 46 s = []:=by unfold q5e;rw [if_pos (q5d 46 s hm)]
  unfold q8y
  rw [this,show q4e []=false from rfl,Bool.and_false]
  rfl
theorem qjp (n:Nat) (l:List Rq) (b:Bool) (r:Rq) (hL:l.length<=1000000) : ∀m j:Nat,j<=l.length->l.length - j<m->q67 n m l b (j:Int) r.1 r.2.1 r.2.2.1 r.2.2.2.1 r.2.2.2.2.1 r.2.2.2.2.2=some (if (l.drop j).any (fun q=>if b then decide (q=r) else decide (q.1=r.1))=true then Sum.inl ((true,()),((),())) else Sum.inr ((),((),())))
 | 0,j,_,h=>absurd h (Nat.not_lt_zero _)
 | m+1,j,hj,h=>by
  rw [qfn]
  unfold ql7
  by_cases c0:j<l.length
  ·have c0':((j:Nat):Int)<((l.length:Nat):Int):=by omega
   have ih:=qjp n l b r hL m (j+1) (by omega) (by omega)
   rw [List.drop_eq_getElem_cons c0,List.any_cons]
   have e:=qyi l[j] r
   rw [Bool.and_true] at e
   simp only [c0',decide_true,cond_true,q0l c0,Option.bind_some,q00,q05 (show j<4611686018427387904 by omega)]
   by_cases h1:l[j].1=r.1
   ·rw [decide_eq_true h1,Bool.true_and] at e
    rw [decide_eq_true h1,cond_true]
    cases b with
    | false=>rfl
    | true =>
     simp only [Bool.not_true,cond_false,e,if_true]
     by_cases h2:l[j]=r
     ·simp [h2]
     ·simp only [decide_eq_false h2,cond_false,Bool.false_or];exact ih
   ·have h2 : ¬ l[j]=r:=fun hh=>h1 (by rw [hh])
    rw [decide_eq_false h1,cond_false,decide_eq_false h2]
    cases b<;>exact ih
  ·have c0' : ¬ ((j:Nat):Int)<((l.length:Nat):Int):=by omega
   simp only [c0',decide_false,cond_false]
   rw [List.drop_eq_nil_of_le (by omega)]
   rfl
theorem qi2 (n:Nat) (l:List Rq) (b:Bool) (r:Rq) (hL:l.length<=1000000) (hn:1000000<n):q7h n l r b=some (l.any fun q=>if b then decide (q=r) else decide (q.1=r.1)):=by
 unfold q7h
 have h:=qjp n l b r hL n 0 (Nat.zero_le _) (by omega)
 rw [zI,List.drop_zero] at h
 rw [h]
 cases l.any fun q=>if b then decide (q=r) else decide (q.1=r.1)<;>rfl
theorem qlz (n:Nat) (w x:Lx.Wd) (r:List Lx.Wd) (hw:w.1.length<=100001) (hx:x.1.length<=100001) (hn:200000<n):qhk n (w::x::r)=some (match qeb w.1 x.1 with | .inl e=>(q0,e) | .inr q=>(q,0)):=by
 unfold qhk qeb
 simp only [j6r,jn2,Option.bind_some,qaw n x.1 (show 2000<=n by omega),q7s n w.1 (show _<=1000000 by omega) (show 2000<=n by omega)]
 cases okS w.1 with
 | false=>rfl
 | true =>
  simp only [Bool.not_true,cond_false,Bool.true_eq_false,if_false]
  cases h2:(q09 x.1).2 with
  | false=>simp [q0,v0]
  | true =>
   simp only [Bool.not_true,cond_false,Bool.true_eq_false,if_false,j61 n w.1 (q09 x.1).1 (show _<=1000000 by omega) (show 2000<=n by omega),Option.bind_some]
   cases h3:q40 w.1 (q09 x.1).1 with
   | false=>simp [q0,v0]
   | true=>simp
set_option synthInstance.maxSize 100000
set_option synthInstance.maxHeartbeats 0
abbrev RSt:=Yy×(Yy×(List Rq×(List Sw×(List Rq×(List Sp×(Yy×(Int×(List Int×(List Int×List Int)))))))))
def rst (σ:MS) (ln:Int) (a l:List Int):RSt:=(σ.mo,(σ.go,(σ.rq,(σ.sw,(σ.ex,(σ.rt,(σ.bk,(ln,(a,([],l))))))))))
def RR (off:Int->Int) (M:Int) (σ:MS) (at_ ls:List Int):Prop:=at_.length=σ.rq.length/\ls.length=σ.rq.length/\∀(i:Nat) (q:Rq),σ.rq[i]? = some q->∃ a l,at_[i]? = some a/\ls[i]? = some l/\(0<=a/\a<=100001)/\(0<=l/\l<=M) /\
 q02 clT (q0x,(q.1,v0)) σ.sd=some (off l+a,off l+a+(((q0b q.2).length:Nat):Int))
def RL (off:Int->Int) (M ln:Int) (x:Option (RSt×Int)):Int⊕MS->Prop
 | .inl e=>∃ S,x=some (S,e)
 | .inr σ'=>∃ a l,x=some (rst σ' ln a l,0)/\RR off M σ' a l
theorem RR.other {off:Int->Int} {M:Int} {σ σ':MS} {a l:List Int} (h:RR off M σ a l) (hr:σ'.rq=σ.rq) (hs : ∀p,q02 clT (q0x,(p,v0)) σ'.sd=q02 clT (q0x,(p,v0)) σ.sd):RR off M σ' a l:=by
 obtain ⟨h1,h2,h3⟩:=h
 refine ⟨by rw [hr];exact h1,by rw [hr];exact h2,fun i q hq=>?_⟩
 rw [hr] at hq
 obtain ⟨x,y,g1,g2,g3,g4,g5⟩:=h3 i q hq
 exact ⟨x,y,g1,g2,g3,g4,by rw [hs];exact g5⟩
theorem q9m {σ:MS} {c:Cl} {st:Int} {w:Lx.Wd} (h:q04 σ c=true):q0p σ c st w = .inl 11:=by
 unfold q04 at h
 unfold q0p
 rw [if_pos h]
theorem one_mod (n:Nat) (off:Int->Int) (M ln:Int) (σ:MS) (a l:List Int) (g:GoodM σ) (h:RR off M σ a l) (w:Lx.Wd) (hw:w.1.length<=100001) (hn:1000000<n) :
  RL off M ln (q8a n (rst σ ln a l) qae w.1) (q8w σ (off ln) qae [w]):=by
 obtain ⟨d1,d2,d3,d4,d5,d6,d7,d8,d9,d10⟩:=kd
 rw [show q8w σ (off ln) qae [w]=(if okS w.1=false then .inl 6 else q0p { σ with mo:=w.1 } (qae,([],v0)) (off ln) w) from rfl]
 unfold q8a
 simp only [decide_true,cond_true,q7s n w.1 (show _<=1000000 by omega) (show 2000<=n by omega),Option.bind_some]
 cases okS w.1 with
 | false=>exact ⟨_,rfl⟩
 | true =>
  simp only [Bool.not_true,cond_false,Bool.true_eq_false,if_false]
  by_cases hm:σ.mo = []
  ·have hc:q04 { σ with mo:=w.1 } (qae,([],v0))=false:=qcs g.mc (by simp [hm])
   rw [q84 hc]
   refine ⟨a,l,?_,h.other rfl (fun p=>q3x (fun e=>d2.symm (congrArg Prod.fst e)) _ _)⟩
   simp only [rst,hm,decide_true,Bool.not_true,cond_false]
  ·have hc:q04 { σ with mo:=w.1 } (qae,([],v0))=true:=g.mc.2 hm
   rw [q9m hc]
   exact ⟨_,by simp only [rst,hm,decide_false,Bool.not_false,cond_true];rfl⟩
theorem jpk (n:Nat) (off:Int->Int) (M ln:Int) (σ:MS) (a l:List Int) (g:GoodM σ) (h:RR off M σ a l) (w:Lx.Wd) (hw:w.1.length<=100001) (hn:1000000<n) :
  RL off M ln (q8a n (rst σ ln a l) kGo w.1) (q8w σ (off ln) kGo [w]):=by
 obtain ⟨d1,d2,d3,d4,d5,d6,d7,d8,d9,d10⟩:=kd
 rw [show q8w σ (off ln) kGo [w]=(if q8y w.1=false then .inl 7 else q0p { σ with go:=w.1 } (kGo,([],v0)) (off ln) w) from rfl]
 unfold q8a
 simp only [decide_eq_false d1.symm,cond_false,qiv n w.1 hw (by omega),Option.bind_some]
 cases q8y w.1 with
 | false=>exact ⟨_,rfl⟩
 | true =>
  simp only [Bool.not_true,cond_false,Bool.true_eq_false,if_false]
  by_cases hm:σ.go = []
  ·have hc:q04 { σ with go:=w.1 } (kGo,([],v0))=false:=qcs g.gk (by simp [hm])
   rw [q84 hc]
   refine ⟨a,l,?_,h.other rfl (fun p=>q3x (fun e=>d5.symm (congrArg Prod.fst e)) _ _)⟩
   simp only [rst,hm,decide_true,Bool.not_true,cond_false]
  ·have hc:q04 { σ with go:=w.1 } (kGo,([],v0))=true:=g.gk.2 hm
   rw [q9m hc]
   exact ⟨_,by simp only [rst,hm,decide_false,Bool.not_false,cond_true];rfl⟩
theorem j07 (l:List Rq) (p:Yy):(l.any fun q=>decide (q.1=p))=true↔p∈l.map Prod.fst:=by
 rw [List.any_eq_true,List.mem_map]
 simp
theorem any_eq (l:List Rq) (r:Rq):(l.any fun q=>decide (q=r))=true↔r∈l:=by
 rw [List.any_eq_true]
 simp
theorem jmr (n:Nat) (off:Int->Int) (M ln:Int) (σ:MS) (a l:List Int) (g:GoodM σ) (h:RR off M σ a l) (w x:Lx.Wd) (hw:w.1.length<=100001) (hx:x.1.length<=100001/\0<=x.2/\x.2<=100001) (hb:SB 200000 σ) (hln:0<=ln/\ln<=M) (hn:1000000<n) :
  RL off M ln (q81 n (rst σ ln a l) q0x [w,x]) (q8w σ (off ln) q0x [w,x]):=by
 rw [show q8w σ (off ln) q0x [w,x]=(match qeb w.1 x.1 with
   | .inl e=>.inl e
   | .inr q=>q0p { σ with rq:=σ.rq ++ [q] } (q0x,(q.1,v0)) (off ln) x) from rfl]
 unfold q81
 simp only [qlz n w x [] hw hx.1 (by omega),Option.bind_some]
 cases hr:qeb w.1 x.1 with
 | inl e =>
  have:=qqy hr
  exact ⟨_,by simp only [this,decide_false,Bool.not_false,cond_true];rfl⟩
 | inr q =>
  obtain ⟨q1,q2,q3⟩:=qpv hr
  simp only [decide_true,Bool.not_true,cond_false,show decide (q0x=q8s)=false from by decide]
  have hrl:σ.rq.length<=200000:=hb.1
  have hH:q7h n (rst σ ln a l).2.2.1 q false=some (σ.rq.any fun y=>decide (y.1=q.1)):=qi2 n σ.rq false q (by omega) (by omega)
  rw [hH,Option.bind_some]
  by_cases hm:q.1∈σ.rq.map Prod.fst
  ·have hc:q04 { σ with rq:=σ.rq ++ [q] } (q0x,(q.1,v0))=true:=(g.rk q.1).2 hm
   rw [q9m hc,(j07 σ.rq q.1).2 hm]
   exact ⟨_,rfl⟩
  ·have hc:q04 { σ with rq:=σ.rq ++ [q] } (q0x,(q.1,v0))=false:=qcs (g.rk q.1) hm
   have hany:(σ.rq.any fun y=>decide (y.1=q.1))=false:=by
    cases hh:(σ.rq.any fun y=>decide (y.1=q.1)) with
    | false=>rfl
    | true=>exact absurd ((j07 _ _).1 hh) hm
   obtain ⟨h1,h2,h3⟩:=h
   have a1:q1t 72 ([]:List Rq) σ.rq=some σ.rq:=q1s (by simp;omega)
   have a2:q1t 72 σ.rq [q]=some (σ.rq ++ [q]):=q1s (by simp;omega)
   have a3:q1t 8 ([]:List Int) a=some a:=q1s (by simp;omega)
   have a4:q1t 8 a [x.2]=some (a ++ [x.2]):=q1s (by simp;omega)
   have a5:q1t 8 ([]:List Int) l=some l:=q1s (by simp;omega)
   have a6:q1t 8 l [ln]=some (l ++ [ln]):=q1s (by simp;omega)
   rw [q84 hc,hany]
   refine ⟨a ++ [x.2],l ++ [ln],?_,by simp [h1],by simp [h2],fun i y hy=>?_⟩
   ·simp only [rst,cond_false,a1,a2,a3,a4,a5,a6,jn2,Option.bind_some]
   ·replace hy:(σ.rq ++ [q])[i]? = some y:=hy
    show ∃ a' l',(a ++ [x.2])[i]? = some a'/\(l ++ [ln])[i]? = some l'/\_/\_/\q02 clT (q0x,(y.1,v0)) (q1q clT (q0x,(q.1,v0)) (ps (off ln) x) σ.sd)=_
    by_cases hi:i<σ.rq.length
    ·rw [List.getElem?_append_left hi] at hy
     obtain ⟨x1,y1,g1,g2,g3,g4,g5⟩:=h3 i y hy
     have hne:y.1≠q.1:=fun e=>hm (List.mem_map.2 ⟨y,List.mem_of_getElem? hy,e⟩)
     exact ⟨x1,y1,by rw [List.getElem?_append_left (by omega)];exact g1,by rw [List.getElem?_append_left (by omega)];exact g2,g3,g4,by rw [q3x (fun e=>hne (by simpa using e))];exact g5⟩
    ·have hie:i=σ.rq.length:=by
      have:=(List.getElem?_eq_some_iff.1 hy).1
      simp at this;omega
     subst hie
     rw [List.getElem?_concat_length] at hy
     cases hy
     refine ⟨x.2,ln,by rw [<-h1,List.getElem?_concat_length],by rw [<-h2,List.getElem?_concat_length],⟨hx.2.1,hx.2.2⟩,hln,?_⟩
     rw [qj2,ps,q3]
theorem jka (n:Nat) (off:Int->Int) (M ln:Int) (σ:MS) (a l:List Int) (g:GoodM σ) (h:RR off M σ a l) (w x:Lx.Wd) (hw:w.1.length<=100001) (hx:x.1.length<=100001) (hb:SB 200000 σ) (hn:1000000<n) :
  RL off M ln (q81 n (rst σ ln a l) q8s [w,x]) (q8w σ (off ln) q8s [w,x]):=by
 obtain ⟨d1,d2,d3,d4,d5,d6,d7,d8,d9,d10⟩:=kd
 rw [show q8w σ (off ln) q8s [w,x]=(match qeb w.1 x.1 with
   | .inl e=>.inl e
   | .inr q=>q0p { σ with ex:=σ.ex ++ [q] } (q8s,(q.1,q.2)) (off ln) x) from rfl]
 unfold q81
 simp only [qlz n w x [] hw hx (by omega),Option.bind_some]
 cases hr:qeb w.1 x.1 with
 | inl e =>
  have:=qqy hr
  exact ⟨_,by simp only [this,decide_false,Bool.not_false,cond_true];rfl⟩
 | inr q =>
  simp only [decide_true,Bool.not_true,cond_false,cond_true]
  have hrl:σ.ex.length<=200000:=hb.2.2.1
  have hH:q7h n (rst σ ln a l).2.2.2.2.1 q true=some (σ.ex.any fun y=>decide (y=q)):=qi2 n σ.ex true q (by omega) (by omega)
  rw [hH,Option.bind_some]
  by_cases hm:q∈σ.ex
  ·have hc:q04 { σ with ex:=σ.ex ++ [q] } (q8s,(q.1,q.2))=true:=(g.ek q).2 hm
   rw [q9m hc,(any_eq σ.ex q).2 hm]
   exact ⟨_,rfl⟩
  ·have hc:q04 { σ with ex:=σ.ex ++ [q] } (q8s,(q.1,q.2))=false:=qcs (g.ek q) hm
   have hany:(σ.ex.any fun y=>decide (y=q))=false:=by
    cases hh:(σ.ex.any fun y=>decide (y=q)) with
    | false=>rfl
    | true=>exact absurd ((any_eq _ _).1 hh) hm
   have a1:q1t 72 ([]:List Rq) σ.ex=some σ.ex:=q1s (by simp;omega)
   have a2:q1t 72 σ.ex [q]=some (σ.ex ++ [q]):=q1s (by simp;omega)
   rw [q84 hc,hany]
   refine ⟨a,l,?_,h.other rfl (fun p=>q3x (fun e=>d8 (congrArg Prod.fst e)) _ _)⟩
   simp only [rst,cond_false,a1,a2,Option.bind_some]
theorem q3e (n:Nat) (a b:Int):q3j n a b=some (q8l a b):=by
 unfold q3j q8l
 by_cases h1:a<b
 ·simp [h1]
 ·by_cases h2:b<a
  ·simp [h1,h2]
  ·simp [h1,h2]
theorem job (a b:Yy):(bif ltS a b then some (-1:Int) else (bif !(ltS a b||decide (a=b)) then some (1:Int) else some (0:Int)))=some (cmpL j8v a b):=by
 unfold ltS
 rw [qe0]
 have hr:=(qdf qhs).rng a b
 have hz:cmpL j8v a b=0↔a=b:=(qdf qhs).zero
 by_cases h1:cmpL j8v a b<0
 ·have:cmpL j8v a b = -1:=by omega
  simp [h1,this]
 ·by_cases h2:a=b
  ·have:=hz.2 h2
   simp [h1,h2,(qdf qhs).refl b]
  ·have:cmpL j8v a b=1:=by
    have : ¬ cmpL j8v a b=0:=fun e=>h2 (hz.1 e)
    omega
   simp [h2,this]
theorem qzd (n:Nat) (a b:Yy) (ha:a.length<=1000000) (hb:b.length<=1000000) (hn:a.length<n/\b.length<n):qc6 n a b=some (jd1 a b):=by
 unfold qc6 jd1 jj5
 rw [q6d n a ha hn.1,q6d n b hb hn.2]
 simp only [Option.bind_some,job,q3e]
 cases q29 a with
 | false=>cases q29 b with
  | false =>
   simp only [cond_false,Bool.false_eq_true,if_false]
   unfold qea q8l or2
   simp
  | true =>
   simp only [cond_false,cond_true,Bool.not_false,Bool.false_eq_true,if_false,if_true]
   unfold qea q8l or2
   simp
 | true=>cases q29 b with
  | false =>
   simp only [cond_false,cond_true,Bool.not_false,Bool.false_eq_true,if_false,if_true]
   unfold qea q8l or2
   simp
  | true =>
   simp only [cond_true,cond_false,Bool.not_true,if_true]
   unfold qea
   have e0:q8l (0:Int) 0=0:=by decide
   dsimp only
   rw [e0]
   unfold or2
   simp only [if_true]
   by_cases hl:((a.length:Nat):Int)=((b.length:Nat):Int)
   ·have:q8l ((a.length:Nat):Int) ((b.length:Nat):Int)=0:=by rw [hl];exact q7x.refl _
    simp only [hl,decide_true,Bool.not_true,cond_false]
    rw [hl] at this
    rw [this];rfl
   ·have : ¬ q8l ((a.length:Nat):Int) ((b.length:Nat):Int)=0:=fun e=>hl (q7x.eq _ _ e)
    simp only [hl,decide_false,Bool.not_false,cond_true,this,if_false]
theorem qot (n:Nat) (l1 l2:List Yy) (h1:l1.length<=1000000) (h2:l2.length<=1000000) (hw : ∀w,w∈l1\/w∈l2->w.length<=1000000/\w.length<n) : ∀m j:Nat,j<=l1.length->j<=l2.length->l1.length - j<m ->
  ((qa7 n m l1 l2 (j:Int)).bind fun (o16:((Int×Unit)×Unit×Unit)⊕(((List Yy)×((List Yy)×Unit))×Unit×Unit))=>Sum.elim (fun (q17:(Int×Unit)×Unit×Unit)=>some q17.1.1) (fun (q18:((List Yy)×((List Yy)×Unit))×Unit×Unit)=>(q3j n ((List.length q18.1.1:Nat):Int) ((List.length q18.1.2.1:Nat):Int)).bind fun (r19:Int)=>some r19) o16)=some (cmpL jd1 (l1.drop j) (l2.drop j))
 | 0,j,_,_,h=>absurd h (Nat.not_lt_zero _)
 | m+1,j,hj,hj2,h=>by
  rw [qkm]
  unfold qyc
  by_cases c0:j<l1.length
  ·have c0':((j:Nat):Int)<((l1.length:Nat):Int):=by omega
   have hd:l1.drop j=l1[j]::l1.drop (j+1):=(List.drop_eq_getElem_cons c0)
   by_cases c1:j<l2.length
   ·have c1':((j:Nat):Int)<((l2.length:Nat):Int):=by omega
    have hd2:l2.drop j=l2[j]::l2.drop (j+1):=(List.drop_eq_getElem_cons c1)
    have ih:=qot n l1 l2 h1 h2 hw m (j+1) (by omega) (by omega) (by omega)
    have k1:=hw l1[j] (Or.inl (List.getElem_mem c0))
    have k2:=hw l2[j] (Or.inr (List.getElem_mem c1))
    have hp:=qzd n l1[j] l2[j] k1.1 k2.1 ⟨k1.2,k2.2⟩
    rw [hd,hd2,cmpL]
    simp only [c0',decide_true,cond_true,q0l c0,Option.bind_some,c1',q0l c1,hp,q00,q05 (show j<4611686018427387904 by omega)]
    unfold or2
    by_cases h0:jd1 l1[j] l2[j]=0
    ·simp only [h0,decide_true,Bool.not_true,cond_false,if_true]
     exact ih
    ·simp only [h0,decide_false,Bool.not_false,cond_true,if_false,Option.bind_some,Sum.elim_inl]
   ·have c1' : ¬ ((j:Nat):Int)<((l2.length:Nat):Int):=by omega
    have hd2:l2.drop j = []:=List.drop_eq_nil_of_le (by omega)
    have c3:q8l ((l1.length:Nat):Int) ((l2.length:Nat):Int)=1:=by unfold q8l;rw [if_neg (by omega),if_pos (by omega)]
    rw [hd,hd2,cmpL]
    simp only [c0',decide_true,cond_true,c1',decide_false,cond_false,Option.bind_some,Sum.elim_inr,q3e,c3]
  ·have c0' : ¬ ((j:Nat):Int)<((l1.length:Nat):Int):=by omega
   have hd:l1.drop j = []:=List.drop_eq_nil_of_le (by omega)
   simp only [c0',decide_false,cond_false,Option.bind_some,Sum.elim_inr,q3e]
   rw [hd]
   by_cases c1:j<l2.length
   ·have hd2:l2.drop j=l2[j]::l2.drop (j+1):=(List.drop_eq_getElem_cons c1)
    have c3:q8l ((l1.length:Nat):Int) ((l2.length:Nat):Int) = -1:=by unfold q8l;rw [if_pos (by omega)]
    rw [hd2,c3]
    rfl
   ·have hd2:l2.drop j = []:=List.drop_eq_nil_of_le (by omega)
    have c3:q8l ((l1.length:Nat):Int) ((l2.length:Nat):Int)=0:=by unfold q8l;rw [if_neg (by omega),if_neg (by omega)]
    rw [hd2,c3]
    rfl
theorem j9q (n:Nat) (a b:Yy) (ha:a.length<=100000) (hb:b.length<=100000) (hn:a.length+3<n/\b.length+3<n):j0f n a b=some (qa1 a b):=by
 unfold j0f q94
 by_cases h1:a = []
 ·by_cases h2:b = []
  ·simp only [h1,h2,decide_true,cond_true,Option.bind_some,q3e]
   rfl
  ·simp only [h1,h2,decide_true,decide_false,cond_true,cond_false,Option.bind_some,q3e]
   unfold qa1 qea j98 q8l or2
   simp [h2]
 ·by_cases h2:b = []
  ·simp only [h1,h2,decide_true,decide_false,cond_true,cond_false,Option.bind_some,q3e]
   unfold qa1 qea j98 q8l or2
   simp [h1]
  ·simp only [h1,h2,decide_false,cond_false]
   have s1:q0d n a (46:Int)=some (spl 46 [] a):=q36 n a 46 (by omega) (by omega)
   have s2:q0d n b (46:Int)=some (spl 46 [] b):=q36 n b 46 (by omega) (by omega)
   have k1:=q45 46 a []
   have k2:=q45 46 b []
   rw [s1,s2]
   simp only [Option.bind_some]
   have h:=qot n (spl 46 [] a) (spl 46 [] b) (by omega) (by omega) (fun w hw=>by
     rcases hw with hw|hw
     ·have:=q4l 46 a [] w hw;simp at this;omega
     ·have:=q4l 46 b [] w hw;simp at this;omega) n 0 (Nat.zero_le _) (Nat.zero_le _) (by omega)
   rw [show ((0:Nat):Int)=(0:Int) from rfl,List.drop_zero,List.drop_zero] at h
   rw [h]
   unfold qa1 j98
   simp only [h1,h2,if_false]
   unfold qea
   have e0:q8l (0:Int) 0=0:=by decide
   dsimp only
   rw [e0]
   unfold or2
   simp
theorem qr6 (n:Nat) (a b:VD) (hn:100<=n):q59 n a b=some (j41 a b):=by
 unfold q59 j41
 rw [q7d n a hn,q7d n b hn]
 cases hca:q0r a with
 | false=>rfl
 | true=>cases hcb:q0r b with
  | false=>rfl
  | true =>
   obtain ⟨-,-,-,h4,-⟩:=q1a hca
   obtain ⟨-,-,-,k4,-⟩:=q1a hcb
   have t1:=q4a h4
   have t2:=q4a k4
   simp only [Option.bind_some,Bool.not_true,cond_false,q3e]
   rw [j9q n _ _ (by omega) (by omega) ⟨by omega,by omega⟩]
   simp only [Option.bind_some,Bool.and_self,if_true]
   show _=some (or2 (q8l a.1 b.1) (or2 (q8l a.2.1 b.2.1) (or2 (q8l a.2.2.1 b.2.2.1) (qa1 a.2.2.2.1 b.2.2.2.1))))
   have z : ∀x y:Int,q8l x y=0↔x=y:=fun x y=>q7x.zero
   unfold or2
   simp only [z]
   by_cases e1:a.1=b.1
   ·by_cases e2:a.2.1=b.2.1
    ·by_cases e3:a.2.2.1=b.2.2.1<;>simp [e1,e2,e3]
    ·simp [e1,e2]
   ·simp [e1]
set_option synthInstance.maxSize 100000
set_option synthInstance.maxHeartbeats 0
theorem qtb (n:Nat) (ws:List Lx.Wd) (w:Lx.Wd) (r:List Lx.Wd) (hws:ws=w::r) (mo go:Yy) (rq:List Rq) (sw:List Sw) (ex:List Rq) (rt:List Sp) (bk:Yy) (ln:Int) (a e l:List Int) (z1 z2 z3:Yy) (z4:Int) (hL:sw.length<=1000000) : ∀m j:Nat,j<=sw.length->sw.length - j<m ->
  q3z n m ws (j:Int) mo go rq sw ex rt bk ln a e l z1 z2 z3 z4=some (if (sw.drop j).any (fun q=>decide (q.1=w.1))=true then Sum.inl (((),(11,())),(((mo,(go,(rq,(sw,(ex,(rt,(bk,(ln,(a,(e,l)))))))))),()),()))
   else Sum.inr (((ws,((),((),()))),(((mo,(go,(rq,(sw,(ex,(rt,(bk,(ln,(a,(e,l)))))))))),((z1,(z2,((),((),((),((),(z3,(z4,((),((),())))))))))),())),()))))
 | 0,j,_,h=>absurd h (Nat.not_lt_zero _)
 | m+1,j,hj,h=>by
  rw [qd8]
  unfold qez
  by_cases c0:j<sw.length
  ·have c0':((j:Nat):Int)<((sw.length:Nat):Int):=by omega
   have ih:=qtb n ws w r hws mo go rq sw ex rt bk ln a e l z1 z2 z3 z4 hL m (j+1) (by omega) (by omega)
   have i0:q0f ws (0:Int)=some w:=by rw [hws];exact j6r w r
   rw [List.drop_eq_getElem_cons c0,List.any_cons]
   simp only [c0',decide_true,cond_true,q0l c0,i0,Option.bind_some,q00,q05 (show j<4611686018427387904 by omega)]
   by_cases h1:sw[j].1=w.1
   ·simp [h1]
   ·rw [decide_eq_false h1,cond_false,Bool.false_or];exact ih
  ·have c0' : ¬ ((j:Nat):Int)<((sw.length:Nat):Int):=by omega
   simp only [c0',decide_false,cond_false]
   rw [List.drop_eq_nil_of_le (by omega)]
   rfl
theorem jj3 (l:List Sw) (p:Yy):(l.any fun q=>decide (q.1=p))=true↔p∈l.map Prod.fst:=by
 rw [List.any_eq_true,List.mem_map]
 simp
theorem jjj (n:Nat) (off:Int->Int) (M ln:Int) (σ:MS) (a l:List Int) (g:GoodM σ) (h:RR off M σ a l) (w b x:Lx.Wd) (hw:w.1.length<=100001) (hx:x.1.length<=100001) (hb:SB 200000 σ) (hn:1000000<n) :
  RL off M ln (q9f n (rst σ ln a l) [w,b,x]) (q8w σ (off ln) q63 [w,x]):=by
 obtain ⟨d1,d2,d3,d4,d5,d6,d7,d8,d9,d10⟩:=kd
 rw [show q8w σ (off ln) q63 [w,x]=(if okS w.1=false then .inl 6 else if q3a x.1=false then .inl 6 else q0p { σ with sw:=σ.sw ++ [(w.1,x.1)] } (q63,(w.1,v0)) (off ln) x) from rfl]
 unfold q9f
 have i2:q0f [w,b,x] (2:Int)=some x:=rfl
 simp only [j6r,i2,Option.bind_some,q7s n w.1 (show _<=1000000 by omega) (show 2000<=n by omega),qbq n x.1 (show _<=1000000 by omega) (show 100<=n by omega)]
 cases okS w.1 with
 | false=>exact ⟨_,rfl⟩
 | true =>
  simp only [Bool.not_true,cond_false,Bool.true_eq_false,if_false]
  cases q3a x.1 with
  | false=>exact ⟨_,rfl⟩
  | true =>
   simp only [Bool.not_true,cond_false,Bool.true_eq_false,if_false]
   have hsl:σ.sw.length<=200000:=hb.2.1
   have hlp:=qtb n [w,b,x] w [b,x] rfl σ.mo σ.go σ.rq σ.sw σ.ex σ.rt σ.bk ln a [] l [] [] [] 0 (by omega) n 0 (Nat.zero_le _) (by omega)
   rw [zI,List.drop_zero] at hlp
   rw [show q3z n n [w,b,x] 0 (rst σ ln a l).1 (rst σ ln a l).2.1 (rst σ ln a l).2.2.1 (rst σ ln a l).2.2.2.1 (rst σ ln a l).2.2.2.2.1 (rst σ ln a l).2.2.2.2.2.1 (rst σ ln a l).2.2.2.2.2.2.1 (rst σ ln a l).2.2.2.2.2.2.2.1 (rst σ ln a l).2.2.2.2.2.2.2.2.1 (rst σ ln a l).2.2.2.2.2.2.2.2.2.1 (rst σ ln a l).2.2.2.2.2.2.2.2.2.2 [] [] [] 0=_ from hlp]
   by_cases hm:w.1∈σ.sw.map Prod.fst
   ·have hc:q04 { σ with sw:=σ.sw ++ [(w.1,x.1)] } (q63,(w.1,v0))=true:=(g.sk w.1).2 hm
    rw [q9m hc,(jj3 σ.sw w.1).2 hm]
    exact ⟨_,rfl⟩
   ·have hc:q04 { σ with sw:=σ.sw ++ [(w.1,x.1)] } (q63,(w.1,v0))=false:=qcs (g.sk w.1) hm
    have hany:(σ.sw.any fun y=>decide (y.1=w.1))=false:=by
     cases hh:(σ.sw.any fun y=>decide (y.1=w.1)) with
     | false=>rfl
     | true=>exact absurd ((jj3 _ _).1 hh) hm
    have a1:q1t 32 ([]:List Sw) σ.sw=some σ.sw:=q1s (by simp;omega)
    have a2:q1t 32 σ.sw [(w.1,x.1)]=some (σ.sw ++ [(w.1,x.1)]):=q1s (by simp;omega)
    rw [q84 hc,hany]
    refine ⟨a,l,?_,h.other rfl (fun p=>q3x (fun e=>d9 (congrArg Prod.fst e)) _ _)⟩
    simp only [Bool.false_eq_true,if_false,Option.bind_some,Sum.elim_inr,a1,a2,j6r,i2,rst]
theorem j2i (n:Nat) (off:Int->Int) (M ln:Int) (σ:MS) (a l:List Int) (h:RR off M σ a l) (ws:List Lx.Wd) (x y:Lx.Wd) (r:List Lx.Wd) (hws:(ws = [x]/\y=x/\r = [])\/(∃ p q s,ws = [p,x,q,y,s]/\r = [y])) (hx:x.1.length<=100001) (hy:y.1.length<=100001) (hb:SB 200000 σ) (hn:1000000<n) :
  RL off M ln (q9e n (rst σ ln a l) ws) (q8w σ (off ln) qe9 (x::r)):=by
 have hgl:(r.getLast?.getD x).1=y.1:=by
  rcases hws with ⟨_,rfl,rfl⟩|⟨p,q,s,_,rfl⟩<;>rfl
 rw [show q8w σ (off ln) qe9 (x::r)=(if (q09 x.1).2=false then .inl 7 else if (q09 ((r.getLast?.getD x).1)).2=false then .inl 7
  else if 0<j41 (q09 x.1).1 (q09 ((r.getLast?.getD x).1)).1 then .inl 7 else .inr { σ with rt:=σ.rt ++ [j4h (q09 x.1).1 (q09 ((r.getLast?.getD x).1)).1] }) from rfl,hgl]
 have hrl:σ.rt.length<=200000:=hb.2.2.2
 have hgen:RL off M ln (bif !(q09 x.1).2 then some (rst σ ln a l,(7:Int)) else (bif !(q09 y.1).2 then some (rst σ ln a l,7) else (q59 n (q09 x.1).1 (q09 y.1).1).bind fun r5=>(bif decide (0<r5) then some (rst σ ln a l,7) else (q1t 112 ([]:List Sp) (rst σ ln a l).2.2.2.2.2.1).bind fun l6=>(q1t 112 l6 ([j4h (q09 x.1).1 (q09 y.1).1])).bind fun l7=>some (((rst σ ln a l).1,((rst σ ln a l).2.1,((rst σ ln a l).2.2.1,((rst σ ln a l).2.2.2.1,((rst σ ln a l).2.2.2.2.1,(l7,(rst σ ln a l).2.2.2.2.2.2)))))),0))))
   (if (q09 x.1).2=false then .inl 7 else if (q09 y.1).2=false then .inl 7 else if 0<j41 (q09 x.1).1 (q09 y.1).1 then .inl 7 else .inr { σ with rt:=σ.rt ++ [j4h (q09 x.1).1 (q09 y.1).1] }):=by
  rw [qr6 n _ _ (by omega)]
  cases (q09 x.1).2 with
  | false=>exact ⟨_,rfl⟩
  | true =>
   cases (q09 y.1).2 with
   | false=>exact ⟨_,rfl⟩
   | true =>
    simp only [Bool.not_true,cond_false,Bool.true_eq_false,if_false,Option.bind_some]
    by_cases hc:0<j41 (q09 x.1).1 (q09 y.1).1
    ·simp only [hc,decide_true,cond_true,if_true];exact ⟨_,rfl⟩
    ·have a1:q1t 112 ([]:List Sp) σ.rt=some σ.rt:=q1s (by simp;omega)
     have a2:q1t 112 σ.rt [j4h (q09 x.1).1 (q09 y.1).1]=some (σ.rt ++ [j4h (q09 x.1).1 (q09 y.1).1]):=q1s (by simp;omega)
     simp only [hc,decide_false,cond_false,if_false]
     refine ⟨a,l,?_,h.other rfl (fun p=>rfl)⟩
     simp only [rst,a1,a2,Option.bind_some]
 unfold q9e
 rcases hws with ⟨rfl,rfl,rfl⟩|⟨p,q,s,rfl,rfl⟩
 ·rw [show decide ((([y].length:Nat):Int)=5)=false from rfl,cond_false]
  simp only [j6r,Option.bind_some,qaw n y.1 (show 2000<=n by omega)]
  exact hgen
 ·have i1:q0f [p,x,q,y,s] (1:Int)=some x:=rfl
  have i3:q0f [p,x,q,y,s] (3:Int)=some y:=rfl
  rw [show decide ((([p,x,q,y,s].length:Nat):Int)=5)=true from rfl,cond_true]
  simp only [i1,i3,Option.bind_some,qaw n x.1 (show 2000<=n by omega),qaw n y.1 (show 2000<=n by omega)]
  exact hgen
theorem RL.some {off:Int->Int} {M ln:Int} {x:Option (RSt×Int)} {r:Int⊕MS} (h:RL off M ln x r) : ∃ y,x=some y:=by
 cases r with
 | inl e=>obtain ⟨S,e⟩:=h;exact ⟨_,e⟩
 | inr σ'=>obtain ⟨a,l,e,_⟩:=h;exact ⟨_,e⟩
theorem ja8 {ws:List Lx.Wd} (h:tk1 ws=true) : ∃ a,ws = [a]/\q2y a.1=false:=by
 match ws,h with
 | [a],h=>exact ⟨a,rfl,by simpa [tk1] using h⟩
theorem jd6 {ws:List Lx.Wd} (h:tk2 ws=true) : ∃ a b,ws = [a,b]/\q2y a.1=false/\q2y b.1=false:=by
 match ws,h with
 | [a,b],h=>simp only [tk2,Bool.and_eq_true,Bool.not_eq_true'] at h;exact ⟨a,b,rfl,h.1,h.2⟩
theorem jpu {ws:List Lx.Wd} (h:tk3 ws=true) : ∃ a b c,ws = [a,b,c]/\q2y a.1=false/\q2y b.1=true/\q2y c.1=false:=by
 match ws,h with
 | [a,b,c],h =>
  simp only [tk3,Bool.and_eq_true,Bool.not_eq_true',decide_eq_true_eq] at h
  exact ⟨a,b,c,rfl,h.1,by rw [h.2.1];decide,h.2.2⟩
theorem jor {ws:List Lx.Wd} (h:tk5 ws=true) : ∃ a b c d e,ws = [a,b,c,d,e]/\q2y a.1=true/\q2y b.1=false/\q2y c.1=true/\q2y d.1=false/\q2y e.1=true:=by
 match ws,h with
 | [a,b,c,d,e],h =>
  simp only [tk5,Bool.and_eq_true,Bool.not_eq_true',decide_eq_true_eq] at h
  exact ⟨a,b,c,d,e,rfl,by rw [h.1];decide,h.2.1,by rw [h.2.2.1];decide,h.2.2.2.1,by rw [h.2.2.2.2];decide⟩
theorem j2m (n:Nat) (off:Int->Int) (M ln:Int) (σ:MS) (a l:List Int) (g:GoodM σ) (h:RR off M σ a l) (v:Yy) (ws:List Lx.Wd) (hws:WB ws) (hb:SB 200000 σ) (hln:0<=ln/\ln<=M) (hn:1000000<n) :
  RL off M ln (q1f n (rst σ ln a l) v ws) (q53 σ (off ln) v ws):=by
 obtain ⟨d1,d2,d3,d4,d5,d6,d7,d8,d9,d10⟩:=kd
 have hsh:=j2s v ws
 unfold q1f q53
 dsimp only
 rw [qw9 n v ws hws.1 (by omega),Option.bind_some]
 cases hf:fS v ws with
 | false =>
  rw [hf] at hsh
  rw [if_neg (of_decide_eq_false hsh)]
  exact ⟨_,rfl⟩
 | true =>
  rw [hf] at hsh
  rw [if_pos (of_decide_eq_true hsh),Bool.not_true,cond_false]
  by_cases h1:v=qae
  ·subst h1
   obtain ⟨w,rfl,m1⟩:=ja8 (ws:=ws) hf
   have hu:unm [w] = [w]:=by simp [unm,m1]
   have hq:=one_mod n off M ln σ a l g h w hws.head.1 hn
   rw [hu]
   simp only [decide_true,cond_true,j6r,Option.bind_some]
   obtain ⟨y,hy⟩:=hq.some
   rw [hy] at hq ⊢
   exact hq
  by_cases h2:v=kGo
  ·subst h2
   obtain ⟨w,rfl,m1⟩:=ja8 (ws:=ws) hf
   have hu:unm [w] = [w]:=by simp [unm,m1]
   have hq:=jpk n off M ln σ a l g h w hws.head.1 hn
   rw [hu]
   simp only [decide_eq_false h1,cond_false,decide_true,cond_true,j6r,Option.bind_some]
   obtain ⟨y,hy⟩:=hq.some
   rw [hy] at hq ⊢
   exact hq
  by_cases h3:v=q0x
  ·subst h3
   obtain ⟨w,x,rfl,m1,m2⟩:=jd6 (ws:=ws) hf
   have hu:unm [w,x] = [w,x]:=by simp [unm,m1,m2]
   have hq:=jmr n off M ln σ a l g h w x hws.head.1 hws.tail.head hb hln hn
   rw [hu]
   simp only [decide_eq_false h1,decide_eq_false h2,cond_false,decide_true,cond_true]
   obtain ⟨y,hy⟩:=hq.some
   rw [hy] at hq ⊢
   exact hq
  by_cases h4:v=q8s
  ·subst h4
   obtain ⟨w,x,rfl,m1,m2⟩:=jd6 (ws:=ws) hf
   have hu:unm [w,x] = [w,x]:=by simp [unm,m1,m2]
   have hq:=jka n off M ln σ a l g h w x hws.head.1 hws.tail.head.1 hb hn
   rw [hu]
   simp only [decide_eq_false h1,decide_eq_false h2,decide_eq_false h3,cond_false,decide_true,cond_true]
   obtain ⟨y,hy⟩:=hq.some
   rw [hy] at hq ⊢
   exact hq
  by_cases h5:v=q63
  ·subst h5
   obtain ⟨w,b,x,rfl,m1,m2,m3⟩:=jpu (ws:=ws) hf
   have hu:unm [w,b,x] = [w,x]:=by simp [unm,m1,m2,m3]
   have hq:=jjj n off M ln σ a l g h w b x hws.head.1 hws.tail.tail.head.1 hb hn
   rw [hu]
   simp only [decide_eq_false h1,decide_eq_false h2,decide_eq_false h3,decide_eq_false h4,cond_false,decide_true,cond_true]
   obtain ⟨y,hy⟩:=hq.some
   rw [hy] at hq ⊢
   exact hq
  have h6:v=qe9:=by
   by_cases h6:v=qe9
   ·exact h6
   ·simp only [fS,if_neg h1,if_neg h2,if_neg h3,if_neg h4,if_neg h5,if_neg h6] at hf
    cases hf
  subst h6
  simp only [decide_eq_false h1,decide_eq_false h2,decide_eq_false h3,decide_eq_false h4,decide_eq_false h5,cond_false]
  have hor:tk1 ws=true\/tk5 ws=true:=by
   have:(tk1 ws||tk5 ws)=true:=hf
   simpa using this
  rcases hor with hk|hk
  ·obtain ⟨w,rfl,m1⟩:=ja8 hk
   have hu:unm [w] = [w]:=by simp [unm,m1]
   have hq:=j2i n off M ln σ a l h [w] w w [] (.inl ⟨rfl,rfl,rfl⟩) hws.head.1 hws.head.1 hb hn
   rw [hu]
   obtain ⟨y,hy⟩:=hq.some
   rw [hy] at hq ⊢
   exact hq
  ·obtain ⟨p,x,q,y,s,rfl,m1,m2,m3,m4,m5⟩:=jor hk
   have hu:unm [p,x,q,y,s] = [x,y]:=by simp [unm,m1,m2,m3,m4,m5]
   have hq:=j2i n off M ln σ a l h [p,x,q,y,s] x y [y] (.inr ⟨p,q,s,rfl,rfl⟩) hws.tail.head.1 hws.tail.tail.tail.head.1 hb hn
   rw [hu]
   obtain ⟨y,hy⟩:=hq.some
   rw [hy] at hq ⊢
   exact hq
set_option synthInstance.maxSize 100000
set_option synthInstance.maxHeartbeats 0
theorem j17 {m:Yy} (hm:q2y m=true) (hs:spl 32 [] m = [m]) (hne:m ≠ []) (ws:List Lx.Wd):shp ws=m ↔ ∃ x,ws = [x]/\x.1=m:=by
 rw [qk0 hne hs (Lib.join_one _ _)]
 constructor
 ·intro h
  match ws,h with
  | [x],h=>exact ⟨x,rfl,(j5x x hm).1 (List.cons.inj h).1⟩
 ·rintro ⟨x,rfl,h⟩
  rw [List.map_cons,List.map_nil,(j5x x hm).2 h]
theorem jkg (ws:List Lx.Wd):shp ws = [40] ↔ ∃ x,ws = [x]/\x.1 = [40]:=j17 (by decide) (by decide) (by decide) ws
theorem jm1 (ws:List Lx.Wd):shp ws = [41] ↔ ∃ x,ws = [x]/\x.1 = [41]:=j17 (by decide) (by decide) (by decide) ws
theorem RR.bk {off:Int->Int} {M:Int} {σ:MS} {a l:List Int} (h:RR off M σ a l) (b:Yy):RR off M { σ with bk:=b } a l:=h.other rfl (fun p=>rfl)
theorem jel (n:Nat) (off:Int->Int) (M ln:Int) (σ:MS) (a l:List Int) (g:GoodM σ) (h:RR off M σ a l) (ws:List Lx.Wd) (hws:WB ws) (hb:SB 200000 σ) (hln:0<=ln/\ln<=M) (hn:1000000<n) :
  RL off M ln (qdn n (rst σ ln a l) ws) (q3l σ (off ln) ws):=by
 unfold qdn
 cases ws with
 | nil=>exact ⟨a,l,rfl,h⟩
 | cons w r =>
  have hwl:=hws.1
  have c0 : ¬ ((((w::r).length:Nat):Int)=0):=by simp only [List.length_cons];omega
  have hsub:q0w (w::r) (1:Int) (((w::r).length:Nat):Int)=some r:=by
   have:=sub_le (l:=w::r) (a:=1) (b:=(w::r).length) (by simp) (Nat.le_refl _)
   rw [show ((1:Nat):Int)=(1:Int) from rfl] at this
   rw [this];simp
  unfold q3l
  simp only [c0,decide_false,cond_false,j6r,hsub,Option.bind_some]
  by_cases hb0:σ.bk = []
  ·have e1:decide ((rst σ ln a l).2.2.2.2.2.2.1 = [])=true:=decide_eq_true hb0
   rw [e1,Bool.not_true,cond_false]
   simp only [if_pos hb0]
   have hst:=j2m n off M ln σ a l g h w.1 r hws.tail hb hln hn
   obtain ⟨y,hy⟩:=hst.some
   rw [hy] at hst ⊢
   by_cases hl:(((w::r).length:Nat):Int)=2
   ·rw [decide_eq_true hl,cond_true]
    obtain ⟨x,rfl⟩ : ∃ x,r = [x]:=len1 (by simp only [List.length_cons] at hl;omega)
    simp only [jn2,Option.bind_some]
    by_cases hx:x.1 = [40]
    ·rw [decide_eq_true hx,cond_true]
     have hs40:shp [x] = [40]:=(jkg _).2 ⟨x,rfl,hx⟩
     have hgo : ∀b,RL off M ln (some (((rst σ ln a l).1,((rst σ ln a l).2.1,((rst σ ln a l).2.2.1,((rst σ ln a l).2.2.2.1,((rst σ ln a l).2.2.2.2.1,((rst σ ln a l).2.2.2.2.2.1,(b,(rst σ ln a l).2.2.2.2.2.2.2))))))),(0:Int))) (.inr { σ with bk:=b }):=fun b=>⟨a,l,rfl,h.bk b⟩
     by_cases k1:w.1=q0x
     ·rw [decide_eq_true k1,cond_true,if_pos ⟨by rw [k1];decide,hs40⟩];exact hgo w.1
     rw [decide_eq_false k1,cond_false]
     by_cases k2:w.1=q8s
     ·rw [decide_eq_true k2,cond_true,if_pos ⟨by rw [k2];decide,hs40⟩];exact hgo w.1
     rw [decide_eq_false k2,cond_false]
     by_cases k3:w.1=q63
     ·rw [decide_eq_true k3,cond_true,if_pos ⟨by rw [k3];decide,hs40⟩];exact hgo w.1
     rw [decide_eq_false k3,cond_false]
     by_cases k4:w.1=qe9
     ·rw [decide_eq_true k4,cond_true,if_pos ⟨by rw [k4];decide,hs40⟩];exact hgo w.1
     rw [decide_eq_false k4,cond_false]
     have hnb:q69 w.1=false:=by simp only [q69,decide_eq_false k1,decide_eq_false k2,decide_eq_false k3,decide_eq_false k4,Bool.or_self]
     rw [if_neg (fun hh=>by rw [hnb] at hh;cases hh.1)]
     exact hst
    ·rw [decide_eq_false hx,cond_false,if_neg (fun hh=>by obtain ⟨x',e,hx'⟩:=(jkg _).1 hh.2;cases e;exact hx hx')]
     exact hst
   ·rw [decide_eq_false hl,cond_false,if_neg (fun hh=>by obtain ⟨x',e,hx'⟩:=(jkg _).1 hh.2;rw [e] at hl;exact hl rfl)]
    exact hst
  ·have e1:decide ((rst σ ln a l).2.2.2.2.2.2.1 = [])=false:=decide_eq_false hb0
   rw [e1,Bool.not_false,cond_true]
   simp only [if_neg hb0]
   have hst:=j2m n off M ln σ a l g h σ.bk (w::r) hws hb hln hn
   obtain ⟨y,hy⟩:=hst.some
   rw [show (rst σ ln a l).2.2.2.2.2.2.1=σ.bk from rfl,hy]
   rw [hy] at hst
   by_cases hl:(((w::r).length:Nat):Int)=1
   ·rw [decide_eq_true hl,cond_true]
    obtain rfl:r = []:=by
     cases r with
     | nil=>rfl
     | cons=>simp only [List.length_cons] at hl;omega
    by_cases hx:w.1 = [41]
    ·rw [decide_eq_true hx,cond_true,if_pos ((jm1 _).2 ⟨w,rfl,hx⟩)]
     exact ⟨a,l,rfl,h.bk []⟩
    ·rw [decide_eq_false hx,cond_false,if_neg (fun hh=>by obtain ⟨x',e,hx'⟩:=(jm1 _).1 hh;cases e;exact hx hx')]
     exact hst
   ·rw [decide_eq_false hl,cond_false,if_neg (fun hh=>by obtain ⟨x',e,hx'⟩:=(jm1 _).1 hh;rw [e] at hl;exact hl rfl)]
    exact hst
def je6 (ls:List Yy) (k:Int):Int:=((tot (ls.take k.toNat):Nat):Int)
theorem jdi : ∀a b:List Yy,tot (a++b)=tot a+tot b
 | [],b=>by simp [tot]
 | x::a,b=>by rw [List.cons_append,tot,tot,jdi a b];omega
theorem jbx (ls:List Yy) (j:Nat) (h:j<ls.length):je6 ls ((j+1:Nat):Int)=je6 ls (j:Int)+((ls[j].length:Nat):Int)+1:=by
 unfold je6
 rw [Int.toNat_natCast,Int.toNat_natCast,List.take_succ_eq_append_getElem h,jdi]
 simp [tot];omega
theorem j0c (n:Nat) (ls:List Yy) (hl:ls.length<=100001) (hx : ∀x∈ls,x.length<=100001) (hn:1000000<n) (z1 z2 z3:Yy) (z4:Int) :
  ∀(m j:Nat) (σ:MS) (ln:Int) (a l:List Int),j<=ls.length->ls.length - j<m->GoodM σ->SB j σ->RR (je6 ls) (((ls.length:Nat):Int) - 1) σ a l ->
  match q0y (ls.drop j) (j:Int) (je6 ls (j:Int)) σ with
  | .inl e=>∃ y,q3q n m (ls.map Lx.qc2) (j:Int) z1 z2 z3 z4 σ.mo σ.go σ.rq σ.sw σ.ex σ.rt σ.bk ln a [] l=some (Sum.inl (((),(e.1,(e.2,()))),(((([]:Yy),(([]:Yy),((),((),((),((),(([]:Yy),((0:Int),((),((),())))))))))),()),y)))
  | .inr σ'=>∃ ln' a' l',q3q n m (ls.map Lx.qc2) (j:Int) z1 z2 z3 z4 σ.mo σ.go σ.rq σ.sw σ.ex σ.rt σ.bk ln a [] l=some (Sum.inr ((((),(ls.map Lx.qc2,((),()))),(((z1,(z2,((),((),((),((),(z3,(z4,((),((),())))))))))),(rst σ' ln' a' l',())),()))))/\RR (je6 ls) (((ls.length:Nat):Int) - 1) σ' a' l'
 | 0,j,σ,ln,a,l,_,h,_,_,_=>absurd h (Nat.not_lt_zero _)
 | m+1,j,σ,ln,a,l,hj,h,g,hs,hr=>by
  rw [qd5]
  unfold qf7
  have hml:(ls.map Lx.qc2).length=ls.length:=List.length_map ..
  by_cases c0:j<ls.length
  ·have c0':((j:Nat):Int)<(((ls.map Lx.qc2).length:Nat):Int):=by rw [hml];omega
   rw [List.drop_eq_getElem_cons c0,q0y]
   have hxj:=hx ls[j] (List.getElem_mem c0)
   have i2:q0f (ls.map Lx.qc2) (j:Int)=some (Lx.qc2 ls[j]):=by
    rw [q0l (by rw [List.length_map];exact c0)];simp
   have hL:=jel n (je6 ls) (((ls.length:Nat):Int) - 1) (j:Int) σ a l g hr (q0v ls[j]) (j2c _ hxj) (hs.mono (by omega)) ⟨by omega,by omega⟩ hn
   simp only [c0',decide_true,cond_true,i2,Option.bind_some]
   rw [show ((σ.mo,(σ.go,(σ.rq,(σ.sw,(σ.ex,(σ.rt,(σ.bk,((j:Int),(a,(([]:List Int),l)))))))))):RSt)=rst σ (j:Int) a l from rfl]
   rw [show (Lx.qc2 ls[j]).1=q0v ls[j] from rfl]
   cases hlS:q3l σ (je6 ls (j:Int)) (q0v ls[j]) with
   | inl e =>
    rw [hlS] at hL
    obtain ⟨S,e1⟩:=hL
    have hne:=j1o hlS
    rw [e1]
    exact ⟨(),by simp only [Option.bind_some,hne,decide_false,Bool.not_false,cond_true]⟩
   | inr σ' =>
    rw [hlS] at hL
    obtain ⟨a',l',e1,hr'⟩:=hL
    rw [e1]
    have ih:=j0c n ls hl hx hn z1 z2 z3 z4 m (j+1) σ' (j:Int) a' l' (by omega) (by omega) (qdz g hlS) (qwy hs hlS) hr'
    rw [jbx ls j c0] at ih
    simp only [Option.bind_some,decide_true,Bool.not_true,cond_false,q00,q05 (show j<4611686018427387904 by omega)]
    exact ih
  ·have c0' : ¬ ((j:Nat):Int)<(((ls.map Lx.qc2).length:Nat):Int):=by rw [hml];omega
   simp only [c0',decide_false,cond_false]
   rw [List.drop_eq_nil_of_le (by omega),q0y]
   exact ⟨ln,a,l,rfl,hr⟩
theorem qsi (n:Nat) (s:Yy) (hs:s.length<=100000) (hn:1000000<n) :
  match q9j s with
  | .inl e=>∃ S:RSt,q96 n s=some (S,e)/\((S.1,(S.2.1,(S.2.2.1,(S.2.2.2.1,(S.2.2.2.2.1,S.2.2.2.2.2.1))))):MD)=md0
  | .inr (σ,k)=>∃ ln a l,q96 n s=some (rst σ ln a l,(k,0))/\RR (je6 (Lx.q03 s)) ((((Lx.q03 s).length:Nat):Int) - 1) σ a l:=by
 unfold q9j q96
 obtain ⟨l1,l2⟩:=Lx.q5o s
 rw [Lx.jhu n s hs (by omega)]
 by_cases h9:(Lx.q2w (Lx.q03 s) 0 []).2.2=0
 ·rw [if_neg (by simp [h9]),qki _ _ _ h9]
  have hlp:=j0c n (Lx.q03 s) (by omega) (fun x hx=>by have:=l2 x hx;omega) hn [] [] [] 0 n 0 ms0 0 [] [] (Nat.zero_le _) (by omega) jej ⟨Nat.le_refl _,Nat.le_refl _,Nat.le_refl _,Nat.le_refl _⟩ ⟨rfl,rfl,fun i q hq=>by cases hq⟩
  rw [zI,List.drop_zero,show je6 (Lx.q03 s) 0=0 from rfl] at hlp
  rw [show ms0.mo = [] from rfl,show ms0.go = [] from rfl,show ms0.bk = [] from rfl,show ms0.rq = [] from rfl,show ms0.sw = [] from rfl,show ms0.ex = [] from rfl,show ms0.rt = [] from rfl] at hlp
  have hml:((Lx.q03 s).map Lx.qc2).length=(Lx.q03 s).length:=List.length_map ..
  simp only [Option.bind_some,decide_true,Bool.not_true,cond_false,List.nil_append]
  cases hr:q0y (Lx.q03 s) 0 0 ms0 with
  | inl e =>
   rw [hr] at hlp
   obtain ⟨y,hy⟩:=hlp
   rw [hy]
   exact ⟨_,rfl,rfl⟩
  | inr σ =>
   rw [hr] at hlp
   obtain ⟨ln,a,l,hy,hrr⟩:=hlp
   rw [hy]
   simp only [Option.bind_some,Sum.elim_inr,rst,hml]
   by_cases hb:σ.bk = []
   ·by_cases hm:σ.mo = []
    ·simp only [hb,hm,decide_true,Bool.not_true,cond_false,cond_true,ne_eq,not_true_eq_false,if_false,if_true]
     exact ⟨_,rfl,rfl⟩
    ·simp only [hb,hm,decide_true,decide_false,Bool.not_true,cond_false,ne_eq,not_true_eq_false,if_false]
     exact ⟨ln,a,l,by rw [<-hb],hrr⟩
   ·simp only [hb,decide_false,Bool.not_false,cond_true,ne_eq,not_false_eq_true,if_true]
    exact ⟨_,rfl,rfl⟩
 ·rw [if_pos h9]
  simp only [Option.bind_some,decide_eq_false h9,Bool.not_false,cond_true]
  exact ⟨_,rfl,rfl⟩
theorem q56 (n:Nat) (s:Yy) (hs:s.length<=100000) (hn:1000000<n):q2p n s=some (q3w s):=by
 have h:=qsi n s hs hn
 unfold q2p q3w
 cases hr:q9j s with
 | inl e =>
  rw [hr] at h
  obtain ⟨S,h1,h2⟩:=h
  rw [h1,Option.bind_some]
  show some (((S.1,(S.2.1,(S.2.2.1,(S.2.2.2.1,(S.2.2.2.2.1,S.2.2.2.2.2.1))))):MD),e)=_
  rw [h2]
 | inr x =>
  obtain ⟨σ,k⟩:=x
  rw [hr] at h
  obtain ⟨ln,a,l,h1,_⟩:=h
  rw [h1]
  rfl
set_option synthInstance.maxSize 100000
set_option synthInstance.maxHeartbeats 0
def swp (p:Yy) (v':VD) (l:List Rq):List Rq:=l.map fun q=>if q.1=p then (p,v') else q
def shf (K δ:Int) (y:Int×Int):Int×Int:=if y.1<K then y else (y.1+δ,y.2+δ)
structure Sv (p:Yy) (v':VD) (K k δ:Int) (σ τ:MS):Prop where
 mo:τ.mo=σ.mo
 go:τ.go=σ.go
 bk:τ.bk=σ.bk
 rq:τ.rq=swp p v' σ.rq
 sw:τ.sw=σ.sw
 ex:τ.ex=σ.ex
 rt:τ.rt=σ.rt
 cl : ∀c,q04 τ c=q04 σ c
 ip:q04 σ (q0x,(p,v0))=true
 po : ∀p2,p2≠p->q02 clT (q0x,(p2,v0)) τ.sd=(q02 clT (q0x,(p2,v0)) σ.sd).map (shf K δ)
 me:q02 clT (q0x,(p,v0)) τ.sd=some (K,K+(((q0b v').length:Nat):Int))
 kp:0<=k
 dj : ∀p2,p2≠p->∀y,q02 clT (q0x,(p2,v0)) σ.sd=some y->y.2<=K\/K+k<=y.1
theorem qso (σ:MS) (st:Int) (v:Yy) (w:Lx.Wd) (r:List Lx.Wd):q8w σ st v (w::r) =
  if v=qae then (if okS w.1=false then .inl 6 else q0p { σ with mo:=w.1 } (qae,([],v0)) st w)
  else if v=kGo then (if q8y w.1=false then .inl 7 else q0p { σ with go:=w.1 } (kGo,([],v0)) st w)
  else if v=q0x then (match qeb w.1 ((r.headD ([],0)).1) with
   | .inl e=>.inl e
   | .inr q=>q0p { σ with rq:=σ.rq ++ [q] } (q0x,(q.1,v0)) st (r.headD ([],0)))
  else if v=q8s then (match qeb w.1 ((r.headD ([],0)).1) with
   | .inl e=>.inl e
   | .inr q=>q0p { σ with ex:=σ.ex ++ [q] } (q8s,(q.1,q.2)) st (r.headD ([],0)))
  else if v=q63 then (if okS w.1=false then .inl 6 else if q3a ((r.headD ([],0)).1)=false then .inl 6 else q0p { σ with sw:=σ.sw ++ [(w.1,(r.headD ([],0)).1)] } (q63,(w.1,v0)) st (r.headD ([],0)))
  else if (q09 w.1).2=false then .inl 7 else if (q09 ((r.getLast?.getD w).1)).2=false then .inl 7
  else if 0<j41 (q09 w.1).1 (q09 ((r.getLast?.getD w).1)).1 then .inl 7 else .inr { σ with rt:=σ.rt ++ [j4h (q09 w.1).1 (q09 ((r.getLast?.getD w).1)).1] }:=rfl
set_option synthInstance.maxSize 100000
set_option synthInstance.maxHeartbeats 0
def jlh (σ σ':MS):Prop:=σ'.rq=σ.rq/\∀p,q02 clT (q0x,(p,v0)) σ'.sd=q02 clT (q0x,(p,v0)) σ.sd
theorem qas {σ σ':MS} {a:Yy} {y:Yy×VD} {st:Int} {w:Lx.Wd} (ha:q0x≠a) (e:q0p σ (a,y) st w = .inr σ'):σ'.rq=σ.rq/\∀p,q02 clT (q0x,(p,v0)) σ'.sd=q02 clT (q0x,(p,v0)) σ.sd:=by
 obtain ⟨_,rfl⟩:=q3s e
 exact ⟨rfl,fun p=>q3x (fun h=>ha (congrArg Prod.fst h)) _ _⟩
theorem j80 {σ σ':MS} {v:Yy} {ws:List Lx.Wd} {st:Int} (hv:v≠q0x) (e:q8w σ st v ws = .inr σ'):jlh σ σ':=by
 obtain ⟨d1,d2,d3,d4,d5,d6,d7,d8,d9,d10⟩:=kd
 cases ws with
 | nil=>cases e
 | cons w r =>
  rw [qso] at e
  split at e
  ·split at e
   ·cases e
   ·exact qas (σ:={ σ with mo:=w.1 }) d2.symm e
  ·split at e
   ·split at e
    ·cases e
    ·exact qas (σ:={ σ with go:=w.1 }) d5.symm e
   ·split at e
    ·cases hq:qeb w.1 ((r.headD ([],0)).1) with
     | inl e1=>rw [hq] at e;cases e
     | inr q=>rw [hq] at e;exact qas (σ:={ σ with ex:=σ.ex ++ [q] }) d8 e
    ·split at e
     ·split at e
      ·cases e
      ·split at e
       ·cases e
       ·exact qas (σ:={ σ with sw:=σ.sw ++ [(w.1,(r.headD ([],0)).1)] }) d9 e
     ·split at e
      ·cases e
      ·split at e
       ·cases e
       ·split at e
        ·cases e
        ·cases e;exact ⟨rfl,fun p=>rfl⟩
def NewR (σ σ':MS) (st:Int) (w x:Lx.Wd) (q:Rq):Prop:=w.1=q.1/\x.1=q0b q.2/\q40 q.1 q.2=true/\q04 σ (q0x,(q.1,v0))=false/\σ' = { σ with rq:=σ.rq ++ [q],sd:=q1q clT (q0x,(q.1,v0)) (ps st x) σ.sd }
theorem qnn {σ σ':MS} {v:Yy} {ws:List Lx.Wd} {st:Int} (e:q53 σ st v ws = .inr σ'):jlh σ σ'\/(v=q0x/\∃ w x q,ws = [w,x]/\NewR σ σ' st w x q):=by
 unfold q53 at e
 split at e
 ·rename_i hm
  by_cases hv:v=q0x
  ·subst hv
   have hf:=j2s q0x ws
   rw [decide_eq_true hm] at hf
   obtain ⟨w,x,rfl,m1,m2⟩:=jd6 (ws:=ws) hf.symm
   have hu:unm [w,x] = [w,x]:=by simp [unm,m1,m2]
   rw [hu] at e
   replace e:(match qeb w.1 x.1 with
    | .inl e=>(Sum.inl e:Int⊕MS)
    | .inr q=>q0p { σ with rq:=σ.rq ++ [q] } (q0x,(q.1,v0)) st x) = .inr σ':=e
   cases hq:qeb w.1 x.1 with
   | inl e1=>rw [hq] at e;cases e
   | inr q =>
    rw [hq] at e
    obtain ⟨q1,q2,q3⟩:=qpv hq
    obtain ⟨hc,rfl⟩:=q3s e
    exact .inr ⟨rfl,w,x,q,rfl,q1.symm,q3.symm,q2,hc,rfl⟩
  ·exact .inl (j80 hv e)
 ·cases e
def Lead (σ:MS) (A:List Lx.Wd):Prop:=(A = []/\σ.bk=q0x) \/ ∃ k:Lx.Wd,A = [k]/\k.1=q0x/\σ.bk = []
theorem j4g {σ σ':MS} {ws:List Lx.Wd} {st:Int} (e:q3l σ st ws = .inr σ'):jlh σ σ' \/ ∃ A w x q,ws=A ++ [w,x]/\Lead σ A/\NewR σ σ' st w x q:=by
 cases ws with
 | nil=>cases e;exact .inl ⟨rfl,fun _=>rfl⟩
 | cons k r =>
  unfold q3l at e
  simp only at e
  split at e
  ·rename_i hb
   split at e
   ·cases e;exact .inl ⟨rfl,fun _=>rfl⟩
   ·rcases qnn e with h|⟨h1,w,x,q,h2,h3⟩
    ·exact .inl h
    ·exact .inr ⟨[k],w,x,q,by rw [h2];rfl,.inr ⟨k,rfl,h1,hb⟩,h3⟩
  ·rename_i hb
   split at e
   ·cases e;exact .inl ⟨rfl,fun _=>rfl⟩
   ·rcases qnn e with h|⟨h1,w,x,q,h2,h3⟩
    ·exact .inl h
    ·exact .inr ⟨[],w,x,q,h2,.inl ⟨rfl,h1⟩,h3⟩
end Go.Proofs.YtapfankgdkdkgaaGreatDoor.AM
