
import Derived.Test.YtapfankgdkdkgaaGreatDoorEc24
import Derived.Test.YtapfankgdkdkgaaGreatDoorEc13
import Derived.Test.YtapfankgdkdkgaaGreatDoorEc17
set_option linter.unusedVariables false
set_option linter.unusedSimpArgs false
namespace Go.Proofs.YtapfankgdkdkgaaGreatDoor.AM
open Go.RowKit
set_option synthInstance.maxSize 100000
set_option synthInstance.maxHeartbeats 0
theorem q9z (n:Nat) (s:Yy) (hn:2000<=n):q3t n s=some (q09 s):=by
 by_cases h:s.length<=200
 ·exact qym n s h hn
 ·have c1:(100:Int)<((s.length:Nat):Int):=by omega
  have hp:q09 s=(v0,false):=qo1 (fun v hv e=>by have:=qgs v;rw [e] at this;omega)
  unfold q3t
  rw [hp]
  simp [c1]
theorem j9r {s:Yy} (h:1000<s.length):q3e s=false:=by
 cases hp:q3e s with
 | false=>rfl
 | true=>have:=j0t hp;omega
theorem q7r (n:Nat) (s:Yy) (hL:s.length<=1000000) (hn:2000<=n):q3v n s=some (okS s):=by
 by_cases h:s.length<=1000
 ·exact qg4 n s h hn
 ·unfold q3v okS
  rw [qbs n s (by omega) (by omega),j9r (by omega)]
  rfl
theorem j60 (n:Nat) (s:Yy) (v:VD) (hL:s.length<=1000000) (hn:2000<=n):qaf n s v=some (q3c s v):=by
 by_cases h:s.length<=1000
 ·exact qwk n s v h hn
 ·have ho:okS s=false:=by unfold okS;rw [j9r (by omega)];rfl
  unfold qaf q9o q3c
  rw [q7r n s hL hn,ho]
  rfl
theorem qay (n:Nat) (s:Yy) (hL:s.length<=1000000) : ∀m j:Nat,j<=s.length->s.length - j<m->q3z n m s (j:Int)=some (if (s.drop j).all q0u=true then Sum.inr ((s,()),((),())) else Sum.inl ((false,()),((),())))
 | 0,j,_,h=>absurd h (Nat.not_lt_zero _)
 | m+1,j,hj,h=>by
  rw [qau]
  unfold q99
  by_cases c0:j<s.length
  ·have c0':((j:Nat):Int)<((s.length:Nat):Int):=by omega
   rw [List.drop_eq_getElem_cons c0,List.all_cons,j7l s[j]]
   simp only [c0',decide_true,cond_true,q1g c0,Option.bind_some,q00,q03 (show j<4611686018427387904 by omega)]
   by_cases h1:((s[j].toNat:Nat):Int)<48
   ·simp [h1]
   ·by_cases h2:(57:Int)<((s[j].toNat:Nat):Int)
    ·simp [h1,h2]
    ·simp only [h1,h2,decide_false,cond_false,Bool.not_false,Bool.true_and]
     exact qay n s hL m (j+1) (by omega) (by omega)
  ·have c0' : ¬ ((j:Nat):Int)<((s.length:Nat):Int):=by omega
   simp only [c0',decide_false,cond_false]
   rw [List.drop_eq_nil_of_le (by omega)]
   simp
theorem qb0 (n:Nat) (s:Yy) (hL:s.length<=1000000) (hn:s.length<n):q3d n s=some (q4f s):=by
 unfold q3d
 have h:=qay n s hL n 0 (Nat.zero_le _) (by omega)
 rw [zI,List.drop_zero] at h
 rw [h]
 unfold q4f
 cases s.all q0u with
 | false=>simp
 | true =>
  simp only [if_true,Option.bind_some,Sum.elim_inr,Bool.true_and]
  match s with
  | []=>rfl
  | [c] =>
   by_cases hc:c=48<;>simp [hc]
  | c::d::r =>
   have h1:(1:Int)<=(((c::d::r).length:Nat):Int):=by simp only [List.length_cons];omega
   have h2 : ¬ (((c::d::r).length:Nat):Int)=1:=by simp only [List.length_cons];omega
   have h3:=leI (c::d::r).length 9
   rw [show ((9:Nat):Int)=(9:Int) from rfl] at h3
   have i0:=q1g (s:=c::d::r) (j:=0) (by simp)
   rw [zI] at i0
   have h4:1<=(c::d::r).length:=by simp only [List.length_cons];omega
   simp only [h1,h2,h3,h4,decide_true,decide_false,cond_true,cond_false,i0,Option.bind_some,List.getElem_cons_zero,List.head?_cons,Option.some.injEq,Bool.true_and,c48]
   cases decide ((c::d::r).length<=9) with
   | false=>rfl
   | true=>simp
theorem qjo (n:Nat) (s:Yy) (hL:s.length<=100001) (hn:200000<n):q61 n s=some (q8s s):=by
 have e1:q0e n s (46:Int)=some (spl 46 [] s):=by
  rw [show (46:Int)=(((46:UInt8).toNat:Nat):Int) from rfl,q2z n s 46 (by omega) (by omega)]
 have hw : ∀w∈spl 46 [] s,w.length<=s.length:=fun w hm=>by have:=q4j 46 s [] w hm;simpa using this
 unfold q61
 show ((q0e n s (46:Int)).bind fun r1=>(bif decide ((r1.length:Int)=(2:Int)) then (q0d r1 (0:Int)).bind fun x2=>(q3d n x2).bind fun r3=>(bif r3 then (q0d r1 (1:Int)).bind fun x4=>(q3d n x4).bind fun r5=>some r5 else some false) else some false))=_
 rw [e1,Option.bind_some]
 by_cases hm:(46:UInt8)∈s
 ·obtain ⟨a,b,hs,ha⟩:=List.eq_append_cons_of_mem hm
  have hc:=qr4 46 a b ha
  have es:spl 46 [] s=a::spl 46 [] b:=by rw [hs,qdz 46 a b ha]
  rw [es] at hw ⊢
  have el:q8s s=(q4f a&&q4f b):=by unfold q8s;rw [hs,hc.1,hc.2]
  rw [el]
  by_cases hb:(46:UInt8)∈b
  ·obtain ⟨a2,b2,hs2,ha2⟩:=List.eq_append_cons_of_mem hb
   have es2:spl 46 [] b=a2::spl 46 [] b2:=by rw [hs2,qdz 46 a2 b2 ha2]
   have hne:=qtw 46 b2 []
   have hl : ¬ ((((a::spl 46 [] b).length:Nat):Int)=2):=by
    rw [es2]
    cases h:spl 46 [] b2 with
    | nil=>exact absurd h hne
    | cons x r=>simp only [List.length_cons];omega
   have hnb:q4f b=false:=by
    cases h:q4f b with
    | false=>rfl
    | true=>exact absurd ((qqs h).1 46 hb) (by decide)
   rw [decide_eq_false hl,cond_false,hnb,Bool.and_false]
  ·rw [q70 46 b hb] at hw ⊢
   have i0:q0d [a,b] (0:Int)=some a:=rfl
   have i1:q0d [a,b] (1:Int)=some b:=rfl
   have wa:=hw a (by simp)
   have wb:=hw b (by simp)
   rw [show decide ((([a,b].length:Nat):Int)=2)=true from rfl,cond_true,i0,Option.bind_some,qb0 n a (by omega) (by omega),Option.bind_some]
   cases q4f a with
   | false=>rfl
   | true=>rw [cond_true,i1,Option.bind_some,qb0 n b (by omega) (by omega)];rfl
 ·rw [q70 46 s hm]
  have:q5r 46 s = []:=by unfold q5r;rw [if_pos (q6z 46 s hm)]
  unfold q8s
  rw [this,show q4f []=false from rfl,Bool.and_false]
  rfl
theorem qkg (n:Nat) (l:List Rq) (b:Bool) (r:Rq) (hL:l.length<=1000000) : ∀m j:Nat,j<=l.length->l.length - j<m->q65 n m l b (j:Int) r.1 r.2.1 r.2.2.1 r.2.2.2.1 r.2.2.2.2.1 r.2.2.2.2.2=some (if (l.drop j).any (fun q=>if b then decide (q=r) else decide (q.1=r.1))=true then Sum.inl ((true,()),((),())) else Sum.inr ((),((),())))
 | 0,j,_,h=>absurd h (Nat.not_lt_zero _)
 | m+1,j,hj,h=>by
  rw [qef]
  unfold ql3
  by_cases c0:j<l.length
  ·have c0':((j:Nat):Int)<((l.length:Nat):Int):=by omega
   have ih:=qkg n l b r hL m (j+1) (by omega) (by omega)
   rw [List.drop_eq_getElem_cons c0,List.any_cons]
   have e:=qzg l[j] r
   rw [Bool.and_true] at e
   simp only [c0',decide_true,cond_true,q0k c0,Option.bind_some,q00,q03 (show j<4611686018427387904 by omega)]
   by_cases h1:l[j].1=r.1
   ·rw [decide_eq_true h1,Bool.true_and] at e
    rw [decide_eq_true h1,cond_true]
    cases b with
    | false=>rfl
    | true =>
     simp only [Bool.not_true,cond_false,e,if_true]
     by_cases h2:l[j]=r
     ·simp [h2]
     ·simp only [decide_eq_false h2,cond_false,Bool.false_or];exact ih
   ·have h2 : ¬ l[j]=r:=fun hh=>h1 (by rw [hh])
    rw [decide_eq_false h1,cond_false,decide_eq_false h2]
    cases b<;>exact ih
  ·have c0' : ¬ ((j:Nat):Int)<((l.length:Nat):Int):=by omega
   simp only [c0',decide_false,cond_false]
   rw [List.drop_eq_nil_of_le (by omega)]
   rfl
theorem qj9 (n:Nat) (l:List Rq) (b:Bool) (r:Rq) (hL:l.length<=1000000) (hn:1000000<n):q7v n l r b=some (l.any fun q=>if b then decide (q=r) else decide (q.1=r.1)):=by
 unfold q7v
 have h:=qkg n l b r hL n 0 (Nat.zero_le _) (by omega)
 rw [zI,List.drop_zero] at h
 rw [h]
 cases l.any fun q=>if b then decide (q=r) else decide (q.1=r.1)<;>rfl
theorem qis (n:Nat) (w x:Lx.Wd) (r:List Lx.Wd) (hw:w.1.length<=100001) (hx:x.1.length<=100001) (hn:200000<n):qgt n (w::x::r)=some (match qe7 w.1 x.1 with | .inl e=>(q0,e) | .inr q=>(q,0)):=by
 unfold qgt qe7
 simp only [j3r,jn0,Option.bind_some,q9z n x.1 (show 2000<=n by omega),q7r n w.1 (show _<=1000000 by omega) (show 2000<=n by omega)]
 cases okS w.1 with
 | false=>rfl
 | true =>
  simp only [Bool.not_true,cond_false,Bool.true_eq_false,if_false]
  cases h2:(q09 x.1).2 with
  | false=>simp [q0,v0]
  | true =>
   simp only [Bool.not_true,cond_false,Bool.true_eq_false,if_false,j60 n w.1 (q09 x.1).1 (show _<=1000000 by omega) (show 2000<=n by omega),Option.bind_some]
   cases h3:q3c w.1 (q09 x.1).1 with
   | false=>simp [q0,v0]
   | true=>simp
set_option synthInstance.maxSize 100000
set_option synthInstance.maxHeartbeats 0
abbrev RSt:=Yy×(Yy×(List Rq×(List Sw×(List Rq×(List Sp×(Yy×(Int×(List Int×(List Int×List Int)))))))))
def rst (σ:MS) (ln:Int) (a l:List Int):RSt:=(σ.mo,(σ.go,(σ.rq,(σ.sw,(σ.ex,(σ.rt,(σ.bk,(ln,(a,([],l))))))))))
def RR (off:Int->Int) (M:Int) (σ:MS) (at_ ls:List Int):Prop:=at_.length=σ.rq.length/\ls.length=σ.rq.length/\∀(i:Nat) (q:Rq),σ.rq[i]? = some q->∃ a l,at_[i]? = some a/\ls[i]? = some l/\(0<=a/\a<=100001)/\(0<=l/\l<=M) /\
 q02 clT (q0s,(q.1,v0)) σ.sd=some (off l+a,off l+a+(((q08 q.2).length:Nat):Int))
def RL (off:Int->Int) (M ln:Int) (x:Option (RSt×Int)):Int⊕MS->Prop
 | .inl e=>∃ S,x=some (S,e)
 | .inr σ'=>∃ a l,x=some (rst σ' ln a l,0)/\RR off M σ' a l
theorem RR.other {off:Int->Int} {M:Int} {σ σ':MS} {a l:List Int} (h:RR off M σ a l) (hr:σ'.rq=σ.rq) (hs : ∀p,q02 clT (q0s,(p,v0)) σ'.sd=q02 clT (q0s,(p,v0)) σ.sd):RR off M σ' a l:=by
 obtain ⟨h1,h2,h3⟩:=h
 refine ⟨by rw [hr];exact h1,by rw [hr];exact h2,fun i q hq=>?_⟩
 rw [hr] at hq
 obtain ⟨x,y,g1,g2,g3,g4,g5⟩:=h3 i q hq
 exact ⟨x,y,g1,g2,g3,g4,by rw [hs];exact g5⟩
theorem q9j {σ:MS} {c:Cl} {st:Int} {w:Lx.Wd} (h:q04 σ c=true):q0p σ c st w = .inl 11:=by
 unfold q04 at h
 unfold q0p
 rw [if_pos h]
theorem one_mod (n:Nat) (off:Int->Int) (M ln:Int) (σ:MS) (a l:List Int) (g:GoodM σ) (h:RR off M σ a l) (w:Lx.Wd) (hw:w.1.length<=100001) (hn:1000000<n) :
  RL off M ln (q8g n (rst σ ln a l) qae w.1) (q8o σ (off ln) qae [w]):=by
 obtain ⟨d1,d2,d3,d4,d5,d6,d7,d8,d9,d10⟩:=kd
 rw [show q8o σ (off ln) qae [w]=(if okS w.1=false then .inl 6 else q0p { σ with mo:=w.1 } (qae,([],v0)) (off ln) w) from rfl]
 unfold q8g
 simp only [decide_true,cond_true,q7r n w.1 (show _<=1000000 by omega) (show 2000<=n by omega),Option.bind_some]
 cases okS w.1 with
 | false=>exact ⟨_,rfl⟩
 | true =>
  simp only [Bool.not_true,cond_false,Bool.true_eq_false,if_false]
  by_cases hm:σ.mo = []
  ·have hc:q04 { σ with mo:=w.1 } (qae,([],v0))=false:=qe4 g.mc (by simp [hm])
   rw [q7k hc]
   refine ⟨a,l,?_,h.other rfl (fun p=>q2m (fun e=>d2.symm (congrArg Prod.fst e)) _ _)⟩
   simp only [rst,hm,decide_true,Bool.not_true,cond_false]
  ·have hc:q04 { σ with mo:=w.1 } (qae,([],v0))=true:=g.mc.2 hm
   rw [q9j hc]
   exact ⟨_,by simp only [rst,hm,decide_false,Bool.not_false,cond_true];rfl⟩
theorem jpi (n:Nat) (off:Int->Int) (M ln:Int) (σ:MS) (a l:List Int) (g:GoodM σ) (h:RR off M σ a l) (w:Lx.Wd) (hw:w.1.length<=100001) (hn:1000000<n) :
  RL off M ln (q8g n (rst σ ln a l) kGo w.1) (q8o σ (off ln) kGo [w]):=by
 obtain ⟨d1,d2,d3,d4,d5,d6,d7,d8,d9,d10⟩:=kd
 rw [show q8o σ (off ln) kGo [w]=(if q8s w.1=false then .inl 7 else q0p { σ with go:=w.1 } (kGo,([],v0)) (off ln) w) from rfl]
 unfold q8g
 simp only [decide_eq_false d1.symm,cond_false,qjo n w.1 hw (by omega),Option.bind_some]
 cases q8s w.1 with
 | false=>exact ⟨_,rfl⟩
 | true =>
  simp only [Bool.not_true,cond_false,Bool.true_eq_false,if_false]
  by_cases hm:σ.go = []
  ·have hc:q04 { σ with go:=w.1 } (kGo,([],v0))=false:=qe4 g.gk (by simp [hm])
   rw [q7k hc]
   refine ⟨a,l,?_,h.other rfl (fun p=>q2m (fun e=>d5.symm (congrArg Prod.fst e)) _ _)⟩
   simp only [rst,hm,decide_true,Bool.not_true,cond_false]
  ·have hc:q04 { σ with go:=w.1 } (kGo,([],v0))=true:=g.gk.2 hm
   rw [q9j hc]
   exact ⟨_,by simp only [rst,hm,decide_false,Bool.not_false,cond_true];rfl⟩
theorem j2q (l:List Rq) (p:Yy):(l.any fun q=>decide (q.1=p))=true↔p∈l.map Prod.fst:=by
 rw [List.any_eq_true,List.mem_map]
 simp
theorem any_eq (l:List Rq) (r:Rq):(l.any fun q=>decide (q=r))=true↔r∈l:=by
 rw [List.any_eq_true]
 simp
theorem jj5 (n:Nat) (off:Int->Int) (M ln:Int) (σ:MS) (a l:List Int) (g:GoodM σ) (h:RR off M σ a l) (w x:Lx.Wd) (hw:w.1.length<=100001) (hx:x.1.length<=100001/\0<=x.2/\x.2<=100001) (hb:SB 200000 σ) (hln:0<=ln/\ln<=M) (hn:1000000<n) :
  RL off M ln (q7f n (rst σ ln a l) q0s [w,x]) (q8o σ (off ln) q0s [w,x]):=by
 rw [show q8o σ (off ln) q0s [w,x]=(match qe7 w.1 x.1 with
   | .inl e=>.inl e
   | .inr q=>q0p { σ with rq:=σ.rq ++ [q] } (q0s,(q.1,v0)) (off ln) x) from rfl]
 unfold q7f
 simp only [qis n w x [] hw hx.1 (by omega),Option.bind_some]
 cases hr:qe7 w.1 x.1 with
 | inl e =>
  have:=qp1 hr
  exact ⟨_,by simp only [this,decide_false,Bool.not_false,cond_true];rfl⟩
 | inr q =>
  obtain ⟨q1,q2,q3⟩:=qqk hr
  simp only [decide_true,Bool.not_true,cond_false,show decide (q0s=q8p)=false from by decide]
  have hrl:σ.rq.length<=200000:=hb.1
  have hH:q7v n (rst σ ln a l).2.2.1 q false=some (σ.rq.any fun y=>decide (y.1=q.1)):=qj9 n σ.rq false q (by omega) (by omega)
  rw [hH,Option.bind_some]
  by_cases hm:q.1∈σ.rq.map Prod.fst
  ·have hc:q04 { σ with rq:=σ.rq ++ [q] } (q0s,(q.1,v0))=true:=(g.rk q.1).2 hm
   rw [q9j hc,(j2q σ.rq q.1).2 hm]
   exact ⟨_,rfl⟩
  ·have hc:q04 { σ with rq:=σ.rq ++ [q] } (q0s,(q.1,v0))=false:=qe4 (g.rk q.1) hm
   have hany:(σ.rq.any fun y=>decide (y.1=q.1))=false:=by
    cases hh:(σ.rq.any fun y=>decide (y.1=q.1)) with
    | false=>rfl
    | true=>exact absurd ((j2q _ _).1 hh) hm
   obtain ⟨h1,h2,h3⟩:=h
   have a1:q1s 72 ([]:List Rq) σ.rq=some σ.rq:=q1q (by simp;omega)
   have a2:q1s 72 σ.rq [q]=some (σ.rq ++ [q]):=q1q (by simp;omega)
   have a3:q1s 8 ([]:List Int) a=some a:=q1q (by simp;omega)
   have a4:q1s 8 a [x.2]=some (a ++ [x.2]):=q1q (by simp;omega)
   have a5:q1s 8 ([]:List Int) l=some l:=q1q (by simp;omega)
   have a6:q1s 8 l [ln]=some (l ++ [ln]):=q1q (by simp;omega)
   rw [q7k hc,hany]
   refine ⟨a ++ [x.2],l ++ [ln],?_,by simp [h1],by simp [h2],fun i y hy=>?_⟩
   ·simp only [rst,cond_false,a1,a2,a3,a4,a5,a6,jn0,Option.bind_some]
   ·replace hy:(σ.rq ++ [q])[i]? = some y:=hy
    show ∃ a' l',(a ++ [x.2])[i]? = some a'/\(l ++ [ln])[i]? = some l'/\_/\_/\q02 clT (q0s,(y.1,v0)) (q0x clT (q0s,(q.1,v0)) (ps (off ln) x) σ.sd)=_
    by_cases hi:i<σ.rq.length
    ·rw [List.getElem?_append_left hi] at hy
     obtain ⟨x1,y1,g1,g2,g3,g4,g5⟩:=h3 i y hy
     have hne:y.1≠q.1:=fun e=>hm (List.mem_map.2 ⟨y,List.mem_of_getElem? hy,e⟩)
     exact ⟨x1,y1,by rw [List.getElem?_append_left (by omega)];exact g1,by rw [List.getElem?_append_left (by omega)];exact g2,g3,g4,by rw [q2m (fun e=>hne (by simpa using e))];exact g5⟩
    ·have hie:i=σ.rq.length:=by
      have:=(List.getElem?_eq_some_iff.1 hy).1
      simp at this;omega
     subst hie
     rw [List.getElem?_concat_length] at hy
     cases hy
     refine ⟨x.2,ln,by rw [<-h1,List.getElem?_concat_length],by rw [<-h2,List.getElem?_concat_length],⟨hx.2.1,hx.2.2⟩,hln,?_⟩
     rw [qde,ps,q3]
theorem jkw (n:Nat) (off:Int->Int) (M ln:Int) (σ:MS) (a l:List Int) (g:GoodM σ) (h:RR off M σ a l) (w x:Lx.Wd) (hw:w.1.length<=100001) (hx:x.1.length<=100001) (hb:SB 200000 σ) (hn:1000000<n) :
  RL off M ln (q7f n (rst σ ln a l) q8p [w,x]) (q8o σ (off ln) q8p [w,x]):=by
 obtain ⟨d1,d2,d3,d4,d5,d6,d7,d8,d9,d10⟩:=kd
 rw [show q8o σ (off ln) q8p [w,x]=(match qe7 w.1 x.1 with
   | .inl e=>.inl e
   | .inr q=>q0p { σ with ex:=σ.ex ++ [q] } (q8p,(q.1,q.2)) (off ln) x) from rfl]
 unfold q7f
 simp only [qis n w x [] hw hx (by omega),Option.bind_some]
 cases hr:qe7 w.1 x.1 with
 | inl e =>
  have:=qp1 hr
  exact ⟨_,by simp only [this,decide_false,Bool.not_false,cond_true];rfl⟩
 | inr q =>
  simp only [decide_true,Bool.not_true,cond_false,cond_true]
  have hrl:σ.ex.length<=200000:=hb.2.2.1
  have hH:q7v n (rst σ ln a l).2.2.2.2.1 q true=some (σ.ex.any fun y=>decide (y=q)):=qj9 n σ.ex true q (by omega) (by omega)
  rw [hH,Option.bind_some]
  by_cases hm:q∈σ.ex
  ·have hc:q04 { σ with ex:=σ.ex ++ [q] } (q8p,(q.1,q.2))=true:=(g.ek q).2 hm
   rw [q9j hc,(any_eq σ.ex q).2 hm]
   exact ⟨_,rfl⟩
  ·have hc:q04 { σ with ex:=σ.ex ++ [q] } (q8p,(q.1,q.2))=false:=qe4 (g.ek q) hm
   have hany:(σ.ex.any fun y=>decide (y=q))=false:=by
    cases hh:(σ.ex.any fun y=>decide (y=q)) with
    | false=>rfl
    | true=>exact absurd ((any_eq _ _).1 hh) hm
   have a1:q1s 72 ([]:List Rq) σ.ex=some σ.ex:=q1q (by simp;omega)
   have a2:q1s 72 σ.ex [q]=some (σ.ex ++ [q]):=q1q (by simp;omega)
   rw [q7k hc,hany]
   refine ⟨a,l,?_,h.other rfl (fun p=>q2m (fun e=>d8 (congrArg Prod.fst e)) _ _)⟩
   simp only [rst,cond_false,a1,a2,Option.bind_some]
theorem q39 (n:Nat) (a b:Int):q3l n a b=some (q7p a b):=by
 unfold q3l q7p
 by_cases h1:a<b
 ·simp [h1]
 ·by_cases h2:b<a
  ·simp [h1,h2]
  ·simp [h1,h2]
theorem joj (a b:Yy):(bif ltS a b then some (-1:Int) else (bif !(ltS a b||decide (a=b)) then some (1:Int) else some (0:Int)))=some (cmpL j7o a b):=by
 unfold ltS
 rw [qda]
 have hr:=(qdy qhh).rng a b
 have hz:cmpL j7o a b=0↔a=b:=(qdy qhh).zero
 by_cases h1:cmpL j7o a b<0
 ·have:cmpL j7o a b = -1:=by omega
  simp [h1,this]
 ·by_cases h2:a=b
  ·have:=hz.2 h2
   simp [h1,h2,(qdy qhh).refl b]
  ·have:cmpL j7o a b=1:=by
    have : ¬ cmpL j7o a b=0:=fun e=>h2 (hz.1 e)
    omega
   simp [h2,this]
theorem qyj (n:Nat) (a b:Yy) (ha:a.length<=1000000) (hb:b.length<=1000000) (hn:a.length<n/\b.length<n):qd0 n a b=some (jal a b):=by
 unfold qd0 jal jik
 rw [q63 n a ha hn.1,q63 n b hb hn.2]
 simp only [Option.bind_some,joj,q39]
 cases q2b a with
 | false=>cases q2b b with
  | false =>
   simp only [cond_false,Bool.false_eq_true,if_false]
   unfold qe5 q7p or2
   simp
  | true =>
   simp only [cond_false,cond_true,Bool.not_false,Bool.false_eq_true,if_false,if_true]
   unfold qe5 q7p or2
   simp
 | true=>cases q2b b with
  | false =>
   simp only [cond_false,cond_true,Bool.not_false,Bool.false_eq_true,if_false,if_true]
   unfold qe5 q7p or2
   simp
  | true =>
   simp only [cond_true,cond_false,Bool.not_true,if_true]
   unfold qe5
   have e0:q7p (0:Int) 0=0:=by decide
   dsimp only
   rw [e0]
   unfold or2
   simp only [if_true]
   by_cases hl:((a.length:Nat):Int)=((b.length:Nat):Int)
   ·have:q7p ((a.length:Nat):Int) ((b.length:Nat):Int)=0:=by rw [hl];exact q84.refl _
    simp only [hl,decide_true,Bool.not_true,cond_false]
    rw [hl] at this
    rw [this];rfl
   ·have : ¬ q7p ((a.length:Nat):Int) ((b.length:Nat):Int)=0:=fun e=>hl (q84.eq _ _ e)
    simp only [hl,decide_false,Bool.not_false,cond_true,this,if_false]
theorem qog (n:Nat) (l1 l2:List Yy) (h1:l1.length<=1000000) (h2:l2.length<=1000000) (hw : ∀w,w∈l1\/w∈l2->w.length<=1000000/\w.length<n) : ∀m j:Nat,j<=l1.length->j<=l2.length->l1.length - j<m ->
  ((qan n m l1 l2 (j:Int)).bind fun (o16:((Int×Unit)×Unit×Unit)⊕(((List Yy)×((List Yy)×Unit))×Unit×Unit))=>Sum.elim (fun (q17:(Int×Unit)×Unit×Unit)=>some q17.1.1) (fun (q18:((List Yy)×((List Yy)×Unit))×Unit×Unit)=>(q3l n ((List.length q18.1.1:Nat):Int) ((List.length q18.1.2.1:Nat):Int)).bind fun (r19:Int)=>some r19) o16)=some (cmpL jal (l1.drop j) (l2.drop j))
 | 0,j,_,_,h=>absurd h (Nat.not_lt_zero _)
 | m+1,j,hj,hj2,h=>by
  rw [qkp]
  unfold qz9
  by_cases c0:j<l1.length
  ·have c0':((j:Nat):Int)<((l1.length:Nat):Int):=by omega
   have hd:l1.drop j=l1[j]::l1.drop (j+1):=(List.drop_eq_getElem_cons c0)
   by_cases c1:j<l2.length
   ·have c1':((j:Nat):Int)<((l2.length:Nat):Int):=by omega
    have hd2:l2.drop j=l2[j]::l2.drop (j+1):=(List.drop_eq_getElem_cons c1)
    have ih:=qog n l1 l2 h1 h2 hw m (j+1) (by omega) (by omega) (by omega)
    have k1:=hw l1[j] (Or.inl (List.getElem_mem c0))
    have k2:=hw l2[j] (Or.inr (List.getElem_mem c1))
    have hp:=qyj n l1[j] l2[j] k1.1 k2.1 ⟨k1.2,k2.2⟩
    rw [hd,hd2,cmpL]
    simp only [c0',decide_true,cond_true,q0k c0,Option.bind_some,c1',q0k c1,hp,q00,q03 (show j<4611686018427387904 by omega)]
    unfold or2
    by_cases h0:jal l1[j] l2[j]=0
    ·simp only [h0,decide_true,Bool.not_true,cond_false,if_true]
     exact ih
    ·simp only [h0,decide_false,Bool.not_false,cond_true,if_false,Option.bind_some,Sum.elim_inl]
   ·have c1' : ¬ ((j:Nat):Int)<((l2.length:Nat):Int):=by omega
    have hd2:l2.drop j = []:=List.drop_eq_nil_of_le (by omega)
    have c3:q7p ((l1.length:Nat):Int) ((l2.length:Nat):Int)=1:=by unfold q7p;rw [if_neg (by omega),if_pos (by omega)]
    rw [hd,hd2,cmpL]
    simp only [c0',decide_true,cond_true,c1',decide_false,cond_false,Option.bind_some,Sum.elim_inr,q39,c3]
  ·have c0' : ¬ ((j:Nat):Int)<((l1.length:Nat):Int):=by omega
   have hd:l1.drop j = []:=List.drop_eq_nil_of_le (by omega)
   simp only [c0',decide_false,cond_false,Option.bind_some,Sum.elim_inr,q39]
   rw [hd]
   by_cases c1:j<l2.length
   ·have hd2:l2.drop j=l2[j]::l2.drop (j+1):=(List.drop_eq_getElem_cons c1)
    have c3:q7p ((l1.length:Nat):Int) ((l2.length:Nat):Int) = -1:=by unfold q7p;rw [if_pos (by omega)]
    rw [hd2,c3]
    rfl
   ·have hd2:l2.drop j = []:=List.drop_eq_nil_of_le (by omega)
    have c3:q7p ((l1.length:Nat):Int) ((l2.length:Nat):Int)=0:=by unfold q7p;rw [if_neg (by omega),if_neg (by omega)]
    rw [hd2,c3]
    rfl
theorem jac (n:Nat) (a b:Yy) (ha:a.length<=100000) (hb:b.length<=100000) (hn:a.length+3<n/\b.length+3<n):j07 n a b=some (q9h a b):=by
 unfold j07 q9p
 by_cases h1:a = []
 ·by_cases h2:b = []
  ·simp only [h1,h2,decide_true,cond_true,Option.bind_some,q39]
   rfl
  ·simp only [h1,h2,decide_true,decide_false,cond_true,cond_false,Option.bind_some,q39]
   unfold q9h qe5 j96 q7p or2
   simp [h2]
 ·by_cases h2:b = []
  ·simp only [h1,h2,decide_true,decide_false,cond_true,cond_false,Option.bind_some,q39]
   unfold q9h qe5 j96 q7p or2
   simp [h1]
  ·simp only [h1,h2,decide_false,cond_false]
   have s1:q0e n a (46:Int)=some (spl 46 [] a):=q2z n a 46 (by omega) (by omega)
   have s2:q0e n b (46:Int)=some (spl 46 [] b):=q2z n b 46 (by omega) (by omega)
   have k1:=q47 46 a []
   have k2:=q47 46 b []
   rw [s1,s2]
   simp only [Option.bind_some]
   have h:=qog n (spl 46 [] a) (spl 46 [] b) (by omega) (by omega) (fun w hw=>by
     rcases hw with hw|hw
     ·have:=q4j 46 a [] w hw;simp at this;omega
     ·have:=q4j 46 b [] w hw;simp at this;omega) n 0 (Nat.zero_le _) (Nat.zero_le _) (by omega)
   rw [show ((0:Nat):Int)=(0:Int) from rfl,List.drop_zero,List.drop_zero] at h
   rw [h]
   unfold q9h j96
   simp only [h1,h2,if_false]
   unfold qe5
   have e0:q7p (0:Int) 0=0:=by decide
   dsimp only
   rw [e0]
   unfold or2
   simp
theorem qqi (n:Nat) (a b:VD) (hn:100<=n):q55 n a b=some (j5w a b):=by
 unfold q55 j5w
 rw [q7z n a hn,q7z n b hn]
 cases hca:q0r a with
 | false=>rfl
 | true=>cases hcb:q0r b with
  | false=>rfl
  | true =>
   obtain ⟨-,-,-,h4,-⟩:=q19 hca
   obtain ⟨-,-,-,k4,-⟩:=q19 hcb
   have t1:=q4a h4
   have t2:=q4a k4
   simp only [Option.bind_some,Bool.not_true,cond_false,q39]
   rw [jac n _ _ (by omega) (by omega) ⟨by omega,by omega⟩]
   simp only [Option.bind_some,Bool.and_self,if_true]
   show _=some (or2 (q7p a.1 b.1) (or2 (q7p a.2.1 b.2.1) (or2 (q7p a.2.2.1 b.2.2.1) (q9h a.2.2.2.1 b.2.2.2.1))))
   have z : ∀x y:Int,q7p x y=0↔x=y:=fun x y=>q84.zero
   unfold or2
   simp only [z]
   by_cases e1:a.1=b.1
   ·by_cases e2:a.2.1=b.2.1
    ·by_cases e3:a.2.2.1=b.2.2.1<;>simp [e1,e2,e3]
    ·simp [e1,e2]
   ·simp [e1]
set_option synthInstance.maxSize 100000
set_option synthInstance.maxHeartbeats 0
theorem quv (n:Nat) (ws:List Lx.Wd) (w:Lx.Wd) (r:List Lx.Wd) (hws:ws=w::r) (mo go:Yy) (rq:List Rq) (sw:List Sw) (ex:List Rq) (rt:List Sp) (bk:Yy) (ln:Int) (a e l:List Int) (z1 z2 z3:Yy) (z4:Int) (hL:sw.length<=1000000) : ∀m j:Nat,j<=sw.length->sw.length - j<m ->
  q3n n m ws (j:Int) mo go rq sw ex rt bk ln a e l z1 z2 z3 z4=some (if (sw.drop j).any (fun q=>decide (q.1=w.1))=true then Sum.inl (((),(11,())),(((mo,(go,(rq,(sw,(ex,(rt,(bk,(ln,(a,(e,l)))))))))),()),()))
   else Sum.inr (((ws,((),((),()))),(((mo,(go,(rq,(sw,(ex,(rt,(bk,(ln,(a,(e,l)))))))))),((z1,(z2,((),((),((),((),(z3,(z4,((),((),())))))))))),())),()))))
 | 0,j,_,h=>absurd h (Nat.not_lt_zero _)
 | m+1,j,hj,h=>by
  rw [qbu]
  unfold qfe
  by_cases c0:j<sw.length
  ·have c0':((j:Nat):Int)<((sw.length:Nat):Int):=by omega
   have ih:=quv n ws w r hws mo go rq sw ex rt bk ln a e l z1 z2 z3 z4 hL m (j+1) (by omega) (by omega)
   have i0:q0d ws (0:Int)=some w:=by rw [hws];exact j3r w r
   rw [List.drop_eq_getElem_cons c0,List.any_cons]
   simp only [c0',decide_true,cond_true,q0k c0,i0,Option.bind_some,q00,q03 (show j<4611686018427387904 by omega)]
   by_cases h1:sw[j].1=w.1
   ·simp [h1]
   ·rw [decide_eq_false h1,cond_false,Bool.false_or];exact ih
  ·have c0' : ¬ ((j:Nat):Int)<((sw.length:Nat):Int):=by omega
   simp only [c0',decide_false,cond_false]
   rw [List.drop_eq_nil_of_le (by omega)]
   rfl
theorem ji3 (l:List Sw) (p:Yy):(l.any fun q=>decide (q.1=p))=true↔p∈l.map Prod.fst:=by
 rw [List.any_eq_true,List.mem_map]
 simp
theorem jju (n:Nat) (off:Int->Int) (M ln:Int) (σ:MS) (a l:List Int) (g:GoodM σ) (h:RR off M σ a l) (w b x:Lx.Wd) (hw:w.1.length<=100001) (hx:x.1.length<=100001) (hb:SB 200000 σ) (hn:1000000<n) :
  RL off M ln (q8z n (rst σ ln a l) [w,b,x]) (q8o σ (off ln) q6h [w,x]):=by
 obtain ⟨d1,d2,d3,d4,d5,d6,d7,d8,d9,d10⟩:=kd
 rw [show q8o σ (off ln) q6h [w,x]=(if okS w.1=false then .inl 6 else if q3e x.1=false then .inl 6 else q0p { σ with sw:=σ.sw ++ [(w.1,x.1)] } (q6h,(w.1,v0)) (off ln) x) from rfl]
 unfold q8z
 have i2:q0d [w,b,x] (2:Int)=some x:=rfl
 simp only [j3r,i2,Option.bind_some,q7r n w.1 (show _<=1000000 by omega) (show 2000<=n by omega),qbs n x.1 (show _<=1000000 by omega) (show 100<=n by omega)]
 cases okS w.1 with
 | false=>exact ⟨_,rfl⟩
 | true =>
  simp only [Bool.not_true,cond_false,Bool.true_eq_false,if_false]
  cases q3e x.1 with
  | false=>exact ⟨_,rfl⟩
  | true =>
   simp only [Bool.not_true,cond_false,Bool.true_eq_false,if_false]
   have hsl:σ.sw.length<=200000:=hb.2.1
   have hlp:=quv n [w,b,x] w [b,x] rfl σ.mo σ.go σ.rq σ.sw σ.ex σ.rt σ.bk ln a [] l [] [] [] 0 (by omega) n 0 (Nat.zero_le _) (by omega)
   rw [zI,List.drop_zero] at hlp
   rw [show q3n n n [w,b,x] 0 (rst σ ln a l).1 (rst σ ln a l).2.1 (rst σ ln a l).2.2.1 (rst σ ln a l).2.2.2.1 (rst σ ln a l).2.2.2.2.1 (rst σ ln a l).2.2.2.2.2.1 (rst σ ln a l).2.2.2.2.2.2.1 (rst σ ln a l).2.2.2.2.2.2.2.1 (rst σ ln a l).2.2.2.2.2.2.2.2.1 (rst σ ln a l).2.2.2.2.2.2.2.2.2.1 (rst σ ln a l).2.2.2.2.2.2.2.2.2.2 [] [] [] 0=_ from hlp]
   by_cases hm:w.1∈σ.sw.map Prod.fst
   ·have hc:q04 { σ with sw:=σ.sw ++ [(w.1,x.1)] } (q6h,(w.1,v0))=true:=(g.sk w.1).2 hm
    rw [q9j hc,(ji3 σ.sw w.1).2 hm]
    exact ⟨_,rfl⟩
   ·have hc:q04 { σ with sw:=σ.sw ++ [(w.1,x.1)] } (q6h,(w.1,v0))=false:=qe4 (g.sk w.1) hm
    have hany:(σ.sw.any fun y=>decide (y.1=w.1))=false:=by
     cases hh:(σ.sw.any fun y=>decide (y.1=w.1)) with
     | false=>rfl
     | true=>exact absurd ((ji3 _ _).1 hh) hm
    have a1:q1s 32 ([]:List Sw) σ.sw=some σ.sw:=q1q (by simp;omega)
    have a2:q1s 32 σ.sw [(w.1,x.1)]=some (σ.sw ++ [(w.1,x.1)]):=q1q (by simp;omega)
    rw [q7k hc,hany]
    refine ⟨a,l,?_,h.other rfl (fun p=>q2m (fun e=>d9 (congrArg Prod.fst e)) _ _)⟩
    simp only [Bool.false_eq_true,if_false,Option.bind_some,Sum.elim_inr,a1,a2,j3r,i2,rst]
theorem j1w (n:Nat) (off:Int->Int) (M ln:Int) (σ:MS) (a l:List Int) (h:RR off M σ a l) (ws:List Lx.Wd) (x y:Lx.Wd) (r:List Lx.Wd) (hws:(ws = [x]/\y=x/\r = [])\/(∃ p q s,ws = [p,x,q,y,s]/\r = [y])) (hx:x.1.length<=100001) (hy:y.1.length<=100001) (hb:SB 200000 σ) (hn:1000000<n) :
  RL off M ln (q9c n (rst σ ln a l) ws) (q8o σ (off ln) qe8 (x::r)):=by
 have hgl:(r.getLast?.getD x).1=y.1:=by
  rcases hws with ⟨_,rfl,rfl⟩|⟨p,q,s,_,rfl⟩<;>rfl
 rw [show q8o σ (off ln) qe8 (x::r)=(if (q09 x.1).2=false then .inl 7 else if (q09 ((r.getLast?.getD x).1)).2=false then .inl 7
  else if 0<j5w (q09 x.1).1 (q09 ((r.getLast?.getD x).1)).1 then .inl 7 else .inr { σ with rt:=σ.rt ++ [j4u (q09 x.1).1 (q09 ((r.getLast?.getD x).1)).1] }) from rfl,hgl]
 have hrl:σ.rt.length<=200000:=hb.2.2.2
 have hgen:RL off M ln (bif !(q09 x.1).2 then some (rst σ ln a l,(7:Int)) else (bif !(q09 y.1).2 then some (rst σ ln a l,7) else (q55 n (q09 x.1).1 (q09 y.1).1).bind fun r5=>(bif decide (0<r5) then some (rst σ ln a l,7) else (q1s 112 ([]:List Sp) (rst σ ln a l).2.2.2.2.2.1).bind fun l6=>(q1s 112 l6 ([j4u (q09 x.1).1 (q09 y.1).1])).bind fun l7=>some (((rst σ ln a l).1,((rst σ ln a l).2.1,((rst σ ln a l).2.2.1,((rst σ ln a l).2.2.2.1,((rst σ ln a l).2.2.2.2.1,(l7,(rst σ ln a l).2.2.2.2.2.2)))))),0))))
   (if (q09 x.1).2=false then .inl 7 else if (q09 y.1).2=false then .inl 7 else if 0<j5w (q09 x.1).1 (q09 y.1).1 then .inl 7 else .inr { σ with rt:=σ.rt ++ [j4u (q09 x.1).1 (q09 y.1).1] }):=by
  rw [qqi n _ _ (by omega)]
  cases (q09 x.1).2 with
  | false=>exact ⟨_,rfl⟩
  | true =>
   cases (q09 y.1).2 with
   | false=>exact ⟨_,rfl⟩
   | true =>
    simp only [Bool.not_true,cond_false,Bool.true_eq_false,if_false,Option.bind_some]
    by_cases hc:0<j5w (q09 x.1).1 (q09 y.1).1
    ·simp only [hc,decide_true,cond_true,if_true];exact ⟨_,rfl⟩
    ·have a1:q1s 112 ([]:List Sp) σ.rt=some σ.rt:=q1q (by simp;omega)
     have a2:q1s 112 σ.rt [j4u (q09 x.1).1 (q09 y.1).1]=some (σ.rt ++ [j4u (q09 x.1).1 (q09 y.1).1]):=q1q (by simp;omega)
     simp only [hc,decide_false,cond_false,if_false]
     refine ⟨a,l,?_,h.other rfl (fun p=>rfl)⟩
     simp only [rst,a1,a2,Option.bind_some]
 unfold q9c
 rcases hws with ⟨rfl,rfl,rfl⟩|⟨p,q,s,rfl,rfl⟩
 ·rw [show decide ((([y].length:Nat):Int)=5)=false from rfl,cond_false]
  simp only [j3r,Option.bind_some,q9z n y.1 (show 2000<=n by omega)]
  exact hgen
 ·have i1:q0d [p,x,q,y,s] (1:Int)=some x:=rfl
  have i3:q0d [p,x,q,y,s] (3:Int)=some y:=rfl
  rw [show decide ((([p,x,q,y,s].length:Nat):Int)=5)=true from rfl,cond_true]
  simp only [i1,i3,Option.bind_some,q9z n x.1 (show 2000<=n by omega),q9z n y.1 (show 2000<=n by omega)]
  exact hgen
theorem RL.some {off:Int->Int} {M ln:Int} {x:Option (RSt×Int)} {r:Int⊕MS} (h:RL off M ln x r) : ∃ y,x=some y:=by
 cases r with
 | inl e=>obtain ⟨S,e⟩:=h;exact ⟨_,e⟩
 | inr σ'=>obtain ⟨a,l,e,_⟩:=h;exact ⟨_,e⟩
theorem jc7 {ws:List Lx.Wd} (h:tk1 ws=true) : ∃ a,ws = [a]/\q2x a.1=false:=by
 match ws,h with
 | [a],h=>exact ⟨a,rfl,by simpa [tk1] using h⟩
theorem jdh {ws:List Lx.Wd} (h:tk2 ws=true) : ∃ a b,ws = [a,b]/\q2x a.1=false/\q2x b.1=false:=by
 match ws,h with
 | [a,b],h=>simp only [tk2,Bool.and_eq_true,Bool.not_eq_true'] at h;exact ⟨a,b,rfl,h.1,h.2⟩
theorem jng {ws:List Lx.Wd} (h:tk3 ws=true) : ∃ a b c,ws = [a,b,c]/\q2x a.1=false/\q2x b.1=true/\q2x c.1=false:=by
 match ws,h with
 | [a,b,c],h =>
  simp only [tk3,Bool.and_eq_true,Bool.not_eq_true',decide_eq_true_eq] at h
  exact ⟨a,b,c,rfl,h.1,by rw [h.2.1];decide,h.2.2⟩
theorem jo8 {ws:List Lx.Wd} (h:tk5 ws=true) : ∃ a b c d e,ws = [a,b,c,d,e]/\q2x a.1=true/\q2x b.1=false/\q2x c.1=true/\q2x d.1=false/\q2x e.1=true:=by
 match ws,h with
 | [a,b,c,d,e],h =>
  simp only [tk5,Bool.and_eq_true,Bool.not_eq_true',decide_eq_true_eq] at h
  exact ⟨a,b,c,d,e,rfl,by rw [h.1];decide,h.2.1,by rw [h.2.2.1];decide,h.2.2.2.1,by rw [h.2.2.2.2];decide⟩
theorem j1s (n:Nat) (off:Int->Int) (M ln:Int) (σ:MS) (a l:List Int) (g:GoodM σ) (h:RR off M σ a l) (v:Yy) (ws:List Lx.Wd) (hws:WB ws) (hb:SB 200000 σ) (hln:0<=ln/\ln<=M) (hn:1000000<n) :
  RL off M ln (q1h n (rst σ ln a l) v ws) (q4w σ (off ln) v ws):=by
 obtain ⟨d1,d2,d3,d4,d5,d6,d7,d8,d9,d10⟩:=kd
 have hsh:=j2c v ws
 unfold q1h q4w
 dsimp only
 rw [quu n v ws hws.1 (by omega),Option.bind_some]
 cases hf:fS v ws with
 | false =>
  rw [hf] at hsh
  rw [if_neg (of_decide_eq_false hsh)]
  exact ⟨_,rfl⟩
 | true =>
  rw [hf] at hsh
  rw [if_pos (of_decide_eq_true hsh),Bool.not_true,cond_false]
  by_cases h1:v=qae
  ·subst h1
   obtain ⟨w,rfl,m1⟩:=jc7 (ws:=ws) hf
   have hu:unm [w] = [w]:=by simp [unm,m1]
   have hq:=one_mod n off M ln σ a l g h w hws.head.1 hn
   rw [hu]
   simp only [decide_true,cond_true,j3r,Option.bind_some]
   obtain ⟨y,hy⟩:=hq.some
   rw [hy] at hq ⊢
   exact hq
  by_cases h2:v=kGo
  ·subst h2
   obtain ⟨w,rfl,m1⟩:=jc7 (ws:=ws) hf
   have hu:unm [w] = [w]:=by simp [unm,m1]
   have hq:=jpi n off M ln σ a l g h w hws.head.1 hn
   rw [hu]
   simp only [decide_eq_false h1,cond_false,decide_true,cond_true,j3r,Option.bind_some]
   obtain ⟨y,hy⟩:=hq.some
   rw [hy] at hq ⊢
   exact hq
  by_cases h3:v=q0s
  ·subst h3
   obtain ⟨w,x,rfl,m1,m2⟩:=jdh (ws:=ws) hf
   have hu:unm [w,x] = [w,x]:=by simp [unm,m1,m2]
   have hq:=jj5 n off M ln σ a l g h w x hws.head.1 hws.tail.head hb hln hn
   rw [hu]
   simp only [decide_eq_false h1,decide_eq_false h2,cond_false,decide_true,cond_true]
   obtain ⟨y,hy⟩:=hq.some
   rw [hy] at hq ⊢
   exact hq
  by_cases h4:v=q8p
  ·subst h4
   obtain ⟨w,x,rfl,m1,m2⟩:=jdh (ws:=ws) hf
   have hu:unm [w,x] = [w,x]:=by simp [unm,m1,m2]
   have hq:=jkw n off M ln σ a l g h w x hws.head.1 hws.tail.head.1 hb hn
   rw [hu]
   simp only [decide_eq_false h1,decide_eq_false h2,decide_eq_false h3,cond_false,decide_true,cond_true]
   obtain ⟨y,hy⟩:=hq.some
   rw [hy] at hq ⊢
   exact hq
  by_cases h5:v=q6h
  ·subst h5
   obtain ⟨w,b,x,rfl,m1,m2,m3⟩:=jng (ws:=ws) hf
   have hu:unm [w,b,x] = [w,x]:=by simp [unm,m1,m2,m3]
   have hq:=jju n off M ln σ a l g h w b x hws.head.1 hws.tail.tail.head.1 hb hn
   rw [hu]
   simp only [decide_eq_false h1,decide_eq_false h2,decide_eq_false h3,decide_eq_false h4,cond_false,decide_true,cond_true]
   obtain ⟨y,hy⟩:=hq.some
   rw [hy] at hq ⊢
   exact hq
  have h6:v=qe8:=by
   by_cases h6:v=qe8
   ·exact h6
   ·simp only [fS,if_neg h1,if_neg h2,if_neg h3,if_neg h4,if_neg h5,if_neg h6] at hf
    cases hf
  subst h6
  simp only [decide_eq_false h1,decide_eq_false h2,decide_eq_false h3,decide_eq_false h4,decide_eq_false h5,cond_false]
  have hor:tk1 ws=true\/tk5 ws=true:=by
   have:(tk1 ws||tk5 ws)=true:=hf
   simpa using this
  rcases hor with hk|hk
  ·obtain ⟨w,rfl,m1⟩:=jc7 hk
   have hu:unm [w] = [w]:=by simp [unm,m1]
   have hq:=j1w n off M ln σ a l h [w] w w [] (.inl ⟨rfl,rfl,rfl⟩) hws.head.1 hws.head.1 hb hn
   rw [hu]
   obtain ⟨y,hy⟩:=hq.some
   rw [hy] at hq ⊢
   exact hq
  ·obtain ⟨p,x,q,y,s,rfl,m1,m2,m3,m4,m5⟩:=jo8 hk
   have hu:unm [p,x,q,y,s] = [x,y]:=by simp [unm,m1,m2,m3,m4,m5]
   have hq:=j1w n off M ln σ a l h [p,x,q,y,s] x y [y] (.inr ⟨p,q,s,rfl,rfl⟩) hws.tail.head.1 hws.tail.tail.tail.head.1 hb hn
   rw [hu]
   obtain ⟨y,hy⟩:=hq.some
   rw [hy] at hq ⊢
   exact hq
set_option synthInstance.maxSize 100000
set_option synthInstance.maxHeartbeats 0
theorem j09 {m:Yy} (hm:q2x m=true) (hs:spl 32 [] m = [m]) (hne:m ≠ []) (ws:List Lx.Wd):shp ws=m ↔ ∃ x,ws = [x]/\x.1=m:=by
 rw [qi3 hne hs (Lib.join_one _ _)]
 constructor
 ·intro h
  match ws,h with
  | [x],h=>exact ⟨x,rfl,(j5b x hm).1 (List.cons.inj h).1⟩
 ·rintro ⟨x,rfl,h⟩
  rw [List.map_cons,List.map_nil,(j5b x hm).2 h]
theorem jl0 (ws:List Lx.Wd):shp ws = [40] ↔ ∃ x,ws = [x]/\x.1 = [40]:=j09 (by decide) (by decide) (by decide) ws
theorem jm2 (ws:List Lx.Wd):shp ws = [41] ↔ ∃ x,ws = [x]/\x.1 = [41]:=j09 (by decide) (by decide) (by decide) ws
theorem RR.bk {off:Int->Int} {M:Int} {σ:MS} {a l:List Int} (h:RR off M σ a l) (b:Yy):RR off M { σ with bk:=b } a l:=h.other rfl (fun p=>rfl)
theorem jgu (n:Nat) (off:Int->Int) (M ln:Int) (σ:MS) (a l:List Int) (g:GoodM σ) (h:RR off M σ a l) (ws:List Lx.Wd) (hws:WB ws) (hb:SB 200000 σ) (hln:0<=ln/\ln<=M) (hn:1000000<n) :
  RL off M ln (qdp n (rst σ ln a l) ws) (q3j σ (off ln) ws):=by
 unfold qdp
 cases ws with
 | nil=>exact ⟨a,l,rfl,h⟩
 | cons w r =>
  have hwl:=hws.1
  have c0 : ¬ ((((w::r).length:Nat):Int)=0):=by simp only [List.length_cons];omega
  have hsub:q1a (w::r) (1:Int) (((w::r).length:Nat):Int)=some r:=by
   have:=sub_le (l:=w::r) (a:=1) (b:=(w::r).length) (by simp) (Nat.le_refl _)
   rw [show ((1:Nat):Int)=(1:Int) from rfl] at this
   rw [this];simp
  unfold q3j
  simp only [c0,decide_false,cond_false,j3r,hsub,Option.bind_some]
  by_cases hb0:σ.bk = []
  ·have e1:decide ((rst σ ln a l).2.2.2.2.2.2.1 = [])=true:=decide_eq_true hb0
   rw [e1,Bool.not_true,cond_false]
   simp only [if_pos hb0]
   have hst:=j1s n off M ln σ a l g h w.1 r hws.tail hb hln hn
   obtain ⟨y,hy⟩:=hst.some
   rw [hy] at hst ⊢
   by_cases hl:(((w::r).length:Nat):Int)=2
   ·rw [decide_eq_true hl,cond_true]
    obtain ⟨x,rfl⟩ : ∃ x,r = [x]:=len1 (by simp only [List.length_cons] at hl;omega)
    simp only [jn0,Option.bind_some]
    by_cases hx:x.1 = [40]
    ·rw [decide_eq_true hx,cond_true]
     have hs40:shp [x] = [40]:=(jl0 _).2 ⟨x,rfl,hx⟩
     have hgo : ∀b,RL off M ln (some (((rst σ ln a l).1,((rst σ ln a l).2.1,((rst σ ln a l).2.2.1,((rst σ ln a l).2.2.2.1,((rst σ ln a l).2.2.2.2.1,((rst σ ln a l).2.2.2.2.2.1,(b,(rst σ ln a l).2.2.2.2.2.2.2))))))),(0:Int))) (.inr { σ with bk:=b }):=fun b=>⟨a,l,rfl,h.bk b⟩
     by_cases k1:w.1=q0s
     ·rw [decide_eq_true k1,cond_true,if_pos ⟨by rw [k1];decide,hs40⟩];exact hgo w.1
     rw [decide_eq_false k1,cond_false]
     by_cases k2:w.1=q8p
     ·rw [decide_eq_true k2,cond_true,if_pos ⟨by rw [k2];decide,hs40⟩];exact hgo w.1
     rw [decide_eq_false k2,cond_false]
     by_cases k3:w.1=q6h
     ·rw [decide_eq_true k3,cond_true,if_pos ⟨by rw [k3];decide,hs40⟩];exact hgo w.1
     rw [decide_eq_false k3,cond_false]
     by_cases k4:w.1=qe8
     ·rw [decide_eq_true k4,cond_true,if_pos ⟨by rw [k4];decide,hs40⟩];exact hgo w.1
     rw [decide_eq_false k4,cond_false]
     have hnb:q6i w.1=false:=by simp only [q6i,decide_eq_false k1,decide_eq_false k2,decide_eq_false k3,decide_eq_false k4,Bool.or_self]
     rw [if_neg (fun hh=>by rw [hnb] at hh;cases hh.1)]
     exact hst
    ·rw [decide_eq_false hx,cond_false,if_neg (fun hh=>by obtain ⟨x',e,hx'⟩:=(jl0 _).1 hh.2;cases e;exact hx hx')]
     exact hst
   ·rw [decide_eq_false hl,cond_false,if_neg (fun hh=>by obtain ⟨x',e,hx'⟩:=(jl0 _).1 hh.2;rw [e] at hl;exact hl rfl)]
    exact hst
  ·have e1:decide ((rst σ ln a l).2.2.2.2.2.2.1 = [])=false:=decide_eq_false hb0
   rw [e1,Bool.not_false,cond_true]
   simp only [if_neg hb0]
   have hst:=j1s n off M ln σ a l g h σ.bk (w::r) hws hb hln hn
   obtain ⟨y,hy⟩:=hst.some
   rw [show (rst σ ln a l).2.2.2.2.2.2.1=σ.bk from rfl,hy]
   rw [hy] at hst
   by_cases hl:(((w::r).length:Nat):Int)=1
   ·rw [decide_eq_true hl,cond_true]
    obtain rfl:r = []:=by
     cases r with
     | nil=>rfl
     | cons=>simp only [List.length_cons] at hl;omega
    by_cases hx:w.1 = [41]
    ·rw [decide_eq_true hx,cond_true,if_pos ((jm2 _).2 ⟨w,rfl,hx⟩)]
     exact ⟨a,l,rfl,h.bk []⟩
    ·rw [decide_eq_false hx,cond_false,if_neg (fun hh=>by obtain ⟨x',e,hx'⟩:=(jm2 _).1 hh;cases e;exact hx hx')]
     exact hst
   ·rw [decide_eq_false hl,cond_false,if_neg (fun hh=>by obtain ⟨x',e,hx'⟩:=(jm2 _).1 hh;rw [e] at hl;exact hl rfl)]
    exact hst
def jdv (ls:List Yy) (k:Int):Int:=((tot (ls.take k.toNat):Nat):Int)
theorem j92 : ∀a b:List Yy,tot (a++b)=tot a+tot b
 | [],b=>by simp [tot]
 | x::a,b=>by rw [List.cons_append,tot,tot,j92 a b];omega
theorem j78 (ls:List Yy) (j:Nat) (h:j<ls.length):jdv ls ((j+1:Nat):Int)=jdv ls (j:Int)+((ls[j].length:Nat):Int)+1:=by
 unfold jdv
 rw [Int.toNat_natCast,Int.toNat_natCast,List.take_succ_eq_append_getElem h,j92]
 simp [tot];omega
theorem j1y (n:Nat) (ls:List Yy) (hl:ls.length<=100001) (hx : ∀x∈ls,x.length<=100001) (hn:1000000<n) (z1 z2 z3:Yy) (z4:Int) :
  ∀(m j:Nat) (σ:MS) (ln:Int) (a l:List Int),j<=ls.length->ls.length - j<m->GoodM σ->SB j σ->RR (jdv ls) (((ls.length:Nat):Int) - 1) σ a l ->
  match q1v (ls.drop j) (j:Int) (jdv ls (j:Int)) σ with
  | .inl e=>∃ y,q3r n m (ls.map Lx.qdc) (j:Int) z1 z2 z3 z4 σ.mo σ.go σ.rq σ.sw σ.ex σ.rt σ.bk ln a [] l=some (Sum.inl (((),(e.1,(e.2,()))),(((([]:Yy),(([]:Yy),((),((),((),((),(([]:Yy),((0:Int),((),((),())))))))))),()),y)))
  | .inr σ'=>∃ ln' a' l',q3r n m (ls.map Lx.qdc) (j:Int) z1 z2 z3 z4 σ.mo σ.go σ.rq σ.sw σ.ex σ.rt σ.bk ln a [] l=some (Sum.inr ((((),(ls.map Lx.qdc,((),()))),(((z1,(z2,((),((),((),((),(z3,(z4,((),((),())))))))))),(rst σ' ln' a' l',())),()))))/\RR (jdv ls) (((ls.length:Nat):Int) - 1) σ' a' l'
 | 0,j,σ,ln,a,l,_,h,_,_,_=>absurd h (Nat.not_lt_zero _)
 | m+1,j,σ,ln,a,l,hj,h,g,hs,hr=>by
  rw [qdi]
  unfold qf0
  have hml:(ls.map Lx.qdc).length=ls.length:=List.length_map ..
  by_cases c0:j<ls.length
  ·have c0':((j:Nat):Int)<(((ls.map Lx.qdc).length:Nat):Int):=by rw [hml];omega
   rw [List.drop_eq_getElem_cons c0,q1v]
   have hxj:=hx ls[j] (List.getElem_mem c0)
   have i2:q0d (ls.map Lx.qdc) (j:Int)=some (Lx.qdc ls[j]):=by
    rw [q0k (by rw [List.length_map];exact c0)];simp
   have hL:=jgu n (jdv ls) (((ls.length:Nat):Int) - 1) (j:Int) σ a l g hr (q0w ls[j]) (qzt _ hxj) (hs.mono (by omega)) ⟨by omega,by omega⟩ hn
   simp only [c0',decide_true,cond_true,i2,Option.bind_some]
   rw [show ((σ.mo,(σ.go,(σ.rq,(σ.sw,(σ.ex,(σ.rt,(σ.bk,((j:Int),(a,(([]:List Int),l)))))))))):RSt)=rst σ (j:Int) a l from rfl]
   rw [show (Lx.qdc ls[j]).1=q0w ls[j] from rfl]
   cases hlS:q3j σ (jdv ls (j:Int)) (q0w ls[j]) with
   | inl e =>
    rw [hlS] at hL
    obtain ⟨S,e1⟩:=hL
    have hne:=j2p hlS
    rw [e1]
    exact ⟨(),by simp only [Option.bind_some,hne,decide_false,Bool.not_false,cond_true]⟩
   | inr σ' =>
    rw [hlS] at hL
    obtain ⟨a',l',e1,hr'⟩:=hL
    rw [e1]
    have ih:=j1y n ls hl hx hn z1 z2 z3 z4 m (j+1) σ' (j:Int) a' l' (by omega) (by omega) (qcc g hlS) (qyd hs hlS) hr'
    rw [j78 ls j c0] at ih
    simp only [Option.bind_some,decide_true,Bool.not_true,cond_false,q00,q03 (show j<4611686018427387904 by omega)]
    exact ih
  ·have c0' : ¬ ((j:Nat):Int)<(((ls.map Lx.qdc).length:Nat):Int):=by rw [hml];omega
   simp only [c0',decide_false,cond_false]
   rw [List.drop_eq_nil_of_le (by omega),q1v]
   exact ⟨ln,a,l,rfl,hr⟩
theorem qsr (n:Nat) (s:Yy) (hs:s.length<=100000) (hn:1000000<n) :
  match q9e s with
  | .inl e=>∃ S:RSt,q8y n s=some (S,e)/\((S.1,(S.2.1,(S.2.2.1,(S.2.2.2.1,(S.2.2.2.2.1,S.2.2.2.2.2.1))))):MD)=md0
  | .inr (σ,k)=>∃ ln a l,q8y n s=some (rst σ ln a l,(k,0))/\RR (jdv (Lx.q0a s)) ((((Lx.q0a s).length:Nat):Int) - 1) σ a l:=by
 unfold q9e q8y
 obtain ⟨l1,l2⟩:=Lx.q5h s
 rw [Lx.jfi n s hs (by omega)]
 by_cases h9:(Lx.q2w (Lx.q0a s) 0 []).2.2=0
 ·rw [if_neg (by simp [h9]),qja _ _ _ h9]
  have hlp:=j1y n (Lx.q0a s) (by omega) (fun x hx=>by have:=l2 x hx;omega) hn [] [] [] 0 n 0 ms0 0 [] [] (Nat.zero_le _) (by omega) jix ⟨Nat.le_refl _,Nat.le_refl _,Nat.le_refl _,Nat.le_refl _⟩ ⟨rfl,rfl,fun i q hq=>by cases hq⟩
  rw [zI,List.drop_zero,show jdv (Lx.q0a s) 0=0 from rfl] at hlp
  rw [show ms0.mo = [] from rfl,show ms0.go = [] from rfl,show ms0.bk = [] from rfl,show ms0.rq = [] from rfl,show ms0.sw = [] from rfl,show ms0.ex = [] from rfl,show ms0.rt = [] from rfl] at hlp
  have hml:((Lx.q0a s).map Lx.qdc).length=(Lx.q0a s).length:=List.length_map ..
  simp only [Option.bind_some,decide_true,Bool.not_true,cond_false,List.nil_append]
  cases hr:q1v (Lx.q0a s) 0 0 ms0 with
  | inl e =>
   rw [hr] at hlp
   obtain ⟨y,hy⟩:=hlp
   rw [hy]
   exact ⟨_,rfl,rfl⟩
  | inr σ =>
   rw [hr] at hlp
   obtain ⟨ln,a,l,hy,hrr⟩:=hlp
   rw [hy]
   simp only [Option.bind_some,Sum.elim_inr,rst,hml]
   by_cases hb:σ.bk = []
   ·by_cases hm:σ.mo = []
    ·simp only [hb,hm,decide_true,Bool.not_true,cond_false,cond_true,ne_eq,not_true_eq_false,if_false,if_true]
     exact ⟨_,rfl,rfl⟩
    ·simp only [hb,hm,decide_true,decide_false,Bool.not_true,cond_false,ne_eq,not_true_eq_false,if_false]
     exact ⟨ln,a,l,by rw [<-hb],hrr⟩
   ·simp only [hb,decide_false,Bool.not_false,cond_true,ne_eq,not_false_eq_true,if_true]
    exact ⟨_,rfl,rfl⟩
 ·rw [if_pos h9]
  simp only [Option.bind_some,decide_eq_false h9,Bool.not_false,cond_true]
  exact ⟨_,rfl,rfl⟩
theorem qcf (n:Nat) (s:Yy) (hs:s.length<=100000) (hn:1000000<n):q78 n s=some (q6v s):=by
 have h:=qsr n s hs hn
 unfold q78 q6v
 cases hr:q9e s with
 | inl e =>
  rw [hr] at h
  obtain ⟨S,h1,h2⟩:=h
  rw [h1,Option.bind_some]
  show some (((S.1,(S.2.1,(S.2.2.1,(S.2.2.2.1,(S.2.2.2.2.1,S.2.2.2.2.2.1))))):MD),e)=_
  rw [h2]
 | inr x =>
  obtain ⟨σ,k⟩:=x
  rw [hr] at h
  obtain ⟨ln,a,l,h1,_⟩:=h
  rw [h1]
  rfl
set_option synthInstance.maxSize 100000
set_option synthInstance.maxHeartbeats 0
def swp (p:Yy) (v':VD) (l:List Rq):List Rq:=l.map fun q=>if q.1=p then (p,v') else q
def shf (K δ:Int) (y:Int×Int):Int×Int:=if y.1<K then y else (y.1+δ,y.2+δ)
structure Sv (p:Yy) (v':VD) (K k δ:Int) (σ τ:MS):Prop where
 mo:τ.mo=σ.mo
 go:τ.go=σ.go
 bk:τ.bk=σ.bk
 rq:τ.rq=swp p v' σ.rq
 sw:τ.sw=σ.sw
 ex:τ.ex=σ.ex
 rt:τ.rt=σ.rt
 cl : ∀c,q04 τ c=q04 σ c
 ip:q04 σ (q0s,(p,v0))=true
 po : ∀p2,p2≠p->q02 clT (q0s,(p2,v0)) τ.sd=(q02 clT (q0s,(p2,v0)) σ.sd).map (shf K δ)
 me:q02 clT (q0s,(p,v0)) τ.sd=some (K,K+(((q08 v').length:Nat):Int))
 kp:0<=k
 dj : ∀p2,p2≠p->∀y,q02 clT (q0s,(p2,v0)) σ.sd=some y->y.2<=K\/K+k<=y.1
theorem jfq {p:Yy} {v':VD} {K k δ:Int} {σ τ:MS} (h:Sv p v' K k δ σ τ) {c:Cl} {st:Int} {w:Lx.Wd} (hc:q04 σ c=false) (hK:K+k<=st+w.2):Sv p v' K k δ { σ with sd:=q0x clT c (ps st w) σ.sd } { τ with sd:=q0x clT c (ps (st+δ) w) τ.sd }:=by
 have hcp:c≠(q0s,(p,v0)):=fun e=>by rw [e,h.ip] at hc;cases hc
 have hkp:=h.kp
 refine ⟨h.mo,h.go,h.bk,h.rq,h.sw,h.ex,h.rt,fun c'=>?_,?_,fun p2 hp=>?_,?_,h.kp,fun p2 hp y hy=>?_⟩
 ·have:=h.cl c'
  unfold q04 at this ⊢
  show (q02 clT c' (q0x clT c _ τ.sd)).isSome=(q02 clT c' (q0x clT c _ σ.sd)).isSome
  rw [q29,q29]
  cases eqT clT c' c with
  | true=>rfl
  | false=>exact this
 ·have:=h.ip
  unfold q04 at this ⊢
  show (q02 clT (q0s,(p,v0)) (q0x clT c _ σ.sd)).isSome=true
  rw [q2m (Ne.symm hcp)]
  exact this
 ·show q02 clT (q0s,(p2,v0)) (q0x clT c _ τ.sd)=(q02 clT (q0s,(p2,v0)) (q0x clT c _ σ.sd)).map (shf K δ)
  rw [q29,q29]
  cases eqT clT (q0s,(p2,v0)) c with
  | true =>
   simp only [cond_true,Option.map_some,ps,shf]
   rw [if_neg (by omega)]
   congr 1
   refine Prod.ext ?_ ?_<;>simp only<;>omega
  | false=>exact h.po p2 hp
 ·show q02 clT (q0s,(p,v0)) (q0x clT c _ τ.sd)=_
  rw [q2m (Ne.symm hcp)]
  exact h.me
 ·replace hy:q02 clT (q0s,(p2,v0)) (q0x clT c (ps st w) σ.sd)=some y:=hy
  rw [q29] at hy
  cases hk:eqT clT (q0s,(p2,v0)) c with
  | true =>
   rw [hk,cond_true] at hy
   rw [<-Option.some.inj hy]
   exact .inr hK
  | false =>
   rw [hk,cond_false] at hy
   exact h.dj p2 hp y hy
theorem jdl {p:Yy} {v':VD} {K k δ:Int} {σ τ σ':MS} (h:Sv p v' K k δ σ τ) {c:Cl} {st:Int} {w:Lx.Wd} (hK:K+k<=st+w.2) (e:q0p σ c st w = .inr σ') : ∃ τ',q0p τ c (st+δ) w = .inr τ'/\Sv p v' K k δ σ' τ':=by
 obtain ⟨hc,rfl⟩:=q3k e
 exact ⟨_,q7k (by rw [h.cl];exact hc),jfq h hc hK⟩
theorem qsb (σ:MS) (st:Int) (v:Yy) (w:Lx.Wd) (r:List Lx.Wd):q8o σ st v (w::r) =
  if v=qae then (if okS w.1=false then .inl 6 else q0p { σ with mo:=w.1 } (qae,([],v0)) st w)
  else if v=kGo then (if q8s w.1=false then .inl 7 else q0p { σ with go:=w.1 } (kGo,([],v0)) st w)
  else if v=q0s then (match qe7 w.1 ((r.headD ([],0)).1) with
   | .inl e=>.inl e
   | .inr q=>q0p { σ with rq:=σ.rq ++ [q] } (q0s,(q.1,v0)) st (r.headD ([],0)))
  else if v=q8p then (match qe7 w.1 ((r.headD ([],0)).1) with
   | .inl e=>.inl e
   | .inr q=>q0p { σ with ex:=σ.ex ++ [q] } (q8p,(q.1,q.2)) st (r.headD ([],0)))
  else if v=q6h then (if okS w.1=false then .inl 6 else if q3e ((r.headD ([],0)).1)=false then .inl 6 else q0p { σ with sw:=σ.sw ++ [(w.1,(r.headD ([],0)).1)] } (q6h,(w.1,v0)) st (r.headD ([],0)))
  else if (q09 w.1).2=false then .inl 7 else if (q09 ((r.getLast?.getD w).1)).2=false then .inl 7
  else if 0<j5w (q09 w.1).1 (q09 ((r.getLast?.getD w).1)).1 then .inl 7 else .inr { σ with rt:=σ.rt ++ [j4u (q09 w.1).1 (q09 ((r.getLast?.getD w).1)).1] }:=rfl
theorem jod {p:Yy} {v':VD} {K k δ:Int} {σ τ σ':MS} (h:Sv p v' K k δ σ τ) {st:Int} (v:Yy) {ws:List Lx.Wd} (hK:K+k<=st) (hw : ∀w∈ws,0<=w.2) (e:q8o σ st v ws = .inr σ') : ∃ τ',q8o τ (st+δ) v ws = .inr τ'/\Sv p v' K k δ σ' τ':=by
 cases ws with
 | nil=>cases e
 | cons w r =>
  have w0:=hw w (List.mem_cons_self ..)
  have w1:0<=(r.headD ([],0)).2:=by
   cases r with
   | nil=>exact Int.le_refl _
   | cons x r=>exact hw x (by simp)
  rw [qsb] at e ⊢
  split at e
  ·rename_i hv
   rw [if_pos hv]
   split at e
   ·cases e
   ·rename_i h1
    rw [if_neg h1]
    exact jdl (σ:={ σ with mo:=w.1 }) (τ:={ τ with mo:=w.1 }) ⟨rfl,h.go,h.bk,h.rq,h.sw,h.ex,h.rt,h.cl,h.ip,h.po,h.me,h.kp,h.dj⟩ (by omega) e
  ·rename_i hv
   rw [if_neg hv]
   split at e
   ·rename_i hv2
    rw [if_pos hv2]
    split at e
    ·cases e
    ·rename_i h1
     rw [if_neg h1]
     exact jdl (σ:={ σ with go:=w.1 }) (τ:={ τ with go:=w.1 }) ⟨h.mo,rfl,h.bk,h.rq,h.sw,h.ex,h.rt,h.cl,h.ip,h.po,h.me,h.kp,h.dj⟩ (by omega) e
   ·rename_i hv2
    rw [if_neg hv2]
    split at e
    ·rename_i hv3
     rw [if_pos hv3]
     cases hq:qe7 w.1 ((r.headD ([],0)).1) with
     | inl e1=>rw [hq] at e;cases e
     | inr q =>
      rw [hq] at e
      have hne:q.1≠p:=fun hqp=>by
       have:=(q3k e).1
       rw [hqp] at this
       have hi:q04 { σ with rq:=σ.rq ++ [q] } (q0s,(p,v0))=true:=h.ip
       rw [hi] at this
       cases this
      exact jdl (σ:={ σ with rq:=σ.rq ++ [q] }) (τ:={ τ with rq:=τ.rq ++ [q] }) ⟨h.mo,h.go,h.bk,by show τ.rq ++ [q]=swp p v' (σ.rq ++ [q]);rw [h.rq];simp [swp,hne],h.sw,h.ex,h.rt,h.cl,h.ip,h.po,h.me,h.kp,h.dj⟩ (by omega) e
    ·rename_i hv3
     rw [if_neg hv3]
     split at e
     ·rename_i hv4
      rw [if_pos hv4]
      cases hq:qe7 w.1 ((r.headD ([],0)).1) with
      | inl e1=>rw [hq] at e;cases e
      | inr q =>
       rw [hq] at e
       exact jdl (σ:={ σ with ex:=σ.ex ++ [q] }) (τ:={ τ with ex:=τ.ex ++ [q] }) ⟨h.mo,h.go,h.bk,h.rq,h.sw,by show τ.ex ++ [q]=σ.ex ++ [q];rw [h.ex],h.rt,h.cl,h.ip,h.po,h.me,h.kp,h.dj⟩ (by omega) e
     ·rename_i hv4
      rw [if_neg hv4]
      split at e
      ·rename_i hv5
       rw [if_pos hv5]
       split at e
       ·cases e
       ·rename_i h1
        rw [if_neg h1]
        split at e
        ·cases e
        ·rename_i h2
         rw [if_neg h2]
         exact jdl (σ:={ σ with sw:=σ.sw ++ [(w.1,(r.headD ([],0)).1)] }) (τ:={ τ with sw:=τ.sw ++ [(w.1,(r.headD ([],0)).1)] }) ⟨h.mo,h.go,h.bk,h.rq,by show τ.sw++_=σ.sw++_;rw [h.sw],h.ex,h.rt,h.cl,h.ip,h.po,h.me,h.kp,h.dj⟩ (by omega) e
      ·rename_i hv5
       rw [if_neg hv5]
       split at e
       ·cases e
       ·rename_i h1
        rw [if_neg h1]
        split at e
        ·cases e
        ·rename_i h2
         rw [if_neg h2]
         split at e
         ·cases e
         ·rename_i h3
          rw [if_neg h3]
          cases e
          exact ⟨_,rfl,⟨h.mo,h.go,h.bk,h.rq,h.sw,h.ex,by show τ.rt++_=σ.rt++_;rw [h.rt],h.cl,h.ip,h.po,h.me,h.kp,h.dj⟩⟩
theorem j85 {p:Yy} {v':VD} {K k δ:Int} {σ τ σ':MS} (h:Sv p v' K k δ σ τ) {st:Int} (v:Yy) {ws:List Lx.Wd} (hK:K+k<=st) (hw : ∀w∈ws,0<=w.2) (e:q4w σ st v ws = .inr σ') : ∃ τ',q4w τ (st+δ) v ws = .inr τ'/\Sv p v' K k δ σ' τ':=by
 unfold q4w at e ⊢
 split at e
 ·rename_i hm
  rw [if_pos hm]
  exact jod h v hK (fun w hw2=>hw w (List.mem_filter.1 hw2).1) e
 ·cases e
theorem jou {p:Yy} {v':VD} {K k δ:Int} {σ τ:MS} (h:Sv p v' K k δ σ τ) (b:Yy):Sv p v' K k δ { σ with bk:=b } { τ with bk:=b }:=⟨h.mo,h.go,rfl,h.rq,h.sw,h.ex,h.rt,h.cl,h.ip,h.po,h.me,h.kp,h.dj⟩
theorem jjp {p:Yy} {v':VD} {K k δ:Int} {σ τ σ':MS} (h:Sv p v' K k δ σ τ) {st:Int} {ws:List Lx.Wd} (hK:K+k<=st) (hw : ∀w∈ws,0<=w.2) (e:q3j σ st ws = .inr σ') : ∃ τ',q3j τ (st+δ) ws = .inr τ'/\Sv p v' K k δ σ' τ':=by
 cases ws with
 | nil=>cases e;exact ⟨τ,rfl,h⟩
 | cons w r =>
  unfold q3j at e ⊢
  simp only at e ⊢
  rw [h.bk]
  split at e
  ·rename_i hb
   rw [if_pos hb]
   split at e
   ·rename_i hc
    rw [if_pos hc]
    cases e
    exact ⟨_,rfl,jou h w.1⟩
   ·rename_i hc
    rw [if_neg hc]
    exact j85 h w.1 hK (fun x hx=>hw x (List.mem_cons_of_mem _ hx)) e
  ·rename_i hb
   rw [if_neg hb]
   split at e
   ·rename_i hc
    rw [if_pos hc]
    cases e
    exact ⟨_,rfl,jou h []⟩
   ·rename_i hc
    rw [if_neg hc]
    exact j85 h σ.bk hK hw e
theorem jgr (t:Yy) : ∀w∈q0w t,0<=w.2:=fun w hw=>(qql t w hw).1
theorem jar {p:Yy} {v':VD} {K k δ:Int} : ∀(ls:List Yy) (i i' st:Int) (σ τ σ':MS),Sv p v' K k δ σ τ->K+k<=st->q1v ls i st σ = .inr σ'->∃ τ',q1v ls i' (st+δ) τ = .inr τ'/\Sv p v' K k δ σ' τ'
 | [],i,i',st,σ,τ,σ',h,_,e=>by cases e;exact ⟨τ,rfl,h⟩
 | t::ts,i,i',st,σ,τ,σ',h,hK,e=>by
  rw [q1v] at e ⊢
  split at e
  ·cases e
  ·rename_i σ1 h1
   obtain ⟨τ1,h2,h3⟩:=jjp h hK (jgr t) h1
   rw [h2]
   have:=jar ts _ (i'+1) _ σ1 τ1 σ' h3 (by omega) e
   rw [show st+δ+((t.length:Nat):Int)+1=st+((t.length:Nat):Int)+1+δ by omega]
   exact this
set_option synthInstance.maxSize 100000
set_option synthInstance.maxHeartbeats 0
def jku (σ σ':MS):Prop:=σ'.rq=σ.rq/\∀p,q02 clT (q0s,(p,v0)) σ'.sd=q02 clT (q0s,(p,v0)) σ.sd
theorem qah {σ σ':MS} {a:Yy} {y:Yy×VD} {st:Int} {w:Lx.Wd} (ha:q0s≠a) (e:q0p σ (a,y) st w = .inr σ'):σ'.rq=σ.rq/\∀p,q02 clT (q0s,(p,v0)) σ'.sd=q02 clT (q0s,(p,v0)) σ.sd:=by
 obtain ⟨_,rfl⟩:=q3k e
 exact ⟨rfl,fun p=>q2m (fun h=>ha (congrArg Prod.fst h)) _ _⟩
theorem j8q {σ σ':MS} {v:Yy} {ws:List Lx.Wd} {st:Int} (hv:v≠q0s) (e:q8o σ st v ws = .inr σ'):jku σ σ':=by
 obtain ⟨d1,d2,d3,d4,d5,d6,d7,d8,d9,d10⟩:=kd
 cases ws with
 | nil=>cases e
 | cons w r =>
  rw [qsb] at e
  split at e
  ·split at e
   ·cases e
   ·exact qah (σ:={ σ with mo:=w.1 }) d2.symm e
  ·split at e
   ·split at e
    ·cases e
    ·exact qah (σ:={ σ with go:=w.1 }) d5.symm e
   ·split at e
    ·cases hq:qe7 w.1 ((r.headD ([],0)).1) with
     | inl e1=>rw [hq] at e;cases e
     | inr q=>rw [hq] at e;exact qah (σ:={ σ with ex:=σ.ex ++ [q] }) d8 e
    ·split at e
     ·split at e
      ·cases e
      ·split at e
       ·cases e
       ·exact qah (σ:={ σ with sw:=σ.sw ++ [(w.1,(r.headD ([],0)).1)] }) d9 e
     ·split at e
      ·cases e
      ·split at e
       ·cases e
       ·split at e
        ·cases e
        ·cases e;exact ⟨rfl,fun p=>rfl⟩
def NewR (σ σ':MS) (st:Int) (w x:Lx.Wd) (q:Rq):Prop:=w.1=q.1/\x.1=q08 q.2/\q3c q.1 q.2=true/\q04 σ (q0s,(q.1,v0))=false/\σ' = { σ with rq:=σ.rq ++ [q],sd:=q0x clT (q0s,(q.1,v0)) (ps st x) σ.sd }
theorem qob {σ σ':MS} {v:Yy} {ws:List Lx.Wd} {st:Int} (e:q4w σ st v ws = .inr σ'):jku σ σ'\/(v=q0s/\∃ w x q,ws = [w,x]/\NewR σ σ' st w x q):=by
 unfold q4w at e
 split at e
 ·rename_i hm
  by_cases hv:v=q0s
  ·subst hv
   have hf:=j2c q0s ws
   rw [decide_eq_true hm] at hf
   obtain ⟨w,x,rfl,m1,m2⟩:=jdh (ws:=ws) hf.symm
   have hu:unm [w,x] = [w,x]:=by simp [unm,m1,m2]
   rw [hu] at e
   replace e:(match qe7 w.1 x.1 with
    | .inl e=>(Sum.inl e:Int⊕MS)
    | .inr q=>q0p { σ with rq:=σ.rq ++ [q] } (q0s,(q.1,v0)) st x) = .inr σ':=e
   cases hq:qe7 w.1 x.1 with
   | inl e1=>rw [hq] at e;cases e
   | inr q =>
    rw [hq] at e
    obtain ⟨q1,q2,q3⟩:=qqk hq
    obtain ⟨hc,rfl⟩:=q3k e
    exact .inr ⟨rfl,w,x,q,rfl,q1.symm,q3.symm,q2,hc,rfl⟩
  ·exact .inl (j8q hv e)
 ·cases e
def Lead (σ:MS) (A:List Lx.Wd):Prop:=(A = []/\σ.bk=q0s) \/ ∃ k:Lx.Wd,A = [k]/\k.1=q0s/\σ.bk = []
theorem j5e {σ σ':MS} {ws:List Lx.Wd} {st:Int} (e:q3j σ st ws = .inr σ'):jku σ σ' \/ ∃ A w x q,ws=A ++ [w,x]/\Lead σ A/\NewR σ σ' st w x q:=by
 cases ws with
 | nil=>cases e;exact .inl ⟨rfl,fun _=>rfl⟩
 | cons k r =>
  unfold q3j at e
  simp only at e
  split at e
  ·rename_i hb
   split at e
   ·cases e;exact .inl ⟨rfl,fun _=>rfl⟩
   ·rcases qob e with h|⟨h1,w,x,q,h2,h3⟩
    ·exact .inl h
    ·exact .inr ⟨[k],w,x,q,by rw [h2];rfl,.inr ⟨k,rfl,h1,hb⟩,h3⟩
  ·rename_i hb
   split at e
   ·cases e;exact .inl ⟨rfl,fun _=>rfl⟩
   ·rcases qob e with h|⟨h1,w,x,q,h2,h3⟩
    ·exact .inl h
    ·exact .inr ⟨[],w,x,q,h2,.inl ⟨rfl,h1⟩,h3⟩
theorem j1e {σ:MS} {st:Int} {w x:Lx.Wd} {p:Yy} {v:VD} (hw:w.1=p) (hx:x.1=q08 v) (hf:q3c p v=true) (hc:q04 σ (q0s,(p,v0))=false):q4w σ st q0s [w,x] = .inr { σ with rq:=σ.rq ++ [(p,v)],sd:=q0x clT (q0s,(p,v0)) (ps st x) σ.sd }:=by
 have m1:q2x w.1=false:=by rw [hw];exact (j97 (q4k hf).1).2
 have m2:q2x x.1=false:=by rw [hx];exact (q5f (q4k hf).2).2
 have hu:unm [w,x] = [w,x]:=by simp [unm,m1,m2]
 unfold q4w
 rw [ji4 (L:=[p,q08 v]) (by simp [hw,hx]),if_pos (by rw [hw] at m1;rw [hx] at m2;simp [m1,m2,q38,j7t]),hu]
 show (
    match qe7 w.1 x.1 with
    | .inl e=>(Sum.inl e:Int⊕MS)
    | .inr q=>q0p { σ with rq:=σ.rq ++ [q] } (q0s,(q.1,v0)) st x)=_
 rw [hw,hx,jex hf]
 exact q7k (σ:={ σ with rq:=σ.rq ++ [(p,v)] }) hc
theorem jfk {σ:MS} {st:Int} {A:List Lx.Wd} {w x:Lx.Wd} {p:Yy} {v:VD} (hA:Lead σ A) (hw:w.1=p) (hx:x.1=q08 v) (hf:q3c p v=true) (hc:q04 σ (q0s,(p,v0))=false):q3j σ st (A ++ [w,x]) = .inr { σ with rq:=σ.rq ++ [(p,v)],sd:=q0x clT (q0s,(p,v0)) (ps st x) σ.sd }:=by
 have hsh:Lib.join ([p,q08 v].map fun t=>if q2x t then t else [120]) [32] = [120,32,120]:=jl1 (q:=(p,v)) hf
 have hs2:shp [w,x] = [120,32,120]:=by rw [ji4 (L:=[p,q08 v]) (by simp [hw,hx]),hsh]
 rcases hA with ⟨rfl,hb⟩|⟨k,rfl,hk,hb⟩
 ·unfold q3j
  simp only [List.nil_append]
  rw [if_neg (by rw [hb];decide),if_neg (by rw [hs2];decide)]
  exact (congrArg (fun b=>q4w σ st b [w,x]) hb).trans (j1e hw hx hf hc)
 ·show q3j σ st [k,w,x]=_
  unfold q3j
  simp only
  rw [if_pos hb,if_neg (fun h=>by rw [hs2] at h;exact absurd h.2 (by decide)),hk]
  exact j1e hw hx hf hc
def jme (σ:MS) (st:Int):Prop:=∀c y,q02 clT c σ.sd=some y->y.1<st/\y.2<=st
theorem qvv {sd:jir} {st:Int} {t:Yy} {w:Lx.Wd} (h : ∀c y,q02 clT c sd=some y->y.1<st/\y.2<=st) (hw:w∈q0w t) (c0:Cl) : ∀c y,q02 clT c (q0x clT c0 (ps st w) sd)=some y->y.1<st+((t.length:Nat):Int)+1/\y.2<=st+((t.length:Nat):Int)+1:=by
 intro c y hy
 have hwa:=qql t w hw
 rw [q29] at hy
 cases hk:eqT clT c c0 with
 | true =>
  rw [hk,cond_true] at hy
  rw [<-Option.some.inj hy]
  show st+w.2<_/\st+w.2+((w.1.length:Nat):Int)<=_
  omega
 | false =>
  rw [hk,cond_false] at hy
  have:=h c y hy
  omega
theorem jle {σ σ':MS} {st:Int} {t:Yy} (h:jme σ st) (e:q3j σ st (q0w t) = .inr σ'):jme σ' (st+((t.length:Nat):Int)+1):=by
 rcases qce e with hs|⟨b,rfl⟩
 ·cases hs with
  | mo w hw h0 hc=>exact qvv h hw _
  | go w hw h0 hc=>exact qvv h hw _
  | rq x q hx hz h0 h1 hc=>exact qvv h hx _
  | ex x q hx hz h0 h1 hc=>exact qvv h hx _
  | sw x q hx hz h0 h1 hc=>exact qvv h hx _
  | rt x hz h0 h1 hc=>intro c y hy;have:=h c y hy;omega
 ·intro c y hy;have:=h c y hy;omega
theorem jhr {p:Yy} {v':VD} : ∀{l:List Rq},p ∉ l.map Prod.fst->swp p v' l=l
 | [],_=>rfl
 | q::l,h=>by
  simp only [List.map_cons,List.mem_cons,not_or] at h
  have ih:=jhr (v':=v') h.2
  unfold swp at ih ⊢
  rw [List.map_cons,ih,if_neg (fun e=>h.1 e.symm)]
theorem qvt (p:Yy) : ∀(ls:List Yy) (i st:Int) (σ0 σ:MS),q1v ls i st σ0 = .inr σ->GoodM σ0->jme σ0 st->q04 σ0 (q0s,(p,v0))=false->q04 σ (q0s,(p,v0))=true ->
  ∃ L1 u v r L2,ls=L1++(u++(q08 v++r))::L2/\(p,v)∈σ.rq/\q02 clT (q0s,(p,v0)) σ.sd=some (st+((tot L1+u.length:Nat):Int),st+((tot L1+u.length+(q08 v).length:Nat):Int)) /\
   ∀v',q3c p v'=true->∀i',∃ τ,q1v (L1++(u++(q08 v'++r))::L2) i' st σ0 = .inr τ/\Sv p v' (st+((tot L1+u.length:Nat):Int)) (((q08 v).length:Nat):Int) ((((q08 v').length:Nat):Int) - (((q08 v).length:Nat):Int)) σ τ
 | [],i,st,σ0,σ,e,g,hl,h0,h1=>by cases e;rw [h0] at h1;cases h1
 | t::ts,i,st,σ0,σ,e,g,hl,h0,h1=>by
  rw [q1v] at e
  split at e
  ·cases e
  ·rename_i σ1 hs
   have g1:=qcc g hs
   have hl1:=jle hl hs
   have further:q04 σ1 (q0s,(p,v0))=false->_:=fun hc=>qvt p ts (i+1) (st+((t.length:Nat):Int)+1) σ1 σ e g1 hl1 hc h1
   have wrap:q04 σ1 (q0s,(p,v0))=false->∃ L1 u v r L2,t::ts=L1++(u++(q08 v++r))::L2/\(p,v)∈σ.rq/\q02 clT (q0s,(p,v0)) σ.sd=some (st+((tot L1+u.length:Nat):Int),st+((tot L1+u.length+(q08 v).length:Nat):Int)) /\
     ∀v',q3c p v'=true->∀i',∃ τ,q1v (L1++(u++(q08 v'++r))::L2) i' st σ0 = .inr τ/\Sv p v' (st+((tot L1+u.length:Nat):Int)) (((q08 v).length:Nat):Int) ((((q08 v').length:Nat):Int) - (((q08 v).length:Nat):Int)) σ τ:=fun hc=>by
    obtain ⟨L1,u,v,r,L2,e1,e2,e3,e4⟩:=further hc
    have es : ∀k:Nat,st+((t.length:Nat):Int)+1+((tot L1+k:Nat):Int)=st+((tot (t::L1)+k:Nat):Int):=fun k=>by rw [tot];omega
    refine ⟨t::L1,u,v,r,L2,by rw [e1];rfl,e2,?_,fun v' hv i'=>?_⟩
    ·rw [e3,es u.length,Nat.add_assoc,es (u.length+(q08 v).length),Nat.add_assoc]
    ·obtain ⟨τ,f1,f2⟩:=e4 v' hv (i'+1)
     rw [es u.length] at f2
     refine ⟨τ,?_,f2⟩
     rw [List.cons_append,q1v,hs]
     exact f1
   rcases j5e hs with ⟨s1,s2⟩|⟨A,w,x,q,a1,a2,a3,a4,a5,a6,a7⟩
   ·exact wrap (by unfold q04 at h0 ⊢;rw [s2];exact h0)
   ·by_cases hq:q.1=p
    ·subst hq
     have hw1:q0w t=(A ++ [w])++x :: []:=by rw [a1];simp
     have hpl:plain x.1:=by rw [a4];exact (q5f (q4k a5).2).1
     obtain ⟨u,r,b1,b2,b3⟩:=jga hw1 hpl
     rw [a4] at b1
     have hps:ps st x=(st+((u.length:Nat):Int),st+((u.length:Nat):Int)+(((q08 q.2).length:Nat):Int)):=by rw [ps,b2,a4]
     have hm:=qtb _ _ _ _ _ g1 e
     have hmem:q∈σ1.rq:=by rw [a7];exact List.mem_append_right _ (List.mem_singleton.2 rfl)
     have hlook:q02 clT (q0s,(q.1,v0)) σ1.sd=some (st+((u.length:Nat):Int),st+((u.length:Nat):Int)+(((q08 q.2).length:Nat):Int)):=by
      rw [a7,<-hps];exact qde _ _ _
     have hnp:q.1 ∉ σ0.rq.map Prod.fst:=qnv (g.rk q.1) a6
     have mk : ∀v',q3c q.1 v'=true->∀i',∃ τ,q1v ((u++(q08 v'++r))::ts) i' st σ0 = .inr τ/\Sv q.1 v' (st+((u.length:Nat):Int)) (((q08 q.2).length:Nat):Int) ((((q08 v').length:Nat):Int) - (((q08 q.2).length:Nat):Int)) σ τ:=fun v' hv i'=>by
      obtain ⟨B',c1,c2⟩:=b3 (q08 v') (q5f (q4k hv).2).1
      have hB:B' = []:=by
       cases B' with
       | nil=>rfl
       | cons=>cases c1
      rw [hB] at c2
      have c3:q0w (u++(q08 v'++r))=A ++ [w,(q08 v',((u.length:Nat):Int))]:=by rw [c2];simp
      have hln:=jfk (st:=st) (x:=(q08 v',((u.length:Nat):Int))) a2 a3 rfl hv a6
      have hsv:Sv q.1 v' (st+((u.length:Nat):Int)) (((q08 q.2).length:Nat):Int) ((((q08 v').length:Nat):Int) - (((q08 q.2).length:Nat):Int)) σ1 { σ0 with rq:=σ0.rq ++ [(q.1,v')],sd:=q0x clT (q0s,(q.1,v0)) (ps st (q08 v',((u.length:Nat):Int))) σ0.sd }:=by
       rw [a7]
       refine ⟨rfl,rfl,rfl,?_,rfl,rfl,rfl,fun c=>?_,?_,fun p2 hp=>?_,?_,by omega,fun p2 hp y hy=>?_⟩
       ·show σ0.rq ++ [(q.1,v')]=swp q.1 v' (σ0.rq ++ [q])
        have:=jhr (v':=v') hnp
        unfold swp at this ⊢
        rw [List.map_append,this];simp
       ·unfold q04
        show (q02 clT c (q0x clT _ _ σ0.sd)).isSome=(q02 clT c (q0x clT _ _ σ0.sd)).isSome
        rw [q29,q29]
        cases eqT clT c (q0s,(q.1,v0))<;>rfl
       ·unfold q04
        show (q02 clT _ (q0x clT _ _ σ0.sd)).isSome=true
        rw [qde];rfl
       ·have hne:((q0s,(p2,v0)):Cl)≠(q0s,(q.1,v0)):=fun h=>hp (by simpa using h)
        show q02 clT _ (q0x clT _ _ σ0.sd)=(q02 clT _ (q0x clT _ _ σ0.sd)).map _
        rw [q2m hne,q2m hne]
        cases hy:q02 clT (q0s,(p2,v0)) σ0.sd with
        | none=>rfl
        | some y =>
         have:=hl _ _ hy
         rw [Option.map_some,shf,if_pos (by omega)]
       ·show q02 clT _ (q0x clT _ _ σ0.sd)=_
        rw [qde,ps]
       ·have hne:((q0s,(p2,v0)):Cl)≠(q0s,(q.1,v0)):=fun h=>hp (by simpa using h)
        replace hy:q02 clT (q0s,(p2,v0)) (q0x clT (q0s,(q.1,v0)) (ps st x) σ0.sd)=some y:=hy
        rw [q2m hne] at hy
        have:=hl _ _ hy
        exact .inl (by omega)
      obtain ⟨τ,f1,f2⟩:=jar ts (i+1) (i'+1) (st+((t.length:Nat):Int)+1) σ1 _ σ hsv (by rw [b1];simp;omega) e
      refine ⟨τ,?_,f2⟩
      rw [q1v,c3,hln]
      rw [b1] at f1
      have hlen:st+((((u++(q08 v'++r)).length:Nat)):Int)+1=st+((((u++(q08 q.2++r)).length:Nat)):Int)+1+((((q08 v').length:Nat):Int) - (((q08 q.2).length:Nat):Int)):=by simp;omega
      show q1v ts (i'+1) (st+((((u++(q08 v'++r)).length:Nat)):Int)+1) _=_
      rw [hlen]
      exact f1
     obtain ⟨τ0,t1,t2⟩:=mk q.2 a5 i
     rw [<-b1] at t1
     have hτ:τ0=σ:=by
      rw [q1v,hs] at t1
      have:q1v ts (i+1) (st+((t.length:Nat):Int)+1) σ1 = .inr τ0:=t1
      rw [e] at this
      exact (Sum.inr.inj this).symm
     have hfin:=t2.me
     rw [hτ] at hfin
     refine ⟨[],u,q.2,r,ts,by rw [<-b1];rfl,hm.2.2.1.subset hmem,?_,fun v' hv i'=>?_⟩
     ·rw [hfin,tot]
      congr 1
      refine Prod.ext ?_ ?_<;>simp only<;>omega
     ·obtain ⟨τ,f1,f2⟩:=mk v' hv i'
      refine ⟨τ,f1,?_⟩
      rw [tot,Nat.zero_add]
      exact f2
    ·refine wrap ?_
     rw [a7]
     unfold q04 at h0 ⊢
     show (q02 clT (q0s,(p,v0)) (q0x clT (q0s,(q.1,v0)) (ps st x) σ0.sd)).isSome=false
     rw [q2m (fun h=>hq (by have:=congrArg (fun c:Cl=>c.2.1) h;exact this.symm))]
     exact h0
end Go.Proofs.YtapfankgdkdkgaaGreatDoor.AM
