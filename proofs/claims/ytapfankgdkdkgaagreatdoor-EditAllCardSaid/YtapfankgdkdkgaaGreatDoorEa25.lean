
import Derived.Test.YtapfankgdkdkgaaGreatDoorEa24
import Derived.Test.YtapfankgdkdkgaaGreatDoorEa13
import Derived.Test.YtapfankgdkdkgaaGreatDoorEa17
set_option linter.unusedVariables false
set_option linter.unusedSimpArgs false
namespace Go.Proofs.YtapfankgdkdkgaaGreatDoor.AM
open Go.RowKit
set_option synthInstance.maxSize 100000
set_option synthInstance.maxHeartbeats 0
set_option synthInstance.maxSize 100000
set_option synthInstance.maxHeartbeats 0
abbrev RSt:=Yy×(Yy×(List Rq×(List Sw×(List Rq×(List Sp×(Yy×(Int×(List Int×(List Int×List Int)))))))))
def rst (σ:MS) (ln:Int) (a l:List Int):RSt:=(σ.mo,(σ.go,(σ.rq,(σ.sw,(σ.ex,(σ.rt,(σ.bk,(ln,(a,([],l))))))))))
def RR (off:Int->Int) (M:Int) (σ:MS) (at_ ls:List Int):Prop:=at_.length=σ.rq.length/\ls.length=σ.rq.length/\∀(i:Nat) (q:Rq),σ.rq[i]? = some q->∃ a l,at_[i]? = some a/\ls[i]? = some l/\(0<=a/\a<=100001)/\(0<=l/\l<=M) /\
 q01 clT (q0r,(q.1,v0)) σ.sd=some (off l+a,off l+a+(((q06 q.2).length:Nat):Int))
def RL (off:Int->Int) (M ln:Int) (x:Option (RSt×Int)):Int⊕MS->Prop
 | .inl e=>∃ S,x=some (S,e)
 | .inr σ'=>∃ a l,x=some (rst σ' ln a l,0)/\RR off M σ' a l
theorem RR.other {off:Int->Int} {M:Int} {σ σ':MS} {a l:List Int} (h:RR off M σ a l) (hr:σ'.rq=σ.rq) (hs : ∀p,q01 clT (q0r,(p,v0)) σ'.sd=q01 clT (q0r,(p,v0)) σ.sd):RR off M σ' a l:=by
 obtain ⟨h1,h2,h3⟩:=h
 refine ⟨by rw [hr];exact h1,by rw [hr];exact h2,fun i q hq=>?_⟩
 rw [hr] at hq
 obtain ⟨x,y,g1,g2,g3,g4,g5⟩:=h3 i q hq
 exact ⟨x,y,g1,g2,g3,g4,by rw [hs];exact g5⟩
set_option synthInstance.maxSize 100000
set_option synthInstance.maxHeartbeats 0
theorem RL.some {off:Int->Int} {M ln:Int} {x:Option (RSt×Int)} {r:Int⊕MS} (h:RL off M ln x r) : ∃ y,x=some y:=by
 cases r with
 | inl e=>obtain ⟨S,e⟩:=h;exact ⟨_,e⟩
 | inr σ'=>obtain ⟨a,l,e,_⟩:=h;exact ⟨_,e⟩
theorem jc8 {ws:List Lx.Wd} (h:tk2 ws=true) : ∃ a b,ws = [a,b]/\q4j a.1=false/\q4j b.1=false:=by
 match ws,h with
 | [a,b],h=>simp only [tk2,Bool.and_eq_true,Bool.not_eq_true'] at h;exact ⟨a,b,rfl,h.1,h.2⟩
set_option synthInstance.maxSize 100000
set_option synthInstance.maxHeartbeats 0
theorem RR.bk {off:Int->Int} {M:Int} {σ:MS} {a l:List Int} (h:RR off M σ a l) (b:Yy):RR off M { σ with bk:=b } a l:=h.other rfl (fun p=>rfl)
set_option synthInstance.maxSize 100000
set_option synthInstance.maxHeartbeats 0
def swp (p:Yy) (v':VD) (l:List Rq):List Rq:=l.map fun q=>if q.1=p then (p,v') else q
def shf (K δ:Int) (y:Int×Int):Int×Int:=if y.1<K then y else (y.1+δ,y.2+δ)
structure Sv (p:Yy) (v':VD) (K k δ:Int) (σ τ:MS):Prop where
 mo:τ.mo=σ.mo
 go:τ.go=σ.go
 bk:τ.bk=σ.bk
 rq:τ.rq=swp p v' σ.rq
 sw:τ.sw=σ.sw
 ex:τ.ex=σ.ex
 rt:τ.rt=σ.rt
 cl : ∀c,q05 τ c=q05 σ c
 ip:q05 σ (q0r,(p,v0))=true
 po : ∀p2,p2≠p->q01 clT (q0r,(p2,v0)) τ.sd=(q01 clT (q0r,(p2,v0)) σ.sd).map (shf K δ)
 me:q01 clT (q0r,(p,v0)) τ.sd=some (K,K+(((q06 v').length:Nat):Int))
 kp:0<=k
 dj : ∀p2,p2≠p->∀y,q01 clT (q0r,(p2,v0)) σ.sd=some y->y.2<=K\/K+k<=y.1
theorem j4h {p:Yy} {v':VD} {K k δ:Int} {σ τ:MS} (h:Sv p v' K k δ σ τ) {c:Cl} {st:Int} {w:Lx.Wd} (hc:q05 σ c=false) (hK:K+k<=st+w.2):Sv p v' K k δ { σ with sd:=q0n clT c (ps st w) σ.sd } { τ with sd:=q0n clT c (ps (st+δ) w) τ.sd }:=by
 have hcp:c≠(q0r,(p,v0)):=fun e=>by rw [e,h.ip] at hc;cases hc
 have hkp:=h.kp
 refine ⟨h.mo,h.go,h.bk,h.rq,h.sw,h.ex,h.rt,fun c'=>?_,?_,fun p2 hp=>?_,?_,h.kp,fun p2 hp y hy=>?_⟩
 ·have:=h.cl c'
  unfold q05 at this ⊢
  show (q01 clT c' (q0n clT c _ τ.sd)).isSome=(q01 clT c' (q0n clT c _ σ.sd)).isSome
  rw [q1b,q1b]
  cases eqT clT c' c with
  | true=>rfl
  | false=>exact this
 ·have:=h.ip
  unfold q05 at this ⊢
  show (q01 clT (q0r,(p,v0)) (q0n clT c _ σ.sd)).isSome=true
  rw [q30 (Ne.symm hcp)]
  exact this
 ·show q01 clT (q0r,(p2,v0)) (q0n clT c _ τ.sd)=(q01 clT (q0r,(p2,v0)) (q0n clT c _ σ.sd)).map (shf K δ)
  rw [q1b,q1b]
  cases eqT clT (q0r,(p2,v0)) c with
  | true =>
   simp only [cond_true,Option.map_some,ps,shf]
   rw [if_neg (by omega)]
   congr 1
   refine Prod.ext ?_ ?_<;>simp only<;>omega
  | false=>exact h.po p2 hp
 ·show q01 clT (q0r,(p,v0)) (q0n clT c _ τ.sd)=_
  rw [q30 (Ne.symm hcp)]
  exact h.me
 ·replace hy:q01 clT (q0r,(p2,v0)) (q0n clT c (ps st w) σ.sd)=some y:=hy
  rw [q1b] at hy
  cases hk:eqT clT (q0r,(p2,v0)) c with
  | true =>
   rw [hk,cond_true] at hy
   rw [<-Option.some.inj hy]
   exact .inr hK
  | false =>
   rw [hk,cond_false] at hy
   exact h.dj p2 hp y hy
theorem qwp {p:Yy} {v':VD} {K k δ:Int} {σ τ σ':MS} (h:Sv p v' K k δ σ τ) {c:Cl} {st:Int} {w:Lx.Wd} (hK:K+k<=st+w.2) (e:q0p σ c st w = .inr σ') : ∃ τ',q0p τ c (st+δ) w = .inr τ'/\Sv p v' K k δ σ' τ':=by
 obtain ⟨hc,rfl⟩:=q2b e
 exact ⟨_,qsq (by rw [h.cl];exact hc),j4h h hc hK⟩
theorem qkk (σ:MS) (st:Int) (v:Yy) (w:Lx.Wd) (r:List Lx.Wd):qan σ st v (w::r) =
  if v=qd9 then (if okS w.1=false then .inl 6 else q0p { σ with mo:=w.1 } (qd9,([],v0)) st w)
  else if v=kGo then (if qaz w.1=false then .inl 7 else q0p { σ with go:=w.1 } (kGo,([],v0)) st w)
  else if v=q0r then (match qfr w.1 ((r.headD ([],0)).1) with
   | .inl e=>.inl e
   | .inr q=>q0p { σ with rq:=σ.rq ++ [q] } (q0r,(q.1,v0)) st (r.headD ([],0)))
  else if v=qb4 then (match qfr w.1 ((r.headD ([],0)).1) with
   | .inl e=>.inl e
   | .inr q=>q0p { σ with ex:=σ.ex ++ [q] } (qb4,(q.1,q.2)) st (r.headD ([],0)))
  else if v=qb3 then (if okS w.1=false then .inl 6 else if q3r ((r.headD ([],0)).1)=false then .inl 6 else q0p { σ with sw:=σ.sw ++ [(w.1,(r.headD ([],0)).1)] } (qb3,(w.1,v0)) st (r.headD ([],0)))
  else if (q0k w.1).2=false then .inl 7 else if (q0k ((r.getLast?.getD w).1)).2=false then .inl 7
  else if 0<j4u (q0k w.1).1 (q0k ((r.getLast?.getD w).1)).1 then .inl 7 else .inr { σ with rt:=σ.rt ++ [j5e (q0k w.1).1 (q0k ((r.getLast?.getD w).1)).1] }:=rfl
theorem jce {p:Yy} {v':VD} {K k δ:Int} {σ τ σ':MS} (h:Sv p v' K k δ σ τ) {st:Int} (v:Yy) {ws:List Lx.Wd} (hK:K+k<=st) (hw : ∀w∈ws,0<=w.2) (e:qan σ st v ws = .inr σ') : ∃ τ',qan τ (st+δ) v ws = .inr τ'/\Sv p v' K k δ σ' τ':=by
 cases ws with
 | nil=>cases e
 | cons w r =>
  have w0:=hw w (List.mem_cons_self ..)
  have w1:0<=(r.headD ([],0)).2:=by
   cases r with
   | nil=>exact Int.le_refl _
   | cons x r=>exact hw x (by simp)
  rw [qkk] at e ⊢
  split at e
  ·rename_i hv
   rw [if_pos hv]
   split at e
   ·cases e
   ·rename_i h1
    rw [if_neg h1]
    exact qwp (σ:={ σ with mo:=w.1 }) (τ:={ τ with mo:=w.1 }) ⟨rfl,h.go,h.bk,h.rq,h.sw,h.ex,h.rt,h.cl,h.ip,h.po,h.me,h.kp,h.dj⟩ (by omega) e
  ·rename_i hv
   rw [if_neg hv]
   split at e
   ·rename_i hv2
    rw [if_pos hv2]
    split at e
    ·cases e
    ·rename_i h1
     rw [if_neg h1]
     exact qwp (σ:={ σ with go:=w.1 }) (τ:={ τ with go:=w.1 }) ⟨h.mo,rfl,h.bk,h.rq,h.sw,h.ex,h.rt,h.cl,h.ip,h.po,h.me,h.kp,h.dj⟩ (by omega) e
   ·rename_i hv2
    rw [if_neg hv2]
    split at e
    ·rename_i hv3
     rw [if_pos hv3]
     cases hq:qfr w.1 ((r.headD ([],0)).1) with
     | inl e1=>rw [hq] at e;cases e
     | inr q =>
      rw [hq] at e
      have hne:q.1≠p:=fun hqp=>by
       have:=(q2b e).1
       rw [hqp] at this
       have hi:q05 { σ with rq:=σ.rq ++ [q] } (q0r,(p,v0))=true:=h.ip
       rw [hi] at this
       cases this
      exact qwp (σ:={ σ with rq:=σ.rq ++ [q] }) (τ:={ τ with rq:=τ.rq ++ [q] }) ⟨h.mo,h.go,h.bk,by show τ.rq ++ [q]=swp p v' (σ.rq ++ [q]);rw [h.rq];simp [swp,hne],h.sw,h.ex,h.rt,h.cl,h.ip,h.po,h.me,h.kp,h.dj⟩ (by omega) e
    ·rename_i hv3
     rw [if_neg hv3]
     split at e
     ·rename_i hv4
      rw [if_pos hv4]
      cases hq:qfr w.1 ((r.headD ([],0)).1) with
      | inl e1=>rw [hq] at e;cases e
      | inr q =>
       rw [hq] at e
       exact qwp (σ:={ σ with ex:=σ.ex ++ [q] }) (τ:={ τ with ex:=τ.ex ++ [q] }) ⟨h.mo,h.go,h.bk,h.rq,h.sw,by show τ.ex ++ [q]=σ.ex ++ [q];rw [h.ex],h.rt,h.cl,h.ip,h.po,h.me,h.kp,h.dj⟩ (by omega) e
     ·rename_i hv4
      rw [if_neg hv4]
      split at e
      ·rename_i hv5
       rw [if_pos hv5]
       split at e
       ·cases e
       ·rename_i h1
        rw [if_neg h1]
        split at e
        ·cases e
        ·rename_i h2
         rw [if_neg h2]
         exact qwp (σ:={ σ with sw:=σ.sw ++ [(w.1,(r.headD ([],0)).1)] }) (τ:={ τ with sw:=τ.sw ++ [(w.1,(r.headD ([],0)).1)] }) ⟨h.mo,h.go,h.bk,h.rq,by show τ.sw++_=σ.sw++_;rw [h.sw],h.ex,h.rt,h.cl,h.ip,h.po,h.me,h.kp,h.dj⟩ (by omega) e
      ·rename_i hv5
       rw [if_neg hv5]
       split at e
       ·cases e
       ·rename_i h1
        rw [if_neg h1]
        split at e
        ·cases e
        ·rename_i h2
         rw [if_neg h2]
         split at e
         ·cases e
         ·rename_i h3
          rw [if_neg h3]
          cases e
          exact ⟨_,rfl,⟨h.mo,h.go,h.bk,h.rq,h.sw,h.ex,by show τ.rt++_=σ.rt++_;rw [h.rt],h.cl,h.ip,h.po,h.me,h.kp,h.dj⟩⟩
theorem qxw {p:Yy} {v':VD} {K k δ:Int} {σ τ σ':MS} (h:Sv p v' K k δ σ τ) {st:Int} (v:Yy) {ws:List Lx.Wd} (hK:K+k<=st) (hw : ∀w∈ws,0<=w.2) (e:q3t σ st v ws = .inr σ') : ∃ τ',q3t τ (st+δ) v ws = .inr τ'/\Sv p v' K k δ σ' τ':=by
 unfold q3t at e ⊢
 split at e
 ·rename_i hm
  rw [if_pos hm]
  exact jce h v hK (fun w hw2=>hw w (List.mem_filter.1 hw2).1) e
 ·cases e
theorem jab {p:Yy} {v':VD} {K k δ:Int} {σ τ:MS} (h:Sv p v' K k δ σ τ) (b:Yy):Sv p v' K k δ { σ with bk:=b } { τ with bk:=b }:=⟨h.mo,h.go,rfl,h.rq,h.sw,h.ex,h.rt,h.cl,h.ip,h.po,h.me,h.kp,h.dj⟩
theorem j7y {p:Yy} {v':VD} {K k δ:Int} {σ τ σ':MS} (h:Sv p v' K k δ σ τ) {st:Int} {ws:List Lx.Wd} (hK:K+k<=st) (hw : ∀w∈ws,0<=w.2) (e:q2j σ st ws = .inr σ') : ∃ τ',q2j τ (st+δ) ws = .inr τ'/\Sv p v' K k δ σ' τ':=by
 cases ws with
 | nil=>cases e;exact ⟨τ,rfl,h⟩
 | cons w r =>
  unfold q2j at e ⊢
  simp only at e ⊢
  rw [h.bk]
  split at e
  ·rename_i hb
   rw [if_pos hb]
   split at e
   ·rename_i hc
    rw [if_pos hc]
    cases e
    exact ⟨_,rfl,jab h w.1⟩
   ·rename_i hc
    rw [if_neg hc]
    exact qxw h w.1 hK (fun x hx=>hw x (List.mem_cons_of_mem _ hx)) e
  ·rename_i hb
   rw [if_neg hb]
   split at e
   ·rename_i hc
    rw [if_pos hc]
    cases e
    exact ⟨_,rfl,jab h []⟩
   ·rename_i hc
    rw [if_neg hc]
    exact qxw h σ.bk hK hw e
theorem j3h (t:Yy) : ∀w∈q0v t,0<=w.2:=fun w hw=>(qjb t w hw).1
theorem qyk {p:Yy} {v':VD} {K k δ:Int} : ∀(ls:List Yy) (i i' st:Int) (σ τ σ':MS),Sv p v' K k δ σ τ->K+k<=st->q1k ls i st σ = .inr σ'->∃ τ',q1k ls i' (st+δ) τ = .inr τ'/\Sv p v' K k δ σ' τ'
 | [],i,i',st,σ,τ,σ',h,_,e=>by cases e;exact ⟨τ,rfl,h⟩
 | t::ts,i,i',st,σ,τ,σ',h,hK,e=>by
  rw [q1k] at e ⊢
  split at e
  ·cases e
  ·rename_i σ1 h1
   obtain ⟨τ1,h2,h3⟩:=j7y h hK (j3h t) h1
   rw [h2]
   have:=qyk ts _ (i'+1) _ σ1 τ1 σ' h3 (by omega) e
   rw [show st+δ+((t.length:Nat):Int)+1=st+((t.length:Nat):Int)+1+δ by omega]
   exact this
set_option synthInstance.maxSize 100000
set_option synthInstance.maxHeartbeats 0
def j8x (σ σ':MS):Prop:=σ'.rq=σ.rq/\∀p,q01 clT (q0r,(p,v0)) σ'.sd=q01 clT (q0r,(p,v0)) σ.sd
theorem q6s {σ σ':MS} {a:Yy} {y:Yy×VD} {st:Int} {w:Lx.Wd} (ha:q0r≠a) (e:q0p σ (a,y) st w = .inr σ'):σ'.rq=σ.rq/\∀p,q01 clT (q0r,(p,v0)) σ'.sd=q01 clT (q0r,(p,v0)) σ.sd:=by
 obtain ⟨_,rfl⟩:=q2b e
 exact ⟨rfl,fun p=>q30 (fun h=>ha (congrArg Prod.fst h)) _ _⟩
theorem j0n {σ σ':MS} {v:Yy} {ws:List Lx.Wd} {st:Int} (hv:v≠q0r) (e:qan σ st v ws = .inr σ'):j8x σ σ':=by
 obtain ⟨d1,d2,d3,d4,d5,d6,d7,d8,d9,d10⟩:=kd
 cases ws with
 | nil=>cases e
 | cons w r =>
  rw [qkk] at e
  split at e
  ·split at e
   ·cases e
   ·exact q6s (σ:={ σ with mo:=w.1 }) d2.symm e
  ·split at e
   ·split at e
    ·cases e
    ·exact q6s (σ:={ σ with go:=w.1 }) d5.symm e
   ·split at e
    ·cases hq:qfr w.1 ((r.headD ([],0)).1) with
     | inl e1=>rw [hq] at e;cases e
     | inr q=>rw [hq] at e;exact q6s (σ:={ σ with ex:=σ.ex ++ [q] }) d8 e
    ·split at e
     ·split at e
      ·cases e
      ·split at e
       ·cases e
       ·exact q6s (σ:={ σ with sw:=σ.sw ++ [(w.1,(r.headD ([],0)).1)] }) d9 e
     ·split at e
      ·cases e
      ·split at e
       ·cases e
       ·split at e
        ·cases e
        ·cases e;exact ⟨rfl,fun p=>rfl⟩
def NewR (σ σ':MS) (st:Int) (w x:Lx.Wd) (q:Rq):Prop:=w.1=q.1/\x.1=q06 q.2/\q2t q.1 q.2=true/\q05 σ (q0r,(q.1,v0))=false/\σ' = { σ with rq:=σ.rq ++ [q],sd:=q0n clT (q0r,(q.1,v0)) (ps st x) σ.sd }
theorem qh6 {σ σ':MS} {v:Yy} {ws:List Lx.Wd} {st:Int} (e:q3t σ st v ws = .inr σ'):j8x σ σ'\/(v=q0r/\∃ w x q,ws = [w,x]/\NewR σ σ' st w x q):=by
 unfold q3t at e
 split at e
 ·rename_i hm
  by_cases hv:v=q0r
  ·subst hv
   have hf:=j1i q0r ws
   rw [decide_eq_true hm] at hf
   obtain ⟨w,x,rfl,m1,m2⟩:=jc8 (ws:=ws) hf.symm
   have hu:unm [w,x] = [w,x]:=by simp [unm,m1,m2]
   rw [hu] at e
   replace e:(match qfr w.1 x.1 with
    | .inl e=>(Sum.inl e:Int⊕MS)
    | .inr q=>q0p { σ with rq:=σ.rq ++ [q] } (q0r,(q.1,v0)) st x) = .inr σ':=e
   cases hq:qfr w.1 x.1 with
   | inl e1=>rw [hq] at e;cases e
   | inr q =>
    rw [hq] at e
    obtain ⟨q1,q2,q3⟩:=qo7 hq
    obtain ⟨hc,rfl⟩:=q2b e
    exact .inr ⟨rfl,w,x,q,rfl,q1.symm,q3.symm,q2,hc,rfl⟩
  ·exact .inl (j0n hv e)
 ·cases e
def Lead (σ:MS) (A:List Lx.Wd):Prop:=(A = []/\σ.bk=q0r) \/ ∃ k:Lx.Wd,A = [k]/\k.1=q0r/\σ.bk = []
theorem qtt {σ σ':MS} {ws:List Lx.Wd} {st:Int} (e:q2j σ st ws = .inr σ'):j8x σ σ' \/ ∃ A w x q,ws=A ++ [w,x]/\Lead σ A/\NewR σ σ' st w x q:=by
 cases ws with
 | nil=>cases e;exact .inl ⟨rfl,fun _=>rfl⟩
 | cons k r =>
  unfold q2j at e
  simp only at e
  split at e
  ·rename_i hb
   split at e
   ·cases e;exact .inl ⟨rfl,fun _=>rfl⟩
   ·rcases qh6 e with h|⟨h1,w,x,q,h2,h3⟩
    ·exact .inl h
    ·exact .inr ⟨[k],w,x,q,by rw [h2];rfl,.inr ⟨k,rfl,h1,hb⟩,h3⟩
  ·rename_i hb
   split at e
   ·cases e;exact .inl ⟨rfl,fun _=>rfl⟩
   ·rcases qh6 e with h|⟨h1,w,x,q,h2,h3⟩
    ·exact .inl h
    ·exact .inr ⟨[],w,x,q,h2,.inl ⟨rfl,h1⟩,h3⟩
theorem qru {σ:MS} {st:Int} {w x:Lx.Wd} {p:Yy} {v:VD} (hw:w.1=p) (hx:x.1=q06 v) (hf:q2t p v=true) (hc:q05 σ (q0r,(p,v0))=false):q3t σ st q0r [w,x] = .inr { σ with rq:=σ.rq ++ [(p,v)],sd:=q0n clT (q0r,(p,v0)) (ps st x) σ.sd }:=by
 have m1:q4j w.1=false:=by rw [hw];exact (qvi (q3i hf).1).2
 have m2:q4j x.1=false:=by rw [hx];exact (q3q (q3i hf).2).2
 have hu:unm [w,x] = [w,x]:=by simp [unm,m1,m2]
 unfold q3t
 rw [j4y (L:=[p,q06 v]) (by simp [hw,hx]),if_pos (by rw [hw] at m1;rw [hx] at m2;simp [m1,m2,q20,qzs]),hu]
 show (
    match qfr w.1 x.1 with
    | .inl e=>(Sum.inl e:Int⊕MS)
    | .inr q=>q0p { σ with rq:=σ.rq ++ [q] } (q0r,(q.1,v0)) st x)=_
 rw [hw,hx,j2l hf]
 exact qsq (σ:={ σ with rq:=σ.rq ++ [(p,v)] }) hc
theorem j2z {σ:MS} {st:Int} {A:List Lx.Wd} {w x:Lx.Wd} {p:Yy} {v:VD} (hA:Lead σ A) (hw:w.1=p) (hx:x.1=q06 v) (hf:q2t p v=true) (hc:q05 σ (q0r,(p,v0))=false):q2j σ st (A ++ [w,x]) = .inr { σ with rq:=σ.rq ++ [(p,v)],sd:=q0n clT (q0r,(p,v0)) (ps st x) σ.sd }:=by
 have hsh:Lib.join ([p,q06 v].map fun t=>if q4j t then t else [120]) [32] = [120,32,120]:=j7k (q:=(p,v)) hf
 have hs2:shp [w,x] = [120,32,120]:=by rw [j4y (L:=[p,q06 v]) (by simp [hw,hx]),hsh]
 rcases hA with ⟨rfl,hb⟩|⟨k,rfl,hk,hb⟩
 ·unfold q2j
  simp only [List.nil_append]
  rw [if_neg (by rw [hb];decide),if_neg (by rw [hs2];decide)]
  exact (congrArg (fun b=>q3t σ st b [w,x]) hb).trans (qru hw hx hf hc)
 ·show q2j σ st [k,w,x]=_
  unfold q2j
  simp only
  rw [if_pos hb,if_neg (fun h=>by rw [hs2] at h;exact absurd h.2 (by decide)),hk]
  exact qru hw hx hf hc
def j61 (σ:MS) (st:Int):Prop:=∀c y,q01 clT c σ.sd=some y->y.1<st/\y.2<=st
theorem qle {sd:j4w} {st:Int} {t:Yy} {w:Lx.Wd} (h : ∀c y,q01 clT c sd=some y->y.1<st/\y.2<=st) (hw:w∈q0v t) (c0:Cl) : ∀c y,q01 clT c (q0n clT c0 (ps st w) sd)=some y->y.1<st+((t.length:Nat):Int)+1/\y.2<=st+((t.length:Nat):Int)+1:=by
 intro c y hy
 have hwa:=qjb t w hw
 rw [q1b] at hy
 cases hk:eqT clT c c0 with
 | true =>
  rw [hk,cond_true] at hy
  rw [<-Option.some.inj hy]
  show st+w.2<_/\st+w.2+((w.1.length:Nat):Int)<=_
  omega
 | false =>
  rw [hk,cond_false] at hy
  have:=h c y hy
  omega
theorem j9d {σ σ':MS} {st:Int} {t:Yy} (h:j61 σ st) (e:q2j σ st (q0v t) = .inr σ'):j61 σ' (st+((t.length:Nat):Int)+1):=by
 rcases q88 e with hs|⟨b,rfl⟩
 ·cases hs with
  | mo w hw h0 hc=>exact qle h hw _
  | go w hw h0 hc=>exact qle h hw _
  | rq x q hx hz h0 h1 hc=>exact qle h hx _
  | ex x q hx hz h0 h1 hc=>exact qle h hx _
  | sw x q hx hz h0 h1 hc=>exact qle h hx _
  | rt x hz h0 h1 hc=>intro c y hy;have:=h c y hy;omega
 ·intro c y hy;have:=h c y hy;omega
theorem j4o {p:Yy} {v':VD} : ∀{l:List Rq},p ∉ l.map Prod.fst->swp p v' l=l
 | [],_=>rfl
 | q::l,h=>by
  simp only [List.map_cons,List.mem_cons,not_or] at h
  have ih:=j4o (v':=v') h.2
  unfold swp at ih ⊢
  rw [List.map_cons,ih,if_neg (fun e=>h.1 e.symm)]
theorem qkd (p:Yy) : ∀(ls:List Yy) (i st:Int) (σ0 σ:MS),q1k ls i st σ0 = .inr σ->GoodM σ0->j61 σ0 st->q05 σ0 (q0r,(p,v0))=false->q05 σ (q0r,(p,v0))=true ->
  ∃ L1 u v r L2,ls=L1++(u++(q06 v++r))::L2/\(p,v)∈σ.rq/\q01 clT (q0r,(p,v0)) σ.sd=some (st+((tot L1+u.length:Nat):Int),st+((tot L1+u.length+(q06 v).length:Nat):Int)) /\
   ∀v',q2t p v'=true->∀i',∃ τ,q1k (L1++(u++(q06 v'++r))::L2) i' st σ0 = .inr τ/\Sv p v' (st+((tot L1+u.length:Nat):Int)) (((q06 v).length:Nat):Int) ((((q06 v').length:Nat):Int) - (((q06 v).length:Nat):Int)) σ τ
 | [],i,st,σ0,σ,e,g,hl,h0,h1=>by cases e;rw [h0] at h1;cases h1
 | t::ts,i,st,σ0,σ,e,g,hl,h0,h1=>by
  rw [q1k] at e
  split at e
  ·cases e
  ·rename_i σ1 hs
   have g1:=qdp g hs
   have hl1:=j9d hl hs
   have further:q05 σ1 (q0r,(p,v0))=false->_:=fun hc=>qkd p ts (i+1) (st+((t.length:Nat):Int)+1) σ1 σ e g1 hl1 hc h1
   have wrap:q05 σ1 (q0r,(p,v0))=false->∃ L1 u v r L2,t::ts=L1++(u++(q06 v++r))::L2/\(p,v)∈σ.rq/\q01 clT (q0r,(p,v0)) σ.sd=some (st+((tot L1+u.length:Nat):Int),st+((tot L1+u.length+(q06 v).length:Nat):Int)) /\
     ∀v',q2t p v'=true->∀i',∃ τ,q1k (L1++(u++(q06 v'++r))::L2) i' st σ0 = .inr τ/\Sv p v' (st+((tot L1+u.length:Nat):Int)) (((q06 v).length:Nat):Int) ((((q06 v').length:Nat):Int) - (((q06 v).length:Nat):Int)) σ τ:=fun hc=>by
    obtain ⟨L1,u,v,r,L2,e1,e2,e3,e4⟩:=further hc
    have es : ∀k:Nat,st+((t.length:Nat):Int)+1+((tot L1+k:Nat):Int)=st+((tot (t::L1)+k:Nat):Int):=fun k=>by rw [tot];omega
    refine ⟨t::L1,u,v,r,L2,by rw [e1];rfl,e2,?_,fun v' hv i'=>?_⟩
    ·rw [e3,es u.length,Nat.add_assoc,es (u.length+(q06 v).length),Nat.add_assoc]
    ·obtain ⟨τ,f1,f2⟩:=e4 v' hv (i'+1)
     rw [es u.length] at f2
     refine ⟨τ,?_,f2⟩
     rw [List.cons_append,q1k,hs]
     exact f1
   rcases qtt hs with ⟨s1,s2⟩|⟨A,w,x,q,a1,a2,a3,a4,a5,a6,a7⟩
   ·exact wrap (by unfold q05 at h0 ⊢;rw [s2];exact h0)
   ·by_cases hq:q.1=p
    ·subst hq
     have hw1:q0v t=(A ++ [w])++x :: []:=by rw [a1];simp
     have hpl:plain x.1:=by rw [a4];exact (q3q (q3i a5).2).1
     obtain ⟨u,r,b1,b2,b3⟩:=j2t hw1 hpl
     rw [a4] at b1
     have hps:ps st x=(st+((u.length:Nat):Int),st+((u.length:Nat):Int)+(((q06 q.2).length:Nat):Int)):=by rw [ps,b2,a4]
     have hm:=ql9 _ _ _ _ _ g1 e
     have hmem:q∈σ1.rq:=by rw [a7];exact List.mem_append_right _ (List.mem_singleton.2 rfl)
     have hlook:q01 clT (q0r,(q.1,v0)) σ1.sd=some (st+((u.length:Nat):Int),st+((u.length:Nat):Int)+(((q06 q.2).length:Nat):Int)):=by
      rw [a7,<-hps];exact qed _ _ _
     have hnp:q.1 ∉ σ0.rq.map Prod.fst:=qgn (g.rk q.1) a6
     have mk : ∀v',q2t q.1 v'=true->∀i',∃ τ,q1k ((u++(q06 v'++r))::ts) i' st σ0 = .inr τ/\Sv q.1 v' (st+((u.length:Nat):Int)) (((q06 q.2).length:Nat):Int) ((((q06 v').length:Nat):Int) - (((q06 q.2).length:Nat):Int)) σ τ:=fun v' hv i'=>by
      obtain ⟨B',c1,c2⟩:=b3 (q06 v') (q3q (q3i hv).2).1
      have hB:B' = []:=by
       cases B' with
       | nil=>rfl
       | cons=>cases c1
      rw [hB] at c2
      have c3:q0v (u++(q06 v'++r))=A ++ [w,(q06 v',((u.length:Nat):Int))]:=by rw [c2];simp
      have hln:=j2z (st:=st) (x:=(q06 v',((u.length:Nat):Int))) a2 a3 rfl hv a6
      have hsv:Sv q.1 v' (st+((u.length:Nat):Int)) (((q06 q.2).length:Nat):Int) ((((q06 v').length:Nat):Int) - (((q06 q.2).length:Nat):Int)) σ1 { σ0 with rq:=σ0.rq ++ [(q.1,v')],sd:=q0n clT (q0r,(q.1,v0)) (ps st (q06 v',((u.length:Nat):Int))) σ0.sd }:=by
       rw [a7]
       refine ⟨rfl,rfl,rfl,?_,rfl,rfl,rfl,fun c=>?_,?_,fun p2 hp=>?_,?_,by omega,fun p2 hp y hy=>?_⟩
       ·show σ0.rq ++ [(q.1,v')]=swp q.1 v' (σ0.rq ++ [q])
        have:=j4o (v':=v') hnp
        unfold swp at this ⊢
        rw [List.map_append,this];simp
       ·unfold q05
        show (q01 clT c (q0n clT _ _ σ0.sd)).isSome=(q01 clT c (q0n clT _ _ σ0.sd)).isSome
        rw [q1b,q1b]
        cases eqT clT c (q0r,(q.1,v0))<;>rfl
       ·unfold q05
        show (q01 clT _ (q0n clT _ _ σ0.sd)).isSome=true
        rw [qed];rfl
       ·have hne:((q0r,(p2,v0)):Cl)≠(q0r,(q.1,v0)):=fun h=>hp (by simpa using h)
        show q01 clT _ (q0n clT _ _ σ0.sd)=(q01 clT _ (q0n clT _ _ σ0.sd)).map _
        rw [q30 hne,q30 hne]
        cases hy:q01 clT (q0r,(p2,v0)) σ0.sd with
        | none=>rfl
        | some y =>
         have:=hl _ _ hy
         rw [Option.map_some,shf,if_pos (by omega)]
       ·show q01 clT _ (q0n clT _ _ σ0.sd)=_
        rw [qed,ps]
       ·have hne:((q0r,(p2,v0)):Cl)≠(q0r,(q.1,v0)):=fun h=>hp (by simpa using h)
        replace hy:q01 clT (q0r,(p2,v0)) (q0n clT (q0r,(q.1,v0)) (ps st x) σ0.sd)=some y:=hy
        rw [q30 hne] at hy
        have:=hl _ _ hy
        exact .inl (by omega)
      obtain ⟨τ,f1,f2⟩:=qyk ts (i+1) (i'+1) (st+((t.length:Nat):Int)+1) σ1 _ σ hsv (by rw [b1];simp;omega) e
      refine ⟨τ,?_,f2⟩
      rw [q1k,c3,hln]
      rw [b1] at f1
      have hlen:st+((((u++(q06 v'++r)).length:Nat)):Int)+1=st+((((u++(q06 q.2++r)).length:Nat)):Int)+1+((((q06 v').length:Nat):Int) - (((q06 q.2).length:Nat):Int)):=by simp;omega
      show q1k ts (i'+1) (st+((((u++(q06 v'++r)).length:Nat)):Int)+1) _=_
      rw [hlen]
      exact f1
     obtain ⟨τ0,t1,t2⟩:=mk q.2 a5 i
     rw [<-b1] at t1
     have hτ:τ0=σ:=by
      rw [q1k,hs] at t1
      have:q1k ts (i+1) (st+((t.length:Nat):Int)+1) σ1 = .inr τ0:=t1
      rw [e] at this
      exact (Sum.inr.inj this).symm
     have hfin:=t2.me
     rw [hτ] at hfin
     refine ⟨[],u,q.2,r,ts,by rw [<-b1];rfl,hm.2.2.1.subset hmem,?_,fun v' hv i'=>?_⟩
     ·rw [hfin,tot]
      congr 1
      refine Prod.ext ?_ ?_<;>simp only<;>omega
     ·obtain ⟨τ,f1,f2⟩:=mk v' hv i'
      refine ⟨τ,f1,?_⟩
      rw [tot,Nat.zero_add]
      exact f2
    ·refine wrap ?_
     rw [a7]
     unfold q05 at h0 ⊢
     show (q01 clT (q0r,(p,v0)) (q0n clT (q0r,(q.1,v0)) (ps st x) σ0.sd)).isSome=false
     rw [q30 (fun h=>hq (by have:=congrArg (fun c:Cl=>c.2.1) h;exact this.symm))]
     exact h0
end Go.Proofs.YtapfankgdkdkgaaGreatDoor.AM
