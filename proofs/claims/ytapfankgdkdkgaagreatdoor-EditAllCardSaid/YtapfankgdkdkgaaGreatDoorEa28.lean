
import Derived.Test.YtapfankgdkdkgaaGreatDoorEa27
import Derived.Test.YtapfankgdkdkgaaGreatDoorEa25
import Derived.Test.YtapfankgdkdkgaaGreatDoorEa26
import Derived.Test.YtapfankgdkdkgaaGreatDoorEa12
import Derived.Test.YtapfankgdkdkgaaGreatDoorEa8
import Derived.Test.YtapfankgdkdkgaaGreatDoorRows
import Derived.Test.YtapfankgdkdkgaaGreatDoorEa9
import Derived.LaidLaws
import Derived.LaidHandle
import Derived.Stop.LaidErr
import Derived.Lib.LaidTab
import Derived.Lay
set_option linter.unusedVariables false
set_option linter.unusedSimpArgs false
set_option maxRecDepth 100000
namespace Go.Proofs.YtapfankgdkdkgaaGreatDoor.AM
open Go.RowKit
set_option synthInstance.maxSize 100000
set_option synthInstance.maxHeartbeats 0
def q75 (s:Yy) (r:Rq):Int:=if (q42 s).2.2=0 then (if okS r.1=false then 6 else if q0z r.2=false then 7 else if q2t r.1 r.2=false then 8 else 0) else (q42 s).2.2
def qlk (s:Yy) (r:Rq):Yy×Int:=if q75 s r=0 then (if (q1s s r.1).2.2=true then (s.take (q1s s r.1).1.toNat++(q06 r.2++s.drop (q1s s r.1).2.1.toNat),0) else ([],5)) else ([],q75 s r)
theorem qgs {s p:Yy} (h:(q1s s p).2.2=true) : ∃ (σ:MS) (q:Rq) (a:Nat),IsM s σ∧q∈σ.rq∧q.1=p∧q1s s p=((a:Int),(((a+(q06 q.2).length:Nat):Int),true))∧a+(q06 q.2).length≤s.length∧(s.drop a).take (q06 q.2).length=q06 q.2:=by
 cases hr:qa5 s with
 | inl e=>unfold q1s at h;rw [hr] at h;cases h
 | inr x =>
  have hi:=(qyd (σ:=x.1) (k:=x.2) hr).1
  have g:=hi.good
  have hc:q05 x.1 (q0r,(p,v0))=true:=by
   unfold q1s at h
   rw [hr] at h
   unfold q05
   cases hk:q01 clT (q0r,(p,v0)) x.1.sd with
   | none =>
    exfalso
    have h':(match q01 clT (q0r,(p,v0)) x.1.sd with|some x=>(x.1,(x.2,true))|none=>((0:Int),((0:Int),false))).2.2=true:=h
    rw [hk] at h'
    cases h'
   | some y=>rfl
  obtain ⟨q,hq,hp⟩:=List.mem_map.1 ((g.rk p).1 hc)
  obtain ⟨a,e1,e2,e3⟩:=j41 hi hq
  rw [hp] at e1
  exact ⟨x.1,q,a,hi,hq,hp,e1,e2,e3⟩
theorem qnx (n:Nat) (s:Yy) (r:Rq) (hs:s.length≤100000) (hr:r.1.length≤1000) (hn:1000000<n):q8s n s r=some (q75 s r):=by
 unfold q8s q75
 simp only [qex n s hs (by omega),Option.bind_some]
 by_cases h0:(q42 s).2.2=0
 ·simp only [h0,decide_true,Bool.not_true,cond_false,if_true,q55 n r.1 (show _≤1000000 by omega) (by omega),Option.bind_some]
  cases okS r.1 with
  | false=>rfl
  | true =>
   simp only [Bool.not_true,cond_false,Bool.true_eq_false,if_false,q2k n r.2 (show 4≤n by omega),Option.bind_some]
   cases q0z r.2 with
   | false=>rfl
   | true =>
    simp only [Bool.not_true,cond_false,Bool.true_eq_false,if_false,qgt n r.1 r.2 (show _≤1000000 by omega) (show r.1.length<n by omega) (show 4≤n by omega),Option.bind_some]
    cases q2t r.1 r.2<;>rfl
 ·simp only [h0,decide_false,Bool.not_false,cond_true,if_false]
theorem quh {s:Yy} {r:Rq} (h:q75 s r=0):(∃ σ,IsM s σ)∧q2t r.1 r.2=true:=by
 unfold q75 at h
 split at h
 ·rename_i h0
  split at h
  ·cases h
  ·split at h
   ·cases h
   ·split at h
    ·cases h
    ·rename_i h3
     exact ⟨qrx h0,by simpa using h3⟩
 ·rename_i h0;exact absurd h h0
theorem qwc (n:Nat) (s:Yy) (r:Rq) (hs:s.length≤100000) (hr:r.1.length≤1000) (hn:1000000<n):qcr n s r=some (qlk s r):=by
 unfold qcr qlk
 rw [qnx n s r hs hr hn,Option.bind_some]
 by_cases h0:q75 s r=0
 ·simp only [h0,decide_true,Bool.not_true,cond_false,if_true,qh7 n r.2 (show 4≤n by omega),Option.bind_some]
  unfold qoi
  simp only [qdu n s r.1 hs (by omega),Option.bind_some]
  cases hw:(q1s s r.1).2.2 with
  | false=>rfl
  | true =>
   obtain ⟨σ,q,a,h1,h2,h3,h4,h5,h6⟩:=qgs hw
   have ht:=qil r.2
   have ht2:=qil q.2
   rw [h4]
   have s1:q1c s (0:Int) (a:Int)=some (s.take a):=sub_zero (by omega)
   have s2:q1c s ((a+(q06 q.2).length:Nat):Int) ((s.length:Nat):Int)=some (s.drop (a+(q06 q.2).length)):=by
    rw [sub_le h5 (Nat.le_refl _),List.take_of_length_le (by simp)]
   simp only [Bool.not_true,cond_false,qpf,s1,s2,Option.bind_some,if_true,Int.toNat_natCast]
   rw [j5a (by simp;omega),Option.bind_some,j5a (by simp;omega),Option.bind_some,List.append_assoc]
   rfl
 ·simp only [h0,decide_false,Bool.not_false,cond_true,if_false]
theorem qrm (n:Nat) (l:List Rq) (hL:l.length≤9223372036854775807) : ∀ m j:Nat,j≤l.length→l.length - j<m→q4a n m l (j:Int)=some (if (l.drop j).all j5t=true then Sum.inr ((l,()),((),())) else Sum.inl ((false,()),((),())))
 | 0,j,_,h=>absurd h (Nat.not_lt_zero _)
 | m+1,j,hj,h=>by
  rw [qa9]
  unfold qd1
  by_cases c0:j<l.length
  ·have c0':((j:Nat):Int)<((l.length:Nat):Int):=by omega
   have ih:=qrm n l hL m (j+1) (by omega) (by omega)
   have w1:IntKind.wrap .i64 ((j:Int)+1)=((j+1:Nat):Int):=by rw [wrap64 (by omega) (by omega)];omega
   have g1:=gtI l[j].1 200
   have g2:=gtI l[j].2.2.2.2.1 200
   have g3:=gtI l[j].2.2.2.2.2 200
   rw [show ((200:Nat):Int)=(200:Int) from rfl] at g1 g2 g3
   rw [List.drop_eq_getElem_cons c0,List.all_cons,j5t]
   simp only [c0',decide_true,cond_true,q26 c0,Option.bind_some,q0b,w1,g1,g2,g3]
   cases decide (l[j].1.length≤200) with
   | false=>rfl
   | true =>
    cases decide (l[j].2.2.2.2.1.length≤200) with
    | false=>rfl
    | true =>
     cases decide (l[j].2.2.2.2.2.length≤200) with
     | false=>rfl
     | true =>
      simp only [Bool.not_true,cond_false,Bool.true_and]
      exact ih
  ·have c0' : ¬ ((j:Nat):Int)<((l.length:Nat):Int):=by omega
   simp only [c0',decide_false,cond_false]
   rw [List.drop_eq_nil_of_le (by omega)]
   rfl
theorem j3p (n:Nat) (l:List Rq) (hL:l.length≤9223372036854775807) (hn:9223372036854775807<n):qbg n l=some (l.all j5t&&decide (l.length≤20)):=by
 unfold qbg
 have h:=qrm n l hL n 0 (Nat.zero_le _) (by omega)
 rw [zI,List.drop_zero] at h
 rw [h]
 have g:=leI l.length 20
 rw [show ((20:Nat):Int)=(20:Int) from rfl] at g
 cases l.all j5t with
 | false=>rfl
 | true=>simp only [if_true,Option.bind_some,Sum.elim_inr,g,Bool.true_and]
theorem j42 {q:Rq} (h:j5t q=true):q.1.length≤200:=by
 unfold j5t at h
 simp only [Bool.and_eq_true,decide_eq_true_eq] at h
 exact h.1
set_option synthInstance.maxSize 100000
set_option synthInstance.maxHeartbeats 0
theorem j3q {s:Yy} {σ:MS} (h:IsM s σ) (p:Yy):q1s s p=match q01 clT (q0r,(p,v0)) σ.sd with|some x=>(x.1,(x.2,true))|none=>((0:Int),((0:Int),false)):=by
 unfold q1s
 rw [qhu h]
 cases hk:q01 clT (q0r,(p,v0)) σ.sd<;>simp only [hk]
theorem j35 {s:Yy} {σ:MS} (h:IsM s σ) {q:Rq} (hf:q2t q.1 q.2=true):q75 s q=0:=by
 obtain ⟨h1,h2⟩:=q3i hf
 unfold q75
 rw [qt1 h]
 simp [h1,h2,hf]
theorem set_mk {s:Yy} {σ:MS} (h:IsM s σ) {q:Rq} (hf:q2t q.1 q.2=true) {u v r:Yy} (hs:s=u++(v++r)) (hw:q1s s q.1=((u.length:Int),(((u.length+v.length:Nat):Int),true))):qlk s q=(u++(q06 q.2++r),0):=by
 unfold qlk
 rw [j35 h hf,if_pos rfl,hw]
 simp only [if_true,Int.toNat_natCast]
 have e1:s.take u.length=u:=by rw [hs,List.take_left]
 have e2:s.drop (u.length+v.length)=r:=by rw [hs,← List.append_assoc,List.drop_left' (by simp)]
 rw [e1,e2]
structure SetOk (s:Yy) (q:Rq) (σ τ:MS) (u r:Yy) (v:VD):Prop where
 is:IsM s σ
 ft:q2t q.1 q.2=true
 sp:s=u++(q06 v++r)
 mem:(q.1,v)∈σ.rq
 wh:q1s s q.1=((u.length:Int),(((u.length+(q06 v).length:Nat):Int),true))
 eq:qlk s q=(u++(q06 q.2++r),0)
 ist:IsM (u++(q06 q.2++r)) τ
 sv:Sv q.1 q.2 (u.length:Int) (((q06 v).length:Nat):Int) ((((q06 q.2).length:Nat):Int) - (((q06 v).length:Nat):Int)) σ τ
 ln:(Lx.q07 (u++(q06 q.2++r))).length=(Lx.q07 s).length
theorem j4s {s:Yy} {q:Rq} (h:(qlk s q).2=0) : ∃ σ τ u r v,SetOk s q σ τ u r v:=by
 have hj:q75 s q=0:=by
  unfold qlk at h
  split at h
  ·assumption
  ·rename_i hj;exact absurd h hj
 have hw:(q1s s q.1).2.2=true:=by
  unfold qlk at h
  rw [if_pos hj] at h
  split at h
  ·assumption
  ·cases h
 obtain ⟨⟨σ,hσ⟩,hf⟩:=quh hj
 obtain ⟨σ2,q2,a,h1,h2,h3,h4,h5,h6⟩:=qgs hw
 have hs2:σ2=σ:=by
  have e1:=h1.rd
  rw [hσ.rd] at e1
  exact (Sum.inr.inj e1).symm
 rw [hs2] at h2
 obtain ⟨u,r,v,e1,e2,e3,e4⟩:=j3s hσ (p:=q.1) (List.mem_map.2 ⟨q2,h2,h3⟩)
 obtain ⟨τ,k1,k2,k3⟩:=e4 q.2 hf
 exact ⟨σ,τ,u,r,v,hσ,hf,e1,e2,e3,set_mk hσ hf e1 e3,k1,k2,k3⟩
theorem SetOk.me {s:Yy} {q:Rq} {σ τ:MS} {u r:Yy} {v:VD} (h:SetOk s q σ τ u r v):q1s (u++(q06 q.2++r)) q.1=((u.length:Int),(((u.length+(q06 q.2).length:Nat):Int),true)):=by
 rw [j3q h.ist,h.sv.me]
 simp
theorem j0s {s:Yy} {q:Rq} (h:(qlk s q).2=0):(qlk s q).1.length≤s.length+92:=by
 obtain ⟨σ,τ,u,r,v,hk⟩:=j4s h
 have ht:=qil q.2
 rw [hk.eq,hk.sp]
 simp only [List.length_append]
 omega
set_option synthInstance.maxSize 100000
set_option synthInstance.maxHeartbeats 0
def oth (p:Yy) (l:List Rq):List Rq:=l.filter fun q=>!decide (q.1=p)
set_option synthInstance.maxSize 100000
set_option synthInstance.maxHeartbeats 0
def q2m:List Rq→Yy→Int→Yy×(Int×Int)
 | [],s,c=>(s,(c,0))
 | r::l,s,c=>if (q1s s r.1).2.2=true then (if (qlk s r).2=0 then q2m l (qlk s r).1 (c+1) else ([],(0,(qlk s r).2))) else q2m l s c
def allM (s:Yy) (l:List Rq):Yy×(Int×Int):=if (q42 s).2.2=0 then q2m l s 0 else ([],(0,(q42 s).2.2))
theorem qjm (n:Nat) (hn:1000000<n) (l:List Rq) (hl:l.length≤20) (hp : ∀ q∈l,q.1.length≤1000) : ∀ (m j:Nat) (s:Yy) (c:Nat),j≤l.length→l.length - j<m→s.length≤90000+92*j→c≤j →
  (q6r n m s (c:Int) l ((l.length:Nat):Int) (j:Int)).bind (fun o8=>Sum.elim (fun q9=>some (q9.1.1,(q9.1.2.1,q9.1.2.2.1))) (fun q10=>some (q10.1.1,(q10.1.2.1,(0:Int)))) o8)=some (q2m (l.drop j) s (c:Int))
 | 0,j,s,c,_,h,_,_=>absurd h (Nat.not_lt_zero _)
 | m+1,j,s,c,hj,h,hs,hc=>by
  rw [qf5]
  unfold qoh
  by_cases c0:j<l.length
  ·have c0':((j:Nat):Int)<((l.length:Nat):Int):=by omega
   have hpj:=hp _ (List.getElem_mem c0)
   rw [List.drop_eq_getElem_cons c0,q2m]
   simp only [c0',decide_true,cond_true,q26 c0,Option.bind_some,qrh,qdu n s l[j].1 (show _≤100000 by omega) (by omega),q0b,q0q (show j<4611686018427387904 by omega)]
   cases hw:(q1s s l[j].1).2.2 with
   | false =>
    simp only [Bool.not_false,cond_true,Bool.false_eq_true,if_false]
    exact qjm n hn l hl hp m (j+1) s c (by omega) (by omega) (by omega) (by omega)
   | true =>
    simp only [Bool.not_true,cond_false,if_true,qwc n s l[j] (show _≤100000 by omega) hpj hn,Option.bind_some]
    by_cases h0:(qlk s l[j]).2=0
    ·have hlen:=j0s h0
     simp only [h0,decide_true,Bool.not_true,cond_false,if_true,q0q (show c<4611686018427387904 by omega)]
     exact qjm n hn l hl hp m (j+1) (qlk s l[j]).1 (c+1) (by omega) (by omega) (by omega) (by omega)
    ·simp only [h0,decide_false,Bool.not_false,cond_true,if_false,Option.bind_some,Sum.elim_inl]
  ·have c0' : ¬ ((j:Nat):Int)<((l.length:Nat):Int):=by omega
   simp only [c0',decide_false,cond_false]
   rw [List.drop_eq_nil_of_le (by omega),q2m]
   rfl
theorem q81 (n:Nat) (hn:1000000<n) (s:Yy) (l:List Rq) (hs:s.length≤90000) (hl:l.length≤20) (hp : ∀ q∈l,q.1.length≤1000):q97 n s l=some (allM s l):=by
 unfold q97 allM
 have h:=qjm n hn l hl hp n 0 s 0 (Nat.zero_le _) (by omega) (by omega) (Nat.le_refl _)
 rw [zI,List.drop_zero] at h
 rw [qex n s (by omega) (by omega),Option.bind_some]
 by_cases h0:(q42 s).2.2=0
 ·simp only [h0,decide_true,Bool.not_true,cond_false,if_true]
  exact h
 ·simp only [h0,decide_false,Bool.not_false,cond_true,if_false]
theorem qp7 : ∀ (l1 l2:List Rq) (s:Yy) (c:Int),q2m (l1++l2) s c=if (q2m l1 s c).2.2=0 then q2m l2 (q2m l1 s c).1 (q2m l1 s c).2.1 else q2m l1 s c
 | [],l2,s,c=>by simp [q2m]
 | r::l1,l2,s,c=>by
  rw [List.cons_append,q2m,q2m]
  split
  ·split
   ·exact qp7 l1 l2 _ _
   ·rfl
  ·exact qp7 l1 l2 _ _
theorem qdi (d:Int) : ∀ (l:List Rq) (s:Yy) (c:Int),q2m l s (c+d)=if (q2m l s c).2.2=0 then ((q2m l s c).1,((q2m l s c).2.1+d,0)) else q2m l s c
 | [],s,c=>by simp [q2m]
 | r::l,s,c=>by
  rw [q2m,q2m]
  split
  ·split
   ·rw [show c+d+1=c+1+d by omega];exact qdi d l _ _
   ·rfl
  ·exact qdi d l _ _
theorem qpa : ∀ (l:List Rq) (s:Yy) (c:Int),(q2m l s c).2.2≠0→(q2m l s c).1 = []∧(q2m l s c).2.1=0
 | [],s,c,h=>absurd rfl h
 | r::l,s,c,h=>by
  rw [q2m] at h ⊢
  split
  ·rename_i h1
   rw [if_pos h1] at h
   split
   ·rename_i h2
    rw [if_pos h2] at h
    exact qpa l _ _ h
   ·exact ⟨rfl,rfl⟩
  ·rename_i h1
   rw [if_neg h1] at h
   exact qpa l _ _ h
theorem qx2 : ∀ (l:List Rq) (s:Yy) (c:Int),(∃ σ,IsM s σ)→(q2m l s c).2.2=0→∃ τ,IsM (q2m l s c).1 τ
 | [],s,c,h,_=>h
 | r::l,s,c,h,e=>by
  rw [q2m] at e ⊢
  split
  ·rename_i h1
   rw [if_pos h1] at e
   split
   ·rename_i h2
    rw [if_pos h2] at e
    obtain ⟨σ,τ,u,rr,v,hk⟩:=j4s h2
    exact qx2 l _ _ ⟨τ,by rw [hk.eq];exact hk.ist⟩ e
   ·rename_i h2
    rw [if_neg h2] at e
    exact absurd e h2
  ·rename_i h1
   rw [if_neg h1] at e
   exact qx2 l _ _ h e
theorem qpc : ∀ (l:List Rq) (s:Yy) (c:Int),(q2m l s c).1.length≤s.length+92*l.length
 | [],s,c=>by rw [q2m];simp
 | r::l,s,c=>by
  rw [q2m,List.length_cons]
  split
  ·split
   ·rename_i h2
    have:=qpc l (qlk s r).1 (c+1)
    have:=j0s h2
    omega
   ·simp
  ·have:=qpc l s c
   omega
theorem qid : ∀ (l:List Rq) (s:Yy) (c:Int),0≤c→0≤(q2m l s c).2.1∧(q2m l s c).2.1≤c+((l.length:Nat):Int)
 | [],s,c,h=>by rw [q2m];simp;omega
 | r::l,s,c,h=>by
  rw [q2m,List.length_cons]
  split
  ·split
   ·have:=qid l (qlk s r).1 (c+1) (by omega)
    omega
   ·simp;omega
  ·have:=qid l s c h
   omega
theorem j2h (n:Nat) (hn:9223372036854775807<n) (hl:q0y n=some true) (s:Yy) (l:List Rq) (hL:l.length≤9223372036854775807) (k:Int):qbv n s l k=some true:=by
 unfold qbv
 have g1:=gtI s 3000
 rw [show ((3000:Nat):Int)=(3000:Int) from rfl] at g1
 simp only [hl,Option.bind_some,g1,j3p n l hL hn]
 by_cases c1:s.length≤3000
 ·rw [decide_eq_true c1,Bool.not_true,cond_false]
  cases hf:(l.all j5t&&decide (l.length≤20)) with
  | false=>rfl
  | true =>
   have hf':l.all j5t=true∧l.length≤20:=by simpa using hf
   have hp : ∀ q∈l,q.1.length≤1000:=fun q hq=>by have:=j42 (List.all_eq_true.1 hf'.1 q hq);omega
   have hll:=hf'.2
   rw [Bool.not_true,cond_false]
   by_cases c2:k<0
   ·rw [decide_eq_true c2,cond_true]
   ·rw [decide_eq_false c2,cond_false]
    by_cases c3:((l.length:Nat):Int)<k
    ·rw [decide_eq_true c3,cond_true]
    ·rw [decide_eq_false c3,cond_false]
     obtain ⟨j,rfl⟩ : ∃ j:Nat,k=(j:Int):=⟨k.toNat,by omega⟩
     have hj:j≤l.length:=by omega
     have s1:q1c l (0:Int) (j:Int)=some (l.take j):=sub_zero hj
     have s2:q1c l (j:Int) ((l.length:Nat):Int)=some (l.drop j):=by rw [sub_le hj (Nat.le_refl _),List.take_of_length_le (by simp)]
     have a0:=q81 n (by omega) s [] (by omega) (by simp) (fun q hq=>by cases hq)
     have a1:=q81 n (by omega) s l (by omega) hll hp
     have a2:=q81 n (by omega) s (l.take j) (by omega) (by simp;omega) (fun q hq=>hp q (List.mem_of_mem_take hq))
     simp only [a0,a1,s1,a2,Option.bind_some]
     by_cases c5:(q42 s).2.2=0
     ·obtain ⟨σ,hσ⟩:=qrx c5
      have e0:allM s []=(s,(0,0)):=by unfold allM;rw [if_pos c5];rfl
      have e1:allM s l=q2m l s 0:=by unfold allM;rw [if_pos c5]
      have e2:allM s (l.take j)=q2m (l.take j) s 0:=by unfold allM;rw [if_pos c5]
      have hap:=qp7 (l.take j) (l.drop j) s 0
      rw [List.take_append_drop] at hap
      rw [e0,e1,e2]
      simp only [decide_true,Bool.not_true,cond_false]
      by_cases c6:(q2m (l.take j) s 0).2.2=0
      ·rw [if_pos c6] at hap
       obtain ⟨τ,hτ⟩:=qx2 (l.take j) s 0 ⟨σ,hσ⟩ c6
       have hlen:=qpc (l.take j) s 0
       have hlt:(l.take j).length≤20:=by simp;omega
       have hcnt:=qid (l.take j) s 0 (Int.le_refl _)
       have a3:=q81 n (by omega) (q2m (l.take j) s 0).1 (l.drop j) (by omega) (by simp;omega) (fun q hq=>hp q (List.mem_of_mem_drop hq))
       have e3:allM (q2m (l.take j) s 0).1 (l.drop j)=q2m (l.drop j) (q2m (l.take j) s 0).1 0:=by unfold allM;rw [qt1 hτ];rfl
       rw [e3] at a3
       have hsh:=qdi (q2m (l.take j) s 0).2.1 (l.drop j) (q2m (l.take j) s 0).1 0
       rw [Int.zero_add,← hap] at hsh
       have hcnt2:=qid (l.drop j) (q2m (l.take j) s 0).1 0 (Int.le_refl _)
       have hld:(l.drop j).length≤20:=by simp;omega
       by_cases c7:(q2m (l.drop j) (q2m (l.take j) s 0).1 0).2.2=0
       ·rw [if_pos c7] at hsh
        have w1:IntKind.wrap .i64 ((q2m (l.take j) s 0).2.1+(q2m (l.drop j) (q2m (l.take j) s 0).1 0).2.1)=(q2m (l.drop j) (q2m (l.take j) s 0).1 0).2.1+(q2m (l.take j) s 0).2.1:=by rw [wrap64 (by omega) (by omega)];omega
        rw [hsh]
        simp only [c6,decide_true,Bool.not_true,cond_false,cond_true,s2,a3,Option.bind_some,c7,q0b,w1]
       ·rw [if_neg c7] at hsh
        rw [hsh]
        simp only [c6,c7,decide_true,decide_false,Bool.not_true,Bool.not_false,cond_false,cond_true,s2,a3,Option.bind_some]
      ·rw [if_neg c6] at hap
       obtain ⟨k1,k2⟩:=qpa (l.take j) s 0 c6
       rw [hap]
       simp only [c6,decide_false,Bool.not_false,cond_true,cond_false,k1,k2,decide_true]
     ·have e0:allM s []=([],(0,(q42 s).2.2)):=by unfold allM;rw [if_neg c5]
      rw [e0]
      simp only [c5,decide_false,Bool.not_false,cond_true,decide_true]
 ·rw [decide_eq_false c1];rfl
set_option synthInstance.maxSize 100000
set_option synthInstance.maxHeartbeats 0
structure Dv (p:Yy) (σ τ:MS):Prop where
 mo:τ.mo=σ.mo
 go:τ.go=σ.go
 bk:τ.bk=σ.bk
 rq:τ.rq=oth p σ.rq
 sw:τ.sw=σ.sw
 ex:τ.ex=σ.ex
 rt:τ.rt=σ.rt
 cl : ∀ c,c≠(q0r,(p,v0))→q05 τ c=q05 σ c
 ip:q05 σ (q0r,(p,v0))=true
set_option synthInstance.maxSize 100000
set_option synthInstance.maxHeartbeats 0
set_option synthInstance.maxSize 100000
set_option synthInstance.maxHeartbeats 0
abbrev qr0:Nat:=9223372036854775808
theorem jb3:q0y qr0=some true:=by kernel_rfl
abbrev jaj:Ty:=.prod .str Tv
theorem qq0 (s:Yy) (l:den (.lst jaj)) (k:Int) (_:s.length≤maxLen) (hl:qnv (.lst jaj) l) (_:(Lit.int .i64 k).wf=true):qbv qr0 s l k=some true:=j2h qr0 (by decide) jb3 s l (Nat.le_trans hl.1 (by unfold maxLen;omega)) k
theorem qsj : "*" ++ "errors.errorString" = "*errors.errorString":=by decide
theorem qvv (u:TypeId) (h:Tryz.prog.typeName? 3 u=some "*errors.errorString"):u=276 :=
 typeName_ptr_named (nm := "errors.errorString") (by rw [qsj];kernel_rfl) (by kernel_rfl) (by decide) u (by rw [qsj];exact h)
theorem jc5:(Rows.laid_internal_strconv_uint64pow10:DataW Unit)=Lib.tabData .u64 Lib.pow10Tab:=by rfl
theorem jax:Tryz.prog.globalNamed "internal/strconv.uint64pow10" = some ((Tryz.prog.globalNamed "internal/strconv.uint64pow10").getD 0)∧(Tryz.prog.globals[(Tryz.prog.globalNamed "internal/strconv.uint64pow10").getD 0]?).map (·.type)=some 251:=⟨by kernel_rfl,by kernel_rfl⟩
theorem j7z:Tryz.prog.globalNamed "strconv.ErrSyntax" = some (Tryz.laysAtoi_ren.g 15)∧(Tryz.prog.globals[Tryz.laysAtoi_ren.g 15]?).map (·.type)=some 82:=⟨by kernel_rfl,by kernel_rfl⟩
theorem j64:Tryz.prog.globalNamed "strconv.ErrRange" = some (Tryz.laysAtoi_ren.g 16)∧(Tryz.prog.globals[Tryz.laysAtoi_ren.g 16]?).map (·.type)=some 82:=⟨by kernel_rfl,by kernel_rfl⟩
theorem qn9:Tryz.prog.cellsOf 278=1:=by kernel_rfl
theorem qki:Tryz.prog.cellsOf 9=1:=by kernel_rfl
theorem hEt:Tryz.prog.globalNamed "errors.errorType" = some 0:=by kernel_rfl
theorem hRt:(Tryz.prog.cutTypes.find? (·.1 == "internal/reflectlite.rtype")).map (·.2)=some 196:=by kernel_rfl
theorem hOne:((List.range 306).filter fun t=>Tryz.prog.rowNamed t [101,114,114,111,114]) = [82]:=by kernel_rfl
theorem hSize:Tryz.prog.types.size=306:=by kernel_rfl
theorem jbi {w:World} (hsh:w.ShapedOpen Tryz.prog) (hLH:laidMetH Tryz.prog [("math/bits.deBruijn32tab",Rows.laid_math_bits_deBruijn32tab),("math/bits.deBruijn64tab",Rows.laid_math_bits_deBruijn64tab),("internal/strconv.uint64pow10",Rows.laid_internal_strconv_uint64pow10),("unicode/utf8.acceptRanges",Rows.laid_unicode_utf8_acceptRanges),("errors.errorType",Rows.laid_errors_errorType),("strconv.ErrRange",Rows.laid_strconv_ErrRange),("strconv.ErrSyntax",Rows.laid_strconv_ErrSyntax),("unicode/utf8.first",Rows.laid_unicode_utf8_first)] w):Inv w:=by
 have h':laidMet Tryz.prog [("math/bits.deBruijn32tab",Rows.laid_math_bits_deBruijn32tab),("math/bits.deBruijn64tab",Rows.laid_math_bits_deBruijn64tab),("internal/strconv.uint64pow10",Rows.laid_internal_strconv_uint64pow10),("unicode/utf8.acceptRanges",Rows.laid_unicode_utf8_acceptRanges),("strconv.ErrRange",Rows.laid_strconv_ErrRange),("strconv.ErrSyntax",Rows.laid_strconv_ErrSyntax),("unicode/utf8.first",Rows.laid_unicode_utf8_first)] w∧handlesMet Tryz.prog [("errors.errorType",Rows.laid_errors_errorType)] w:=hLH
 obtain ⟨name,u,ty,e1,e2,e3,e4,e5⟩:=h'.2 _ (List.mem_singleton.2 rfl)
 have en:name = [101,114,114,111,114]:=(Option.some.inj e1).symm
 subst en
 obtain rfl:=Option.some.inj (hRt.symm.trans e2)
 have hm:ty∈(List.range 306).filter fun t=>Tryz.prog.rowNamed t [101,114,114,111,114]:=List.mem_filter.2 ⟨List.mem_range.2 (by rw [← hSize];exact e3),e4⟩
 rw [hOne] at hm
 obtain rfl:=List.mem_singleton.1 hm
 have hh:typeHandle Tryz.prog 82 = .pointer (some ⟨9,82,none⟩):=by kernel_rfl
 rw [hh] at e5
 have hT:w.cell? ⟨0,0,none⟩=some (.iface 196 (.agg #[.pointer (some ⟨9,82,none⟩)])):=by simpa using World.var?_cell hEt e5 0
 have hL:=h'.1
 obtain ⟨m,hm⟩:=Tryz.laysIndex.s1_3 w hsh
 have h3:=hL.tail.tail
 rw [jc5] at h3
 have h5:=hL.tail.tail.tail.tail
 unfold Rows.laid_strconv_ErrRange at h5
 have h6:=hL.tail.tail.tail.tail.tail
 unfold Rows.laid_strconv_ErrSyntax at h6
 obtain ⟨a0,s0,hv0,-,-,-⟩:=laid_sentinel h5 j64.1 j64.2 Tryz.underlying82 qvv Tryz.underlying276 Tryz.underlying278 rfl rfl Tryz.underlying9 qn9 qki
 obtain ⟨a1,s1,hv1,-,-,-⟩:=laid_sentinel h6 j7z.1 j7z.2 Tryz.underlying82 qvv Tryz.underlying276 Tryz.underlying278 rfl rfl Tryz.underlying9 qn9 qki
 have c0:w.cell? ⟨Tryz.laysAtoi_ren.g 16,0,none⟩=some (.iface 276 (.pointer (some a0))):=by have h0:=World.var?_cell j64.1 hv0 0;simpa using h0
 have c1:w.cell? ⟨Tryz.laysAtoi_ren.g 15,0,none⟩=some (.iface 276 (.pointer (some a1))):=by have h0:=World.var?_cell j7z.1 hv1 0;simpa using h0
 exact ⟨hT,⟨m,hm⟩,Lib.tabIs_of_head jax.1 jax.2 (n:=20) (e:=231) (by kernel_rfl) (by kernel_rfl) (by kernel_rfl) (by kernel_rfl) h3,⟨_,_,c1⟩,⟨_,_,c0⟩⟩
noncomputable def wH (os:Os):World :=
 let w0:=World.holding Tryz.prog os ⟨#[],#[],[]⟩
 {w0 with heap:=w0.heap.modify 0 fun
   | .cells _ t frozen=>.cells #[.iface 196 (.agg #[.pointer (some ⟨9,82,none⟩)])] t frozen
   | o=>o }
noncomputable def laidW (os:Os) (laid:List (String×DataW Unit)):World:=(wH os).layVars Tryz.prog laid
theorem qio {os:Os} {laid:List (String×DataW Unit)} (args:Array Value) (hf:(wH os).layFits Tryz.prog laid []=true) (hi:(wH os).layIfaces Tryz.prog laid (laidW os laid)=true) :
  laidMet Tryz.prog laid ((laidW os laid).forCall (fun _ _=>0) ⟨#[],args,[]⟩).memory:=by
 have e1:(laid.filter fun x=>(laid.map (·.1)).contains x.1)=laid:=List.filter_eq_self.2 fun x hx=>List.contains_iff_mem.2 (List.mem_map.2 ⟨x,hx,rfl⟩)
 have e2:(laid.filter fun x=>!(laid.map (·.1)).contains x.1) = []:=List.filter_eq_nil_iff.2 fun x hx=>by rw [List.contains_iff_mem.2 (List.mem_map.2 ⟨x,hx,rfl⟩)];simp
 have h:laidMet Tryz.prog laid (laidW os laid):=laidMet_layVars (w0:=wH os) (laid.map (·.1)) [] (by rw [e1];rfl) (by rw [e1];exact hf) (by rw [e1];exact hi) (by rw [e2];exact LaidIn.none)
 exact h.of_heap (by simp [World.memory,World.forCall,Input.heap])
end Go.Proofs.YtapfankgdkdkgaaGreatDoor.AM
