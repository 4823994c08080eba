
import Derived.Test.YtapfankgdkdkgaaGreatDoorEo29
import Derived.Test.YtapfankgdkdkgaaGreatDoorEo27
import Derived.Test.YtapfankgdkdkgaaGreatDoorEo28
import Derived.Test.YtapfankgdkdkgaaGreatDoorEo13
import Derived.Test.YtapfankgdkdkgaaGreatDoorEo8
import Derived.Test.YtapfankgdkdkgaaGreatDoorRows
import Derived.Test.YtapfankgdkdkgaaGreatDoorEo9
import Derived.LaidLaws
import Derived.LaidHandle
import Derived.Stop.LaidErr
import Derived.Lib.LaidTab
import Derived.Lay
set_option linter.unusedVariables false
set_option linter.unusedSimpArgs false
namespace Go.Proofs.YtapfankgdkdkgaaGreatDoor.AM
open Go.RowKit
set_option synthInstance.maxSize 100000
set_option synthInstance.maxHeartbeats 0
def qal (s:Yy) (r:Rq):Int:=if (qcp s).2.2=0 then (if okS r.1=false then 6 else if q1g r.2=false then 7 else if q3m r.1 r.2=false then 8 else 0) else (qcp s).2.2
def qef (s:Yy) (r:Rq):Yy×Int:=if qal s r=0 then (if (q24 s r.1).2.2=true then (s.take (q24 s r.1).1.toNat++(q08 r.2++s.drop (q24 s r.1).2.1.toNat),0) else ([],5)) else ([],qal s r)
theorem qp1 {s p:Yy} (h:(q24 s p).2.2=true) : ∃ (σ:MS) (q:Rq) (a:Nat),IsM s σ∧q∈σ.rq∧q.1=p∧q24 s p=((a:Int),(((a+(q08 q.2).length:Nat):Int),true))∧a+(q08 q.2).length≤s.length∧(s.drop a).take (q08 q.2).length=q08 q.2:=by
 cases hr:qe0 s with
 | inl e=>unfold q24 at h;rw [hr] at h;cases h
 | inr x =>
  have hi:=(jdc (σ:=x.1) (k:=x.2) hr).1
  have g:=hi.good
  have hc:q0a x.1 (q0z,(p,v0))=true:=by
   unfold q24 at h
   rw [hr] at h
   unfold q0a
   cases hk:q02 clT (q0z,(p,v0)) x.1.sd with
   | none =>
    exfalso
    have h':(match q02 clT (q0z,(p,v0)) x.1.sd with|some x=>(x.1,(x.2,true))|none=>((0:Int),((0:Int),false))).2.2=true:=h
    rw [hk] at h'
    cases h'
   | some y=>rfl
  obtain ⟨q,hq,hp⟩:=List.mem_map.1 ((g.rk p).1 hc)
  obtain ⟨a,e1,e2,e3⟩:=jg7 hi hq
  rw [hp] at e1
  exact ⟨x.1,q,a,hi,hq,hp,e1,e2,e3⟩
theorem j00 (n:Nat) (s:Yy) (r:Rq) (hs:s.length≤100000) (hr:r.1.length≤1000) (hn:1000000<n):qbv n s r=some (qal s r):=by
 unfold qbv qal
 simp only [j0j n s hs (by omega),Option.bind_some]
 by_cases h0:(qcp s).2.2=0
 ·simp only [h0,decide_true,Bool.not_true,cond_false,if_true,q7q n r.1 (show _≤1000000 by omega) (by omega),Option.bind_some]
  cases okS r.1 with
  | false=>rfl
  | true =>
   simp only [Bool.not_true,cond_false,Bool.true_eq_false,if_false,q3l n r.2 (show 4≤n by omega),Option.bind_some]
   cases q1g r.2 with
   | false=>rfl
   | true =>
    simp only [Bool.not_true,cond_false,Bool.true_eq_false,if_false,qpn n r.1 r.2 (show _≤1000000 by omega) (show r.1.length<n by omega) (show 4≤n by omega),Option.bind_some]
    cases q3m r.1 r.2<;>rfl
 ·simp only [h0,decide_false,Bool.not_false,cond_true,if_false]
theorem j5q {s:Yy} {r:Rq} (h:qal s r=0):(∃ σ,IsM s σ)∧q3m r.1 r.2=true:=by
 unfold qal at h
 split at h
 ·rename_i h0
  split at h
  ·cases h
  ·split at h
   ·cases h
   ·split at h
    ·cases h
    ·rename_i h3
     exact ⟨jin h0,by simpa using h3⟩
 ·rename_i h0;exact absurd h h0
theorem qbf (n:Nat) (s:Yy) (r:Rq) (hs:s.length≤100000) (hr:r.1.length≤1000) (hn:1000000<n):q8z n s r=some (qef s r):=by
 unfold q8z qef
 rw [j00 n s r hs hr hn,Option.bind_some]
 by_cases h0:qal s r=0
 ·simp only [h0,decide_true,Bool.not_true,cond_false,if_true,qpp n r.2 (show 4≤n by omega),Option.bind_some]
  unfold qzb
  simp only [j0g n s r.1 hs (by omega),Option.bind_some]
  cases hw:(q24 s r.1).2.2 with
  | false=>rfl
  | true =>
   obtain ⟨σ,q,a,h1,h2,h3,h4,h5,h6⟩:=qp1 hw
   have ht:=qr1 r.2
   have ht2:=qr1 q.2
   rw [h4]
   have s1:q20 s (0:Int) (a:Int)=some (s.take a):=sub_zero (by omega)
   have s2:q20 s ((a+(q08 q.2).length:Nat):Int) ((s.length:Nat):Int)=some (s.drop (a+(q08 q.2).length)):=by
    rw [sub_le h5 (Nat.le_refl _),List.take_of_length_le (by simp)]
   simp only [Bool.not_true,cond_false,j1f,s1,s2,Option.bind_some,if_true,Int.toNat_natCast]
   rw [jjx (by simp;omega),Option.bind_some,jjx (by simp;omega),Option.bind_some,List.append_assoc]
   rfl
 ·simp only [h0,decide_false,Bool.not_false,cond_true,if_false]
theorem j33 (n:Nat) (l:List Rq) (hL:l.length≤9223372036854775807) : ∀ m j:Nat,j≤l.length→l.length - j<m→q5g n m l (j:Int)=some (if (l.drop j).all jic=true then Sum.inr ((l,()),((),())) else Sum.inl ((false,()),((),())))
 | 0,j,_,h=>absurd h (Nat.not_lt_zero _)
 | m+1,j,hj,h=>by
  rw [qeo]
  unfold qka
  by_cases c0:j<l.length
  ·have c0':((j:Nat):Int)<((l.length:Nat):Int):=by omega
   have ih:=j33 n l hL m (j+1) (by omega) (by omega)
   have w1:IntKind.wrap .i64 ((j:Int)+1)=((j+1:Nat):Int):=by rw [wrap64 (by omega) (by omega)];omega
   have g1:=gtI l[j].1 200
   have g2:=gtI l[j].2.2.2.2.1 200
   have g3:=gtI l[j].2.2.2.2.2 200
   rw [show ((200:Nat):Int)=(200:Int) from rfl] at g1 g2 g3
   rw [List.drop_eq_getElem_cons c0,List.all_cons,jic]
   simp only [c0',decide_true,cond_true,q37 c0,Option.bind_some,q0h,w1,g1,g2,g3]
   cases decide (l[j].1.length≤200) with
   | false=>rfl
   | true =>
    cases decide (l[j].2.2.2.2.1.length≤200) with
    | false=>rfl
    | true =>
     cases decide (l[j].2.2.2.2.2.length≤200) with
     | false=>rfl
     | true =>
      simp only [Bool.not_true,cond_false,Bool.true_and]
      exact ih
  ·have c0' : ¬ ((j:Nat):Int)<((l.length:Nat):Int):=by omega
   simp only [c0',decide_false,cond_false]
   rw [List.drop_eq_nil_of_le (by omega)]
   rfl
theorem jfl (n:Nat) (l:List Rq) (hL:l.length≤9223372036854775807) (hn:9223372036854775807<n):qgi n l=some (l.all jic&&decide (l.length≤20)):=by
 unfold qgi
 have h:=j33 n l hL n 0 (Nat.zero_le _) (by omega)
 rw [zI,List.drop_zero] at h
 rw [h]
 have g:=leI l.length 20
 rw [show ((20:Nat):Int)=(20:Int) from rfl] at g
 cases l.all jic with
 | false=>rfl
 | true=>simp only [if_true,Option.bind_some,Sum.elim_inr,g,Bool.true_and]
theorem j40 {q:Rq} (h:jic q=true):q.1.length≤200:=by
 unfold jic at h
 simp only [Bool.and_eq_true,decide_eq_true_eq] at h
 exact h.1
end Go.Proofs.YtapfankgdkdkgaaGreatDoor.AM
namespace Go.Proofs.YtapfankgdkdkgaaGreatDoor.AM
open Go.RowKit
set_option synthInstance.maxSize 100000
set_option synthInstance.maxHeartbeats 0
theorem qgu {s:Yy} {σ:MS} (h:IsM s σ) (p:Yy):q24 s p=match q02 clT (q0z,(p,v0)) σ.sd with|some x=>(x.1,(x.2,true))|none=>((0:Int),((0:Int),false)):=by
 unfold q24
 rw [qse h]
 cases hk:q02 clT (q0z,(p,v0)) σ.sd<;>simp only [hk]
theorem j08 {s:Yy} {σ:MS} (h:IsM s σ) {p:Yy} {a b:Int} (hw:q24 s p=(a,(b,true))):q02 clT (q0z,(p,v0)) σ.sd=some (a,b):=by
 rw [qgu h] at hw
 cases hk:q02 clT (q0z,(p,v0)) σ.sd with
 | none=>rw [hk] at hw;cases hw
 | some x=>rw [hk] at hw;cases hw;rfl
theorem jfr {s:Yy} {σ:MS} (h:IsM s σ) {q:Rq} (hf:q3m q.1 q.2=true):qal s q=0:=by
 obtain ⟨h1,h2⟩:=q4d hf
 unfold qal
 rw [jhy h]
 simp [h1,h2,hf]
theorem set_mk {s:Yy} {σ:MS} (h:IsM s σ) {q:Rq} (hf:q3m q.1 q.2=true) {u v r:Yy} (hs:s=u++(v++r)) (hw:q24 s q.1=((u.length:Int),(((u.length+v.length:Nat):Int),true))):qef s q=(u++(q08 q.2++r),0):=by
 unfold qef
 rw [jfr h hf,if_pos rfl,hw]
 simp only [if_true,Int.toNat_natCast]
 have e1:s.take u.length=u:=by rw [hs,List.take_left]
 have e2:s.drop (u.length+v.length)=r:=by rw [hs,← List.append_assoc,List.drop_left' (by simp)]
 rw [e1,e2]
structure SetOk (s:Yy) (q:Rq) (σ τ:MS) (u r:Yy) (v:VD):Prop where
 is:IsM s σ
 ft:q3m q.1 q.2=true
 sp:s=u++(q08 v++r)
 mem:(q.1,v)∈σ.rq
 wh:q24 s q.1=((u.length:Int),(((u.length+(q08 v).length:Nat):Int),true))
 eq:qef s q=(u++(q08 q.2++r),0)
 ist:IsM (u++(q08 q.2++r)) τ
 sv:Sv q.1 q.2 (u.length:Int) (((q08 v).length:Nat):Int) ((((q08 q.2).length:Nat):Int) - (((q08 v).length:Nat):Int)) σ τ
 ln:(Lx.q0d (u++(q08 q.2++r))).length=(Lx.q0d s).length
theorem qvt {s:Yy} {q:Rq} (h:(qef s q).2=0) : ∃ σ τ u r v,SetOk s q σ τ u r v:=by
 have hj:qal s q=0:=by
  unfold qef at h
  split at h
  ·assumption
  ·rename_i hj;exact absurd h hj
 have hw:(q24 s q.1).2.2=true:=by
  unfold qef at h
  rw [if_pos hj] at h
  split at h
  ·assumption
  ·cases h
 obtain ⟨⟨σ,hσ⟩,hf⟩:=j5q hj
 obtain ⟨σ2,q2,a,h1,h2,h3,h4,h5,h6⟩:=qp1 hw
 have hs2:σ2=σ:=by
  have e1:=h1.rd
  rw [hσ.rd] at e1
  exact (Sum.inr.inj e1).symm
 rw [hs2] at h2
 obtain ⟨u,r,v,e1,e2,e3,e4⟩:=jh2 hσ (p:=q.1) (List.mem_map.2 ⟨q2,h2,h3⟩)
 obtain ⟨τ,k1,k2,k3⟩:=e4 q.2 hf
 exact ⟨σ,τ,u,r,v,hσ,hf,e1,e2,e3,set_mk hσ hf e1 e3,k1,k2,k3⟩
theorem jqp {s:Yy} {σ τ:MS} (h:IsM s σ) (h2:IsM s τ):σ=τ:=by
 have e1:=h.rd
 rw [h2.rd] at e1
 exact (Sum.inr.inj e1).symm
theorem SetOk.me {s:Yy} {q:Rq} {σ τ:MS} {u r:Yy} {v:VD} (h:SetOk s q σ τ u r v):q24 (u++(q08 q.2++r)) q.1=((u.length:Int),(((u.length+(q08 q.2).length:Nat):Int),true)):=by
 rw [qgu h.ist,h.sv.me]
 simp
theorem j9e {s:Yy} {q:Rq} (h:(qef s q).2=0):(qef s q).1.length≤s.length+92:=by
 obtain ⟨σ,τ,u,r,v,hk⟩:=qvt h
 have ht:=qr1 q.2
 rw [hk.eq,hk.sp]
 simp only [List.length_append]
 omega
theorem qpb {s:Yy} {a b:Rq} {σ τ:MS} {u r:Yy} {v:VD} (h:SetOk s a σ τ u r v) (hp:a.1=b.1) (hb:q3m b.1 b.2=true):qef (qef s a).1 b=qef s b:=by
 rw [h.eq]
 rw [set_mk h.ist hb rfl (by rw [← hp];exact h.me),set_mk h.is hb h.sp (by rw [← hp];exact h.wh)]
theorem j43 {s:Yy} {a b:Rq} {σ τ:MS} {u r:Yy} {v:VD} {τ2:MS} {u2 r2:Yy} {w:VD} (h:SetOk s a σ τ u r v) (h2:SetOk s b σ τ2 u2 r2 w) (hp:a.1≠b.1) (hlt:u.length+(q08 v).length≤u2.length) : ∃ W,qef (qef s a).1 b=(W,0)∧qef (qef s b).1 a=(W,0):=by
 have hv:q08 v ≠ []:=(q44 (q4d (h.is.good.rq _ h.mem)).2).1.1
 have hvl:0<(q08 v).length:=List.length_pos_iff.2 hv
 obtain ⟨m,e1,e2⟩ : ∃ m,u2=u++(q08 v++m)∧r=m++(q08 w++r2):=by
  have e:=h.sp.symm.trans h2.sp
  rw [← List.append_assoc] at e
  rcases List.append_eq_append_iff.1 e with ⟨c,k1,k2⟩|⟨c,k1,k2⟩
  ·exact ⟨c,by rw [k1];simp,k2⟩
  ·have hc:c = []:=by
    have:=congrArg List.length k1
    simp at this
    exact List.length_eq_zero_iff.1 (by omega)
   subst hc
   exact ⟨[],by simpa using k1.symm,by simpa using k2.symm⟩
 have hl2:=j08 h2.is h2.wh
 have hl1:=j08 h.is h.wh
 have w1:q24 (u++(q08 a.2++r)) b.1=(((u++(q08 a.2++m)).length:Int),((((u++(q08 a.2++m)).length+(q08 w).length:Nat):Int),true)):=by
  rw [qgu h.ist,h.sv.po b.1 (Ne.symm hp),hl2,Option.map_some,shf,if_neg (by simp only;omega),e1]
  simp only [List.length_append]
  refine Prod.ext ?_ (Prod.ext ?_ rfl)<;>simp only<;>omega
 have x1:=set_mk h.ist h2.ft (q:=b) (u:=u++(q08 a.2++m)) (v:=q08 w) (r:=r2) (by rw [e2];simp) w1
 have w2:q24 (u2++(q08 b.2++r2)) a.1=((u.length:Int),(((u.length+(q08 v).length:Nat):Int),true)):=by
  rw [qgu h2.ist,h2.sv.po a.1 hp,hl1,Option.map_some,shf,if_pos (by simp only;omega)]
 have x2:=set_mk h2.ist h.ft (q:=a) (u:=u) (v:=q08 v) (r:=m++(q08 b.2++r2)) (by rw [e1];simp) w2
 refine ⟨_,by rw [h.eq];exact x1,?_⟩
 rw [h2.eq,x2]
 simp
theorem jfj {s:Yy} {a b:Rq} (ha:(qef s a).2=0) (hb:(qef s b).2=0) (hp:a.1≠b.1) : ∃ W,qef (qef s a).1 b=(W,0)∧qef (qef s b).1 a=(W,0):=by
 obtain ⟨σ,τ,u,r,v,h⟩:=qvt ha
 obtain ⟨σ',τ2,u2,r2,w,h2⟩:=qvt hb
 obtain rfl:=jqp h.is h2.is
 have hl2:=j08 h2.is h2.wh
 rcases h.sv.dj b.1 (Ne.symm hp) _ hl2 with hd|hd
 ·simp only at hd
  obtain ⟨W,k1,k2⟩:=j43 h2 h (Ne.symm hp) (by omega)
  exact ⟨W,k2,k1⟩
 ·simp only at hd
  exact j43 h h2 hp (by omega)
theorem j5t (n:Nat) (hn:9223372036854775807<n) (hl:q35 n=some true) (s:Yy) (a b:Rq):qa5 n s a b=some true:=by
 unfold qa5
 have g1:=gtI s 3000
 rw [show ((3000:Nat):Int)=(3000:Int) from rfl] at g1
 simp only [hl,Option.bind_some,g1,jfl n [a,b] (by simp) hn]
 by_cases c1:s.length≤3000
 ·rw [decide_eq_true c1,Bool.not_true,cond_false]
  cases hf:(([a,b].all jic)&&decide ([a,b].length≤20)) with
  | false=>rfl
  | true =>
   have hab:jic a=true∧jic b=true:=by simpa using hf
   have pa:=j40 hab.1
   have pb:=j40 hab.2
   rw [Bool.not_true,cond_false]
   simp only [qbf n s a (by omega) (by omega) (by omega),qbf n s b (by omega) (by omega) (by omega),Option.bind_some]
   by_cases ha:(qef s a).2=0
   ·by_cases hb:(qef s b).2=0
    ·have la:=j9e ha
     have lb:=j9e hb
     simp only [ha,hb,decide_true,Bool.not_true,cond_false,qbf n (qef s a).1 b (by omega) (by omega) (by omega),qbf n (qef s b).1 a (by omega) (by omega) (by omega),Option.bind_some]
     by_cases hp:a.1=b.1
     ·obtain ⟨σ,τ,u,r,v,h⟩:=qvt ha
      obtain ⟨σ',τ2,u2,r2,w,h2⟩:=qvt hb
      have e1:=qpb h hp h2.ft
      have e2:=qpb h2 hp.symm h.ft
      simp only [e1,e2,ha,hb,hp,decide_true,Bool.not_true,cond_false,cond_true]
     ·obtain ⟨W,e1,e2⟩:=jfj ha hb hp
      simp only [e1,e2,hp,decide_true,decide_false,Bool.not_true,Bool.not_false,cond_false,cond_true]
    ·simp only [ha,hb,decide_true,decide_false,Bool.not_true,Bool.not_false,cond_false,cond_true]
   ·simp only [ha,decide_false,Bool.not_false,cond_true]
 ·rw [decide_eq_false c1];rfl
end Go.Proofs.YtapfankgdkdkgaaGreatDoor.AM
namespace Go.Proofs.YtapfankgdkdkgaaGreatDoor.AM
open Go.RowKit
set_option synthInstance.maxSize 100000
set_option synthInstance.maxHeartbeats 0
def oth (p:Yy) (l:List Rq):List Rq:=l.filter fun q=>!decide (q.1=p)
end Go.Proofs.YtapfankgdkdkgaaGreatDoor.AM
namespace Go.Proofs.YtapfankgdkdkgaaGreatDoor.AM
open Go.RowKit
set_option synthInstance.maxSize 100000
set_option synthInstance.maxHeartbeats 0
end Go.Proofs.YtapfankgdkdkgaaGreatDoor.AM
namespace Go.Proofs.YtapfankgdkdkgaaGreatDoor.AM
open Go.RowKit
set_option synthInstance.maxSize 100000
set_option synthInstance.maxHeartbeats 0
structure Dv (p:Yy) (σ τ:MS):Prop where
 mo:τ.mo=σ.mo
 go:τ.go=σ.go
 bk:τ.bk=σ.bk
 rq:τ.rq=oth p σ.rq
 sw:τ.sw=σ.sw
 ex:τ.ex=σ.ex
 rt:τ.rt=σ.rt
 cl : ∀ c,c≠(q0z,(p,v0))→q0a τ c=q0a σ c
 ip:q0a σ (q0z,(p,v0))=true
end Go.Proofs.YtapfankgdkdkgaaGreatDoor.AM
namespace Go.Proofs.YtapfankgdkdkgaaGreatDoor.AM
open Go.RowKit
set_option synthInstance.maxSize 100000
set_option synthInstance.maxHeartbeats 0
end Go.Proofs.YtapfankgdkdkgaaGreatDoor.AM
namespace Go.Proofs.YtapfankgdkdkgaaGreatDoor.AM
open Go.RowKit
set_option synthInstance.maxSize 100000
set_option synthInstance.maxHeartbeats 0
end Go.Proofs.YtapfankgdkdkgaaGreatDoor.AM
namespace Go.Proofs.YtapfankgdkdkgaaGreatDoor.AM
open Go.RowKit
set_option maxRecDepth 100000
abbrev j4y:Nat:=9223372036854775808
theorem jot:q35 j4y=some true:=by kernel_rfl
end Go.Proofs.YtapfankgdkdkgaaGreatDoor.AM
namespace Go.Proofs.YtapfankgdkdkgaaGreatDoor.AM
open Go.RowKit
set_option maxRecDepth 100000
abbrev jky:Ty:=.prod .str Tv
theorem qsa (s:Yy) (a b:den jky) (_:s.length≤maxLen) (_:qva jky a) (_:qva jky b):qa5 j4y s a b=some true:=j5t j4y (by decide) jot s a b
end Go.Proofs.YtapfankgdkdkgaaGreatDoor.AM
namespace Go.Proofs.YtapfankgdkdkgaaGreatDoor.AM
open Go.RowKit
theorem j5c : "*" ++ "errors.errorString" = "*errors.errorString":=by decide
theorem jc3 (u:TypeId) (h:Tryz.prog.typeName? 3 u=some "*errors.errorString"):u=276 :=
 typeName_ptr_named (nm := "errors.errorString") (by rw [j5c];kernel_rfl) (by kernel_rfl) (by decide) u (by rw [j5c];exact h)
theorem jp0:(Rows.laid_internal_strconv_uint64pow10:DataW Unit)=Lib.tabData .u64 Lib.pow10Tab:=by rfl
theorem jq2:Tryz.prog.globalNamed "internal/strconv.uint64pow10" = some ((Tryz.prog.globalNamed "internal/strconv.uint64pow10").getD 0)∧(Tryz.prog.globals[(Tryz.prog.globalNamed "internal/strconv.uint64pow10").getD 0]?).map (·.type)=some 251:=⟨by kernel_rfl,by kernel_rfl⟩
theorem jlv:Tryz.prog.globalNamed "strconv.ErrSyntax" = some (Tryz.laysAtoi_ren.g 15)∧(Tryz.prog.globals[Tryz.laysAtoi_ren.g 15]?).map (·.type)=some 82:=⟨by kernel_rfl,by kernel_rfl⟩
theorem jkj:Tryz.prog.globalNamed "strconv.ErrRange" = some (Tryz.laysAtoi_ren.g 16)∧(Tryz.prog.globals[Tryz.laysAtoi_ren.g 16]?).map (·.type)=some 82:=⟨by kernel_rfl,by kernel_rfl⟩
theorem qtf:Tryz.prog.cellsOf 278=1:=by kernel_rfl
theorem qwi:Tryz.prog.cellsOf 9=1:=by kernel_rfl
theorem hEt:Tryz.prog.globalNamed "errors.errorType" = some 0:=by kernel_rfl
theorem hRt:(Tryz.prog.cutTypes.find? (·.1 == "internal/reflectlite.rtype")).map (·.2)=some 196:=by kernel_rfl
theorem hOne:((List.range 306).filter fun t=>Tryz.prog.rowNamed t [101,114,114,111,114]) = [82]:=by kernel_rfl
theorem hSize:Tryz.prog.types.size=306:=by kernel_rfl
theorem jo7 {w:World} (hsh:w.ShapedOpen Tryz.prog) (hLH:laidMetH Tryz.prog [("math/bits.deBruijn32tab",Rows.laid_math_bits_deBruijn32tab),("math/bits.deBruijn64tab",Rows.laid_math_bits_deBruijn64tab),("internal/strconv.uint64pow10",Rows.laid_internal_strconv_uint64pow10),("unicode/utf8.acceptRanges",Rows.laid_unicode_utf8_acceptRanges),("errors.errorType",Rows.laid_errors_errorType),("strconv.ErrRange",Rows.laid_strconv_ErrRange),("strconv.ErrSyntax",Rows.laid_strconv_ErrSyntax),("unicode/utf8.first",Rows.laid_unicode_utf8_first)] w):Inv w:=by
 have h':laidMet Tryz.prog [("math/bits.deBruijn32tab",Rows.laid_math_bits_deBruijn32tab),("math/bits.deBruijn64tab",Rows.laid_math_bits_deBruijn64tab),("internal/strconv.uint64pow10",Rows.laid_internal_strconv_uint64pow10),("unicode/utf8.acceptRanges",Rows.laid_unicode_utf8_acceptRanges),("strconv.ErrRange",Rows.laid_strconv_ErrRange),("strconv.ErrSyntax",Rows.laid_strconv_ErrSyntax),("unicode/utf8.first",Rows.laid_unicode_utf8_first)] w∧handlesMet Tryz.prog [("errors.errorType",Rows.laid_errors_errorType)] w:=hLH
 obtain ⟨name,u,ty,e1,e2,e3,e4,e5⟩:=h'.2 _ (List.mem_singleton.2 rfl)
 have en:name = [101,114,114,111,114]:=(Option.some.inj e1).symm
 subst en
 obtain rfl:=Option.some.inj (hRt.symm.trans e2)
 have hm:ty∈(List.range 306).filter fun t=>Tryz.prog.rowNamed t [101,114,114,111,114]:=List.mem_filter.2 ⟨List.mem_range.2 (by rw [← hSize];exact e3),e4⟩
 rw [hOne] at hm
 obtain rfl:=List.mem_singleton.1 hm
 have hh:typeHandle Tryz.prog 82 = .pointer (some ⟨9,82,none⟩):=by kernel_rfl
 rw [hh] at e5
 have hT:w.cell? ⟨0,0,none⟩=some (.iface 196 (.agg #[.pointer (some ⟨9,82,none⟩)])):=by simpa using World.var?_cell hEt e5 0
 have hL:=h'.1
 obtain ⟨m,hm⟩:=Tryz.laysIndex.s1_3 w hsh
 have h3:=hL.tail.tail
 rw [jp0] at h3
 have h5:=hL.tail.tail.tail.tail
 unfold Rows.laid_strconv_ErrRange at h5
 have h6:=hL.tail.tail.tail.tail.tail
 unfold Rows.laid_strconv_ErrSyntax at h6
 obtain ⟨a0,s0,hv0,-,-,-⟩:=laid_sentinel h5 jkj.1 jkj.2 Tryz.underlying82 jc3 Tryz.underlying276 Tryz.underlying278 rfl rfl Tryz.underlying9 qtf qwi
 obtain ⟨a1,s1,hv1,-,-,-⟩:=laid_sentinel h6 jlv.1 jlv.2 Tryz.underlying82 jc3 Tryz.underlying276 Tryz.underlying278 rfl rfl Tryz.underlying9 qtf qwi
 have c0:w.cell? ⟨Tryz.laysAtoi_ren.g 16,0,none⟩=some (.iface 276 (.pointer (some a0))):=by have h0:=World.var?_cell jkj.1 hv0 0;simpa using h0
 have c1:w.cell? ⟨Tryz.laysAtoi_ren.g 15,0,none⟩=some (.iface 276 (.pointer (some a1))):=by have h0:=World.var?_cell jlv.1 hv1 0;simpa using h0
 exact ⟨hT,⟨m,hm⟩,Lib.tabIs_of_head jq2.1 jq2.2 (n:=20) (e:=231) (by kernel_rfl) (by kernel_rfl) (by kernel_rfl) (by kernel_rfl) h3,⟨_,_,c1⟩,⟨_,_,c0⟩⟩
noncomputable def wH (os:Os):World :=
 let w0:=World.holding Tryz.prog os ⟨#[],#[],[]⟩
 {w0 with heap:=w0.heap.modify 0 fun
   | .cells _ t frozen=>.cells #[.iface 196 (.agg #[.pointer (some ⟨9,82,none⟩)])] t frozen
   | o=>o }
noncomputable def laidW (os:Os) (laid:List (String×DataW Unit)):World:=(wH os).layVars Tryz.prog laid
theorem qsk {os:Os} {laid:List (String×DataW Unit)} (args:Array Value) (hf:(wH os).layFits Tryz.prog laid []=true) (hi:(wH os).layIfaces Tryz.prog laid (laidW os laid)=true) :
  laidMet Tryz.prog laid ((laidW os laid).forCall (fun _ _=>0) ⟨#[],args,[]⟩).memory:=by
 have e1:(laid.filter fun x=>(laid.map (·.1)).contains x.1)=laid:=List.filter_eq_self.2 fun x hx=>List.contains_iff_mem.2 (List.mem_map.2 ⟨x,hx,rfl⟩)
 have e2:(laid.filter fun x=>!(laid.map (·.1)).contains x.1) = []:=List.filter_eq_nil_iff.2 fun x hx=>by rw [List.contains_iff_mem.2 (List.mem_map.2 ⟨x,hx,rfl⟩)];simp
 have h:laidMet Tryz.prog laid (laidW os laid):=laidMet_layVars (w0:=wH os) (laid.map (·.1)) [] (by rw [e1];rfl) (by rw [e1];exact hf) (by rw [e1];exact hi) (by rw [e2];exact LaidIn.none)
 exact h.of_heap (by simp [World.memory,World.forCall,Input.heap])
end Go.Proofs.YtapfankgdkdkgaaGreatDoor.AM
