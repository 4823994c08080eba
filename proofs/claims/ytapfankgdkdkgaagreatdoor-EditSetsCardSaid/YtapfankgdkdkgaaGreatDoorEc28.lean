
import Derived.Test.YtapfankgdkdkgaaGreatDoorEc27
import Derived.Test.YtapfankgdkdkgaaGreatDoorEc25
import Derived.Test.YtapfankgdkdkgaaGreatDoorEc26
import Derived.Test.YtapfankgdkdkgaaGreatDoorEc12
import Derived.Test.YtapfankgdkdkgaaGreatDoorEc8
import Derived.Test.YtapfankgdkdkgaaGreatDoorRows
import Derived.Test.YtapfankgdkdkgaaGreatDoorEc9
import Derived.LaidLaws
import Derived.LaidHandle
import Derived.Stop.LaidErr
import Derived.Lib.LaidTab
import Derived.Lay
set_option linter.unusedVariables false
set_option linter.unusedSimpArgs false
set_option maxRecDepth 100000
namespace Go.Proofs.YtapfankgdkdkgaaGreatDoor.AM
open Go.RowKit
set_option synthInstance.maxSize 100000
set_option synthInstance.maxHeartbeats 0
def qb1 (s:Yy) (r:Rq):Int:=if (q6v s).2.2=0 then (if okS r.1=false then 6 else if q0r r.2=false then 7 else if q3c r.1 r.2=false then 8 else 0) else (q6v s).2.2
def qt1 (s:Yy) (r:Rq):Yy×Int:=if qb1 s r=0 then (if (q3h s r.1).2.2=true then (s.take (q3h s r.1).1.toNat++(q08 r.2++s.drop (q3h s r.1).2.1.toNat),0) else ([],5)) else ([],qb1 s r)
theorem qnj {s p:Yy} (h:(q3h s p).2.2=true) : ∃ (σ:MS) (q:Rq) (a:Nat),IsM s σ∧q∈σ.rq∧q.1=p∧q3h s p=((a:Int),(((a+(q08 q.2).length:Nat):Int),true))∧a+(q08 q.2).length≤s.length∧(s.drop a).take (q08 q.2).length=q08 q.2:=by
 cases hr:q9e s with
 | inl e=>unfold q3h at h;rw [hr] at h;cases h
 | inr x =>
  have hi:=(j9s (σ:=x.1) (k:=x.2) hr).1
  have g:=hi.good
  have hc:q04 x.1 (q0s,(p,v0))=true:=by
   unfold q3h at h
   rw [hr] at h
   unfold q04
   cases hk:q02 clT (q0s,(p,v0)) x.1.sd with
   | none =>
    exfalso
    have h':(match q02 clT (q0s,(p,v0)) x.1.sd with|some x=>(x.1,(x.2,true))|none=>((0:Int),((0:Int),false))).2.2=true:=h
    rw [hk] at h'
    cases h'
   | some y=>rfl
  obtain ⟨q,hq,hp⟩:=List.mem_map.1 ((g.rk p).1 hc)
  obtain ⟨a,e1,e2,e3⟩:=je2 hi hq
  rw [hp] at e1
  exact ⟨x.1,q,a,hi,hq,hp,e1,e2,e3⟩
theorem qxo (n:Nat) (s:Yy) (r:Rq) (hs:s.length≤100000) (hr:r.1.length≤1000) (hn:1000000<n):qbv n s r=some (qb1 s r):=by
 unfold qbv qb1
 simp only [qy2 n s hs (by omega),Option.bind_some]
 by_cases h0:(q6v s).2.2=0
 ·simp only [h0,decide_true,Bool.not_true,cond_false,if_true,q7b n r.1 (show _≤1000000 by omega) (by omega),Option.bind_some]
  cases okS r.1 with
  | false=>rfl
  | true =>
   simp only [Bool.not_true,cond_false,Bool.true_eq_false,if_false,q44 n r.2 (show 4≤n by omega),Option.bind_some]
   cases q0r r.2 with
   | false=>rfl
   | true =>
    simp only [Bool.not_true,cond_false,Bool.true_eq_false,if_false,qna n r.1 r.2 (show _≤1000000 by omega) (show r.1.length<n by omega) (show 4≤n by omega),Option.bind_some]
    cases q3c r.1 r.2<;>rfl
 ·simp only [h0,decide_false,Bool.not_false,cond_true,if_false]
theorem j6h {s:Yy} {r:Rq} (h:qb1 s r=0):(∃ σ,IsM s σ)∧q3c r.1 r.2=true:=by
 unfold qb1 at h
 split at h
 ·rename_i h0
  split at h
  ·cases h
  ·split at h
   ·cases h
   ·split at h
    ·cases h
    ·rename_i h3
     exact ⟨jf8 h0,by simpa using h3⟩
 ·rename_i h0;exact absurd h h0
theorem qsx (n:Nat) (s:Yy) (r:Rq) (hs:s.length≤100000) (hr:r.1.length≤1000) (hn:1000000<n):qb4 n s r=some (qt1 s r):=by
 unfold qb4 qt1
 rw [qxo n s r hs hr hn,Option.bind_some]
 by_cases h0:qb1 s r=0
 ·simp only [h0,decide_true,Bool.not_true,cond_false,if_true,qnn n r.2 (show 4≤n by omega),Option.bind_some]
  unfold qyo
  simp only [qyn n s r.1 hs (by omega),Option.bind_some]
  cases hw:(q3h s r.1).2.2 with
  | false=>rfl
  | true =>
   obtain ⟨σ,q,a,h1,h2,h3,h4,h5,h6⟩:=qnj hw
   have ht:=qgs r.2
   have ht2:=qgs q.2
   rw [h4]
   have s1:q1a s (0:Int) (a:Int)=some (s.take a):=sub_zero (by omega)
   have s2:q1a s ((a+(q08 q.2).length:Nat):Int) ((s.length:Nat):Int)=some (s.drop (a+(q08 q.2).length)):=by
    rw [sub_le h5 (Nat.le_refl _),List.take_of_length_le (by simp)]
   simp only [Bool.not_true,cond_false,qzl,s1,s2,Option.bind_some,if_true,Int.toNat_natCast]
   rw [jhu (by simp;omega),Option.bind_some,jhu (by simp;omega),Option.bind_some,List.append_assoc]
   rfl
 ·simp only [h0,decide_false,Bool.not_false,cond_true,if_false]
theorem j23 (n:Nat) (l:List Rq) (hL:l.length≤9223372036854775807) : ∀ m j:Nat,j≤l.length→l.length - j<m→q6b n m l (j:Int)=some (if (l.drop j).all jm1=true then Sum.inr ((l,()),((),())) else Sum.inl ((false,()),((),())))
 | 0,j,_,h=>absurd h (Nat.not_lt_zero _)
 | m+1,j,hj,h=>by
  rw [qep]
  unfold qin
  by_cases c0:j<l.length
  ·have c0':((j:Nat):Int)<((l.length:Nat):Int):=by omega
   have ih:=j23 n l hL m (j+1) (by omega) (by omega)
   have w1:IntKind.wrap .i64 ((j:Int)+1)=((j+1:Nat):Int):=by rw [wrap64 (by omega) (by omega)];omega
   have g1:=gtI l[j].1 200
   have g2:=gtI l[j].2.2.2.2.1 200
   have g3:=gtI l[j].2.2.2.2.2 200
   rw [show ((200:Nat):Int)=(200:Int) from rfl] at g1 g2 g3
   rw [List.drop_eq_getElem_cons c0,List.all_cons,jm1]
   simp only [c0',decide_true,cond_true,q0k c0,Option.bind_some,q00,w1,g1,g2,g3]
   cases decide (l[j].1.length≤200) with
   | false=>rfl
   | true =>
    cases decide (l[j].2.2.2.2.1.length≤200) with
    | false=>rfl
    | true =>
     cases decide (l[j].2.2.2.2.2.length≤200) with
     | false=>rfl
     | true =>
      simp only [Bool.not_true,cond_false,Bool.true_and]
      exact ih
  ·have c0' : ¬ ((j:Nat):Int)<((l.length:Nat):Int):=by omega
   simp only [c0',decide_false,cond_false]
   rw [List.drop_eq_nil_of_le (by omega)]
   rfl
theorem jfs (n:Nat) (l:List Rq) (hL:l.length≤9223372036854775807) (hn:9223372036854775807<n):qhn n l=some (l.all jm1&&decide (l.length≤20)):=by
 unfold qhn
 have h:=j23 n l hL n 0 (Nat.zero_le _) (by omega)
 rw [zI,List.drop_zero] at h
 rw [h]
 have g:=leI l.length 20
 rw [show ((20:Nat):Int)=(20:Int) from rfl] at g
 cases l.all jm1 with
 | false=>rfl
 | true=>simp only [if_true,Option.bind_some,Sum.elim_inr,g,Bool.true_and]
theorem jh7 {q:Rq} (h:jm1 q=true):q.1.length≤200:=by
 unfold jm1 at h
 simp only [Bool.and_eq_true,decide_eq_true_eq] at h
 exact h.1
set_option synthInstance.maxSize 100000
set_option synthInstance.maxHeartbeats 0
theorem jeo {s:Yy} {σ:MS} (h:IsM s σ) (p:Yy):q3h s p=match q02 clT (q0s,(p,v0)) σ.sd with|some x=>(x.1,(x.2,true))|none=>((0:Int),((0:Int),false)):=by
 unfold q3h
 rw [qqp h]
 cases hk:q02 clT (q0s,(p,v0)) σ.sd<;>simp only [hk]
theorem jfw {s:Yy} {σ:MS} (h:IsM s σ) {q:Rq} (hf:q3c q.1 q.2=true):qb1 s q=0:=by
 obtain ⟨h1,h2⟩:=q4k hf
 unfold qb1
 rw [qpr h]
 simp [h1,h2,hf]
theorem set_mk {s:Yy} {σ:MS} (h:IsM s σ) {q:Rq} (hf:q3c q.1 q.2=true) {u v r:Yy} (hs:s=u++(v++r)) (hw:q3h s q.1=((u.length:Int),(((u.length+v.length:Nat):Int),true))):qt1 s q=(u++(q08 q.2++r),0):=by
 unfold qt1
 rw [jfw h hf,if_pos rfl,hw]
 simp only [if_true,Int.toNat_natCast]
 have e1:s.take u.length=u:=by rw [hs,List.take_left]
 have e2:s.drop (u.length+v.length)=r:=by rw [hs,← List.append_assoc,List.drop_left' (by simp)]
 rw [e1,e2]
structure SetOk (s:Yy) (q:Rq) (σ τ:MS) (u r:Yy) (v:VD):Prop where
 is:IsM s σ
 ft:q3c q.1 q.2=true
 sp:s=u++(q08 v++r)
 mem:(q.1,v)∈σ.rq
 wh:q3h s q.1=((u.length:Int),(((u.length+(q08 v).length:Nat):Int),true))
 eq:qt1 s q=(u++(q08 q.2++r),0)
 ist:IsM (u++(q08 q.2++r)) τ
 sv:Sv q.1 q.2 (u.length:Int) (((q08 v).length:Nat):Int) ((((q08 q.2).length:Nat):Int) - (((q08 v).length:Nat):Int)) σ τ
 ln:(Lx.q0a (u++(q08 q.2++r))).length=(Lx.q0a s).length
theorem jhv {s:Yy} {q:Rq} (h:(qt1 s q).2=0) : ∃ σ τ u r v,SetOk s q σ τ u r v:=by
 have hj:qb1 s q=0:=by
  unfold qt1 at h
  split at h
  ·assumption
  ·rename_i hj;exact absurd h hj
 have hw:(q3h s q.1).2.2=true:=by
  unfold qt1 at h
  rw [if_pos hj] at h
  split at h
  ·assumption
  ·cases h
 obtain ⟨⟨σ,hσ⟩,hf⟩:=j6h hj
 obtain ⟨σ2,q2,a,h1,h2,h3,h4,h5,h6⟩:=qnj hw
 have hs2:σ2=σ:=by
  have e1:=h1.rd
  rw [hσ.rd] at e1
  exact (Sum.inr.inj e1).symm
 rw [hs2] at h2
 obtain ⟨u,r,v,e1,e2,e3,e4⟩:=je0 hσ (p:=q.1) (List.mem_map.2 ⟨q2,h2,h3⟩)
 obtain ⟨τ,k1,k2,k3⟩:=e4 q.2 hf
 exact ⟨σ,τ,u,r,v,hσ,hf,e1,e2,e3,set_mk hσ hf e1 e3,k1,k2,k3⟩
theorem SetOk.me {s:Yy} {q:Rq} {σ τ:MS} {u r:Yy} {v:VD} (h:SetOk s q σ τ u r v):q3h (u++(q08 q.2++r)) q.1=((u.length:Int),(((u.length+(q08 q.2).length:Nat):Int),true)):=by
 rw [jeo h.ist,h.sv.me]
 simp
theorem jly {s:Yy} {q:Rq} (h:(qt1 s q).2=0):(qt1 s q).1.length≤s.length+92:=by
 obtain ⟨σ,τ,u,r,v,hk⟩:=jhv h
 have ht:=qgs q.2
 rw [hk.eq,hk.sp]
 simp only [List.length_append]
 omega
set_option synthInstance.maxSize 100000
set_option synthInstance.maxHeartbeats 0
def oth (p:Yy) (l:List Rq):List Rq:=l.filter fun q=>!decide (q.1=p)
theorem q90 (n:Nat) (a b:List Rq) (p:Yy) (hL:a.length≤1000000) : ∀ (m j:Nat) (out:List Rq),j≤a.length→a.length - j<m→out.length≤j→q3y n m a b p (j:Int) out=some ((b,(p,((),((),())))),((),(out++oth p (a.drop j),())))
 | 0,j,_,_,h,_=>absurd h (Nat.not_lt_zero _)
 | m+1,j,out,hj,h,ho=>by
  rw [qat]
  unfold q9n
  by_cases c0:j<a.length
  ·have c0':((j:Nat):Int)<((a.length:Nat):Int):=by omega
   have a1:q1s 72 out [a[j]]=some (out ++ [a[j]]):=q1q (by simp;omega)
   rw [List.drop_eq_getElem_cons c0,oth,List.filter_cons]
   simp only [c0',decide_true,cond_true,q0k c0,Option.bind_some,a1,q00,q03 (show j<4611686018427387904 by omega)]
   by_cases hp:a[j].1=p
   ·simp only [hp,decide_true,Bool.not_true,cond_false,Bool.false_eq_true,if_false]
    rw [q90 n a b p hL m (j+1) _ (by omega) (by omega) (by omega)];rfl
   ·simp only [hp,decide_false,Bool.not_false,cond_true,if_true]
    rw [q90 n a b p hL m (j+1) _ (by omega) (by omega) (by simp;omega)]
    simp [oth]
  ·have c0' : ¬ ((j:Nat):Int)<((a.length:Nat):Int):=by omega
   simp only [c0',decide_false,cond_false]
   rw [List.drop_eq_nil_of_le (by omega)]
   simp [oth]
theorem q9w (n:Nat) (a:List Rq) (p:Yy) (x:List Rq) (hL:a.length≤1000000) : ∀ (m j:Nat) (out:List Rq),j≤a.length→a.length - j<m→out.length≤j→q3o n m a p (j:Int) x out=some (((),((),())),((),(x,(out++oth p (a.drop j),()))))
 | 0,j,_,_,h,_=>absurd h (Nat.not_lt_zero _)
 | m+1,j,out,hj,h,ho=>by
  rw [qaq]
  unfold q96
  by_cases c0:j<a.length
  ·have c0':((j:Nat):Int)<((a.length:Nat):Int):=by omega
   have a1:q1s 72 out [a[j]]=some (out ++ [a[j]]):=q1q (by simp;omega)
   rw [List.drop_eq_getElem_cons c0,oth,List.filter_cons]
   simp only [c0',decide_true,cond_true,q0k c0,Option.bind_some,a1,q00,q03 (show j<4611686018427387904 by omega)]
   by_cases hp:a[j].1=p
   ·simp only [hp,decide_true,Bool.not_true,cond_false,Bool.false_eq_true,if_false]
    rw [q9w n a p x hL m (j+1) _ (by omega) (by omega) (by omega)];rfl
   ·simp only [hp,decide_false,Bool.not_false,cond_true,if_true]
    rw [q9w n a p x hL m (j+1) _ (by omega) (by omega) (by simp;omega)]
    simp [oth]
  ·have c0' : ¬ ((j:Nat):Int)<((a.length:Nat):Int):=by omega
   simp only [c0',decide_false,cond_false]
   rw [List.drop_eq_nil_of_le (by omega)]
   simp [oth]
theorem qyl (n:Nat) (a b:List Rq) (p:Yy) (ha:a.length≤1000000) (hb:b.length≤1000000) (hn:1000000<n):q5l n a b p=some (decide (oth p a=oth p b)):=by
 unfold q5l
 have h0:=q90 n a b p ha n 0 [] (Nat.zero_le _) (by omega) (Nat.le_refl _)
 have h1:=q9w n b p (oth p a) hb n 0 [] (Nat.zero_le _) (by omega) (Nat.le_refl _)
 rw [zI,List.drop_zero,List.nil_append] at h0 h1
 have hl:(oth p a).length≤1000000:=Nat.le_trans (List.length_filter_le ..) ha
 simp only [h0,Option.bind_some,h1,q9f n (oth p a) (oth p b) hl hn]
theorem jap (p:Yy) (v':VD) : ∀ l:List Rq,oth p (swp p v' l)=oth p l
 | []=>rfl
 | q::l=>by
  have ih:=jap p v' l
  unfold oth swp at ih ⊢
  rw [List.map_cons,List.filter_cons,List.filter_cons,ih]
  by_cases h:q.1=p
  ·simp [h]
  ·simp [h]
theorem jl2 (p:Yy) (v':VD) (l:List Rq) (j:Nat) (h:j<l.length) (h':j<(swp p v' l).length):(swp p v' l)[j]=if l[j].1=p then (p,v') else l[j]:=by
 exact List.getElem_map ..
theorem qtg (n:Nat) (hn:1000000<n) (s t:Yy) (ht:t.length≤100000) (r:Rq) (m1 g1:Yy) (a:List Rq) (w1:List Sw) (e1:List Rq) (t1:List Sp) (m2 g2:Yy) (b:List Rq) (w2:List Sw) (e2:List Rq) (t2:List Sp) (hL:a.length≤1000000) (hb:b=swp r.1 r.2 a) (hpl : ∀ q∈a,q.1.length≤1000) (hset : ∀ q∈a,q.1=r.1→qt1 t q=(s,0)) : ∀ m j:Nat,j≤a.length→a.length - j<m →
  q3w n m s t (j:Int) r.1 r.2.1 r.2.2.1 r.2.2.2.1 r.2.2.2.2.1 r.2.2.2.2.2 m1 g1 a w1 e1 t1 m2 g2 b w2 e2 t2=some (Sum.inr ((((),((),())),(((m1,(g1,(a,(w1,(e1,t1))))),((m2,(g2,(b,(w2,(e2,t2))))),())),()))))
 | 0,j,_,h=>absurd h (Nat.not_lt_zero _)
 | m+1,j,hj,h=>by
  rw [qcp]
  unfold qen
  have ih:=fun h1 h2=>qtg n hn s t ht r m1 g1 a w1 e1 t1 m2 g2 b w2 e2 t2 hL hb hpl hset m (j+1) h1 h2
  have hbl:b.length=a.length:=by rw [hb];unfold swp;simp
  by_cases c0:j<a.length
  ·have c0':((j:Nat):Int)<((a.length:Nat):Int):=by omega
   have c1:j<b.length:=by omega
   have hbj:b[j]=if a[j].1=r.1 then (r.1,r.2) else a[j]:=by
    have:=jl2 r.1 r.2 a j c0 (by rw [← hb];exact c1)
    rw [← this]
    simp only [hb]
   have hm:=List.getElem_mem c0
   have hp1:a[j].1=b[j].1:=by rw [hbj];split<;>simp_all
   simp only [c0',decide_true,cond_true,q0k c0,q0k c1,Option.bind_some,hp1,Bool.not_true,cond_false]
   by_cases hp:b[j].1=r.1
   ·have hbr:b[j]=r:=by rw [hbj,if_pos (by rw [hp1];exact hp)]
    have e:=qzg b[j] r
    rw [decide_eq_true hbr] at e
    have hs:=hset a[j] hm (by rw [hp1];exact hp)
    have hsp:=qsx n t a[j] ht (hpl _ hm) hn
    rw [hs] at hsp
    rw [e]
    simp only [hp,decide_true,cond_true,Bool.not_true,cond_false,hsp,Option.bind_some,q00,q03 (show j<4611686018427387904 by omega)]
    exact ih (by omega) (by omega)
   ·simp only [hp,decide_false,cond_false,q00,q03 (show j<4611686018427387904 by omega)]
    exact ih (by omega) (by omega)
  ·have c0' : ¬ ((j:Nat):Int)<((a.length:Nat):Int):=by omega
   simp only [c0',decide_false,cond_false]
theorem jkb {s:Yy} {q:Rq} (h:(qt1 s q).2≠0):(qt1 s q).1 = []:=by
 unfold qt1 at h ⊢
 split
 ·rename_i hj
  rw [if_pos hj] at h
  split
  ·rename_i hw;rw [if_pos hw] at h;exact absurd rfl h
  ·rfl
 ·rfl
theorem jb2 (n:Nat) (hn:9223372036854775807<n) (hl:q5n n=some true) (s:Yy) (r:Rq):qch n s r=some true:=by
 unfold qch
 have g1:=gtI s 4000
 rw [show ((4000:Nat):Int)=(4000:Int) from rfl] at g1
 simp only [hl,Option.bind_some,g1,jfs n [r] (by simp) hn]
 by_cases c1:s.length≤4000
 ·rw [decide_eq_true c1,Bool.not_true,cond_false]
  cases hf:(([r].all jm1)&&decide ([r].length≤20)) with
  | false=>rfl
  | true =>
   have hp:r.1.length≤200:=jh7 (by simpa using hf)
   rw [Bool.not_true,cond_false]
   simp only [qsx n s r (by omega) (by omega) (by omega),Option.bind_some]
   by_cases h0:(qt1 s r).2=0
   ·obtain ⟨σ,τ,u,rr,v,h⟩:=jhv h0
    have hlen:=jly h0
    rw [decide_eq_true h0,Bool.not_true,cond_false]
    simp only [qcf n s (show _≤100000 by omega) (by omega),qcf n (qt1 s r).1 (show _≤100000 by omega) (by omega),Option.bind_some]
    have es:(qt1 s r).1=u++(q08 r.2++rr):=by rw [h.eq]
    have p1:=qpr h.is
    have p2:=qpr h.ist
    rw [h.ln] at p2
    have kL:ML 4001 σ.md:=by
     have:=(jdy s).mono (show _≤4001 by omega)
     rw [p1] at this;exact this
    have hrl:σ.rq.length≤4001:=kL.1
    have hrq:τ.rq=swp r.1 r.2 σ.rq:=h.sv.rq
    have hrl2:τ.rq.length=σ.rq.length:=by rw [hrq];unfold swp;simp
    rw [es] at hlen ⊢
    rw [p1,p2]
    have ho:=qyl n σ.rq τ.rq r.1 (by omega) (by omega) (by omega)
    rw [hrq,jap,decide_eq_true rfl,← hrq] at ho
    have g:=h.is.good
    have hlp:=qtg n (by omega) s (u++(q08 r.2++rr)) (by omega) r σ.mo σ.go σ.rq σ.sw σ.ex σ.rt τ.mo τ.go τ.rq τ.sw τ.ex τ.rt (by omega) hrq (fun q hq=>by have:=j0t (qk3 (q4k (g.rq q hq)).1).1;omega)
     (fun q hq hqr=>by
      have hv:v=q.2:=qjc g.rn h.mem (by rw [← hqr];exact hq)
      have:=set_mk h.ist (g.rq q hq) (u:=u) (v:=q08 r.2) (r:=rr) rfl (by rw [hqr];exact h.me)
      rw [this,← hv,← h.sp]) n 0 (Nat.zero_le _) (by omega)
    rw [zI] at hlp
    have hdl:decide ((((σ.md.2.2.1.length:Nat)):Int)=(((τ.md.2.2.1.length:Nat)):Int))=true:=decide_eq_true (by show ((σ.rq.length:Nat):Int)=((τ.rq.length:Nat):Int);omega)
    have hsame:q9b n (σ.mo,(σ.go,(([]:List Rq),(σ.sw,(σ.ex,σ.rt))))) (τ.mo,(τ.go,(([]:List Rq),(τ.sw,(τ.ex,τ.rt)))))=some true:=by
     rw [qsj n _ _ ⟨by simp,by show σ.sw.length≤_;have:σ.sw.length≤4001:=kL.2.1;omega,by show σ.ex.length≤_;have:σ.ex.length≤4001:=kL.2.2.1;omega,by show σ.rt.length≤_;have:σ.rt.length≤4001:=kL.2.2.2;omega⟩ (by omega),h.sv.mo,h.sv.go,h.sv.sw,h.sv.ex,h.sv.rt,decide_eq_true rfl]
    simp only [decide_true,Bool.not_true,cond_false,hdl]
    rw [show q5l n σ.md.2.2.1 τ.md.2.2.1 r.1=some true from ho]
    simp only [Option.bind_some,Bool.not_true,cond_false]
    rw [show q3w n n s (u++(q08 r.2++rr)) 0 r.1 r.2.1 r.2.2.1 r.2.2.2.1 r.2.2.2.2.1 r.2.2.2.2.2 σ.md.1 σ.md.2.1 σ.md.2.2.1 σ.md.2.2.2.1 σ.md.2.2.2.2.1 σ.md.2.2.2.2.2 τ.md.1 τ.md.2.1 τ.md.2.2.1 τ.md.2.2.2.1 τ.md.2.2.2.2.1 τ.md.2.2.2.2.2=_ from hlp]
    simp only [Option.bind_some,Sum.elim_inr,hsame,cond_true]
   ·rw [decide_eq_false h0,Bool.not_false,cond_true,jkb h0];rfl
 ·rw [decide_eq_false c1];rfl
set_option synthInstance.maxSize 100000
set_option synthInstance.maxHeartbeats 0
set_option synthInstance.maxSize 100000
set_option synthInstance.maxHeartbeats 0
structure Dv (p:Yy) (σ τ:MS):Prop where
 mo:τ.mo=σ.mo
 go:τ.go=σ.go
 bk:τ.bk=σ.bk
 rq:τ.rq=oth p σ.rq
 sw:τ.sw=σ.sw
 ex:τ.ex=σ.ex
 rt:τ.rt=σ.rt
 cl : ∀ c,c≠(q0s,(p,v0))→q04 τ c=q04 σ c
 ip:q04 σ (q0s,(p,v0))=true
set_option synthInstance.maxSize 100000
set_option synthInstance.maxHeartbeats 0
set_option synthInstance.maxSize 100000
set_option synthInstance.maxHeartbeats 0
abbrev j1d:Nat:=9223372036854775808
theorem jq4:q5n j1d=some true:=by kernel_rfl
abbrev jq5:Ty:=.prod .str Tv
theorem qus (s:Yy) (r:den jq5) (_:s.length≤maxLen) (_:qyu jq5 r):qch j1d s r=some true:=jb2 j1d (by decide) jq4 s r
theorem j2r : "*" ++ "errors.errorString" = "*errors.errorString":=by decide
theorem jc3 (u:TypeId) (h:Tryz.prog.typeName? 3 u=some "*errors.errorString"):u=276 :=
 typeName_ptr_named (nm := "errors.errorString") (by rw [j2r];kernel_rfl) (by kernel_rfl) (by decide) u (by rw [j2r];exact h)
theorem jq3:(Rows.laid_internal_strconv_uint64pow10:DataW Unit)=Lib.tabData .u64 Lib.pow10Tab:=by rfl
theorem jnz:Tryz.prog.globalNamed "internal/strconv.uint64pow10" = some ((Tryz.prog.globalNamed "internal/strconv.uint64pow10").getD 0)∧(Tryz.prog.globals[(Tryz.prog.globalNamed "internal/strconv.uint64pow10").getD 0]?).map (·.type)=some 251:=⟨by kernel_rfl,by kernel_rfl⟩
theorem jk6:Tryz.prog.globalNamed "strconv.ErrSyntax" = some (Tryz.laysAtoi_ren.g 15)∧(Tryz.prog.globals[Tryz.laysAtoi_ren.g 15]?).map (·.type)=some 82:=⟨by kernel_rfl,by kernel_rfl⟩
theorem jky:Tryz.prog.globalNamed "strconv.ErrRange" = some (Tryz.laysAtoi_ren.g 16)∧(Tryz.prog.globals[Tryz.laysAtoi_ren.g 16]?).map (·.type)=some 82:=⟨by kernel_rfl,by kernel_rfl⟩
theorem qsn:Tryz.prog.cellsOf 278=1:=by kernel_rfl
theorem qtn:Tryz.prog.cellsOf 9=1:=by kernel_rfl
theorem hEt:Tryz.prog.globalNamed "errors.errorType" = some 0:=by kernel_rfl
theorem hRt:(Tryz.prog.cutTypes.find? (·.1 == "internal/reflectlite.rtype")).map (·.2)=some 196:=by kernel_rfl
theorem hOne:((List.range 306).filter fun t=>Tryz.prog.rowNamed t [101,114,114,111,114]) = [82]:=by kernel_rfl
theorem hSize:Tryz.prog.types.size=306:=by kernel_rfl
theorem jo3 {w:World} (hsh:w.ShapedOpen Tryz.prog) (hLH:laidMetH Tryz.prog [("math/bits.deBruijn32tab",Rows.laid_math_bits_deBruijn32tab),("math/bits.deBruijn64tab",Rows.laid_math_bits_deBruijn64tab),("internal/strconv.uint64pow10",Rows.laid_internal_strconv_uint64pow10),("unicode/utf8.acceptRanges",Rows.laid_unicode_utf8_acceptRanges),("errors.errorType",Rows.laid_errors_errorType),("strconv.ErrRange",Rows.laid_strconv_ErrRange),("strconv.ErrSyntax",Rows.laid_strconv_ErrSyntax),("unicode/utf8.first",Rows.laid_unicode_utf8_first)] w):Inv w:=by
 have h':laidMet Tryz.prog [("math/bits.deBruijn32tab",Rows.laid_math_bits_deBruijn32tab),("math/bits.deBruijn64tab",Rows.laid_math_bits_deBruijn64tab),("internal/strconv.uint64pow10",Rows.laid_internal_strconv_uint64pow10),("unicode/utf8.acceptRanges",Rows.laid_unicode_utf8_acceptRanges),("strconv.ErrRange",Rows.laid_strconv_ErrRange),("strconv.ErrSyntax",Rows.laid_strconv_ErrSyntax),("unicode/utf8.first",Rows.laid_unicode_utf8_first)] w∧handlesMet Tryz.prog [("errors.errorType",Rows.laid_errors_errorType)] w:=hLH
 obtain ⟨name,u,ty,e1,e2,e3,e4,e5⟩:=h'.2 _ (List.mem_singleton.2 rfl)
 have en:name = [101,114,114,111,114]:=(Option.some.inj e1).symm
 subst en
 obtain rfl:=Option.some.inj (hRt.symm.trans e2)
 have hm:ty∈(List.range 306).filter fun t=>Tryz.prog.rowNamed t [101,114,114,111,114]:=List.mem_filter.2 ⟨List.mem_range.2 (by rw [← hSize];exact e3),e4⟩
 rw [hOne] at hm
 obtain rfl:=List.mem_singleton.1 hm
 have hh:typeHandle Tryz.prog 82 = .pointer (some ⟨9,82,none⟩):=by kernel_rfl
 rw [hh] at e5
 have hT:w.cell? ⟨0,0,none⟩=some (.iface 196 (.agg #[.pointer (some ⟨9,82,none⟩)])):=by simpa using World.var?_cell hEt e5 0
 have hL:=h'.1
 obtain ⟨m,hm⟩:=Tryz.laysIndex.s1_3 w hsh
 have h3:=hL.tail.tail
 rw [jq3] at h3
 have h5:=hL.tail.tail.tail.tail
 unfold Rows.laid_strconv_ErrRange at h5
 have h6:=hL.tail.tail.tail.tail.tail
 unfold Rows.laid_strconv_ErrSyntax at h6
 obtain ⟨a0,s0,hv0,-,-,-⟩:=laid_sentinel h5 jky.1 jky.2 Tryz.underlying82 jc3 Tryz.underlying276 Tryz.underlying278 rfl rfl Tryz.underlying9 qsn qtn
 obtain ⟨a1,s1,hv1,-,-,-⟩:=laid_sentinel h6 jk6.1 jk6.2 Tryz.underlying82 jc3 Tryz.underlying276 Tryz.underlying278 rfl rfl Tryz.underlying9 qsn qtn
 have c0:w.cell? ⟨Tryz.laysAtoi_ren.g 16,0,none⟩=some (.iface 276 (.pointer (some a0))):=by have h0:=World.var?_cell jky.1 hv0 0;simpa using h0
 have c1:w.cell? ⟨Tryz.laysAtoi_ren.g 15,0,none⟩=some (.iface 276 (.pointer (some a1))):=by have h0:=World.var?_cell jk6.1 hv1 0;simpa using h0
 exact ⟨hT,⟨m,hm⟩,Lib.tabIs_of_head jnz.1 jnz.2 (n:=20) (e:=231) (by kernel_rfl) (by kernel_rfl) (by kernel_rfl) (by kernel_rfl) h3,⟨_,_,c1⟩,⟨_,_,c0⟩⟩
noncomputable def wH (os:Os):World :=
 let w0:=World.holding Tryz.prog os ⟨#[],#[],[]⟩
 {w0 with heap:=w0.heap.modify 0 fun
   | .cells _ t frozen=>.cells #[.iface 196 (.agg #[.pointer (some ⟨9,82,none⟩)])] t frozen
   | o=>o }
noncomputable def laidW (os:Os) (laid:List (String×DataW Unit)):World:=(wH os).layVars Tryz.prog laid
theorem qqj {os:Os} {laid:List (String×DataW Unit)} (args:Array Value) (hf:(wH os).layFits Tryz.prog laid []=true) (hi:(wH os).layIfaces Tryz.prog laid (laidW os laid)=true) :
  laidMet Tryz.prog laid ((laidW os laid).forCall (fun _ _=>0) ⟨#[],args,[]⟩).memory:=by
 have e1:(laid.filter fun x=>(laid.map (·.1)).contains x.1)=laid:=List.filter_eq_self.2 fun x hx=>List.contains_iff_mem.2 (List.mem_map.2 ⟨x,hx,rfl⟩)
 have e2:(laid.filter fun x=>!(laid.map (·.1)).contains x.1) = []:=List.filter_eq_nil_iff.2 fun x hx=>by rw [List.contains_iff_mem.2 (List.mem_map.2 ⟨x,hx,rfl⟩)];simp
 have h:laidMet Tryz.prog laid (laidW os laid):=laidMet_layVars (w0:=wH os) (laid.map (·.1)) [] (by rw [e1];rfl) (by rw [e1];exact hf) (by rw [e1];exact hi) (by rw [e2];exact LaidIn.none)
 exact h.of_heap (by simp [World.memory,World.forCall,Input.heap])
end Go.Proofs.YtapfankgdkdkgaaGreatDoor.AM
