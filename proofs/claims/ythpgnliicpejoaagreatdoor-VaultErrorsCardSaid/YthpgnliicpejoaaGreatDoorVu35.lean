
import Derived.Test.YthpgnliicpejoaaGreatDoorVu28
import Derived.Test.YthpgnliicpejoaaGreatDoorVu34
import Derived.Test.YthpgnliicpejoaaGreatDoorVu15
import Derived.Test.YthpgnliicpejoaaGreatDoorRows
import Derived.LaidLaws
import Derived.LaidHandle
import Derived.Stop.LaidErr
import Derived.Lib.LaidTab
import Derived.Lay
namespace Go.Proofs
open Go.RowKit
set_option linter.unusedVariables false
set_option linter.unusedSimpArgs false
namespace YthpgnliicpejoaaGreatDoor.AM
theorem quo2 (m:Nat) (hm:m≤100000):qsq .i64 (m:Int) 2=some ((m / 2:Nat):Int):=by
 unfold qsq
 rw [if_pos (by decide)]
 have:(m:Int).tdiv 2=((m / 2:Nat):Int):=by
  rw [Int.tdiv_eq_ediv_of_nonneg (by omega)];omega
 rw [this,wrap64 (by omega) (by omega)]
theorem j71 {a b:Nat} (h:b≤a) (ha:a≤1000000):IntKind.wrap .i64 ((a:Int) - (b:Int))=((a - b:Nat):Int):=by
 rw [wrap64 (by omega) (by omega)];omega
theorem qlh (N n:Nat) (hn:n≤100000):qcy N (n:Int)=some ((0:Int),(((n / 2:Nat):Int),(((n / 2:Nat):Int),((n - n / 2:Nat):Int)))):=by
 unfold qcy
 simp only [quo2 n hn,Option.bind_some]
 rw [j71 (by omega) (by omega),q0q]
theorem qww (N:Nat) (n:Int) (h1 : -9223372036854775808≤n) (h2:n≤9223372036854775807):qcj N n=some (if 8≤n∧n≤512 then (qt0 0 1,0) else ([],1)):=by
 unfold qcj
 by_cases c1:n<8
 ·rw [decide_eq_true c1,cond_true,if_neg (by omega)]
 ·rw [decide_eq_false c1,cond_false]
  by_cases c2:512<n
  ·rw [decide_eq_true c2,cond_true,if_neg (by omega)]
  ·rw [decide_eq_false c2,cond_false,if_pos ⟨by omega,by omega⟩]
   obtain ⟨m,rfl⟩ : ∃ m:Nat,n=(m:Int):=⟨n.toNat,by omega⟩
   rw [qlh N m (by omega),Option.bind_some]
   show Option.bind (q99 N ((0:Int),((m / 2:Nat):Int)) 1) _=_
   rw [qe8 N 0 _ 1 (by omega) (by omega),if_pos ⟨⟨by omega,by omega,by omega⟩,by decide⟩,Option.bind_some]
   rfl
def ja5 (B:BL) (n:Nat):Option Nat:=if qa6 B (fA n 0) then (if qa6 B (fA n 1)∧gA B n 0<gA B n 1 then some 1 else some 0) else if qa6 B (fA n 1) then some 1 else none
def cntT (B:BL) (n:Nat):Int×((Int×(List (List UInt8)×Int))×Bool):=match ja5 B n with
 | some h=>((h:Int),(jj2 B (fA n h) (zA n h),true))
 | none=>(0,((0,([],0)),false))
theorem qv9 (N:Nat) (hN:600≤N) (d:DkT) (hd:smD d) (n:Nat) (hn:(q2v d).secs.length=n) (h8:8≤n) (hm:DM.q2s (q2v d)) :
  qcf N ((0:Int),(((n / 2:Nat):Int),(((n / 2:Nat):Int),((n - n / 2:Nat):Int)))) d=some (cntT (flat (q2v d)) n):=by
 have h512:n≤512:=by have:=hm.2.1;omega
 have o0:=qrh N hN d hd 0 (n / 2) (qxi (by omega) (by omega) (by omega) hm)
 have o1:=qrh N hN d hd (n / 2) (n - n / 2) (qxi (by omega) (by omega) (by omega) hm)
 have e0:fA n 0=0∧zA n 0=n / 2∧fA n 1=n / 2∧zA n 1=n - n / 2:=⟨rfl,rfl,rfl,rfl⟩
 obtain ⟨k1,k2,k3,k4⟩:=e0
 rw [Int.natCast_zero] at o0
 obtain ⟨M,rfl⟩ : ∃ M,N=M+3:=⟨N - 3,by omega⟩
 obtain ⟨d1,d2⟩:=d
 generalize flat (q2v (d1,d2))=B at o0 o1
 have w1:IntKind.wrap .i64 ((0:Int)+1)=1:=by decide
 have w2:IntKind.wrap .i64 ((1:Int)+1)=2:=by decide
 have t0:decide ((0:Int)<2)=true:=by decide
 have t1:decide ((1:Int)<2)=true:=by decide
 have t2:decide ((2:Int)<2)=false:=by decide
 have t3 : ¬ (1:Int)=0:=by decide
 have t5:decide ((5:Int)=0)=false:=by decide
 unfold qcf cntT ja5 gA
 rw [q15]
 unfold q2n
 rw [t0,cond_true,if_pos rfl,o0,Option.bind_some]
 rw [k1,k3]
 by_cases b0:qa6 B 0
 ·rw [if_pos b0,if_pos b0]
  simp only [decide_true,cond_true,Bool.not_false,w1,q0q]
  rw [q15]
  unfold q2n
  rw [t1,cond_true,if_neg t3,if_pos rfl,o1,Option.bind_some]
  by_cases b1:qa6 B (n / 2)
  ·rw [if_pos b1]
   simp only [decide_true,cond_true,Bool.not_true,cond_false,w2,q0q,b1,true_and]
   by_cases c:q3m B 0<q3m B (n / 2)
   ·have c':(jj2 B 0 (n / 2)).1<(jj2 B (n / 2) (n - n / 2)).1:=c
    rw [decide_eq_true c',cond_true,if_pos c,q15]
    unfold q2n
    rw [t2,cond_false,Option.bind_some]
    rfl
   ·have c' : ¬ (jj2 B 0 (n / 2)).1<(jj2 B (n / 2) (n - n / 2)).1:=c
    rw [decide_eq_false c',cond_false,if_neg c,q15]
    unfold q2n
    rw [t2,cond_false,Option.bind_some]
    rfl
  ·rw [if_neg b1]
   simp only [t5,cond_false,w2,q0q,b1,false_and,if_false]
   rw [q15]
   unfold q2n
   rw [t2,cond_false,Option.bind_some]
   rfl
 ·rw [if_neg b0,if_neg b0]
  simp only [t5,cond_false,w1,q0q]
  rw [q15]
  unfold q2n
  rw [t1,cond_true,if_neg t3,if_pos rfl,o1,Option.bind_some]
  by_cases b1:qa6 B (n / 2)
  ·rw [if_pos b1]
   simp only [decide_true,cond_true,Bool.not_false,w2,q0q,b1,if_true]
   rw [q15]
   unfold q2n
   rw [t2,cond_false,Option.bind_some]
   rfl
  ·rw [if_neg b1,if_neg b1]
   simp only [t5,cond_false,w2,q0q]
   rw [q15]
   unfold q2n
   rw [t2,cond_false,Option.bind_some]
theorem jdn (s:List UInt8):(qd2 s).1.length≤s.length:=by
 unfold qd2
 cases hp:q3l (s.length+1) s with
 | none=>simp
 | some out =>
  have:=(qqo _ _ _ hp).1
  simp only
  split
  ·simp only;omega
  ·simp
def qpp (e:Int):IV:=jdw 114 (.agg ⟨[.int .i64 e]⟩)
theorem qmo (e:Int):q5s (Subtype.val (qpp e))=some false∧q6p (qpp e)=some e:=⟨rfl,rfl⟩
theorem qw4 (N:Nat) (l:List FD) (x:List UInt8) (hl:l.length≤1000) (hx:x.length≤5000) :
  ∃ iv,qbm N l x=some (if (qd2 x).2=0∧(q2r l (qd2 x).1).2=0 then ((q2r l (qd2 x).1).1,j1d) else ([],iv))∧(∃ e,iv=qpp e):=by
 have hdl:(qd2 x).1.length≤1000000:=by
  have:=jdn x
  omega
 unfold qbm qq8 q76
 rw [if_pos (show x.length≤1000000 by omega),Option.bind_some]
 by_cases c1:(qd2 x).2=0
 ·rw [decide_eq_true c1,Bool.not_true,cond_false,if_pos ⟨by omega,hdl⟩,Option.bind_some]
  by_cases c2:(q2r l (qd2 x).1).2=0
  ·rw [decide_eq_true c2,Bool.not_true,cond_false]
   exact ⟨qpp 0,by rw [if_pos ⟨c1,c2⟩],0,rfl⟩
  ·rw [decide_eq_false c2,Bool.not_false,cond_true]
   exact ⟨qpp (q2r l (qd2 x).1).2,by rw [if_neg (fun h=>c2 h.2)];rfl,_,rfl⟩
 ·rw [decide_eq_false c1,Bool.not_false,cond_true]
  exact ⟨qpp (qd2 x).2,by rw [if_neg (fun h=>c1 h.1)];rfl,_,rfl⟩
theorem qrx (N:Nat) (its:List (List UInt8)) (hits : ∀ x∈its,x.length≤5000) (hlen:its.length≤1000) (b0 b1 b2 b3 b4 b5 b6:Int) (f0 z0 f1 z1 h g nx:Int) : ∀ (m i:Nat) (l:List FD),its.length - i<m→i≤its.length→q7t l=true →
  ∃ o,q58 N m its (its.length:Int) (i:Int) b0 b1 b2 b3 b4 b5 b6 f0 z0 f1 z1 h g its nx l=some o ∧
   match qk3 l (its.drop i) with
   | some k=>∃ u v w,o=Sum.inr (u,((v,((f0,(z0,(f1,(z1,(h,(g,(its,(nx,k)))))))),())),w))
   | none=>∃ iv st,o=Sum.inl (((),(iv,())),st)∧q5s (Subtype.val iv)=some false∧q6p iv=some 4
 | 0,i,l,hm,_,_=>by omega
 | m+1,i,l,hm,hi,hl=>by
  rw [qfo]
  unfold qoa
  by_cases c:i<its.length
  ·have hd:its.drop i=its[i]::its.drop (i+1):=List.drop_eq_getElem_cons c
   have hll:=qdj hl
   obtain ⟨iv,hr,e,rfl⟩:=qw4 N l its[i] (by omega) (hits _ (List.getElem_mem c))
   rw [decide_eq_true (by omega),cond_true,q2h c,Option.bind_some,hr,Option.bind_some,hd]
   unfold qk3
   by_cases c2:(qd2 its[i]).2=0∧(q2r l (qd2 its[i]).1).2=0
   ·have w1:IntKind.wrap .i64 ((i:Int)+1)=((i+1:Nat):Int):=q19 (by omega)
    rw [if_pos c2,if_pos c2]
    show ∃ o,(Option.bind (some true) _=some o)∧_
    rw [Option.bind_some]
    simp only [Bool.not_true,cond_false,w1,q0q]
    exact qrx N its hits hlen b0 b1 b2 b3 b4 b5 b6 f0 z0 f1 z1 h g nx m (i+1) _ (by omega) (by omega) (qcm (ops:=(qd2 its[i]).1) (l:=l) (by rw [← c2.2]))
   ·rw [if_neg c2,if_neg c2]
    refine ⟨_,rfl,_,_,rfl,rfl,rfl⟩
  ·rw [decide_eq_false (by omega),cond_false]
   have hd:its.drop i = []:=List.drop_eq_nil_of_le (by omega)
   rw [hd]
   exact ⟨_,rfl,_,_,_,rfl⟩
def jbo (D:DM.Dk):Int⊕(Nat×List FD) :=
 if DM.q2s D∧8≤D.secs.length then (match ja5 (flat D) D.secs.length with
  | none=>.inl 5
  | some h=>match qk3 [] ((lA (flat D) D.secs.length h).1.map unB) with
   | none=>.inl 4
   | some fs=>.inr (h,fs)) else .inl 1
theorem j56 {B:BL} {n h:Nat} (hc:ja5 B n=some h):h≤1:=by
 unfold ja5 at hc
 split at hc
 ·split at hc<;>(have:=Option.some.inj hc;omega)
 ·split at hc
  ·have:=Option.some.inj hc;omega
  ·cases hc
abbrev StT:=Int×(Int×(Int×(Int×(Int×(Int×(List (List UInt8)×(Int×List FD)))))))
theorem jdg (B:BL) (n h:Nat) : ∀ x∈(lA B n h).1.map unB,x.length≤5000:=fun x hx=>by
 obtain ⟨y,hy,rfl⟩:=List.mem_map.1 hx
 have:=qgz (B:=B) (e:=fA n h+zA n h) (g:=q3m B (fA n h)) (zA n h - 1) (fA n h+1) [] (fun x hx=>by cases hx) y hy
 rw [q9a];omega
theorem j13 (N:Nat) (hN:1200≤N) (d:DkT) (hd:smD d) : ∃ (st:StT) (iv:IV),qev N d=some (st,iv)∧match jbo (q2v d) with
  | .inl e=>q5s (Subtype.val iv)=some false∧q6p iv=some e
  | .inr (h,fs)=>iv=j1d∧st=(0,(((d.1.length / 2:Nat):Int),(((d.1.length / 2:Nat):Int),(((d.1.length - d.1.length / 2:Nat):Int),((h:Int),(gA (flat (q2v d)) d.1.length h,((lA (flat (q2v d)) d.1.length h).1.map unB,(((lA (flat (q2v d)) d.1.length h).2:Int),fs)))))))):=by
 have hdl:=(qly d).1
 unfold qev ji6 jbo
 rw [Option.bind_some]
 by_cases hm:DM.q2s (q2v d)
 case neg =>
  rw [decide_eq_false hm,Bool.not_false,cond_true,if_neg (fun h=>hm h.1)]
  exact ⟨_,qpp 1,rfl,qmo 1⟩
 rw [decide_eq_true hm,Bool.not_true,cond_false]
 have h512:d.1.length≤512:=by have:=hm.2.1;omega
 by_cases h8:8≤d.1.length
 case neg =>
  rw [decide_eq_true (by omega),cond_true,if_neg (fun h=>h8 (by omega))]
  exact ⟨_,qpp 1,rfl,qmo 1⟩
 rw [decide_eq_false (by omega),cond_false,if_pos ⟨hm,by omega⟩,qlh N _ (by omega),Option.bind_some,qv9 N (by omega) d hd d.1.length hdl h8 hm,Option.bind_some,hdl]
 generalize flat (q2v d)=B
 generalize d.1.length=n at *
 unfold cntT
 cases hc:ja5 B n with
 | none=>exact ⟨_,qpp 5,rfl,qmo 5⟩
 | some h =>
  have hh:=j56 hc
  obtain ⟨z1,z2,_⟩:=q45 h8 hh
  have hin:=(qu5 (B:=B) (f:=fA n h) (z:=zA n h) (by omega) (by omega)).2.2
  have hll:((lA B n h).1.map unB).length≤1000:=by rw [List.length_map];unfold lA;omega
  obtain ⟨o,ho,hcase⟩:=qrx N ((lA B n h).1.map unB) (jdg B n h) hll 0 0 0 0 0 0 0 0 ((n / 2:Nat):Int) ((n / 2:Nat):Int) ((n - n / 2:Nat):Int) (h:Int) (gA B n h) ((lA B n h).2:Int) N 0 [] (by omega) (Nat.zero_le _) qeh
  rw [Int.natCast_zero] at ho
  rw [List.drop_zero] at hcase
  show ∃ st iv,(bif !true then _ else Option.bind (q58 N N ((lA B n h).1.map unB) (((lA B n h).1.map unB).length:Int) 0 0 0 0 0 0 0 0 0 ((n / 2:Nat):Int) ((n / 2:Nat):Int) ((n - n / 2:Nat):Int) (h:Int) (gA B n h) ((lA B n h).1.map unB) ((lA B n h).2:Int) []) _)=some (st,iv)∧_
  rw [Bool.not_true,cond_false,ho,Option.bind_some]
  cases hr:qk3 [] ((lA B n h).1.map unB) with
  | none =>
   rw [hr] at hcase
   obtain ⟨iv,st,rfl,h1,h2⟩:=hcase
   refine ⟨_,iv,rfl,?_⟩
   simp only [hr]
   exact ⟨h1,h2⟩
  | some k =>
   rw [hr] at hcase
   obtain ⟨u,v,w,rfl⟩:=hcase
   refine ⟨_,j1d,rfl,?_⟩
   simp only [hr]
   exact ⟨trivial,trivial⟩
theorem jet {D:DM.Dk} {h:Nat} {fs:List FD} (hc:jbo D = .inr (h,fs)):DM.q2s D∧8≤D.secs.length∧D.secs.length≤512∧h≤1∧ja5 (flat D) D.secs.length=some h∧qk3 [] ((lA (flat D) D.secs.length h).1.map unB)=some fs:=by
 unfold jbo at hc
 split at hc
 case isFalse=>cases hc
 rename_i h1
 split at hc
 ·cases hc
 ·rename_i k hk
  split at hc
  ·cases hc
  ·rename_i g hg
   simp only [Sum.inr.injEq,Prod.mk.injEq] at hc
   obtain ⟨rfl,rfl⟩:=hc
   exact ⟨h1.1,h1.2,h1.1.2.1,j56 hk,hk,hg⟩
theorem jff {D:DM.Dk} {h:Nat} {fs:List FD} (hc:jbo D = .inr (h,fs)):fA D.secs.length h+1≤(lA (flat D) D.secs.length h).2∧(lA (flat D) D.secs.length h).2≤fA D.secs.length h+zA D.secs.length h∧(lA (flat D) D.secs.length h).1.length≤512∧fA D.secs.length h+zA D.secs.length h≤512∧4≤zA D.secs.length h:=by
 obtain ⟨h1,h2,h3,h4,_⟩:=jet hc
 obtain ⟨z1,z2,_⟩:=q45 h2 h4
 obtain ⟨a,b,c⟩:=qu5 (B:=flat D) (f:=fA D.secs.length h) (z:=zA D.secs.length h) (by omega) (by omega)
 exact ⟨a,b,c,by omega,z1⟩
end YthpgnliicpejoaaGreatDoor.AM
end Go.Proofs
namespace Go.Proofs
open Go.RowKit
set_option linter.unusedVariables false
set_option linter.unusedSimpArgs false
namespace YthpgnliicpejoaaGreatDoor.AM
theorem j82:qiy=q6i:=rfl
theorem qts (n:Nat) (hn:600≤n) (f z nx:Nat) (g:Int) (its:List (List UInt8)) (p:List UInt8) (h1:f+z≤512) (h2:2≤z) (h3:f<nx) (h4:nx≤f+z) (hg:0≤g∧g≤1073741824) (hq:its.length≤65535) :
  qh4 n ((f:Int),(z:Int)) (g,(its,(nx:Int))) p=some (if 4096<p.length then (((),2),((),([],()))) else if f+z<nx+1+RM.q1e (ba p) then (((),3),((),([],()))) else (((),0),((),(qba (qb5 nx (ba p) (txB g its.length (ba p))),())))):=by
 have hM:=max_eq
 unfold qh4 qr5
 simp only
 rw [qgk n f z (by omega) (by omega),decide_eq_true (show chk (f:Int) (z:Int) from ⟨by omega,by omega,by omega⟩),Option.bind_some,cond_true,decide_eq_true (by omega),cond_true,wrap_add (by omega) (by omega),q0q,Option.bind_some,decide_eq_true (by omega),Bool.not_true,cond_false,
  decide_eq_false (by omega),cond_false,decide_eq_false (by omega),cond_false,decide_eq_false (by omega),cond_false]
 by_cases c1:4096<p.length
 ·rw [decide_eq_true (by omega),cond_true,if_pos c1]
 have hsz:(ba p).size=p.length:=q21 p
 have hdat:(ba p).data.toList=p:=qpb p
 have hcut:RM.q0w (p.length:Int)=(RM.q1e (ba p):Int):=by rw [← hsz];exact RM.q9l _ (by omega)
 have hcl:=RM.qa8 (ba p)
 rw [decide_eq_false (by omega),cond_false,if_neg c1,qbv n f z nx h1 (by omega),Option.bind_some]
 unfold q7n
 rw [if_pos (show qxu (p.length:Int) by unfold qxu;omega),Option.bind_some,hcut,wrap64 (by omega) (by omega),q0q]
 by_cases c2:f+z<nx+1+RM.q1e (ba p)
 ·rw [decide_eq_true (by omega),cond_true,if_pos c2]
 rw [decide_eq_false (by omega),cond_false,if_neg c2]
 have hm:RM.may 2 g (its.length:Int) (p.length:Int) (SM.q1k 1 p):=⟨Or.inr rfl,hg,⟨by omega,by omega⟩,⟨by omega,by omega⟩,SM.q54 _ _⟩
 show Option.bind (qap n 2 g (its.length:Int) p) _=_
 rw [qby n 2 g (its.length:Int) p (by omega),if_pos hm,Option.bind_some]
 unfold qrq
 rw [if_pos (by omega),Option.bind_some]
 have hll:((RM.qfj (ba p)).map unB).length=RM.q1e (ba p):=by rw [List.length_map,RM.q2y]
 rw [hll]
 have hloop:=qnq n (unB (RM.q1b 2 g (its.length:Int) (p.length:Int) (SM.q1k 1 p))) (ba p) f z nx (by omega) (RM.q1e (ba p)) rfl hcl n 0 (by omega) (Nat.zero_le _)
 have e0:qba (qk4 nx (ba p) 0) = []:=rfl
 rw [e0] at hloop
 have hloop':=hloop
 rw [Int.natCast_zero] at hloop'
 simp only
 rw [j82,hloop',Option.bind_some,ql2 (by rw [q66,q7p];simp;omega),Option.bind_some]
 have etx:txB g its.length (ba p)=RM.q1b 2 g (its.length:Int) (p.length:Int) (SM.q1k 1 p):=by unfold txB;rw [hdat,hsz]
 unfold qb5
 rw [etx]
 unfold qba
 rw [List.map_append]
 rfl
theorem qzd {l:List OD} (h : ∀ o∈l,o.2.1.length≤1000000∧o.2.2.length≤1000000):qje l=some (q25 l):=by
 unfold qje
 rw [if_pos (List.all_eq_true.2 fun o ho=>by simp [h o ho])]
theorem qnr {p:List UInt8} (h:q38 p=true):p.length≤60:=by
 unfold q38 at h
 simp only [Bool.and_eq_true,decide_eq_true_eq] at h
 omega
theorem qxz {k:List FD} (hk:q7t k=true) : ∀ o∈q39 [] k,o.2.1.length≤1000000∧o.2.2.length≤1000000:=fun o ho=>by
 unfold q39 at ho
 rw [qeh,hk] at ho
 have ho':o∈q1d (([]:List FD).length+k.length) [] k:=ho
 rw [qxe _ k (by simp)] at ho'
 obtain ⟨f,hf,rfl⟩:=List.mem_map.1 ho'
 have h1:=((q8o k).1 hk).2.1 f hf
 unfold okF at h1
 simp only [Bool.and_eq_true,decide_eq_true_eq] at h1
 have h2:=qnr h1.1
 exact ⟨by simp only;omega,by simp only;omega⟩
def j11 (B:BL) (n h:Nat) (after:List FD):AcT×Int :=
 if (q25 (q39 [] after)).2≠0 then ([],(q25 (q39 [] after)).2) else if 1073741824≤gA B n h then ([],15)
 else if fA n (1 - h)+zA n (1 - h)<fA n (1 - h)+1+1+RM.q1e (ba (q25 (q39 [] after)).1) then ([],3) else (qba (q7y n h (gA B n h) (ba (q25 (q39 [] after)).1)),0)
theorem j4v (N:Nat) (hN:600≤N) (B:BL) (n h:Nat) (h8:8≤n) (h512:n≤512) (hh:h≤1) (its:List (List UInt8)) (nx:Int) (fs after:List FD) (ha:q7t after=true) :
  qb7 N (0,(((n / 2:Nat):Int),(((n / 2:Nat):Int),(((n - n / 2:Nat):Int),((h:Int),(gA B n h,(its,(nx,fs)))))))) after=some (j11 B n h after):=by
 have hal:=qdj ha
 have hgen:0≤gA B n h∧gA B n h≤1073741824:=q7k B (fA n h)
 obtain ⟨z1,z2,_⟩:=q45 (n:=n) (h:=1 - h) h8 (by omega)
 have hel:=qes (q39 [] after)
 have hem:=qxz ha
 unfold qb7 j11
 rw [j20 N [] after (by simp) (by omega) (by simp;omega),Option.bind_some,qzd hem,Option.bind_some]
 generalize q25 (q39 [] after)=q at *
 by_cases c1:q.2=0
 case neg=>rw [decide_eq_false c1,Bool.not_false,cond_true,if_pos c1]
 rw [decide_eq_true c1,Bool.not_true,cond_false,if_neg (fun hn=>hn c1)]
 by_cases c2:1073741824≤gA B n h
 ·rw [decide_eq_true c2,cond_true,if_pos c2]
 rw [decide_eq_false c2,cond_false,if_neg c2]
 have w1:IntKind.wrap .i64 (gA B n h+1)=gA B n h+1:=wrap64 (by omega) (by omega)
 have ap : ∀ a b:AcT,a.length≤1000→b.length≤1000→q3k 32 a b=some (a++b):=fun a b h1 h2=>by rw [ql2 (by omega)]
 have hcut:=RM.qa8 (ba q.1)
 match h,hh with
 | 0,_ =>
  have e1:fA n (1 - 0)=n / 2:=rfl
  have e2:zA n (1 - 0)=n - n / 2:=rfl
  rw [e2] at z1
  rw [e1,e2] at z2 ⊢
  have w0:IntKind.wrap .i64 ((1:Int) - ((0:Nat):Int))=1:=by decide
  have w2:IntKind.wrap .i64 (((n / 2:Nat):Int)+1)=((n / 2+1:Nat):Int):=q19 (by omega)
  simp only [w0,q0q,w1,w2]
  rw [if_neg (show ¬ (1:Int)=0 by decide),if_pos trivial,qts N hN (n / 2) (n - n / 2) (n / 2+1) (gA B n 0+1) [] q.1 (by omega) (by omega) (by omega) (by omega) (by omega) (Nat.zero_le _),Option.bind_some,if_neg (show ¬ 4096<q.1.length by omega)]
  by_cases c3:n / 2+(n - n / 2)<n / 2+1+1+RM.q1e (ba q.1)
  ·rw [if_pos c3,if_pos c3];rfl
  ·rw [if_neg c3,if_neg c3,qe8 N _ _ _ (by omega) (by omega),if_pos ⟨⟨by omega,by omega,by omega⟩,by omega,by omega⟩]
   simp only [decide_true,Bool.not_true,cond_false,Option.bind_some]
   rw [ap _ _ (by rw [q66,q9f];omega) (by simp),Option.bind_some]
   unfold q7y qba
   rw [List.map_append]
   rfl
 | 1,_ =>
  have e1:fA n (1 - 1)=0:=rfl
  have e2:zA n (1 - 1)=n / 2:=rfl
  rw [e2] at z1
  rw [e1,e2] at z2 ⊢
  have w0:IntKind.wrap .i64 ((1:Int) - ((1:Nat):Int))=0:=by decide
  have w2:IntKind.wrap .i64 ((0:Int)+1)=((0+1:Nat):Int):=by decide
  simp only [w0,q0q,w1,w2]
  have ha:=qts N hN 0 (n / 2) (0+1) (gA B n 1+1) [] q.1 (by omega) (by omega) (by omega) (by omega) (by omega) (Nat.zero_le _)
  rw [Int.natCast_zero] at ha
  rw [if_pos trivial,ha,Option.bind_some,if_neg (show ¬ 4096<q.1.length by omega)]
  by_cases c3:0+n / 2<0+1+1+RM.q1e (ba q.1)
  ·rw [if_pos c3,if_pos c3];rfl
  ·rw [if_neg c3,if_neg c3,qe8 N _ _ _ (by omega) (by omega),if_pos ⟨⟨by omega,by omega,by omega⟩,by omega,by omega⟩]
   simp only [decide_true,Bool.not_true,cond_false,Option.bind_some]
   rw [ap _ _ (by rw [q66,q9f];omega) (by simp),Option.bind_some]
   unfold q7y qba
   rw [List.map_append]
   rfl
def qax (D:DM.Dk) (ops:List OD):AcT×Int:=match jbo D with
 | .inl e=>([],e)
 | .inr (h,fs)=>if (q2r fs ops).2≠0 then ([],(q2r fs ops).2) else if (q25 ops).2≠0 then ([],(q25 ops).2)
  else if fA D.secs.length h+zA D.secs.length h<(lA (flat D) D.secs.length h).2+1+RM.q1e (ba (q25 ops).1) then j11 (flat D) D.secs.length h (q2r fs ops).1
  else (qba (qb5 (lA (flat D) D.secs.length h).2 (ba (q25 ops).1) (txB (gA (flat D) D.secs.length h) (lA (flat D) D.secs.length h).1.length (ba (q25 ops).1))),0)
theorem qun (N:Nat) (hN:1200≤N) (d:DkT) (hd:smD d) (ops:List OD) (ho:ops.length≤100000) (hp : ∀ o∈ops,o.2.1.length≤1000000∧o.2.2.length≤1000000):q4h N d ops=some (qax (q2v d) ops):=by
 obtain ⟨st,iv,h1,h2⟩:=j13 N hN d hd
 have hdl:=(qly d).1
 unfold q4h qax
 rw [h1,Option.bind_some]
 cases hc:jbo (q2v d) with
 | inl e =>
  rw [hc] at h2
  simp only [h2.1,Option.bind_some,Bool.not_false,cond_true,h2.2]
 | inr p =>
  obtain ⟨h,fs⟩:=p
  obtain ⟨a1,a2,a3,a4,a5⟩:=jff hc
  obtain ⟨_,h8,h512,hh,_,hrep⟩:=jet hc
  rw [hc] at h2
  obtain ⟨rfl,rfl⟩:=h2
  have hfs:=qdj (qpf _ qeh hrep)
  have hel:=qes ops
  show Option.bind (some true) _=_
  rw [Option.bind_some]
  rw [hdl] at a1 a2 a4 a5 h8 h512 hrep
  simp only [Bool.not_true,cond_false,hdl]
  unfold q76
  rw [if_pos ⟨by omega,by omega⟩,Option.bind_some]
  by_cases c1:(q2r fs ops).2=0
  case neg=>rw [decide_eq_false c1,Bool.not_false,cond_true,if_pos c1]
  rw [decide_eq_true c1,Bool.not_true,cond_false,if_neg (show ¬ (q2r fs ops).2≠0 from fun hn=>hn c1),qzd hp,Option.bind_some]
  by_cases c2:(q25 ops).2=0
  case neg=>rw [decide_eq_false c2,Bool.not_false,cond_true,if_pos c2]
  rw [decide_eq_true c2,Bool.not_true,cond_false,if_neg (show ¬ (q25 ops).2≠0 from fun hn=>hn c2)]
  have haf:q7t (q2r fs ops).1=true:=qcm (ops:=ops) (l:=fs) (by rw [← c1])
  rw [hdl] at a3
  have hgen:0≤gA (flat (q2v d)) d.1.length h∧gA (flat (q2v d)) d.1.length h≤1073741824:=q7k _ _
  have hmv:=j4v N (by omega) (flat (q2v d)) d.1.length h h8 h512 hh ((lA (flat (q2v d)) d.1.length h).1.map unB) ((lA (flat (q2v d)) d.1.length h).2:Int) fs (q2r fs ops).1 haf
  have hadd:=jbf N (by omega) (fA d.1.length h) (zA d.1.length h) (lA (flat (q2v d)) d.1.length h).2 (gA (flat (q2v d)) d.1.length h) ((lA (flat (q2v d)) d.1.length h).1.map unB) (q25 ops).1 (by omega) (by omega) (by omega) a2 hgen (by rw [List.length_map];omega)
  rw [if_neg (by omega),List.length_map] at hadd
  generalize d.1.length=n at *
  match h,hh with
  | 0,_ =>
   have e1:fA n 0=0:=rfl
   have e2:zA n 0=n / 2:=rfl
   rw [if_pos (show ((0:Nat):Int)=0 from rfl)]
   rw [e1,e2,Int.natCast_zero] at hadd
   rw [hadd,Option.bind_some]
   rw [e1,e2]
   by_cases c3:0+n / 2<(lA (flat (q2v d)) n 0).2+1+RM.q1e (ba (q25 ops).1)
   ·rw [if_pos c3,if_pos c3]
    show Option.bind (qb7 N _ (q2r fs ops).1) _=_
    rw [hmv,Option.bind_some]
   ·rw [if_neg c3,if_neg c3]
    rfl
  | 1,_ =>
   have e1:fA n 1=n / 2:=rfl
   have e2:zA n 1=n - n / 2:=rfl
   rw [if_neg (show ¬ ((1:Nat):Int)=0 by decide),if_pos (show ((1:Nat):Int)=1 from rfl)]
   rw [e1,e2] at hadd
   rw [hadd,Option.bind_some]
   rw [e1,e2]
   by_cases c3:n / 2+(n - n / 2)<(lA (flat (q2v d)) n 1).2+1+RM.q1e (ba (q25 ops).1)
   ·rw [if_pos c3,if_pos c3]
    show Option.bind (qb7 N _ (q2r fs ops).1) _=_
    rw [hmv,Option.bind_some]
   ·rw [if_neg c3,if_neg c3]
    rfl
end YthpgnliicpejoaaGreatDoor.AM
end Go.Proofs
namespace Go.Proofs
open Go.RowKit
set_option linter.unusedVariables false
set_option linter.unusedSimpArgs false
namespace YthpgnliicpejoaaGreatDoor.AM
def q3f:Nat:=9223372036854775808
theorem qv1:q9u q3f=some true:=by decide +kernel
abbrev qrc:=List OD×(Int×List Bool)
def qlg (s:qrc):Prop:=je0 s.1=true∧s.2.2.length≤1000
instance:DecidablePred qlg:=fun s=>inferInstanceAs (Decidable (_∧_))
theorem qvn {ops:List OD} (h:je0 ops=true):ops.length≤100∧∀ o∈ops,o.2.1.length≤1000000∧o.2.2.length≤1000000:=by
 unfold je0 at h
 simp only [Bool.and_eq_true,decide_eq_true_eq,List.all_eq_true] at h
 refine ⟨h.2,fun o ho=>?_⟩
 have:=h.1 o ho
 omega
theorem qz4 (l:List qrc) (x:Int) (hops : ∀ s∈l,s.1.length≤9223372036854775807) (hl:l.length≤9223372036854775807) : ∀ (m i:Nat),l.length - i<m→i≤l.length →
  q6z q3f m l x (i:Int)=some (if ∀ s∈l.drop i,qlg s then Sum.inr ((l,(x,())),((),())) else Sum.inl ((0,()),((),())))
 | 0,i,h,_=>by omega
 | m+1,i,hm,hi=>by
  rw [qfx]
  unfold qoz
  by_cases c:i<l.length
  ·have hd:l.drop i=l[i]::l.drop (i+1):=List.drop_eq_getElem_cons c
   have ho:=hops _ (List.getElem_mem c)
   have w1:IntKind.wrap .i64 ((i:Int)+1)=((i+1:Nat):Int):=by rw [wrap64 (by omega) (by omega)];omega
   have hf:=j1o q3f l[i].1 (by omega) (by unfold q3f;omega)
   rw [decide_eq_true (by omega),cond_true,q2h c,Option.bind_some,hf,Option.bind_some]
   by_cases c1:je0 l[i].1=true
   ·rw [c1,Bool.not_true,cond_false,Option.bind_some]
    by_cases c2:l[i].2.2.length≤1000
    ·rw [decide_eq_false (by omega),cond_false,w1,q0q]
     have ih:=qz4 l x hops hl m (i+1) (by omega) (by omega)
     refine ih.trans ?_
     congr 1
     by_cases c3 : ∀ s∈l.drop (i+1),qlg s
     ·rw [if_pos c3,if_pos (by rw [hd];intro s hs;rcases List.mem_cons.1 hs with rfl|hs;exact ⟨c1,c2⟩;exact c3 s hs)]
     ·rw [if_neg c3,if_neg (fun h=>c3 fun s hs=>h s (by rw [hd];exact List.mem_cons_of_mem _ hs))]
    ·rw [decide_eq_true (by omega),cond_true,if_neg (fun h=>c2 (h l[i] (by rw [hd];exact List.mem_cons_self ..)).2)]
   ·rw [Bool.not_eq_true] at c1
    rw [c1,Bool.not_false,cond_true,if_neg (fun h=>by have:=(h l[i] (by rw [hd];exact List.mem_cons_self ..)).1;rw [c1] at this;cases this)]
  ·rw [decide_eq_false (by omega),cond_false,if_pos (by rw [List.drop_eq_nil_of_le (by omega)];intro s hs;cases hs)]
def fewL (l:List qrc):Prop:=(∀ s∈l,qlg s)∧l.length≤20
theorem jcv (l:List qrc) (hops : ∀ s∈l,s.1.length≤9223372036854775807) (hl:l.length≤9223372036854775807) : ∃ r:Int,qn1 q3f l 20=some r∧(r=0∨(r=1∧fewL l)):=by
 unfold qn1
 have:=qz4 l 20 hops hl q3f 0 (by unfold q3f;omega) (Nat.zero_le _)
 rw [Int.natCast_zero,List.drop_zero] at this
 rw [this,Option.bind_some]
 by_cases c : ∀ s∈l,qlg s
 ·rw [if_pos c]
  show ∃ r,(bif decide ((20:Int)<((l.length:Nat):Int)) then some (0:Int) else some 1)=some r∧_
  by_cases c2:l.length≤20
  ·rw [decide_eq_false (by omega),cond_false];exact ⟨1,rfl,Or.inr ⟨rfl,c,c2⟩⟩
  ·rw [decide_eq_true (by omega),cond_true];exact ⟨0,rfl,Or.inl rfl⟩
 ·rw [if_neg c];exact ⟨0,rfl,Or.inl rfl⟩
theorem jjf {B:BL} {n h:Nat} {fs:List FD} (hI:VI B n h fs):smD (qd6 ⟨B,[]⟩):=j3x (by show B.length≤_;have:=hI.le;have:=hI.len;omega) (Nat.zero_le _)
theorem jki {B:BL} {n h:Nat} {fs:List FD} (hI:VI B n h fs):jbo ⟨B,[]⟩ = .inr (h,fs):=by
 have hBl:=hI.len
 have hn8:=hI.n8
 have hc:ja5 B n=some h:=by
  have hb:=hI.beg
  have ho:=hI.other
  unfold ja5
  match h,hI.h1,hb,ho with
  | 0,_,hb,ho =>
   rw [if_pos hb,if_neg (fun hc=>?_)]
   have:=ho hc.1
   have h2:=hc.2
   have e:(1 - 0:Nat)=1:=rfl
   rw [e] at this
   omega
  | 1,_,hb,ho =>
   by_cases c:qa6 B (fA n 0)
   ·rw [if_pos c,if_pos ⟨hb,ho c⟩]
   ·rw [if_neg c,if_pos hb]
 unfold jbo
 rw [if_pos ⟨hI.may,by show 8≤B.length;omega⟩,qmq]
 show (match ja5 B B.length with|none=>_|some h=>_)=_
 rw [hBl,hc]
 simp only [hI.rep]
structure Acts6 (B:BL) (n h:Nat) (fs after:List FD) (L:List DM.Ac):Prop where
 ne:0<L.length
 len:L.length≤1000
 size : ∀ a∈L,a.2.2.size≤32
 ok : ∀ a∈L,DM.q3y B.length a
 cut : ∀ (N:Nat) (keep:Nat→Bool),∃ X,DM.q1n keep (DM.runK ⟨B,[]⟩ (L.take N))=⟨X,[]⟩∧(N=0→VI X n h fs)∧(VI X n h fs ∨ ∃ h',VI X n h' after)∧(L.length≤N→∃ h',VI X n h' after)
 full : ∃ X,DM.runK ⟨B,[]⟩ L=⟨X,[]⟩∧((VI X n h after∧gA X n h=gA B n h∧(lA X n h).1.length=(lA B n h).1.length+1∧(lA B n h).2<(lA X n h).2)∨(VI X n (1 - h) after∧gA X n (1 - h)=gA B n h+1∧(lA X n (1 - h)).1.length=1))
theorem jbv {n N h:Nat} {g:Int} {q:ByteArray} (hn:fA n (1 - h)+1+RM.q1e q<N) (hg:0≤g+1∧g+1≤1073741824) (hq:q.size≤4096):(∀ a∈q7y n h g q,DM.q3y N a)∧∀ a∈q7y n h g q,a.2.2.size≤32:=by
 have htx:(txB (g+1) 0 q).size=32:=qgp hg (Nat.zero_le _) hq
 have hbs:(RM.q1b 1 (g+1) 0 0 1).size=32:=qgi hg
 constructor
 ·intro a hm
  rcases List.mem_append.1 hm with hm|hm
  ·exact qpo (n:=N) hn htx a hm
  ·simp only [jj1,List.mem_cons,List.not_mem_nil,or_false] at hm
   rcases hm with rfl|rfl
   ·refine Or.inr ?_
    unfold DM.q20
    rw [if_pos ⟨by simp only;omega,by simp only;omega⟩,if_neg (by simp only [hbs];omega)]
   ·exact Or.inl rfl
 ·intro a hm
  rcases List.mem_append.1 hm with hm|hm
  ·exact qry htx a hm
  ·simp only [jj1,List.mem_cons,List.not_mem_nil,or_false] at hm
   rcases hm with rfl|rfl
   ·simp only [hbs];omega
   ·exact Nat.zero_le _
theorem qt4 {B:BL} {n h:Nat} {fs:List FD} (hI:VI B n h fs) (ops:List OD) :
  (∃ e,qax ⟨B,[]⟩ ops=([],e)∧e≠0∧(((q2r fs ops).2≠0∧e=(q2r fs ops).2)∨((q2r fs ops).2=0∧(q25 ops).2≠0∧e=(q25 ops).2) ∨
   ((q2r fs ops).2=0∧(q25 ops).2=0∧((q25 (q39 [] (q2r fs ops).1)).2≠0∨1073741824≤gA B n h∨(e=3∧n / 2<2+RM.q1e (ba (q25 (q39 [] (q2r fs ops).1)).1)))))) ∨
  ∃ L after,qax ⟨B,[]⟩ ops=(qba L,0)∧q2r fs ops=(after,0)∧(q25 ops).2=0∧Acts6 B n h fs after L:=by
 have hBl:=hI.len
 have hle:=hI.le
 obtain ⟨z1,z2,_⟩:=q45 hI.n8 hI.h1
 obtain ⟨y1,y2,y3,_⟩:=q45 (n:=n) (h:=1 - h) hI.n8 (by omega)
 have hlin:=jic hI
 have hgen:0≤gA B n h∧gA B n h≤1073741824:=q7k B (fA n h)
 have ec:qax ⟨B,[]⟩ ops=(if (q2r fs ops).2≠0 then ([],(q2r fs ops).2) else if (q25 ops).2≠0 then ([],(q25 ops).2)
   else if fA n h+zA n h<(lA B n h).2+1+RM.q1e (ba (q25 ops).1) then j11 B n h (q2r fs ops).1
   else (qba (qb5 (lA B n h).2 (ba (q25 ops).1) (txB (gA B n h) (lA B n h).1.length (ba (q25 ops).1))),0)):=by
  unfold qax
  rw [jki hI,qmq]
  show (if _ then _ else if _ then _ else if fA B.length h+zA B.length h<(lA B B.length h).2+1+RM.q1e (ba (q25 ops).1) then j11 B B.length h (q2r fs ops).1 else (qba (qb5 (lA B B.length h).2 (ba (q25 ops).1) (txB (gA B B.length h) (lA B B.length h).1.length (ba (q25 ops).1))),0))=_
  rw [hBl]
 rw [ec]
 by_cases c1:(q2r fs ops).2=0
 case neg=>exact Or.inl ⟨_,by rw [if_pos c1],c1,Or.inl ⟨c1,rfl⟩⟩
 rw [if_neg (show ¬ (q2r fs ops).2≠0 from fun hn=>hn c1)]
 by_cases c2:(q25 ops).2=0
 case neg=>exact Or.inl ⟨_,by rw [if_pos c2],c2,Or.inr (Or.inl ⟨c1,c2,rfl⟩)⟩
 rw [if_neg (show ¬ (q25 ops).2≠0 from fun hn=>hn c2)]
 have haf:q2r fs ops=((q2r fs ops).1,0):=by rw [← c1]
 have hmaf:=qcm haf
 have hps:(ba (q25 ops).1).size≤4096:=by rw [q21];exact qes ops
 have hpc:=RM.qa8 (ba (q25 ops).1)
 by_cases c3:fA n h+zA n h<(lA B n h).2+1+RM.q1e (ba (q25 ops).1)
 ·rw [if_pos c3]
  unfold j11
  by_cases d1:(q25 (q39 [] (q2r fs ops).1)).2=0
  case neg=>exact Or.inl ⟨_,by rw [if_pos d1],d1,Or.inr (Or.inr ⟨c1,c2,Or.inl d1⟩)⟩
  rw [if_neg (show ¬ (q25 (q39 [] (q2r fs ops).1)).2≠0 from fun hn=>hn d1)]
  by_cases d2:1073741824≤gA B n h
  ·exact Or.inl ⟨15,by rw [if_pos d2],by decide,Or.inr (Or.inr ⟨c1,c2,Or.inr (Or.inl d2)⟩)⟩
  rw [if_neg d2]
  by_cases d3:fA n (1 - h)+zA n (1 - h)<fA n (1 - h)+1+1+RM.q1e (ba (q25 (q39 [] (q2r fs ops).1)).1)
  ·exact Or.inl ⟨3,by rw [if_pos d3],by decide,Or.inr (Or.inr ⟨c1,c2,Or.inr (Or.inr ⟨rfl,by omega⟩)⟩)⟩
  rw [if_neg d3]
  refine Or.inr ⟨_,(q2r fs ops).1,rfl,haf,c2,?_⟩
  have hqs:(ba (q25 (q39 [] (q2r fs ops).1)).1).size≤4096:=by rw [q21];exact qes _
  have hrep:qk3 [] [unB (ba (q25 (q39 [] (q2r fs ops).1)).1)]=some (q2r fs ops).1:=by
   rw [jea]
   unfold qk3
   rw [j6b _ d1,jaa hmaf]
   simp only [and_self,if_true]
   rfl
  have hqc:=RM.qa8 (ba (q25 (q39 [] (q2r fs ops).1)).1)
  generalize ba (q25 (q39 [] (q2r fs ops).1)).1=q at *
  obtain ⟨ok1,ok2⟩:=jbv (n:=n) (N:=B.length) (h:=h) (g:=gA B n h) (q:=q) (by omega) ⟨by omega,by omega⟩ hqs
  have hlen:=qr2 n h (gA B n h) q
  refine ⟨by omega,by omega,ok2,ok1,fun N keep=>?_,?_⟩
  ·obtain ⟨X,x1,x2,x3,x4⟩:=j4x hI hqs hrep (by omega) (by omega) N keep
   exact ⟨X,x1,fun hN=>x2 (by omega),x3.elim Or.inl (fun h=>Or.inr ⟨_,h.1⟩),fun hN=>⟨_,(x4 (by omega)).1.1⟩⟩
  ·obtain ⟨X,x1,x2,x3,x4⟩:=j4x hI hqs hrep (by omega) (by omega) (RM.q1e q+5) (fun _=>true)
   obtain ⟨k1,k2⟩:=x4 (Nat.le_refl _)
   rw [List.take_of_length_le (by omega)] at k2
   exact ⟨X,k2,Or.inr k1⟩
 ·rw [if_neg c3]
  refine Or.inr ⟨_,(q2r fs ops).1,rfl,haf,c2,?_⟩
  have htx:(txB (gA B n h) (lA B n h).1.length (ba (q25 ops).1)).size=32:=qgp hgen (by omega) hps
  have hlen:=q9f (lA B n h).2 (ba (q25 ops).1) (txB (gA B n h) (lA B n h).1.length (ba (q25 ops).1))
  refine ⟨by omega,by omega,qry htx,qpo (by omega) htx,fun N keep=>?_,?_⟩
  ·obtain ⟨X,x1,x2,x3,x4⟩:=je6 hI haf c2 (by omega) N keep
   exact ⟨X,x1,fun hN=>x2 (by omega),x3.elim Or.inl (fun h=>Or.inr ⟨_,h.1⟩),fun hN=>⟨_,(x4 (by omega)).1.1⟩⟩
  ·obtain ⟨X,x1,x2,x3,x4⟩:=je6 hI haf c2 (by omega) (RM.q1e (ba (q25 ops).1)+3) (fun _=>true)
   obtain ⟨⟨k1,k2,k3⟩,k4⟩:=x4 (Nat.le_refl _)
   rw [List.take_of_length_le (by omega)] at k4
   refine ⟨X,k4,Or.inl ⟨k1,k2,by rw [k3];simp,by rw [k3];simp only;omega⟩⟩
theorem j7e {B:BL} {n h:Nat} {fs:List FD} (hI:VI B n h fs) {ops:List OD} (hf:je0 ops=true):q4h q3f (qd6 ⟨B,[]⟩) ops=some (qax ⟨B,[]⟩ ops):=by
 obtain ⟨h1,h2⟩:=qvn hf
 rw [qun q3f (by unfold q3f;omega) _ (jjf hI) ops (by omega) h2,q2j]
theorem jjy {B:BL} {n h:Nat} {fs after:List FD} {L:List DM.Ac} (hI:VI B n h fs) (hA:Acts6 B n h fs after L) (x:Int):q6j (qd6 ⟨B,[]⟩) (qba L) x=some (qd6 (DM.runK ⟨B,[]⟩ (L.take (min (max x 0) (L.length:Int)).toNat)),0)∧DM.q2s (DM.runK ⟨B,[]⟩ (L.take (min (max x 0) (L.length:Int)).toNat)):=by
 have hBl:=hI.len
 have hle:=hI.le
 have:=qxy (qd6 ⟨B,[]⟩) (by rw [q2j];show B.length≤1000;omega) (by rw [q2j];exact Nat.zero_le _) L hA.len hA.size x
 rw [q2j] at this
 obtain ⟨r1,r2,r3⟩:=j04 (d:=⟨B,[]⟩) (l:=L.take (min (max x 0) (L.length:Int)).toNat) hI.may (fun a ha=>hA.ok a (List.mem_of_mem_take ha))
 rw [r1,r2] at this
 exact ⟨this,r3⟩
theorem qmx (d:DM.Dk) (l:List DM.Ac) (hm:DM.q2s d) (hok : ∀ a∈l,DM.q3y d.secs.length a) (hl:l.length≤1000) (hc:d.cache.length=0):smD (qd6 (DM.runK d l)):=by
 refine j3x ?_ ?_
 ·have:=(DM.qdx hm hok).2.1;omega
 ·have key : ∀ (l:List DM.Ac) (d:DM.Dk),(DM.runK d l).cache.length≤d.cache.length+l.length:=by
   intro l
   induction l with
   | nil=>intro d;exact Nat.le_refl _
   | cons a l ih =>
    intro d
    have h1:=ih (DM.q6k d a)
    have h2:(DM.q6k d a).cache.length≤d.cache.length+1:=by
     unfold DM.q6k
     split
     ·show (DM.q1n _ d).cache.length≤_;exact Nat.zero_le _
     ·show (DM.j3i d a.2.1 a.2.2).cache.length≤_;unfold DM.j3i;simp
    show (DM.runK (DM.q6k d a) l).cache.length≤_
    simp only [List.length_cons];omega
  have:=key l d
  omega
theorem j49 (n:Nat) (h1:8≤n) (h2:n≤512) : ∃ S,qgl q3f (n:Int)=some (qd6 ⟨S,[]⟩,true)∧VI S n 0 []∧gA S n 0=1:=by
 have hm:=jci (n:=n) (by omega) (by omega)
 obtain ⟨e1,hmS⟩:=j7q (qd6 ⟨List.replicate n DM.q2d,[]⟩) (by rw [q2j];exact hm) (by rw [q2j];simp;omega) (by rw [q2j];simp) 0 1 (by decide) (by rw [q2j];simp;omega)
 rw [q2j,qmq] at e1 hmS
 have e1':q6j (qd6 ⟨List.replicate n DM.q2d,[]⟩) (qt0 0 1) (((qt0 0 1).length:Nat):Int)=some (qd6 ⟨(List.replicate n DM.q2d).set 0 (RM.q1b 1 1 0 0 1),[]⟩,0):=e1
 obtain ⟨v1,v2⟩:=jhr h1 h2 hmS
 refine ⟨_,?_,v1,v2⟩
 unfold qgl j2l
 rw [jag (by omega) (by omega),Option.bind_some,qww q3f _ (by omega) (by omega),if_pos ⟨by omega,by omega⟩,Option.bind_some]
 simp only
 rw [e1',Option.bind_some]
 have:decide (DM.qch (n:Int))=true:=decide_eq_true (show DM.qch (n:Int) from ⟨by omega,by omega⟩)
 rw [this]
 rfl
end YthpgnliicpejoaaGreatDoor.AM
end Go.Proofs
namespace Go.Proofs
open Go.RowKit
set_option linter.unusedVariables false
set_option linter.unusedSimpArgs false
namespace YthpgnliicpejoaaGreatDoor.AM
theorem jkx {a:List FD} (ha:q7t a=true) {ops:List OD} (ho:je0 ops=true):q8f q3f a ops=some (q2r a ops):=by
 obtain ⟨h1,h2⟩:=qvn ho
 have h3:=qdj ha
 refine qtu q3f a ops (by omega) (by omega) (fun f hf=>?_) (fun o h=>(h2 o h).1) (by unfold q3f;omega) (by unfold q3f;omega)
 have:=qnr (q88 (((q8o a).1 ha).2.1 f hf)).1
 omega
theorem enc5 {ops:List OD} (h1:ops.length≤1000000) (h2 : ∀ o∈ops,o.2.1.length≤1000000∧o.2.2.length≤1000000):q56 q3f ops=some (q25 ops) :=
 qnj q3f ops h1 h2 (by unfold q3f;omega) (by unfold q3f;omega)
end YthpgnliicpejoaaGreatDoor.AM
end Go.Proofs
namespace Go.Proofs
open Go.RowKit
set_option linter.unusedVariables false
set_option linter.unusedSimpArgs false
namespace YthpgnliicpejoaaGreatDoor.AM
theorem quo31 (m:Nat) (hm:m≤100000):qsq .i64 (m:Int) 31=some ((m / 31:Nat):Int):=by
 unfold qsq
 rw [if_pos (by decide)]
 have:(m:Int).tdiv 31=((m / 31:Nat):Int):=by
  rw [Int.tdiv_eq_ediv_of_nonneg (by omega)];omega
 rw [this,wrap64 (by omega) (by omega)]
theorem jkm {p:ByteArray} (h:p.size≤4096):RM.q1e p=(p.size+30) / 31:=by unfold RM.q1e;rw [if_pos h]
theorem j0g (l:List qrc) (hl:fewL l) (n:Nat) : ∀ (m i:Nat) (B:BL) (h:Nat) (fs:List FD),l.length - i<m→i≤l.length→VI B n h fs→gA B n h≤(i:Int)+1 →
  q4c q3f m (n:Int) l fs (i:Int) (qd6 ⟨B,[]⟩).1 (qd6 ⟨B,[]⟩).2=some (Sum.inr ((),((),())))
 | 0,i,B,h,fs,hm,_,_,_=>by omega
 | m+1,i,B,h,fs,hm,hi,hI,hg=>by
  rw [qb2]
  unfold qb3
  by_cases c:i<l.length
  case neg=>rw [decide_eq_false (by omega),cond_false]
  have hll:=hl.2
  have w1:IntKind.wrap .i64 ((i:Int)+1)=((i+1:Nat):Int):=q19 (by omega)
  obtain ⟨s,hs⟩ : ∃ s,l[i]=s:=⟨_,rfl⟩
  have hok:qlg s:=by rw [← hs];exact hl.1 _ (List.getElem_mem c)
  have hix:q1a l (i:Int)=some s:=by rw [q2h c,hs]
  have hcm:=j7e hI hok.1
  have hap:=jkx hI.mayF hok.1
  obtain ⟨f1,f2⟩:=qvn hok.1
  have hen:=enc5 (ops:=s.1) (by omega) f2
  have hle:=hI.le
  have ih:=j0g l hl n m (i+1)
  rw [decide_eq_true (by omega),cond_true]
  have hcm':q4h q3f ((qd6 ⟨B,[]⟩).1,(qd6 ⟨B,[]⟩).2) s.1=_:=hcm
  simp only [hix,hcm',hap,hen,Option.bind_some]
  rcases qt4 hI s.1 with ⟨e,h1,h2,hcase⟩|⟨L,after,h1,h2,h3,hA⟩
  ·have ih':=ih B h fs (by omega) (by omega) hI (by omega)
   rw [h1]
   rcases hcase with ⟨q1,rfl⟩|⟨q1,q2,rfl⟩|⟨q1,q2,q3⟩
   ·simp only [q1,decide_false,Bool.not_false,cond_true,decide_true,Bool.not_true,cond_false,w1,q0q]
    exact ih'
   ·simp only [q1,q2,decide_false,Bool.not_false,cond_true,decide_true,Bool.not_true,cond_false,w1,q0q]
    exact ih'
   ·have haf:q2r fs s.1=((q2r fs s.1).1,0):=by rw [← q1]
    have hmaf:=qcm haf
    have hml:=qdj hmaf
    have hdf:qd1 q3f [] (q2r fs s.1).1=some (q39 [] (q2r fs s.1).1):=by
     refine qwu q3f [] _ (by simp) (by omega) (fun f hf=>by cases hf) (fun f hf=>?_) (by unfold q3f;simp;omega) (by unfold q3f;omega)
     have:=qnr (q88 (((q8o _).1 hmaf).2.1 f hf)).1
     omega
    have hdl:=qrw [] (q2r fs s.1).1
    simp only [List.length_nil] at hdl
    have hed:=enc5 (ops:=q39 [] (q2r fs s.1).1) (by omega) (qxz hmaf)
    have hel:=qes (q39 [] (q2r fs s.1).1)
    simp only [q1,q2,decide_true,Bool.not_true,cond_false,h2,decide_false,Bool.not_false,cond_true,hdf,hed,Option.bind_some]
    by_cases q4:(q25 (q39 [] (q2r fs s.1).1)).2=0
    case neg =>
     rw [decide_eq_false q4,cond_false,w1,q0q]
     exact ih'
    rcases q3 with q3|q3|⟨rfl,q3⟩
    ·exact absurd q4 q3
    ·omega
    ·rw [jkm (by rw [q21];exact hel),q21] at q3
     rw [decide_eq_true q4,cond_true]
     generalize (q25 (q39 [] (q2r fs s.1).1)).1.length=k at *
     have w2:IntKind.wrap .i64 ((k:Int)+30)=((k+30:Nat):Int):=by rw [wrap64 (by omega) (by omega)];omega
     have w3:IntKind.wrap .i64 ((2:Int)+(((k+30) / 31:Nat):Int))=((2+(k+30) / 31:Nat):Int):=by rw [wrap64 (by omega) (by omega)];omega
     have t3:decide ((3:Int)=3)=true:=rfl
     rw [t3,Bool.not_true,cond_false,w2,q0q,quo31 _ (by omega),Option.bind_some,w3,q0q,quo2 n (by omega),Option.bind_some,decide_eq_false (by omega),cond_false,w1,q0q]
     exact ih'
  ·obtain ⟨X,x1,x2⟩:=hA.full
   obtain ⟨r1,_⟩:=jjy hI hA ((List.length (qba L):Nat):Int)
   have ht:(min (max (((List.length (qba L):Nat):Int)) 0) (L.length:Int)).toNat=L.length:=by rw [q66];omega
   rw [ht,List.take_length,x1] at r1
   have r1':q6j ((qd6 ⟨B,[]⟩).1,(qd6 ⟨B,[]⟩).2) (qba L) ((List.length (qba L):Nat):Int)=some (qd6 ⟨X,[]⟩,0):=r1
   rw [h1]
   simp only [h2,h3,decide_true,Bool.not_true,cond_false,r1',Option.bind_some,w1,q0q]
   rcases x2 with ⟨hX,g1,_⟩|⟨hX,g1,_⟩
   ·exact ih X h after (by omega) (by omega) hX (by rw [g1];omega)
   ·exact ih X (1 - h) after (by omega) (by omega) hX (by rw [g1];omega)
theorem qmv (n:Int) (l:List qrc) (hn:(Lit.int .i64 n).wf=true) (hops : ∀ s∈l,s.1.length≤9223372036854775807) (hl:l.length≤9223372036854775807):q90 q3f n l=some true:=by
 obtain ⟨r,h1,h2⟩:=jcv l hops hl
 unfold q90
 show Option.bind (qn1 q3f l 20) _=_
 rw [h1,Option.bind_some,qv1]
 simp only [Option.bind_some]
 rcases h2 with rfl|⟨rfl,hf⟩
 ·rfl
 rw [show decide ((1:Int)=0)=false from rfl,cond_false]
 by_cases c1:n<8
 ·rw [decide_eq_true c1,cond_true]
 rw [decide_eq_false c1,cond_false]
 by_cases c2:512<n
 ·rw [decide_eq_true c2,cond_true]
 rw [decide_eq_false c2,cond_false]
 obtain ⟨k,rfl⟩ : ∃ k:Nat,n=(k:Int):=⟨n.toNat,by omega⟩
 obtain ⟨S,e1,hI,eg⟩:=j49 k (by omega) (by omega)
 rw [e1,Option.bind_some]
 have:=j0g l hf k q3f 0 S 0 [] (by have:=hf.2;unfold q3f;omega) (Nat.zero_le _) hI (by rw [eg];omega)
 rw [Int.natCast_zero] at this
 simp only [Bool.not_true,cond_false]
 rw [this]
 rfl
theorem j5p:maxLen≤9223372036854775807:=by unfold maxLen;omega
abbrev StL:Ty:=.lst (.prod (.lst (.prod .bool (.prod .str .str))) (.prod (.int .i64) (.lst .bool)))
theorem step_ok {l:List qrc} (h:qq4 StL l):(∀ s∈l,s.1.length≤9223372036854775807)∧l.length≤9223372036854775807:=by
 have hM:=j5p
 refine ⟨fun s hs=>?_,Nat.le_trans h.1 hM⟩
 exact Nat.le_trans (h.2 s hs).1.1 hM
theorem qog (n:Int) (l:List qrc) (hn:(Lit.int .i64 n).wf=true) (hl:qq4 StL l):q90 q3f n l=some true:=qmv n l hn (step_ok hl).1 (step_ok hl).2
end YthpgnliicpejoaaGreatDoor.AM
end Go.Proofs
namespace Go.Proofs
open Go.RowKit Go.Shelf Go.Lib
set_option linter.unusedVariables false
set_option linter.unusedSimpArgs false
namespace YthpgnliicpejoaaGreatDoor.AM
theorem hEt:Tryz.prog.globalNamed "errors.errorType" = some 0:=by kernel_rfl
theorem hRt:(Tryz.prog.cutTypes.find? (·.1 == "internal/reflectlite.rtype")).map (·.2)=some 197:=by kernel_rfl
theorem hOne:((List.range 277).filter fun t=>Tryz.prog.rowNamed t [101,114,114,111,114]) = [81]:=by kernel_rfl
theorem hSize:Tryz.prog.types.size=277:=by kernel_rfl
theorem jko {w:World} (hsh:w.ShapedOpen Tryz.prog) (h:laidMetH Tryz.prog [("unicode/utf8.acceptRanges",Rows.laid_unicode_utf8_acceptRanges),("errors.errorType",Rows.laid_errors_errorType),("unicode/utf8.first",Rows.laid_unicode_utf8_first)] w):Inv w:=by
 have h':laidMet Tryz.prog [("unicode/utf8.acceptRanges",Rows.laid_unicode_utf8_acceptRanges),("unicode/utf8.first",Rows.laid_unicode_utf8_first)] w∧handlesMet Tryz.prog [("errors.errorType",Rows.laid_errors_errorType)] w:=h
 obtain ⟨name,u,ty,e1,e2,e3,e4,e5⟩:=h'.2 _ (List.mem_singleton.2 rfl)
 have en:name = [101,114,114,111,114]:=(Option.some.inj e1).symm
 subst en
 obtain rfl:=Option.some.inj (hRt.symm.trans e2)
 have hm:ty∈(List.range 277).filter fun t=>Tryz.prog.rowNamed t [101,114,114,111,114]:=List.mem_filter.2 ⟨List.mem_range.2 (by rw [← hSize];exact e3),e4⟩
 rw [hOne] at hm
 obtain rfl:=List.mem_singleton.1 hm
 have hh:typeHandle Tryz.prog 81 = .pointer (some ⟨4,81,none⟩):=by kernel_rfl
 rw [hh] at e5
 exact ⟨by simpa using World.var?_cell hEt e5 0,Tryz.laysIndex.s1_3 w hsh⟩
noncomputable def wH (os:Os):World :=
 let w0:=World.holding Tryz.prog os ⟨#[],#[],[]⟩
 {w0 with heap:=w0.heap.modify 0 fun
   | .cells _ t frozen=>.cells #[.iface 197 (.agg #[.pointer (some ⟨4,81,none⟩)])] t frozen
   | o=>o }
noncomputable def laidW (os:Os) (laid:List (String×DataW Unit)):World:=(wH os).layVars Tryz.prog laid
theorem qpy {os:Os} {laid:List (String×DataW Unit)} (args:Array Value) (hf:(wH os).layFits Tryz.prog laid []=true) (hi:(wH os).layIfaces Tryz.prog laid (laidW os laid)=true) :
  laidMet Tryz.prog laid ((laidW os laid).forCall (fun _ _=>0) ⟨#[],args,[]⟩).memory:=by
 have e1:(laid.filter fun x=>(laid.map (·.1)).contains x.1)=laid:=List.filter_eq_self.2 fun x hx=>List.contains_iff_mem.2 (List.mem_map.2 ⟨x,hx,rfl⟩)
 have e2:(laid.filter fun x=>!(laid.map (·.1)).contains x.1) = []:=List.filter_eq_nil_iff.2 fun x hx=>by rw [List.contains_iff_mem.2 (List.mem_map.2 ⟨x,hx,rfl⟩)];simp
 have h:laidMet Tryz.prog laid (laidW os laid):=laidMet_layVars (w0:=wH os) (laid.map (·.1)) [] (by rw [e1];rfl) (by rw [e1];exact hf) (by rw [e1];exact hi) (by rw [e2];exact LaidIn.none)
 exact h.of_heap (by simp [World.memory,World.forCall,Input.heap])
end YthpgnliicpejoaaGreatDoor.AM
end Go.Proofs
