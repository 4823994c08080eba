
import Derived.Test.YthpgnliicpejoaaGreatDoorVp28
import Derived.Test.YthpgnliicpejoaaGreatDoorVp34
import Derived.Test.YthpgnliicpejoaaGreatDoorVp15
import Derived.Test.YthpgnliicpejoaaGreatDoorRows
import Derived.LaidLaws
import Derived.LaidHandle
import Derived.Stop.LaidErr
import Derived.Lib.LaidTab
import Derived.Lay
namespace Go.Proofs
open Go.RowKit
set_option linter.unusedVariables false
set_option linter.unusedSimpArgs false
namespace YthpgnliicpejoaaGreatDoor.AM
theorem quo2 (m:Nat) (hm:m≤100000):jg9 .i64 (m:Int) 2=some ((m / 2:Nat):Int):=by
 unfold jg9
 rw [if_pos (by decide)]
 have:(m:Int).tdiv 2=((m / 2:Nat):Int):=by
  rw [Int.tdiv_eq_ediv_of_nonneg (by omega)];omega
 rw [this,wrap64 (by omega) (by omega)]
theorem j9d {a b:Nat} (h:b≤a) (ha:a≤1000000):IntKind.wrap .i64 ((a:Int) - (b:Int))=((a - b:Nat):Int):=by
 rw [wrap64 (by omega) (by omega)];omega
theorem qkp (N n:Nat) (hn:n≤100000):qax N (n:Int)=some ((0:Int),(((n / 2:Nat):Int),(((n / 2:Nat):Int),((n - n / 2:Nat):Int)))):=by
 unfold qax
 simp only [quo2 n hn,Option.bind_some]
 rw [j9d (by omega) (by omega),q0t]
theorem qvz (N:Nat) (n:Int) (h1 : -9223372036854775808≤n) (h2:n≤9223372036854775807):qaz N n=some (if 8≤n∧n≤512 then (qqj 0 1,0) else ([],1)):=by
 unfold qaz
 by_cases c1:n<8
 ·rw [decide_eq_true c1,cond_true,if_neg (by omega)]
 ·rw [decide_eq_false c1,cond_false]
  by_cases c2:512<n
  ·rw [decide_eq_true c2,cond_true,if_neg (by omega)]
  ·rw [decide_eq_false c2,cond_false,if_pos ⟨by omega,by omega⟩]
   obtain ⟨m,rfl⟩ : ∃ m:Nat,n=(m:Int):=⟨n.toNat,by omega⟩
   rw [qkp N m (by omega),Option.bind_some]
   show Option.bind (q9g N ((0:Int),((m / 2:Nat):Int)) 1) _=_
   rw [qd0 N 0 _ 1 (by omega) (by omega),if_pos ⟨⟨by omega,by omega,by omega⟩,by decide⟩,Option.bind_some]
   rfl
def j9l (B:BL) (n:Nat):Option Nat:=if q9q B (fA n 0) then (if q9q B (fA n 1)∧gA B n 0<gA B n 1 then some 1 else some 0) else if q9q B (fA n 1) then some 1 else none
def cntT (B:BL) (n:Nat):Int×((Int×(List (List UInt8)×Int))×Bool):=match j9l B n with
 | some h=>((h:Int),(jin B (fA n h) (zA n h),true))
 | none=>(0,((0,([],0)),false))
theorem qvy (N:Nat) (hN:600≤N) (d:DkT) (hd:smD d) (n:Nat) (hn:(q2m d).secs.length=n) (h8:8≤n) (hm:DM.q2e (q2m d)) :
  qbi N ((0:Int),(((n / 2:Nat):Int),(((n / 2:Nat):Int),((n - n / 2:Nat):Int)))) d=some (cntT (flat (q2m d)) n):=by
 have h512:n≤512:=by have:=hm.2.1;omega
 have o0:=qss N hN d hd 0 (n / 2) (qxl (by omega) (by omega) (by omega) hm)
 have o1:=qss N hN d hd (n / 2) (n - n / 2) (qxl (by omega) (by omega) (by omega) hm)
 have e0:fA n 0=0∧zA n 0=n / 2∧fA n 1=n / 2∧zA n 1=n - n / 2:=⟨rfl,rfl,rfl,rfl⟩
 obtain ⟨k1,k2,k3,k4⟩:=e0
 rw [Int.natCast_zero] at o0
 obtain ⟨M,rfl⟩ : ∃ M,N=M+3:=⟨N - 3,by omega⟩
 obtain ⟨d1,d2⟩:=d
 generalize flat (q2m (d1,d2))=B at o0 o1
 have w1:IntKind.wrap .i64 ((0:Int)+1)=1:=by decide
 have w2:IntKind.wrap .i64 ((1:Int)+1)=2:=by decide
 have t0:decide ((0:Int)<2)=true:=by decide
 have t1:decide ((1:Int)<2)=true:=by decide
 have t2:decide ((2:Int)<2)=false:=by decide
 have t3 : ¬ (1:Int)=0:=by decide
 have t5:decide ((5:Int)=0)=false:=by decide
 unfold qbi cntT j9l gA
 rw [q16]
 unfold q2n
 rw [t0,cond_true,if_pos rfl,o0,Option.bind_some]
 rw [k1,k3]
 by_cases b0:q9q B 0
 ·rw [if_pos b0,if_pos b0]
  simp only [decide_true,cond_true,Bool.not_false,w1,q0t]
  rw [q16]
  unfold q2n
  rw [t1,cond_true,if_neg t3,if_pos rfl,o1,Option.bind_some]
  by_cases b1:q9q B (n / 2)
  ·rw [if_pos b1]
   simp only [decide_true,cond_true,Bool.not_true,cond_false,w2,q0t,b1,true_and]
   by_cases c:q3k B 0<q3k B (n / 2)
   ·have c':(jin B 0 (n / 2)).1<(jin B (n / 2) (n - n / 2)).1:=c
    rw [decide_eq_true c',cond_true,if_pos c,q16]
    unfold q2n
    rw [t2,cond_false,Option.bind_some]
    rfl
   ·have c' : ¬ (jin B 0 (n / 2)).1<(jin B (n / 2) (n - n / 2)).1:=c
    rw [decide_eq_false c',cond_false,if_neg c,q16]
    unfold q2n
    rw [t2,cond_false,Option.bind_some]
    rfl
  ·rw [if_neg b1]
   simp only [t5,cond_false,w2,q0t,b1,false_and,if_false]
   rw [q16]
   unfold q2n
   rw [t2,cond_false,Option.bind_some]
   rfl
 ·rw [if_neg b0,if_neg b0]
  simp only [t5,cond_false,w1,q0t]
  rw [q16]
  unfold q2n
  rw [t1,cond_true,if_neg t3,if_pos rfl,o1,Option.bind_some]
  by_cases b1:q9q B (n / 2)
  ·rw [if_pos b1]
   simp only [decide_true,cond_true,Bool.not_false,w2,q0t,b1,if_true]
   rw [q16]
   unfold q2n
   rw [t2,cond_false,Option.bind_some]
   rfl
  ·rw [if_neg b1,if_neg b1]
   simp only [t5,cond_false,w2,q0t]
   rw [q16]
   unfold q2n
   rw [t2,cond_false,Option.bind_some]
theorem jbh (s:List UInt8):(qar s).1.length≤s.length:=by
 unfold qar
 cases hp:q3j (s.length+1) s with
 | none=>simp
 | some out =>
  have:=(qpk _ _ _ hp).1
  simp only
  split
  ·simp only;omega
  ·simp
def qmv (e:Int):IV:=jeo 114 (.agg ⟨[.int .i64 e]⟩)
theorem qp0 (e:Int):q5e (Subtype.val (qmv e))=some false∧q6f (qmv e)=some e:=⟨rfl,rfl⟩
theorem qvr (N:Nat) (l:List FD) (x:List UInt8) (hl:l.length≤1000) (hx:x.length≤5000) :
  ∃ iv,qbt N l x=some (if (qar x).2=0∧(q3b l (qar x).1).2=0 then ((q3b l (qar x).1).1,j23) else ([],iv))∧(∃ e,iv=qmv e):=by
 have hdl:(qar x).1.length≤1000000:=by
  have:=jbh x
  omega
 unfold qbt qq3 q7a
 rw [if_pos (show x.length≤1000000 by omega),Option.bind_some]
 by_cases c1:(qar x).2=0
 ·rw [decide_eq_true c1,Bool.not_true,cond_false,if_pos ⟨by omega,hdl⟩,Option.bind_some]
  by_cases c2:(q3b l (qar x).1).2=0
  ·rw [decide_eq_true c2,Bool.not_true,cond_false]
   exact ⟨qmv 0,by rw [if_pos ⟨c1,c2⟩],0,rfl⟩
  ·rw [decide_eq_false c2,Bool.not_false,cond_true]
   exact ⟨qmv (q3b l (qar x).1).2,by rw [if_neg (fun h=>c2 h.2)];rfl,_,rfl⟩
 ·rw [decide_eq_false c1,Bool.not_false,cond_true]
  exact ⟨qmv (qar x).2,by rw [if_neg (fun h=>c1 h.1)];rfl,_,rfl⟩
theorem qqb (N:Nat) (its:List (List UInt8)) (hits : ∀ x∈its,x.length≤5000) (hlen:its.length≤1000) (b0 b1 b2 b3 b4 b5 b6:Int) (f0 z0 f1 z1 h g nx:Int) : ∀ (m i:Nat) (l:List FD),its.length - i<m→i≤its.length→q7l l=true →
  ∃ o,q58 N m its (its.length:Int) (i:Int) b0 b1 b2 b3 b4 b5 b6 f0 z0 f1 z1 h g its nx l=some o ∧
   match qjo l (its.drop i) with
   | some k=>∃ u v w,o=Sum.inr (u,((v,((f0,(z0,(f1,(z1,(h,(g,(its,(nx,k)))))))),())),w))
   | none=>∃ iv st,o=Sum.inl (((),(iv,())),st)∧q5e (Subtype.val iv)=some false∧q6f iv=some 4
 | 0,i,l,hm,_,_=>by omega
 | m+1,i,l,hm,hi,hl=>by
  rw [qf8]
  unfold qoz
  by_cases c:i<its.length
  ·have hd:its.drop i=its[i]::its.drop (i+1):=List.drop_eq_getElem_cons c
   have hll:=qe9 hl
   obtain ⟨iv,hr,e,rfl⟩:=qvr N l its[i] (by omega) (hits _ (List.getElem_mem c))
   rw [decide_eq_true (by omega),cond_true,q37 c,Option.bind_some,hr,Option.bind_some,hd]
   unfold qjo
   by_cases c2:(qar its[i]).2=0∧(q3b l (qar its[i]).1).2=0
   ·have w1:IntKind.wrap .i64 ((i:Int)+1)=((i+1:Nat):Int):=q1e (by omega)
    rw [if_pos c2,if_pos c2]
    show ∃ o,(Option.bind (some true) _=some o)∧_
    rw [Option.bind_some]
    simp only [Bool.not_true,cond_false,w1,q0t]
    exact qqb N its hits hlen b0 b1 b2 b3 b4 b5 b6 f0 z0 f1 z1 h g nx m (i+1) _ (by omega) (by omega) (qcf (ops:=(qar its[i]).1) (l:=l) (by rw [← c2.2]))
   ·rw [if_neg c2,if_neg c2]
    refine ⟨_,rfl,_,_,rfl,rfl,rfl⟩
  ·rw [decide_eq_false (by omega),cond_false]
   have hd:its.drop i = []:=List.drop_eq_nil_of_le (by omega)
   rw [hd]
   exact ⟨_,rfl,_,_,_,rfl⟩
def j3a (D:DM.Dk):Int⊕(Nat×List FD) :=
 if DM.q2e D∧8≤D.secs.length then (match j9l (flat D) D.secs.length with
  | none=>.inl 5
  | some h=>match qjo [] ((lA (flat D) D.secs.length h).1.map unB) with
   | none=>.inl 4
   | some fs=>.inr (h,fs)) else .inl 1
theorem j7u {B:BL} {n h:Nat} (hc:j9l B n=some h):h≤1:=by
 unfold j9l at hc
 split at hc
 ·split at hc<;>(have:=Option.some.inj hc;omega)
 ·split at hc
  ·have:=Option.some.inj hc;omega
  ·cases hc
abbrev StT:=Int×(Int×(Int×(Int×(Int×(Int×(List (List UInt8)×(Int×List FD)))))))
theorem ja9 (B:BL) (n h:Nat) : ∀ x∈(lA B n h).1.map unB,x.length≤5000:=fun x hx=>by
 obtain ⟨y,hy,rfl⟩:=List.mem_map.1 hx
 have:=qgk (B:=B) (e:=fA n h+zA n h) (g:=q3k B (fA n h)) (zA n h - 1) (fA n h+1) [] (fun x hx=>by cases hx) y hy
 rw [q94];omega
theorem qm7 (N:Nat) (hN:1200≤N) (d:DkT) (hd:smD d) : ∃ (st:StT) (iv:IV),qdr N d=some (st,iv)∧match j3a (q2m d) with
  | .inl e=>q5e (Subtype.val iv)=some false∧q6f iv=some e
  | .inr (h,fs)=>iv=j23∧st=(0,(((d.1.length / 2:Nat):Int),(((d.1.length / 2:Nat):Int),(((d.1.length - d.1.length / 2:Nat):Int),((h:Int),(gA (flat (q2m d)) d.1.length h,((lA (flat (q2m d)) d.1.length h).1.map unB,(((lA (flat (q2m d)) d.1.length h).2:Int),fs)))))))):=by
 have hdl:=(qgx d).1
 unfold qdr jf4 j3a
 rw [Option.bind_some]
 by_cases hm:DM.q2e (q2m d)
 case neg =>
  rw [decide_eq_false hm,Bool.not_false,cond_true,if_neg (fun h=>hm h.1)]
  exact ⟨_,qmv 1,rfl,qp0 1⟩
 rw [decide_eq_true hm,Bool.not_true,cond_false]
 have h512:d.1.length≤512:=by have:=hm.2.1;omega
 by_cases h8:8≤d.1.length
 case neg =>
  rw [decide_eq_true (by omega),cond_true,if_neg (fun h=>h8 (by omega))]
  exact ⟨_,qmv 1,rfl,qp0 1⟩
 rw [decide_eq_false (by omega),cond_false,if_pos ⟨hm,by omega⟩,qkp N _ (by omega),Option.bind_some,qvy N (by omega) d hd d.1.length hdl h8 hm,Option.bind_some,hdl]
 generalize flat (q2m d)=B
 generalize d.1.length=n at *
 unfold cntT
 cases hc:j9l B n with
 | none=>exact ⟨_,qmv 5,rfl,qp0 5⟩
 | some h =>
  have hh:=j7u hc
  obtain ⟨z1,z2,_⟩:=q3y h8 hh
  have hin:=(qvt (B:=B) (f:=fA n h) (z:=zA n h) (by omega) (by omega)).2.2
  have hll:((lA B n h).1.map unB).length≤1000:=by rw [List.length_map];unfold lA;omega
  obtain ⟨o,ho,hcase⟩:=qqb N ((lA B n h).1.map unB) (ja9 B n h) hll 0 0 0 0 0 0 0 0 ((n / 2:Nat):Int) ((n / 2:Nat):Int) ((n - n / 2:Nat):Int) (h:Int) (gA B n h) ((lA B n h).2:Int) N 0 [] (by omega) (Nat.zero_le _) qdo
  rw [Int.natCast_zero] at ho
  rw [List.drop_zero] at hcase
  show ∃ st iv,(bif !true then _ else Option.bind (q58 N N ((lA B n h).1.map unB) (((lA B n h).1.map unB).length:Int) 0 0 0 0 0 0 0 0 0 ((n / 2:Nat):Int) ((n / 2:Nat):Int) ((n - n / 2:Nat):Int) (h:Int) (gA B n h) ((lA B n h).1.map unB) ((lA B n h).2:Int) []) _)=some (st,iv)∧_
  rw [Bool.not_true,cond_false,ho,Option.bind_some]
  cases hr:qjo [] ((lA B n h).1.map unB) with
  | none =>
   rw [hr] at hcase
   obtain ⟨iv,st,rfl,h1,h2⟩:=hcase
   refine ⟨_,iv,rfl,?_⟩
   simp only [hr]
   exact ⟨h1,h2⟩
  | some k =>
   rw [hr] at hcase
   obtain ⟨u,v,w,rfl⟩:=hcase
   refine ⟨_,j23,rfl,?_⟩
   simp only [hr]
   exact ⟨trivial,trivial⟩
def j8k (D:DM.Dk):(Int×(Int×(Int×(Int×List FD))))×Int:=match j3a D with
 | .inl e=>((0,(0,(0,(0,[])))),e)
 | .inr (h,fs)=>(((h:Int),(gA (flat D) D.secs.length h,((((lA (flat D) D.secs.length h).1.length:Nat):Int),(((lA (flat D) D.secs.length h).2:Int),fs)))),0)
theorem j10 (N:Nat) (hN:1200≤N) (d:DkT) (hd:smD d):q5l N d=some (j8k (q2m d)):=by
 obtain ⟨st,iv,h1,h2⟩:=qm7 N hN d hd
 have hdl:=(qgx d).1
 unfold q5l j8k
 rw [h1,Option.bind_some]
 cases hc:j3a (q2m d) with
 | inl e =>
  rw [hc] at h2
  simp only [h2.1,Option.bind_some,Bool.not_false,cond_true,h2.2]
 | inr p =>
  obtain ⟨h,fs⟩:=p
  rw [hc] at h2
  obtain ⟨rfl,rfl⟩:=h2
  show Option.bind (some true) _=_
  rw [Option.bind_some]
  simp only [Bool.not_true,cond_false,List.length_map,hdl]
theorem jeg {D:DM.Dk} {h:Nat} {fs:List FD} (hc:j3a D = .inr (h,fs)):DM.q2e D∧8≤D.secs.length∧D.secs.length≤512∧h≤1∧j9l (flat D) D.secs.length=some h∧qjo [] ((lA (flat D) D.secs.length h).1.map unB)=some fs:=by
 unfold j3a at hc
 split at hc
 case isFalse=>cases hc
 rename_i h1
 split at hc
 ·cases hc
 ·rename_i k hk
  split at hc
  ·cases hc
  ·rename_i g hg
   simp only [Sum.inr.injEq,Prod.mk.injEq] at hc
   obtain ⟨rfl,rfl⟩:=hc
   exact ⟨h1.1,h1.2,h1.1.2.1,j7u hk,hk,hg⟩
theorem jgq {D:DM.Dk} {h:Nat} {fs:List FD} (hc:j3a D = .inr (h,fs)):fA D.secs.length h+1≤(lA (flat D) D.secs.length h).2∧(lA (flat D) D.secs.length h).2≤fA D.secs.length h+zA D.secs.length h∧(lA (flat D) D.secs.length h).1.length≤512∧fA D.secs.length h+zA D.secs.length h≤512∧4≤zA D.secs.length h:=by
 obtain ⟨h1,h2,h3,h4,_⟩:=jeg hc
 obtain ⟨z1,z2,_⟩:=q3y h2 h4
 obtain ⟨a,b,c⟩:=qvt (B:=flat D) (f:=fA D.secs.length h) (z:=zA D.secs.length h) (by omega) (by omega)
 exact ⟨a,b,c,by omega,z1⟩
end YthpgnliicpejoaaGreatDoor.AM
end Go.Proofs
namespace Go.Proofs
open Go.RowKit
set_option linter.unusedVariables false
set_option linter.unusedSimpArgs false
namespace YthpgnliicpejoaaGreatDoor.AM
theorem j6f:qhd=q6h:=rfl
theorem qs4 (n:Nat) (hn:600≤n) (f z nx:Nat) (g:Int) (its:List (List UInt8)) (p:List UInt8) (h1:f+z≤512) (h2:2≤z) (h3:f<nx) (h4:nx≤f+z) (hg:0≤g∧g≤1073741824) (hq:its.length≤65535) :
  qij n ((f:Int),(z:Int)) (g,(its,(nx:Int))) p=some (if 4096<p.length then (((),2),((),([],()))) else if f+z<nx+1+RM.q1d (ba p) then (((),3),((),([],()))) else (((),0),((),(qbp (q9y nx (ba p) (txB g its.length (ba p))),())))):=by
 have hM:=max_eq
 unfold qij qqq
 simp only
 rw [qfg n f z (by omega) (by omega),decide_eq_true (show chk (f:Int) (z:Int) from ⟨by omega,by omega,by omega⟩),Option.bind_some,cond_true,decide_eq_true (by omega),cond_true,wrap_add (by omega) (by omega),q0t,Option.bind_some,decide_eq_true (by omega),Bool.not_true,cond_false,
  decide_eq_false (by omega),cond_false,decide_eq_false (by omega),cond_false,decide_eq_false (by omega),cond_false]
 by_cases c1:4096<p.length
 ·rw [decide_eq_true (by omega),cond_true,if_pos c1]
 have hsz:(ba p).size=p.length:=q29 p
 have hdat:(ba p).data.toList=p:=qnl p
 have hcut:RM.q0v (p.length:Int)=(RM.q1d (ba p):Int):=by rw [← hsz];exact RM.q93 _ (by omega)
 have hcl:=RM.qab (ba p)
 rw [decide_eq_false (by omega),cond_false,if_neg c1,qci n f z nx h1 (by omega),Option.bind_some]
 unfold q77
 rw [if_pos (show qxp (p.length:Int) by unfold qxp;omega),Option.bind_some,hcut,wrap64 (by omega) (by omega),q0t]
 by_cases c2:f+z<nx+1+RM.q1d (ba p)
 ·rw [decide_eq_true (by omega),cond_true,if_pos c2]
 rw [decide_eq_false (by omega),cond_false,if_neg c2]
 have hm:RM.may 2 g (its.length:Int) (p.length:Int) (SM.q1g 1 p):=⟨Or.inr rfl,hg,⟨by omega,by omega⟩,⟨by omega,by omega⟩,SM.q4v _ _⟩
 show Option.bind (qa8 n 2 g (its.length:Int) p) _=_
 rw [qcl n 2 g (its.length:Int) p (by omega),if_pos hm,Option.bind_some]
 unfold qsh
 rw [if_pos (by omega),Option.bind_some]
 have hll:((RM.qew (ba p)).map unB).length=RM.q1d (ba p):=by rw [List.length_map,RM.q2y]
 rw [hll]
 have hloop:=qmw n (unB (RM.q1a 2 g (its.length:Int) (p.length:Int) (SM.q1g 1 p))) (ba p) f z nx (by omega) (RM.q1d (ba p)) rfl hcl n 0 (by omega) (Nat.zero_le _)
 have e0:qbp (qjn nx (ba p) 0) = []:=rfl
 rw [e0] at hloop
 have hloop':=hloop
 rw [Int.natCast_zero] at hloop'
 simp only
 rw [j6f,hloop',Option.bind_some,qkf (by rw [q5g,q6t];simp;omega),Option.bind_some]
 have etx:txB g its.length (ba p)=RM.q1a 2 g (its.length:Int) (p.length:Int) (SM.q1g 1 p):=by unfold txB;rw [hdat,hsz]
 unfold q9y
 rw [etx]
 unfold qbp
 rw [List.map_append]
 rfl
theorem qz4 {l:List OD} (h : ∀ o∈l,o.2.1.length≤1000000∧o.2.2.length≤1000000):qhs l=some (q2d l):=by
 unfold qhs
 rw [if_pos (List.all_eq_true.2 fun o ho=>by simp [h o ho])]
theorem qxd {p:List UInt8} (h:q3l p=true):p.length≤60:=by
 unfold q3l at h
 simp only [Bool.and_eq_true,decide_eq_true_eq] at h
 omega
theorem jc6 {k:List FD} (hk:q7l k=true) : ∀ o∈q47 [] k,o.2.1.length≤1000000∧o.2.2.length≤1000000:=fun o ho=>by
 unfold q47 at ho
 rw [qdo,hk] at ho
 have ho':o∈q1w (([]:List FD).length+k.length) [] k:=ho
 rw [qy9 _ k (by simp)] at ho'
 obtain ⟨f,hf,rfl⟩:=List.mem_map.1 ho'
 have h1:=((qak k).1 hk).2.1 f hf
 unfold okF at h1
 simp only [Bool.and_eq_true,decide_eq_true_eq] at h1
 have h2:=qxd h1.1
 exact ⟨by simp only;omega,by simp only;omega⟩
def j2b (B:BL) (n h:Nat) (after:List FD):AcT×Int :=
 if (q2d (q47 [] after)).2≠0 then ([],(q2d (q47 [] after)).2) else if 1073741824≤gA B n h then ([],15)
 else if fA n (1 - h)+zA n (1 - h)<fA n (1 - h)+1+1+RM.q1d (ba (q2d (q47 [] after)).1) then ([],3) else (qbp (q7s n h (gA B n h) (ba (q2d (q47 [] after)).1)),0)
theorem j7o (N:Nat) (hN:600≤N) (B:BL) (n h:Nat) (h8:8≤n) (h512:n≤512) (hh:h≤1) (its:List (List UInt8)) (nx:Int) (fs after:List FD) (ha:q7l after=true) :
  qal N (0,(((n / 2:Nat):Int),(((n / 2:Nat):Int),(((n - n / 2:Nat):Int),((h:Int),(gA B n h,(its,(nx,fs)))))))) after=some (j2b B n h after):=by
 have hal:=qe9 ha
 have hgen:0≤gA B n h∧gA B n h≤1073741824:=q79 B (fA n h)
 obtain ⟨z1,z2,_⟩:=q3y (n:=n) (h:=1 - h) h8 (by omega)
 have hel:=qgr (q47 [] after)
 have hem:=jc6 ha
 unfold qal j2b
 rw [j2h N [] after (by simp) (by omega) (by simp;omega),Option.bind_some,qz4 hem,Option.bind_some]
 generalize q2d (q47 [] after)=q at *
 by_cases c1:q.2=0
 case neg=>rw [decide_eq_false c1,Bool.not_false,cond_true,if_pos c1]
 rw [decide_eq_true c1,Bool.not_true,cond_false,if_neg (fun hn=>hn c1)]
 by_cases c2:1073741824≤gA B n h
 ·rw [decide_eq_true c2,cond_true,if_pos c2]
 rw [decide_eq_false c2,cond_false,if_neg c2]
 have w1:IntKind.wrap .i64 (gA B n h+1)=gA B n h+1:=wrap64 (by omega) (by omega)
 have ap : ∀ a b:AcT,a.length≤1000→b.length≤1000→q50 32 a b=some (a++b):=fun a b h1 h2=>by rw [qkf (by omega)]
 have hcut:=RM.qab (ba q.1)
 match h,hh with
 | 0,_ =>
  have e1:fA n (1 - 0)=n / 2:=rfl
  have e2:zA n (1 - 0)=n - n / 2:=rfl
  rw [e2] at z1
  rw [e1,e2] at z2 ⊢
  have w0:IntKind.wrap .i64 ((1:Int) - ((0:Nat):Int))=1:=by decide
  have w2:IntKind.wrap .i64 (((n / 2:Nat):Int)+1)=((n / 2+1:Nat):Int):=q1e (by omega)
  simp only [w0,q0t,w1,w2]
  rw [if_neg (show ¬ (1:Int)=0 by decide),if_pos trivial,qs4 N hN (n / 2) (n - n / 2) (n / 2+1) (gA B n 0+1) [] q.1 (by omega) (by omega) (by omega) (by omega) (by omega) (Nat.zero_le _),Option.bind_some,if_neg (show ¬ 4096<q.1.length by omega)]
  by_cases c3:n / 2+(n - n / 2)<n / 2+1+1+RM.q1d (ba q.1)
  ·rw [if_pos c3,if_pos c3];rfl
  ·rw [if_neg c3,if_neg c3,qd0 N _ _ _ (by omega) (by omega),if_pos ⟨⟨by omega,by omega,by omega⟩,by omega,by omega⟩]
   simp only [decide_true,Bool.not_true,cond_false,Option.bind_some]
   rw [ap _ _ (by rw [q5g,q8n];omega) (by simp),Option.bind_some]
   unfold q7s qbp
   rw [List.map_append]
   rfl
 | 1,_ =>
  have e1:fA n (1 - 1)=0:=rfl
  have e2:zA n (1 - 1)=n / 2:=rfl
  rw [e2] at z1
  rw [e1,e2] at z2 ⊢
  have w0:IntKind.wrap .i64 ((1:Int) - ((1:Nat):Int))=0:=by decide
  have w2:IntKind.wrap .i64 ((0:Int)+1)=((0+1:Nat):Int):=by decide
  simp only [w0,q0t,w1,w2]
  have ha:=qs4 N hN 0 (n / 2) (0+1) (gA B n 1+1) [] q.1 (by omega) (by omega) (by omega) (by omega) (by omega) (Nat.zero_le _)
  rw [Int.natCast_zero] at ha
  rw [if_pos trivial,ha,Option.bind_some,if_neg (show ¬ 4096<q.1.length by omega)]
  by_cases c3:0+n / 2<0+1+1+RM.q1d (ba q.1)
  ·rw [if_pos c3,if_pos c3];rfl
  ·rw [if_neg c3,if_neg c3,qd0 N _ _ _ (by omega) (by omega),if_pos ⟨⟨by omega,by omega,by omega⟩,by omega,by omega⟩]
   simp only [decide_true,Bool.not_true,cond_false,Option.bind_some]
   rw [ap _ _ (by rw [q5g,q8n];omega) (by simp),Option.bind_some]
   unfold q7s qbp
   rw [List.map_append]
   rfl
def q9z (D:DM.Dk) (ops:List OD):AcT×Int:=match j3a D with
 | .inl e=>([],e)
 | .inr (h,fs)=>if (q3b fs ops).2≠0 then ([],(q3b fs ops).2) else if (q2d ops).2≠0 then ([],(q2d ops).2)
  else if fA D.secs.length h+zA D.secs.length h<(lA (flat D) D.secs.length h).2+1+RM.q1d (ba (q2d ops).1) then j2b (flat D) D.secs.length h (q3b fs ops).1
  else (qbp (q9y (lA (flat D) D.secs.length h).2 (ba (q2d ops).1) (txB (gA (flat D) D.secs.length h) (lA (flat D) D.secs.length h).1.length (ba (q2d ops).1))),0)
theorem qux (N:Nat) (hN:1200≤N) (d:DkT) (hd:smD d) (ops:List OD) (ho:ops.length≤100000) (hp : ∀ o∈ops,o.2.1.length≤1000000∧o.2.2.length≤1000000):q45 N d ops=some (q9z (q2m d) ops):=by
 obtain ⟨st,iv,h1,h2⟩:=qm7 N hN d hd
 have hdl:=(qgx d).1
 unfold q45 q9z
 rw [h1,Option.bind_some]
 cases hc:j3a (q2m d) with
 | inl e =>
  rw [hc] at h2
  simp only [h2.1,Option.bind_some,Bool.not_false,cond_true,h2.2]
 | inr p =>
  obtain ⟨h,fs⟩:=p
  obtain ⟨a1,a2,a3,a4,a5⟩:=jgq hc
  obtain ⟨_,h8,h512,hh,_,hrep⟩:=jeg hc
  rw [hc] at h2
  obtain ⟨rfl,rfl⟩:=h2
  have hfs:=qe9 (qnk _ qdo hrep)
  have hel:=qgr ops
  show Option.bind (some true) _=_
  rw [Option.bind_some]
  rw [hdl] at a1 a2 a4 a5 h8 h512 hrep
  simp only [Bool.not_true,cond_false,hdl]
  unfold q7a
  rw [if_pos ⟨by omega,by omega⟩,Option.bind_some]
  by_cases c1:(q3b fs ops).2=0
  case neg=>rw [decide_eq_false c1,Bool.not_false,cond_true,if_pos c1]
  rw [decide_eq_true c1,Bool.not_true,cond_false,if_neg (show ¬ (q3b fs ops).2≠0 from fun hn=>hn c1),qz4 hp,Option.bind_some]
  by_cases c2:(q2d ops).2=0
  case neg=>rw [decide_eq_false c2,Bool.not_false,cond_true,if_pos c2]
  rw [decide_eq_true c2,Bool.not_true,cond_false,if_neg (show ¬ (q2d ops).2≠0 from fun hn=>hn c2)]
  have haf:q7l (q3b fs ops).1=true:=qcf (ops:=ops) (l:=fs) (by rw [← c1])
  rw [hdl] at a3
  have hgen:0≤gA (flat (q2m d)) d.1.length h∧gA (flat (q2m d)) d.1.length h≤1073741824:=q79 _ _
  have hmv:=j7o N (by omega) (flat (q2m d)) d.1.length h h8 h512 hh ((lA (flat (q2m d)) d.1.length h).1.map unB) ((lA (flat (q2m d)) d.1.length h).2:Int) fs (q3b fs ops).1 haf
  have hadd:=jbm N (by omega) (fA d.1.length h) (zA d.1.length h) (lA (flat (q2m d)) d.1.length h).2 (gA (flat (q2m d)) d.1.length h) ((lA (flat (q2m d)) d.1.length h).1.map unB) (q2d ops).1 (by omega) (by omega) (by omega) a2 hgen (by rw [List.length_map];omega)
  rw [if_neg (by omega),List.length_map] at hadd
  generalize d.1.length=n at *
  match h,hh with
  | 0,_ =>
   have e1:fA n 0=0:=rfl
   have e2:zA n 0=n / 2:=rfl
   rw [if_pos (show ((0:Nat):Int)=0 from rfl)]
   rw [e1,e2,Int.natCast_zero] at hadd
   rw [hadd,Option.bind_some]
   rw [e1,e2]
   by_cases c3:0+n / 2<(lA (flat (q2m d)) n 0).2+1+RM.q1d (ba (q2d ops).1)
   ·rw [if_pos c3,if_pos c3]
    show Option.bind (qal N _ (q3b fs ops).1) _=_
    rw [hmv,Option.bind_some]
   ·rw [if_neg c3,if_neg c3]
    rfl
  | 1,_ =>
   have e1:fA n 1=n / 2:=rfl
   have e2:zA n 1=n - n / 2:=rfl
   rw [if_neg (show ¬ ((1:Nat):Int)=0 by decide),if_pos (show ((1:Nat):Int)=1 from rfl)]
   rw [e1,e2] at hadd
   rw [hadd,Option.bind_some]
   rw [e1,e2]
   by_cases c3:n / 2+(n - n / 2)<(lA (flat (q2m d)) n 1).2+1+RM.q1d (ba (q2d ops).1)
   ·rw [if_pos c3,if_pos c3]
    show Option.bind (qal N _ (q3b fs ops).1) _=_
    rw [hmv,Option.bind_some]
   ·rw [if_neg c3,if_neg c3]
    rfl
end YthpgnliicpejoaaGreatDoor.AM
end Go.Proofs
namespace Go.Proofs
open Go.RowKit
set_option linter.unusedVariables false
set_option linter.unusedSimpArgs false
namespace YthpgnliicpejoaaGreatDoor.AM
def q3e:Nat:=9223372036854775808
theorem que:q8q q3e=some true:=by decide +kernel
abbrev qrn:=List OD×(Int×List Bool)
def qk6 (s:qrn):Prop:=jdr s.1=true∧s.2.2.length≤1000
instance:DecidablePred qk6:=fun s=>inferInstanceAs (Decidable (_∧_))
theorem j8x {ops:List OD} (h:jdr ops=true):ops.length≤100∧∀ o∈ops,o.2.1.length≤1000000∧o.2.2.length≤1000000:=by
 unfold jdr at h
 simp only [Bool.and_eq_true,decide_eq_true_eq,List.all_eq_true] at h
 refine ⟨h.2,fun o ho=>?_⟩
 have:=h.1 o ho
 omega
theorem qz7 (l:List qrn) (x:Int) (hops : ∀ s∈l,s.1.length≤9223372036854775807) (hl:l.length≤9223372036854775807) : ∀ (m i:Nat),l.length - i<m→i≤l.length →
  q7h q3e m l x (i:Int)=some (if ∀ s∈l.drop i,qk6 s then Sum.inr ((l,(x,())),((),())) else Sum.inl ((0,()),((),())))
 | 0,i,h,_=>by omega
 | m+1,i,hm,hi=>by
  rw [qf7]
  unfold qmf
  by_cases c:i<l.length
  ·have hd:l.drop i=l[i]::l.drop (i+1):=List.drop_eq_getElem_cons c
   have ho:=hops _ (List.getElem_mem c)
   have w1:IntKind.wrap .i64 ((i:Int)+1)=((i+1:Nat):Int):=by rw [wrap64 (by omega) (by omega)];omega
   have hf:=j0j q3e l[i].1 (by omega) (by unfold q3e;omega)
   rw [decide_eq_true (by omega),cond_true,q37 c,Option.bind_some,hf,Option.bind_some]
   by_cases c1:jdr l[i].1=true
   ·rw [c1,Bool.not_true,cond_false,Option.bind_some]
    by_cases c2:l[i].2.2.length≤1000
    ·rw [decide_eq_false (by omega),cond_false,w1,q0t]
     have ih:=qz7 l x hops hl m (i+1) (by omega) (by omega)
     refine ih.trans ?_
     congr 1
     by_cases c3 : ∀ s∈l.drop (i+1),qk6 s
     ·rw [if_pos c3,if_pos (by rw [hd];intro s hs;rcases List.mem_cons.1 hs with rfl|hs;exact ⟨c1,c2⟩;exact c3 s hs)]
     ·rw [if_neg c3,if_neg (fun h=>c3 fun s hs=>h s (by rw [hd];exact List.mem_cons_of_mem _ hs))]
    ·rw [decide_eq_true (by omega),cond_true,if_neg (fun h=>c2 (h l[i] (by rw [hd];exact List.mem_cons_self ..)).2)]
   ·rw [Bool.not_eq_true] at c1
    rw [c1,Bool.not_false,cond_true,if_neg (fun h=>by have:=(h l[i] (by rw [hd];exact List.mem_cons_self ..)).1;rw [c1] at this;cases this)]
  ·rw [decide_eq_false (by omega),cond_false,if_pos (by rw [List.drop_eq_nil_of_le (by omega)];intro s hs;cases hs)]
def fewL (l:List qrn):Prop:=(∀ s∈l,qk6 s)∧l.length≤20
theorem jbj (l:List qrn) (hops : ∀ s∈l,s.1.length≤9223372036854775807) (hl:l.length≤9223372036854775807) : ∃ r:Int,qo4 q3e l 20=some r∧(r=0∨(r=1∧fewL l)):=by
 unfold qo4
 have:=qz7 l 20 hops hl q3e 0 (by unfold q3e;omega) (Nat.zero_le _)
 rw [Int.natCast_zero,List.drop_zero] at this
 rw [this,Option.bind_some]
 by_cases c : ∀ s∈l,qk6 s
 ·rw [if_pos c]
  show ∃ r,(bif decide ((20:Int)<((l.length:Nat):Int)) then some (0:Int) else some 1)=some r∧_
  by_cases c2:l.length≤20
  ·rw [decide_eq_false (by omega),cond_false];exact ⟨1,rfl,Or.inr ⟨rfl,c,c2⟩⟩
  ·rw [decide_eq_true (by omega),cond_true];exact ⟨0,rfl,Or.inl rfl⟩
 ·rw [if_neg c];exact ⟨0,rfl,Or.inl rfl⟩
theorem jdo {B:BL} {n h:Nat} {fs:List FD} (hI:VI B n h fs):smD (q6i ⟨B,[]⟩):=j4f (by show B.length≤_;have:=hI.le;have:=hI.len;omega) (Nat.zero_le _)
theorem jdk {B:BL} {n h:Nat} {fs:List FD} (hI:VI B n h fs):j3a ⟨B,[]⟩ = .inr (h,fs):=by
 have hBl:=hI.len
 have hn8:=hI.n8
 have hc:j9l B n=some h:=by
  have hb:=hI.beg
  have ho:=hI.other
  unfold j9l
  match h,hI.h1,hb,ho with
  | 0,_,hb,ho =>
   rw [if_pos hb,if_neg (fun hc=>?_)]
   have:=ho hc.1
   have h2:=hc.2
   have e:(1 - 0:Nat)=1:=rfl
   rw [e] at this
   omega
  | 1,_,hb,ho =>
   by_cases c:q9q B (fA n 0)
   ·rw [if_pos c,if_pos ⟨hb,ho c⟩]
   ·rw [if_neg c,if_pos hb]
 unfold j3a
 rw [if_pos ⟨hI.may,by show 8≤B.length;omega⟩,qft]
 show (match j9l B B.length with|none=>_|some h=>_)=_
 rw [hBl,hc]
 simp only [hI.rep]
theorem jd5 {B:BL} {n h:Nat} {fs:List FD} (hI:VI B n h fs):q5l q3e (q6i ⟨B,[]⟩)=some (((h:Int),(gA B n h,((((lA B n h).1.length:Nat):Int),(((lA B n h).2:Int),fs)))),0):=by
 rw [j10 q3e (by unfold q3e;omega) _ (jdo hI),q1z]
 unfold j8k
 rw [jdk hI,qft]
 show some (((h:Int),(gA B B.length h,((((lA B B.length h).1.length:Nat):Int),(((lA B B.length h).2:Int),fs)))),(0:Int))=_
 rw [hI.len]
structure Acts6 (B:BL) (n h:Nat) (fs after:List FD) (L:List DM.Ac):Prop where
 ne:0<L.length
 len:L.length≤1000
 size : ∀ a∈L,a.2.2.size≤32
 ok : ∀ a∈L,DM.q3t B.length a
 cut : ∀ (N:Nat) (keep:Nat→Bool),∃ X,DM.q1c keep (DM.runK ⟨B,[]⟩ (L.take N))=⟨X,[]⟩∧(N=0→VI X n h fs)∧(VI X n h fs ∨ ∃ h',VI X n h' after)∧(L.length≤N→∃ h',VI X n h' after)
 full : ∃ X,DM.runK ⟨B,[]⟩ L=⟨X,[]⟩∧((VI X n h after∧gA X n h=gA B n h∧(lA X n h).1.length=(lA B n h).1.length+1∧(lA B n h).2<(lA X n h).2)∨(VI X n (1 - h) after∧gA X n (1 - h)=gA B n h+1∧(lA X n (1 - h)).1.length=1))
theorem jch {n N h:Nat} {g:Int} {q:ByteArray} (hn:fA n (1 - h)+1+RM.q1d q<N) (hg:0≤g+1∧g+1≤1073741824) (hq:q.size≤4096):(∀ a∈q7s n h g q,DM.q3t N a)∧∀ a∈q7s n h g q,a.2.2.size≤32:=by
 have htx:(txB (g+1) 0 q).size=32:=qg1 hg (Nat.zero_le _) hq
 have hbs:(RM.q1a 1 (g+1) 0 0 1).size=32:=qg7 hg
 constructor
 ·intro a hm
  rcases List.mem_append.1 hm with hm|hm
  ·exact qo5 (n:=N) hn htx a hm
  ·simp only [jik,List.mem_cons,List.not_mem_nil,or_false] at hm
   rcases hm with rfl|rfl
   ·refine Or.inr ?_
    unfold DM.q1y
    rw [if_pos ⟨by simp only;omega,by simp only;omega⟩,if_neg (by simp only [hbs];omega)]
   ·exact Or.inl rfl
 ·intro a hm
  rcases List.mem_append.1 hm with hm|hm
  ·exact qqn htx a hm
  ·simp only [jik,List.mem_cons,List.not_mem_nil,or_false] at hm
   rcases hm with rfl|rfl
   ·simp only [hbs];omega
   ·exact Nat.zero_le _
theorem qqm {B:BL} {n h:Nat} {fs:List FD} (hI:VI B n h fs) (ops:List OD) :
  (∃ e,q9z ⟨B,[]⟩ ops=([],e)∧e≠0∧(((q3b fs ops).2≠0∧e=(q3b fs ops).2)∨((q3b fs ops).2=0∧(q2d ops).2≠0∧e=(q2d ops).2) ∨
   ((q3b fs ops).2=0∧(q2d ops).2=0∧((q2d (q47 [] (q3b fs ops).1)).2≠0∨1073741824≤gA B n h∨(e=3∧n / 2<2+RM.q1d (ba (q2d (q47 [] (q3b fs ops).1)).1)))))) ∨
  ∃ L after,q9z ⟨B,[]⟩ ops=(qbp L,0)∧q3b fs ops=(after,0)∧(q2d ops).2=0∧Acts6 B n h fs after L:=by
 have hBl:=hI.len
 have hle:=hI.le
 obtain ⟨z1,z2,_⟩:=q3y hI.n8 hI.h1
 obtain ⟨y1,y2,y3,_⟩:=q3y (n:=n) (h:=1 - h) hI.n8 (by omega)
 have hlin:=jgp hI
 have hgen:0≤gA B n h∧gA B n h≤1073741824:=q79 B (fA n h)
 have ec:q9z ⟨B,[]⟩ ops=(if (q3b fs ops).2≠0 then ([],(q3b fs ops).2) else if (q2d ops).2≠0 then ([],(q2d ops).2)
   else if fA n h+zA n h<(lA B n h).2+1+RM.q1d (ba (q2d ops).1) then j2b B n h (q3b fs ops).1
   else (qbp (q9y (lA B n h).2 (ba (q2d ops).1) (txB (gA B n h) (lA B n h).1.length (ba (q2d ops).1))),0)):=by
  unfold q9z
  rw [jdk hI,qft]
  show (if _ then _ else if _ then _ else if fA B.length h+zA B.length h<(lA B B.length h).2+1+RM.q1d (ba (q2d ops).1) then j2b B B.length h (q3b fs ops).1 else (qbp (q9y (lA B B.length h).2 (ba (q2d ops).1) (txB (gA B B.length h) (lA B B.length h).1.length (ba (q2d ops).1))),0))=_
  rw [hBl]
 rw [ec]
 by_cases c1:(q3b fs ops).2=0
 case neg=>exact Or.inl ⟨_,by rw [if_pos c1],c1,Or.inl ⟨c1,rfl⟩⟩
 rw [if_neg (show ¬ (q3b fs ops).2≠0 from fun hn=>hn c1)]
 by_cases c2:(q2d ops).2=0
 case neg=>exact Or.inl ⟨_,by rw [if_pos c2],c2,Or.inr (Or.inl ⟨c1,c2,rfl⟩)⟩
 rw [if_neg (show ¬ (q2d ops).2≠0 from fun hn=>hn c2)]
 have haf:q3b fs ops=((q3b fs ops).1,0):=by rw [← c1]
 have hmaf:=qcf haf
 have hps:(ba (q2d ops).1).size≤4096:=by rw [q29];exact qgr ops
 have hpc:=RM.qab (ba (q2d ops).1)
 by_cases c3:fA n h+zA n h<(lA B n h).2+1+RM.q1d (ba (q2d ops).1)
 ·rw [if_pos c3]
  unfold j2b
  by_cases d1:(q2d (q47 [] (q3b fs ops).1)).2=0
  case neg=>exact Or.inl ⟨_,by rw [if_pos d1],d1,Or.inr (Or.inr ⟨c1,c2,Or.inl d1⟩)⟩
  rw [if_neg (show ¬ (q2d (q47 [] (q3b fs ops).1)).2≠0 from fun hn=>hn d1)]
  by_cases d2:1073741824≤gA B n h
  ·exact Or.inl ⟨15,by rw [if_pos d2],by decide,Or.inr (Or.inr ⟨c1,c2,Or.inr (Or.inl d2)⟩)⟩
  rw [if_neg d2]
  by_cases d3:fA n (1 - h)+zA n (1 - h)<fA n (1 - h)+1+1+RM.q1d (ba (q2d (q47 [] (q3b fs ops).1)).1)
  ·exact Or.inl ⟨3,by rw [if_pos d3],by decide,Or.inr (Or.inr ⟨c1,c2,Or.inr (Or.inr ⟨rfl,by omega⟩)⟩)⟩
  rw [if_neg d3]
  refine Or.inr ⟨_,(q3b fs ops).1,rfl,haf,c2,?_⟩
  have hqs:(ba (q2d (q47 [] (q3b fs ops).1)).1).size≤4096:=by rw [q29];exact qgr _
  have hrep:qjo [] [unB (ba (q2d (q47 [] (q3b fs ops).1)).1)]=some (q3b fs ops).1:=by
   rw [jdv]
   unfold qjo
   rw [j64 _ d1,j9u hmaf]
   simp only [and_self,if_true]
   rfl
  have hqc:=RM.qab (ba (q2d (q47 [] (q3b fs ops).1)).1)
  generalize ba (q2d (q47 [] (q3b fs ops).1)).1=q at *
  obtain ⟨ok1,ok2⟩:=jch (n:=n) (N:=B.length) (h:=h) (g:=gA B n h) (q:=q) (by omega) ⟨by omega,by omega⟩ hqs
  have hlen:=qt8 n h (gA B n h) q
  refine ⟨by omega,by omega,ok2,ok1,fun N keep=>?_,?_⟩
  ·obtain ⟨X,x1,x2,x3,x4⟩:=j7n hI hqs hrep (by omega) (by omega) N keep
   exact ⟨X,x1,fun hN=>x2 (by omega),x3.elim Or.inl (fun h=>Or.inr ⟨_,h.1⟩),fun hN=>⟨_,(x4 (by omega)).1.1⟩⟩
  ·obtain ⟨X,x1,x2,x3,x4⟩:=j7n hI hqs hrep (by omega) (by omega) (RM.q1d q+5) (fun _=>true)
   obtain ⟨k1,k2⟩:=x4 (Nat.le_refl _)
   rw [List.take_of_length_le (by omega)] at k2
   exact ⟨X,k2,Or.inr k1⟩
 ·rw [if_neg c3]
  refine Or.inr ⟨_,(q3b fs ops).1,rfl,haf,c2,?_⟩
  have htx:(txB (gA B n h) (lA B n h).1.length (ba (q2d ops).1)).size=32:=qg1 hgen (by omega) hps
  have hlen:=q8n (lA B n h).2 (ba (q2d ops).1) (txB (gA B n h) (lA B n h).1.length (ba (q2d ops).1))
  refine ⟨by omega,by omega,qqn htx,qo5 (by omega) htx,fun N keep=>?_,?_⟩
  ·obtain ⟨X,x1,x2,x3,x4⟩:=jdj hI haf c2 (by omega) N keep
   exact ⟨X,x1,fun hN=>x2 (by omega),x3.elim Or.inl (fun h=>Or.inr ⟨_,h.1⟩),fun hN=>⟨_,(x4 (by omega)).1.1⟩⟩
  ·obtain ⟨X,x1,x2,x3,x4⟩:=jdj hI haf c2 (by omega) (RM.q1d (ba (q2d ops).1)+3) (fun _=>true)
   obtain ⟨⟨k1,k2,k3⟩,k4⟩:=x4 (Nat.le_refl _)
   rw [List.take_of_length_le (by omega)] at k4
   refine ⟨X,k4,Or.inl ⟨k1,k2,by rw [k3];simp,by rw [k3];simp only;omega⟩⟩
theorem j8u {B:BL} {n h:Nat} {fs:List FD} (hI:VI B n h fs) {ops:List OD} (hf:jdr ops=true):q45 q3e (q6i ⟨B,[]⟩) ops=some (q9z ⟨B,[]⟩ ops):=by
 obtain ⟨h1,h2⟩:=j8x hf
 rw [qux q3e (by unfold q3e;omega) _ (jdo hI) ops (by omega) h2,q1z]
theorem jk7 {B:BL} {n h:Nat} {fs after:List FD} {L:List DM.Ac} (hI:VI B n h fs) (hA:Acts6 B n h fs after L) (x:Int):q5s (q6i ⟨B,[]⟩) (qbp L) x=some (q6i (DM.runK ⟨B,[]⟩ (L.take (min (max x 0) (L.length:Int)).toNat)),0)∧DM.q2e (DM.runK ⟨B,[]⟩ (L.take (min (max x 0) (L.length:Int)).toNat)):=by
 have hBl:=hI.len
 have hle:=hI.le
 have:=qxa (q6i ⟨B,[]⟩) (by rw [q1z];show B.length≤1000;omega) (by rw [q1z];exact Nat.zero_le _) L hA.len hA.size x
 rw [q1z] at this
 obtain ⟨r1,r2,r3⟩:=qyl (d:=⟨B,[]⟩) (l:=L.take (min (max x 0) (L.length:Int)).toNat) hI.may (fun a ha=>hA.ok a (List.mem_of_mem_take ha))
 rw [r1,r2] at this
 exact ⟨this,r3⟩
theorem ja3 {D:DM.Dk} (hm:DM.q2e D) (hs:smD (q6i D)) (keep:List Bool) (hk:keep.length≤1000):qa2 (q6i D) keep=some (q6i (DM.q1c (fun j=>keep.getD j false) D),0):=by
 unfold qa2
 rw [if_pos ⟨hs,by omega⟩,q1z]
 unfold DM.q2x DM.qjy
 rw [if_pos hm,if_pos hm]
theorem qfk (d:DM.Dk) (l:List DM.Ac) (hm:DM.q2e d) (hok : ∀ a∈l,DM.q3t d.secs.length a) (hl:l.length≤1000) (hc:d.cache.length=0):smD (q6i (DM.runK d l)):=by
 refine j4f ?_ ?_
 ·have:=(DM.qe6 hm hok).2.1;omega
 ·have key : ∀ (l:List DM.Ac) (d:DM.Dk),(DM.runK d l).cache.length≤d.cache.length+l.length:=by
   intro l
   induction l with
   | nil=>intro d;exact Nat.le_refl _
   | cons a l ih =>
    intro d
    have h1:=ih (DM.q6e d a)
    have h2:(DM.q6e d a).cache.length≤d.cache.length+1:=by
     unfold DM.q6e
     split
     ·show (DM.q1c _ d).cache.length≤_;exact Nat.zero_le _
     ·show (DM.j2w d a.2.1 a.2.2).cache.length≤_;unfold DM.j2w;simp
    show (DM.runK (DM.q6e d a) l).cache.length≤_
    simp only [List.length_cons];omega
  have:=key l d
  omega
theorem jha {B:BL} {n h:Nat} {fs after:List FD} {L:List DM.Ac} (hI:VI B n h fs) (hA:Acts6 B n h fs after L) (x:Int) (keep:List Bool) (hk:keep.length≤1000) :
  ∃ D X,q5s (q6i ⟨B,[]⟩) (qbp L) x=some (q6i D,0)∧qa2 (q6i D) keep=some (q6i ⟨X,[]⟩,0)∧(x<1→VI X n h fs)∧(VI X n h fs ∨ ∃ h',VI X n h' after)∧((L.length:Int)≤x→∃ h',VI X n h' after):=by
 obtain ⟨r1,r2⟩:=jk7 hI hA x
 obtain ⟨X,x1,x2,x3,x4⟩:=hA.cut (min (max x 0) (L.length:Int)).toNat (fun j=>keep.getD j false)
 refine ⟨_,X,r1,?_,fun hx=>x2 (by omega),x3,fun hx=>x4 (by omega)⟩
 rw [ja3 r2 (qfk _ _ hI.may (fun a ha=>hA.ok a (List.mem_of_mem_take ha)) (by rw [List.length_take];have:=hA.len;omega) rfl) keep hk,x1]
theorem j70 (n:Nat) (h1:8≤n) (h2:n≤512) : ∃ S,qfs q3e (n:Int)=some (q6i ⟨S,[]⟩,true)∧VI S n 0 []∧gA S n 0=1:=by
 have hm:=jd9 (n:=n) (by omega) (by omega)
 obtain ⟨e1,hmS⟩:=j36 (q6i ⟨List.replicate n DM.q2j,[]⟩) (by rw [q1z];exact hm) (by rw [q1z];simp;omega) (by rw [q1z];simp) 0 1 (by decide) (by rw [q1z];simp;omega)
 rw [q1z,qft] at e1 hmS
 have e1':q5s (q6i ⟨List.replicate n DM.q2j,[]⟩) (qqj 0 1) (((qqj 0 1).length:Nat):Int)=some (q6i ⟨(List.replicate n DM.q2j).set 0 (RM.q1a 1 1 0 0 1),[]⟩,0):=e1
 obtain ⟨v1,v2⟩:=jf3 h1 h2 hmS
 refine ⟨_,?_,v1,v2⟩
 unfold qfs j14
 rw [jaz (by omega) (by omega),Option.bind_some,qvz q3e _ (by omega) (by omega),if_pos ⟨by omega,by omega⟩,Option.bind_some]
 simp only
 rw [e1',Option.bind_some]
 have:decide (DM.qbn (n:Int))=true:=decide_eq_true (show DM.qbn (n:Int) from ⟨by omega,by omega⟩)
 rw [this]
 rfl
end YthpgnliicpejoaaGreatDoor.AM
end Go.Proofs
namespace Go.Proofs
open Go.RowKit
set_option linter.unusedVariables false
set_option linter.unusedSimpArgs false
namespace YthpgnliicpejoaaGreatDoor.AM
theorem jj6 (a b:List FD) (ha:q7l a=true):q8o q3e a b=some (decide (a=b)):=by
 have:=qe9 ha
 exact qti q3e a b (by omega) (by unfold q3e;omega)
theorem jla {a:List FD} (ha:q7l a=true) {ops:List OD} (ho:jdr ops=true):q8k q3e a ops=some (q3b a ops):=by
 obtain ⟨h1,h2⟩:=j8x ho
 have h3:=qe9 ha
 refine qsw q3e a ops (by omega) (by omega) (fun f hf=>?_) (fun o h=>(h2 o h).1) (by unfold q3e;omega) (by unfold q3e;omega)
 have:=qxd (qbq (((qak a).1 ha).2.1 f hf)).1
 omega
theorem j9p (L:List DM.Ac):((List.length (qbp L):Nat):Int)=(L.length:Int):=by rw [q5g]
theorem qkd (l:List qrn) (hl:fewL l) (n:Nat) : ∀ (m i:Nat) (B:BL) (h:Nat) (fs:List FD),l.length - i<m→i≤l.length→VI B n h fs →
  q36 q3e m l fs (i:Int) (q6i ⟨B,[]⟩).1 (q6i ⟨B,[]⟩).2=some (Sum.inr ((),((),())))
 | 0,i,B,h,fs,hm,_,_=>by omega
 | m+1,i,B,h,fs,hm,hi,hI=>by
  rw [qc9]
  unfold qdl
  by_cases c:i<l.length
  case neg=>rw [decide_eq_false (by omega),cond_false]
  have hll:=hl.2
  have w1:IntKind.wrap .i64 ((i:Int)+1)=((i+1:Nat):Int):=q1e (by omega)
  obtain ⟨s,hs⟩ : ∃ s,l[i]=s:=⟨_,rfl⟩
  have hok:qk6 s:=by rw [← hs];exact hl.1 _ (List.getElem_mem c)
  have hix:q21 l (i:Int)=some s:=by rw [q37 c,hs]
  have hcm:=j8u hI hok.1
  have hap:=jla hI.mayF hok.1
  have ih:=qkd l hl n m (i+1)
  rw [decide_eq_true (by omega),cond_true]
  simp only [hix,Option.bind_some]
  show Option.bind (q45 q3e (q6i ⟨B,[]⟩) s.1) _=_
  rw [hcm,Option.bind_some]
  rcases qqm hI s.1 with ⟨e,h1,h2,_⟩|⟨L,after,h1,h2,h3,hA⟩
  ·rw [h1]
   simp only [h2,decide_false,Bool.not_false,cond_true,List.length_nil,Int.natCast_zero,decide_true,Bool.not_true,cond_false,w1,q0t]
   exact ih B h fs (by omega) (by omega) hI
  ·obtain ⟨D,X,k1,k2,k3,k4,k5⟩:=jha hI hA s.2.1 s.2.2 hok.2
   have k1':q5s ((q6i ⟨B,[]⟩).1,(q6i ⟨B,[]⟩).2) (qbp L) s.2.1=some (q6i D,0):=k1
   have hma:q7l after=true:=qcf h2
   rw [h1]
   simp only [decide_true,Bool.not_true,cond_false,hap,h2,Option.bind_some,k1',k2]
   have hne:=hA.ne
   have key : ∃ h' k,VI X n h' k∧(k=fs∨k=after)∧((L.length:Int)≤s.2.1→k=after)∧(s.2.1<1→k=fs):=by
    by_cases q1:(L.length:Int)≤s.2.1
    ·obtain ⟨h',hX⟩:=k5 q1
     exact ⟨h',after,hX,Or.inr rfl,fun _=>rfl,fun hx=>by omega⟩
    ·by_cases q2:s.2.1<1
     ·exact ⟨h,fs,k3 q2,Or.inl rfl,fun hx=>absurd hx q1,fun _=>rfl⟩
     ·rcases k4 with hX|⟨h',hX⟩
      ·exact ⟨h,fs,hX,Or.inl rfl,fun hx=>absurd hx q1,fun hx=>absurd hx q2⟩
      ·exact ⟨h',after,hX,Or.inr rfl,fun hx=>absurd hx q1,fun hx=>absurd hx q2⟩
   obtain ⟨h',k,hX,hk1,hk2,hk3⟩:=key
   have hmt:=jd5 hX
   have e16:=jj6 k fs hX.mayF
   have e17:=jj6 k after hX.mayF
   have ih':=ih X h' k (by omega) (by omega) hX
   rw [hmt,Option.bind_some]
   simp only [decide_true,Bool.not_true,cond_false,e16,e17,Option.bind_some,w1,q0t,j9p]
   have g:(bif !decide (k=fs) then (bif !decide (k=after) then some (Sum.inl ((false,()),((),()))) else q36 q3e m l k ((i+1:Nat):Int) (q6i ⟨X,[]⟩).1 (q6i ⟨X,[]⟩).2) else q36 q3e m l k ((i+1:Nat):Int) (q6i ⟨X,[]⟩).1 (q6i ⟨X,[]⟩).2)=some (Sum.inr ((),((),()))):=by
    by_cases q1:k=fs
    ·rw [decide_eq_true q1,Bool.not_true,cond_false];exact ih'
    ·rw [decide_eq_false q1,Bool.not_false,cond_true,decide_eq_true (hk1.resolve_left q1),Bool.not_true,cond_false];exact ih'
   by_cases q1:(L.length:Int)≤s.2.1
   ·have q2 : ¬ s.2.1<1:=by have:=hA.ne;omega
    rw [decide_eq_true q1,cond_true,decide_eq_true (hk2 q1),Bool.not_true,cond_false,decide_eq_false q2,cond_false]
    rw [decide_eq_true (hk2 q1),Bool.not_true] at g
    exact g
   ·rw [decide_eq_false q1,cond_false]
    by_cases q2:s.2.1<1
    ·rw [decide_eq_true q2,cond_true,decide_eq_true (hk3 q2),Bool.not_true,cond_false]
     rw [decide_eq_true (hk3 q2),Bool.not_true,cond_false] at g
     exact g
    ·rw [decide_eq_false q2,cond_false];exact g
theorem qpl (n:Int) (l:List qrn) (hn:(Lit.int .i64 n).wf=true) (hops : ∀ s∈l,s.1.length≤9223372036854775807) (hl:l.length≤9223372036854775807):qbu q3e n l=some true:=by
 obtain ⟨r,h1,h2⟩:=jbj l hops hl
 unfold qbu
 show Option.bind (qo4 q3e l 20) _=_
 rw [h1,Option.bind_some,que]
 simp only [Option.bind_some]
 rcases h2 with rfl|⟨rfl,hf⟩
 ·rfl
 rw [show decide ((1:Int)=0)=false from rfl,cond_false]
 by_cases c1:n<8
 ·rw [decide_eq_true c1,cond_true]
 rw [decide_eq_false c1,cond_false]
 by_cases c2:512<n
 ·rw [decide_eq_true c2,cond_true]
 rw [decide_eq_false c2,cond_false]
 obtain ⟨k,rfl⟩ : ∃ k:Nat,n=(k:Int):=⟨n.toNat,by omega⟩
 obtain ⟨S,e1,hI,_⟩:=j70 k (by omega) (by omega)
 rw [e1,Option.bind_some]
 have:=qkd l hf k q3e 0 S 0 [] (by have:=hf.2;unfold q3e;omega) (Nat.zero_le _) hI
 rw [Int.natCast_zero] at this
 simp only [Bool.not_true,cond_false]
 rw [this]
 rfl
end YthpgnliicpejoaaGreatDoor.AM
end Go.Proofs
namespace Go.Proofs
open Go.RowKit
set_option linter.unusedVariables false
set_option linter.unusedSimpArgs false
namespace YthpgnliicpejoaaGreatDoor.AM
theorem j8e:maxLen≤9223372036854775807:=by unfold maxLen;omega
abbrev StL:Ty:=.lst (.prod (.lst (.prod .bool (.prod .str .str))) (.prod (.int .i64) (.lst .bool)))
theorem step_ok {l:List qrn} (h:qre StL l):(∀ s∈l,s.1.length≤9223372036854775807)∧l.length≤9223372036854775807:=by
 have hM:=j8e
 refine ⟨fun s hs=>?_,Nat.le_trans h.1 hM⟩
 exact Nat.le_trans (h.2 s hs).1.1 hM
theorem qqi (n:Int) (l:List qrn) (hn:(Lit.int .i64 n).wf=true) (hl:qre StL l):qbu q3e n l=some true:=qpl n l hn (step_ok hl).1 (step_ok hl).2
end YthpgnliicpejoaaGreatDoor.AM
end Go.Proofs
namespace Go.Proofs
open Go.RowKit Go.Shelf Go.Lib
set_option linter.unusedVariables false
set_option linter.unusedSimpArgs false
namespace YthpgnliicpejoaaGreatDoor.AM
theorem hEt:Tryz.prog.globalNamed "errors.errorType" = some 0:=by kernel_rfl
theorem hRt:(Tryz.prog.cutTypes.find? (·.1 == "internal/reflectlite.rtype")).map (·.2)=some 197:=by kernel_rfl
theorem hOne:((List.range 277).filter fun t=>Tryz.prog.rowNamed t [101,114,114,111,114]) = [81]:=by kernel_rfl
theorem hSize:Tryz.prog.types.size=277:=by kernel_rfl
theorem jk1 {w:World} (hsh:w.ShapedOpen Tryz.prog) (h:laidMetH Tryz.prog [("unicode/utf8.acceptRanges",Rows.laid_unicode_utf8_acceptRanges),("errors.errorType",Rows.laid_errors_errorType),("unicode/utf8.first",Rows.laid_unicode_utf8_first)] w):Inv w:=by
 have h':laidMet Tryz.prog [("unicode/utf8.acceptRanges",Rows.laid_unicode_utf8_acceptRanges),("unicode/utf8.first",Rows.laid_unicode_utf8_first)] w∧handlesMet Tryz.prog [("errors.errorType",Rows.laid_errors_errorType)] w:=h
 obtain ⟨name,u,ty,e1,e2,e3,e4,e5⟩:=h'.2 _ (List.mem_singleton.2 rfl)
 have en:name = [101,114,114,111,114]:=(Option.some.inj e1).symm
 subst en
 obtain rfl:=Option.some.inj (hRt.symm.trans e2)
 have hm:ty∈(List.range 277).filter fun t=>Tryz.prog.rowNamed t [101,114,114,111,114]:=List.mem_filter.2 ⟨List.mem_range.2 (by rw [← hSize];exact e3),e4⟩
 rw [hOne] at hm
 obtain rfl:=List.mem_singleton.1 hm
 have hh:typeHandle Tryz.prog 81 = .pointer (some ⟨4,81,none⟩):=by kernel_rfl
 rw [hh] at e5
 exact ⟨by simpa using World.var?_cell hEt e5 0,Tryz.laysIndex.s1_3 w hsh⟩
noncomputable def wH (os:Os):World :=
 let w0:=World.holding Tryz.prog os ⟨#[],#[],[]⟩
 {w0 with heap:=w0.heap.modify 0 fun
   | .cells _ t frozen=>.cells #[.iface 197 (.agg #[.pointer (some ⟨4,81,none⟩)])] t frozen
   | o=>o }
noncomputable def laidW (os:Os) (laid:List (String×DataW Unit)):World:=(wH os).layVars Tryz.prog laid
theorem qob {os:Os} {laid:List (String×DataW Unit)} (args:Array Value) (hf:(wH os).layFits Tryz.prog laid []=true) (hi:(wH os).layIfaces Tryz.prog laid (laidW os laid)=true) :
  laidMet Tryz.prog laid ((laidW os laid).forCall (fun _ _=>0) ⟨#[],args,[]⟩).memory:=by
 have e1:(laid.filter fun x=>(laid.map (·.1)).contains x.1)=laid:=List.filter_eq_self.2 fun x hx=>List.contains_iff_mem.2 (List.mem_map.2 ⟨x,hx,rfl⟩)
 have e2:(laid.filter fun x=>!(laid.map (·.1)).contains x.1) = []:=List.filter_eq_nil_iff.2 fun x hx=>by rw [List.contains_iff_mem.2 (List.mem_map.2 ⟨x,hx,rfl⟩)];simp
 have h:laidMet Tryz.prog laid (laidW os laid):=laidMet_layVars (w0:=wH os) (laid.map (·.1)) [] (by rw [e1];rfl) (by rw [e1];exact hf) (by rw [e1];exact hi) (by rw [e2];exact LaidIn.none)
 exact h.of_heap (by simp [World.memory,World.forCall,Input.heap])
end YthpgnliicpejoaaGreatDoor.AM
end Go.Proofs
