
import Derived.Test.YthpgnliicpejoaaGreatDoorVz28
import Derived.Test.YthpgnliicpejoaaGreatDoorVz34
import Derived.Test.YthpgnliicpejoaaGreatDoorVz15
import Derived.Test.YthpgnliicpejoaaGreatDoorRows
import Derived.LaidLaws
import Derived.LaidHandle
import Derived.Stop.LaidErr
import Derived.Lib.LaidTab
import Derived.Lay
namespace Go.Proofs
open Go.RowKit
set_option linter.unusedVariables false
set_option linter.unusedSimpArgs false
namespace YthpgnliicpejoaaGreatDoor.AM
theorem quo2 (m:Nat) (hm:m≤100000):jc0 .i64 (m:Int) 2=some ((m / 2:Nat):Int):=by
 unfold jc0
 rw [if_pos (by decide)]
 have:(m:Int).tdiv 2=((m / 2:Nat):Int):=by
  rw [Int.tdiv_eq_ediv_of_nonneg (by omega)];omega
 rw [this,wrap64 (by omega) (by omega)]
theorem j2u {a b:Nat} (h:b≤a) (ha:a≤1000000):IntKind.wrap .i64 ((a:Int) - (b:Int))=((a - b:Nat):Int):=by
 rw [wrap64 (by omega) (by omega)];omega
theorem qi1 (N n:Nat) (hn:n≤100000):q9q N (n:Int)=some ((0:Int),(((n / 2:Nat):Int),(((n / 2:Nat):Int),((n - n / 2:Nat):Int)))):=by
 unfold q9q
 simp only [quo2 n hn,Option.bind_some]
 rw [j2u (by omega) (by omega),q0o]
theorem qsm (N:Nat) (n:Int) (h1 : -9223372036854775808≤n) (h2:n≤9223372036854775807):q9i N n=some (if 8≤n∧n≤512 then (qnx 0 1,0) else ([],1)):=by
 unfold q9i
 by_cases c1:n<8
 ·rw [decide_eq_true c1,cond_true,if_neg (by omega)]
 ·rw [decide_eq_false c1,cond_false]
  by_cases c2:512<n
  ·rw [decide_eq_true c2,cond_true,if_neg (by omega)]
  ·rw [decide_eq_false c2,cond_false,if_pos ⟨by omega,by omega⟩]
   obtain ⟨m,rfl⟩ : ∃ m:Nat,n=(m:Int):=⟨n.toNat,by omega⟩
   rw [qi1 N m (by omega),Option.bind_some]
   show Option.bind (q82 N ((0:Int),((m / 2:Nat):Int)) 1) _=_
   rw [qb5 N 0 _ 1 (by omega) (by omega),if_pos ⟨⟨by omega,by omega,by omega⟩,by decide⟩,Option.bind_some]
   rfl
def j69 (B:BL) (n:Nat):Option Nat:=if q8p B (fA n 0) then (if q8p B (fA n 1)∧gA B n 0<gA B n 1 then some 1 else some 0) else if q8p B (fA n 1) then some 1 else none
def cntT (B:BL) (n:Nat):Int×((Int×(List (List UInt8)×Int))×Bool):=match j69 B n with
 | some h=>((h:Int),(jf0 B (fA n h) (zA n h),true))
 | none=>(0,((0,([],0)),false))
theorem qqm (N:Nat) (hN:600≤N) (d:DkT) (hd:smD d) (n:Nat) (hn:(q29 d).secs.length=n) (h8:8≤n) (hm:DM.q2b (q29 d)) :
  qax N ((0:Int),(((n / 2:Nat):Int),(((n / 2:Nat):Int),((n - n / 2:Nat):Int)))) d=some (cntT (flat (q29 d)) n):=by
 have h512:n≤512:=by have:=hm.2.1;omega
 have o0:=qq2 N hN d hd 0 (n / 2) (qtl (by omega) (by omega) (by omega) hm)
 have o1:=qq2 N hN d hd (n / 2) (n - n / 2) (qtl (by omega) (by omega) (by omega) hm)
 have e0:fA n 0=0∧zA n 0=n / 2∧fA n 1=n / 2∧zA n 1=n - n / 2:=⟨rfl,rfl,rfl,rfl⟩
 obtain ⟨k1,k2,k3,k4⟩:=e0
 rw [Int.natCast_zero] at o0
 obtain ⟨M,rfl⟩ : ∃ M,N=M+3:=⟨N - 3,by omega⟩
 obtain ⟨d1,d2⟩:=d
 generalize flat (q29 (d1,d2))=B at o0 o1
 have w1:IntKind.wrap .i64 ((0:Int)+1)=1:=by decide
 have w2:IntKind.wrap .i64 ((1:Int)+1)=2:=by decide
 have t0:decide ((0:Int)<2)=true:=by decide
 have t1:decide ((1:Int)<2)=true:=by decide
 have t2:decide ((2:Int)<2)=false:=by decide
 have t3 : ¬ (1:Int)=0:=by decide
 have t5:decide ((5:Int)=0)=false:=by decide
 unfold qax cntT j69 gA
 rw [q14]
 unfold q2l
 rw [t0,cond_true,if_pos rfl,o0,Option.bind_some]
 rw [k1,k3]
 by_cases b0:q8p B 0
 ·rw [if_pos b0,if_pos b0]
  simp only [decide_true,cond_true,Bool.not_false,w1,q0o]
  rw [q14]
  unfold q2l
  rw [t1,cond_true,if_neg t3,if_pos rfl,o1,Option.bind_some]
  by_cases b1:q8p B (n / 2)
  ·rw [if_pos b1]
   simp only [decide_true,cond_true,Bool.not_true,cond_false,w2,q0o,b1,true_and]
   by_cases c:q3e B 0<q3e B (n / 2)
   ·have c':(jf0 B 0 (n / 2)).1<(jf0 B (n / 2) (n - n / 2)).1:=c
    rw [decide_eq_true c',cond_true,if_pos c,q14]
    unfold q2l
    rw [t2,cond_false,Option.bind_some]
    rfl
   ·have c' : ¬ (jf0 B 0 (n / 2)).1<(jf0 B (n / 2) (n - n / 2)).1:=c
    rw [decide_eq_false c',cond_false,if_neg c,q14]
    unfold q2l
    rw [t2,cond_false,Option.bind_some]
    rfl
  ·rw [if_neg b1]
   simp only [t5,cond_false,w2,q0o,b1,false_and,if_false]
   rw [q14]
   unfold q2l
   rw [t2,cond_false,Option.bind_some]
   rfl
 ·rw [if_neg b0,if_neg b0]
  simp only [t5,cond_false,w1,q0o]
  rw [q14]
  unfold q2l
  rw [t1,cond_true,if_neg t3,if_pos rfl,o1,Option.bind_some]
  by_cases b1:q8p B (n / 2)
  ·rw [if_pos b1]
   simp only [decide_true,cond_true,Bool.not_false,w2,q0o,b1,if_true]
   rw [q14]
   unfold q2l
   rw [t2,cond_false,Option.bind_some]
   rfl
  ·rw [if_neg b1,if_neg b1]
   simp only [t5,cond_false,w2,q0o]
   rw [q14]
   unfold q2l
   rw [t2,cond_false,Option.bind_some]
theorem j9g (s:List UInt8):(qai s).1.length≤s.length:=by
 unfold qai
 cases hp:q3c (s.length+1) s with
 | none=>simp
 | some out =>
  have:=(qps _ _ _ hp).1
  simp only
  split
  ·simp only;omega
  ·simp
def qmf (e:Int):IV:=jak 114 (.agg ⟨[.int .i64 e]⟩)
theorem qkn (e:Int):q58 (Subtype.val (qmf e))=some false∧q5w (qmf e)=some e:=⟨rfl,rfl⟩
theorem qs4 (N:Nat) (l:List FD) (x:List UInt8) (hl:l.length≤1000) (hx:x.length≤5000) :
  ∃ iv,qav N l x=some (if (qai x).2=0∧(q3b l (qai x).1).2=0 then ((q3b l (qai x).1).1,qxx) else ([],iv))∧(∃ e,iv=qmf e):=by
 have hdl:(qai x).1.length≤1000000:=by
  have:=j9g x
  omega
 unfold qav qpk q6g
 rw [if_pos (show x.length≤1000000 by omega),Option.bind_some]
 by_cases c1:(qai x).2=0
 ·rw [decide_eq_true c1,Bool.not_true,cond_false,if_pos ⟨by omega,hdl⟩,Option.bind_some]
  by_cases c2:(q3b l (qai x).1).2=0
  ·rw [decide_eq_true c2,Bool.not_true,cond_false]
   exact ⟨qmf 0,by rw [if_pos ⟨c1,c2⟩],0,rfl⟩
  ·rw [decide_eq_false c2,Bool.not_false,cond_true]
   exact ⟨qmf (q3b l (qai x).1).2,by rw [if_neg (fun h=>c2 h.2)];rfl,_,rfl⟩
 ·rw [decide_eq_false c1,Bool.not_false,cond_true]
  exact ⟨qmf (qai x).2,by rw [if_neg (fun h=>c1 h.1)];rfl,_,rfl⟩
theorem qp5 (N:Nat) (its:List (List UInt8)) (hits : ∀ x∈its,x.length≤5000) (hlen:its.length≤1000) (b0 b1 b2 b3 b4 b5 b6:Int) (f0 z0 f1 z1 h g nx:Int) : ∀ (m i:Nat) (l:List FD),its.length - i<m→i≤its.length→q8l l=true →
  ∃ o,q4z N m its (its.length:Int) (i:Int) b0 b1 b2 b3 b4 b5 b6 f0 z0 f1 z1 h g its nx l=some o ∧
   match qhe l (its.drop i) with
   | some k=>∃ u v w,o=Sum.inr (u,((v,((f0,(z0,(f1,(z1,(h,(g,(its,(nx,k)))))))),())),w))
   | none=>∃ iv st,o=Sum.inl (((),(iv,())),st)∧q58 (Subtype.val iv)=some false∧q5w iv=some 4
 | 0,i,l,hm,_,_=>by omega
 | m+1,i,l,hm,hi,hl=>by
  rw [qdj]
  unfold qmn
  by_cases c:i<its.length
  ·have hd:its.drop i=its[i]::its.drop (i+1):=List.drop_eq_getElem_cons c
   have hll:=qgp hl
   obtain ⟨iv,hr,e,rfl⟩:=qs4 N l its[i] (by omega) (hits _ (List.getElem_mem c))
   rw [decide_eq_true (by omega),cond_true,q49 c,Option.bind_some,hr,Option.bind_some,hd]
   unfold qhe
   by_cases c2:(qai its[i]).2=0∧(q3b l (qai its[i]).1).2=0
   ·have w1:IntKind.wrap .i64 ((i:Int)+1)=((i+1:Nat):Int):=q24 (by omega)
    rw [if_pos c2,if_pos c2]
    show ∃ o,(Option.bind (some true) _=some o)∧_
    rw [Option.bind_some]
    simp only [Bool.not_true,cond_false,w1,q0o]
    exact qp5 N its hits hlen b0 b1 b2 b3 b4 b5 b6 f0 z0 f1 z1 h g nx m (i+1) _ (by omega) (by omega) (qdu (ops:=(qai its[i]).1) (l:=l) (by rw [← c2.2]))
   ·rw [if_neg c2,if_neg c2]
    refine ⟨_,rfl,_,_,rfl,rfl,rfl⟩
  ·rw [decide_eq_false (by omega),cond_false]
   have hd:its.drop i = []:=List.drop_eq_nil_of_le (by omega)
   rw [hd]
   exact ⟨_,rfl,_,_,_,rfl⟩
def qzk (D:DM.Dk):Int⊕(Nat×List FD) :=
 if DM.q2b D∧8≤D.secs.length then (match j69 (flat D) D.secs.length with
  | none=>.inl 5
  | some h=>match qhe [] ((lA (flat D) D.secs.length h).1.map unB) with
   | none=>.inl 4
   | some fs=>.inr (h,fs)) else .inl 1
theorem j1e {B:BL} {n h:Nat} (hc:j69 B n=some h):h≤1:=by
 unfold j69 at hc
 split at hc
 ·split at hc<;>(have:=Option.some.inj hc;omega)
 ·split at hc
  ·have:=Option.some.inj hc;omega
  ·cases hc
abbrev StT:=Int×(Int×(Int×(Int×(Int×(Int×(List (List UInt8)×(Int×List FD)))))))
theorem j9o (B:BL) (n h:Nat) : ∀ x∈(lA B n h).1.map unB,x.length≤5000:=fun x hx=>by
 obtain ⟨y,hy,rfl⟩:=List.mem_map.1 hx
 have:=qer (B:=B) (e:=fA n h+zA n h) (g:=q3e B (fA n h)) (zA n h - 1) (fA n h+1) [] (fun x hx=>by cases hx) y hy
 rw [q8d];omega
theorem qbz (N:Nat) (hN:1200≤N) (d:DkT) (hd:smD d) : ∃ (st:StT) (iv:IV),qce N d=some (st,iv)∧match qzk (q29 d) with
  | .inl e=>q58 (Subtype.val iv)=some false∧q5w iv=some e
  | .inr (h,fs)=>iv=qxx∧st=(0,(((d.1.length / 2:Nat):Int),(((d.1.length / 2:Nat):Int),(((d.1.length - d.1.length / 2:Nat):Int),((h:Int),(gA (flat (q29 d)) d.1.length h,((lA (flat (q29 d)) d.1.length h).1.map unB,(((lA (flat (q29 d)) d.1.length h).2:Int),fs)))))))):=by
 have hdl:=(qd5 d).1
 unfold qce jbn qzk
 rw [Option.bind_some]
 by_cases hm:DM.q2b (q29 d)
 case neg =>
  rw [decide_eq_false hm,Bool.not_false,cond_true,if_neg (fun h=>hm h.1)]
  exact ⟨_,qmf 1,rfl,qkn 1⟩
 rw [decide_eq_true hm,Bool.not_true,cond_false]
 have h512:d.1.length≤512:=by have:=hm.2.1;omega
 by_cases h8:8≤d.1.length
 case neg =>
  rw [decide_eq_true (by omega),cond_true,if_neg (fun h=>h8 (by omega))]
  exact ⟨_,qmf 1,rfl,qkn 1⟩
 rw [decide_eq_false (by omega),cond_false,if_pos ⟨hm,by omega⟩,qi1 N _ (by omega),Option.bind_some,qqm N (by omega) d hd d.1.length hdl h8 hm,Option.bind_some,hdl]
 generalize flat (q29 d)=B
 generalize d.1.length=n at *
 unfold cntT
 cases hc:j69 B n with
 | none=>exact ⟨_,qmf 5,rfl,qkn 5⟩
 | some h =>
  have hh:=j1e hc
  obtain ⟨z1,z2,_⟩:=q3o h8 hh
  have hin:=(qr5 (B:=B) (f:=fA n h) (z:=zA n h) (by omega) (by omega)).2.2
  have hll:((lA B n h).1.map unB).length≤1000:=by rw [List.length_map];unfold lA;omega
  obtain ⟨o,ho,hcase⟩:=qp5 N ((lA B n h).1.map unB) (j9o B n h) hll 0 0 0 0 0 0 0 0 ((n / 2:Nat):Int) ((n / 2:Nat):Int) ((n - n / 2:Nat):Int) (h:Int) (gA B n h) ((lA B n h).2:Int) N 0 [] (by omega) (Nat.zero_le _) qc0
  rw [Int.natCast_zero] at ho
  rw [List.drop_zero] at hcase
  show ∃ st iv,(bif !true then _ else Option.bind (q4z N N ((lA B n h).1.map unB) (((lA B n h).1.map unB).length:Int) 0 0 0 0 0 0 0 0 0 ((n / 2:Nat):Int) ((n / 2:Nat):Int) ((n - n / 2:Nat):Int) (h:Int) (gA B n h) ((lA B n h).1.map unB) ((lA B n h).2:Int) []) _)=some (st,iv)∧_
  rw [Bool.not_true,cond_false,ho,Option.bind_some]
  cases hr:qhe [] ((lA B n h).1.map unB) with
  | none =>
   rw [hr] at hcase
   obtain ⟨iv,st,rfl,h1,h2⟩:=hcase
   refine ⟨_,iv,rfl,?_⟩
   simp only [hr]
   exact ⟨h1,h2⟩
  | some k =>
   rw [hr] at hcase
   obtain ⟨u,v,w,rfl⟩:=hcase
   refine ⟨_,qxx,rfl,?_⟩
   simp only [hr]
   exact ⟨trivial,trivial⟩
def j57 (D:DM.Dk):(Int×(Int×(Int×(Int×List FD))))×Int:=match qzk D with
 | .inl e=>((0,(0,(0,(0,[])))),e)
 | .inr (h,fs)=>(((h:Int),(gA (flat D) D.secs.length h,((((lA (flat D) D.secs.length h).1.length:Nat):Int),(((lA (flat D) D.secs.length h).2:Int),fs)))),0)
theorem qz8 (N:Nat) (hN:1200≤N) (d:DkT) (hd:smD d):q39 N d=some (j57 (q29 d)):=by
 obtain ⟨st,iv,h1,h2⟩:=qbz N hN d hd
 have hdl:=(qd5 d).1
 unfold q39 j57
 rw [h1,Option.bind_some]
 cases hc:qzk (q29 d) with
 | inl e =>
  rw [hc] at h2
  simp only [h2.1,Option.bind_some,Bool.not_false,cond_true,h2.2]
 | inr p =>
  obtain ⟨h,fs⟩:=p
  rw [hc] at h2
  obtain ⟨rfl,rfl⟩:=h2
  show Option.bind (some true) _=_
  rw [Option.bind_some]
  simp only [Bool.not_true,cond_false,List.length_map,hdl]
def jdp (D:DM.Dk):Int:=match qzk D with
 | .inl _=>0
 | .inr (h,_)=>((fA D.secs.length h+zA D.secs.length h - (lA (flat D) D.secs.length h).2:Nat):Int)
theorem j2j {D:DM.Dk} {h:Nat} {fs:List FD} (hc:qzk D = .inr (h,fs)):DM.q2b D∧8≤D.secs.length∧D.secs.length≤512∧h≤1∧j69 (flat D) D.secs.length=some h∧qhe [] ((lA (flat D) D.secs.length h).1.map unB)=some fs:=by
 unfold qzk at hc
 split at hc
 case isFalse=>cases hc
 rename_i h1
 split at hc
 ·cases hc
 ·rename_i k hk
  split at hc
  ·cases hc
  ·rename_i g hg
   simp only [Sum.inr.injEq,Prod.mk.injEq] at hc
   obtain ⟨rfl,rfl⟩:=hc
   exact ⟨h1.1,h1.2,h1.1.2.1,j1e hk,hk,hg⟩
theorem j4b {D:DM.Dk} {h:Nat} {fs:List FD} (hc:qzk D = .inr (h,fs)):fA D.secs.length h+1≤(lA (flat D) D.secs.length h).2∧(lA (flat D) D.secs.length h).2≤fA D.secs.length h+zA D.secs.length h∧(lA (flat D) D.secs.length h).1.length≤512∧fA D.secs.length h+zA D.secs.length h≤512∧4≤zA D.secs.length h:=by
 obtain ⟨h1,h2,h3,h4,_⟩:=j2j hc
 obtain ⟨z1,z2,_⟩:=q3o h2 h4
 obtain ⟨a,b,c⟩:=qr5 (B:=flat D) (f:=fA D.secs.length h) (z:=zA D.secs.length h) (by omega) (by omega)
 exact ⟨a,b,c,by omega,z1⟩
theorem free_spec (N:Nat) (hN:1200≤N) (d:DkT) (hd:smD d):q6b N d=some (jdp (q29 d)):=by
 obtain ⟨st,iv,h1,h2⟩:=qbz N hN d hd
 have hdl:=(qd5 d).1
 unfold q6b jdp
 rw [h1,Option.bind_some]
 cases hc:qzk (q29 d) with
 | inl e =>
  rw [hc] at h2
  simp only [h2.1,Option.bind_some,Bool.not_false,cond_true]
 | inr p =>
  obtain ⟨h,fs⟩:=p
  obtain ⟨a1,a2,a3,a4,a5⟩:=j4b hc
  obtain ⟨_,h8,h512,hh,_⟩:=j2j hc
  rw [hc] at h2
  obtain ⟨rfl,rfl⟩:=h2
  show Option.bind (some true) _=_
  rw [Option.bind_some]
  rw [hdl] at a1 a2 a3 a4 a5 h8 h512
  simp only [Bool.not_true,cond_false,hdl]
  generalize d.1.length=n at *
  generalize lA (flat (q29 d)) n h=L at *
  match h,hh with
  | 0,_ =>
   have e1:fA n 0=0:=rfl
   have e2:zA n 0=n / 2:=rfl
   rw [e1] at a1
   rw [e1,e2] at a2 a4
   rw [if_pos (show ((0:Nat):Int)=0 from rfl),e1,e2]
   have w1:IntKind.wrap .i64 ((0:Int)+((n / 2:Nat):Int))=((n / 2:Nat):Int):=by rw [wrap64 (by omega) (by omega)];omega
   have w2:IntKind.wrap .i64 (((n / 2:Nat):Int) - (L.2:Int))=((n / 2 - L.2:Nat):Int):=by rw [wrap64 (by omega) (by omega)];omega
   rw [w1,q0o,w2,q0o,Nat.zero_add]
  | 1,_ =>
   have e1:fA n 1=n / 2:=rfl
   have e2:zA n 1=n - n / 2:=rfl
   rw [e1] at a1
   rw [e1,e2] at a2 a4
   rw [if_neg (show ¬ ((1:Nat):Int)=0 by decide),if_pos (show ((1:Nat):Int)=1 from rfl),e1,e2]
   have w1:IntKind.wrap .i64 (((n / 2:Nat):Int)+((n - n / 2:Nat):Int))=((n / 2+(n - n / 2):Nat):Int):=by rw [wrap64 (by omega) (by omega)];omega
   have w2:IntKind.wrap .i64 (((n / 2+(n - n / 2):Nat):Int) - (L.2:Int))=((n / 2+(n - n / 2) - L.2:Nat):Int):=by rw [wrap64 (by omega) (by omega)];omega
   rw [w1,q0o,w2,q0o]
end YthpgnliicpejoaaGreatDoor.AM
end Go.Proofs
namespace Go.Proofs
open Go.RowKit
set_option linter.unusedVariables false
set_option linter.unusedSimpArgs false
namespace YthpgnliicpejoaaGreatDoor.AM
theorem j3h:qgk=q60:=rfl
theorem qpb (n:Nat) (hn:600≤n) (f z nx:Nat) (g:Int) (its:List (List UInt8)) (p:List UInt8) (h1:f+z≤512) (h2:2≤z) (h3:f<nx) (h4:nx≤f+z) (hg:0≤g∧g≤1073741824) (hq:its.length≤65535) :
  qeh n ((f:Int),(z:Int)) (g,(its,(nx:Int))) p=some (if 4096<p.length then (((),2),((),([],()))) else if f+z<nx+1+RM.q1b (ba p) then (((),3),((),([],()))) else (((),0),((),(q93 (q92 nx (ba p) (txB g its.length (ba p))),())))):=by
 have hM:=max_eq
 unfold qeh qpp
 simp only
 rw [qdl n f z (by omega) (by omega),decide_eq_true (show chk (f:Int) (z:Int) from ⟨by omega,by omega,by omega⟩),Option.bind_some,cond_true,decide_eq_true (by omega),cond_true,wrap_add (by omega) (by omega),q0o,Option.bind_some,decide_eq_true (by omega),Bool.not_true,cond_false,
  decide_eq_false (by omega),cond_false,decide_eq_false (by omega),cond_false,decide_eq_false (by omega),cond_false]
 by_cases c1:4096<p.length
 ·rw [decide_eq_true (by omega),cond_true,if_pos c1]
 have hsz:(ba p).size=p.length:=q23 p
 have hdat:(ba p).data.toList=p:=qjx p
 have hcut:RM.q0u (p.length:Int)=(RM.q1b (ba p):Int):=by rw [← hsz];exact RM.q81 _ (by omega)
 have hcl:=RM.q98 (ba p)
 rw [decide_eq_false (by omega),cond_false,if_neg c1,qak n f z nx h1 (by omega),Option.bind_some]
 unfold q6t
 rw [if_pos (show qwg (p.length:Int) by unfold qwg;omega),Option.bind_some,hcut,wrap64 (by omega) (by omega),q0o]
 by_cases c2:f+z<nx+1+RM.q1b (ba p)
 ·rw [decide_eq_true (by omega),cond_true,if_pos c2]
 rw [decide_eq_false (by omega),cond_false,if_neg c2]
 have hm:RM.may 2 g (its.length:Int) (p.length:Int) (SM.q1f 1 p):=⟨Or.inr rfl,hg,⟨by omega,by omega⟩,⟨by omega,by omega⟩,SM.q4k _ _⟩
 show Option.bind (q91 n 2 g (its.length:Int) p) _=_
 rw [q9t n 2 g (its.length:Int) p (by omega),if_pos hm,Option.bind_some]
 unfold qov
 rw [if_pos (by omega),Option.bind_some]
 have hll:((RM.qd0 (ba p)).map unB).length=RM.q1b (ba p):=by rw [List.length_map,RM.q2t]
 rw [hll]
 have hloop:=qm0 n (unB (RM.q18 2 g (its.length:Int) (p.length:Int) (SM.q1f 1 p))) (ba p) f z nx (by omega) (RM.q1b (ba p)) rfl hcl n 0 (by omega) (Nat.zero_le _)
 have e0:q93 (qhf nx (ba p) 0) = []:=rfl
 rw [e0] at hloop
 have hloop':=hloop
 rw [Int.natCast_zero] at hloop'
 simp only
 rw [j3h,hloop',Option.bind_some,qnb (by rw [q5d,q6l];simp;omega),Option.bind_some]
 have etx:txB g its.length (ba p)=RM.q18 2 g (its.length:Int) (p.length:Int) (SM.q1f 1 p):=by unfold txB;rw [hdat,hsz]
 unfold q92
 rw [etx]
 unfold q93
 rw [List.map_append]
 rfl
theorem qwb {l:List OD} (h : ∀ o∈l,o.2.1.length≤1000000∧o.2.2.length≤1000000):qel l=some (q28 l):=by
 unfold qel
 rw [if_pos (List.all_eq_true.2 fun o ho=>by simp [h o ho])]
theorem j6k {p:List UInt8} (h:q4m p=true):p.length≤60:=by
 unfold q4m at h
 simp only [Bool.and_eq_true,decide_eq_true_eq] at h
 omega
theorem j72 {k:List FD} (hk:q8l k=true) : ∀ o∈q3z [] k,o.2.1.length≤1000000∧o.2.2.length≤1000000:=fun o ho=>by
 unfold q3z at ho
 rw [qc0,hk] at ho
 have ho':o∈q1u (([]:List FD).length+k.length) [] k:=ho
 rw [qwq _ k (by simp)] at ho'
 obtain ⟨f,hf,rfl⟩:=List.mem_map.1 ho'
 have h1:=((qc9 k).1 hk).2.1 f hf
 unfold okF at h1
 simp only [Bool.and_eq_true,decide_eq_true_eq] at h1
 have h2:=j6k h1.1
 exact ⟨by simp only;omega,by simp only;omega⟩
def qyl (B:BL) (n h:Nat) (after:List FD):AcT×Int :=
 if (q28 (q3z [] after)).2≠0 then ([],(q28 (q3z [] after)).2) else if 1073741824≤gA B n h then ([],15)
 else if fA n (1 - h)+zA n (1 - h)<fA n (1 - h)+1+1+RM.q1b (ba (q28 (q3z [] after)).1) then ([],3) else (q93 (q74 n h (gA B n h) (ba (q28 (q3z [] after)).1)),0)
theorem j5d (N:Nat) (hN:600≤N) (B:BL) (n h:Nat) (h8:8≤n) (h512:n≤512) (hh:h≤1) (its:List (List UInt8)) (nx:Int) (fs after:List FD) (ha:q8l after=true) :
  q8u N (0,(((n / 2:Nat):Int),(((n / 2:Nat):Int),(((n - n / 2:Nat):Int),((h:Int),(gA B n h,(its,(nx,fs)))))))) after=some (qyl B n h after):=by
 have hal:=qgp ha
 have hgen:0≤gA B n h∧gA B n h≤1073741824:=q5g B (fA n h)
 obtain ⟨z1,z2,_⟩:=q3o (n:=n) (h:=1 - h) h8 (by omega)
 have hel:=qez (q3z [] after)
 have hem:=j72 ha
 unfold q8u qyl
 rw [qxg N [] after (by simp) (by omega) (by simp;omega),Option.bind_some,qwb hem,Option.bind_some]
 generalize q28 (q3z [] after)=q at *
 by_cases c1:q.2=0
 case neg=>rw [decide_eq_false c1,Bool.not_false,cond_true,if_pos c1]
 rw [decide_eq_true c1,Bool.not_true,cond_false,if_neg (fun hn=>hn c1)]
 by_cases c2:1073741824≤gA B n h
 ·rw [decide_eq_true c2,cond_true,if_pos c2]
 rw [decide_eq_false c2,cond_false,if_neg c2]
 have w1:IntKind.wrap .i64 (gA B n h+1)=gA B n h+1:=wrap64 (by omega) (by omega)
 have ap : ∀ a b:AcT,a.length≤1000→b.length≤1000→q94 32 a b=some (a++b):=fun a b h1 h2=>by rw [qnb (by omega)]
 have hcut:=RM.q98 (ba q.1)
 match h,hh with
 | 0,_ =>
  have e1:fA n (1 - 0)=n / 2:=rfl
  have e2:zA n (1 - 0)=n - n / 2:=rfl
  rw [e2] at z1
  rw [e1,e2] at z2 ⊢
  have w0:IntKind.wrap .i64 ((1:Int) - ((0:Nat):Int))=1:=by decide
  have w2:IntKind.wrap .i64 (((n / 2:Nat):Int)+1)=((n / 2+1:Nat):Int):=q24 (by omega)
  simp only [w0,q0o,w1,w2]
  rw [if_neg (show ¬ (1:Int)=0 by decide),if_pos trivial,qpb N hN (n / 2) (n - n / 2) (n / 2+1) (gA B n 0+1) [] q.1 (by omega) (by omega) (by omega) (by omega) (by omega) (Nat.zero_le _),Option.bind_some,if_neg (show ¬ 4096<q.1.length by omega)]
  by_cases c3:n / 2+(n - n / 2)<n / 2+1+1+RM.q1b (ba q.1)
  ·rw [if_pos c3,if_pos c3];rfl
  ·rw [if_neg c3,if_neg c3,qb5 N _ _ _ (by omega) (by omega),if_pos ⟨⟨by omega,by omega,by omega⟩,by omega,by omega⟩]
   simp only [decide_true,Bool.not_true,cond_false,Option.bind_some]
   rw [ap _ _ (by rw [q5d,q8f];omega) (by simp),Option.bind_some]
   unfold q74 q93
   rw [List.map_append]
   rfl
 | 1,_ =>
  have e1:fA n (1 - 1)=0:=rfl
  have e2:zA n (1 - 1)=n / 2:=rfl
  rw [e2] at z1
  rw [e1,e2] at z2 ⊢
  have w0:IntKind.wrap .i64 ((1:Int) - ((1:Nat):Int))=0:=by decide
  have w2:IntKind.wrap .i64 ((0:Int)+1)=((0+1:Nat):Int):=by decide
  simp only [w0,q0o,w1,w2]
  have ha:=qpb N hN 0 (n / 2) (0+1) (gA B n 1+1) [] q.1 (by omega) (by omega) (by omega) (by omega) (by omega) (Nat.zero_le _)
  rw [Int.natCast_zero] at ha
  rw [if_pos trivial,ha,Option.bind_some,if_neg (show ¬ 4096<q.1.length by omega)]
  by_cases c3:0+n / 2<0+1+1+RM.q1b (ba q.1)
  ·rw [if_pos c3,if_pos c3];rfl
  ·rw [if_neg c3,if_neg c3,qb5 N _ _ _ (by omega) (by omega),if_pos ⟨⟨by omega,by omega,by omega⟩,by omega,by omega⟩]
   simp only [decide_true,Bool.not_true,cond_false,Option.bind_some]
   rw [ap _ _ (by rw [q5d,q8f];omega) (by simp),Option.bind_some]
   unfold q74 q93
   rw [List.map_append]
   rfl
def q77 (D:DM.Dk) (ops:List OD):AcT×Int:=match qzk D with
 | .inl e=>([],e)
 | .inr (h,fs)=>if (q3b fs ops).2≠0 then ([],(q3b fs ops).2) else if (q28 ops).2≠0 then ([],(q28 ops).2)
  else if fA D.secs.length h+zA D.secs.length h<(lA (flat D) D.secs.length h).2+1+RM.q1b (ba (q28 ops).1) then qyl (flat D) D.secs.length h (q3b fs ops).1
  else (q93 (q92 (lA (flat D) D.secs.length h).2 (ba (q28 ops).1) (txB (gA (flat D) D.secs.length h) (lA (flat D) D.secs.length h).1.length (ba (q28 ops).1))),0)
theorem qr4 (N:Nat) (hN:1200≤N) (d:DkT) (hd:smD d) (ops:List OD) (ho:ops.length≤100000) (hp : ∀ o∈ops,o.2.1.length≤1000000∧o.2.2.length≤1000000):q34 N d ops=some (q77 (q29 d) ops):=by
 obtain ⟨st,iv,h1,h2⟩:=qbz N hN d hd
 have hdl:=(qd5 d).1
 unfold q34 q77
 rw [h1,Option.bind_some]
 cases hc:qzk (q29 d) with
 | inl e =>
  rw [hc] at h2
  simp only [h2.1,Option.bind_some,Bool.not_false,cond_true,h2.2]
 | inr p =>
  obtain ⟨h,fs⟩:=p
  obtain ⟨a1,a2,a3,a4,a5⟩:=j4b hc
  obtain ⟨_,h8,h512,hh,_,hrep⟩:=j2j hc
  rw [hc] at h2
  obtain ⟨rfl,rfl⟩:=h2
  have hfs:=qgp (ql9 _ qc0 hrep)
  have hel:=qez ops
  show Option.bind (some true) _=_
  rw [Option.bind_some]
  rw [hdl] at a1 a2 a4 a5 h8 h512 hrep
  simp only [Bool.not_true,cond_false,hdl]
  unfold q6g
  rw [if_pos ⟨by omega,by omega⟩,Option.bind_some]
  by_cases c1:(q3b fs ops).2=0
  case neg=>rw [decide_eq_false c1,Bool.not_false,cond_true,if_pos c1]
  rw [decide_eq_true c1,Bool.not_true,cond_false,if_neg (show ¬ (q3b fs ops).2≠0 from fun hn=>hn c1),qwb hp,Option.bind_some]
  by_cases c2:(q28 ops).2=0
  case neg=>rw [decide_eq_false c2,Bool.not_false,cond_true,if_pos c2]
  rw [decide_eq_true c2,Bool.not_true,cond_false,if_neg (show ¬ (q28 ops).2≠0 from fun hn=>hn c2)]
  have haf:q8l (q3b fs ops).1=true:=qdu (ops:=ops) (l:=fs) (by rw [← c1])
  rw [hdl] at a3
  have hgen:0≤gA (flat (q29 d)) d.1.length h∧gA (flat (q29 d)) d.1.length h≤1073741824:=q5g _ _
  have hmv:=j5d N (by omega) (flat (q29 d)) d.1.length h h8 h512 hh ((lA (flat (q29 d)) d.1.length h).1.map unB) ((lA (flat (q29 d)) d.1.length h).2:Int) fs (q3b fs ops).1 haf
  have hadd:=j8h N (by omega) (fA d.1.length h) (zA d.1.length h) (lA (flat (q29 d)) d.1.length h).2 (gA (flat (q29 d)) d.1.length h) ((lA (flat (q29 d)) d.1.length h).1.map unB) (q28 ops).1 (by omega) (by omega) (by omega) a2 hgen (by rw [List.length_map];omega)
  rw [if_neg (by omega),List.length_map] at hadd
  generalize d.1.length=n at *
  match h,hh with
  | 0,_ =>
   have e1:fA n 0=0:=rfl
   have e2:zA n 0=n / 2:=rfl
   rw [if_pos (show ((0:Nat):Int)=0 from rfl)]
   rw [e1,e2,Int.natCast_zero] at hadd
   rw [hadd,Option.bind_some]
   rw [e1,e2]
   by_cases c3:0+n / 2<(lA (flat (q29 d)) n 0).2+1+RM.q1b (ba (q28 ops).1)
   ·rw [if_pos c3,if_pos c3]
    show Option.bind (q8u N _ (q3b fs ops).1) _=_
    rw [hmv,Option.bind_some]
   ·rw [if_neg c3,if_neg c3]
    rfl
  | 1,_ =>
   have e1:fA n 1=n / 2:=rfl
   have e2:zA n 1=n - n / 2:=rfl
   rw [if_neg (show ¬ ((1:Nat):Int)=0 by decide),if_pos (show ((1:Nat):Int)=1 from rfl)]
   rw [e1,e2] at hadd
   rw [hadd,Option.bind_some]
   rw [e1,e2]
   by_cases c3:n / 2+(n - n / 2)<(lA (flat (q29 d)) n 1).2+1+RM.q1b (ba (q28 ops).1)
   ·rw [if_pos c3,if_pos c3]
    show Option.bind (q8u N _ (q3b fs ops).1) _=_
    rw [hmv,Option.bind_some]
   ·rw [if_neg c3,if_neg c3]
    rfl
end YthpgnliicpejoaaGreatDoor.AM
end Go.Proofs
namespace Go.Proofs
open Go.RowKit
set_option linter.unusedVariables false
set_option linter.unusedSimpArgs false
namespace YthpgnliicpejoaaGreatDoor.AM
def q2a:Nat:=9223372036854775808
theorem qhb:q3g q2a=some true:=by decide +kernel
abbrev qem:=List OD×(Int×List Bool)
def qgr (s:qem):Prop:=jc6 s.1=true∧s.2.2.length≤1000
instance:DecidablePred qgr:=fun s=>inferInstanceAs (Decidable (_∧_))
theorem jcd {ops:List OD} (h:jc6 ops=true):ops.length≤100∧∀ o∈ops,o.2.1.length≤1000000∧o.2.2.length≤1000000:=by
 unfold jc6 at h
 simp only [Bool.and_eq_true,decide_eq_true_eq,List.all_eq_true] at h
 refine ⟨h.2,fun o ho=>?_⟩
 have:=h.1 o ho
 omega
theorem qvc (l:List qem) (x:Int) (hops : ∀ s∈l,s.1.length≤9223372036854775807) (hl:l.length≤9223372036854775807) : ∀ (m i:Nat),l.length - i<m→i≤l.length →
  q6x q2a m l x (i:Int)=some (if ∀ s∈l.drop i,qgr s then Sum.inr ((l,(x,())),((),())) else Sum.inl ((0,()),((),())))
 | 0,i,h,_=>by omega
 | m+1,i,hm,hi=>by
  rw [qde]
  unfold qky
  by_cases c:i<l.length
  ·have hd:l.drop i=l[i]::l.drop (i+1):=List.drop_eq_getElem_cons c
   have ho:=hops _ (List.getElem_mem c)
   have w1:IntKind.wrap .i64 ((i:Int)+1)=((i+1:Nat):Int):=by rw [wrap64 (by omega) (by omega)];omega
   have hf:=qz7 q2a l[i].1 (by omega) (by unfold q2a;omega)
   rw [decide_eq_true (by omega),cond_true,q49 c,Option.bind_some,hf,Option.bind_some]
   by_cases c1:jc6 l[i].1=true
   ·rw [c1,Bool.not_true,cond_false,Option.bind_some]
    by_cases c2:l[i].2.2.length≤1000
    ·rw [decide_eq_false (by omega),cond_false,w1,q0o]
     have ih:=qvc l x hops hl m (i+1) (by omega) (by omega)
     refine ih.trans ?_
     congr 1
     by_cases c3 : ∀ s∈l.drop (i+1),qgr s
     ·rw [if_pos c3,if_pos (by rw [hd];intro s hs;rcases List.mem_cons.1 hs with rfl|hs;exact ⟨c1,c2⟩;exact c3 s hs)]
     ·rw [if_neg c3,if_neg (fun h=>c3 fun s hs=>h s (by rw [hd];exact List.mem_cons_of_mem _ hs))]
    ·rw [decide_eq_true (by omega),cond_true,if_neg (fun h=>c2 (h l[i] (by rw [hd];exact List.mem_cons_self ..)).2)]
   ·rw [Bool.not_eq_true] at c1
    rw [c1,Bool.not_false,cond_true,if_neg (fun h=>by have:=(h l[i] (by rw [hd];exact List.mem_cons_self ..)).1;rw [c1] at this;cases this)]
  ·rw [decide_eq_false (by omega),cond_false,if_pos (by rw [List.drop_eq_nil_of_le (by omega)];intro s hs;cases hs)]
def fewL (l:List qem):Prop:=(∀ s∈l,qgr s)∧l.length≤20
theorem qvd (l:List qem) (hops : ∀ s∈l,s.1.length≤9223372036854775807) (hl:l.length≤9223372036854775807) : ∃ r:Int,qex q2a l 20=some r∧(r=0∨(r=1∧fewL l)):=by
 unfold qex
 have:=qvc l 20 hops hl q2a 0 (by unfold q2a;omega) (Nat.zero_le _)
 rw [Int.natCast_zero,List.drop_zero] at this
 rw [this,Option.bind_some]
 by_cases c : ∀ s∈l,qgr s
 ·rw [if_pos c]
  show ∃ r,(bif decide ((20:Int)<((l.length:Nat):Int)) then some (0:Int) else some 1)=some r∧_
  by_cases c2:l.length≤20
  ·rw [decide_eq_false (by omega),cond_false];exact ⟨1,rfl,Or.inr ⟨rfl,c,c2⟩⟩
  ·rw [decide_eq_true (by omega),cond_true];exact ⟨0,rfl,Or.inl rfl⟩
 ·rw [if_neg c];exact ⟨0,rfl,Or.inl rfl⟩
theorem qgy {B:BL} {n h:Nat} {fs:List FD} (hI:VI B n h fs):smD (q3f ⟨B,[]⟩):=j4y (by show B.length≤_;have:=hI.le;have:=hI.len;omega) (Nat.zero_le _)
theorem j1f {B:BL} {n h:Nat} {fs:List FD} (hI:VI B n h fs):qzk ⟨B,[]⟩ = .inr (h,fs):=by
 have hBl:=hI.len
 have hn8:=hI.n8
 have hc:j69 B n=some h:=by
  have hb:=hI.beg
  have ho:=hI.other
  unfold j69
  match h,hI.h1,hb,ho with
  | 0,_,hb,ho =>
   rw [if_pos hb,if_neg (fun hc=>?_)]
   have:=ho hc.1
   have h2:=hc.2
   have e:(1 - 0:Nat)=1:=rfl
   rw [e] at this
   omega
  | 1,_,hb,ho =>
   by_cases c:q8p B (fA n 0)
   ·rw [if_pos c,if_pos ⟨hb,ho c⟩]
   ·rw [if_neg c,if_pos hb]
 unfold qzk
 rw [if_pos ⟨hI.may,by show 8≤B.length;omega⟩,qay]
 show (match j69 B B.length with|none=>_|some h=>_)=_
 rw [hBl,hc]
 simp only [hI.rep]
theorem qdo {B:BL} {n h:Nat} {fs:List FD} (hI:VI B n h fs):q39 q2a (q3f ⟨B,[]⟩)=some (((h:Int),(gA B n h,((((lA B n h).1.length:Nat):Int),(((lA B n h).2:Int),fs)))),0):=by
 rw [qz8 q2a (by unfold q2a;omega) _ (qgy hI),q1d]
 unfold j57
 rw [j1f hI,qay]
 show some (((h:Int),(gA B B.length h,((((lA B B.length h).1.length:Nat):Int),(((lA B B.length h).2:Int),fs)))),(0:Int))=_
 rw [hI.len]
theorem j3g {B:BL} {n h:Nat} {fs:List FD} (hI:VI B n h fs):q6b q2a (q3f ⟨B,[]⟩)=some ((fA n h+zA n h - (lA B n h).2:Nat):Int):=by
 rw [free_spec q2a (by unfold q2a;omega) _ (qgy hI),q1d]
 unfold jdp
 rw [j1f hI,qay]
 show some ((fA B.length h+zA B.length h - (lA B B.length h).2:Nat):Int)=_
 rw [hI.len]
structure Acts6 (B:BL) (n h:Nat) (fs after:List FD) (L:List DM.Ac):Prop where
 ne:0<L.length
 len:L.length≤1000
 size : ∀ a∈L,a.2.2.size≤32
 ok : ∀ a∈L,DM.q3m B.length a
 cut : ∀ (N:Nat) (keep:Nat→Bool),∃ X,DM.q16 keep (DM.runK ⟨B,[]⟩ (L.take N))=⟨X,[]⟩∧(N=0→VI X n h fs)∧(VI X n h fs ∨ ∃ h',VI X n h' after)∧(L.length≤N→∃ h',VI X n h' after)
 full : ∃ X,DM.runK ⟨B,[]⟩ L=⟨X,[]⟩∧((VI X n h after∧gA X n h=gA B n h∧(lA X n h).1.length=(lA B n h).1.length+1∧(lA B n h).2<(lA X n h).2)∨(VI X n (1 - h) after∧gA X n (1 - h)=gA B n h+1∧(lA X n (1 - h)).1.length=1))
theorem j9y {n N h:Nat} {g:Int} {q:ByteArray} (hn:fA n (1 - h)+1+RM.q1b q<N) (hg:0≤g+1∧g+1≤1073741824) (hq:q.size≤4096):(∀ a∈q74 n h g q,DM.q3m N a)∧∀ a∈q74 n h g q,a.2.2.size≤32:=by
 have htx:(txB (g+1) 0 q).size=32:=qea hg (Nat.zero_le _) hq
 have hbs:(RM.q18 1 (g+1) 0 0 1).size=32:=qe2 hg
 constructor
 ·intro a hm
  rcases List.mem_append.1 hm with hm|hm
  ·exact qmj (n:=N) hn htx a hm
  ·simp only [jex,List.mem_cons,List.not_mem_nil,or_false] at hm
   rcases hm with rfl|rfl
   ·refine Or.inr ?_
    unfold DM.q1v
    rw [if_pos ⟨by simp only;omega,by simp only;omega⟩,if_neg (by simp only [hbs];omega)]
   ·exact Or.inl rfl
 ·intro a hm
  rcases List.mem_append.1 hm with hm|hm
  ·exact qp7 htx a hm
  ·simp only [jex,List.mem_cons,List.not_mem_nil,or_false] at hm
   rcases hm with rfl|rfl
   ·simp only [hbs];omega
   ·exact Nat.zero_le _
theorem qd4 {B:BL} {n h:Nat} {fs:List FD} (hI:VI B n h fs) (ops:List OD) :
  (∃ e,q77 ⟨B,[]⟩ ops=([],e)∧e≠0∧(((q3b fs ops).2≠0∧e=(q3b fs ops).2)∨((q3b fs ops).2=0∧(q28 ops).2≠0∧e=(q28 ops).2) ∨
   ((q3b fs ops).2=0∧(q28 ops).2=0∧((q28 (q3z [] (q3b fs ops).1)).2≠0∨1073741824≤gA B n h∨(e=3∧n / 2<2+RM.q1b (ba (q28 (q3z [] (q3b fs ops).1)).1)))))) ∨
  ∃ L after,q77 ⟨B,[]⟩ ops=(q93 L,0)∧q3b fs ops=(after,0)∧(q28 ops).2=0∧Acts6 B n h fs after L:=by
 have hBl:=hI.len
 have hle:=hI.le
 obtain ⟨z1,z2,_⟩:=q3o hI.n8 hI.h1
 obtain ⟨y1,y2,y3,_⟩:=q3o (n:=n) (h:=1 - h) hI.n8 (by omega)
 have hlin:=j0d hI
 have hgen:0≤gA B n h∧gA B n h≤1073741824:=q5g B (fA n h)
 have ec:q77 ⟨B,[]⟩ ops=(if (q3b fs ops).2≠0 then ([],(q3b fs ops).2) else if (q28 ops).2≠0 then ([],(q28 ops).2)
   else if fA n h+zA n h<(lA B n h).2+1+RM.q1b (ba (q28 ops).1) then qyl B n h (q3b fs ops).1
   else (q93 (q92 (lA B n h).2 (ba (q28 ops).1) (txB (gA B n h) (lA B n h).1.length (ba (q28 ops).1))),0)):=by
  unfold q77
  rw [j1f hI,qay]
  show (if _ then _ else if _ then _ else if fA B.length h+zA B.length h<(lA B B.length h).2+1+RM.q1b (ba (q28 ops).1) then qyl B B.length h (q3b fs ops).1 else (q93 (q92 (lA B B.length h).2 (ba (q28 ops).1) (txB (gA B B.length h) (lA B B.length h).1.length (ba (q28 ops).1))),0))=_
  rw [hBl]
 rw [ec]
 by_cases c1:(q3b fs ops).2=0
 case neg=>exact Or.inl ⟨_,by rw [if_pos c1],c1,Or.inl ⟨c1,rfl⟩⟩
 rw [if_neg (show ¬ (q3b fs ops).2≠0 from fun hn=>hn c1)]
 by_cases c2:(q28 ops).2=0
 case neg=>exact Or.inl ⟨_,by rw [if_pos c2],c2,Or.inr (Or.inl ⟨c1,c2,rfl⟩)⟩
 rw [if_neg (show ¬ (q28 ops).2≠0 from fun hn=>hn c2)]
 have haf:q3b fs ops=((q3b fs ops).1,0):=by rw [← c1]
 have hmaf:=qdu haf
 have hps:(ba (q28 ops).1).size≤4096:=by rw [q23];exact qez ops
 have hpc:=RM.q98 (ba (q28 ops).1)
 by_cases c3:fA n h+zA n h<(lA B n h).2+1+RM.q1b (ba (q28 ops).1)
 ·rw [if_pos c3]
  unfold qyl
  by_cases d1:(q28 (q3z [] (q3b fs ops).1)).2=0
  case neg=>exact Or.inl ⟨_,by rw [if_pos d1],d1,Or.inr (Or.inr ⟨c1,c2,Or.inl d1⟩)⟩
  rw [if_neg (show ¬ (q28 (q3z [] (q3b fs ops).1)).2≠0 from fun hn=>hn d1)]
  by_cases d2:1073741824≤gA B n h
  ·exact Or.inl ⟨15,by rw [if_pos d2],by decide,Or.inr (Or.inr ⟨c1,c2,Or.inr (Or.inl d2)⟩)⟩
  rw [if_neg d2]
  by_cases d3:fA n (1 - h)+zA n (1 - h)<fA n (1 - h)+1+1+RM.q1b (ba (q28 (q3z [] (q3b fs ops).1)).1)
  ·exact Or.inl ⟨3,by rw [if_pos d3],by decide,Or.inr (Or.inr ⟨c1,c2,Or.inr (Or.inr ⟨rfl,by omega⟩)⟩)⟩
  rw [if_neg d3]
  refine Or.inr ⟨_,(q3b fs ops).1,rfl,haf,c2,?_⟩
  have hqs:(ba (q28 (q3z [] (q3b fs ops).1)).1).size≤4096:=by rw [q23];exact qez _
  have hrep:qhe [] [unB (ba (q28 (q3z [] (q3b fs ops).1)).1)]=some (q3b fs ops).1:=by
   rw [jaa]
   unfold qhe
   rw [j42 _ d1,j8z hmaf]
   simp only [and_self,if_true]
   rfl
  have hqc:=RM.q98 (ba (q28 (q3z [] (q3b fs ops).1)).1)
  generalize ba (q28 (q3z [] (q3b fs ops).1)).1=q at *
  obtain ⟨ok1,ok2⟩:=j9y (n:=n) (N:=B.length) (h:=h) (g:=gA B n h) (q:=q) (by omega) ⟨by omega,by omega⟩ hqs
  have hlen:=qp9 n h (gA B n h) q
  refine ⟨by omega,by omega,ok2,ok1,fun N keep=>?_,?_⟩
  ·obtain ⟨X,x1,x2,x3,x4⟩:=j1j hI hqs hrep (by omega) (by omega) N keep
   exact ⟨X,x1,fun hN=>x2 (by omega),x3.elim Or.inl (fun h=>Or.inr ⟨_,h.1⟩),fun hN=>⟨_,(x4 (by omega)).1.1⟩⟩
  ·obtain ⟨X,x1,x2,x3,x4⟩:=j1j hI hqs hrep (by omega) (by omega) (RM.q1b q+5) (fun _=>true)
   obtain ⟨k1,k2⟩:=x4 (Nat.le_refl _)
   rw [List.take_of_length_le (by omega)] at k2
   exact ⟨X,k2,Or.inr k1⟩
 ·rw [if_neg c3]
  refine Or.inr ⟨_,(q3b fs ops).1,rfl,haf,c2,?_⟩
  have htx:(txB (gA B n h) (lA B n h).1.length (ba (q28 ops).1)).size=32:=qea hgen (by omega) hps
  have hlen:=q8f (lA B n h).2 (ba (q28 ops).1) (txB (gA B n h) (lA B n h).1.length (ba (q28 ops).1))
  refine ⟨by omega,by omega,qp7 htx,qmj (by omega) htx,fun N keep=>?_,?_⟩
  ·obtain ⟨X,x1,x2,x3,x4⟩:=jay hI haf c2 (by omega) N keep
   exact ⟨X,x1,fun hN=>x2 (by omega),x3.elim Or.inl (fun h=>Or.inr ⟨_,h.1⟩),fun hN=>⟨_,(x4 (by omega)).1.1⟩⟩
  ·obtain ⟨X,x1,x2,x3,x4⟩:=jay hI haf c2 (by omega) (RM.q1b (ba (q28 ops).1)+3) (fun _=>true)
   obtain ⟨⟨k1,k2,k3⟩,k4⟩:=x4 (Nat.le_refl _)
   rw [List.take_of_length_le (by omega)] at k4
   refine ⟨X,k4,Or.inl ⟨k1,k2,by rw [k3];simp,by rw [k3];simp only;omega⟩⟩
theorem qow {B:BL} {n h:Nat} {fs:List FD} (hI:VI B n h fs) {ops:List OD} (hf:jc6 ops=true):q34 q2a (q3f ⟨B,[]⟩) ops=some (q77 ⟨B,[]⟩ ops):=by
 obtain ⟨h1,h2⟩:=jcd hf
 rw [qr4 q2a (by unfold q2a;omega) _ (qgy hI) ops (by omega) h2,q1d]
theorem jab {B:BL} {n h:Nat} {fs after:List FD} {L:List DM.Ac} (hI:VI B n h fs) (hA:Acts6 B n h fs after L) (x:Int):q3n (q3f ⟨B,[]⟩) (q93 L) x=some (q3f (DM.runK ⟨B,[]⟩ (L.take (min (max x 0) (L.length:Int)).toNat)),0)∧DM.q2b (DM.runK ⟨B,[]⟩ (L.take (min (max x 0) (L.length:Int)).toNat)):=by
 have hBl:=hI.len
 have hle:=hI.le
 have:=ql0 (q3f ⟨B,[]⟩) (by rw [q1d];show B.length≤1000;omega) (by rw [q1d];exact Nat.zero_le _) L hA.len hA.size x
 rw [q1d] at this
 obtain ⟨r1,r2,r3⟩:=qk0 (d:=⟨B,[]⟩) (l:=L.take (min (max x 0) (L.length:Int)).toNat) hI.may (fun a ha=>hA.ok a (List.mem_of_mem_take ha))
 rw [r1,r2] at this
 exact ⟨this,r3⟩
theorem qv4 {B:BL} {n h:Nat} {fs:List FD} (hI:VI B n h fs) (x:Int):q3n (q3f ⟨B,[]⟩) [] x=some (q3f ⟨B,[]⟩,0):=by
 have hBl:=hI.len
 have hle:=hI.le
 have:=ql0 (q3f ⟨B,[]⟩) (by rw [q1d];show B.length≤1000;omega) (by rw [q1d];exact Nat.zero_le _) [] (by simp) (fun a ha=>by cases ha) x
 rw [q1d,List.take_nil] at this
 obtain ⟨r1,r2,_⟩:=qk0 (d:=⟨B,[]⟩) (l:=[]) hI.may (fun a ha=>by cases ha)
 rw [r1,r2] at this
 exact this
theorem qll {D:DM.Dk} (hm:DM.q2b D) (hs:smD (q3f D)) (keep:List Bool) (hk:keep.length≤1000):q5j (q3f D) keep=some (q3f (DM.q16 (fun j=>keep.getD j false) D),0):=by
 unfold q5j
 rw [if_pos ⟨hs,by omega⟩,q1d]
 unfold DM.q2r DM.qhw
 rw [if_pos hm,if_pos hm]
theorem qet (keep:Nat→Bool) (B:BL):DM.q16 keep ⟨B,[]⟩=⟨B,[]⟩:=rfl
theorem qdt (d:DM.Dk) (l:List DM.Ac) (hm:DM.q2b d) (hok : ∀ a∈l,DM.q3m d.secs.length a) (hl:l.length≤1000) (hc:d.cache.length=0):smD (q3f (DM.runK d l)):=by
 refine j4y ?_ ?_
 ·have:=(DM.qb4 hm hok).2.1;omega
 ·have key : ∀ (l:List DM.Ac) (d:DM.Dk),(DM.runK d l).cache.length≤d.cache.length+l.length:=by
   intro l
   induction l with
   | nil=>intro d;exact Nat.le_refl _
   | cons a l ih =>
    intro d
    have h1:=ih (DM.q5v d a)
    have h2:(DM.q5v d a).cache.length≤d.cache.length+1:=by
     unfold DM.q5v
     split
     ·show (DM.q16 _ d).cache.length≤_;exact Nat.zero_le _
     ·show (DM.qzo d a.2.1 a.2.2).cache.length≤_;unfold DM.qzo;simp
    show (DM.runK (DM.q5v d a) l).cache.length≤_
    simp only [List.length_cons];omega
  have:=key l d
  omega
theorem jeu {B:BL} {n h:Nat} {fs after:List FD} {L:List DM.Ac} (hI:VI B n h fs) (hA:Acts6 B n h fs after L) (x:Int) (keep:List Bool) (hk:keep.length≤1000) :
  ∃ D X,q3n (q3f ⟨B,[]⟩) (q93 L) x=some (q3f D,0)∧q5j (q3f D) keep=some (q3f ⟨X,[]⟩,0)∧(x<1→VI X n h fs)∧(VI X n h fs ∨ ∃ h',VI X n h' after)∧((L.length:Int)≤x→∃ h',VI X n h' after):=by
 obtain ⟨r1,r2⟩:=jab hI hA x
 obtain ⟨X,x1,x2,x3,x4⟩:=hA.cut (min (max x 0) (L.length:Int)).toNat (fun j=>keep.getD j false)
 refine ⟨_,X,r1,?_,fun hx=>x2 (by omega),x3,fun hx=>x4 (by omega)⟩
 rw [qll r2 (qdt _ _ hI.may (fun a ha=>hA.ok a (List.mem_of_mem_take ha)) (by rw [List.length_take];have:=hA.len;omega) rfl) keep hk,x1]
theorem qnp (n:Nat) (h1:8≤n) (h2:n≤512) : ∃ S,qah q2a (n:Int)=some (q3f ⟨S,[]⟩,true)∧VI S n 0 []∧gA S n 0=1:=by
 have hm:=j9r (n:=n) (by omega) (by omega)
 obtain ⟨e1,hmS⟩:=j1k (q3f ⟨List.replicate n DM.q2d,[]⟩) (by rw [q1d];exact hm) (by rw [q1d];simp;omega) (by rw [q1d];simp) 0 1 (by decide) (by rw [q1d];simp;omega)
 rw [q1d,qay] at e1 hmS
 have e1':q3n (q3f ⟨List.replicate n DM.q2d,[]⟩) (qnx 0 1) (((qnx 0 1).length:Nat):Int)=some (q3f ⟨(List.replicate n DM.q2d).set 0 (RM.q18 1 1 0 0 1),[]⟩,0):=e1
 obtain ⟨v1,v2⟩:=jc1 h1 h2 hmS
 refine ⟨_,?_,v1,v2⟩
 unfold qah qxf
 rw [j6n (by omega) (by omega),Option.bind_some,qsm q2a _ (by omega) (by omega),if_pos ⟨by omega,by omega⟩,Option.bind_some]
 simp only
 rw [e1',Option.bind_some]
 have:decide (DM.qb3 (n:Int))=true:=decide_eq_true (show DM.qb3 (n:Int) from ⟨by omega,by omega⟩)
 rw [this]
 rfl
end YthpgnliicpejoaaGreatDoor.AM
end Go.Proofs
namespace Go.Proofs
open Go.RowKit
set_option linter.unusedVariables false
set_option linter.unusedSimpArgs false
namespace YthpgnliicpejoaaGreatDoor.AM
theorem same5 (a b:List FD) (ha:q8l a=true):q9k q2a a b=some (decide (a=b)):=by
 have:=qgp ha
 exact qsr q2a a b (by omega) (by unfold q2a;omega)
theorem jfp {a b c d:Int} {fs:List FD} (h:q8l fs=true):q9j q2a (a,(b,(c,(d,fs)))) (a,(b,(c,(d,fs))))=some true:=by
 unfold q9j
 simp only [decide_true,cond_true,same5 fs fs h,Option.bind_some]
theorem qq1 (l:List qem) (hl:fewL l) (n:Nat) : ∀ (m i:Nat) (B:BL) (h:Nat) (fs:List FD),l.length - i<m→i≤l.length→VI B n h fs →
  q68 q2a m l (i:Int) (q3f ⟨B,[]⟩).1 (q3f ⟨B,[]⟩).2=some (Sum.inr ((),((),())))
 | 0,i,B,h,fs,hm,_,_=>by omega
 | m+1,i,B,h,fs,hm,hi,hI=>by
  rw [qdg]
  unfold qma
  by_cases c:i<l.length
  case neg=>rw [decide_eq_false (by omega),cond_false]
  have hll:=hl.2
  have w1:IntKind.wrap .i64 ((i:Int)+1)=((i+1:Nat):Int):=q24 (by omega)
  obtain ⟨s,hs⟩ : ∃ s,l[i]=s:=⟨_,rfl⟩
  have hok:qgr s:=by rw [← hs];exact hl.1 _ (List.getElem_mem c)
  have hix:q2v l (i:Int)=some s:=by rw [q49 c,hs]
  have hcm:=qow hI hok.1
  have hmt:=qdo hI
  have hfr:=j3g hI
  have hlin:=j0d hI
  have hgen:0≤gA B n h∧gA B n h≤1073741824:=q5g B (fA n h)
  have ih:=qq1 l hl n m (i+1)
  rw [decide_eq_true (by omega),cond_true]
  have hmt':q39 q2a ((q3f ⟨B,[]⟩).1,(q3f ⟨B,[]⟩).2)=_:=hmt
  have hcm':q34 q2a ((q3f ⟨B,[]⟩).1,(q3f ⟨B,[]⟩).2) s.1=_:=hcm
  have hfr':q6b q2a ((q3f ⟨B,[]⟩).1,(q3f ⟨B,[]⟩).2)=_:=hfr
  simp only [hix,hmt',hcm',Option.bind_some]
  rcases qd4 hI s.1 with ⟨e,h1,h2,_⟩|⟨L,after,h1,h2,h3,hA⟩
  ·have hrn:q3n ((q3f ⟨B,[]⟩).1,(q3f ⟨B,[]⟩).2) [] (((([]:AcT).length:Nat)):Int)=some (q3f ⟨B,[]⟩,0):=qv4 hI _
   rw [h1]
   simp only [hrn,Option.bind_some,hmt,decide_true,Bool.not_true,cond_false,h2,decide_false,Bool.not_false,cond_true,jfp hI.mayF,w1,q0o]
   exact ih B h fs (by omega) (by omega) hI
  ·obtain ⟨X,x1,x2⟩:=hA.full
   obtain ⟨r1,_⟩:=jab hI hA ((List.length (q93 L):Nat):Int)
   have ht:(min (max (((List.length (q93 L):Nat):Int)) 0) (L.length:Int)).toNat=L.length:=by rw [q5d];omega
   rw [ht,List.take_length,x1] at r1
   have r1':q3n ((q3f ⟨B,[]⟩).1,(q3f ⟨B,[]⟩).2) (q93 L) ((List.length (q93 L):Nat):Int)=some (q3f ⟨X,[]⟩,0):=r1
   rw [h1]
   rcases x2 with ⟨hX,g1,g2,g3⟩|⟨hX,g1,g2⟩
   ·have hmx:=qdo hX
    have hfx:=j3g hX
    have hlx:=j0d hX
    have wm:IntKind.wrap .i64 (((lA B n h).1.length:Int)+1)=(((lA B n h).1.length+1:Nat):Int):=q24 (by omega)
    have hlt:decide (((fA n h+zA n h - (lA X n h).2:Nat):Int)<((fA n h+zA n h - (lA B n h).2:Nat):Int))=true:=decide_eq_true (by omega)
    have ih':=ih X h after (by omega) (by omega) hX
    simp only [r1',Option.bind_some,hmx,decide_true,Bool.not_true,cond_false,cond_true,g1,g2,wm,q0o,hfx,hfr',hlt,w1]
    cases decide ((h:Int)=IntKind.wrap .i64 (1 - (h:Int))) with
    | false=>exact ih'
    | true =>
     cases decide (gA B n h=IntKind.wrap .i64 (gA B n h+1)) with
     | false=>exact ih'
     | true=>exact ih'
   ·have hmx:=qdo hX
    have ih':=ih X (1 - h) after (by omega) (by omega) hX
    have hh:=hI.h1
    have wh:IntKind.wrap .i64 ((1:Int) - (h:Int))=((1 - h:Nat):Int):=by rw [wrap64 (by omega) (by omega)];omega
    have wg:IntKind.wrap .i64 (gA B n h+1)=gA B n h+1:=wrap64 (by omega) (by omega)
    have hne:decide (((1 - h:Nat):Int)=(h:Int))=false:=decide_eq_false (by omega)
    have g2':decide (((((lA X n (1 - h)).1.length:Nat)):Int)=1)=true:=decide_eq_true (by omega)
    simp only [r1',Option.bind_some,hmx,decide_true,Bool.not_true,cond_false,cond_true,g1,hne,wh,wg,q0o,g2',w1]
    exact ih'
theorem qyn (n:Int) (l:List qem) (hn:(Lit.int .i64 n).wf=true) (hops : ∀ s∈l,s.1.length≤9223372036854775807) (hl:l.length≤9223372036854775807):qlm q2a n l=some true:=by
 obtain ⟨r,h1,h2⟩:=qvd l hops hl
 unfold qlm
 show Option.bind (qex q2a l 20) _=_
 rw [h1,Option.bind_some,qhb]
 simp only [Option.bind_some]
 rcases h2 with rfl|⟨rfl,hf⟩
 ·rfl
 rw [show decide ((1:Int)=0)=false from rfl,cond_false]
 by_cases c1:n<8
 ·rw [decide_eq_true c1,cond_true]
 rw [decide_eq_false c1,cond_false]
 by_cases c2:512<n
 ·rw [decide_eq_true c2,cond_true]
 rw [decide_eq_false c2,cond_false]
 obtain ⟨k,rfl⟩ : ∃ k:Nat,n=(k:Int):=⟨n.toNat,by omega⟩
 obtain ⟨S,e1,hI,_⟩:=qnp k (by omega) (by omega)
 rw [e1,Option.bind_some]
 have:=qq1 l hf k q2a 0 S 0 [] (by have:=hf.2;unfold q2a;omega) (Nat.zero_le _) hI
 rw [Int.natCast_zero] at this
 simp only [Bool.not_true,cond_false]
 rw [this]
 rfl
end YthpgnliicpejoaaGreatDoor.AM
end Go.Proofs
namespace Go.Proofs
open Go.RowKit
set_option linter.unusedVariables false
set_option linter.unusedSimpArgs false
namespace YthpgnliicpejoaaGreatDoor.AM
theorem qi7 (l:List qem) (hl:fewL l) (keep:List Bool) (hk:keep.length≤1000) (n:Nat) : ∀ (m i:Nat) (B:BL) (h:Nat) (fs:List FD),l.length - i<m→i≤l.length→VI B n h fs →
  q4d q2a m l keep (i:Int) (q3f ⟨B,[]⟩).1 (q3f ⟨B,[]⟩).2=some (Sum.inr ((),((),())))
 | 0,i,B,h,fs,hm,_,_=>by omega
 | m+1,i,B,h,fs,hm,hi,hI=>by
  rw [qa5]
  unfold qbs
  by_cases c:i<l.length
  case neg=>rw [decide_eq_false (by omega),cond_false]
  have hll:=hl.2
  have w1:IntKind.wrap .i64 ((i:Int)+1)=((i+1:Nat):Int):=q24 (by omega)
  obtain ⟨s,hs⟩ : ∃ s,l[i]=s:=⟨_,rfl⟩
  have hok:qgr s:=by rw [← hs];exact hl.1 _ (List.getElem_mem c)
  have hix:q2v l (i:Int)=some s:=by rw [q49 c,hs]
  have hcm:=qow hI hok.1
  have ih:=qi7 l hl keep hk n m (i+1)
  rw [decide_eq_true (by omega),cond_true]
  have hcm':q34 q2a ((q3f ⟨B,[]⟩).1,(q3f ⟨B,[]⟩).2) s.1=_:=hcm
  simp only [hix,hcm',Option.bind_some]
  have key : ∃ D X h' k,q3n ((q3f ⟨B,[]⟩).1,(q3f ⟨B,[]⟩).2) (q77 ⟨B,[]⟩ s.1).1 s.2.1=some (q3f D,0)∧q5j (q3f D) s.2.2=some (q3f ⟨X,[]⟩,0)∧VI X n h' k:=by
   rcases qd4 hI s.1 with ⟨e,h1,h2,_⟩|⟨L,after,h1,h2,h3,hA⟩
   ·rw [h1]
    refine ⟨⟨B,[]⟩,B,h,fs,qv4 hI _,?_,hI⟩
    rw [qll hI.may (qgy hI) _ hok.2,qet]
   ·rw [h1]
    obtain ⟨D,X,k1,k2,_,k4,_⟩:=jeu hI hA s.2.1 s.2.2 hok.2
    rcases k4 with hX|⟨h',hX⟩
    ·exact ⟨D,X,h,fs,k1,k2,hX⟩
    ·exact ⟨D,X,h',after,k1,k2,hX⟩
  obtain ⟨D,X,h',k,k1,k2,hX⟩:=key
  have k3:q5j (q3f ⟨X,[]⟩) keep=some (q3f ⟨X,[]⟩,0):=by rw [qll hX.may (qgy hX) _ hk,qet]
  have hmt:=qdo hX
  have hsm:qwe (q3f ⟨X,[]⟩) (q3f ⟨X,[]⟩)=some true:=by unfold qwe;rw [if_pos ⟨qgy hX,qgy hX⟩,decide_eq_true rfl]
  rw [k1]
  simp only [Option.bind_some,k2,k3,hmt,decide_true,Bool.not_true,cond_false,jfp hX.mayF,hsm,w1,q0o]
  exact ih X h' k (by omega) (by omega) hX
theorem qop (n:Int) (l:List qem) (keep:List Bool) (hn:(Lit.int .i64 n).wf=true) (hops : ∀ s∈l,s.1.length≤9223372036854775807) (hl:l.length≤9223372036854775807):qao q2a n l keep=some true:=by
 obtain ⟨r,h1,h2⟩:=qvd l hops hl
 unfold qao
 show Option.bind (qex q2a l 20) _=_
 rw [h1,Option.bind_some,qhb]
 simp only [Option.bind_some]
 rcases h2 with rfl|⟨rfl,hf⟩
 ·rfl
 rw [show decide ((1:Int)=0)=false from rfl,cond_false]
 by_cases c1:n<8
 ·rw [decide_eq_true c1,cond_true]
 rw [decide_eq_false c1,cond_false]
 by_cases c2:512<n
 ·rw [decide_eq_true c2,cond_true]
 rw [decide_eq_false c2,cond_false]
 by_cases c3:(1000:Int)<((keep.length:Nat):Int)
 ·rw [decide_eq_true c3,cond_true]
 rw [decide_eq_false c3,cond_false]
 obtain ⟨k,rfl⟩ : ∃ k:Nat,n=(k:Int):=⟨n.toNat,by omega⟩
 obtain ⟨S,e1,hI,_⟩:=qnp k (by omega) (by omega)
 rw [e1,Option.bind_some]
 have:=qi7 l hf keep (by omega) k q2a 0 S 0 [] (by have:=hf.2;unfold q2a;omega) (Nat.zero_le _) hI
 rw [Int.natCast_zero] at this
 simp only [Bool.not_true,cond_false]
 rw [this]
 rfl
theorem j0c:maxLen≤9223372036854775807:=by unfold maxLen;omega
abbrev StL:Ty:=.lst (.prod (.lst (.prod .bool (.prod .str .str))) (.prod (.int .i64) (.lst .bool)))
theorem step_ok {l:List qem} (h:qhn StL l):(∀ s∈l,s.1.length≤9223372036854775807)∧l.length≤9223372036854775807:=by
 have hM:=j0c
 refine ⟨fun s hs=>?_,Nat.le_trans h.1 hM⟩
 exact Nat.le_trans (h.2 s hs).1.1 hM
theorem qx1 (n:Int) (l:List qem) (hn:(Lit.int .i64 n).wf=true) (hl:qhn StL l):qlm q2a n l=some true:=qyn n l hn (step_ok hl).1 (step_ok hl).2
theorem qq3 (n:Int) (l:List qem) (keep:List Bool) (hn:(Lit.int .i64 n).wf=true) (hl:qhn StL l) (hk:qhn (.lst .bool) keep):qao q2a n l keep=some true:=qop n l keep hn (step_ok hl).1 (step_ok hl).2
end YthpgnliicpejoaaGreatDoor.AM
end Go.Proofs
namespace Go.Proofs
open Go.RowKit Go.Shelf Go.Lib
set_option linter.unusedVariables false
set_option linter.unusedSimpArgs false
namespace YthpgnliicpejoaaGreatDoor.AM
theorem hEt:Tryz.prog.globalNamed "errors.errorType" = some 0:=by kernel_rfl
theorem hRt:(Tryz.prog.cutTypes.find? (·.1 == "internal/reflectlite.rtype")).map (·.2)=some 197:=by kernel_rfl
theorem hOne:((List.range 277).filter fun t=>Tryz.prog.rowNamed t [101,114,114,111,114]) = [81]:=by kernel_rfl
theorem hSize:Tryz.prog.types.size=277:=by kernel_rfl
theorem jac {w:World} (hsh:w.ShapedOpen Tryz.prog) (h:laidMetH Tryz.prog [("unicode/utf8.acceptRanges",Rows.laid_unicode_utf8_acceptRanges),("errors.errorType",Rows.laid_errors_errorType),("unicode/utf8.first",Rows.laid_unicode_utf8_first)] w):Inv w:=by
 have h':laidMet Tryz.prog [("unicode/utf8.acceptRanges",Rows.laid_unicode_utf8_acceptRanges),("unicode/utf8.first",Rows.laid_unicode_utf8_first)] w∧handlesMet Tryz.prog [("errors.errorType",Rows.laid_errors_errorType)] w:=h
 obtain ⟨name,u,ty,e1,e2,e3,e4,e5⟩:=h'.2 _ (List.mem_singleton.2 rfl)
 have en:name = [101,114,114,111,114]:=(Option.some.inj e1).symm
 subst en
 obtain rfl:=Option.some.inj (hRt.symm.trans e2)
 have hm:ty∈(List.range 277).filter fun t=>Tryz.prog.rowNamed t [101,114,114,111,114]:=List.mem_filter.2 ⟨List.mem_range.2 (by rw [← hSize];exact e3),e4⟩
 rw [hOne] at hm
 obtain rfl:=List.mem_singleton.1 hm
 have hh:typeHandle Tryz.prog 81 = .pointer (some ⟨4,81,none⟩):=by kernel_rfl
 rw [hh] at e5
 exact ⟨by simpa using World.var?_cell hEt e5 0,Tryz.laysIndex.s1_3 w hsh⟩
noncomputable def wH (os:Os):World :=
 let w0:=World.holding Tryz.prog os ⟨#[],#[],[]⟩
 {w0 with heap:=w0.heap.modify 0 fun
   | .cells _ t frozen=>.cells #[.iface 197 (.agg #[.pointer (some ⟨4,81,none⟩)])] t frozen
   | o=>o }
noncomputable def laidW (os:Os) (laid:List (String×DataW Unit)):World:=(wH os).layVars Tryz.prog laid
theorem q9y {os:Os} {laid:List (String×DataW Unit)} (args:Array Value) (hf:(wH os).layFits Tryz.prog laid []=true) (hi:(wH os).layIfaces Tryz.prog laid (laidW os laid)=true) :
  laidMet Tryz.prog laid ((laidW os laid).forCall (fun _ _=>0) ⟨#[],args,[]⟩).memory:=by
 have e1:(laid.filter fun x=>(laid.map (·.1)).contains x.1)=laid:=List.filter_eq_self.2 fun x hx=>List.contains_iff_mem.2 (List.mem_map.2 ⟨x,hx,rfl⟩)
 have e2:(laid.filter fun x=>!(laid.map (·.1)).contains x.1) = []:=List.filter_eq_nil_iff.2 fun x hx=>by rw [List.contains_iff_mem.2 (List.mem_map.2 ⟨x,hx,rfl⟩)];simp
 have h:laidMet Tryz.prog laid (laidW os laid):=laidMet_layVars (w0:=wH os) (laid.map (·.1)) [] (by rw [e1];rfl) (by rw [e1];exact hf) (by rw [e1];exact hi) (by rw [e2];exact LaidIn.none)
 exact h.of_heap (by simp [World.memory,World.forCall,Input.heap])
end YthpgnliicpejoaaGreatDoor.AM
end Go.Proofs
