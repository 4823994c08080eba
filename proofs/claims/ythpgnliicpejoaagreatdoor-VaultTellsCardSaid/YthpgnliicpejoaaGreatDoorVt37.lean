
import Derived.Test.YthpgnliicpejoaaGreatDoorVt30
import Derived.Test.YthpgnliicpejoaaGreatDoorVt36
namespace Go.Proofs
open Go.RowKit
set_option linter.unusedVariables false
set_option linter.unusedSimpArgs false
namespace YthpgnliicpejoaaGreatDoor.AM
theorem quo2 (m:Nat) (hm:m<=100000):qo9 .i64 (m:Int) 2=some ((m / 2:Nat):Int):=by
 unfold qo9
 rw [if_pos (by decide)]
 have:(m:Int).tdiv 2=((m / 2:Nat):Int):=by
  rw [Int.tdiv_eq_ediv_of_nonneg (by omega)];omega
 rw [this,wrap64 (by omega) (by omega)]
theorem qn6 {a b:Nat} (h:b<=a) (ha:a<=1000000):IntKind.wrap .i64 ((a:Int) - (b:Int))=((a - b:Nat):Int):=by
 rw [wrap64 (by omega) (by omega)];omega
theorem qpk (N n:Nat) (hn:n<=100000):qeb N (n:Int)=some ((0:Int),(((n / 2:Nat):Int),(((n / 2:Nat):Int),((n - n / 2:Nat):Int)))):=by
 unfold qeb
 simp only [quo2 n hn,Option.bind_some]
 rw [qn6 (by omega) (by omega),q0j]
theorem j24 (N:Nat) (n:Int) (h1 : -9223372036854775808<=n) (h2:n<=9223372036854775807):qdi N n=some (if 8<=n/\n<=512 then (j5j 0 1,0) else ([],1)):=by
 unfold qdi
 by_cases c1:n<8
 ·rw [decide_eq_true c1,cond_true,if_neg (by omega)]
 ·rw [decide_eq_false c1,cond_false]
  by_cases c2:512<n
  ·rw [decide_eq_true c2,cond_true,if_neg (by omega)]
  ·rw [decide_eq_false c2,cond_false,if_pos ⟨by omega,by omega⟩]
   obtain ⟨m,rfl⟩ : ∃ m:Nat,n=(m:Int):=⟨n.toNat,by omega⟩
   rw [qpk N m (by omega),Option.bind_some]
   show Option.bind (qau N ((0:Int),((m / 2:Nat):Int)) 1) _=_
   rw [qfk N 0 _ 1 (by omega) (by omega),if_pos ⟨⟨by omega,by omega,by omega⟩,by decide⟩,Option.bind_some]
   rfl
def ji9 (B:BL) (n:Nat):Option Nat:=if qut B (fA n 0) then (if qut B (fA n 1)/\gA B n 0<gA B n 1 then some 1 else some 0) else if qut B (fA n 1) then some 1 else none
def cntT (B:BL) (n:Nat):Int×((Int×(List (List UInt8)×Int))×Bool):=match ji9 B n with
 | some h=>((h:Int),(j65 B (fA n h) (zA n h),true))
 | none=>(0,((0,([],0)),false))
theorem j1w (N:Nat) (hN:600<=N) (d:DkT) (hd:smD d) (n:Nat) (hn:(q0x d).secs.length=n) (h8:8<=n) (hm:DM.q2y (q0x d)) :
  qex N ((0:Int),(((n / 2:Nat):Int),(((n / 2:Nat):Int),((n - n / 2:Nat):Int)))) d=some (cntT (flat (q0x d)) n):=by
 have h512:n<=512:=by have:=hm.2.1;omega
 have o0:=qy0 N hN d hd 0 (n / 2) (j5s (by omega) (by omega) (by omega) hm)
 have o1:=qy0 N hN d hd (n / 2) (n - n / 2) (j5s (by omega) (by omega) (by omega) hm)
 have e0:fA n 0=0/\zA n 0=n / 2/\fA n 1=n / 2/\zA n 1=n - n / 2:=⟨rfl,rfl,rfl,rfl⟩
 obtain ⟨k1,k2,k3,k4⟩:=e0
 rw [Int.natCast_zero] at o0
 obtain ⟨M,rfl⟩ : ∃ M,N=M+3:=⟨N - 3,by omega⟩
 obtain ⟨d1,d2⟩:=d
 generalize flat (q0x (d1,d2))=B at o0 o1
 have w1:IntKind.wrap .i64 ((0:Int)+1)=1:=by decide
 have w2:IntKind.wrap .i64 ((1:Int)+1)=2:=by decide
 have t0:decide ((0:Int)<2)=true:=by decide
 have t1:decide ((1:Int)<2)=true:=by decide
 have t2:decide ((2:Int)<2)=false:=by decide
 have t3 : ¬ (1:Int)=0:=by decide
 have t5:decide ((5:Int)=0)=false:=by decide
 unfold qex cntT ji9 gA
 rw [q1c]
 unfold q2o
 rw [t0,cond_true,if_pos rfl,o0,Option.bind_some]
 rw [k1,k3]
 by_cases b0:qut B 0
 ·rw [if_pos b0,if_pos b0]
  simp only [decide_true,cond_true,Bool.not_false,w1,q0j]
  rw [q1c]
  unfold q2o
  rw [t1,cond_true,if_neg t3,if_pos rfl,o1,Option.bind_some]
  by_cases b1:qut B (n / 2)
  ·rw [if_pos b1]
   simp only [decide_true,cond_true,Bool.not_true,cond_false,w2,q0j,b1,true_and]
   by_cases c:qk4 B 0<qk4 B (n / 2)
   ·have c':(j65 B 0 (n / 2)).1<(j65 B (n / 2) (n - n / 2)).1:=c
    rw [decide_eq_true c',cond_true,if_pos c,q1c]
    unfold q2o
    rw [t2,cond_false,Option.bind_some]
    rfl
   ·have c' : ¬ (j65 B 0 (n / 2)).1<(j65 B (n / 2) (n - n / 2)).1:=c
    rw [decide_eq_false c',cond_false,if_neg c,q1c]
    unfold q2o
    rw [t2,cond_false,Option.bind_some]
    rfl
  ·rw [if_neg b1]
   simp only [t5,cond_false,w2,q0j,b1,false_and,if_false]
   rw [q1c]
   unfold q2o
   rw [t2,cond_false,Option.bind_some]
   rfl
 ·rw [if_neg b0,if_neg b0]
  simp only [t5,cond_false,w1,q0j]
  rw [q1c]
  unfold q2o
  rw [t1,cond_true,if_neg t3,if_pos rfl,o1,Option.bind_some]
  by_cases b1:qut B (n / 2)
  ·rw [if_pos b1]
   simp only [decide_true,cond_true,Bool.not_false,w2,q0j,b1,if_true]
   rw [q1c]
   unfold q2o
   rw [t2,cond_false,Option.bind_some]
   rfl
  ·rw [if_neg b1,if_neg b1]
   simp only [t5,cond_false,w2,q0j]
   rw [q1c]
   unfold q2o
   rw [t2,cond_false,Option.bind_some]
theorem j5k (s:List UInt8):(q8t s).1.length<=s.length:=by
 unfold q8t
 cases hp:q2t (s.length+1) s with
 | none=>simp
 | some out =>
  have:=(qda _ _ _ hp).1
  simp only
  split
  ·simp only;omega
  ·simp
def qs2 (e:Int):IV:=jn4 114 (.agg ⟨[.int .i64 e]⟩)
theorem qu7 (e:Int):q6e (Subtype.val (qs2 e))=some false/\q6x (qs2 e)=some e:=⟨rfl,rfl⟩
theorem j0h (N:Nat) (l:List FD) (x:List UInt8) (hl:l.length<=1000) (hx:x.length<=5000) :
  ∃ iv,qeu N l x=some (if (q8t x).2=0/\(q5c l (q8t x).1).2=0 then ((q5c l (q8t x).1).1,j8d) else ([],iv))/\(∃ e,iv=qs2 e):=by
 have hdl:(q8t x).1.length<=1000000:=by
  have:=j5k x
  omega
 unfold qeu qwv q86
 rw [if_pos (show x.length<=1000000 by omega),Option.bind_some]
 by_cases c1:(q8t x).2=0
 ·rw [decide_eq_true c1,Bool.not_true,cond_false,if_pos ⟨by omega,hdl⟩,Option.bind_some]
  by_cases c2:(q5c l (q8t x).1).2=0
  ·rw [decide_eq_true c2,Bool.not_true,cond_false]
   exact ⟨qs2 0,by rw [if_pos ⟨c1,c2⟩],0,rfl⟩
  ·rw [decide_eq_false c2,Bool.not_false,cond_true]
   exact ⟨qs2 (q5c l (q8t x).1).2,by rw [if_neg (fun h=>c2 h.2)];rfl,_,rfl⟩
 ·rw [decide_eq_false c1,Bool.not_false,cond_true]
  exact ⟨qs2 (q8t x).2,by rw [if_neg (fun h=>c1 h.1)];rfl,_,rfl⟩
theorem qwl (N:Nat) (its:List (List UInt8)) (hits : ∀x∈its,x.length<=5000) (hlen:its.length<=1000) (b0 b1 b2 b3 b4 b5 b6:Int) (f0 z0 f1 z1 h g nx:Int) : ∀(m i:Nat) (l:List FD),its.length - i<m->i<=its.length->q7s l=true ->
  ∃ o,q5g N m its (its.length:Int) (i:Int) b0 b1 b2 b3 b4 b5 b6 f0 z0 f1 z1 h g its nx l=some o /\
   match j7q l (its.drop i) with
   | some k=>∃ u v w,o=Sum.inr (u,((v,((f0,(z0,(f1,(z1,(h,(g,(its,(nx,k)))))))),())),w))
   | none=>∃ iv st,o=Sum.inl (((),(iv,())),st)/\q6e (Subtype.val iv)=some false/\q6x iv=some 4
 | 0,i,l,hm,_,_=>by omega
 | m+1,i,l,hm,hi,hl=>by
  rw [qie]
  unfold qsg
  by_cases c:i<its.length
  ·have hd:its.drop i=its[i]::its.drop (i+1):=List.drop_eq_getElem_cons c
   have hll:=qd1 hl
   obtain ⟨iv,hr,e,rfl⟩:=j0h N l its[i] (by omega) (hits _ (List.getElem_mem c))
   rw [decide_eq_true (by omega),cond_true,q26 c,Option.bind_some,hr,Option.bind_some,hd]
   unfold j7q
   by_cases c2:(q8t its[i]).2=0/\(q5c l (q8t its[i]).1).2=0
   ·have w1:IntKind.wrap .i64 ((i:Int)+1)=((i+1:Nat):Int):=q0w (by omega)
    rw [if_pos c2,if_pos c2]
    show ∃ o,(Option.bind (some true) _=some o)/\_
    rw [Option.bind_some]
    simp only [Bool.not_true,cond_false,w1,q0j]
    exact qwl N its hits hlen b0 b1 b2 b3 b4 b5 b6 f0 z0 f1 z1 h g nx m (i+1) _ (by omega) (by omega) (qdu (ops:=(q8t its[i]).1) (l:=l) (by rw [<-c2.2]))
   ·rw [if_neg c2,if_neg c2]
    refine ⟨_,rfl,_,_,rfl,rfl,rfl⟩
  ·rw [decide_eq_false (by omega),cond_false]
   have hd:its.drop i = []:=List.drop_eq_nil_of_le (by omega)
   rw [hd]
   exact ⟨_,rfl,_,_,_,rfl⟩
def qus (D:DM.Dk):Int⊕(Nat×List FD) :=
 if DM.q2y D/\8<=D.secs.length then (match ji9 (flat D) D.secs.length with
  | none=>.inl 5
  | some h=>match j7q [] ((lA (flat D) D.secs.length h).1.map unB) with
   | none=>.inl 4
   | some fs=>.inr (h,fs)) else .inl 1
theorem j06 {B:BL} {n h:Nat} (hc:ji9 B n=some h):h<=1:=by
 unfold ji9 at hc
 split at hc
 ·split at hc<;>(have:=Option.some.inj hc;omega)
 ·split at hc
  ·have:=Option.some.inj hc;omega
  ·cases hc
abbrev StT:=Int×(Int×(Int×(Int×(Int×(Int×(List (List UInt8)×(Int×List FD)))))))
theorem j3l (B:BL) (n h:Nat) : ∀x∈(lA B n h).1.map unB,x.length<=5000:=fun x hx=>by
 obtain ⟨y,hy,rfl⟩:=List.mem_map.1 hx
 have:=qle (B:=B) (e:=fA n h+zA n h) (g:=qk4 B (fA n h)) (zA n h - 1) (fA n h+1) [] (fun x hx=>by cases hx) y hy
 rw [qap];omega
theorem qh0 (N:Nat) (hN:1200<=N) (d:DkT) (hd:smD d) : ∃ (st:StT) (iv:IV),qgp N d=some (st,iv)/\match qus (q0x d) with
  | .inl e=>q6e (Subtype.val iv)=some false/\q6x iv=some e
  | .inr (h,fs)=>iv=j8d/\st=(0,(((d.1.length / 2:Nat):Int),(((d.1.length / 2:Nat):Int),(((d.1.length - d.1.length / 2:Nat):Int),((h:Int),(gA (flat (q0x d)) d.1.length h,((lA (flat (q0x d)) d.1.length h).1.map unB,(((lA (flat (q0x d)) d.1.length h).2:Int),fs)))))))):=by
 have hdl:=(q9c d).1
 unfold qgp jp0 qus
 rw [Option.bind_some]
 by_cases hm:DM.q2y (q0x d)
 case neg =>
  rw [decide_eq_false hm,Bool.not_false,cond_true,if_neg (fun h=>hm h.1)]
  exact ⟨_,qs2 1,rfl,qu7 1⟩
 rw [decide_eq_true hm,Bool.not_true,cond_false]
 have h512:d.1.length<=512:=by have:=hm.2.1;omega
 by_cases h8:8<=d.1.length
 case neg =>
  rw [decide_eq_true (by omega),cond_true,if_neg (fun h=>h8 (by omega))]
  exact ⟨_,qs2 1,rfl,qu7 1⟩
 rw [decide_eq_false (by omega),cond_false,if_pos ⟨hm,by omega⟩,qpk N _ (by omega),Option.bind_some,j1w N (by omega) d hd d.1.length hdl h8 hm,Option.bind_some,hdl]
 generalize flat (q0x d)=B
 generalize d.1.length=n at *
 unfold cntT
 cases hc:ji9 B n with
 | none=>exact ⟨_,qs2 5,rfl,qu7 5⟩
 | some h =>
  have hh:=j06 hc
  obtain ⟨z1,z2,_⟩:=qnm h8 hh
  have hin:=(j2s (B:=B) (f:=fA n h) (z:=zA n h) (by omega) (by omega)).2.2
  have hll:((lA B n h).1.map unB).length<=1000:=by rw [List.length_map];unfold lA;omega
  obtain ⟨o,ho,hcase⟩:=qwl N ((lA B n h).1.map unB) (j3l B n h) hll 0 0 0 0 0 0 0 0 ((n / 2:Nat):Int) ((n / 2:Nat):Int) ((n - n / 2:Nat):Int) (h:Int) (gA B n h) ((lA B n h).2:Int) N 0 [] (by omega) (Nat.zero_le _) qbz
  rw [Int.natCast_zero] at ho
  rw [List.drop_zero] at hcase
  show ∃ st iv,(bif !true then _ else Option.bind (q5g N N ((lA B n h).1.map unB) (((lA B n h).1.map unB).length:Int) 0 0 0 0 0 0 0 0 0 ((n / 2:Nat):Int) ((n / 2:Nat):Int) ((n - n / 2:Nat):Int) (h:Int) (gA B n h) ((lA B n h).1.map unB) ((lA B n h).2:Int) []) _)=some (st,iv)/\_
  rw [Bool.not_true,cond_false,ho,Option.bind_some]
  cases hr:j7q [] ((lA B n h).1.map unB) with
  | none =>
   rw [hr] at hcase
   obtain ⟨iv,st,rfl,h1,h2⟩:=hcase
   refine ⟨_,iv,rfl,?_⟩
   simp only [hr]
   exact ⟨h1,h2⟩
  | some k =>
   rw [hr] at hcase
   obtain ⟨u,v,w,rfl⟩:=hcase
   refine ⟨_,j8d,rfl,?_⟩
   simp only [hr]
   exact ⟨trivial,trivial⟩
def qez (D:DM.Dk):(Int×(Int×(Int×(Int×List FD))))×Int:=match qus D with
 | .inl e=>((0,(0,(0,(0,[])))),e)
 | .inr (h,fs)=>(((h:Int),(gA (flat D) D.secs.length h,((((lA (flat D) D.secs.length h).1.length:Nat):Int),(((lA (flat D) D.secs.length h).2:Int),fs)))),0)
theorem ja1 (N:Nat) (hN:1200<=N) (d:DkT) (hd:smD d):q8g N d=some (qez (q0x d)):=by
 obtain ⟨st,iv,h1,h2⟩:=qh0 N hN d hd
 have hdl:=(q9c d).1
 unfold q8g qez
 rw [h1,Option.bind_some]
 cases hc:qus (q0x d) with
 | inl e =>
  rw [hc] at h2
  simp only [h2.1,Option.bind_some,Bool.not_false,cond_true,h2.2]
 | inr p =>
  obtain ⟨h,fs⟩:=p
  rw [hc] at h2
  obtain ⟨rfl,rfl⟩:=h2
  show Option.bind (some true) _=_
  rw [Option.bind_some]
  simp only [Bool.not_true,cond_false,List.length_map,hdl]
def jkl (D:DM.Dk):Int:=match qus D with
 | .inl _=>0
 | .inr (h,_)=>((fA D.secs.length h+zA D.secs.length h - (lA (flat D) D.secs.length h).2:Nat):Int)
theorem qqs {D:DM.Dk} {h:Nat} {fs:List FD} (hc:qus D = .inr (h,fs)):DM.q2y D/\8<=D.secs.length/\D.secs.length<=512/\h<=1/\ji9 (flat D) D.secs.length=some h/\j7q [] ((lA (flat D) D.secs.length h).1.map unB)=some fs:=by
 unfold qus at hc
 split at hc
 case isFalse=>cases hc
 rename_i h1
 split at hc
 ·cases hc
 ·rename_i k hk
  split at hc
  ·cases hc
  ·rename_i g hg
   simp only [Sum.inr.injEq,Prod.mk.injEq] at hc
   obtain ⟨rfl,rfl⟩:=hc
   exact ⟨h1.1,h1.2,h1.1.2.1,j06 hk,hk,hg⟩
theorem qtk {D:DM.Dk} {h:Nat} {fs:List FD} (hc:qus D = .inr (h,fs)):fA D.secs.length h+1<=(lA (flat D) D.secs.length h).2/\(lA (flat D) D.secs.length h).2<=fA D.secs.length h+zA D.secs.length h/\(lA (flat D) D.secs.length h).1.length<=512/\fA D.secs.length h+zA D.secs.length h<=512/\4<=zA D.secs.length h:=by
 obtain ⟨h1,h2,h3,h4,_⟩:=qqs hc
 obtain ⟨z1,z2,_⟩:=qnm h2 h4
 obtain ⟨a,b,c⟩:=j2s (B:=flat D) (f:=fA D.secs.length h) (z:=zA D.secs.length h) (by omega) (by omega)
 exact ⟨a,b,c,by omega,z1⟩
theorem free_spec (N:Nat) (hN:1200<=N) (d:DkT) (hd:smD d):qfy N d=some (jkl (q0x d)):=by
 obtain ⟨st,iv,h1,h2⟩:=qh0 N hN d hd
 have hdl:=(q9c d).1
 unfold qfy jkl
 rw [h1,Option.bind_some]
 cases hc:qus (q0x d) with
 | inl e =>
  rw [hc] at h2
  simp only [h2.1,Option.bind_some,Bool.not_false,cond_true]
 | inr p =>
  obtain ⟨h,fs⟩:=p
  obtain ⟨a1,a2,a3,a4,a5⟩:=qtk hc
  obtain ⟨_,h8,h512,hh,_⟩:=qqs hc
  rw [hc] at h2
  obtain ⟨rfl,rfl⟩:=h2
  show Option.bind (some true) _=_
  rw [Option.bind_some]
  rw [hdl] at a1 a2 a3 a4 a5 h8 h512
  simp only [Bool.not_true,cond_false,hdl]
  generalize d.1.length=n at *
  generalize lA (flat (q0x d)) n h=L at *
  match h,hh with
  | 0,_ =>
   have e1:fA n 0=0:=rfl
   have e2:zA n 0=n / 2:=rfl
   rw [e1] at a1
   rw [e1,e2] at a2 a4
   rw [if_pos (show ((0:Nat):Int)=0 from rfl),e1,e2]
   have w1:IntKind.wrap .i64 ((0:Int)+((n / 2:Nat):Int))=((n / 2:Nat):Int):=by rw [wrap64 (by omega) (by omega)];omega
   have w2:IntKind.wrap .i64 (((n / 2:Nat):Int) - (L.2:Int))=((n / 2 - L.2:Nat):Int):=by rw [wrap64 (by omega) (by omega)];omega
   rw [w1,q0j,w2,q0j,Nat.zero_add]
  | 1,_ =>
   have e1:fA n 1=n / 2:=rfl
   have e2:zA n 1=n - n / 2:=rfl
   rw [e1] at a1
   rw [e1,e2] at a2 a4
   rw [if_neg (show ¬ ((1:Nat):Int)=0 by decide),if_pos (show ((1:Nat):Int)=1 from rfl),e1,e2]
   have w1:IntKind.wrap .i64 (((n / 2:Nat):Int)+((n - n / 2:Nat):Int))=((n / 2+(n - n / 2):Nat):Int):=by rw [wrap64 (by omega) (by omega)];omega
   have w2:IntKind.wrap .i64 (((n / 2+(n - n / 2):Nat):Int) - (L.2:Int))=((n / 2+(n - n / 2) - L.2:Nat):Int):=by rw [wrap64 (by omega) (by omega)];omega
   rw [w1,q0j,w2,q0j]
end YthpgnliicpejoaaGreatDoor.AM
end Go.Proofs
namespace Go.Proofs
open Go.RowKit
set_option linter.unusedVariables false
set_option linter.unusedSimpArgs false
namespace YthpgnliicpejoaaGreatDoor.AM
theorem jby:qlo=q71:=rfl
theorem qze (n:Nat) (hn:600<=n) (f z nx:Nat) (g:Int) (its:List (List UInt8)) (p:List UInt8) (h1:f+z<=512) (h2:2<=z) (h3:f<nx) (h4:nx<=f+z) (hg:0<=g/\g<=1073741824) (hq:its.length<=65535) :
  qjr n ((f:Int),(z:Int)) (g,(its,(nx:Int))) p=some (if 4096<p.length then (((),2),((),([],()))) else if f+z<nx+1+RM.q2l (ba p) then (((),3),((),([],()))) else (((),0),((),(qcg (jah nx (ba p) (txB g its.length (ba p))),())))):=by
 have hM:=max_eq
 unfold qjr qy2
 simp only
 rw [qjl n f z (by omega) (by omega),decide_eq_true (show chk (f:Int) (z:Int) from ⟨by omega,by omega,by omega⟩),Option.bind_some,cond_true,decide_eq_true (by omega),cond_true,wrap_add (by omega) (by omega),q0j,Option.bind_some,decide_eq_true (by omega),Bool.not_true,cond_false,
  decide_eq_false (by omega),cond_false,decide_eq_false (by omega),cond_false,decide_eq_false (by omega),cond_false]
 by_cases c1:4096<p.length
 ·rw [decide_eq_true (by omega),cond_true,if_pos c1]
 have hsz:(ba p).size=p.length:=q29 p
 have hdat:(ba p).data.toList=p:=qgv p
 have hcut:RM.q0u (p.length:Int)=(RM.q2l (ba p):Int):=by rw [<-hsz];exact RM.qpn _ (by omega)
 have hcl:=RM.q4q (ba p)
 rw [decide_eq_false (by omega),cond_false,if_neg c1,qdy n f z nx h1 (by omega),Option.bind_some]
 unfold q4b
 rw [if_pos (show qot (p.length:Int) by unfold qot;omega),Option.bind_some,hcut,wrap64 (by omega) (by omega),q0j]
 by_cases c2:f+z<nx+1+RM.q2l (ba p)
 ·rw [decide_eq_true (by omega),cond_true,if_pos c2]
 rw [decide_eq_false (by omega),cond_false,if_neg c2]
 have hm:RM.may 2 g (its.length:Int) (p.length:Int) (SM.q1d 1 p):=⟨Or.inr rfl,hg,⟨by omega,by omega⟩,⟨by omega,by omega⟩,SM.qan _ _⟩
 show Option.bind (qco n 2 g (its.length:Int) p) _=_
 rw [qeq n 2 g (its.length:Int) p (by omega),if_pos hm,Option.bind_some]
 unfold qvd
 rw [if_pos (by omega),Option.bind_some]
 have hll:((RM.q59 (ba p)).map unB).length=RM.q2l (ba p):=by rw [List.length_map,RM.q1k]
 rw [hll]
 have hloop:=qs0 n (unB (RM.q3i 2 g (its.length:Int) (p.length:Int) (SM.q1d 1 p))) (ba p) f z nx (by omega) (RM.q2l (ba p)) rfl hcl n 0 (by omega) (Nat.zero_le _)
 have e0:qcg (qs4 nx (ba p) 0) = []:=rfl
 rw [e0] at hloop
 have hloop':=hloop
 rw [Int.natCast_zero] at hloop'
 simp only
 rw [jby,hloop',Option.bind_some,q4i (by rw [q3t,q7k];simp;omega),Option.bind_some]
 have etx:txB g its.length (ba p)=RM.q3i 2 g (its.length:Int) (p.length:Int) (SM.q1d 1 p):=by unfold txB;rw [hdat,hsz]
 unfold jah
 rw [etx]
 unfold qcg
 rw [List.map_append]
 rfl
theorem j4a {l:List OD} (h : ∀o∈l,o.2.1.length<=1000000/\o.2.2.length<=1000000):qn8 l=some (q6q l):=by
 unfold qn8
 rw [if_pos (List.all_eq_true.2 fun o ho=>by simp [h o ho])]
theorem qj3 {p:List UInt8} (h:q3n p=true):p.length<=60:=by
 unfold q3n at h
 simp only [Bool.and_eq_true,decide_eq_true_eq] at h
 omega
theorem j3o {k:List FD} (hk:q7s k=true) : ∀o∈q7b [] k,o.2.1.length<=1000000/\o.2.2.length<=1000000:=fun o ho=>by
 unfold q7b at ho
 rw [qbz,hk] at ho
 have ho':o∈q1n (([]:List FD).length+k.length) [] k:=ho
 rw [j4q _ k (by simp)] at ho'
 obtain ⟨f,hf,rfl⟩:=List.mem_map.1 ho'
 have h1:=((qbr k).1 hk).2.1 f hf
 unfold okF at h1
 simp only [Bool.and_eq_true,decide_eq_true_eq] at h1
 have h2:=qj3 h1.1
 exact ⟨by simp only;omega,by simp only;omega⟩
def jba (B:BL) (n h:Nat) (after:List FD):AcT×Int :=
 if (q6q (q7b [] after)).2≠0 then ([],(q6q (q7b [] after)).2) else if 1073741824<=gA B n h then ([],15)
 else if fA n (1 - h)+zA n (1 - h)<fA n (1 - h)+1+1+RM.q2l (ba (q6q (q7b [] after)).1) then ([],3) else (qcg (j7w n h (gA B n h) (ba (q6q (q7b [] after)).1)),0)
theorem jbv (N:Nat) (hN:600<=N) (B:BL) (n h:Nat) (h8:8<=n) (h512:n<=512) (hh:h<=1) (its:List (List UInt8)) (nx:Int) (fs after:List FD) (ha:q7s after=true) :
  qd6 N (0,(((n / 2:Nat):Int),(((n / 2:Nat):Int),(((n - n / 2:Nat):Int),((h:Int),(gA B n h,(its,(nx,fs)))))))) after=some (jba B n h after):=by
 have hal:=qd1 ha
 have hgen:0<=gA B n h/\gA B n h<=1073741824:=qt3 B (fA n h)
 obtain ⟨z1,z2,_⟩:=qnm (n:=n) (h:=1 - h) h8 (by omega)
 have hel:=qsu (q7b [] after)
 have hem:=j3o ha
 unfold qd6 jba
 rw [j98 N [] after (by simp) (by omega) (by simp;omega),Option.bind_some,j4a hem,Option.bind_some]
 generalize q6q (q7b [] after)=q at *
 by_cases c1:q.2=0
 case neg=>rw [decide_eq_false c1,Bool.not_false,cond_true,if_pos c1]
 rw [decide_eq_true c1,Bool.not_true,cond_false,if_neg (fun hn=>hn c1)]
 by_cases c2:1073741824<=gA B n h
 ·rw [decide_eq_true c2,cond_true,if_pos c2]
 rw [decide_eq_false c2,cond_false,if_neg c2]
 have w1:IntKind.wrap .i64 (gA B n h+1)=gA B n h+1:=wrap64 (by omega) (by omega)
 have ap : ∀a b:AcT,a.length<=1000->b.length<=1000->q2g 32 a b=some (a++b):=fun a b h1 h2=>by rw [q4i (by omega)]
 have hcut:=RM.q4q (ba q.1)
 match h,hh with
 | 0,_ =>
  have e1:fA n (1 - 0)=n / 2:=rfl
  have e2:zA n (1 - 0)=n - n / 2:=rfl
  rw [e2] at z1
  rw [e1,e2] at z2 ⊢
  have w0:IntKind.wrap .i64 ((1:Int) - ((0:Nat):Int))=1:=by decide
  have w2:IntKind.wrap .i64 (((n / 2:Nat):Int)+1)=((n / 2+1:Nat):Int):=q0w (by omega)
  simp only [w0,q0j,w1,w2]
  rw [if_neg (show ¬ (1:Int)=0 by decide),if_pos trivial,qze N hN (n / 2) (n - n / 2) (n / 2+1) (gA B n 0+1) [] q.1 (by omega) (by omega) (by omega) (by omega) (by omega) (Nat.zero_le _),Option.bind_some,if_neg (show ¬ 4096<q.1.length by omega)]
  by_cases c3:n / 2+(n - n / 2)<n / 2+1+1+RM.q2l (ba q.1)
  ·rw [if_pos c3,if_pos c3];rfl
  ·rw [if_neg c3,if_neg c3,qfk N _ _ _ (by omega) (by omega),if_pos ⟨⟨by omega,by omega,by omega⟩,by omega,by omega⟩]
   simp only [decide_true,Bool.not_true,cond_false,Option.bind_some]
   rw [ap _ _ (by rw [q3t,qff];omega) (by simp),Option.bind_some]
   unfold j7w qcg
   rw [List.map_append]
   rfl
 | 1,_ =>
  have e1:fA n (1 - 1)=0:=rfl
  have e2:zA n (1 - 1)=n / 2:=rfl
  rw [e2] at z1
  rw [e1,e2] at z2 ⊢
  have w0:IntKind.wrap .i64 ((1:Int) - ((1:Nat):Int))=0:=by decide
  have w2:IntKind.wrap .i64 ((0:Int)+1)=((0+1:Nat):Int):=by decide
  simp only [w0,q0j,w1,w2]
  have ha:=qze N hN 0 (n / 2) (0+1) (gA B n 1+1) [] q.1 (by omega) (by omega) (by omega) (by omega) (by omega) (Nat.zero_le _)
  rw [Int.natCast_zero] at ha
  rw [if_pos trivial,ha,Option.bind_some,if_neg (show ¬ 4096<q.1.length by omega)]
  by_cases c3:0+n / 2<0+1+1+RM.q2l (ba q.1)
  ·rw [if_pos c3,if_pos c3];rfl
  ·rw [if_neg c3,if_neg c3,qfk N _ _ _ (by omega) (by omega),if_pos ⟨⟨by omega,by omega,by omega⟩,by omega,by omega⟩]
   simp only [decide_true,Bool.not_true,cond_false,Option.bind_some]
   rw [ap _ _ (by rw [q3t,qff];omega) (by simp),Option.bind_some]
   unfold j7w qcg
   rw [List.map_append]
   rfl
def qhf (D:DM.Dk) (ops:List OD):AcT×Int:=match qus D with
 | .inl e=>([],e)
 | .inr (h,fs)=>if (q5c fs ops).2≠0 then ([],(q5c fs ops).2) else if (q6q ops).2≠0 then ([],(q6q ops).2)
  else if fA D.secs.length h+zA D.secs.length h<(lA (flat D) D.secs.length h).2+1+RM.q2l (ba (q6q ops).1) then jba (flat D) D.secs.length h (q5c fs ops).1
  else (qcg (jah (lA (flat D) D.secs.length h).2 (ba (q6q ops).1) (txB (gA (flat D) D.secs.length h) (lA (flat D) D.secs.length h).1.length (ba (q6q ops).1))),0)
theorem j2y (N:Nat) (hN:1200<=N) (d:DkT) (hd:smD d) (ops:List OD) (ho:ops.length<=100000) (hp : ∀o∈ops,o.2.1.length<=1000000/\o.2.2.length<=1000000):q74 N d ops=some (qhf (q0x d) ops):=by
 obtain ⟨st,iv,h1,h2⟩:=qh0 N hN d hd
 have hdl:=(q9c d).1
 unfold q74 qhf
 rw [h1,Option.bind_some]
 cases hc:qus (q0x d) with
 | inl e =>
  rw [hc] at h2
  simp only [h2.1,Option.bind_some,Bool.not_false,cond_true,h2.2]
 | inr p =>
  obtain ⟨h,fs⟩:=p
  obtain ⟨a1,a2,a3,a4,a5⟩:=qtk hc
  obtain ⟨_,h8,h512,hh,_,hrep⟩:=qqs hc
  rw [hc] at h2
  obtain ⟨rfl,rfl⟩:=h2
  have hfs:=qd1 (qjj _ qbz hrep)
  have hel:=qsu ops
  show Option.bind (some true) _=_
  rw [Option.bind_some]
  rw [hdl] at a1 a2 a4 a5 h8 h512 hrep
  simp only [Bool.not_true,cond_false,hdl]
  unfold q86
  rw [if_pos ⟨by omega,by omega⟩,Option.bind_some]
  by_cases c1:(q5c fs ops).2=0
  case neg=>rw [decide_eq_false c1,Bool.not_false,cond_true,if_pos c1]
  rw [decide_eq_true c1,Bool.not_true,cond_false,if_neg (show ¬ (q5c fs ops).2≠0 from fun hn=>hn c1),j4a hp,Option.bind_some]
  by_cases c2:(q6q ops).2=0
  case neg=>rw [decide_eq_false c2,Bool.not_false,cond_true,if_pos c2]
  rw [decide_eq_true c2,Bool.not_true,cond_false,if_neg (show ¬ (q6q ops).2≠0 from fun hn=>hn c2)]
  have haf:q7s (q5c fs ops).1=true:=qdu (ops:=ops) (l:=fs) (by rw [<-c1])
  rw [hdl] at a3
  have hgen:0<=gA (flat (q0x d)) d.1.length h/\gA (flat (q0x d)) d.1.length h<=1073741824:=qt3 _ _
  have hmv:=jbv N (by omega) (flat (q0x d)) d.1.length h h8 h512 hh ((lA (flat (q0x d)) d.1.length h).1.map unB) ((lA (flat (q0x d)) d.1.length h).2:Int) fs (q5c fs ops).1 haf
  have hadd:=jkr N (by omega) (fA d.1.length h) (zA d.1.length h) (lA (flat (q0x d)) d.1.length h).2 (gA (flat (q0x d)) d.1.length h) ((lA (flat (q0x d)) d.1.length h).1.map unB) (q6q ops).1 (by omega) (by omega) (by omega) a2 hgen (by rw [List.length_map];omega)
  rw [if_neg (by omega),List.length_map] at hadd
  generalize d.1.length=n at *
  match h,hh with
  | 0,_ =>
   have e1:fA n 0=0:=rfl
   have e2:zA n 0=n / 2:=rfl
   rw [if_pos (show ((0:Nat):Int)=0 from rfl)]
   rw [e1,e2,Int.natCast_zero] at hadd
   rw [hadd,Option.bind_some]
   rw [e1,e2]
   by_cases c3:0+n / 2<(lA (flat (q0x d)) n 0).2+1+RM.q2l (ba (q6q ops).1)
   ·rw [if_pos c3,if_pos c3]
    show Option.bind (qd6 N _ (q5c fs ops).1) _=_
    rw [hmv,Option.bind_some]
   ·rw [if_neg c3,if_neg c3]
    rfl
  | 1,_ =>
   have e1:fA n 1=n / 2:=rfl
   have e2:zA n 1=n - n / 2:=rfl
   rw [if_neg (show ¬ ((1:Nat):Int)=0 by decide),if_pos (show ((1:Nat):Int)=1 from rfl)]
   rw [e1,e2] at hadd
   rw [hadd,Option.bind_some]
   rw [e1,e2]
   by_cases c3:n / 2+(n - n / 2)<(lA (flat (q0x d)) n 1).2+1+RM.q2l (ba (q6q ops).1)
   ·rw [if_pos c3,if_pos c3]
    show Option.bind (qd6 N _ (q5c fs ops).1) _=_
    rw [hmv,Option.bind_some]
   ·rw [if_neg c3,if_neg c3]
    rfl
end YthpgnliicpejoaaGreatDoor.AM
end Go.Proofs
namespace Go.Proofs
open Go.RowKit
set_option linter.unusedVariables false
set_option linter.unusedSimpArgs false
namespace YthpgnliicpejoaaGreatDoor.AM
def q1j:Nat:=9223372036854775808
theorem j29:qdz q1j=some true:=by decide +kernel
abbrev jru:=List OD×(Int×List Bool)
def jtp (s:jru):Prop:=jn2 s.1=true/\s.2.2.length<=1000
instance:DecidablePred jtp:=fun s=>inferInstanceAs (Decidable (_/\_))
theorem j0o {ops:List OD} (h:jn2 ops=true):ops.length<=100/\∀o∈ops,o.2.1.length<=1000000/\o.2.2.length<=1000000:=by
 unfold jn2 at h
 simp only [Bool.and_eq_true,decide_eq_true_eq,List.all_eq_true] at h
 refine ⟨h.2,fun o ho=>?_⟩
 have:=h.1 o ho
 omega
structure Acts6 (B:BL) (n h:Nat) (fs after:List FD) (L:List DM.Ac):Prop where
 ne:0<L.length
 len:L.length<=1000
 size : ∀a∈L,a.2.2.size<=32
 ok : ∀a∈L,DM.q9h B.length a
 cut : ∀(N:Nat) (keep:Nat->Bool),∃ X,DM.q3r keep (DM.runK ⟨B,[]⟩ (L.take N))=⟨X,[]⟩/\(N=0->VI X n h fs)/\(VI X n h fs \/ ∃ h',VI X n h' after)/\(L.length<=N->∃ h',VI X n h' after)
 full : ∃ X,DM.runK ⟨B,[]⟩ L=⟨X,[]⟩/\((VI X n h after/\gA X n h=gA B n h/\(lA X n h).1.length=(lA B n h).1.length+1/\(lA B n h).2<(lA X n h).2)\/(VI X n (1 - h) after/\gA X n (1 - h)=gA B n h+1/\(lA X n (1 - h)).1.length=1))
theorem j6x (d:DM.Dk) (l:List DM.Ac) (hm:DM.q2y d) (hok : ∀a∈l,DM.q9h d.secs.length a) (hl:l.length<=1000) (hc:d.cache.length=0):smD (ji8 (DM.runK d l)):=by
 refine jr3 ?_ ?_
 ·have:=(DM.jeb hm hok).2.1;omega
 ·have key : ∀(l:List DM.Ac) (d:DM.Dk),(DM.runK d l).cache.length<=d.cache.length+l.length:=by
   intro l
   induction l with
   | nil=>intro d;exact Nat.le_refl _
   | cons a l ih =>
    intro d
    have h1:=ih (DM.q9g d a)
    have h2:(DM.q9g d a).cache.length<=d.cache.length+1:=by
     unfold DM.q9g
     split
     ·show (DM.q3r _ d).cache.length<=_;exact Nat.zero_le _
     ·show (DM.jrc d a.2.1 a.2.2).cache.length<=_;unfold DM.jrc;simp
    show (DM.runK (DM.q9g d a) l).cache.length<=_
    simp only [List.length_cons];omega
  have:=key l d
  omega
end YthpgnliicpejoaaGreatDoor.AM
end Go.Proofs
namespace Go.Proofs
open Go.RowKit
set_option linter.unusedVariables false
set_option linter.unusedSimpArgs false
namespace YthpgnliicpejoaaGreatDoor.AM
theorem same5 (a b:List FD) (ha:q7s a=true):qea q1j a b=some (decide (a=b)):=by
 have:=qd1 ha
 exact j05 q1j a b (by omega) (by unfold q1j;omega)
theorem jrx {a:List FD} (ha:q7s a=true) {ops:List OD} (ho:jn2 ops=true):q5k q1j a ops=some (q5c a ops):=by
 obtain ⟨h1,h2⟩:=j0o ho
 have h3:=qd1 ha
 refine qi8 q1j a ops (by omega) (by omega) (fun f hf=>?_) (fun o h=>(h2 o h).1) (by unfold q1j;omega) (by unfold q1j;omega)
 have:=qj3 (qnq (((qbr a).1 ha).2.1 f hf)).1
 omega
theorem enc5 {ops:List OD} (h1:ops.length<=1000000) (h2 : ∀o∈ops,o.2.1.length<=1000000/\o.2.2.length<=1000000):q40 q1j ops=some (q6q ops) :=
 qee q1j ops h1 h2 (by unfold q1j;omega) (by unfold q1j;omega)
theorem jtn {a b c d:Int} {fs:List FD} (h:q7s fs=true):qf9 q1j (a,(b,(c,(d,fs)))) (a,(b,(c,(d,fs))))=some true:=by
 unfold qf9
 simp only [decide_true,cond_true,same5 fs fs h,Option.bind_some]
end YthpgnliicpejoaaGreatDoor.AM
end Go.Proofs
namespace Go.Proofs
open Go.RowKit
set_option linter.unusedVariables false
set_option linter.unusedSimpArgs false
namespace YthpgnliicpejoaaGreatDoor.AM
theorem jt3 {p:ByteArray} (h:p.size<=4096):RM.q2l p=(p.size+30) / 31:=by unfold RM.q2l;rw [if_pos h]
theorem qvo:maxLen<=9223372036854775807:=by unfold maxLen;omega
abbrev StL:Ty:=.lst (.prod (.lst (.prod .bool (.prod .str .str))) (.prod (.int .i64) (.lst .bool)))
theorem step_ok {l:List jru} (h:qor StL l):(∀s∈l,s.1.length<=9223372036854775807)/\l.length<=9223372036854775807:=by
 have hM:=qvo
 refine ⟨fun s hs=>?_,Nat.le_trans h.1 hM⟩
 exact Nat.le_trans (h.2 s hs).1.1 hM
end YthpgnliicpejoaaGreatDoor.AM
end Go.Proofs
namespace Go.Proofs
open Go.RowKit
set_option linter.unusedVariables false
set_option linter.unusedSimpArgs false
namespace YthpgnliicpejoaaGreatDoor.AM
theorem qds (N:Nat) (f z:Int) (h1 : -9223372036854775808<=f) (h2:f<=9223372036854775807):qbs N (f,z)=some (decide (chk f z)):=by
 unfold qbs
 by_cases c1:0<=f
 ·rw [decide_eq_true c1,cond_true]
  by_cases c2:2<=z
  ·rw [decide_eq_true c2,cond_true]
   by_cases c3:z<=512
   ·rw [decide_eq_true c3,cond_true,wrap64 (by omega) (by omega),q0j]
    congr 1
    by_cases c4:f<=512 - z
    ·rw [decide_eq_true c4,decide_eq_true (show chk f z from ⟨c1,c2,by omega⟩)]
    ·rw [decide_eq_false c4,decide_eq_false (fun h:chk f z=>c4 (by have:=h.2.2;omega))]
   ·rw [decide_eq_false c3,cond_false,decide_eq_false (fun h:chk f z=>c3 (by have:=h.2.2;have:=h.1;omega))]
  ·rw [decide_eq_false c2,cond_false,decide_eq_false (fun h:chk f z=>c2 h.2.1)]
 ·rw [decide_eq_false c1,cond_false,decide_eq_false (fun h:chk f z=>c1 h.1)]
theorem j8j (N:Nat) (d:DkT) (hd:smD d) (f z:Nat) (hc:chk (f:Int) (z:Int)) (hm:DM.q2y (q0x d)) (hl:f+z<=d.1.length):qj5 N d ((f:Int),(z:Int))=some true:=by
 have:=hc.2.2
 unfold qj5 qzi
 rw [qds N f z (by omega) (by omega),decide_eq_true hc,Option.bind_some,cond_true,if_pos hd,Option.bind_some,decide_eq_true hm,cond_true,wrap64 (by omega) (by omega),q0j,decide_eq_true (by omega)]
theorem jmz (N:Nat) (d:DkT) (hd:smD d) (hm:DM.q2y (q0x d)) (j:Nat) (hj:j<(q0x d).secs.length):qdr N d (j:Int)=some (q3w (gB (flat (q0x d)) j),decide (RM.q1m (gB (flat (q0x d)) j))):=by
 unfold qdr j9v
 rw [if_pos hd,Option.bind_some]
 simp only
 rw [j6q _ hm j hj,qtz,Option.bind_some]
theorem get_d (d:DkT) (hd:smD d) (hm:DM.q2y (q0x d)) (j:Nat) (hj:j<(q0x d).secs.length) : ∃ e,j9v (d.1,d.2) (j:Int)=some (unB (gB (flat (q0x d)) j),e):=by
 refine ⟨DM.jja (q0x d) (j:Int),?_⟩
 unfold j9v
 rw [if_pos hd]
 show some (unB (DM.jai (q0x d) (j:Int)),_)=_
 rw [j6q _ hm j hj]
theorem qr7 (N:Nat) (d:DkT) (hd:smD d) (hm:DM.q2y (q0x d)) (a k:Nat) (hk:a+1+k<=(q0x d).secs.length) (x1 x2 x3 x4 x5:Int) : ∀(m i:Nat),k - i<m->i<=k ->
  q4c N m (a:Int) (k:Int) (i:Int) d.1 d.2 x1 x2 x3 x4 x5 ((((flat (q0x d)).drop (a+1)).take i).map unB)=some (((),((k:Int),((),()))),(((x1,(x2,(x3,(x4,x5)))),()),((((flat (q0x d)).drop (a+1)).take k).map unB,())))
 | 0,i,h,_=>by omega
 | m+1,i,h,hi=>by
  have h512:=hm.2.1
  have hfl:=qdx (q0x d)
  rw [qcr]
  unfold qcn
  by_cases c:i<k
  ·have w1:IntKind.wrap .i64 ((a:Int)+1)=((a+1:Nat):Int):=q0w (by omega)
   have w2:IntKind.wrap .i64 (((a+1:Nat):Int)+(i:Int))=((a+1+i:Nat):Int):=wrap_add (by omega) (by omega)
   have w3:IntKind.wrap .i64 ((i:Int)+1)=((i+1:Nat):Int):=q0w (by omega)
   obtain ⟨e,he⟩:=get_d d hd hm (a+1+i) (by omega)
   rw [decide_eq_true (by omega),cond_true,w1,q0j,w2,q0j,he,Option.bind_some,q4i (by rw [List.length_map,List.length_take];simp;omega),Option.bind_some,w3,q0j]
   have e2:((((flat (q0x d)).drop (a+1)).take i).map unB) ++ [unB (gB (flat (q0x d)) (a+1+i))]=(((flat (q0x d)).drop (a+1)).take (i+1)).map unB:=by
    rw [List.take_add_one,List.getElem?_drop,List.getElem?_eq_getElem (by omega),List.map_append,jqd (by omega)]
    rfl
   rw [e2]
   exact qr7 N d hd hm a k hk x1 x2 x3 x4 x5 m (i+1) (by omega) (by omega)
  ·obtain rfl:i=k:=by omega
   rw [decide_eq_false (by omega),cond_false]
theorem rec_d (N:Nat) (hN:1000<=N) (d:DkT) (hd:smD d) (hm:DM.q2y (q0x d)) (f z a:Nat) (g q:Int) (h1:f+z<=512) (ha:a<f+z) (hB:f+z<=(q0x d).secs.length) :
  q75 N d ((f:Int),(z:Int)) (a:Int) g q=some (if qm7 (flat (q0x d)) (f+z) a g q then (unB (qay (flat (q0x d)) a),((1+(RM.q0u ((qay (flat (q0x d)) a).size:Int)).toNat:Nat):Int)) else ([],0)):=by
 have hloop:=qr7 N d hd hm a
 unfold q75
 rw [jmz N d hd hm a (by omega),Option.bind_some]
 have hfl:=qdx (q0x d)
 generalize flat (q0x d)=B at *
 have hrs:qm7 B (f+z) a g q->RM.q0u ((qay B a).size:Int)=RM.q0u (RM.q0i (gB B a) 10):=fun h=>by rw [j6y h]
 have hrl:qm7 B (f+z) a g q->(qay B a).size<=4096:=qj4
 have hrP:qm7 B (f+z) a g q↔(a<f+z/\RM.q1m (gB B a)/\RM.q1u (gB B a)=2/\RM.q0i (gB B a) 2=g/\RM.q0i (gB B a) 6=q/\a+1+(RM.q0u (RM.q0i (gB B a) 10)).toNat<=f+z/\RM.q38 ((B.drop (a+1)).take (RM.q0u (RM.q0i (gB B a) 10)).toNat) (RM.q0i (gB B a) 10) /\
   SM.q1d 1 (RM.qfj ((B.drop (a+1)).take (RM.q0u (RM.q0i (gB B a) 10)).toNat) (RM.q0i (gB B a) 10)).data.toList=RM.q0i (gB B a) 14):=Iff.rfl
 simp only
 by_cases c1:RM.q1m (gB B a)
 case neg =>
  rw [decide_eq_false c1,Bool.not_false,cond_true,if_neg (fun h=>c1 (hrP.1 h).2.1)]
 have hz:=qce c1
 have hcz:=q9l _ hz
 have eh:q3w (gB B a)=(RM.q1u (gB B a),(RM.q0i (gB B a) 2,(RM.q0i (gB B a) 6,(RM.q0i (gB B a) 10,RM.q0i (gB B a) 14)))):=by unfold q3w;rw [if_pos c1]
 rw [decide_eq_true c1,Bool.not_true,cond_false,eh]
 simp only
 have hrec:qay B a=RM.qfj ((B.drop (a+1)).take (RM.q0u (RM.q0i (gB B a) 10)).toNat) (RM.q0i (gB B a) 10):=rfl
 clear eh
 generalize RM.q1u (gB B a)=kd at *
 generalize RM.q0i (gB B a) 2=n2 at *
 generalize RM.q0i (gB B a) 6=n6 at *
 generalize RM.q0i (gB B a) 10=n10 at *
 generalize RM.q0i (gB B a) 14=n14 at *
 by_cases c2:kd=2
 case neg=>rw [decide_eq_false c2,Bool.not_false,cond_true,if_neg (fun h=>c2 (hrP.1 h).2.2.1)]
 rw [decide_eq_true c2,Bool.not_true,cond_false]
 by_cases c3:n2=g
 case neg=>rw [decide_eq_false c3,Bool.not_false,cond_true,if_neg (fun h=>c3 (hrP.1 h).2.2.2.1)]
 rw [decide_eq_true c3,Bool.not_true,cond_false]
 by_cases c4:n6=q
 case neg=>rw [decide_eq_false c4,Bool.not_false,cond_true,if_neg (fun h=>c4 (hrP.1 h).2.2.2.2.1)]
 have hcc:(RM.q0u n10).toNat<=133:=by omega
 have w1:IntKind.wrap .i64 ((f:Int)+(z:Int))=((f+z:Nat):Int):=wrap_add (by omega) (by omega)
 have w2:IntKind.wrap .i64 (((f+z:Nat):Int) - (a:Int))=((f+z - a:Nat):Int):=by rw [wrap64 (by omega) (by omega)];omega
 have w3:IntKind.wrap .i64 (((f+z - a:Nat):Int) - 1)=((f+z - a - 1:Nat):Int):=by rw [wrap64 (by omega) (by omega)];omega
 unfold q4b
 rw [decide_eq_true c4,Bool.not_true,cond_false,if_pos (show qot n10 by unfold qot;omega),Option.bind_some,w1,q0j,w2,q0j,w3,q0j]
 by_cases c5:a+1+(RM.q0u n10).toNat<=f+z
 case neg=>rw [decide_eq_true (by omega),cond_true,if_neg (fun h=>c5 (hrP.1 h).2.2.2.2.2.1)]
 rw [decide_eq_false (by omega),cond_false]
 obtain ⟨k,hk⟩ : ∃ k,(RM.q0u n10).toNat=k:=⟨_,rfl⟩
 have hk':RM.q0u n10=(k:Int):=by omega
 rw [hk] at hrP hrec c5 hcc
 have hl:=hloop k (by omega) kd n2 n6 n10 n14 N 0 (by omega) (Nat.zero_le _)
 rw [List.take_zero,List.map_nil,Int.natCast_zero] at hl
 rw [hk',hl,Option.bind_some]
 have e3 : ∀l:List ByteArray,(l.map unB).map ba=l:=fun l=>by
  rw [List.map_map]
  exact (List.map_congr_left fun x _=>qbq x).trans (List.map_id _)
 have hll:((B.drop (a+1)).take k).length<=1000:=by rw [List.length_take];omega
 unfold qfs
 simp only
 rw [if_pos ⟨by rw [List.length_map];exact hll,by unfold qot;omega⟩,Option.bind_some,e3,<-hrec]
 simp only
 by_cases c6:RM.q38 ((B.drop (a+1)).take k) n10
 case neg=>rw [decide_eq_false c6,Bool.not_false,cond_true,if_neg (fun h=>c6 (hrP.1 h).2.2.2.2.2.2.1)]
 rw [decide_eq_true c6,Bool.not_true,cond_false]
 have hlen:(unB (qay B a)).length<=maxLen:=by
  have hM:=max_eq
  have h9:=(RM.qgi _ _ c6).2.1
  rw [<-hrec] at h9
  rw [qap]
  generalize (qay B a).size=u at *
  omega
 unfold q6j
 rw [if_pos hlen,Option.bind_some]
 by_cases c7:SM.q1d 1 (unB (qay B a))=n14
 ·have hyes:qm7 B (f+z) a g q:=hrP.2 ⟨ha,c1,c2,c3,c4,c5,c6,by rw [<-hrec,<-j4x];exact c7⟩
  have w4:IntKind.wrap .i64 (1+(k:Int))=((1+k:Nat):Int):=by rw [wrap64 (by omega) (by omega)];omega
  rw [decide_eq_true c7,Bool.not_true,cond_false,if_pos hyes,w4,q0j,hrs hyes,hk',Int.toNat_natCast]
 ·rw [decide_eq_false c7,Bool.not_false,cond_true,if_neg]
  intro h
  have h8:=(hrP.1 h).2.2.2.2.2.2.2
  rw [<-hrec,<-j4x] at h8
  exact c7 h8
theorem qn5 (N:Nat) (hN:1000<=N) (d:DkT) (hd:smD d) (hm:DM.q2y (q0x d)) (f z:Nat) (g:Int) (h1:f+z<=512) (hB:f+z<=(q0x d).secs.length) : ∀(m a:Nat) (its:List ByteArray),f+z - a<m->a<=1000->its.length<=a ->
  q6c N m d.1 d.2 (f:Int) (z:Int) 0 0 g (a:Int) (its.map unB)=some (((),((),())),((((0:Int),((),(0:Int))),((g,((),(((q3h (flat (q0x d)) (f+z) g (f+z - a) a its).2:Nat):Int))),())),((q3h (flat (q0x d)) (f+z) g (f+z - a) a its).1.map unB,())))
 | 0,a,its,h,_,_=>by omega
 | m+1,a,its,hmm,ha,hi=>by
  rw [qgr]
  unfold qnd
  have w1:IntKind.wrap .i64 ((f:Int)+(z:Int))=((f+z:Nat):Int):=wrap_add (by omega) (by omega)
  rw [w1,q0j]
  by_cases c0:a<f+z
  case neg =>
   rw [decide_eq_false (by omega),cond_false,q3l _ _ _ (fun h=>c0 h.1)]
  have hr:=rec_d N hN d hd hm f z a g (its.length:Int) h1 c0 hB
  have hl:qm7 (flat (q0x d)) (f+z) a g (its.length:Int)->(qay (flat (q0x d)) a).size<=4096:=qj4
  rw [decide_eq_true (by omega),cond_true,List.length_map]
  show Option.bind (q75 N d ((f:Int),(z:Int)) (a:Int) g (its.length:Int)) _=_
  rw [hr,Option.bind_some]
  have ihh:=qn5 N hN d hd hm f z g h1 hB m
  generalize flat (q0x d)=B at *
  by_cases c:qm7 B (f+z) a g (its.length:Int)
  ·have hl:=hl c
   have es : ∀m,q3h B (f+z) g (m+1) a its=q3h B (f+z) g m (a+1+(RM.q0u ((qay B a).size:Int)).toNat) (its ++ [qay B a]):=fun m=>by
    conv=>lhs;unfold q3h
    rw [if_pos c]
   rw [if_pos c]
   clear c hr
   generalize qay B a=x at *
   have hcz:=q9l (x.size:Int) ⟨by omega,by omega⟩
   have hk:(RM.q0u (x.size:Int)).toNat<=133:=by omega
   generalize (RM.q0u (x.size:Int)).toNat=k at *
   have w2:IntKind.wrap .i64 ((a:Int)+((1+k:Nat):Int))=((a+1+k:Nat):Int):=by rw [wrap64 (by omega) (by omega)];omega
   simp only
   rw [decide_eq_false (by omega),cond_false,q4i (by simp;omega),Option.bind_some,w2,q0j]
   have ih:=ihh (a+1+k) (its ++ [x]) (by omega) (by omega) (by simp;omega)
   have e:q3h B (f+z) g (f+z - a) a its=q3h B (f+z) g (f+z - (a+1+k)) (a+1+k) (its ++ [x]):=by
    rw [show f+z - a=(f+z - a - 1)+1 from by omega,es]
    exact qh7 _ _ _ _ (by omega) (by omega)
   rw [e]
   rw [List.map_append] at ih
   exact ih
  ·rw [if_neg c,q3l _ a its c]
   rfl
theorem jnw {x:ByteArray} : (RM.q1m x/\q3w x=qg0 1 (q3w x).2.1 0 [])↔x=RM.q3i 1 (q3w x).2.1 0 0 1:=by
 have e0:(([]:List UInt8).length:Int)=0:=rfl
 constructor
 ·rintro ⟨h1,h2⟩
  obtain ⟨k1,k2,k3⟩:=id h1
  have eh:q3w x=(RM.q1u x,(RM.q0i x 2,(RM.q0i x 6,(RM.q0i x 10,RM.q0i x 14)))):=by unfold q3w;rw [if_pos h1]
  rw [eh] at h2 ⊢
  simp only at h2 ⊢
  unfold qg0 at h2
  rw [e0,qe6,if_pos (qjy k2.2.1)] at h2
  simp only [Prod.mk.injEq] at h2
  obtain ⟨a1,_,a2,a3,a4⟩:=h2
  rw [a1,a2,a3,a4] at k2 k3
  rw [RM.qny _ _ _ _ _ k2];exact k3.symm
 ·intro h
  have hg:0<=(q3w x).2.1/\(q3w x).2.1<=1073741824:=by
   unfold q3w
   split
   ·rename_i h1;exact h1.2.1.2.1
   ·exact ⟨Int.le_refl _,by decide⟩
  generalize (q3w x).2.1=g at *
  subst h
  have hm:=qjy hg
  have hr:=(RM.jh9 _ _ _ _ _ hm).1
  obtain ⟨n1,n2,n3,n4,n5⟩:=RM.qw1 _ _ _ _ _ hm
  rw [<-RM.qny _ _ _ _ _ hm] at n1 n2 n3 n4 n5
  refine ⟨hr,?_⟩
  unfold q3w qg0
  rw [if_pos hr,e0,qe6,if_pos hm,n1,n2,n3,n4,n5]
theorem jm9 (N:Nat) (hN:1000<=N) (d:DkT) (hd:smD d) (hm:DM.q2y (q0x d)) (f z:Nat) (h2:2<=z) (h1:f+z<=512) (hB:f+z<=(q0x d).secs.length) :
  qf2 N d ((f:Int),(z:Int))=some (if qut (flat (q0x d)) f then (j65 (flat (q0x d)) f z,0) else ((0,([],0)),5)):=by
 have hdl:=(q9c d).1
 have hfl:=qdx (q0x d)
 have hloop:=qn5 N hN d hd hm f z (qk4 (flat (q0x d)) f) h1 hB N (f+1) [] (by omega) (by omega) (Nat.zero_le _)
 unfold qf2
 rw [j8j N d hd f z ⟨by omega,by omega,by omega⟩ hm (by omega),Option.bind_some,Bool.not_true,cond_false]
 simp only
 rw [jmz N d hd hm f (by omega),Option.bind_some]
 unfold q4o
 rw [if_pos (by simp),Option.bind_some]
 simp only
 have hbp:qut (flat (q0x d)) f↔(RM.q1m (gB (flat (q0x d)) f)/\q3w (gB (flat (q0x d)) f)=qg0 1 (q3w (gB (flat (q0x d)) f)).2.1 0 []):=jnw.symm
 have hgn:(q3w (gB (flat (q0x d)) f)).2.1=qk4 (flat (q0x d)) f:=rfl
 unfold j65 j8k
 rw [show z - 1=f+z - (f+1) from by omega]
 generalize flat (q0x d)=B at *
 rw [hgn] at hbp ⊢
 by_cases c1:RM.q1m (gB B f)
 case neg =>
  rw [decide_eq_false c1,Bool.not_false,cond_true,if_neg (fun h=>c1 (hbp.1 h).1)]
 rw [decide_eq_true c1,Bool.not_true,cond_false]
 have hgn':(q3w (gB B f)).2.1=qk4 B f:=rfl
 generalize q3w (gB B f)=x at *
 generalize qg0 1 (qk4 B f) 0 []=y at *
 have key:(decide (x.1=y.1)&&(decide (x.2.1=y.2.1)&&(decide (x.2.2.1=y.2.2.1)&&(decide (x.2.2.2.1=y.2.2.2.1)&&(decide (x.2.2.2.2=y.2.2.2.2)&&true)))))=decide (x=y):=by
  obtain ⟨a1,a2,a3,a4,a5⟩:=x
  obtain ⟨b1,b2,b3,b4,b5⟩:=y
  simp [Prod.mk.injEq,Bool.decide_and]
 rw [hgn'] at key
 rw [key]
 by_cases c2:x=y
 case neg =>
  rw [decide_eq_false c2,Bool.not_false,cond_true,if_neg (fun h=>c2 (hbp.1 h).2)]
 rw [decide_eq_true c2,Bool.not_true,cond_false,if_pos (hbp.2 ⟨c1,c2⟩)]
 have w1:IntKind.wrap .i64 ((f:Int)+1)=((f+1:Nat):Int):=q0w (by omega)
 rw [w1,q0j]
 rw [List.map_nil] at hloop
 rw [hloop,Option.bind_some]
theorem jbb (N:Nat) (f z g:Int) (h1 : -9223372036854775808<=f) (h2:f<=9223372036854775807):q9v N (f,z) g=some (if chk f z/\0<=g/\g<=1073741824 then ([(false,(f,unB (RM.q3i 1 g 0 0 1))),(true,(0,[]))],0) else ([],1)):=by
 have e0:(([]:List UInt8).length:Int)=0:=rfl
 unfold q9v
 rw [qds N f z h1 h2,Option.bind_some]
 by_cases c:chk f z
 case neg=>rw [decide_eq_false c,Bool.not_false,cond_true,if_neg (fun h=>c h.1)]
 rw [decide_eq_true c,Bool.not_true,cond_false]
 by_cases c1:g<0
 ·rw [decide_eq_true c1,cond_true,if_neg (fun h=>by omega)]
 rw [decide_eq_false c1,cond_false]
 by_cases c2:1073741824<g
 ·rw [decide_eq_true c2,cond_true,if_neg (fun h=>by omega)]
 rw [decide_eq_false c2,cond_false,if_pos ⟨c,by omega,by omega⟩]
 unfold q4o
 rw [if_pos (by simp),Option.bind_some]
 simp only
 have hm:=qjy (g:=g) ⟨by omega,by omega⟩
 have em:qg0 1 g 0 []=(1,(g,(0,(0,1)))):=by unfold qg0;rw [e0,qe6,if_pos hm]
 rw [em]
 unfold q6u
 rw [if_pos (show qot 1 by unfold qot;omega),Option.bind_some]
theorem qmy (l:AcT) : ∀(m i:Nat),l.length - i<m->i<=l.length->l.length<=100000->q66 q1j m l l (i:Int)=some (Sum.inr ((),((),())))
 | 0,i,h,_,_=>by omega
 | m+1,i,h,hi,hl=>by
  rw [qgd]
  unfold qls
  by_cases c:i<l.length
  ·have w1:IntKind.wrap .i64 ((i:Int)+1)=((i+1:Nat):Int):=q0w (by omega)
   rw [decide_eq_true (by omega),cond_true,q26 c,Option.bind_some,Option.bind_some]
   simp only [decide_true,Bool.and_self,Bool.not_true,cond_false,w1,q0j]
   exact qmy l m (i+1) (by omega) (by omega) hl
  ·rw [decide_eq_false (by omega),cond_false]
theorem jn9 (l:AcT) (hl:l.length<=100000):qdk q1j l l=some true:=by
 have:=qmy l q1j 0 (by unfold q1j;omega) (Nat.zero_le _) hl
 rw [Int.natCast_zero] at this
 unfold qdk
 rw [decide_eq_true rfl,Bool.not_true,cond_false,this]
 rfl
end YthpgnliicpejoaaGreatDoor.AM
end Go.Proofs
