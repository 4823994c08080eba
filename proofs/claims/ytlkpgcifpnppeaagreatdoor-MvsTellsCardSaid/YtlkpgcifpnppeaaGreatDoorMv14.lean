
import Derived.Test.YtlkpgcifpnppeaaGreatDoorMv13
import Derived.Test.YtlkpgcifpnppeaaGreatDoorMv12
import GoSem.Claims
import Derived.Calls
import Derived.StepT
import Derived.Shelf.SlSortCmp.WholeK
import Derived.Shelf.Lay
import Derived.Ground.SlsfProg
import Derived.Maps.RangeWalk
import Derived.StillTailTactics
set_option linter.unusedVariables false
set_option linter.unusedSimpArgs false
namespace Go.Proofs.YtlkpgcifpnppeaaGreatDoor.AM
open Go.RowKit
theorem q02 {α β:Type} (x:β) (f:β→Option α):q08 x f=f x:=rfl
theorem qr5 {α β:Type} (z:β) (f:β→Bool→Option α):jeg none z f=f z false:=rfl
theorem qpq {α β:Type} (v z:β) (f:β→Bool→Option α):jeg (some v) z f=f v true:=rfl
theorem qvo {α β:Type} (v:β) (f:β→Option α) (g:Option α):jap (some v) f g=f v:=rfl
theorem qy8 {α β:Type} (f:β→Option α) (g:Option α):jap none f g=g:=rfl
def ShQ (l:List QD):Prop:=∀ q∈l,q.1.length≤1000
def ShN (l:List ND):Prop:=∀ n∈l,(nq n).1.length≤1000∧ShQ (nR n)
theorem qag (n:Nat) (q:QD) (h:q.1.length≤1000) (hn:2000≤n):qc0 n q=some (q3b q):=by
 unfold qc0
 rw [j7t n q.1 q.2 (by omega) (by omega) (by omega)];rfl
theorem q8l (n:Nat) (a b:QD) (hn:2000≤n):q8n n a b=some (qc1 b a):=by
 unfold q8n qc1
 rw [qfs n _ _ (by omega)]
 cases decide (a.1=b.1)<;>rfl
theorem j3c (a b:QD):eqT QT a b=decide (a=b):=by
 obtain ⟨p,x1,x2,x3,r,m⟩:=a
 obtain ⟨p',y1,y2,y3,r',m'⟩:=b
 show (decide (p=p')&&(decide (x1=y1)&&(decide (x2=y2)&&(decide (x3=y3)&&(decide (r=r')&&decide (m=m'))))))=_
 rw [Bool.eq_iff_iff]
 simp only [Bool.and_eq_true,decide_eq_true_eq,Prod.mk.injEq]
theorem qq8 {β:Type} (k q:QD) (v:β) : ∀ m:List (QD×β),q0o QT q (q6x QT k v m)=if q=k then some v else q0o QT q m
 | []=>by
  show (bif eqT QT q k then some v else none)=_
  rw [j3c]
  by_cases e:q=k
  ·rw [decide_eq_true e,if_pos e];rfl
  ·rw [decide_eq_false e,if_neg e];rfl
 | (k',v')::m=>by
  show q0o QT q (bif eqT QT k k' then (k,v)::m else (k',v')::q6x QT k v m)=_
  have e0:q0o QT q ((k',v')::m)=(bif eqT QT q k' then some v' else q0o QT q m):=rfl
  rw [e0,j3c,j3c]
  by_cases e:k=k'
  ·subst e
   rw [decide_eq_true rfl,cond_true]
   show (bif eqT QT q k then some v else q0o QT q m)=_
   rw [j3c]
   by_cases e2:q=k
   ·rw [decide_eq_true e2,if_pos e2];rfl
   ·rw [decide_eq_false e2,if_neg e2];rfl
  ·rw [decide_eq_false e,cond_false]
   show (bif eqT QT q k' then some v' else q0o QT q (q6x QT k v m))=_
   rw [j3c,qq8 k q v m]
   by_cases e2:q=k'
   ·have hq : ¬ q=k:=fun h=>e (h.symm.trans e2)
    rw [decide_eq_true e2,cond_true,if_neg hq];rfl
   ·rw [decide_eq_false e2];rfl
def q9t (s:List QD):List (QD×Unit):=s.map fun q=>(q,())
theorem j4m (q:QD) : ∀ s:List QD,q0o QT q (q9t s)=if q∈s then some () else none
 | []=>rfl
 | x::s=>by
  show (bif eqT QT q x then some () else q0o QT q (q9t s))=_
  rw [j3c,j4m q s]
  by_cases e:q=x
  ·subst e
   rw [decide_eq_true rfl,if_pos (List.mem_cons_self (a:=q) (l:=s))];rfl
  ·rw [decide_eq_false e,cond_false]
   by_cases h:q∈s
   ·rw [if_pos h,if_pos (List.mem_cons_of_mem _ h)]
   ·rw [if_neg h,if_neg (fun h2=>(List.mem_cons.1 h2).elim e h)]
def jd4 (s:List QD) (q:QD):List QD:=if q∈s then s else s ++ [q]
theorem jek (q:QD) : ∀ s:List QD,q6x QT q () (q9t s)=q9t (jd4 s q)
 | []=>rfl
 | x::s=>by
  show (bif eqT QT q x then (q,())::q9t s else (x,())::q6x QT q () (q9t s))=_
  rw [j3c,jek q s]
  by_cases e:q=x
  ·subst e
   rw [decide_eq_true rfl,cond_true]
   unfold jd4
   rw [if_pos (List.mem_cons_self ..)];rfl
  ·rw [decide_eq_false e,cond_false]
   unfold jd4
   by_cases h:q∈s
   ·rw [if_pos h,if_pos (List.mem_cons_of_mem _ h)];rfl
   ·rw [if_neg h,if_neg (fun h2=>(List.mem_cons.1 h2).elim e h)];rfl
theorem qd4 (n:Nat) (q:QD) (s:List QD):q8v n () q (q9t s)=some (decide (q∈s),((q9t s,()),())):=by
 unfold q8v
 rw [j4m]
 by_cases h:q∈s
 ·rw [if_pos h,qpq,decide_eq_true h]
 ·rw [if_neg h,qr5,decide_eq_false h]
theorem qnp (n:Nat) (q:QD) (s:List QD):qb6 n () q (q9t s)=some ((),((q9t (jd4 s q),()),())):=by
 unfold qb6
 rw [jek]
theorem j9w (n:Nat) (q:QD) (out:List QD) (hq:q.1.length≤1000) (hn:2000≤n) (ho:out.length≤1000000):qur n q () () (q9t out) out=some ((),(((),((),(q9t (q5f out q),()))),(q5f out q,()))):=by
 unfold qur q5f
 rw [qd4,Option.bind_some]
 by_cases h:q∈out
 ·rw [decide_eq_true h,if_neg (fun h2=>h2.2 h)];rfl
 ·rw [decide_eq_false h]
  show ((qc0 n q).bind _)=_
  rw [qag n q hq hn,Option.bind_some]
  cases hm:q3b q with
  | false=>rw [if_neg (fun h2=>by cases h2.1)];rfl
  | true =>
   rw [if_pos ⟨rfl,h⟩]
   show (bif true then ((qb6 n () q (q9t out)).bind _) else _)=_
   rw [cond_true,qnp,Option.bind_some,q1x (by simp;omega),Option.bind_some]
   unfold jd4
   rw [if_neg h]
theorem qfg (n:Nat) (L:List QD) (hL:ShQ L) (hn:2000≤n) (hll:L.length≤1000000) : ∀ (m j:Nat) (out:List QD),L.length - j<m→j≤L.length→out.length+(L.length - j)≤1000000 →
  q4v n m L ((L.length:Nat):Int) (j:Int) (q9t out) out=some ((),(((),((),(q9t (q37 out (L.drop j)),()))),(q37 out (L.drop j),())))
 | 0,j,out,h,_,_=>absurd h (Nat.not_lt_zero _)
 | m+1,j,out,h,hj,ho=>by
  rw [qcq]
  unfold qck
  by_cases c:j<L.length
  ·have hl2:L.length≤1000000+j:=by omega
   have hm:(q5f out L[j]).length≤out.length+1:=by unfold q5f;split<;>simp
   rw [decide_eq_true (by omega),cond_true,q0a c,Option.bind_some,j9w n _ _ (hL _ (List.getElem_mem c)) hn (by omega),Option.bind_some,q02,q00 (by omega),List.drop_eq_getElem_cons c]
   exact qfg n L hL hn hll m (j+1) (q5f out L[j]) (by omega) (by omega) (by omega)
  ·rw [decide_eq_false (by omega),cond_false,List.drop_of_length_le (by omega)]
   rfl
theorem qfo (n:Nat) (L out:List QD) (hL:ShQ L) (hn:1000000≤n) (ho:out.length+L.length≤900000):q32 n L () (q9t out) out=some ((),(((),((),(q9t (q37 out L),()))),(q37 out L,()))):=by
 unfold q32
 have:=qfg n L hL (by omega) (by omega) n 0 out (by omega) (Nat.zero_le _) (by omega)
 rw [show ((0:Nat):Int)=(0:Int) from rfl] at this
 rw [this];rfl
def jln (m:List (QD×ND)) (l:List ND):List (QD×ND):=l.foldl (fun m x=>match q0o QT (nq x) m with|some _=>m|none=>q6x QT (nq x) x m) m
def jim (l:List ND) (q:QD):Option ND:=match l with
 | []=>none
 | x::t=>if nq x=q then some x else jim t q
theorem j6n (q:QD) : ∀ (l:List ND) (m:List (QD×ND)),q0o QT q (jln m l)=(q0o QT q m).or (jim l q)
 | [],m=>by show q0o QT q m=(q0o QT q m).or none;simp
 | x::l,m=>by
  show q0o QT q (jln (match q0o QT (nq x) m with|some _=>m|none=>q6x QT (nq x) x m) l)=(q0o QT q m).or (if nq x=q then some x else jim l q)
  rw [j6n q l]
  cases h:q0o QT (nq x) m with
  | some y =>
   by_cases e:nq x=q
   ·subst e
    rw [if_pos rfl];simp [h]
   ·rw [if_neg e]
  | none =>
   simp only
   rw [qq8]
   by_cases e:nq x=q
   ·subst e
    rw [if_pos rfl,if_pos rfl,h];rfl
   ·rw [if_neg e,if_neg (fun h2=>e h2.symm)]
theorem quk (q:QD) : ∀ l:List ND,q1k l q=match jim l q with|some x=>nR x|none=>[]
 | []=>rfl
 | x::l=>by
  unfold q1k jim
  by_cases e:nq x=q
  ·rw [if_pos e,if_pos e]
  ·rw [if_neg e,if_neg e];exact quk q l
theorem qtu (n:Nat) (root:List QD) (l:List ND) (hl:l.length≤1000000) : ∀ (m j:Nat) (M:List (QD×ND)),l.length - j<m→j≤l.length →
  q4l n m root l ((l.length:Nat):Int) (j:Int) M=some ((root,((),())),((jln M (l.drop j),()),()))
 | 0,j,M,h,_=>absurd h (Nat.not_lt_zero _)
 | m+1,j,M,h,hj=>by
  rw [qdm]
  unfold qd9
  by_cases c:j<l.length
  ·rw [decide_eq_true (by omega),cond_true,q0a c,Option.bind_some]
   have ed:jln M (l.drop j)=jln (match q0o QT (nq l[j]) M with|some _=>M|none=>q6x QT (nq l[j]) l[j] M) (l.drop (j+1)):=by rw [List.drop_eq_getElem_cons c];rfl
   rw [ed]
   show jap (q0o QT (nq l[j]) M) _ _=_
   cases hk:q0o QT (nq l[j]) M with
   | some y =>
    rw [qvo,q02,q00 (by omega)]
    exact qtu n root l hl m (j+1) M (by omega) (by omega)
   | none =>
    rw [qy8,q02,q00 (by omega)]
    exact qtu n root l hl m (j+1) _ (by omega) (by omega)
  ·rw [decide_eq_false (by omega),cond_false,List.drop_of_length_le (by omega)]
   rfl
theorem shR {l:List ND} (h:ShN l) (q:QD):ShQ (q1k l q):=by
 induction l with
 | nil=>intro x hx;cases hx
 | cons n l ih =>
  unfold q1k
  split
  ·exact (h n (List.mem_cons_self ..)).2
  ·exact ih fun m hm=>h m (List.mem_cons_of_mem _ hm)
theorem jb4 (l:List ND) (q:QD):(q1k l q).length≤(l.flatMap nR).length:=by
 induction l with
 | nil=>exact Nat.le_refl _
 | cons n l ih =>
  unfold q1k
  rw [List.flatMap_cons,List.length_append]
  split
  ·omega
  ·omega
theorem qqs (n:Nat) (root:List QD) (l:List ND) (hl:ShN l) (hn:1000000≤n) (hb:(qf9 root l).length≤10000) : ∀ (f m i:Nat) (out:List QD),ROk root l i out→(qf9 root l).length<i+f→f<m→i≤20000 →
  q3k n m (i:Int) (jln [] l) (q9t out) out=some ((((),()),(((),()),(q50 l f i out,()))))
 | f,0,i,out,_,_,h,_=>absurd h (Nat.not_lt_zero _)
 | f,m+1,i,out,hk,hf,hm,hi=>by
  have hol:=qsd hk
  rw [qcc]
  unfold qcw
  by_cases c:i<out.length
  ·obtain ⟨f,rfl⟩ : ∃ k,f=k+1:=⟨f - 1,by omega⟩
   have hrl:(q1k l out[i]).length≤10000:=by
    have:=jb4 l out[i]
    unfold qf9 at hb
    rw [List.length_append] at hb
    omega
   have er:q50 l (f+1) i out=q50 l f (i+1) (q37 out (q1k l out[i])):=by
    show (if h:i<out.length then q50 l f (i+1) (q37 out (q1k l out[i])) else out)=_
    rw [dif_pos c]
   have ih:=qqs n root l hl hn hb f m (i+1) (q37 out (q1k l out[i])) (qtf hk c) (by omega) (by omega) (by omega)
   have hmeet:=qfo n (q1k l out[i]) out (shR hl _) hn (by omega)
   rw [decide_eq_true (by omega),cond_true,q0a c,Option.bind_some,Int.toNat_natCast,qnt c,Option.bind_some,er]
   show jap (q0o QT out[i] (jln [] l)) _ _=_
   rw [j6n,show (q0o QT out[i] ([]:List (QD×ND)))=none from rfl,Option.none_or]
   rw [quk] at hmeet ih ⊢
   cases hx:jim l out[i] with
   | some y =>
    rw [hx] at hmeet ih
    rw [qvo]
    show ((q32 n (nR y) () (q9t out) out).bind _)=_
    rw [hmeet,Option.bind_some,q02,q00 (by omega)]
    exact ih
   | none =>
    rw [hx] at hmeet ih
    rw [qy8]
    show ((q32 n [] () (q9t out) out).bind _)=_
    rw [hmeet,Option.bind_some,q02,q00 (by omega)]
    exact ih
  ·have er:q50 l f i out=out:=by
    cases f with
    | zero=>rfl
    | succ f =>
     show (if h:i<out.length then q50 l f (i+1) (q37 out (q1k l out[i])) else out)=_
     rw [dif_neg c]
   rw [decide_eq_false (by omega),cond_false,er]
theorem q2z (n:Nat) (root:List QD) (l:List ND) (hr:ShQ root) (hl:ShN l) (hn:1000000≤n) (hb:(qf9 root l).length≤10000) (hc:l.length≤10000):q1n n root l=some (q0d root l):=by
 have h0:=qtu n root l (by omega) n 0 [] (by omega) (Nat.zero_le _)
 have hrl:root.length≤10000:=by unfold qf9 at hb;rw [List.length_append] at hb;omega
 have h1:=qfo n root [] hr hn (by simp;omega)
 have h2:=qqs n root l hl hn hb ((qf9 root l).length+1) n 0 (q37 [] root) (qlw root l) (by omega) (by omega) (by omega)
 rw [show ((0:Nat):Int)=(0:Int) from rfl] at h0 h2
 unfold q1n
 rw [h0,Option.bind_some]
 show ((q32 n root () (q9t []) []).bind _)=_
 rw [h1,Option.bind_some]
 rw [List.drop_zero]
 show ((q3k n n 0 (jln [] l) (q9t (q37 [] root)) (q37 [] root)).bind _)=_
 rw [h2,Option.bind_some]
 rfl
theorem j6k (p:Yy) : ∀ m:List (Yy×QD),j1y p m=qh0 m p
 | []=>rfl
 | (k,v)::m=>by
  have ih:=j6k p m
  unfold qh0 at ih ⊢
  show (if p=k then some v else j1y p m)=_
  rw [ih,List.find?_cons]
  by_cases e:k=p
  ·rw [if_pos e.symm];simp [e]
  ·rw [if_neg (fun h=>e h.symm)];simp [e]
theorem je6 (p:Yy) (v:QD) : ∀ m:List (Yy×QD),jk9 p v m=j07 m p v
 | []=>rfl
 | (k,u)::m=>by
  show (if p=k then (p,v)::m else (k,u)::jk9 p v m)=(if k=p then (p,v)::m else (k,u)::j07 m p v)
  rw [je6 p v m]
  by_cases e:k=p
  ·rw [if_pos e,if_pos e.symm]
  ·rw [if_neg e,if_neg (fun h=>e h.symm)]
theorem j37 (n:Nat) (q:QD) {pre:List QD} {m:List (Yy×QD)} (h:GOk pre m) (hn:2000≤n):qjx n () q m=some ((),((qoe m q,()),())):=by
 unfold qjx qoe
 rw [j6k,je6]
 cases hy:qh0 m q.1 with
 | none =>
  rw [qr5,qbp,if_pos (decide_eq_true rfl)];rfl
 | some y =>
  have hp:y.1=q.1:=by
   rw [h.look] at hy
   exact (q4d hy).2
  rw [qpq,Bool.not_true,cond_false,q8l n q y hn,Option.bind_some]
  have e:qg3 q.1 (some y) q=qc1 y q:=by
   unfold qg3 qc1
   rw [hp]
  rw [e]
  cases qc1 y q<;>rfl
theorem qf7 (n:Nat) (L:List QD) (hn:2000≤n) (hl:L.length≤1000000) : ∀ (m j:Nat) (pre:List QD) (M:List (Yy×QD)),GOk pre M→L.length - j<m→j≤L.length →
  q4o n m L ((L.length:Nat):Int) (j:Int) M=some ((),(((L.drop j).foldl qoe M,()),()))
 | 0,j,pre,M,_,h,_=>absurd h (Nat.not_lt_zero _)
 | m+1,j,pre,M,hg,h,hj=>by
  rw [qdj]
  unfold qde
  by_cases c:j<L.length
  ·rw [decide_eq_true (by omega),cond_true,q0a c,Option.bind_some,j37 n _ hg hn,Option.bind_some,q02,q00 (by omega),List.drop_eq_getElem_cons c]
   exact qf7 n L hn hl m (j+1) _ _ (j5k hg L[j]) (by omega) (by omega)
  ·rw [decide_eq_false (by omega),cond_false,List.drop_of_length_le (by omega)]
   rfl
theorem qu9 (n:Nat) (L:List QD) (hn:1000000≤n) (hl:L.length≤900000):qbe n L () []=some ((),((L.foldl qoe [],()),())):=by
 unfold qbe
 have:=qf7 n L (by omega) (by omega) n 0 [] [] j18 (by omega) (Nat.zero_le _)
 rw [show ((0:Nat):Int)=(0:Int) from rfl] at this
 rw [this];rfl
theorem qi9 (n:Nat) (L:List QD) (hn:2000≤n) (hl:L.length≤1000000) : ∀ (m j:Nat) (s:List QD),L.length - j<m→j≤L.length →
  q5z n m L ((L.length:Nat):Int) (j:Int) (q9t s)=some ((),((q9t ((L.drop j).foldl jd4 s),()),()))
 | 0,j,s,h,_=>absurd h (Nat.not_lt_zero _)
 | m+1,j,s,h,hj=>by
  rw [qfd]
  unfold qgj
  by_cases c:j<L.length
  ·rw [decide_eq_true (by omega),cond_true,q0a c,Option.bind_some,qnp,Option.bind_some,q02,q00 (by omega),List.drop_eq_getElem_cons c]
   exact qi9 n L hn hl m (j+1) _ (by omega) (by omega)
  ·rw [decide_eq_false (by omega),cond_false,List.drop_of_length_le (by omega)]
   rfl
theorem qvu : ∀ (L s:List QD),(s++L).Nodup→L.foldl jd4 s=s++L
 | [],s,_=>by simp
 | q::L,s,h=>by
  have hq:q ∉ s:=fun h2=>by
   rw [List.nodup_append] at h
   exact h.2.2 q h2 q (List.mem_cons_self ..) rfl
  show L.foldl jd4 (jd4 s q)=_
  have e:jd4 s q=s ++ [q]:=by unfold jd4;rw [if_neg hq]
  rw [e,qvu L (s ++ [q]) (by rw [List.append_assoc];exact h),List.append_assoc]
  rfl
theorem qwd (n:Nat) (L:List QD) (hn:1000000≤n) (hl:L.length≤900000) (hd:L.Nodup):qei n L () []=some ((),((q9t L,()),())):=by
 unfold qei
 have:=qi9 n L (by omega) (by omega) n 0 [] (by omega) (Nat.zero_le _)
 rw [show ((0:Nat):Int)=(0:Int) from rfl,show q9t [] = [] from rfl] at this
 rw [this,List.drop_zero,qvu L [] (by simpa using hd)];rfl
theorem qkg (n:Nat) (L:List QD) (r:QD) (hn:2000≤n) (hl:L.length≤1000000) : ∀ (m j:Nat) (s:List QD),L.length - j<m→j≤L.length→s.length+(L.length - j)≤1000000 →
  q4u n m L ((L.length:Nat):Int) (j:Int) r.1 r.2.1 r.2.2.1 r.2.2.2.1 r.2.2.2.2.1 r.2.2.2.2.2 s=some ((),((r,((),())),(s++(L.drop j).filter (qc1 r),())))
 | 0,j,s,h,_,_=>absurd h (Nat.not_lt_zero _)
 | m+1,j,s,h,hj,hs=>by
  rw [qc4]
  unfold qcf
  by_cases c:j<L.length
  ·rw [decide_eq_true (by omega),cond_true,q0a c,Option.bind_some]
   unfold qcl
   rw [q8l n _ _ hn,Option.bind_some,List.drop_eq_getElem_cons c,List.filter_cons]
   cases hb:qc1 r L[j] with
   | true =>
    rw [cond_true,q1x (by simp;omega),Option.bind_some,Option.bind_some,q02,q00 (by omega)]
    have:=qkg n L r hn hl m (j+1) (s ++ [L[j]]) (by omega) (by omega) (by simp;omega)
    rw [if_pos rfl]
    rw [List.append_assoc] at this
    exact this
   | false =>
    rw [cond_false,Option.bind_some,q02,q00 (by omega)]
    have:=qkg n L r hn hl m (j+1) s (by omega) (by omega) (by omega)
    rw [if_neg (by simp)]
    exact this
  ·rw [decide_eq_false (by omega),cond_false,List.drop_of_length_le (by omega)]
   simp
theorem qeo (n:Nat) (L:List QD) (r:QD) (s:List QD) (hn:1000000≤n) (hl:s.length+L.length≤900000):q62 n L () r.1 r.2.1 r.2.2.1 r.2.2.2.1 r.2.2.2.2.1 r.2.2.2.2.2 s=some ((),((r,((),())),(s++L.filter (qc1 r),()))):=by
 unfold q62
 have:=qkg n L r (by omega) (by omega) n 0 s (by omega) (Nat.zero_le _) (by omega)
 rw [show ((0:Nat):Int)=(0:Int) from rfl] at this
 rw [this];rfl
def j0i (p:Yy) (j:Nat):List QD→Option Nat
 | []=>none
 | x::t=>if x.1=p then some j else j0i p (j+1) t
theorem j6s (n:Nat) (L:List QD) (r:QD) (hl:L.length≤1000000) : ∀ (m j:Nat),L.length - j<m→j≤L.length →
  q7g n m ((L.length:Nat):Int) (j:Int) r.1 r.2.1 r.2.2.1 r.2.2.2.1 r.2.2.2.2.1 r.2.2.2.2.2 L=match j0i r.1 j (L.drop j) with
   | some i=>some (Sum.inl (((i:Int),()),((r,()),(L,()))))
   | none=>some (Sum.inr ((),((r,()),(L,()))))
 | 0,j,h,_=>absurd h (Nat.not_lt_zero _)
 | m+1,j,h,hj=>by
  rw [qgk]
  unfold qmj
  by_cases c:j<L.length
  ·rw [decide_eq_true (by omega),cond_true,q0a c,Option.bind_some,Int.toNat_natCast,qnt c,Option.bind_some,List.drop_eq_getElem_cons c]
   unfold qcr j0i
   rw [Option.bind_some]
   by_cases e:L[j].1=r.1
   ·rw [if_pos e]
    show (bif decide (L[j].1=r.1) then _ else _)=_
    rw [decide_eq_true e];rfl
   ·rw [if_neg e]
    show (bif decide (L[j].1=r.1) then _ else _)=_
    rw [decide_eq_false e,cond_false,q02,q00 (by omega)]
    exact j6s n L r hl m (j+1) (by omega) (by omega)
  ·rw [decide_eq_false (by omega),cond_false,List.drop_of_length_le (by omega)]
   rfl
theorem j26 (n:Nat) (L:List QD) (r:QD) (hn:1000000≤n) (hl:L.length≤900000):qfk n () () r.1 r.2.1 r.2.2.1 r.2.2.2.1 r.2.2.2.2.1 r.2.2.2.2.2 L=some ((match j0i r.1 0 L with|some i=>(i:Int)|none=>-1),((r,()),(L,()))):=by
 unfold qfk
 have:=j6s n L r (by omega) n 0 (by omega) (Nat.zero_le _)
 rw [show ((0:Nat):Int)=(0:Int) from rfl,List.drop_zero] at this
 rw [this]
 cases j0i r.1 0 L<;>rfl
theorem qjn (p:Yy) : ∀ (L:List QD) (j i:Nat),j0i p j L=some i→∃ k,i=j+k∧∃ h:k<L.length,L[k].1=p
 | x::t,j,i,h=>by
  unfold j0i at h
  split at h
  ·rename_i e
   exact ⟨0,(Option.some.inj h).symm,by simp,e⟩
  ·obtain ⟨k,h1,h2,h3⟩:=qjn p t (j+1) i h
   exact ⟨k+1,by omega,by simpa using h2,h3⟩
theorem j2v (r:QD) : ∀ (L:List QD) (j:Nat),j0i r.1 j L=none→upL r L=L ++ [r]
 | [],j,_=>rfl
 | x::t,j,h=>by
  unfold j0i at h
  split at h
  ·cases h
  ·rename_i e
   unfold upL
   rw [if_neg e,j2v r t (j+1) h];rfl
theorem j1x (r:QD) : ∀ (L:List QD) (j k:Nat),j0i r.1 j L=some (j+k)→∀ h:k<L.length,upL r L=if q3b L[k]=true∧0≤q3d L[k].2 r.2 then L else L.set k r
 | x::t,j,k,h,hk=>by
  unfold j0i at h
  unfold upL
  by_cases e:x.1=r.1
  ·rw [if_pos e] at h
   have:k=0:=by have:=Option.some.inj h;omega
   subst this
   rw [if_pos e]
   rfl
  ·rw [if_neg e] at h
   obtain ⟨k',h1,h2,h3⟩:=qjn r.1 t (j+1) (j+k) h
   obtain rfl:k=k'+1:=by omega
   rw [if_neg e,j1x r t (j+1) k' (by rw [h];congr 1) h2]
   show x::(if q3b t[k']=true∧0≤q3d t[k'].2 r.2 then t else t.set k' r)=if q3b t[k']=true∧0≤q3d t[k'].2 r.2 then x::t else x::t.set k' r
   split<;>rfl
def rsW {α:Type} : Result α→World
 | .ok _ w=>w
 | .halt _ w=>w
def gsW:GStep→World
 | .go _ w _=>w
 | .comm _ _ _ _ w _=>w
 | .spawn _ _ w _=>w
 | .count _ w _=>w
 | .timer _ _ w _=>w
 | .alone _ _ w _=>w
 | .newcoro _ _ _ w _=>w
 | .coroswitch _ _ _ w _=>w
 | .collect _ w _=>w
 | .watch _ w _=>w
 | .ended _ w _=>w
def stW:Stepped→World
 | .next m=>m.world
 | .ended _ w=>w
theorem jlq {α:Type} (a:Ask α) : ∀ w:World,w.drawn≤(w.ask a).2.drawn:=by
 induction a with
 | done a=>intro w;exact Nat.le_refl _
 | ask what range k ih =>
  intro w;unfold World.ask
  dsimp only
  split
  ·exact ih _ _
  ·exact Nat.le_trans (Nat.le_succ _) (ih _ { w with drawn:=w.drawn+1 })
theorem jk8 (w:World) (c:Sys):w.drawn≤(w.sys c).2.drawn:=by
 unfold World.sys
 have h:=jlq (Kernel.perform c w.os) w
 split
 ·exact Nat.le_refl _
 ·rename_i he
  rw [he] at h;exact h
theorem joe {P:Program} {w w':World} {x:Addr} {u:TypeId} {k:Addr} {v:Value} {b:Bool} {l:List Addr} (h:w.viewStore P x u k v b = .ok (w',l)):w'.drawn=w.drawn:=by
 unfold World.viewStore at h
 simp only [bind,Except.bind,pure,Except.pure,throw,throwThe,MonadExceptOf.throw] at h
 repeat' split at h
 all_goals first|cases h;rfl|cases h
theorem jqy {P:Program} {w w':World} {a:Addr} {v:Value} {b:Bool} {l:List Addr} (h:w.farStore P a v b = .ok (w',l)):w.drawn≤w'.drawn:=by
 unfold World.farStore at h
 split at h
 ·split at h
  ·rename_i r hr
   simp only [Except.ok.injEq] at h
   subst h
   exact Nat.le_of_eq (joe hr).symm
  ·cases h
 ·cases h
theorem jpn (w:World) (a:Addr) (n:Nat):(w.freeze a n).drawn=w.drawn:=by unfold World.freeze;split<;>rfl
theorem jl3 {α:Type} (P:Program) (e:Sem α) : ∀ w,w.drawn≤(rsW (e.run P w)).drawn:=by
 induction e with
 | pure a=>intro w;exact Nat.le_refl _
 | load m a k ih =>
  intro w;unfold Sem.run
  split
  ·exact ih _ _
  ·split
   ·exact ih _ _
   ·exact Nat.le_refl _
 | store m a v k ih =>
  intro w
  have key:w.drawn≤(rsW (match w.cell? a with
    | some _=>if w.frozen? a then .halt (.unsupported (.unsafePointer "a write to bytes that a string shares")) w else k.run P (w.setCell a v)
    | none=>match w.farStore P a v (m == .atomic) with
     | .ok (w,_)=>k.run P w
     | .error h=>.halt h w)).drawn:=by
   split
   ·split
    ·exact Nat.le_refl _
    ·exact Nat.le_trans (Nat.le_of_eq rfl) (ih (w.setCell a v))
   ·split
    ·rename_i h;exact Nat.le_trans (jqy h) (ih _)
    ·exact Nat.le_refl _
  cases v<;>first|exact Nat.le_refl _|exact key
 | new o k ih=>intro w;unfold Sem.run;exact ih _ { w with heap:=w.heap.push o }
 | shape r k ih=>intro w;unfold Sem.run;exact ih _ _
 | freeze a n k ih=>intro w;unfold Sem.run;exact Nat.le_trans (Nat.le_of_eq (jpn w a n).symm) (ih _)
 | frozen a k ih=>intro w;unfold Sem.run;exact ih _ _
 | getObj r k ih =>
  intro w;unfold Sem.run
  split
  ·exact Nat.le_refl _
  ·exact ih _ _
  ·exact Nat.le_refl _
 | setObj r o k ih =>
  intro w;unfold Sem.run
  split
  ·exact Nat.le_refl _
  ·exact ih { w with heap:=w.heap.setIfInBounds r o }
  ·exact Nat.le_refl _
 | choose q k ih =>
  intro w;unfold Sem.run
  split
  ·exact ih _ _
  ·exact Nat.le_trans (Nat.le_succ _) (ih _ { w with drawn:=w.drawn+1 })
 | sys c k ih=>intro w;unfold Sem.run;exact Nat.le_trans (jk8 w c) (ih _ _)
 | program k ih=>intro w;unfold Sem.run;exact ih _ _
 | mark m k ih=>intro w;unfold Sem.run;exact ih _
 | halt h=>intro w;exact Nat.le_refl _
theorem q7k {α:Type} {P:Program} {e:Sem α} {w w':World} {v:α} (h:e.run P w = .ok v w'):w.drawn≤w'.drawn:=by
 have:=jl3 P e w
 rw [h] at this;exact this
theorem q3a {α:Type} {P:Program} {e:Sem α} {w w':World} {v:Halt} (h:e.run P w = .halt v w'):w.drawn≤w'.drawn:=by
 have:=jl3 P e w
 rw [h] at this;exact this
theorem q8c (es:Array Event) (s:GStep):gsW (s.after es)=gsW s:=by cases s<;>rfl
theorem jmh {c:Prop} [Decidable c] {a b:GStep} {n:Nat} (h1:n≤(gsW a).drawn) (h2:n≤(gsW b).drawn):n≤(gsW (if c then a else b)).drawn:=by split<;>assumption
theorem jix {α:Type} {o:Option α} {a:GStep} {f:α→GStep} {n:Nat} (h1:n≤(gsW a).drawn) (h2 : ∀ x,n≤(gsW (f x)).drawn):n≤(gsW (o.elim a f)).drawn:=by cases o;exact h1;exact h2 _
theorem qq0 (w:World) (fd:Nat) (t:ByteArray) (o:Outcome):w.drawn≤(gsW (endWith w fd t o)).drawn:=by
 have h:=jk8 w (.write fd t)
 unfold endWith
 dsimp only
 repeat' split
 all_goals (rw [‹w.sys _=_›] at h;exact h)
theorem quh (p:Program) (fr:Frame) (cs:List Frame) (dy:Option Dying) (g:Nat) (w:World):w.drawn≤(gsW (early p fr cs dy g w)).drawn:=by
 unfold early
 dsimp only
 repeat' split
 all_goals first|exact Nat.le_refl _|(have h:=q7k ‹Sem.run _ _ _=Result.ok _ _›;exact h)|(have h:=q3a ‹Sem.run _ _ _=Result.halt _ _›;exact h)
theorem qdu (p:Program) (fr:Frame) (v:Value) (w:World):w.drawn≤(gsW (endPrinting p fr v w)).drawn:=by
 unfold endPrinting
 dsimp only
 repeat' split
 all_goals exact Nat.le_refl _
theorem qrz (p:Program) (fr:Frame) (cs:List Frame) (dy:Option Dying) (m:String) (w:World):w.drawn≤(gsW (endFatal p fr cs dy m w)).drawn:=by
 unfold endFatal
 dsimp only
 repeat' split
 all_goals first|exact Nat.le_refl _|(have h:=q7k ‹Sem.run _ _ _=Result.ok _ _›;exact h)|(have h:=q3a ‹Sem.run _ _ _=Result.halt _ _›;exact h)
theorem qr1 (p:Program) (fr:Frame) (d:Dying) (f:Fatal) (w:World):w.drawn≤(gsW (writeOn p fr d f w)).drawn:=by
 unfold writeOn
 simp only [Sem.runT_eq]
 split
 ·exact Nat.le_refl _
 ·repeat' split
  all_goals (rename_i he;simp only [Prod.mk.injEq] at he;first|exact q7k he.1|exact q3a he.1)
theorem jr0 (p:Program) (fr:Frame) (d:Dying) (w:World):w.drawn≤(gsW (die p fr d w)).drawn:=by
 unfold die
 simp only [Sem.runT_eq]
 repeat' split
 all_goals (try rw [q8c])
 all_goals (repeat' split)
 all_goals first|exact Nat.le_refl _|(have h:=q7k ‹Sem.run _ _ _=Result.ok _ _›;exact h)|(have h:=q3a ‹Sem.run _ _ _=Result.halt _ _›;exact h)|(refine Nat.le_trans (q3a ‹Sem.run _ _ _=Result.halt _ _›) ?_;first|exact qrz .. | exact Nat.le_refl _|exact quh .. | exact qdu ..)|exact qr1 .. | exact qq0 ..
theorem q8x (p:Program) (b:Bool) (fr:Frame) (cs:List Frame) (dy:Option Dying) (v:Value) (w:World):w.drawn≤(gsW (doReturn p b fr cs dy v w)).drawn:=by
 unfold doReturn
 dsimp only
 repeat' split
 all_goals exact Nat.le_refl _
theorem j3i (p:Program) (fr:Frame) (cs:List Frame) (dy:Option Dying) (d:Deferred) (w:World):w.drawn≤(gsW (callDeferred p fr cs dy d w)).drawn:=by
 unfold callDeferred
 simp only [Sem.runT_eq]
 refine jmh (Nat.le_refl _) ?_
 rw [q8c]
 repeat' split
 all_goals first|exact Nat.le_refl _|(have h:=q7k ‹Sem.run _ _ _=Result.ok _ _›;exact h)|(have h:=q3a ‹Sem.run _ _ _=Result.halt _ _›;exact h)|(refine Nat.le_trans (q3a ‹Sem.run _ _ _=Result.halt _ _›) ?_;first|exact qrz .. | exact Nat.le_refl _|exact quh .. | exact qdu ..)|exact qr1 .. | exact qq0 ..
theorem jdz (p:Program) (b:Bool) (fr:Frame) (cs:List Frame) (dy:Option Dying) (w:World):w.drawn≤(gsW (unwind p b fr cs dy w)).drawn:=by
 unfold unwind
 simp only [Sem.runT_eq]
 repeat' split
 all_goals (try rw [q8c])
 all_goals (repeat' split)
 all_goals first|exact Nat.le_refl _|exact j3i .. | exact q8x .. | exact qdu .. | (have h:=q7k ‹Sem.run _ _ _=Result.ok _ _›;exact h)|(have h:=q3a ‹Sem.run _ _ _=Result.halt _ _›;exact h)|(refine Nat.le_trans (q7k ‹Sem.run _ _ _=Result.ok _ _›) ?_;exact q8x ..)
theorem qj2 (p:Program) (fr:Frame) (cs:List Frame) (dy:Option Dying) (l:Bool) (s:Sem Next) (w:World):w.drawn≤(gsW (stepG.apply p l fr cs dy s w)).drawn:=by
 unfold stepG.apply
 have h0:(if l=true then s.runT p w #[] else (s.run p w,(#[]:Array Event)))=(s.run p w,if l=true then s.events p w #[] else #[]):=by cases l<;>simp [Sem.runT_eq]
 dsimp only
 rw [h0]
 dsimp only
 rw [q8c]
 repeat' split
 all_goals first|exact Nat.le_refl _|(have h:=q7k ‹Sem.run _ _ _=Result.ok _ _›;exact h)|(have h:=q3a ‹Sem.run _ _ _=Result.halt _ _›;exact h)|(refine Nat.le_trans (q3a ‹Sem.run _ _ _=Result.halt _ _›) ?_;first|exact qrz .. | exact quh .. | exact Nat.le_refl _)
theorem jn6 (p:Program) (fr:Frame) (cs:List Frame) (dy:Option Dying) (l:Bool) (w:World):w.drawn≤(gsW (stepG.oper p l fr cs dy w)).drawn:=by
 unfold stepG.oper
 repeat' split
 all_goals first|exact Nat.le_refl _|exact qj2 ..
set_option maxHeartbeats 4000000 in
theorem jnq (p:Program) (b l:Bool) (fr:Frame) (cs:List Frame) (dy:Option Dying) (w:World):w.drawn≤(gsW (stepG.exec p b l fr cs dy w)).drawn:=by
 unfold stepG.exec
 simp only [Sem.runT_eq]
 repeat' split
 all_goals (try rw [q8c])
 all_goals (repeat' split)
 all_goals first|(refine jix ?_ ?_<;>intros<;>(try rw [q8c])<;>first|exact Nat.le_refl _|(have h:=q7k ‹Sem.run _ _ _=Result.ok _ _›;exact h)|(have h:=q3a ‹Sem.run _ _ _=Result.halt _ _›;exact h)|(refine Nat.le_trans (q7k ‹Sem.run _ _ _=Result.ok _ _›) ?_;exact q8x ..)|exact qj2 ..)|exact Nat.le_refl _|exact jn6 .. | exact qj2 .. | (have h:=q7k ‹Sem.run _ _ _=Result.ok _ _›;exact h)|(have h:=q3a ‹Sem.run _ _ _=Result.halt _ _›;exact h)|(refine Nat.le_trans (q7k ‹Sem.run _ _ _=Result.ok _ _›) ?_;first|exact q8x .. | exact qj2 ..)
theorem jjs (p:Program) (b:Bool) (g:Goroutine) (w:World) (l:Bool):w.drawn≤(gsW (stepG p b g w l)).drawn:=by
 unfold stepG
 dsimp only
 repeat' split
 all_goals first|exact jr0 .. | exact jnq .. | exact jdz ..
theorem jn3 {rest:Rest} {cs:Array CommCase} {w w':World} (h:waitingAt rest cs w=some w'):w'.drawn=w.drawn:=by
 unfold waitingAt at h
 repeat' split at h
 all_goals (cases h;try rfl)
theorem jlt (p:Program) (rest:Rest) (gs:Array Goroutine) (i:Nat) (g:Goroutine) (cases:Array CommCase) (bl:Bool) (shape:CommShape) (w:World):w.drawn≤(stW (communicate p rest gs i g cases bl shape w).1).drawn:=by
 unfold communicate
 dsimp only
 repeat' split
 all_goals first
  | exact Nat.le_refl _
  | exact Nat.le_of_eq (jn3 (by assumption)).symm
  | (have h:=q7k ‹Sem.run _ _ _=Result.ok _ _›;exact h)
  | (have h:=q3a ‹Sem.run _ _ _=Result.halt _ _›;exact h)
  | (have h:=q3a ‹Sem.run _ _ _=Result.halt _ _›;exact Nat.le_trans (q7k ‹Sem.run _ _ w=Result.ok _ _›) h)
  | (have h:=q7k ‹Sem.run _ _ _=Result.ok _ _›;exact Nat.le_trans (q7k ‹Sem.run _ _ w=Result.ok _ _›) h)
  | skip
theorem j2d (p:Program) (gs:Array Goroutine) (rest:Rest) (w:World):w.drawn≤(stW (look p gs rest w)).drawn:=by
 unfold look
 dsimp only
 repeat' split
 all_goals first|exact Nat.le_refl _|(have h:=q7k ‹Sem.run _ _ _=Result.ok _ _›;exact h)|(have h:=q3a ‹Sem.run _ _ _=Result.halt _ _›;exact h)
theorem jia (p:Program) (m:Machine) (k:Nat):m.world.drawn≤(stW (serve p m k)).drawn:=by
 unfold serve
 dsimp only
 repeat' split
 all_goals exact Nat.le_refl _
theorem jh6 (w:World) (c:Nat):(drain w c).2.drawn=w.drawn:=by unfold drain;split<;>rfl
theorem qvb (m:Machine) (k:Nat) (t:Timer) (a b:Nat):(retime m k t a b).2.world.drawn=m.world.drawn:=by
 unfold retime
 cases t.chan with
 | none=>rfl
 | some c=>exact jh6 _ _
theorem jfv {m m':Machine} {v:Addr} (h:timerOp.opened m v=some m'):m'.world.drawn=m.world.drawn:=by
 unfold timerOp.opened at h
 repeat' split at h
 all_goals (cases h;try rfl)
theorem j4n {m m':Machine} {var:Addr} {f:Nat→Timer→Value×Machine} {v:Value} (h:timerOp.named m var f = .ok (v,m')) : ∃ k t,f k t=(v,m'):=by
 unfold timerOp.named at h
 split at h
 ·exact ⟨_,_,Except.ok.inj h⟩
 ·cases h
theorem ji7 {m m':Machine} {op:TimerOp} {v:Value} (h:timerOp m op = .ok (v,m')):m'.world.drawn=m.world.drawn:=by
 unfold timerOp at h
 repeat' split at h
 all_goals first
  | (cases h;done)
  | (cases h;rfl)
  | (obtain ⟨k,t,hk⟩:=j4n h;have h1:=qvb m k t 0 t.period;rw [hk] at h1;exact h1)
  | (rename_i m1 hm;obtain ⟨k,t,hk⟩:=j4n h;have h1:=qvb m1 k t;have h2:=congrArg (fun x=>x.2.world.drawn) hk;have h3:=jfv hm;exact (h2.symm.trans (h1 _ _)).trans h3)
  | skip
def jkb (n:Nat):Stepped→Prop
 | .next m=>n≤m.world.drawn
 | .ended _ _=>True
theorem qsm {n:Nat} {s:Stepped} (h:n≤(stW s).drawn):jkb n s:=by cases s;exact h;trivial
theorem jnu (p:Program) (m:Machine) (i:Nat) (l:Bool):jkb m.world.drawn (runT p m i l).1:=by
 unfold runT
 dsimp only
 have h0:=jjs p (i==0) (m.gs.swapAt! i { (default:Goroutine) with status:=.finished }).1 m.world l
 generalize stepG p (i==0) (m.gs.swapAt! i { (default:Goroutine) with status:=.finished }).1 m.world l=s at h0 ⊢
 cases s with
 | comm g cs bl sh w es=>exact qsm (Nat.le_trans h0 (jlt ..))
 | collect g w es=>exact qsm (Nat.le_trans h0 (j2d ..))
 | count g w es=>dsimp only;split<;>first|exact h0|trivial
 | timer g op w es =>
  dsimp only
  repeat' split
  all_goals first|trivial|(have h:=ji7 ‹timerOp _ _=_›;exact Nat.le_trans h0 (Nat.le_of_eq h.symm))|(have h:=congrArg (fun s=>(gsW s).drawn) ‹endThrow _ _ _=_›;exact Nat.le_trans h0 (Nat.le_of_eq h))
 | coroswitch g c ex w es =>
  dsimp only
  repeat' split
  all_goals first|trivial|exact h0|(have h:=congrArg (fun s=>(gsW s).drawn) ‹endThrow _ _ _=_›;exact Nat.le_trans h0 (Nat.le_of_eq h))
 | ended o w es=>trivial
 | _=>exact h0
def joz (n:Nat):Move→Prop
 | .goroutine m _=>n≤m.world.drawn
 | .machine s _=>jkb n s
theorem qxo {n k:Nat} {s:Stepped} (h:n≤k) (hs:jkb k s):jkb n s:=by cases s;exact Nat.le_trans h hs;trivial
theorem qx2 {n k:Nat} {s:Move} (h:n≤k) (hs:joz k s):joz n s:=by cases s;exact Nat.le_trans h hs;exact qxo h hs
theorem j96 (p:Program) (m:Machine) (k n:Nat) (h:n≤m.world.drawn):jkb n (serve p m k):=qsm (Nat.le_trans h (jia p m k))
theorem quf (p:Program) (m:Machine):joz m.world.drawn (askOn p m):=by
 unfold askOn
 dsimp only
 repeat' split
 all_goals first|trivial|skip
 all_goals first
  | (refine j96 p _ _ _ ?_;exact q7k ‹Sem.run _ _ m.world=Result.ok _ _›)
  | (dsimp only [joz,jkb,Machine.advanceTo];grind [→q7k,→q3a,Machine.advanceTo])
theorem jl0 (p:Program) (m:Machine):joz m.world.drawn (ask p m):=by
 unfold ask
 split
 ·split
  ·trivial
  ·have h1:=q7k ‹Sem.run _ _ _=Result.ok _ _›
   split
   ·have h2:=j2d p m.gs m.rest ‹World›
    rename_i hl
    rw [hl] at h2
    exact qx2 (Nat.le_trans h1 h2) (quf p _)
   ·exact qsm (Nat.le_trans h1 (j2d ..))
  ·have h1:=q7k ‹Sem.run _ _ _=Result.ok _ _›
   exact qx2 h1 (quf p _)
 ·exact quf p m
theorem jmb (p:Program) (m:Machine):joz m.world.drawn (move p m):=by
 unfold move
 repeat' split
 all_goals first|exact Nat.le_refl _|trivial|exact jl0 p { m with rest:=_ } | exact jl0 p m
theorem jn4 {p:Program} {m m':Machine} (h:step p m = .next m'):m.world.drawn≤m'.world.drawn:=by
 have h1:jkb m.world.drawn (step p m):=by
  have h0:=jmb p m
  unfold step Go.stepT
  split
  ·rename_i m1 i he
   rw [he] at h0
   exact qxo h0 (jnu p m1 i true)
  ·rename_i s ops he
   rw [he] at h0
   exact h0
 rw [h] at h1;exact h1
theorem j64 {p:Program} : ∀ {n:Nat} {m m':Machine},runN p n m = .next m'→m.world.drawn≤m'.world.drawn
 | 0,m,m',h=>by
  have:m=m':=by unfold runN at h;exact Stepped.next.inj h
  subst this;exact Nat.le_refl _
 | n+1,m,m',h=>by
  unfold runN at h
  split at h
  ·rename_i m1 he;exact Nat.le_trans (jn4 he) (j64 h)
  ·rename_i e he;exact absurd h (he _)
theorem j24 {P:Program} {f:FuncId} {args:Array Value} {w:World} {R:Ending→World→Prop} (h:Calls P f args w R) (hr : ∀ e w',R e w'→∃ v,e = .returned v):Calls P f args w fun e w'=>R e w'∧w.drawn≤w'.drawn:=by
 intro cs
 obtain ⟨e,w',fr,h1,h2,h3⟩:=h cs
 obtain ⟨v,rfl⟩:=hr e w' h1
 have h4:Steps P _ _:=h2
 obtain ⟨n,hn⟩:=h4
 exact ⟨_,w',fr,⟨h1,j64 hn⟩,h2,h3⟩
end Go.Proofs.YtlkpgcifpnppeaaGreatDoor.AM
namespace Go.Proofs
open Go.RowKit Go.Lib Go.Shelf Go.Sort
namespace YtlkpgcifpnppeaaGreatDoor.AM
section
variable {T:Ty} {cv:den T→List Value} {α:Type} [Inhabited α]
theorem qxq (h:CvT T cv) (val:α→den T) (d:Array α) (t:Nat) (ht:t<d.size*width T):(cvs cv (d.toList.map val))[t]? = some ((flatK (fun x=>cv (val x)) (width T) d)[t]!):=by
 have hp:=h.pos
 rw [get_flatK _ _ _ _ ht]
 have hk:t / width T<d.size:=by rw [Nat.div_lt_iff_lt_mul hp];exact ht
 have hm:t % width T<width T:=Nat.mod_lt _ hp
 have ej:t / width T*width T+t % width T=t:=by rw [Nat.mul_comm];exact Nat.div_add_mod t _
 have hg:=h.get (d.toList.map val) (t / width T) (t % width T) (by simpa using hk) hm
 rw [ej] at hg
 rw [hg,List.getElem_map,Array.getElem_toList,getElem!_pos d _ hk,getElem!_pos (cv (val d[t / width T])) _ (by rw [h.len];exact hm),List.getElem?_eq_getElem]
theorem qzg (h:CvT T cv) (val:α→den T) (d:Array α) (w:World) (g E:Nat) (cur:Array Value) (hg:w.heap[g]? = some (.cells cur E (0,0))) (ht:cur.toList.take (d.size*width T)=cvs cv (d.toList.map val)) :
  HoldsK (fun x=>cv (val x)) (width T) w g 0 d:=fun j hj=>by
 rw [size_flatK] at hj
 rw [Nat.zero_add]
 refine ⟨?_,by simp [World.frozen?,hg]⟩
 rw [cell_of_row w g j cur _ _ hg]
 have h1:=qxq h val d j hj
 rw [← ht,List.getElem?_take,if_pos hj] at h1
 simpa using h1
theorem qhf (h:CvT T cv) (val:α→den T) (d d':Array α) (w:World) (B g E cap n:Nat) (cur:Array Value) (os:Array Obj) (hB:B≤g) (hg:w.heap[g]? = some (.cells cur E (0,0))) (hn:d.size≤cap) (hc:cap≤maxLen) (hs:cur.size=cap*width T) (hd:d'.size=d.size)
  (ht:cur.toList.take (d.size*width T)=cvs cv (d.toList.map val)) :
  (sortWorldK (fun x=>cv (val x)) (width T) w g 0 n d' os).ownsRow B E (width T) (.slice (some ⟨g,0,none⟩) d.size cap) d.size (cvs cv (d'.toList.map val))∧Below B w (sortWorldK (fun x=>cv (val x)) (width T) w g 0 n d' os):=by
 have hlt:g<w.heap.size:=q39 hg
 have hX:(putRowK (fun x=>cv (val x)) (width T) (Sort.ahead w n) g 0 d').heap[g]? = some (.cells (putCells id 0 (flatK (fun x=>cv (val x)) (width T) d') cur) E (0,0)):=by
  show (w.heap.modify g (onCells _))[g]? = _
  rw [Array.getElem?_modify,if_pos rfl,hg];rfl
 have hO : ∀ k,k≠g→(putRowK (fun x=>cv (val x)) (width T) (Sort.ahead w n) g 0 d').heap[k]? = w.heap[k]?:=fun k hk=>by
  show (w.heap.modify g (onCells _))[k]? = _
  rw [Array.getElem?_modify,if_neg (fun e=>hk e.symm)]
 have hS:(putRowK (fun x=>cv (val x)) (width T) (Sort.ahead w n) g 0 d').heap.size=w.heap.size:=by
  show (w.heap.modify g (onCells _)).size=_
  simp
 have hsort : ∀ k,k<w.heap.size→(sortWorldK (fun x=>cv (val x)) (width T) w g 0 n d' os).heap[k]? = (putRowK (fun x=>cv (val x)) (width T) (Sort.ahead w n) g 0 d').heap[k]?:=fun k hk=>by
  show ((putRowK (fun x=>cv (val x)) (width T) (Sort.ahead w n) g 0 d').heap++os)[k]? = _
  rw [Array.getElem?_append_left (by rw [hS];exact hk)]
 refine ⟨⟨by rw [h.lens];simp [hd],.inr ⟨g,cap,_,rfl,hB,(hsort g hlt).trans hX,hn,hc,?_,?_⟩⟩,?_⟩
 ·simp [putCells,hs]
 ·apply List.ext_getElem?
  intro t
  rw [List.getElem?_take]
  by_cases h1:t<d.size*width T
  ·rw [if_pos h1]
   have h1':t<d'.size*width T:=by rw [hd];exact h1
   rw [qxq h val d' t h1']
   have hcl:t<cur.size:=by rw [hs];exact Nat.lt_of_lt_of_le h1 (Nat.mul_le_mul_right _ hn)
   rw [Array.getElem?_toList]
   unfold putCells
   rw [Array.getElem?_mapIdx,Array.getElem?_eq_getElem hcl]
   simp only [Option.map_some]
   rw [if_pos ⟨Nat.zero_le _,by rw [size_flatK,Nat.zero_add];exact h1'⟩,Nat.sub_zero];rfl
  ·rw [if_neg h1,List.getElem?_eq_none]
   rw [h.lens];simp only [List.length_map,Array.length_toList,hd];omega
 ·refine ⟨rfl,rfl,rfl,?_,fun k hk=>?_⟩
  ·show w.heap.size≤((putRowK (fun x=>cv (val x)) (width T) (Sort.ahead w n) g 0 d').heap++os).size
   rw [Array.size_append,hS];omega
  ·by_cases hkl:k<w.heap.size
   ·rw [hsort k hkl,hO k (fun e=>by omega)]
   ·omega
end
theorem qvf {α:Type} [Inhabited α] {enc:α→List Value} {k:Nat} (w:World) (g E:Nat) (cur:Array Value) (hg:w.heap[g]? = some (.cells cur E (0,0))) (n:Nat) (d':Array α) (os:Array Obj):w.grownBy (sortWorldK enc k w g 0 n d' os) (some g):=by
 have hS:(putRowK enc k (Sort.ahead w n) g 0 d').heap.size=w.heap.size:=by
  show (w.heap.modify g (onCells _)).size=_
  simp
 refine ⟨rfl,rfl,rfl,?_,fun i hi hn=>?_⟩
 ·show w.heap.size≤((putRowK enc k (Sort.ahead w n) g 0 d').heap++os).size
  rw [Array.size_append,hS];omega
 ·show ((putRowK enc k (Sort.ahead w n) g 0 d').heap++os)[i]? = _
  rw [Array.getElem?_append_left (by rw [hS];exact hi)]
  show (w.heap.modify g (onCells _))[i]? = _
  rw [Array.getElem?_modify,if_neg (fun e=>hn (by rw [e]))]
theorem qtk {w w':World} (hb:Below w.heap.size w w') (hd:w.drawn≤w'.drawn) : ∃ q os,w'=grow (w.drewN q) os:=by
 refine ⟨w'.drawn - w.drawn,w'.heap.extract w.heap.size w'.heap.size,?_⟩
 obtain ⟨h1,h2,h3,h4,h5⟩:=hb
 cases w;cases w'
 simp only at h1 h2 h3 h4 h5 hd
 subst h1 h2 h3
 unfold grow World.drewN
 simp only [World.mk.injEq,true_and,and_true]
 refine ⟨?_,by omega⟩
 apply Array.ext_getElem?
 intro k
 rw [Array.getElem?_append]
 split
 ·exact h5 k (by assumption)
 ·rename_i hk
  rw [Array.getElem?_extract]
  simp only [Nat.min_self]
  split
  ·congr 1;omega
  ·rw [Array.getElem?_eq_none];omega
end YtlkpgcifpnppeaaGreatDoor.AM
end Go.Proofs
namespace Go.Proofs
open Go.RowKit Go.Shelf Go.Lib
open Go.Sort (SWO PermIn SortedIn)
open Go.ChangeMaps (setBlock)
attribute [local go_sem] Oper.semAt_some
shelf_lay_g SlLaysF0.n6 Slsf 6 at Tryz 55 as Tryz.sortQ
namespace YtlkpgcifpnppeaaGreatDoor.AM
abbrev TG:Nat:=2199023259661
def j58 (m:List (List UInt8×QD)):List (List Value):=m.map fun x=>.string (ba x.1)::qcv x.2
theorem qla {Pc:Nat→Nat→Prop} {w:World} : ∀ {us vs:List Value},q0b (DatRep Pc w) us (vs.map Dat.v)→us=vs
 | [],[],_=>rfl
 | [],_::_,h=>h.elim
 | _::_,[],h=>h.elim
 | u::us,v::vs,h=>by
  obtain ⟨h1,h2⟩:=h
  rw [qla h2]
  cases h1 with
  | v x=>rfl
theorem jgi {Pc:Nat→Nat→Prop} {w:World} : ∀ {es:List (List Value)} {m:List (List UInt8×QD)},
  q0b (fun us x=>q0b (DatRep Pc w) us x∧us.length=7∧∀ u∈us,u.oneCell'=true) es (m.map (q01 (.prod .str QT)))→es=j58 m
 | [],[],_=>rfl
 | [],_::_,h=>h.elim
 | _::_,[],h=>h.elim
 | us::es,x::m,h=>by
  obtain ⟨h1,h2⟩:=h
  show us::es=(Value.string (ba x.1)::qcv x.2)::j58 m
  rw [jgi h2]
  have h3:q0b (DatRep Pc w) us ((Value.string (ba x.1)::qcv x.2).map Dat.v):=by
   have e:(Value.string (ba x.1)::qcv x.2).map Dat.v=q01 (.prod .str QT) x:=by
    rw [List.map_cons,← q64.dat];rfl
   rw [e];exact h1.1
  rw [qla h3]
theorem j1v (T:Nat) : ∀ (es:List (List Value)) (i:Nat),(qaa T i es).map (·.born)=List.range' i es.length
 | [],i=>rfl
 | us::es,i=>by
  show i::(qaa T (i+1) es).map (·.born)=_
  rw [j1v T es (i+1)];rfl
theorem jkh (T:Nat) : ∀ (es:List (List Value)) (i:Nat) (e:MapEntry),e∈qaa T i es→∃ (j:Nat) (h:j<es.length),e.born=i+j∧e.val=AM.valOf (mVa T) (es[j].drop (mKw T))
 | us::es,i,e,he=>by
  rcases List.mem_cons.1 he with rfl|he
  ·exact ⟨0,by simp,rfl,rfl⟩
  ·obtain ⟨j,h,h1,h2⟩:=jkh T es (i+1) e he
   exact ⟨j+1,by simpa using h,by omega,h2⟩
theorem jc6 (m:List (List UInt8×QD)) (e:MapEntry) (he:e∈qaa TG 0 (j58 m)) : ∃ (j:Nat) (h:j<m.length),e.born=j∧e.val = .agg (qcv (m[j]).2).toArray:=by
 obtain ⟨j,h,h1,h2⟩:=jkh TG _ 0 e he
 have h':j<m.length:=by simpa [j58] using h
 refine ⟨j,h',by omega,?_⟩
 rw [h2]
 simp only [j58,List.getElem_map]
 rfl
theorem jcb {es:Array MapEntry} {seen:Array Nat} (h:(leftOf es seen).size=0) : ∀ e∈es.toList,seen.contains e.born=true:=fun e he=>by
 unfold leftOf at h
 have h1:=Array.eq_empty_of_size_eq_zero h
 rw [Array.filter_eq_empty_iff] at h1
 have h2:=h1 e (Array.mem_toList_iff.1 he)
 simpa using h2
theorem jha (m:List (List UInt8×QD)) (sn:List Nat) (hnd:sn.Nodup) (hlt : ∀ i∈sn,i<m.length) (h:(leftOf (qaa TG 0 (j58 m)).toArray sn.toArray).size=0) (d:QD) :
  (sn.map fun i=>(m.map (·.2)).getD i d).Perm (m.map (·.2)):=by
 have h1:sn.Perm (List.range m.length):=by
  rw [List.perm_ext_iff_of_nodup hnd List.nodup_range]
  intro i
  rw [List.mem_range]
  refine ⟨hlt i,fun hi=>?_⟩
  have hb:=j1v TG (j58 m) 0
  have hi2:i∈(qaa TG 0 (j58 m)).map (·.born):=by
   rw [hb,List.mem_range'_1];simp [j58];exact hi
  obtain ⟨e,he,rfl⟩:=List.mem_map.1 hi2
  have:=jcb h e (by simpa using he)
  simpa using this
 have h2:=h1.map fun i=>(m.map (·.2)).getD i d
 have h3:(List.range m.length).map (fun i=>(m.map (·.2)).getD i d)=m.map (·.2):=by
  apply List.ext_getElem
  ·simp
  ·intro i h1 h2
   simp only [List.getElem_map,List.getElem_range]
   rw [List.getD_eq_getElem?_getD,List.getElem?_eq_getElem (by simpa using h2),Option.getD_some]
   simp
 rw [h3] at h2
 exact h2
end YtlkpgcifpnppeaaGreatDoor.AM
end Go.Proofs
namespace Go.Proofs
open Go.RowKit Go.Shelf Go.Lib
open Go.Sort (SWO PermIn SortedIn grow)
namespace YtlkpgcifpnppeaaGreatDoor.AM
theorem jg1 (a:VD):q3d a a=0:=by
 unfold q3d
 split
 ·exact qtg.refl _
 ·rfl
theorem qz2 (a:QD):q10 a a=0:=by
 unfold q10
 rw [(q1j q1o).refl,if_pos rfl,jg1]
theorem j29 {quw:List QD} (hp:quw.Pairwise fun a b=>a.1≠b.1) (x y : {q // q∈quw}):q10 x.1 y.1<0↔ltP x.1 y.1:=by
 unfold ltP
 by_cases h:cmpL qix x.1.1 y.1.1=0
 ·have e:=(q1j q1o).eq _ _ h
  have e2:x.1=y.1:=by
   apply Classical.byContradiction
   intro hne
   have : ∀ {l:List QD},l.Pairwise (fun a b=>a.1≠b.1)→∀ {a b:QD},a∈l→b∈l→a≠b→a.1≠b.1:=by
    intro l hl
    induction l with
    | nil=>intro a b ha;cases ha
    | cons c l ih =>
     obtain ⟨h1,h2⟩:=List.pairwise_cons.1 hl
     intro a b ha hb hab
     rcases List.mem_cons.1 ha with e1|ha2<;>rcases List.mem_cons.1 hb with e2|hb2
     ·exact absurd (e1.trans e2.symm) hab
     ·rw [e1];exact h1 b hb2
     ·rw [e2];exact fun e=>h1 a ha2 e.symm
     ·exact ih h2 ha2 hb2 hab
   exact this hp x.2 y.2 hne e
  rw [e2,qz2,(q1j q1o).refl]
 ·unfold q10
  rw [if_neg h]
theorem swoQ {quw:List QD} (hp:quw.Pairwise fun a b=>a.1≠b.1):SWO (ltOf fun (x y : {q // q∈quw})=>q10 x.1 y.1) where
 irrefl x:=by
  unfold ltOf
  simp only [qz2];rfl
 trans x y z h1 h2:=by
  unfold ltOf at *
  simp only [decide_eq_true_eq,j29 hp] at *
  exact qg0 h1 h2
 ntrans x y z h1 h2:=by
  unfold ltOf at *
  simp only [decide_eq_false_iff_not,j29 hp] at *
  have hc:=q1j q1o
  unfold ltP at *
  have t:=hc.tr z.1.1 y.1.1 x.1.1
  have a1:=hc.anti x.1.1 y.1.1
  have a2:=hc.anti y.1.1 z.1.1
  have a3:=hc.anti x.1.1 z.1.1
  have:=t (by omega) (by omega)
  omega
set_option maxRecDepth 100000 in
theorem qme (w:World) (hI:Inv w) (a b:QD):Calls Tryz.prog 56 #[.agg (qcv a).toArray,.agg (qcv b).toArray] w fun e w'=>e = .returned (.int .i64 (q10 a b))∧∃ q os,w'=grow (w.drewN q) os:=by
 have hh:=(je8 100 Inv q24).1.2 (a,b) _ (qmd 100 a b (Nat.le_refl _))
 obtain ⟨p,x1,x2,x3,r,m⟩:=a
 obtain ⟨p',y1,y2,y3,r',m'⟩:=b
 have h1:Calls Tryz.prog 56 #[.agg (qcv (p,x1,x2,x3,r,m)).toArray,.agg (qcv (p',y1,y2,y3,r',m')).toArray] w fun e w'=>e = .returned (.int .i64 (q10 (p,x1,x2,x3,r,m) (p',y1,y2,y3,r',m')))∧Below w.heap.size w w':=by
  refine (hh (fun _ _=>False) w #[.agg (qcv (p,x1,x2,x3,r,m)).toArray,.agg (qcv (p',y1,y2,y3,r',m')).toArray] hI (fun _ _ h=>h.elim) ⟨⟨_,rfl,q04 (σ:=q7p) _,q04 (σ:=q7p) _,q04 (σ:=q7p) _,q04 (σ:=q7p) _,q04 (σ:=q7p) _,q04 (σ:=q7p) _,trivial⟩,⟨_,rfl,q04 (σ:=q7p) _,q04 (σ:=q7p) _,q04 (σ:=q7p) _,q04 (σ:=q7p) _,q04 (σ:=q7p) _,q04 (σ:=q7p) _,trivial⟩,trivial⟩).mono ?_
  rintro e w' ⟨v,Pc',rfl,hb,_,_,hv⟩
  have hv':v = .int .i64 (q10 (p,x1,x2,x3,r,m) (p',y1,y2,y3,r',m')):=q07 (σ:=q7p) hv
  rw [hv']
  exact ⟨rfl,hb⟩
 refine (j24 h1 fun e w' h=>⟨_,h.1⟩).mono ?_
 rintro e w' ⟨⟨rfl,hb⟩,hd⟩
 exact ⟨rfl,qtk hb hd⟩
theorem jb5 (w:World) (hI:Inv w) (B g cap:Nat) (cur:Array Value) (l:List QD) (hB:B≤g) (hBI : ∀ w',Below B w w'→Inv w') (hg:w.heap[g]? = some (.cells cur 27 (0,0))) (hn:l.length≤cap) (hc:cap≤maxLen) (hs:cur.size=cap*6) (ht:cur.toList.take (l.length*6)=cvs qcv l)
  (hl:l.length≤1000000) (hp:l.Pairwise fun a b=>a.1≠b.1) (h0:l ≠ []) :
  Calls Tryz.prog 55 #[.slice (some ⟨g,0,none⟩) l.length cap,.func (.func 56) #[] #[]] w fun e w'=>e = .returned (.tuple #[]) ∧
   w'.ownsRow B 27 6 (.slice (some ⟨g,0,none⟩) l.length cap) l.length (cvs qcv (j8c l))∧Below B w w':=by
 obtain ⟨q0,hq0⟩:=List.exists_mem_of_ne_nil l h0
 haveI:Inhabited {q // q∈l}:=⟨⟨q0,hq0⟩⟩
 have hval:(l.attach.toArray.toList.map (Subtype.val))=l:=List.attach_map_subtype_val l
 have hsz:l.attach.toArray.size=l.length:=by simp
 have hH:=qzg (T:=QT) q64 (fun (x : {q // q∈l})=>x.1) l.attach.toArray w g 27 cur hg (by
  have e:l.attach.toArray.toList.map (fun x=>x.1)=l:=hval
  rw [e,hsz];exact ht)
 have hX:=AnyQ.slices_SortFunc Tryz.sortQ 6 Tryz.isAgg27 Tryz.sizeOf27 (fun (x : {q // q∈l})=>qcv x.1) (fun x=>q64.len x.1) (fun x=>q64.one x.1) (fun x y=>q10 x.1 y.1) (swoQ hp) 56 #[] g 0 cap l.attach.toArray w (by
   exact enters_of Tryz.func56 (by kernel_rfl) rfl) (fun m os dk hdk x y=>by
    have hI2:=hBI _ (qhf (T:=QT) q64 (fun (x : {q // q∈l})=>x.1) l.attach.toArray dk w B g 27 cap m cur os hB hg (by rw [hsz];exact hn) hc hs (hdk) (by
     have e:l.attach.toArray.toList.map (fun x=>x.1)=l:=hval
     rw [e,hsz];exact ht)).2
    exact qme _ hI2 x.1 y.1) hH (q39 hg) (by rw [hsz];omega)
 rw [hsz] at hX
 refine hX.mono ?_
 rintro e w' ⟨rfl,d',n,os,hP,hS,rfl⟩
 have hO:=qhf (T:=QT) q64 (fun (x : {q // q∈l})=>x.1) l.attach.toArray d' w B g 27 cap n cur os hB hg (by rw [hsz];exact hn) hc hs (by rw [hP.1]) (by
  have e:l.attach.toArray.toList.map (fun x=>x.1)=l:=hval
  rw [e,hsz];exact ht)
 rw [hsz] at hO
 have hd:d'.toList.map (fun x=>x.1)=j8c l:=by
  have hsz2:d'.size=l.length:=by rw [hP.1,hsz]
  have hperm:d'.toList.Perm l.attach:=by
   have h3:=hP.2.2
   have e1:d'.extract 0 l.length=d':=by rw [← hsz2];exact Array.extract_size
   have e2:l.attach.toArray.extract 0 l.length=l.attach.toArray:=by rw [← hsz];exact Array.extract_size
   rw [e1,e2] at h3
   simpa using h3
  have hperm2:(d'.toList.map (fun x=>x.1)).Perm l:=by
   have h4:=hperm.map (fun x=>x.1)
   have e:l.attach.map (fun x=>x.1)=l:=List.attach_map_subtype_val l
   rw [e] at h4;exact h4
  have hp2:(d'.toList.map (fun x=>x.1)).Pairwise fun a b=>a.1≠b.1:=(hperm2.pairwise_iff (fun h e=>h e.symm)).2 hp
  refine qha (hperm2.trans (q68 l).symm) ?_ (q6c l hp)
  rw [List.pairwise_iff_getElem]
  intro i j hi hj hij
  have hi':i<d'.size:=by simpa using hi
  have hj':j<d'.size:=by simpa using hj
  have h5:=hS i j (Nat.zero_le _) hij (by rw [← hsz2];exact hj')
  unfold ltOf at h5
  rw [decide_eq_false_iff_not,j29 hp,getElem!_pos d' i hi',getElem!_pos d' j hj'] at h5
  have h6:=(List.pairwise_iff_getElem.1 hp2) i j hi hj hij
  simp only [List.getElem_map,Array.getElem_toList] at h6 ⊢
  exact qy7 (fun e=>h6 e.symm) h5
 rw [hd] at hO
 exact ⟨rfl,hO.1,hO.2⟩
end YtlkpgcifpnppeaaGreatDoor.AM
end Go.Proofs
namespace Go.Proofs
open Go.RowKit Go.Shelf Go.Lib
attribute [local go_sem] Oper.semAt_some
namespace YtlkpgcifpnppeaaGreatDoor.AM
def q2a (p:QD):List QD→List QD
 | []=>[]
 | y::r=>if q10 y p=0 then q2a y r else y::q2a y r
def q0k:List QD→List QD
 | []=>[]
 | x::r=>x::q2a x r
theorem j6m (p:QD) : ∀ (A:List QD) (x:QD) (r:List QD),(∀ (i:Nat) (h:i+1<(p::(A ++ [x])).length),q10 (p::(A ++ [x]))[i+1] ((p::(A ++ [x]))[i]'(by omega))≠0)→q2a p (A++x::r)=A++x::q2a x r
 | [],x,r,h=>by
  have h0:q10 x p≠0:=h 0 (by simp)
  show (if q10 x p=0 then _ else _)=_
  rw [if_neg h0];rfl
 | y::A,x,r,h=>by
  have h0:q10 y p≠0:=h 0 (by simp)
  show (if q10 y p=0 then _ else y::q2a y (A++x::r))=_
  rw [if_neg h0,j6m y A x r fun i hi=>h (i+1) (by simpa using hi)];rfl
theorem qo7 (l:List QD) (k:Nat) (hk:k<l.length) (h : ∀ (i:Nat) (hi:i+1<l.length),i+1≤k→q10 l[i+1] l[i]≠0):q0k l=l.take (k+1)++q2a l[k] (l.drop (k+1)):=by
 cases l with
 | nil=>simp at hk
 | cons p l =>
  cases k with
  | zero=>rfl
  | succ k =>
   have hk':k<l.length:=by simpa using hk
   have e:l=l.take k++l[k]::l.drop (k+1):=by rw [← List.drop_eq_getElem_cons hk',List.take_append_drop]
   show p::q2a p l=p::l.take (k+1)++q2a l[k] (l.drop (k+1))
   have h2:q2a p l=q2a p (l.take k++l[k]::l.drop (k+1)):=congrArg (q2a p) e
   rw [h2,j6m p (l.take k) l[k] (l.drop (k+1)),List.take_succ_eq_append_getElem hk']
   ·rw [List.cons_append,List.append_assoc];rfl
   ·intro i hi
    have hi2:i<k+1:=by simp at hi;omega
    have e2:p::(l.take k ++ [l[k]])=(p::l).take (k+2):=by rw [List.take_succ_cons,List.take_succ_eq_append_getElem hk']
    have h3:=h i (by simp;omega) (by omega)
    have g1:(p::(l.take k ++ [l[k]]))[i+1]'hi=(p::l)[i+1]'(by simp;omega):=by
     have:(p::(l.take k ++ [l[k]]))[i+1]? = (p::l)[i+1]?:=by rw [e2,List.getElem?_take,if_pos (by omega)]
     rw [List.getElem?_eq_getElem hi,List.getElem?_eq_getElem (by simp;omega)] at this
     exact Option.some.inj this
    have g0:(p::(l.take k ++ [l[k]]))[i]'(by omega)=(p::l)[i]'(by simp;omega):=by
     have:(p::(l.take k ++ [l[k]]))[i]? = (p::l)[i]?:=by rw [e2,List.getElem?_take,if_pos (by omega)]
     rw [List.getElem?_eq_getElem (by omega),List.getElem?_eq_getElem (by simp;omega)] at this
     exact Option.some.inj this
    rw [g1,g0];exact h3
theorem qqt (w:World) (hI:Inv w) (a b:QD):Calls Tryz.prog 62 #[.agg (qcv a).toArray,.agg (qcv b).toArray] w fun e w'=>e = .returned (.bool (decide (q10 a b=0)))∧Below w.heap.size w w':=by
 obtain ⟨z,hz⟩ : ∃ z,z=q10 a b:=⟨_,rfl⟩
 have hX:=fun w hI=>qme w hI a b
 rw [← hz] at hX ⊢
 clear hz
 obtain ⟨p,x1,x2,x3,r,m⟩:=a
 obtain ⟨p',y1,y2,y3,r',m'⟩:=b
 have hX' : ∀ w,Inv w→Calls Tryz.prog 56 #[.agg #[.string (ba p),.int .i64 x1,.int .i64 x2,.int .i64 x3,.string (ba r),.string (ba m)],.agg #[.string (ba p'),.int .i64 y1,.int .i64 y2,.int .i64 y3,.string (ba r'),.string (ba m')]] w fun e w'=>e = .returned (.int .i64 z)∧∃ q os,w'=Go.Sort.grow (w.drewN q) os:=hX
 clear hX
 show Calls Tryz.prog 62 #[.agg #[.string (ba p),.int .i64 x1,.int .i64 x2,.int .i64 x3,.string (ba r),.string (ba m)],.agg #[.string (ba p'),.int .i64 y1,.int .i64 y2,.int .i64 y3,.string (ba r'),.string (ba m')]] w _
 have hB:Below w.heap.size w ((w.alloc (.cells #[.string (ba p),.int .i64 x1,.int .i64 x2,.int .i64 x3,.string (ba r),.string (ba m)] 27)).alloc (.cells #[.string (ba p'),.int .i64 y1,.int .i64 y2,.int .i64 y3,.string (ba r'),.string (ba m')] 27)):=((Below.refl _ _).alloc (Nat.le_refl _) _).alloc (by simp) _
 go_enter Tryz.func62,Tryz.ntmps62
 go_wp2_with (go_at_call 56;refine (hX' _ (hI.below hB)).mono ?_)
 rintro e w' ⟨rfl,q,os,rfl⟩
 go_wp2
 go_ret
 refine ⟨rfl,hB.trans ⟨rfl,rfl,rfl,by simp [Go.Sort.grow,World.drewN],fun k hk=>?_⟩⟩
 show (_++os)[k]? = _
 rw [Array.getElem?_append_left (by simp at hk ⊢;omega)]
 rfl
end YtlkpgcifpnppeaaGreatDoor.AM
end Go.Proofs
namespace Go.Proofs.YtlkpgcifpnppeaaGreatDoor.AM
open Go.RowKit
theorem q25 (a b:QD):q10 a b = - q10 b a:=by
 unfold q10
 have h:=(q1j q1o).anti a.1 b.1
 have h2:=q2n a.2 b.2
 split<;>split<;>omega
theorem qki (a:QD):q10 a a=0:=by have:=q25 a a;omega
theorem q49 {a b:QD} (h:a.1=b.1):q10 a b=q3d a.2 b.2:=by unfold q10;rw [h,(q1j q1o).refl,if_pos rfl]
theorem qlo {a b:QD} (h:a.1≠b.1):q10 a b=cmpL qix a.1 b.1∧q10 a b≠0:=by
 have:cmpL qix a.1 b.1≠0:=fun e=>h ((q1j q1o).eq _ _ e)
 unfold q10
 rw [if_neg this]
 exact ⟨rfl,this⟩
theorem jn1 {a b:QD} (h:q10 a b=0):a.1=b.1∧q3d a.2 b.2=0:=by
 by_cases e:a.1=b.1
 ·exact ⟨e,by rw [← q49 e];exact h⟩
 ·exact absurd h (qlo e).2
theorem qiw {a b c:QD} (ha:q06 a.2=true) (hb:q06 b.2=true) (hc:q06 c.2=true) (h1:q10 a b≤0) (h2:q10 b c≤0):q10 a c≤0:=by
 have hL:=q1j q1o
 by_cases e1:a.1=b.1
 ·by_cases e2:b.1=c.1
  ·rw [q49 e1] at h1
   rw [q49 e2] at h2
   rw [q49 (e1.trans e2)]
   exact qhz ha hb hc h1 h2
  ·rw [(qlo e2).1] at h2
   rw [(qlo (fun e=>e2 (e1.symm.trans e))).1,e1]
   exact h2
 ·by_cases e2:b.1=c.1
  ·rw [(qlo e1).1] at h1
   rw [(qlo (fun e=>e1 (e.trans e2.symm))).1,← e2]
   exact h1
  ·have n1:=(qlo e1).1
   have n2:=(qlo e2).1
   have z1:=(qlo e1).2
   rw [n1] at h1 z1
   rw [n2] at h2
   have h3:=hL.tr _ _ _ h1 h2
   by_cases e3:a.1=c.1
   ·rw [← e3] at h2
    have:=hL.anti a.1 b.1
    omega
   ·rw [(qlo e3).1];exact h3
theorem jgx {a b c:QD} (ha:q06 a.2=true) (hb:q06 b.2=true) (hc:q06 c.2=true) (h1:q10 a b<0) (h2:q10 b c≤0):q10 a c<0:=by
 have h3:=qiw ha hb hc (by omega) h2
 have a1:=q25 a b
 have a2:=q25 a c
 apply Classical.byContradiction
 intro hn
 have:=qiw hb hc ha h2 (by omega)
 omega
theorem qsy {a b c:QD} (ha:q06 a.2=true) (hb:q06 b.2=true) (hc:q06 c.2=true) (h1:q10 a b≤0) (h2:q10 b c<0):q10 a c<0:=by
 have h3:=qiw ha hb hc h1 (by omega)
 have a1:=q25 b c
 have a2:=q25 a c
 apply Classical.byContradiction
 intro hn
 have:=qiw hc ha hb (by omega) h1
 omega
def q8t (x:QD):List QD→List QD
 | []=>[x]
 | y::t=>if q10 x y<0 then y::q8t x t else x::y::t
def j3t (a l:List QD):List QD:=l.foldl (fun a x=>q8t x a) a
theorem qa3 (x z:QD) : ∀ a:List QD,z∈q8t x a↔z=x∨z∈a
 | []=>by unfold q8t;simp
 | y::t=>by
  unfold q8t
  split
  ·rw [List.mem_cons,qa3 x z t,List.mem_cons]
   constructor
   ·rintro (h|h|h)
    ·exact Or.inr (Or.inl h)
    ·exact Or.inl h
    ·exact Or.inr (Or.inr h)
   ·rintro (h|h|h)
    ·exact Or.inr (Or.inl h)
    ·exact Or.inl h
    ·exact Or.inr (Or.inr h)
  ·rw [List.mem_cons]
theorem j67 (x:QD) (hx:q06 x.2=true) : ∀ a:List QD,(∀ z∈a,q06 z.2=true)→a.Pairwise (fun u v=>q10 v u≤0)→(q8t x a).Pairwise fun u v=>q10 v u≤0
 | [],_,_=>by unfold q8t;exact List.pairwise_singleton _ _
 | y::t,hc,h=>by
  obtain ⟨h1,h2⟩:=List.pairwise_cons.1 h
  have hy:=hc y (List.mem_cons_self ..)
  have ht : ∀ z∈t,q06 z.2=true:=fun z hz=>hc z (List.mem_cons_of_mem _ hz)
  unfold q8t
  split
  ·rename_i hlt
   refine List.pairwise_cons.2 ⟨fun z hz=>?_,j67 x hx t ht h2⟩
   rcases (qa3 x z t).1 hz with rfl|hz
   ·omega
   ·exact h1 z hz
  ·rename_i hlt
   have hyx:q10 y x≤0:=by have:=q25 x y;omega
   refine List.pairwise_cons.2 ⟨fun z hz=>?_,h⟩
   rcases List.mem_cons.1 hz with rfl|hz
   ·exact hyx
   ·exact qiw (ht z hz) hy hx (h1 z hz) hyx
def qdk (c z:QD):Bool:=decide (q10 z c=0)
theorem qzy (x c:QD) (hx:q06 x.2=true) (hc:q06 c.2=true) : ∀ a:List QD,(∀ z∈a,q06 z.2=true)→(q8t x a).filter (qdk c)=(x::a).filter (qdk c)
 | [],_=>rfl
 | y::t,ha=>by
  have hy:=ha y (List.mem_cons_self ..)
  have ht : ∀ z∈t,q06 z.2=true:=fun z hz=>ha z (List.mem_cons_of_mem _ hz)
  unfold q8t
  split
  ·rename_i hlt
   rw [List.filter_cons,qzy x c hx hc t ht,List.filter_cons,List.filter_cons,List.filter_cons]
   by_cases h1:q10 x c=0
   ·have h2 : ¬ q10 y c=0:=fun h2=>by
     have a1:=q25 y c
     have:=qiw hy hc hx (by omega) (by have:=q25 x c;omega)
     have:=q25 x y
     omega
    have e1:qdk c x=true:=decide_eq_true h1
    have e2:qdk c y=false:=decide_eq_false h2
    simp [e1,e2]
   ·have e1:qdk c x=false:=decide_eq_false h1
    simp [e1]
  ·rfl
theorem qxc (z:QD) : ∀ (l a:List QD),z∈j3t a l↔z∈a∨z∈l
 | [],a=>by show z∈a↔_;simp
 | x::l,a=>by
  show z∈j3t (q8t x a) l↔_
  rw [qxc z l,qa3,List.mem_cons]
  constructor
  ·rintro ((h|h)|h)
   ·exact Or.inr (Or.inl h)
   ·exact Or.inl h
   ·exact Or.inr (Or.inr h)
  ·rintro (h|h|h)
   ·exact Or.inl (Or.inr h)
   ·exact Or.inl (Or.inl h)
   ·exact Or.inr h
theorem j7e : ∀ (l a:List QD),(∀ z∈l,q06 z.2=true)→(∀ z∈a,q06 z.2=true)→a.Pairwise (fun u v=>q10 v u≤0)→(j3t a l).Pairwise fun u v=>q10 v u≤0
 | [],a,_,_,h=>h
 | x::l,a,hl,ha,h=>by
  have hx:=hl x (List.mem_cons_self ..)
  refine j7e l (q8t x a) (fun z hz=>hl z (List.mem_cons_of_mem _ hz)) (fun z hz=>?_) (j67 x hx a ha h)
  rcases (qa3 x z a).1 hz with rfl|hz
  ·exact hx
  ·exact ha z hz
theorem qvw (c:QD) (hc:q06 c.2=true) : ∀ (l a:List QD),(∀ z∈l,q06 z.2=true)→(∀ z∈a,q06 z.2=true)→(j3t a l).filter (qdk c)=(l.filter (qdk c)).reverse++a.filter (qdk c)
 | [],a,_,_=>rfl
 | x::l,a,hl,ha=>by
  have hx:=hl x (List.mem_cons_self ..)
  show (j3t (q8t x a) l).filter (qdk c)=_
  rw [qvw c hc l (q8t x a) (fun z hz=>hl z (List.mem_cons_of_mem _ hz)) (fun z hz=>by
   rcases (qa3 x z a).1 hz with rfl|hz
   ·exact hx
   ·exact ha z hz),qzy x c hx hc a ha,List.filter_cons,List.filter_cons]
  cases qdk c x<;>simp
def quu (l:List QD):List QD:=(j3t [] l).reverse
theorem qtw (l:List QD) (z:QD):z∈quu l↔z∈l:=by unfold quu;rw [List.mem_reverse,qxc];simp
theorem jlc {l:List QD} (hl : ∀ z∈l,q06 z.2=true):(quu l).Pairwise fun u v=>q10 u v≤0:=by
 unfold quu
 rw [List.pairwise_reverse]
 exact j7e l [] hl (fun z h=>by cases h) List.Pairwise.nil
theorem jo1 {l:List QD} (hl : ∀ z∈l,q06 z.2=true) {c:QD} (hc:q06 c.2=true):(quu l).filter (qdk c)=l.filter (qdk c):=by
 unfold quu
 rw [List.filter_reverse,qvw c hc l [] hl (fun z h=>by cases h)]
 simp
theorem qco (p:QD→Bool) : ∀ l:List QD,l.find? p=(l.filter p).head?
 | []=>rfl
 | x::l=>by
  rw [List.find?_cons,List.filter_cons]
  cases h:p x
  ·simp only [Bool.false_eq_true,if_false];exact qco p l
  ·simp
theorem jht {l:List QD} (hl : ∀ z∈l,q06 z.2=true) {c:QD} (hc:q06 c.2=true):(quu l).find? (qdk c)=l.find? (qdk c):=by rw [qco,qco,jo1 hl hc]
theorem qb7 : ∀ (r:List QD) (p y:QD),(∀ z∈p::r,q06 z.2=true)→(p::r).Pairwise (fun u v=>q10 u v≤0)→y∈q2a p r→y∈r∧q10 p y<0
 | a::r,p,y,hc,h,hy=>by
  obtain ⟨h1,h2⟩:=List.pairwise_cons.1 h
  have hp:=hc p (List.mem_cons_self ..)
  have hr : ∀ z∈a::r,q06 z.2=true:=fun z hz=>hc z (List.mem_cons_of_mem _ hz)
  have ha:=hr a (List.mem_cons_self ..)
  have hpa:=h1 a (List.mem_cons_self ..)
  have hy':y∈(if q10 a p=0 then q2a a r else a::q2a a r):=hy
  split at hy'
  ·obtain ⟨h3,h4⟩:=qb7 r a y hr h2 hy'
   exact ⟨List.mem_cons_of_mem _ h3,qsy hp ha (hr y (List.mem_cons_of_mem _ h3)) hpa h4⟩
  ·rename_i hne
   rcases List.mem_cons.1 hy' with rfl|hy'
   ·exact ⟨List.mem_cons_self ..,by have:=q25 p y;omega⟩
   ·obtain ⟨h3,h4⟩:=qb7 r a y hr h2 hy'
    exact ⟨List.mem_cons_of_mem _ h3,qsy hp ha (hr y (List.mem_cons_of_mem _ h3)) hpa h4⟩
theorem j44 : ∀ (r:List QD) (p:QD),(∀ z∈p::r,q06 z.2=true)→(p::r).Pairwise (fun u v=>q10 u v≤0)→(q2a p r).Pairwise fun u v=>q10 u v<0
 | [],p,_,_=>List.Pairwise.nil
 | a::r,p,hc,h=>by
  obtain ⟨h1,h2⟩:=List.pairwise_cons.1 h
  have hr : ∀ z∈a::r,q06 z.2=true:=fun z hz=>hc z (List.mem_cons_of_mem _ hz)
  show (if q10 a p=0 then q2a a r else a::q2a a r).Pairwise _
  split
  ·exact j44 r a hr h2
  ·exact List.pairwise_cons.2 ⟨fun z hz=>(qb7 r a z hr h2 hz).2,j44 r a hr h2⟩
theorem quc : ∀ (r:List QD) (p:QD),(∀ z∈p::r,q06 z.2=true)→∀ z∈r,q10 z p=0 ∨ ∃ y∈q2a p r,q10 z y=0
 | a::r,p,hc,z,hz=>by
  have hp:=hc p (List.mem_cons_self ..)
  have hr : ∀ z∈a::r,q06 z.2=true:=fun z hz=>hc z (List.mem_cons_of_mem _ hz)
  have ha:=hr a (List.mem_cons_self ..)
  have e:q2a p (a::r)=if q10 a p=0 then q2a a r else a::q2a a r:=rfl
  rw [e]
  by_cases h0:q10 a p=0
  ·rw [if_pos h0]
   rcases List.mem_cons.1 hz with rfl|hz
   ·exact Or.inl h0
   ·rcases quc r a hr z hz with h1|h1
    ·refine Or.inl ?_
     have hzc:=hr z (List.mem_cons_of_mem _ hz)
     have h2:=qiw hzc ha hp (by omega) (by omega)
     have a1:=q25 z a
     have a2:=q25 a p
     have a3:=q25 z p
     have h3:=qiw hp ha hzc (by omega) (by omega)
     omega
    ·exact Or.inr h1
  ·rw [if_neg h0]
   rcases List.mem_cons.1 hz with rfl|hz
   ·exact Or.inr ⟨z,List.mem_cons_self ..,qki z⟩
   ·rcases quc r a hr z hz with h1|⟨y,hy,h1⟩
    ·exact Or.inr ⟨a,List.mem_cons_self ..,h1⟩
    ·exact Or.inr ⟨y,List.mem_cons_of_mem _ hy,h1⟩
theorem qlu : ∀ (r:List QD) (p y:QD),(∀ z∈p::r,q06 z.2=true)→(p::r).Pairwise (fun u v=>q10 u v≤0)→y∈q2a p r→(p::r).find? (qdk y)=some y
 | a::r,p,y,hc,h,hy=>by
  obtain ⟨h1,h2⟩:=List.pairwise_cons.1 h
  have hr : ∀ z∈a::r,q06 z.2=true:=fun z hz=>hc z (List.mem_cons_of_mem _ hz)
  have hlt:=(qb7 (a::r) p y hc h hy).2
  have e:qdk y p=false:=decide_eq_false (by omega)
  rw [List.find?_cons]
  simp only [e]
  have hy':y∈(if q10 a p=0 then q2a a r else a::q2a a r):=hy
  split at hy'
  ·exact qlu r a y hr h2 hy'
  ·rcases List.mem_cons.1 hy' with rfl|hy'
   ·rw [List.find?_cons]
    have e2:qdk y y=true:=decide_eq_true (qki y)
    simp only [e2]
   ·exact qlu r a y hr h2 hy'
structure IsC (S C:List QD):Prop where
 pw:C.Pairwise fun u v=>q10 u v<0
 sub : ∀ y∈C,y∈S
 has : ∀ z∈S,∃ y∈C,q10 z y=0
 find : ∀ y∈C,S.find? (qdk y)=some y
theorem qqg : ∀ {S:List QD},(∀ z∈S,q06 z.2=true)→S.Pairwise (fun u v=>q10 u v≤0)→IsC S (q0k S)
 | [],_,_=>⟨List.Pairwise.nil,(fun y h=>by cases h),(fun y h=>by cases h),(fun y h=>by cases h)⟩
 | p::r,hc,h=>by
  refine ⟨List.pairwise_cons.2 ⟨fun z hz=>(qb7 r p z hc h hz).2,j44 r p hc h⟩,fun y hy=>?_,fun z hz=>?_,fun y hy=>?_⟩
  ·have hy':y∈p::q2a p r:=hy
   rcases List.mem_cons.1 hy' with rfl|hy'
   ·exact List.mem_cons_self ..
   ·exact List.mem_cons_of_mem _ (qb7 r p y hc h hy').1
  ·show ∃ y∈p::q2a p r,_
   rcases List.mem_cons.1 hz with rfl|hz
   ·exact ⟨z,List.mem_cons_self ..,qki z⟩
   ·rcases quc r p hc z hz with h1|⟨y,hy,h1⟩
    ·exact ⟨p,List.mem_cons_self ..,h1⟩
    ·exact ⟨y,List.mem_cons_of_mem _ hy,h1⟩
  ·have hy':y∈p::q2a p r:=hy
   rcases List.mem_cons.1 hy' with rfl|hy'
   ·rw [List.find?_cons]
    have e2:qdk y y=true:=decide_eq_true (qki y)
    simp only [e2]
   ·exact qlu r p y hc h hy'
def jo4 (C:List QD) (q:QD):Option QD:=match (C.filter fun c=>decide (q10 c q<0)).getLast? with
 | some y=>if y.1=q.1 then some y else none
 | none=>none
theorem jmx {C:List QD} (h:C.Pairwise fun u v=>q10 u v<0) {y:QD} (hy:y∈C) (hm : ∀ c∈C,q10 c y≤0):C.getLast? = some y:=by
 have hne:C ≠ []:=fun e=>by rw [e] at hy;cases hy
 rw [List.getLast?_eq_some_getLast hne]
 obtain ⟨i,hi,rfl⟩:=List.mem_iff_getElem.1 hy
 congr 1
 rw [List.getLast_eq_getElem]
 by_cases e:i=C.length - 1
 ·subst e;rfl
 ·have h1:=List.pairwise_iff_getElem.1 h i (C.length - 1) hi (by omega) (by omega)
  have h2:=hm C[C.length - 1] (List.getElem_mem _)
  have:=q25 C[i] (C[C.length - 1]'(by omega))
  omega
theorem ql5 (p:Yy) (y:QD) : ∀ (l:List QD) (b:Option QD),(∀ x∈l,q06 x.2=true)→(∀ z,b=some z→q06 z.2=true∧z.1=p)→(∀ x∈l,x.1=p)→ofF p b l=some y→(b.toList++l).find? (qdk y)=some y
 | [],b,hl,hb,hp,h=>by
  have:b=some y:=h
  subst this
  have e2:qdk y y=true:=decide_eq_true (qki y)
  simp [e2]
 | x::t,b,hl,hb,hp,h=>by
  have h':ofF p (if qg3 p b x=true then some x else b) t=some y:=h
  have hlt : ∀ z∈t,q06 z.2=true:=fun z hz=>hl z (List.mem_cons_of_mem _ hz)
  have hpt : ∀ z∈t,z.1=p:=fun z hz=>hp z (List.mem_cons_of_mem _ hz)
  have hx:=hl x (List.mem_cons_self ..)
  have hxp:=hp x (List.mem_cons_self ..)
  split at h'
  ·rename_i hbx
   have hbx' : ∀ z,some x=some z→q06 z.2=true∧z.1=p:=fun z hz=>by rw [← Option.some.inj hz];exact ⟨hx,hxp⟩
   have ih:=ql5 p y t (some x) hlt hbx' hpt h'
   cases b with
   | none=>exact ih
   | some w =>
    obtain ⟨hw,hwp⟩:=hb w rfl
    obtain ⟨g1,g2,g3⟩:=qgy p t (some x) hlt (fun z hz=>(hbx' z hz).1) y h'
    obtain ⟨g4,_⟩:=qm2 p t (some x) (fun z hz=>(hbx' z hz).2) y h'
    unfold qg3 at hbx
    simp only [Bool.and_eq_true,decide_eq_true_eq] at hbx
    have hn:qdk y w=false:=by
     refine decide_eq_false fun e=>?_
     rw [q49 (hwp.trans g4.symm)] at e
     have a1:=q2n w.2 y.2
     have:=qhz hx g1 hw (g3 x rfl) (by omega)
     omega
    show (w::x::t).find? (qdk y)=some y
    rw [List.find?_cons]
    simp only [hn]
    exact ih
  ·rename_i hbx
   have ih:=ql5 p y t b hlt hb hpt h'
   cases b with
   | none=>rw [qbp] at hbx;exact absurd (decide_eq_true hxp) hbx
   | some w =>
    obtain ⟨hw,hwp⟩:=hb w rfl
    obtain ⟨g1,g2,g3⟩:=qgy p t (some w) hlt (fun z hz=>(hb z hz).1) y h'
    obtain ⟨g4,_⟩:=qm2 p t (some w) (fun z hz=>(hb z hz).2) y h'
    have ih':(w::t).find? (qdk y)=some y:=ih
    show (w::x::t).find? (qdk y)=some y
    rw [List.find?_cons] at ih' ⊢
    cases hcw:qdk y w with
    | true=>rw [hcw] at ih';exact ih'
    | false =>
     rw [hcw] at ih'
     simp only at ih' ⊢
     have hn:qdk y x=false:=by
      refine decide_eq_false fun e=>?_
      rw [q49 (hxp.trans g4.symm)] at e
      unfold qg3 at hbx
      simp only [Bool.and_eq_true,decide_eq_true_eq,not_and] at hbx
      have h5:=hbx hxp
      have a1:=q2n x.2 y.2
      have h6:=qhz g1 hx hw (by omega) (by omega)
      have h7:=g3 w rfl
      have a2:=q2n w.2 y.2
      have:qdk y w=true:=decide_eq_true (by rw [q49 (hwp.trans g4.symm)];omega)
      rw [this] at hcw;cases hcw
     rw [List.find?_cons]
     simp only [hn]
     exact ih'
theorem qi4 {p g:QD→Bool} : ∀ {l:List QD},(∀ x∈l,p x=true→g x=true)→(l.filter g).find? p=l.find? p
 | [],_=>rfl
 | x::l,h=>by
  have ih:=qi4 (p:=p) (g:=g) fun z hz=>h z (List.mem_cons_of_mem _ hz)
  rw [List.filter_cons,List.find?_cons]
  cases hp:p x with
  | true=>rw [if_pos (h x (List.mem_cons_self ..) hp),List.find?_cons];simp only [hp]
  | false =>
   cases hg:g x with
   | true=>rw [if_pos rfl,List.find?_cons];simp only [hp];exact ih
   | false=>simp only [Bool.false_eq_true,if_false];exact ih
theorem find_congr {p g:QD→Bool} : ∀ {l:List QD},(∀ x∈l,p x=g x)→l.find? p=l.find? g
 | [],_=>rfl
 | x::l,h=>by
  rw [List.find?_cons,List.find?_cons,h x (List.mem_cons_self ..),find_congr fun z hz=>h z (List.mem_cons_of_mem _ hz)]
theorem jq7 {left:List QD} (hl : ∀ z∈left,q06 z.2=true) {q:QD} (hq:q06 q.2=true):jo4 (q0k (quu left)) q=ofQ (left.filter fun y=>decide (y.1=q.1)&&decide (q3d y.2 q.2<0)) q.1:=by
 have hS : ∀ z∈quu left,q06 z.2=true:=fun z hz=>hl z ((qtw left z).1 hz)
 have hC:=qqg hS (jlc hl)
 generalize q0k (quu left)=C at hC
 have hCl : ∀ z∈C,z∈left:=fun z hz=>(qtw left z).1 (hC.sub z hz)
 have hPw:(C.filter fun c=>decide (q10 c q<0)).Pairwise fun u v=>q10 u v<0:=hC.pw.filter _
 cases hf:ofQ (left.filter fun y=>decide (y.1=q.1)&&decide (q3d y.2 q.2<0)) q.1 with
 | none =>
  have hno:=qjf q.1 _ hf
  unfold jo4
  cases hg:(C.filter fun c=>decide (q10 c q<0)).getLast? with
  | none=>rfl
  | some y =>
   have h1:=List.mem_filter.1 (List.mem_of_getLast? hg)
   have h2:q10 y q<0:=of_decide_eq_true h1.2
   show (if y.1=q.1 then some y else none)=none
   rw [if_neg]
   intro e
   rw [q49 e] at h2
   exact hno y (List.mem_filter.2 ⟨hCl y h1.1,by simp [e,h2]⟩) e
 | some y =>
  obtain ⟨h1,h2⟩:=q4d hf
  obtain ⟨h3,h4⟩:=List.mem_filter.1 h1
  simp only [Bool.and_eq_true,decide_eq_true_eq] at h4
  have hy:=hl y h3
  have hfl : ∀ z∈left.filter (fun y=>decide (y.1=q.1)&&decide (q3d y.2 q.2<0)),q06 z.2=true:=fun z hz=>hl z (List.mem_filter.1 hz).1
  have hmax:=(qgy q.1 _ none hfl (fun z h=>by cases h) y hf).2.1
  have hfirst:=ql5 q.1 y _ none hfl (fun z h=>by cases h) (fun x hx=>by
   have:=(List.mem_filter.1 hx).2
   simp only [Bool.and_eq_true,decide_eq_true_eq] at this
   exact this.1) hf
  have hfirst':left.find? (qdk y)=some y:=by
   rw [← hfirst]
   show _=(left.filter _).find? (qdk y)
   rw [qi4]
   intro z hz hc
   obtain ⟨z1,z2⟩:=jn1 (of_decide_eq_true hc)
   have zp:z.1=q.1:=z1.trans h4.1
   have:q3d z.2 q.2<0:=by
    have:=qsy (hl z hz) hy hq (by rw [q49 z1];omega) (by rw [q49 h4.1];exact h4.2)
    rwa [q49 zp] at this
   simp [zp,this]
  obtain ⟨c,hc,hcy⟩:=hC.has y ((qtw left y).2 h3)
  have hcc:=hl c (hCl c hc)
  have hfc:=hC.find c hc
  rw [jht hl hcc,find_congr (g:=qdk y) fun z hz=>?_,hfirst'] at hfc
  ·have hcy2:c=y:=(Option.some.inj hfc).symm
   subst hcy2
   have hcq:q10 c q<0:=by rw [q49 h4.1];exact h4.2
   have hlast:=jmx hPw (List.mem_filter.2 ⟨hc,decide_eq_true hcq⟩) fun z hz=>by
    obtain ⟨z1,z2⟩:=List.mem_filter.1 hz
    have z3:q10 z q<0:=of_decide_eq_true z2
    by_cases e:z.1=q.1
    ·rw [q49 (e.trans h4.1.symm)]
     rw [q49 e] at z3
     exact hmax z (List.mem_filter.2 ⟨hCl z z1,by simp [e,z3]⟩) e
    ·rw [(qlo e).1,← h4.1] at z3
     rw [(qlo (fun h=>e (h.trans h4.1))).1]
     omega
   unfold jo4
   rw [hlast]
   show (if c.1=q.1 then some c else none)=_
   rw [if_pos h4.1]
  ·show decide (q10 z c=0)=decide (q10 z y=0)
   have hz':=hl z hz
   have a1:=q25 y c
   by_cases e:q10 z c=0
   ·have a2:=q25 z c
    have g1:=qiw hz' hcc hy (by omega) (by omega)
    have g2:=qiw hy hcc hz' (by omega) (by omega)
    have a3:=q25 z y
    rw [decide_eq_true e,decide_eq_true (by omega)]
   ·rw [decide_eq_false e,decide_eq_false]
    intro e2
    have a2:=q25 z y
    have g1:=qiw hz' hy hcc (by omega) (by omega)
    have g2:=qiw hcc hy hz' (by omega) (by omega)
    have a3:=q25 z c
    omega
def q8p (l:List ND) (out:List QD):List QD:=(l.map nq).filter fun y=>q3b y && !decide (y∈out)
theorem jpe {root:List QD} {l:List ND} {r q:QD} (hq:q3b q=true):jo4 (q0k (quu (q8p l (q0d (q6t r root l) (q1s [] [] l))))) q=j7c l r q:=by
 have hl : ∀ z∈q8p l (q0d (q6t r root l) (q1s [] [] l)),q06 z.2=true:=fun z hz=>by
  have:=(List.mem_filter.1 hz).2
  simp only [Bool.and_eq_true] at this
  exact q3q this.1
 rw [jq7 hl (q3q hq)]
 unfold j7c canQ q8p
 rw [List.filter_filter]
 congr 1
 refine List.filter_congr fun y hy=>?_
 obtain ⟨n,hn,rfl⟩:=List.mem_map.1 hy
 have ho:decide (nq n∈q0d (q6t r root l) (q1s [] [] l))=qkv l r (nq n):=by
  have:=jes (root:=root) (l:=l) (r:=r) (x:=nq n) (Or.inr ⟨n,hn,rfl⟩)
  cases h:qkv l r (nq n) with
  | true=>rw [h] at this;exact decide_eq_true (this.2 rfl)
  | false=>rw [h] at this;exact decide_eq_false fun h2=>by have:=this.1 h2;cases this
 rw [ho]
 cases decide ((nq n).1=q.1)<;>cases decide (q3d (nq n).2 q.2<0)<;>cases q3b (nq n)<;>cases qkv l r (nq n)<;>rfl
end Go.Proofs.YtlkpgcifpnppeaaGreatDoor.AM
