
import Derived.Test.YtlkpgcifpnppeaaGreatDoorMv20
import Derived.Test.YtlkpgcifpnppeaaGreatDoorMv21
import Derived.Test.YtlkpgcifpnppeaaGreatDoorMv8
import Derived.Test.YtlkpgcifpnppeaaGreatDoorRows
import Derived.Test.YtlkpgcifpnppeaaGreatDoorMv9
import Derived.LaidLaws
set_option linter.unusedVariables false
set_option linter.unusedSimpArgs false
namespace Go.Proofs.YtlkpgcifpnppeaaGreatDoor.AM
open Go.RowKit
set_option synthInstance.maxSize 100000
set_option synthInstance.maxHeartbeats 0
theorem qqf (n:Nat) (l:List ND) (hl:l.length≤1000) : ∀ (m j:Nat) (s:List ND),l.length - j<m→j≤l.length→s.length+(l.length - j)≤10000 →
  q7a n m l (j:Int) s=some (((),()),((),(s++l.drop j,())))
 | 0,j,s,h,_,_=>absurd h (Nat.not_lt_zero _)
 | m+1,j,s,h,hj,hs=>by
  rw [qhb]
  unfold qk6
  by_cases c:j<l.length
  ·rw [decide_eq_true (by omega),cond_true,q0a c,Option.bind_some,q1x (by simp;omega),Option.bind_some,q02,q00 (by omega),List.drop_eq_getElem_cons c]
   have ih:=qqf n l hl m (j+1) (s ++ [l[j]]) (by omega) (by omega) (by simp;omega)
   rw [List.append_assoc] at ih
   exact ih
  ·rw [decide_eq_false (by omega),cond_false,List.drop_of_length_le (by omega),List.append_nil]
theorem q5q (n:Nat) (l:List ND) (hl:l.length≤1000) (hn:1000000≤n):q1r n l=some l:=by
 unfold q1r
 have:=qqf n l hl n 0 [] (by omega) (Nat.zero_le _) (by simp;omega)
 rw [show ((0:Nat):Int)=(0:Int) from rfl,List.drop_zero,List.nil_append] at this
 rw [this];rfl
theorem j52 (n:Nat) (L:List QD) (r:QD) (hn:2000≤n) (hl:L.length≤1000000) : ∀ (m j:Nat),L.length - j<m→j≤L.length →
  q43 n m L (j:Int) r.1 r.2.1 r.2.2.1 r.2.2.2.1 r.2.2.2.2.1 r.2.2.2.2.2=match j3m (L.drop j) r.1 with|some y=>some (Sum.inl ((decide (0≤q3d y.2 r.2),()),((),())))|none=>some (Sum.inr ((),((),())))
 | 0,j,h,_=>absurd h (Nat.not_lt_zero _)
 | m+1,j,h,hj=>by
  rw [qbu]
  unfold qaj
  by_cases c:j<L.length
  ·rw [decide_eq_true (by omega),cond_true,q0a c,Option.bind_some,List.drop_eq_getElem_cons c]
   unfold j3m
   rw [List.find?_cons]
   by_cases e:L[j].1=r.1
   ·rw [decide_eq_true e,cond_true,Option.bind_some]
    show ((q0g n L[j].2 r.2).bind _)=_
    rw [q1b n _ _ (by omega)];rfl
   ·rw [decide_eq_false e,cond_false,q02,q00 (by omega)]
    exact j52 n L r hn hl m (j+1) (by omega) (by omega)
  ·rw [decide_eq_false (by omega),cond_false,List.drop_of_length_le (by omega)]
   rfl
theorem q4w (n:Nat) (L:List QD) (r:QD) (hn:1000000≤n) (hl:L.length≤900000):q0y n L r=some (qvr L r):=by
 unfold q0y qvr
 have:=j52 n L r (by omega) (by omega) n 0 (by omega) (Nat.zero_le _)
 rw [show ((0:Nat):Int)=(0:Int) from rfl,List.drop_zero] at this
 rw [this]
 cases j3m L r.1<;>rfl
theorem j6d (n:Nat) (L:List QD) (r:QD) (hn:2000≤n) (hl:L.length≤1000000) : ∀ (m j:Nat),L.length - j<m→j≤L.length →
  q5s n m L (j:Int) r.1 r.2.1 r.2.2.1 r.2.2.2.1 r.2.2.2.2.1 r.2.2.2.2.2=match j3m (L.drop j) r.1 with|some y=>some (Sum.inl ((decide (q3d y.2 r.2=0),()),((),())))|none=>some (Sum.inr ((),((),())))
 | 0,j,h,_=>absurd h (Nat.not_lt_zero _)
 | m+1,j,h,hj=>by
  rw [qet]
  unfold qgn
  by_cases c:j<L.length
  ·rw [decide_eq_true (by omega),cond_true,q0a c,Option.bind_some,List.drop_eq_getElem_cons c]
   unfold j3m
   rw [List.find?_cons]
   by_cases e:L[j].1=r.1
   ·rw [decide_eq_true e,cond_true,Option.bind_some]
    show ((q0g n L[j].2 r.2).bind _)=_
    rw [q1b n _ _ (by omega)];rfl
   ·rw [decide_eq_false e,cond_false,q02,q00 (by omega)]
    exact j6d n L r hn hl m (j+1) (by omega) (by omega)
  ·rw [decide_eq_false (by omega),cond_false,List.drop_of_length_le (by omega)]
   rfl
theorem qs7 (n:Nat) (L:List QD) (r:QD) (hn:1000000≤n) (hl:L.length≤900000):q8j n L r=some (j9y L r):=by
 unfold q8j j9y
 have:=j6d n L r (by omega) (by omega) n 0 (by omega) (Nat.zero_le _)
 rw [show ((0:Nat):Int)=(0:Int) from rfl,List.drop_zero] at this
 rw [this]
 cases j3m L r.1<;>rfl
theorem Sm.list {root:List QD} {l:List ND} (h:Sm root l) {n:Nat} (hn:1000000≤n) {x:List QD} (hs:ShQ x) (hl:x.length≤2000):q1h n x l=some (q1q x l):=by
 have:=h.flat
 have:=h.ll
 exact qpw n x l hs h.sl hn (by unfold qf9;rw [List.length_append];omega) (by omega)
theorem jjg {root:List QD} {l:List ND} (hr:ShQ root) (hl:ShN l):ShQ (q0d root l):=fun x hx=>by
 have h:=jc8 ((q0r _ _ _).1 hx)
 rcases List.mem_append.1 h with h|h
 ·exact hr x h
 ·obtain ⟨m,hm,h2⟩:=List.mem_flatMap.1 h
  exact (hl m hm).2 x h2
theorem jql {root:List QD} {l:List ND} (hr:ShQ root) (hl:ShN l):ShQ (q1q root l):=fun x hx=>jjg hr hl x (q4h hx)
theorem Sm.len {root:List QD} {l:List ND} (h:Sm root l):(q0d root l).length≤540∧(q1q root l).length≤540:=by
 have h1:=q7t root l
 have h2:=h.all
 have h3:=q72 root l
 omega
theorem qfw {root:List QD} {l:List ND} (h:root.length≤2000) (hf:(l.flatMap nR).length≤240):(q0d root l).length≤2240∧(q1q root l).length≤2240:=by
 have h1:=q7t root l
 have h3:=q72 root l
 unfold qf9 at h1
 rw [List.length_append] at h1
 omega
theorem q2f {n:Nat} {root:List QD} {l:List ND} {F:Bool→Option Bool} (hn:9223372036854775807<n) (h1:root.length≤9223372036854775807) (h2:l.length≤9223372036854775807) (h3 : ∀ x∈l,(nR x).length≤9223372036854775807) (hf:F false=some true) (ht:Sm root l→root.length≤12→F true=some true):(q0v n root l).bind F=some true:=by
 obtain ⟨b,hb,hs⟩:=qs3 n root l h1 h2 h3 hn
 rw [hb,Option.bind_some]
 cases b with
 | false=>exact hf
 | true=>exact ht (hs rfl).1 (hs rfl).2
theorem j7z (n:Nat) (hn:9223372036854775807<n) (hv:q03 n=some true) (root:List QD) (l:List ND) (r:QD) (h1:root.length≤9223372036854775807) (h2:l.length≤9223372036854775807) (h3 : ∀ x∈l,(nR x).length≤9223372036854775807):qbm n root l r=some true:=by
 unfold qbm
 refine q2f hn h1 h2 h3 (by rw [hv];rfl) fun h hrl=>?_
 rw [Bool.not_true,cond_false]
 refine q2f hn (by simp) (by simp) (fun x hx=>by cases hx) (by rw [hv];rfl) fun hr _=>?_
 have hrs:=hr.sr r (List.mem_cons_self ..)
 have hll:=h.ll
 have ha:=h.all
 have hlen:=h.len
 have hd:=qub l r root
 have hdl:(q6p root l r).length≤300:=by unfold q6p;split<;>omega
 have hu:=jdo r root
 have hul:(upQ root r).length≤300:=by unfold upQ;split<;>omega
 rw [Bool.not_true,cond_false,q5q n l (by omega) (by omega),Option.bind_some,q2z n root l h.sr h.sl (by omega) (by omega) (by omega),Option.bind_some,qa1 n root l h.sr h.sl (by omega) (by omega) (by omega),Option.bind_some,
  q1p n _ _ (by omega) (by omega),Option.bind_some,decide_eq_true rfl,cond_true,qpw n root l h.sr h.sl (by omega) (by omega) (by omega),Option.bind_some,qi5 n root l h.sr h.sl (by omega) (by omega) (by omega),Option.bind_some,
  q1p n _ _ (by omega) (by omega),Option.bind_some,decide_eq_true rfl,cond_true,q36 n root r h.sr hrs (by omega) (by omega),Option.bind_some,ql3 n root r h.sr hrs (by omega) (by omega),Option.bind_some,
  q1p n _ _ (by omega) (by omega),Option.bind_some,decide_eq_true rfl,cond_true,q6o n root l r (by omega) h hrs,Option.bind_some,qgt n root l r (by omega) h hrs,Option.bind_some,
  q1p n _ _ (by omega) (by omega),Option.bind_some,decide_eq_true rfl,cond_true,hv]
 rfl
theorem jkg (n:Nat) (root all L:List QD) (hn:1000000≤n) (ha:all.length≤900000) (hl:L.length≤900000) (h1 : ∀ x∈L,x∈all) (h2 : ∀ (i j:Nat) (hij:i<j) (hj:j<L.length),cmpL qix (L[i]'(by omega)).1 (L[j]).1<0) : ∀ (m j:Nat),L.length - j<m→j≤L.length →
  q4q n m root all L (j:Int)=some (Sum.inr ((root,(all,(L,()))),((),())))
 | 0,j,h,_=>absurd h (Nat.not_lt_zero _)
 | m+1,j,h,hj=>by
  rw [qcg]
  unfold qdb
  by_cases c:j<L.length
  ·have ih:=jkg n root all L hn ha hl h1 h2 m (j+1) (by omega) (by omega)
   rw [decide_eq_true (by omega),cond_true,q0a c,Option.bind_some,q83 n _ _ hn ha,Option.bind_some,decide_eq_true (h1 _ (List.getElem_mem c)),Bool.not_true,cond_false]
   by_cases h0:0<j
   ·have e1:IntKind.wrap .i64 ((j:Int) - 1)=((j - 1:Nat):Int):=j5e (j:=1) (by omega) (by omega)
    rw [decide_eq_true (by omega),cond_true,q02,e1,q0a (show j - 1<L.length by omega),Option.bind_some,Option.bind_some,jqc,decide_eq_true (h2 (j - 1) j (by omega) c),Bool.not_true,cond_false,q02,q00 (by omega)]
    exact ih
   ·rw [decide_eq_false (by omega),cond_false,q02,q00 (by omega)]
    exact ih
  ·rw [decide_eq_false (by omega),cond_false]
theorem jl5 (n:Nat) (root all L:List QD) (hn:1000000≤n) (ha:all.length≤900000) (hl:L.length≤900000) (h1 : ∀ x∈all,qvr L x=true) : ∀ (m j:Nat),all.length - j<m→j≤all.length →
  q3m n m root all L (j:Int)=some (Sum.inr ((root,(L,())),((),())))
 | 0,j,h,_=>absurd h (Nat.not_lt_zero _)
 | m+1,j,h,hj=>by
  rw [qdr]
  unfold qd8
  by_cases c:j<all.length
  ·rw [decide_eq_true (by omega),cond_true,q0a c,Option.bind_some,q4w n _ _ hn hl,Option.bind_some,h1 _ (List.getElem_mem c),Bool.not_true,cond_false,q02,q00 (by omega)]
   exact jl5 n root all L hn ha hl h1 m (j+1) (by omega) (by omega)
  ·rw [decide_eq_false (by omega),cond_false]
theorem jk3 (n:Nat) (root L:List QD) (hn:1000000≤n) (hr:root.length≤900000) (hl:L.length≤900000) (hs:ShQ root) (h1 : ∀ x∈root,q3b x=true→qvr L x=true) : ∀ (m j:Nat),root.length - j<m→j≤root.length →
  q3j n m root L (j:Int)=some (Sum.inr ((),((),())))
 | 0,j,h,_=>absurd h (Nat.not_lt_zero _)
 | m+1,j,h,hj=>by
  rw [qc5]
  unfold qdf
  by_cases c:j<root.length
  ·have ih:=jk3 n root L hn hr hl hs h1 m (j+1) (by omega) (by omega)
   rw [decide_eq_true (by omega),cond_true,q0a c,Option.bind_some,q1f n _ (hs _ (List.getElem_mem c)) (by omega),Option.bind_some]
   cases hm:q3b root[j] with
   | true =>
    rw [cond_true,Option.bind_some,q4w n _ _ hn hl,Option.bind_some,h1 _ (List.getElem_mem c) hm,Bool.not_true,cond_false,q02,q00 (by omega)]
    exact ih
   | false =>
    rw [cond_false,q02,q00 (by omega)]
    exact ih
  ·rw [decide_eq_false (by omega),cond_false]
theorem j9i (n:Nat) (hn:9223372036854775807<n) (hv:q03 n=some true) (root:List QD) (l:List ND) (h1:root.length≤9223372036854775807) (h2:l.length≤9223372036854775807) (h3 : ∀ x∈l,(nR x).length≤9223372036854775807):qbq n root l=some true:=by
 unfold qbq
 refine q2f hn h1 h2 h3 (by rw [hv];rfl) fun h hrl=>?_
 have hll:=h.ll
 have ha:=h.all
 have hlen:=h.len
 have e0:=jkg n root (q0d root l) (q1q root l) (by omega) (by omega) (by omega) (fun x hx=>q4h hx) (fun i j hij hj=>j38 root l i j hij hj) n 0 (by omega) (Nat.zero_le _)
 have e1:=jl5 n root (q0d root l) (q1q root l) (by omega) (by omega) (by omega) (fun x hx=>qam ((q0r _ _ _).1 hx)) n 0 (by omega) (Nat.zero_le _)
 have e2:=jk3 n root (q1q root l) (by omega) (by omega) (by omega) h.sr (fun x hx hm=>qam (.base x hx hm)) n 0 (by omega) (Nat.zero_le _)
 rw [show ((0:Nat):Int)=(0:Int) from rfl] at e0 e1 e2
 rw [Bool.not_true,cond_false,q5q n l (by omega) (by omega),Option.bind_some,q2z n root l h.sr h.sl (by omega) (by omega) (by omega),Option.bind_some,Option.bind_some,h.list (by omega) h.sr (by omega),Option.bind_some,e0,Option.bind_some]
 show ((q3m n n root (q0d root l) (q1q root l) 0).bind _)=_
 rw [e1,Option.bind_some]
 show ((q3j n n root (q1q root l) 0).bind _)=_
 rw [e2,Option.bind_some]
 show ((q03 n).bind _)=_
 rw [hv];rfl
theorem ups0 (n:Nat) (root:List QD) (l:List ND) (u:List QD) (hv:q03 n=some true) (hn:1000000≤n) (hr:root.length≤900000) (hs:ShQ root) : ∀ (m j:Nat),root.length - j<m→j≤root.length →
  q51 n m root l u (j:Int)=some (Sum.inl ((true,()),((),())))∨(q51 n m root l u (j:Int)=some (Sum.inr ((root,(l,(u,()))),((),())))∧∀ x∈root.drop j,q3b x=true)
 | 0,j,h,_=>absurd h (Nat.not_lt_zero _)
 | m+1,j,h,hj=>by
  rw [qgb]
  unfold qk4
  by_cases c:j<root.length
  ·rw [decide_eq_true (by omega),cond_true,q0a c,Option.bind_some,q1f n _ (hs _ (List.getElem_mem c)) (by omega),Option.bind_some,List.drop_eq_getElem_cons c]
   cases hm:q3b root[j] with
   | true =>
    rw [Bool.not_true,cond_false,q02,q00 (by omega)]
    rcases ups0 n root l u hv hn hr hs m (j+1) (by omega) (by omega) with h1|⟨h1,h2⟩
    ·exact Or.inl h1
    ·refine Or.inr ⟨h1,fun x hx=>?_⟩
     rcases List.mem_cons.1 hx with rfl|hx
     ·exact hm
     ·exact h2 x hx
   | false =>
    rw [Bool.not_false,cond_true,hv]
    exact Or.inl rfl
  ·rw [decide_eq_false (by omega),cond_false,List.drop_of_length_le (by omega)]
   exact Or.inr ⟨rfl,fun x hx=>by cases hx⟩
theorem ups1 (n:Nat) (root:List QD) (l:List ND) (u L:List QD) (hn:1000000≤n) (hr:root.length≤900000) (hu:u.length≤900000) (hl:l.length≤1000) (hL:L.length≤900000) (hvl:q1h n u l=some L) (h1 : ∀ x∈root,qvr L x=true) : ∀ (m j:Nat),root.length - j<m→j≤root.length →
  q54 n m root l u (j:Int)=some (Sum.inr ((),((),())))
 | 0,j,h,_=>absurd h (Nat.not_lt_zero _)
 | m+1,j,h,hj=>by
  rw [qho]
  unfold qna
  by_cases c:j<root.length
  ·have ih:=ups1 n root l u L hn hr hu hl hL hvl h1 m (j+1) (by omega) (by omega)
   rw [decide_eq_true (by omega),cond_true,q0a c,Option.bind_some,q4w n _ _ hn hu,Option.bind_some]
   cases qvr u root[j] with
   | true =>
    rw [Bool.not_true,cond_false,q02,q00 (by omega)]
    exact ih
   | false =>
    rw [Bool.not_false,cond_true,q5q n l hl hn,Option.bind_some,hvl,Option.bind_some,Option.bind_some,q4w n _ _ hn hL,Option.bind_some,h1 _ (List.getElem_mem c),Bool.not_true,cond_false,q02,q00 (by omega)]
    exact ih
  ·rw [decide_eq_false (by omega),cond_false]
theorem sh_up {root:List QD} {r:QD} (hs:ShQ root) (hr:r.1.length≤1000):ShQ (upQ root r):=by
 have key : ∀ root:List QD,ShQ root→ShQ (upL r root):=by
  intro root
  induction root with
  | nil=>intro _ x hx;rw [show upL r [] = [r] from rfl,List.mem_singleton] at hx;rw [hx];exact hr
  | cons y t ih =>
   intro hs x hx
   have hy:=hs y (List.mem_cons_self ..)
   have ht:ShQ t:=fun z hz=>hs z (List.mem_cons_of_mem _ hz)
   unfold upL at hx
   split at hx
   ·split at hx
    ·exact hs x hx
    ·rcases List.mem_cons.1 hx with rfl|hx
     ·exact hr
     ·exact ht x hx
   ·rcases List.mem_cons.1 hx with rfl|hx
    ·exact hy
    ·exact ih ht x hx
 unfold upQ
 split
 ·exact key root hs
 ·exact hs
theorem jju (n:Nat) (hn:9223372036854775807<n) (hv:q03 n=some true) (root:List QD) (l:List ND) (r:QD) (h1:root.length≤9223372036854775807) (h2:l.length≤9223372036854775807) (h3 : ∀ x∈l,(nR x).length≤9223372036854775807):qjk n root l r=some true:=by
 unfold qjk
 refine q2f hn h1 h2 h3 (by rw [hv];rfl) fun h hrl=>?_
 rw [Bool.not_true,cond_false]
 refine q2f hn (by simp) (by simp) (fun x hx=>by cases hx) (by rw [hv];rfl) fun hr _=>?_
 have hrs:=hr.sr r (List.mem_cons_self ..)
 rw [Bool.not_true,cond_false]
 by_cases h11:(11:Int)<((root.length:Nat):Int)
 ·rw [decide_eq_true h11,cond_true,hv];rfl
 ·rw [decide_eq_false h11,cond_false,q1f n r hrs (by omega),Option.bind_some]
  cases hm:q3b r with
  | false=>rw [Bool.not_false,cond_true,hv];rfl
  | true =>
   have hll:=h.ll
   have hul:(upQ root r).length≤13:=by
    have:=jdo r root
    unfold upQ
    split<;>omega
   have hus:=sh_up h.sr hrs
   have hL:=qfw (root:=upQ root r) (l:=l) (by omega) h.flat
   have hlist:=h.list (n:=n) (by omega) hus (by omega)
   rw [Bool.not_true,cond_false,q36 n root r h.sr hrs (by omega) (by omega),Option.bind_some,q36 n _ r hus hrs (by omega) (by omega),Option.bind_some,q1p n _ _ (by omega) (by rw [qwg];omega),Option.bind_some,qwg,decide_eq_true rfl,Bool.not_true,cond_false,
    q5q n l (by omega) (by omega),Option.bind_some,hlist,Option.bind_some,q4w n _ _ (by omega) (by omega),Option.bind_some,joq hm,Bool.not_true,cond_false]
   have e0:=ups0 n root l (upQ root r) hv (by omega) (by omega) h.sr n 0 (by omega) (Nat.zero_le _)
   rw [show ((0:Nat):Int)=(0:Int) from rfl,List.drop_zero] at e0
   rcases e0 with e0|⟨e0,hall⟩
   ·rw [e0];rfl
   ·have e1:=ups1 n root l (upQ root r) _ (by omega) (by omega) (by omega) (by omega) (by omega) hlist (fun x hx=>jfl hm hx (hall x hx)) n 0 (by omega) (Nat.zero_le _)
    rw [show ((0:Nat):Int)=(0:Int) from rfl] at e1
    rw [e0,Option.bind_some]
    show ((q54 n n root l (upQ root r) 0).bind _)=_
    rw [e1,Option.bind_some]
    show ((q03 n).bind _)=_
    rw [hv];rfl
theorem jk4 (n:Nat) (root:List QD) (l:List ND) (d L:List QD) (r:QD) (hn:1000000≤n) (hL:L.length≤900000) (h1 : ∀ y∈L,y.1=r.1→q3d y.2 r.2≤0) : ∀ (m j:Nat),L.length - j<m→j≤L.length →
  q4x n m root l d L (j:Int) r.1 r.2.1 r.2.2.1 r.2.2.2.1 r.2.2.2.2.1 r.2.2.2.2.2=some (Sum.inr ((root,(l,((),(d,())))),((r,()),())))
 | 0,j,h,_=>absurd h (Nat.not_lt_zero _)
 | m+1,j,h,hj=>by
  rw [qd3]
  unfold qdo
  by_cases c:j<L.length
  ·have ih:=jk4 n root l d L r hn hL h1 m (j+1) (by omega) (by omega)
   rw [decide_eq_true (by omega),cond_true,q0a c,Option.bind_some]
   by_cases e:L[j].1=r.1
   ·have:=h1 _ (List.getElem_mem c) e
    rw [decide_eq_true e,cond_true,Option.bind_some]
    show ((q0g n L[j].2 r.2).bind _)=_
    rw [q1b n _ _ (by omega),Option.bind_some,decide_eq_false (by omega),cond_false,q02,q00 (by omega)]
    exact ih
   ·rw [decide_eq_false e,cond_false,q02,q00 (by omega)]
    exact ih
  ·rw [decide_eq_false (by omega),cond_false]
theorem jcf (n:Nat) (root d L:List QD) (r:QD) (hn:1000000≤n) (hL:L.length≤900000) : ∀ (m j:Nat) (b:Bool),L.length - j<m→j≤L.length →
  ∃ b',q2i n m root d L b (j:Int) r.1 r.2.1 r.2.2.1 r.2.2.2.1 r.2.2.2.2.1 r.2.2.2.2.2=some ((root,(d,(b',()))),((),()))∧(b'=true→∀ y∈L.drop j,y.1=r.1→q3d y.2 r.2≤0)
 | 0,j,b,h,_=>absurd h (Nat.not_lt_zero _)
 | m+1,j,b,h,hj=>by
  have hf : ∀ (m j:Nat),L.length - j<m→j≤L.length→q2i n m root d L false (j:Int) r.1 r.2.1 r.2.2.1 r.2.2.2.1 r.2.2.2.2.1 r.2.2.2.2.2=some ((root,(d,(false,()))),((),())):=by
   intro m
   induction m with
   | zero=>exact fun j h _=>absurd h (Nat.not_lt_zero _)
   | succ m ih =>
    intro j h hj
    rw [q6h]
    unfold q9f
    by_cases c:j<L.length
    ·rw [decide_eq_true (by omega),cond_true,cond_false,q02,q00 (by omega)]
     exact ih (j+1) (by omega) (by omega)
    ·rw [decide_eq_false (by omega),cond_false]
  rw [q6h]
  unfold q9f
  by_cases c:j<L.length
  ·rw [decide_eq_true (by omega),cond_true,List.drop_eq_getElem_cons c]
   cases b with
   | false =>
    rw [cond_false,q02,q00 (by omega)]
    exact ⟨false,hf m (j+1) (by omega) (by omega),fun h=>by cases h⟩
   | true =>
    rw [cond_true,q0a c,Option.bind_some]
    by_cases e:L[j].1=r.1
    ·rw [decide_eq_true e,Bool.not_true,cond_false,Option.bind_some]
     show ∃ b',((q0g n L[j].2 r.2).bind _)=_∧_
     rw [q1b n _ _ (by omega),Option.bind_some,q02,q00 (by omega)]
     by_cases hle:q3d L[j].2 r.2≤0
     ·rw [decide_eq_true hle]
      obtain ⟨b',h1,h2⟩:=jcf n root d L r hn hL m (j+1) true (by omega) (by omega)
      refine ⟨b',h1,fun hb y hy hp=>?_⟩
      rcases List.mem_cons.1 hy with rfl|hy
      ·exact hle
      ·exact h2 hb y hy hp
     ·rw [decide_eq_false hle]
      exact ⟨false,hf m (j+1) (by omega) (by omega),fun h=>by cases h⟩
    ·rw [decide_eq_false e,Bool.not_false,cond_true,q02,q00 (by omega)]
     obtain ⟨b',h1,h2⟩:=jcf n root d L r hn hL m (j+1) true (by omega) (by omega)
     refine ⟨b',h1,fun hb y hy hp=>?_⟩
     rcases List.mem_cons.1 hy with rfl|hy
     ·exact absurd hp e
     ·exact h2 hb y hy hp
  ·rw [decide_eq_false (by omega),cond_false,List.drop_of_length_le (by omega)]
   exact ⟨b,rfl,fun _ y hy=>by cases hy⟩
theorem jno {root:List QD} {l:List ND} {r:QD} (hs:ShQ root) (hl:ShN l):ShQ (q6p root l r):=by
 have key : ∀ root:List QD,ShQ root→ShQ (q6y l r root):=by
  intro root
  induction root with
  | nil=>intro _ x hx;cases hx
  | cons y t ih =>
   intro hs x hx
   have hy:=hs y (List.mem_cons_self ..)
   have ht:ShQ t:=fun z hz=>hs z (List.mem_cons_of_mem _ hz)
   unfold q6y at hx
   split at hx
   ·cases hf:j7c l r y with
    | none=>rw [hf] at hx;exact ih ht x hx
    | some z =>
     rw [hf] at hx
     rcases List.mem_cons.1 hx with rfl|hx
     ·have h1:=(List.mem_filter.1 (q4d hf).1).1
      obtain ⟨m,hm,h2⟩:=List.mem_map.1 h1
      rw [← h2];exact (hl m hm).1
     ·exact ih ht x hx
   ·rcases List.mem_cons.1 hx with rfl|hx
    ·exact hy
    ·exact ih ht x hx
 unfold q6p
 split
 ·exact key root hs
 ·exact hs
theorem ja5 (n:Nat) (hn:9223372036854775807<n) (hv:q03 n=some true) (root:List QD) (l:List ND) (r:QD) (h1:root.length≤9223372036854775807) (h2:l.length≤9223372036854775807) (h3 : ∀ x∈l,(nR x).length≤9223372036854775807):qbb n root l r=some true:=by
 unfold qbb
 refine q2f hn h1 h2 h3 (by rw [hv];rfl) fun h hrl=>?_
 rw [Bool.not_true,cond_false]
 refine q2f hn (by simp) (by simp) (fun x hx=>by cases hx) (by rw [hv];rfl) fun hr _=>?_
 have hrs:=hr.sr r (List.mem_cons_self ..)
 rw [Bool.not_true,cond_false,q1f n r hrs (by omega),Option.bind_some]
 cases hm:q3b r with
 | false=>rw [Bool.not_false,cond_true,hv];rfl
 | true =>
  have hll:=h.ll
  have hlen:=h.len
  have hdl:(q6p root l r).length≤root.length:=by
   have:=qub l r root
   unfold q6p
   split<;>omega
  have hL:=qfw (root:=q6p root l r) (l:=l) (by omega) h.flat
  have e0:=jk4 n root l (q6p root l r) (q1q (q6p root l r) l) r (by omega) (by omega) (fun y hy hp=>jjd hm hy hp) n 0 (by omega) (Nat.zero_le _)
  obtain ⟨b',e1,hb'⟩:=jcf n root (q6p root l r) (q1q root l) r (by omega) (by omega) n 0 true (by omega) (Nat.zero_le _)
  rw [show ((0:Nat):Int)=(0:Int) from rfl] at e0 e1
  rw [Bool.not_true,cond_false,q5q n l (by omega) (by omega),Option.bind_some,q6o n root l r (by omega) h hrs,Option.bind_some,Option.bind_some,h.list (by omega) (jno h.sr h.sl) (by omega),Option.bind_some,e0,Option.bind_some]
  show ((q1r n l).bind fun r19=>(q1h n root r19).bind fun r20=>(q2i n n root (q6p root l r) r20 true 0 r.1 r.2.1 r.2.2.1 r.2.2.2.1 r.2.2.2.2.1 r.2.2.2.2.2).bind _)=_
  rw [q5q n l (by omega) (by omega),Option.bind_some,h.list (by omega) h.sr (by omega),Option.bind_some,e1,Option.bind_some]
  have hdd:decide (((q6p root l r).length:Int)≤(root.length:Int))=true:=decide_eq_true (by omega)
  cases b' with
  | false =>
   show (bif decide (((q6p root l r).length:Int)≤(root.length:Int)) then ((q03 n).bind _) else _)=_
   rw [hdd,cond_true,hv];rfl
  | true =>
   have hsame:=jc5 (root:=root) (l:=l) (r:=r) hm (fun y hy hp=>hb' rfl y (by rw [List.drop_zero];exact hy) hp)
   show ((q1a n (q6p root l r) root).bind fun r29=>bif r29 then (bif decide (((q6p root l r).length:Int)≤(root.length:Int)) then ((q03 n).bind _) else _) else _)=_
   rw [q1p n _ _ (by omega) (by omega),Option.bind_some,decide_eq_true hsame,cond_true,hdd,cond_true,hv];rfl
set_option synthInstance.maxSize 100000
set_option synthInstance.maxHeartbeats 0
theorem jkf (n:Nat) (X Y Z:List QD) (hn:1000000≤n) (hX:X.length≤900000) (hY:Y.length≤900000) (hZ:Z.length≤900000) (h1 : ∀ z∈Z,qvr Z z=true) (h2 : ∀ z∈Z,j9y X z=true∨j9y Y z=true) : ∀ (m j:Nat),Z.length - j<m→j≤Z.length →
  q4s n m X Y Z (j:Int)=some (Sum.inr ((X,(Y,(Z,()))),((),())))
 | 0,j,h,_=>absurd h (Nat.not_lt_zero _)
 | m+1,j,h,hj=>by
  rw [qdg]
  unfold qc8
  by_cases c:j<Z.length
  ·have ih:=jkf n X Y Z hn hX hY hZ h1 h2 m (j+1) (by omega) (by omega)
   rw [decide_eq_true (by omega),cond_true,q0a c,Option.bind_some,q4w n _ _ hn hZ,Option.bind_some,h1 _ (List.getElem_mem c),Bool.not_true,cond_false,Option.bind_some,qs7 n _ _ hn hX,Option.bind_some]
   cases hx:j9y X Z[j] with
   | true =>
    rw [Bool.not_true,cond_false,q02,q00 (by omega)]
    exact ih
   | false =>
    have hy:j9y Y Z[j]=true:=(h2 _ (List.getElem_mem c)).resolve_left (by rw [hx];simp)
    rw [Bool.not_false,cond_true,Option.bind_some,qs7 n _ _ hn hY,Option.bind_some,hy,Bool.not_true,cond_false,q02,q00 (by omega)]
    exact ih
  ·rw [decide_eq_false (by omega),cond_false]
theorem jl4 (n:Nat) (X Y Z:List QD) (hn:1000000≤n) (hX:X.length≤900000) (hZ:Z.length≤900000) (h1 : ∀ x∈X,qvr Z x=true) : ∀ (m j:Nat),X.length - j<m→j≤X.length →
  q3i n m X Y Z (j:Int)=some (Sum.inr ((Y,(Z,())),((),())))
 | 0,j,h,_=>absurd h (Nat.not_lt_zero _)
 | m+1,j,h,hj=>by
  rw [qcz]
  unfold qcj
  by_cases c:j<X.length
  ·rw [decide_eq_true (by omega),cond_true,q0a c,Option.bind_some,q4w n _ _ hn hZ,Option.bind_some,h1 _ (List.getElem_mem c),Bool.not_true,cond_false,q02,q00 (by omega)]
   exact jl4 n X Y Z hn hX hZ h1 m (j+1) (by omega) (by omega)
  ·rw [decide_eq_false (by omega),cond_false]
theorem jk1 (n:Nat) (Y Z:List QD) (hn:1000000≤n) (hY:Y.length≤900000) (hZ:Z.length≤900000) (h1 : ∀ x∈Y,qvr Z x=true) : ∀ (m j:Nat),Y.length - j<m→j≤Y.length →
  q3p n m Y Z (j:Int)=some (Sum.inr ((),((),())))
 | 0,j,h,_=>absurd h (Nat.not_lt_zero _)
 | m+1,j,h,hj=>by
  rw [qdx]
  unfold qdi
  by_cases c:j<Y.length
  ·rw [decide_eq_true (by omega),cond_true,q0a c,Option.bind_some,q4w n _ _ hn hZ,Option.bind_some,h1 _ (List.getElem_mem c),Bool.not_true,cond_false,q02,q00 (by omega)]
   exact jk1 n Y Z hn hY hZ h1 m (j+1) (by omega) (by omega)
  ·rw [decide_eq_false (by omega),cond_false]
theorem jre {a b:List QD} (ha:ShQ a) (hb:ShQ b):ShQ (a++b):=fun x hx=>(List.mem_append.1 hx).elim (ha x) (hb x)
theorem j8q (n:Nat) (hn:9223372036854775807<n) (hv:q03 n=some true) (a b:List QD) (l:List ND) (h1:a.length≤9223372036854775807) (hb:b.length≤9223372036854775807) (h2:l.length≤9223372036854775807) (h3 : ∀ x∈l,(nR x).length≤9223372036854775807):qbh n a b l=some true:=by
 unfold qbh
 refine q2f hn h1 h2 h3 (by rw [hv];rfl) fun h hrl=>?_
 rw [Bool.not_true,cond_false]
 refine q2f hn hb (by simp) (fun x hx=>by cases hx) (by rw [hv];rfl) fun hb2 hbl=>?_
 rw [Bool.not_true,cond_false]
 by_cases h6:(6:Int)<((a.length:Nat):Int)
 ·rw [decide_eq_true h6,cond_true,hv];rfl
 rw [decide_eq_false h6,cond_false]
 by_cases h7:(6:Int)<((b.length:Nat):Int)
 ·rw [decide_eq_true h7,cond_true,hv];rfl
 rw [decide_eq_false h7,cond_false]
 have hll:=h.ll
 have hsb:=hb2.sr
 have hL1:=h.len
 have hL2:=qfw (root:=b) (l:=l) (by omega) h.flat
 have hL3:=qfw (root:=a++b) (l:=l) (by rw [List.length_append];omega) h.flat
 have e0:=jkf n (q1q a l) (q1q b l) (q1q (a++b) l) (by omega) (by omega) (by omega) (by omega) (fun z hz=>qam ((q0r _ _ _).1 (q4h hz))) (fun z hz=>j7x hz) n 0 (by omega) (Nat.zero_le _)
 have e1:=jl4 n (q1q a l) (q1q b l) (q1q (a++b) l) (by omega) (by omega) (by omega) (fun x hx=>qam (qq3 ((q0r _ _ _).1 (q4h hx)))) n 0 (by omega) (Nat.zero_le _)
 have e2:=jk1 n (q1q b l) (q1q (a++b) l) (by omega) (by omega) (by omega) (fun x hx=>qam (qlh ((q0r _ _ _).1 (q4h hx)))) n 0 (by omega) (Nat.zero_le _)
 rw [show ((0:Nat):Int)=(0:Int) from rfl] at e0 e1 e2
 rw [q5q n l (by omega) (by omega),Option.bind_some,q1x (by simp;omega),Option.bind_some,List.nil_append,q1x (by omega),Option.bind_some,h.list (by omega) h.sr (by omega),Option.bind_some,h.list (by omega) hsb (by omega),Option.bind_some,h.list (by omega) (jre h.sr hsb) (by rw [List.length_append];omega),Option.bind_some,e0,Option.bind_some]
 show ((q3i n n (q1q a l) (q1q b l) (q1q (a++b) l) 0).bind _)=_
 rw [e1,Option.bind_some]
 show ((q3p n n (q1q b l) (q1q (a++b) l) 0).bind _)=_
 rw [e2,Option.bind_some]
 show ((q03 n).bind _)=_
 rw [hv];rfl
theorem jlj (n:Nat) (X Y:List QD) (hn:1000000≤n) (hX:X.length≤900000) (hY:Y.length≤900000) (h1 : ∀ x∈X,qvr Y x=true) (h2 : ∀ x∈X,j9y Y x=true) : ∀ (m j:Nat),X.length - j<m→j≤X.length →
  q4t n m X Y (j:Int)=some (Sum.inr ((X,(Y,())),((),())))
 | 0,j,h,_=>absurd h (Nat.not_lt_zero _)
 | m+1,j,h,hj=>by
  rw [qca]
  unfold qct
  by_cases c:j<X.length
  ·rw [decide_eq_true (by omega),cond_true,q0a c,Option.bind_some,q4w n _ _ hn hY,Option.bind_some,h1 _ (List.getElem_mem c),Bool.not_true,cond_false,Option.bind_some,qs7 n _ _ hn hY,Option.bind_some,h2 _ (List.getElem_mem c),Bool.not_true,cond_false,q02,q00 (by omega)]
   exact jlj n X Y hn hX hY h1 h2 m (j+1) (by omega) (by omega)
  ·rw [decide_eq_false (by omega),cond_false]
theorem j9j (n:Nat) (hn:9223372036854775807<n) (hv:q03 n=some true) (root:List QD) (l:List ND) (h1:root.length≤9223372036854775807) (h2:l.length≤9223372036854775807) (h3 : ∀ x∈l,(nR x).length≤9223372036854775807):qbo n root l=some true:=by
 unfold qbo
 refine q2f hn h1 h2 h3 (by rw [hv];rfl) fun h hrl=>?_
 have hll:=h.ll
 have hlen:=h.len
 have hA:=jf2 root l
 have e0:=jlj n (q1q root l) (q1q (q1q root l) l) (by omega) (by omega) (by omega) (fun x hx=>qam (qsg hx)) (fun x hx=>j8j hx) n 0 (by omega) (Nat.zero_le _)
 rw [show ((0:Nat):Int)=(0:Int) from rfl] at e0
 rw [Bool.not_true,cond_false,q5q n l (by omega) (by omega),Option.bind_some,h.list (by omega) h.sr (by omega),Option.bind_some,Option.bind_some,h.list (by omega) (jql h.sr h.sl) (by omega),Option.bind_some,hA,decide_eq_false (by omega),cond_false,e0,Option.bind_some]
 show (bif decide (((q1q (q1q root l) l).length:Int)=((q1q root l).length:Int)) then ((q03 n).bind _) else _)=_
 rw [hA,decide_eq_true rfl,cond_true,hv];rfl
theorem jke (n:Nat) (root all X:List QD) (hn:1000000≤n) (hr:root.length≤900000) (ha:all.length≤900000) (hs:ShQ all) (hd:all.Nodup) (h1 : ∀ x∈all,x∈root∧q3b x=true) : ∀ (m j:Nat),all.length - j<m→j≤all.length →
  q4p n m root all X (j:Int)=some (Sum.inr ((root,(all,(X,()))),((),())))
 | 0,j,h,_=>absurd h (Nat.not_lt_zero _)
 | m+1,j,h,hj=>by
  rw [qch]
  unfold qcn
  by_cases c:j<all.length
  ·have hx:=h1 _ (List.getElem_mem c)
   have ht:=jod hd j c
   rw [decide_eq_true (by omega),cond_true,q0a c,Option.bind_some,q83 n _ _ hn hr,Option.bind_some,decide_eq_true hx.1,Bool.not_true,cond_false,Option.bind_some,q1f n _ (hs _ (List.getElem_mem c)) (by omega),Option.bind_some,hx.2,Bool.not_true,cond_false,
    sub_zero (by omega),Option.bind_some,Option.bind_some,q83 n _ _ hn (by rw [List.length_take];omega),Option.bind_some,decide_eq_false ht,cond_false,q02,q00 (by omega)]
   exact jke n root all X hn hr ha hs hd h1 m (j+1) (by omega) (by omega)
  ·rw [decide_eq_false (by omega),cond_false]
theorem jl7 (n:Nat) (root all X:List QD) (hn:1000000≤n) (hr:root.length≤900000) (ha:all.length≤900000) (hs:ShQ root) (h1 : ∀ x∈root,q3b x=decide (x∈all)) : ∀ (m j:Nat),root.length - j<m→j≤root.length →
  q3f n m root all X (j:Int)=some (Sum.inr ((root,(all,(X,()))),((),())))
 | 0,j,h,_=>absurd h (Nat.not_lt_zero _)
 | m+1,j,h,hj=>by
  rw [qcx]
  unfold qdv
  by_cases c:j<root.length
  ·rw [decide_eq_true (by omega),cond_true,q0a c,Option.bind_some,q1f n _ (hs _ (List.getElem_mem c)) (by omega),Option.bind_some,Option.bind_some,q83 n _ _ hn ha,Option.bind_some,decide_eq_true (h1 _ (List.getElem_mem c)),Bool.not_true,cond_false,q02,q00 (by omega)]
   exact jl7 n root all X hn hr ha hs h1 m (j+1) (by omega) (by omega)
  ·rw [decide_eq_false (by omega),cond_false]
theorem jli (n:Nat) (root all X:List QD) (hn:1000000≤n) (hr:root.length≤900000) (hX:X.length≤900000) (h1 : ∀ x∈X,x∈root) : ∀ (m j:Nat),X.length - j<m→j≤X.length →
  q3l n m root all X (j:Int)=some (Sum.inr ((all,(X,())),((),())))
 | 0,j,h,_=>absurd h (Nat.not_lt_zero _)
 | m+1,j,h,hj=>by
  rw [qdh]
  unfold qcb
  by_cases c:j<X.length
  ·rw [decide_eq_true (by omega),cond_true,q0a c,Option.bind_some,q83 n _ _ hn hr,Option.bind_some,decide_eq_true (h1 _ (List.getElem_mem c)),Bool.not_true,cond_false,q02,q00 (by omega)]
   exact jli n root all X hn hr hX h1 m (j+1) (by omega) (by omega)
  ·rw [decide_eq_false (by omega),cond_false]
theorem ja2 (n:Nat) (hn:9223372036854775807<n) (hv:q03 n=some true) (root:List QD) (h1:root.length≤9223372036854775807):qbi n root=some true:=by
 unfold qbi
 refine q2f hn h1 (by simp) (fun x hx=>by cases hx) (by rw [hv];rfl) fun h hrl=>?_
 have hlen:=h.len
 have ha:=h.all
 have hle:=q72 root []
 have hmem : ∀ x∈q0d root [],x∈root∧q3b x=true:=fun x hx=>(qy4 root x).1 hx
 have e0:=jke n root (q0d root []) (q1q root []) (by omega) (by omega) (by omega) (fun x hx=>h.sr x (hmem x hx).1) (j7i _ _) hmem n 0 (by omega) (Nat.zero_le _)
 have e1:=jl7 n root (q0d root []) (q1q root []) (by omega) (by omega) (by omega) h.sr (fun x hx=>by
  cases hm:q3b x with
  | true=>exact (decide_eq_true ((qy4 root x).2 ⟨hx,hm⟩)).symm
  | false=>exact (decide_eq_false fun h2=>by rw [(hmem x h2).2] at hm;cases hm).symm) n 0 (by omega) (Nat.zero_le _)
 have e2:=jli n root (q0d root []) (q1q root []) (by omega) (by omega) (by omega) (fun x hx=>(hmem x (q4h hx)).1) n 0 (by omega) (Nat.zero_le _)
 rw [show ((0:Nat):Int)=(0:Int) from rfl] at e0 e1 e2
 rw [Bool.not_true,cond_false,q2z n root [] h.sr h.sl (by omega) (by omega) (by simp),Option.bind_some,h.list (by omega) h.sr (by omega),Option.bind_some,e0,Option.bind_some]
 show ((q3f n n root (q0d root []) (q1q root []) 0).bind _)=_
 rw [e1,Option.bind_some]
 show ((q3l n n root (q0d root []) (q1q root []) 0).bind _)=_
 rw [e2,Option.bind_some]
 show (bif decide (((q1q root []).length:Int)≤((q0d root []).length:Int)) then ((q03 n).bind _) else _)=_
 rw [decide_eq_true (by omega),cond_true,hv];rfl
theorem jlk (n:Nat) (k:Int) (X Y:List QD) (hn:1000000≤n) (hX:X.length≤900000) (hY:Y.length≤900000) (h1 : ∀ x∈X,qvr Y x=true) : ∀ (m j:Nat),X.length - j<m→j≤X.length →
  q4z n m k X Y (j:Int)=some (Sum.inr ((k,(X,(Y,()))),((),())))
 | 0,j,h,_=>absurd h (Nat.not_lt_zero _)
 | m+1,j,h,hj=>by
  rw [qdn]
  unfold qds
  by_cases c:j<X.length
  ·rw [decide_eq_true (by omega),cond_true,q0a c,Option.bind_some,q4w n _ _ hn hY,Option.bind_some,h1 _ (List.getElem_mem c),Bool.not_true,cond_false,q02,q00 (by omega)]
   exact jlk n k X Y hn hX hY h1 m (j+1) (by omega) (by omega)
  ·rw [decide_eq_false (by omega),cond_false]
theorem j9b (n:Nat) (hn:9223372036854775807<n) (hv:q03 n=some true) (root:List QD) (l:List ND) (cut:Int) (h1:root.length≤9223372036854775807) (h2:l.length≤9223372036854775807) (h3 : ∀ x∈l,(nR x).length≤9223372036854775807):qb4 n root l cut=some true:=by
 unfold qb4
 refine q2f hn h1 h2 h3 (by rw [hv];rfl) fun h hrl=>?_
 rw [Bool.not_true,cond_false]
 by_cases hc1:cut<0
 ·rw [decide_eq_true hc1,cond_true,hv];rfl
 rw [decide_eq_false hc1,cond_false]
 by_cases hc2:((root.length:Nat):Int)<cut
 ·rw [decide_eq_true hc2,cond_true,hv];rfl
 rw [decide_eq_false hc2,cond_false]
 obtain ⟨k,rfl⟩ : ∃ k:Nat,cut=(k:Int):=⟨cut.toNat,by omega⟩
 have hll:=h.ll
 have hlen:=h.len
 have hst:ShQ (root.take k):=fun x hx=>h.sr x (List.mem_of_mem_take hx)
 have htl:(root.take k).length≤root.length:=by rw [List.length_take];omega
 have hL:=qfw (root:=root.take k) (l:=l) (by omega) h.flat
 have hle:(q1q (root.take k) l).length≤(q1q root l).length:=qpo fun x hx=>qv5 hx
 have e0:=jlk n (k:Int) (q1q (root.take k) l) (q1q root l) (by omega) (by omega) (by omega) (fun x hx=>qam (qv5 ((q0r _ _ _).1 (q4h hx)))) n 0 (by omega) (Nat.zero_le _)
 rw [show ((0:Nat):Int)=(0:Int) from rfl] at e0
 rw [sub_zero (by omega),Option.bind_some,q5q n l (by omega) (by omega),Option.bind_some,h.list (by omega) hst (by omega),Option.bind_some,Option.bind_some,h.list (by omega) h.sr (by omega),Option.bind_some,e0,Option.bind_some]
 show (bif decide (((q1q (root.take k) l).length:Int)≤((q1q root l).length:Int)) then (bif decide (0<(k:Int)) then ((q03 n).bind _) else (bif decide (((q1q (root.take k) l).length:Int)=0) then ((q03 n).bind _) else _)) else _)=_
 rw [decide_eq_true (by omega),cond_true]
 by_cases hk:0<k
 ·rw [decide_eq_true (by omega),cond_true,hv];rfl
 ·obtain rfl:k=0:=by omega
  rw [decide_eq_false (by omega),cond_false,List.take_zero,j7w]
  show (bif decide (((0:Nat):Int)=0) then ((q03 n).bind _) else _)=_
  rw [decide_eq_true (by omega),cond_true,hv];rfl
set_option synthInstance.maxSize 100000
set_option synthInstance.maxHeartbeats 0
abbrev rqL (c:UInt8) (k:Int):QD:=([c],1,k,0,[],[])
abbrev ndL (c:UInt8) (k:Int) (L:List QD):ND:=([c],1,k,0,[],[],L)
abbrev qgv:List QD:=[rqL 98 0,rqL 97 0]
abbrev qkq:List ND:=[ndL 97 0 [rqL 99 1],ndL 98 0 [rqL 99 2],ndL 99 2 [rqL 100 0],ndL 98 (-1) []]
theorem smL:Sm qgv qkq:=⟨by unfold ShQ;decide,by unfold ShN ShQ;decide,by decide,by decide,by decide⟩
theorem j02 (n:Nat) (hn:1000000≤n):q03 n=some true:=by
 have hr : ∀ (c:UInt8) (k:Int),(q0l n).F ([c],k)=some (rqL c k):=fun _ _=>rfl
 have hL:q1h n qgv qkq=some [rqL 97 0,rqL 98 0,rqL 99 2,rqL 100 0]:=by
  rw [smL.list hn smL.sr (by decide)]
  congr 1
 have hU:q0z n qgv (rqL 97 3)=some [rqL 98 0,rqL 97 3]:=by
  rw [q36 n _ _ smL.sr (by decide) hn (by decide)]
  congr 1
 have hU2:q0z n qgv (rqL 122 0)=some [rqL 98 0,rqL 97 0,rqL 122 0]:=by
  rw [q36 n _ _ smL.sr (by decide) hn (by decide)]
  congr 1
 have hU3:q0z n qgv (rqL 122 (-1))=some [rqL 98 0,rqL 97 0]:=by
  rw [q36 n _ _ smL.sr (by decide) hn (by decide)]
  congr 1
 have hD:q1z n qgv qkq (rqL 99 1)=some [rqL 97 0]:=by
  rw [q6o n _ _ _ hn smL (by decide)]
  congr 1
 have hR:q1n n qgv qkq=some [rqL 98 0,rqL 97 0,rqL 99 2,rqL 99 1,rqL 100 0]:=by
  rw [q2z n _ _ smL.sr smL.sl hn (by decide) (by decide)]
  congr 1
 unfold q03
 simp only [hr,Option.bind_some]
 show ((q1h n qgv qkq).bind _)=_
 rw [hL,Option.bind_some]
 show ((q0z n qgv (rqL 97 3)).bind _)=_
 rw [hU,Option.bind_some]
 show ((q1z n qgv qkq (rqL 99 1)).bind _)=_
 rw [hD,Option.bind_some]
 show ((q1a n [rqL 97 0,rqL 98 0,rqL 99 2,rqL 100 0] [rqL 97 0,rqL 98 0,rqL 99 2,rqL 100 0]).bind _)=_
 rw [q1p n _ _ hn (by decide),Option.bind_some,decide_eq_true rfl,cond_true]
 show ((q1n n qgv qkq).bind _)=_
 rw [hR,Option.bind_some,decide_eq_true (by decide),cond_true]
 show ((q1a n [rqL 98 0,rqL 97 3] [rqL 98 0,rqL 97 3]).bind _)=_
 rw [q1p n _ _ hn (by decide),Option.bind_some,decide_eq_true rfl,cond_true]
 show ((q1a n [rqL 97 0] [rqL 97 0]).bind _)=_
 rw [q1p n _ _ hn (by decide),Option.bind_some,decide_eq_true rfl,cond_true]
 show ((q0z n qgv (rqL 122 0)).bind _)=_
 rw [hU2,Option.bind_some,decide_eq_true (by decide),cond_true]
 show ((q0z n qgv (rqL 122 (-1))).bind _)=_
 rw [hU3];rfl
abbrev q1y:Nat:=9223372036854775808
theorem qi3:q03 q1y=some true:=j02 q1y (by decide)
abbrev q9w:Ty:=.lst QT
abbrev qd5:Ty:=.lst NT
theorem qa5 {n:Nat} (h:n≤maxLen):n≤9223372036854775807:=Nat.le_trans h (by unfold maxLen;omega)
theorem j3r {l:List ND} (h:q4g qd5 l) : ∀ x∈l,(nR x).length≤9223372036854775807:=fun x hx=>by
 have:=h.2 x hx
 exact qa5 this.2.2.2.2.2.2.1
theorem qtb (root:den q9w) (l:den qd5) (r:den QT) (h1:q4g q9w root) (h2:q4g qd5 l) (_:q4g QT r):qbm q1y root l r=some true:=j7z q1y (by decide) qi3 root l r (qa5 h1.1) (qa5 h2.1) (j3r h2)
theorem qsk (root:den q9w) (l:den qd5) (h1:q4g q9w root) (h2:q4g qd5 l):qbq q1y root l=some true:=j9i q1y (by decide) qi3 root l (qa5 h1.1) (qa5 h2.1) (j3r h2)
theorem j3k (root:den q9w) (l:den qd5) (r:den QT) (h1:q4g q9w root) (h2:q4g qd5 l) (_:q4g QT r):qjk q1y root l r=some true:=jju q1y (by decide) qi3 root l r (qa5 h1.1) (qa5 h2.1) (j3r h2)
theorem qty (root:den q9w) (l:den qd5) (r:den QT) (h1:q4g q9w root) (h2:q4g qd5 l) (_:q4g QT r):qbb q1y root l r=some true:=ja5 q1y (by decide) qi3 root l r (qa5 h1.1) (qa5 h2.1) (j3r h2)
theorem qt9 (a b:den q9w) (l:den qd5) (h1:q4g q9w a) (hb:q4g q9w b) (h2:q4g qd5 l):qbh q1y a b l=some true:=j8q q1y (by decide) qi3 a b l (qa5 h1.1) (qa5 hb.1) (qa5 h2.1) (j3r h2)
theorem qs8 (root:den q9w) (l:den qd5) (h1:q4g q9w root) (h2:q4g qd5 l):qbo q1y root l=some true:=j9j q1y (by decide) qi3 root l (qa5 h1.1) (qa5 h2.1) (j3r h2)
theorem qrq (root:den q9w) (h1:q4g q9w root):qbi q1y root=some true:=ja2 q1y (by decide) qi3 root (qa5 h1.1)
theorem qs0 (root:den q9w) (l:den qd5) (cut:Int) (h1:q4g q9w root) (h2:q4g qd5 l) (_:(Lit.int .i64 cut).wf=true):qb4 q1y root l cut=some true:=j9b q1y (by decide) qi3 root l cut (qa5 h1.1) (qa5 h2.1) (j3r h2)
theorem j6g : "*" ++ "errors.errorString" = "*errors.errorString":=by decide
theorem jdf (u:TypeId) (h:Tryz.prog.typeName? 3 u=some "*errors.errorString"):u=179 :=
 typeName_ptr_named (nm := "errors.errorString") (by rw [j6g];kernel_rfl) (by kernel_rfl) (by decide) u (by rw [j6g];exact h)
theorem jq8:(Rows.laid_internal_strconv_uint64pow10:DataW Unit)=Lib.tabData .u64 Lib.pow10Tab:=by rfl
theorem jqa:Tryz.prog.globalNamed "internal/strconv.uint64pow10" = some ((Tryz.prog.globalNamed "internal/strconv.uint64pow10").getD 0)∧(Tryz.prog.globals[(Tryz.prog.globalNamed "internal/strconv.uint64pow10").getD 0]?).map (·.type)=some 182:=⟨by kernel_rfl,by kernel_rfl⟩
theorem jme:Tryz.prog.globalNamed "strconv.ErrSyntax" = some (Tryz.laysAtoi_ren.g 15)∧(Tryz.prog.globals[Tryz.laysAtoi_ren.g 15]?).map (·.type)=some 123:=⟨by kernel_rfl,by kernel_rfl⟩
theorem jol:Tryz.prog.globalNamed "strconv.ErrRange" = some (Tryz.laysAtoi_ren.g 16)∧(Tryz.prog.globals[Tryz.laysAtoi_ren.g 16]?).map (·.type)=some 123:=⟨by kernel_rfl,by kernel_rfl⟩
theorem qyv:Tryz.prog.cellsOf 181=1:=by kernel_rfl
theorem qzz:Tryz.prog.cellsOf 9=1:=by kernel_rfl
theorem qhs {w:World} (hsh:w.ShapedOpen Tryz.prog)
  (hL:laidMet Tryz.prog [("math/bits.deBruijn32tab",Rows.laid_math_bits_deBruijn32tab),("math/bits.deBruijn64tab",Rows.laid_math_bits_deBruijn64tab),("internal/strconv.uint64pow10",Rows.laid_internal_strconv_uint64pow10),("unicode/utf8.acceptRanges",Rows.laid_unicode_utf8_acceptRanges),("strconv.ErrRange",Rows.laid_strconv_ErrRange),("strconv.ErrSyntax",Rows.laid_strconv_ErrSyntax),("unicode/utf8.first",Rows.laid_unicode_utf8_first)] w):Inv w:=by
 obtain ⟨m,hm⟩:=Tryz.laysIndex.s1_3 w hsh
 have h3:=hL.tail.tail
 rw [jq8] at h3
 have h5:=hL.tail.tail.tail.tail
 unfold Rows.laid_strconv_ErrRange at h5
 have h6:=hL.tail.tail.tail.tail.tail
 unfold Rows.laid_strconv_ErrSyntax at h6
 obtain ⟨a0,s0,hv0,-,-,-⟩:=laid_sentinel h5 jol.1 jol.2 Tryz.underlying123 jdf Tryz.underlying179 Tryz.underlying181 rfl rfl Tryz.underlying9 qyv qzz
 obtain ⟨a1,s1,hv1,-,-,-⟩:=laid_sentinel h6 jme.1 jme.2 Tryz.underlying123 jdf Tryz.underlying179 Tryz.underlying181 rfl rfl Tryz.underlying9 qyv qzz
 have c0:w.cell? ⟨Tryz.laysAtoi_ren.g 16,0,none⟩=some (.iface 179 (.pointer (some a0))):=by have h0:=World.var?_cell jol.1 hv0 0;simpa using h0
 have c1:w.cell? ⟨Tryz.laysAtoi_ren.g 15,0,none⟩=some (.iface 179 (.pointer (some a1))):=by have h0:=World.var?_cell jme.1 hv1 0;simpa using h0
 exact ⟨⟨m,hm⟩,Lib.tabIs_of_head jqa.1 jqa.2 (n:=20) (e:=111) (by kernel_rfl) (by kernel_rfl) (by kernel_rfl) (by kernel_rfl) h3,⟨_,_,c1⟩,⟨_,_,c0⟩⟩
end Go.Proofs.YtlkpgcifpnppeaaGreatDoor.AM
