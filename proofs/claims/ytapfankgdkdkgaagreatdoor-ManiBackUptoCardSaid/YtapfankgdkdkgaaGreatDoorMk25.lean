
import Derived.Test.YtapfankgdkdkgaaGreatDoorMk24
namespace Go.Proofs.YtapfankgdkdkgaaGreatDoor.AM
open Go.RowKit
set_option linter.unusedVariables false
set_option linter.unusedSimpArgs false
set_option synthInstance.maxSize 100000
set_option synthInstance.maxHeartbeats 0
def lnS (ws:List (List UInt8)):List UInt8:=Lib.join ws [32] ++ [10]
def qu3 (x:Sp):List UInt8:=if qfz x=q4v x then q0n (qfz x) else 91::(q0n (qfz x)++44::32::(q0n (q4v x) ++ [93]))
def rqL (q:Rq):List (List UInt8):=[q8y,q.1,q0n q.2]
def swL (q:Sw):List (List UInt8):=[qfn,q.1,[61,62],q.2]
def exL (q:Rq):List (List UInt8):=[qgb,q.1,q0n q.2]
def rtL (x:Sp):List (List UInt8):=[qvt,qu3 x]
def jsk (m:MD):List (List (List UInt8)):=[[qaw,m.1]]++((if m.2.1 = [] then [] else [[kGo,m.2.1]])++(m.2.2.1.map rqL++(m.2.2.2.1.map swL++(m.2.2.2.2.1.map exL++m.2.2.2.2.2.map rtL))))
def qdy (m:MD):List UInt8:=((jsk m).map lnS).flatten
theorem q7f (v:VD):(q0n v).length<=92:=by
 unfold q0n
 split
 ·exact jwc ‹_›
 ·simp
theorem j5t {s t:List UInt8} (h:s.length+t.length<=9223372036854775807):qc4 s t=some (s++t):=by unfold qc4;rw [if_pos h]
theorem j4i (x:Sp):(qu3 x).length<=192:=by
 have h1:=q7f (qfz x)
 have h2:=q7f (q4v x)
 unfold qu3
 split
 ·omega
 ·simp;omega
theorem q5y (n:Nat) (ws:List (List UInt8)) (h1:ws.length<=10) (h2 : ∀x∈ws,x.length<=1000):q3f n ws=some (lnS ws)/\(lnS ws).length<=10011:=by
 have hl:=j67 32 1000 ws h2
 have h3:ws.length*(1000+1)<=10*1001:=Nat.mul_le_mul_right _ h1
 unfold q3f lnS
 rw [jsg (by omega) (fun x hx=>by have:=h2 x hx;omega)]
 simp only [Option.bind_some]
 rw [j5t (by simp;omega)]
 exact ⟨rfl,by simp;omega⟩
theorem j9m (n:Nat) (x:Sp) (hn:100<n):qmp n x=some (qu3 x):=by
 have h1:=q7f (qfz x)
 have h2:=q7f (q4v x)
 unfold qmp
 have e1:(decide (x.1=x.2.2.2.2.2.1)&&(decide (x.2.1=x.2.2.2.2.2.2.1)&&(decide (x.2.2.1=x.2.2.2.2.2.2.2.1)&&(decide (x.2.2.2.1=x.2.2.2.2.2.2.2.2.1)&&(decide (x.2.2.2.2.1=x.2.2.2.2.2.2.2.2.2)&&true)))))=decide (qfz x=q4v x):=jji (qfz x) (q4v x)
 have e2:q6w n (x.1,(x.2.1,(x.2.2.1,(x.2.2.2.1,x.2.2.2.2.1))))=some (q0n (qfz x)):=q8p n (qfz x) (by omega)
 have e3:q6w n x.2.2.2.2.2=some (q0n (q4v x)):=q8p n (q4v x) (by omega)
 rw [e1]
 unfold qu3
 by_cases he:qfz x=q4v x
 ·rw [decide_eq_true he,cond_true,e2,if_pos he];rfl
 ·rw [decide_eq_false he,cond_false,e2,if_neg he]
  simp only [Option.bind_some,e3]
  rw [j5t (by simp;omega)]
  simp only [Option.bind_some]
  rw [j5t (by simp;omega)]
  simp only [Option.bind_some]
  rw [j5t (by simp;omega)]
  simp only [Option.bind_some]
  rw [j5t (by simp;omega)]
  simp
theorem qsb (n:Nat) (l:List Rq) (a4 a5:List UInt8) (a6:List Rq) (a7:List Sw) (a8:List Rq) (a9:List Sp) (hn:100<n) (hL:l.length<=1000000) (hw : ∀q∈l,q.1.length<=1000) : ∀(m j:Nat) (out:List (List UInt8)),j<=l.length->l.length - j<m->out.length<=5000000+j->q62 n m l ((l.length:Nat):Int) (j:Int) a4 a5 a6 a7 a8 a9 out=some ((((),((),())),(((a4,(a5,(a6,(a7,(a8,a9))))),()),(out++(l.drop j).map (fun q=>lnS (rqL q)),()))))
 | 0,j,_,_,h,_=>absurd h (Nat.not_lt_zero _)
 | m+1,j,out,hj,h,ho=>by
  rw [qny]
  unfold j8i
  by_cases c0:j<l.length
  ·have c0':((j:Nat):Int)<((l.length:Nat):Int):=by omega
   have hmem:=List.getElem_mem c0
   have hj0:q3f n (rqL l[j])=some (lnS (rqL l[j])):=(q5y n (rqL l[j]) (by simp [rqL]) (fun x hx=>by
    have hq:=hw _ hmem
    have ht:=q7f l[j].2
    simp only [rqL,List.mem_cons,List.not_mem_nil,or_false] at hx
    rcases hx with rfl|rfl|rfl
    ·decide
    ·omega
    ·omega
    )).1
   have a1:q3e 16 out [lnS (rqL l[j])]=some (out ++ [lnS (rqL l[j])]):=q37 (by simp;omega)
   unfold rqL at hj0 a1
   rw [show (l.drop j)=l[j]::l.drop (j+1) from List.drop_eq_getElem_cons c0]
   simp only [c0',decide_true,cond_true,q0o c0,Option.bind_some,q8p n l[j].2 (show 4<=n by omega),hj0,a1,q08,q07 (show j<4611686018427387904 by omega)]
   rw [qsb n l a4 a5 a6 a7 a8 a9 hn hL hw m (j+1) _ (by omega) (by omega) (by simp;omega)]
   simp only [List.append_assoc,List.map_cons,List.singleton_append]
   rfl
  ·have c0' : ¬ ((j:Nat):Int)<((l.length:Nat):Int):=by omega
   simp only [c0',decide_false,cond_false]
   rw [List.drop_eq_nil_of_le (by omega),List.map_nil,List.append_nil]
theorem qpw (n:Nat) (l:List Sw) (a4 a5:List UInt8) (a6:List Rq) (a7:List Sw) (a8:List Rq) (a9:List Sp) (hn:100<n) (hL:l.length<=1000000) (hw : ∀q∈l,q.1.length<=1000/\q.2.length<=1000) : ∀(m j:Nat) (out:List (List UInt8)),j<=l.length->l.length - j<m->out.length<=5000000+j->q66 n m l ((l.length:Nat):Int) (j:Int) a4 a5 a6 a7 a8 a9 out=some ((((),((),())),(((a4,(a5,(a6,(a7,(a8,a9))))),()),(out++(l.drop j).map (fun q=>lnS (swL q)),()))))
 | 0,j,_,_,h,_=>absurd h (Nat.not_lt_zero _)
 | m+1,j,out,hj,h,ho=>by
  rw [qo1]
  unfold j7q
  by_cases c0:j<l.length
  ·have c0':((j:Nat):Int)<((l.length:Nat):Int):=by omega
   have hmem:=List.getElem_mem c0
   have hj0:q3f n (swL l[j])=some (lnS (swL l[j])):=(q5y n (swL l[j]) (by simp [swL]) (fun x hx=>by
    have hq:=hw _ hmem
    simp only [swL,List.mem_cons,List.not_mem_nil,or_false] at hx
    rcases hx with rfl|rfl|rfl|rfl
    ·decide
    ·omega
    ·decide
    ·omega
    )).1
   have a1:q3e 16 out [lnS (swL l[j])]=some (out ++ [lnS (swL l[j])]):=q37 (by simp;omega)
   unfold swL at hj0 a1
   rw [show (l.drop j)=l[j]::l.drop (j+1) from List.drop_eq_getElem_cons c0]
   simp only [c0',decide_true,cond_true,q0o c0,Option.bind_some,hj0,a1,q08,q07 (show j<4611686018427387904 by omega)]
   rw [qpw n l a4 a5 a6 a7 a8 a9 hn hL hw m (j+1) _ (by omega) (by omega) (by simp;omega)]
   simp only [List.append_assoc,List.map_cons,List.singleton_append]
   rfl
  ·have c0' : ¬ ((j:Nat):Int)<((l.length:Nat):Int):=by omega
   simp only [c0',decide_false,cond_false]
   rw [List.drop_eq_nil_of_le (by omega),List.map_nil,List.append_nil]
theorem qod (n:Nat) (l:List Rq) (a4 a5:List UInt8) (a6:List Rq) (a7:List Sw) (a8:List Rq) (a9:List Sp) (hn:100<n) (hL:l.length<=1000000) (hw : ∀q∈l,q.1.length<=1000) : ∀(m j:Nat) (out:List (List UInt8)),j<=l.length->l.length - j<m->out.length<=5000000+j->q61 n m l ((l.length:Nat):Int) (j:Int) a4 a5 a6 a7 a8 a9 out=some ((((),((),())),(((a4,(a5,(a6,(a7,(a8,a9))))),()),(out++(l.drop j).map (fun q=>lnS (exL q)),()))))
 | 0,j,_,_,h,_=>absurd h (Nat.not_lt_zero _)
 | m+1,j,out,hj,h,ho=>by
  rw [qo3]
  unfold j9i
  by_cases c0:j<l.length
  ·have c0':((j:Nat):Int)<((l.length:Nat):Int):=by omega
   have hmem:=List.getElem_mem c0
   have hj0:q3f n (exL l[j])=some (lnS (exL l[j])):=(q5y n (exL l[j]) (by simp [exL]) (fun x hx=>by
    have hq:=hw _ hmem
    have ht:=q7f l[j].2
    simp only [exL,List.mem_cons,List.not_mem_nil,or_false] at hx
    rcases hx with rfl|rfl|rfl
    ·decide
    ·omega
    ·omega
    )).1
   have a1:q3e 16 out [lnS (exL l[j])]=some (out ++ [lnS (exL l[j])]):=q37 (by simp;omega)
   unfold exL at hj0 a1
   rw [show (l.drop j)=l[j]::l.drop (j+1) from List.drop_eq_getElem_cons c0]
   simp only [c0',decide_true,cond_true,q0o c0,Option.bind_some,q8p n l[j].2 (show 4<=n by omega),hj0,a1,q08,q07 (show j<4611686018427387904 by omega)]
   rw [qod n l a4 a5 a6 a7 a8 a9 hn hL hw m (j+1) _ (by omega) (by omega) (by simp;omega)]
   simp only [List.append_assoc,List.map_cons,List.singleton_append]
   rfl
  ·have c0' : ¬ ((j:Nat):Int)<((l.length:Nat):Int):=by omega
   simp only [c0',decide_false,cond_false]
   rw [List.drop_eq_nil_of_le (by omega),List.map_nil,List.append_nil]
theorem qrt (n:Nat) (l:List Sp)  (hn:100<n) (hL:l.length<=1000000) : ∀(m j:Nat) (out:List (List UInt8)),j<=l.length->l.length - j<m->out.length<=5000000+j->q64 n m l ((l.length:Nat):Int) (j:Int)  out=some ((((),()),((),(out++(l.drop j).map (fun q=>lnS (rtL q)),()))))
 | 0,j,_,_,h,_=>absurd h (Nat.not_lt_zero _)
 | m+1,j,out,hj,h,ho=>by
  rw [qot]
  unfold j70
  by_cases c0:j<l.length
  ·have c0':((j:Nat):Int)<((l.length:Nat):Int):=by omega
   have hmem:=List.getElem_mem c0
   have hj0:q3f n (rtL l[j])=some (lnS (rtL l[j])):=(q5y n (rtL l[j]) (by simp [rtL]) (fun x hx=>by
    have ht:=j4i l[j]
    simp only [rtL,List.mem_cons,List.not_mem_nil,or_false] at hx
    rcases hx with rfl|rfl
    ·decide
    ·omega
    )).1
   have a1:q3e 16 out [lnS (rtL l[j])]=some (out ++ [lnS (rtL l[j])]):=q37 (by simp;omega)
   unfold rtL at hj0 a1
   rw [show (l.drop j)=l[j]::l.drop (j+1) from List.drop_eq_getElem_cons c0]
   simp only [c0',decide_true,cond_true,q0o c0,Option.bind_some,j9m n l[j] hn,hj0,a1,q08,q07 (show j<4611686018427387904 by omega)]
   rw [qrt n l  hn hL m (j+1) _ (by omega) (by omega) (by simp;omega)]
   simp only [List.append_assoc,List.map_cons,List.singleton_append]
   rfl
  ·have c0' : ¬ ((j:Nat):Int)<((l.length:Nat):Int):=by omega
   simp only [c0',decide_false,cond_false]
   rw [List.drop_eq_nil_of_le (by omega),List.map_nil,List.append_nil]
def WM (m:MD):Prop:=(m.1.length<=1000/\m.2.1.length<=1000)/\(∀q∈m.2.2.1,q.1.length<=1000)/\(∀q∈m.2.2.2.1,q.1.length<=1000/\q.2.length<=1000)/\(∀q∈m.2.2.2.2.1,q.1.length<=1000)
theorem j0r : ∀xs:List (List UInt8),Lib.join xs []=xs.flatten
 | []=>rfl
 | x::r=>by
  rw [Lib.join_cons,List.flatten_cons]
  unfold Lib.joinTail
  congr 2
  induction r with
  | nil=>rfl
  | cons y r ih=>rw [List.map_cons,ih];rfl
theorem jk2 (n:Nat) (m:MD) (hL:ML 100000 m) (hw:WM m) (hk:(qdy m).length<=100000000) (hn:1000000<n):jbo n m=some (qdy m):=by
 obtain ⟨mo,go,rq,sw,ex,rt⟩:=m
 obtain ⟨h1,h2,h3,h4⟩:=hL
 obtain ⟨⟨w1,w2⟩,w3,w4,w5⟩:=hw
 simp only at h1 h2 h3 h4 w1 w2 w3 w4 w5
 have jm:q3f n [qaw,mo]=some (lnS [qaw,mo]):=(q5y n _ (by simp) (fun x hx=>by
  simp only [List.mem_cons,List.not_mem_nil,or_false] at hx
  rcases hx with rfl|rfl
  ·decide
  ·omega)).1
 have jg:q3f n [kGo,go]=some (lnS [kGo,go]):=(q5y n _ (by simp) (fun x hx=>by
  simp only [List.mem_cons,List.not_mem_nil,or_false] at hx
  rcases hx with rfl|rfl
  ·decide
  ·omega)).1
 have key : ∀o:List (List UInt8),o.length<=2->((q62 n n rq (rq.length:Int) (0:Int) mo go rq sw ex rt o).bind fun o9=>(q66 n n o9.2.1.1.2.2.2.1 (o9.2.1.1.2.2.2.1.length:Int) (0:Int) o9.2.1.1.1 o9.2.1.1.2.1 o9.2.1.1.2.2.1 o9.2.1.1.2.2.2.1 o9.2.1.1.2.2.2.2.1 o9.2.1.1.2.2.2.2.2 o9.2.2.1).bind fun o14=>(q61 n n o14.2.1.1.2.2.2.2.1 (o14.2.1.1.2.2.2.2.1.length:Int) (0:Int) o14.2.1.1.1 o14.2.1.1.2.1 o14.2.1.1.2.2.1 o14.2.1.1.2.2.2.1 o14.2.1.1.2.2.2.2.1 o14.2.1.1.2.2.2.2.2 o14.2.2.1).bind fun o20=>(q64 n n o20.2.1.1.2.2.2.2.2 (o20.2.1.1.2.2.2.2.2.length:Int) (0:Int) o20.2.2.1).bind fun o26=>(q7e o26.2.2.1 ([]:List UInt8)).bind fun r27=>some r27) =
   (q7e (o++(rq.map (fun q=>lnS (rqL q))++(sw.map (fun q=>lnS (swL q))++(ex.map (fun q=>lnS (exL q))++rt.map (fun q=>lnS (rtL q)))))) []).bind fun r27=>some r27:=by
  intro o ho
  have l0:=qsb n rq mo go rq sw ex rt (by omega) (by omega) w3 n 0 o (Nat.zero_le _) (by omega) (by omega)
  rw [zI,List.drop_zero] at l0
  rw [l0]
  simp only [Option.bind_some]
  have l1:=qpw n sw mo go rq sw ex rt (by omega) (by omega) w4 n 0 (o++rq.map (fun q=>lnS (rqL q))) (Nat.zero_le _) (by omega) (by simp;omega)
  rw [zI,List.drop_zero] at l1
  rw [l1]
  simp only [Option.bind_some]
  have l2:=qod n ex mo go rq sw ex rt (by omega) (by omega) w5 n 0 (o++rq.map (fun q=>lnS (rqL q))++sw.map (fun q=>lnS (swL q))) (Nat.zero_le _) (by omega) (by simp;omega)
  rw [zI,List.drop_zero] at l2
  rw [l2]
  simp only [Option.bind_some]
  have l3:=qrt n rt (by omega) (by omega) n 0 (o++rq.map (fun q=>lnS (rqL q))++sw.map (fun q=>lnS (swL q))++ex.map (fun q=>lnS (exL q))) (Nat.zero_le _) (by omega) (by simp;omega)
  rw [zI,List.drop_zero] at l3
  rw [l3]
  simp only [Option.bind_some,List.append_assoc]
 unfold jbo
 simp only [jm,Option.bind_some]
 have hlay : ∀o:List (List UInt8),o++(rq.map (fun q=>lnS (rqL q))++(sw.map (fun q=>lnS (swL q))++(ex.map (fun q=>lnS (exL q))++rt.map (fun q=>lnS (rtL q)))))=(jsk (mo,(go,(rq,(sw,(ex,rt)))))).map lnS->((q7e (o++(rq.map (fun q=>lnS (rqL q))++(sw.map (fun q=>lnS (swL q))++(ex.map (fun q=>lnS (exL q))++rt.map (fun q=>lnS (rtL q)))))) []).bind fun r27=>some r27)=some (qdy (mo,(go,(rq,(sw,(ex,rt)))))):=by
  intro o ho
  rw [ho]
  unfold q7e
  rw [if_pos ⟨by
   rw [List.length_map];unfold jsk
   simp only [List.length_append,List.length_map,List.length_cons,List.length_nil]
   split<;>simp only [List.length_cons,List.length_nil]<;>omega,by rw [j0r];have:((jsk (mo,(go,(rq,(sw,(ex,rt)))))).map lnS).flatten.length<=100000000:=hk;omega⟩,j0r]
  rfl
 by_cases hg:go = []
 ·rw [decide_eq_true hg,Bool.not_true,cond_false,key _ (by simp)]
  exact hlay _ (by simp [jsk,hg,Function.comp_def])
 ·have a1:q3e 16 ([lnS [qaw,mo]]:List (List UInt8)) [lnS [kGo,go]]=some ([lnS [qaw,mo]] ++ [lnS [kGo,go]]):=q37 (by simp)
  simp only [decide_eq_false hg,Bool.not_false,cond_true,jg,Option.bind_some,a1]
  rw [key _ (by simp)]
  exact hlay _ (by simp [jsk,hg,Function.comp_def])
theorem jhu : ∀(ls:List (List UInt8)) (i st:Int) (k:Nat) (σ σ':MS),SB k σ->q5t ls i st σ = .inr σ'->SB (k+ls.length) σ'
 | [],i,st,k,σ,σ',h,e=>by cases e;exact h
 | t::ts,i,st,k,σ,σ',h,e=>by
  rw [q5t] at e
  split at e
  ·cases e
  ·rename_i σ1 h1
   have:=jhu ts _ _ (k+1) σ1 σ' (jhj h h1) e
   rw [List.length_cons,show k+(ts.length+1)=k+1+ts.length by omega]
   exact this
theorem jc7 (s:List UInt8):ML (s.length+1) (q1r s).1:=by
 obtain ⟨l1,l2⟩:=Lx.qag s
 unfold q1r qjp
 split
 ·rename_i e he
  exact ⟨Nat.zero_le _,Nat.zero_le _,Nat.zero_le _,Nat.zero_le _⟩
 ·rename_i σ k he
  split at he
  ·cases he
  ·split at he
   ·cases he
   ·rename_i σ1 h1
    have h2:=jhu _ 0 0 0 ms0 σ1 ⟨Nat.le_refl _,Nat.le_refl _,Nat.le_refl _,Nat.le_refl _⟩ h1
    split at he
    ·cases he
    ·split at he
     ·cases he
     ·cases he
      obtain ⟨b1,b2,b3,b4⟩:=h2
      exact ⟨by show σ.rq.length<=_;omega,by show σ.sw.length<=_;omega,by show σ.ex.length<=_;omega,by show σ.rt.length<=_;omega⟩
theorem ML.mono {k j:Nat} {m:MD} (h:ML k m) (hj:k<=j):ML j m:=by unfold ML at *;omega
def qis (m:MD):List UInt8×Int:=if (q1r (qdy m)).2.2=0 then (if (q1r (qdy m)).1=m then (qdy m,0) else ([],1)) else ([],(q1r (qdy m)).2.2)
theorem qv3 (n:Nat) (m:MD) (hL:ML 100000 m) (hw:WM m) (hk:(qdy m).length<=100000) (hn:1000000<n):qb9 n m=some (qis m):=by
 have h2:=(jc7 (qdy m)).mono (show _<=1000000 by omega)
 unfold qb9 qis
 rw [jk2 n m hL hw (by omega) hn]
 simp only [Option.bind_some,q9z n (qdy m) hk (by omega),jgl n _ m h2 hn]
 by_cases h0:(q1r (qdy m)).2.2=0
 ·simp only [h0,decide_true,Bool.not_true,cond_false,if_true]
  by_cases he:(q1r (qdy m)).1=m
  ·rw [decide_eq_true he,if_pos he];rfl
  ·rw [decide_eq_false he,if_neg he];rfl
 ·simp only [h0,decide_false,Bool.not_false,cond_true,if_false]
end Go.Proofs.YtapfankgdkdkgaaGreatDoor.AM
namespace Go.Proofs.YtapfankgdkdkgaaGreatDoor.AM
open Go.RowKit
set_option linter.unusedVariables false
set_option linter.unusedSimpArgs false
def plb (c:UInt8):Bool:=Lx.okc c&&(!Lx.q6m c && !Lx.isB c)
def plain (w:List UInt8):Prop:=w ≠ []/\w.head? ≠ some 47/\∀c∈w,plb c=true
theorem j3i (c:UInt8) (h:qmu c=true):plb c=true/\c≠47:=by
 have h1 : ∀i:Fin 256,qmu (UInt8.ofNat i.1)=true->plb (UInt8.ofNat i.1)=true/\UInt8.ofNat i.1≠47:=by decide +kernel
 have:=h1 ⟨c.toNat,c.toNat_lt⟩
 simpa [h] using this
theorem jby (c:UInt8) (h:q26 c=true):qmu c=true:=by unfold qmu;rw [h];simp
theorem pl46:plb 46=true:=by decide
theorem pl47:plb 47=true:=by decide
theorem jkp (c:UInt8) (h:qfk c=true):plb c=true/\c≠47:=by
 have h1 : ∀i:Fin 256,qfk (UInt8.ofNat i.1)=true->plb (UInt8.ofNat i.1)=true/\UInt8.ofNat i.1≠47:=by decide +kernel
 have:=h1 ⟨c.toNat,c.toNat_lt⟩
 simpa [h] using this
theorem jdw {w:List UInt8} (h:qk7 w=true):w.all qfk=true:=by
 unfold qk7 at h
 simp only [Bool.and_eq_true] at h
 exact h.2.2.2
theorem qdh {p:List UInt8} (h:q4w p=true):plain p:=by
 have h2:=(qiq h).2
 refine ⟨jwh h,fun hd=>?_,fun c hc=>?_⟩
 ·cases p with
  | nil=>cases hd
  | cons a r =>
   simp only [List.head?_cons,Option.some.injEq] at hd
   subst hd
   rw [spl,if_pos rfl,List.all_cons,show qk7 []=false from rfl] at h2
   cases h2
 ·have h3:(spl 47 [] p).all (fun w=>w.all qfk)=true:=by
   rw [List.all_eq_true] at h2 ⊢
   exact fun w hw=>jdw (h2 w hw)
  rcases ((qqj 47 qfk p []).1 h3).2 c hc with rfl|h4
  ·exact pl47
  ·exact (jkp c h4).1
theorem qhd {p:List UInt8} (h:okS p=true):plain p:=qdh (qka h).1
theorem qzl {i:Int} (h:0<=i) : ∀c∈Lib.itoa i,plb c=true:=by
 rw [q2h h]
 intro c hc
 exact (j3i c (jby c (List.all_eq_true.1 (ja1 i.toNat).1 c hc))).1
theorem j3e {d:UInt8} (hd:plb d=true) {p:List UInt8->Bool} (hp : ∀w,p w=true->w.all qmu=true) {s:List UInt8} (h:q5w p s=true) : ∀c∈q6u d s,plb c=true:=by
 unfold q6u
 split
 ·intro c hc;cases hc
 ·intro c hc
  rcases List.mem_cons.1 hc with rfl|hc
  ·exact hd
  ·rcases jcs hp h c hc with rfl|h1
   ·exact pl46
   ·exact (j3i c h1).1
theorem q5z {v:VD} (h:q10 v=true):plain (q0n v):=by
 obtain ⟨h1,h2,h3,h4,h5⟩:=q2m h
 unfold q0n
 rw [if_pos h]
 unfold jra
 refine ⟨by simp,by simp,fun c hc=>?_⟩
 simp only [List.mem_cons,List.mem_append] at hc
 rcases hc with rfl|hc|rfl|hc|rfl|hc|hc|hc
 ·decide
 ·exact qzl h1.1 c hc
 ·exact pl46
 ·exact qzl h2.1 c hc
 ·exact pl46
 ·exact qzl h3.1 c hc
 ·exact j3e (by decide) j0i h4 c hc
 ·exact j3e (by decide) qx4 h5 c hc
theorem qg8 {s:List UInt8} (h:qhx s=true):(∀c∈s,q26 c=true)/\s ≠ []/\s.length<=9:=by
 unfold qhx at h
 simp only [Bool.and_eq_true,decide_eq_true_eq] at h
 exact ⟨fun c hc=>List.all_eq_true.1 h.1 c hc,fun h0=>by have:=h.2.1;rw [h0] at this;simp at this,h.2.2.1⟩
theorem qj7 {x:List UInt8} (h:qdu x=true) : ∃ a b,x=a++46::b/\qhx a=true/\qhx b=true:=by
 unfold qdu at h
 rw [Bool.and_eq_true] at h
 by_cases hm:(46:UInt8)∈x
 ·obtain ⟨a,b,hx,ha⟩:=List.eq_append_cons_of_mem hm
  have:=j7u 46 a b ha
  rw [hx,this.1,this.2] at h
  exact ⟨a,b,hx,h.1,h.2⟩
 ·have:qdv 46 x = []:=by unfold qdv;rw [if_pos (qip 46 x hm)]
  rw [this] at h
  cases h.2
theorem qde {x:List UInt8} (h:qdu x=true):plain x:=by
 obtain ⟨a,b,rfl,ha,hb⟩:=qj7 h
 have ha:=qg8 ha
 have hb:=qg8 hb
 refine ⟨by simp,fun hd=>?_,fun c hc=>?_⟩
 ·cases a with
  | nil=>exact ha.2.1 rfl
  | cons d a =>
   simp only [List.cons_append,List.head?_cons,Option.some.injEq] at hd
   exact (j3i d (jby d (ha.1 d (List.mem_cons_self ..)))).2 hd
 ·rcases List.mem_append.1 hc with hc|hc
  ·exact (j3i c (jby c (ha.1 c hc))).1
  ·rcases List.mem_cons.1 hc with rfl|hc
   ·exact pl46
   ·exact (j3i c (jby c (hb.1 c hc))).1
theorem jrz {x:List UInt8} (h:qdu x=true):x.length<=19:=by
 obtain ⟨a,b,rfl,ha,hb⟩:=qj7 h
 have ha:=(qg8 ha).2.2
 have hb:=(qg8 hb).2.2
 simp;omega
theorem j7b {c:UInt8} (h:plb c=true):Lx.q6m c=false/\Lx.isB c=false/\Lx.okc c=true:=by
 unfold plb at h
 simp only [Bool.and_eq_true,Bool.not_eq_true'] at h
 exact ⟨h.2.1,h.2.2,h.1⟩
theorem jhi (r:List UInt8) : ∀(w:List UInt8) (i:Nat) (ws:List Lx.Wd) (u:List UInt8) (p:Int),(∀c∈w,plb c=true)->Lx.qat (w++r) i true (ws ++ [(u,p)])=Lx.qat r (i+w.length) true (ws ++ [(u++w,p)])
 | [],i,ws,u,p,_=>by simp
 | c::w,i,ws,u,p,h=>by
  obtain ⟨h1,h2,_⟩:=j7b (h c (List.mem_cons_self ..))
  rw [List.cons_append,Lx.qbt,h1,h2]
  simp only [Bool.false_eq_true,if_false,if_true]
  rw [Lx.q8u,jhi r w (i+1) ws (u ++ [c]) p (fun d hd=>h d (List.mem_cons_of_mem _ hd))]
  simp only [List.append_assoc,List.singleton_append,List.length_cons]
  congr 1;omega
theorem qgz {w:List UInt8} (hw:plain w) (r:List UInt8) (i:Nat) (ws:List Lx.Wd):Lx.qat (w++r) i false ws=Lx.qat r (i+w.length) true (ws ++ [(w,((i:Nat):Int))]):=by
 obtain ⟨h0,h1,h2⟩:=hw
 cases w with
 | nil=>exact absurd rfl h0
 | cons c w =>
  obtain ⟨g1,g2,_⟩:=j7b (h2 c (List.mem_cons_self ..))
  have hp:Lx.pfx (c::(w++r))=false:=by
   have hc:c≠47:=fun h=>h1 (by rw [h];rfl)
   cases h:w++r with
   | nil=>rfl
   | cons b t=>simp [Lx.pfx,hc]
  rw [List.cons_append,Lx.qbt,g1,g2,hp]
  simp only [Bool.false_eq_true,if_false]
  rw [jhi r w (i+1) ws [c] _ (fun d hd=>h2 d (List.mem_cons_of_mem _ hd))]
  simp only [List.singleton_append,List.length_cons]
  congr 1;omega
theorem qt0 (c:UInt8) (hc:Lx.q6m c=false/\Lx.isB c=true) (r:List UInt8) (i:Nat) (op:Bool) (ws:List Lx.Wd):Lx.qat (c::r) i op ws=Lx.qat r (i+1) false ws:=by
 rw [Lx.qbt,hc.1,hc.2];simp
theorem j9j (c:UInt8) (hc:Lx.q6m c=true) (r:List UInt8) (i:Nat) (op:Bool) (ws:List Lx.Wd):Lx.qat (c::r) i op ws=Lx.qat r (i+1) false (ws ++ [([c],((i:Nat):Int))]):=by
 rw [Lx.qbt,hc];simp
abbrev tx (ws:List Lx.Wd):List (List UInt8):=ws.map Prod.fst
theorem j16 : ∀(L:List (List UInt8)) (i:Nat) (ws:List Lx.Wd),(∀w∈L,plain w)->tx (Lx.qat (Lib.joinTail [32] L) i true ws).1=tx ws++L
 | [],i,ws,_=>by simp [Lib.joinTail,Lx.qat]
 | w::L,i,ws,h=>by
  have e:Lib.joinTail [32] (w::L)=32::(w++Lib.joinTail [32] L):=by simp [Lib.joinTail]
  rw [e,qt0 32 (by decide),qgz (h w (List.mem_cons_self ..)),j16 L _ _ (fun x hx=>h x (List.mem_cons_of_mem _ hx))]
  simp
theorem q67 (L:List (List UInt8)) (h : ∀w∈L,plain w):tx (q11 (Lib.join L [32]))=L:=by
 unfold q11 Lx.j0e
 cases L with
 | nil=>simp [Lib.join_nil,Lx.qat]
 | cons w L =>
  rw [Lib.join_cons,qgz (h w (List.mem_cons_self ..)),j16 L _ _ (fun x hx=>h x (List.mem_cons_of_mem _ hx))]
  rfl
theorem qpe:plain qvt:=⟨by decide,by decide,by decide⟩
theorem jak {a b:List UInt8} (ha:plain a) (hb:plain b):tx (q11 (Lib.join [qvt,91::(a++44::32::(b ++ [93]))] [32])) = [qvt,[91],a,[44],b,[93]]:=by
 unfold q11 Lx.j0e
 have e:Lib.join [qvt,91::(a++44::32::(b ++ [93]))] [32]=qvt++32::91::(a++44::32::(b ++ [93])):=by rw [Lib.join_cons];simp [Lib.joinTail]
 rw [e,qgz qpe,qt0 32 (by decide),j9j 91 (by decide),qgz ha,j9j 44 (by decide),qt0 32 (by decide),qgz hb,j9j 93 (by decide)]
 simp [Lx.qat]
theorem jq4 : ∀(L:List (List UInt8)),(∀w∈L,∀c∈w,Lx.okc c=true)->∀c∈Lib.join L [32],Lx.okc c=true
 | [],_,c,hc=>by cases hc
 | w::L,h,c,hc=>by
  rw [Lib.join_cons] at hc
  rcases List.mem_append.1 hc with hc|hc
  ·exact h w (List.mem_cons_self ..) c hc
  ·unfold Lib.joinTail at hc
   obtain ⟨l,hl,hcl⟩:=List.mem_flatten.1 hc
   obtain ⟨x,hx,rfl⟩:=List.mem_map.1 hl
   rcases List.mem_append.1 hcl with hc|hc
   ·rw [List.mem_singleton.1 hc];decide
   ·exact h x (List.mem_cons_of_mem _ hx) c hc
theorem q16 {w:List UInt8} (h:plain w) : ∀c∈w,Lx.okc c=true:=fun c hc=>(j7b (h.2.2 c hc)).2.2
theorem jvg {t:List UInt8} (h : ∀c∈t,Lx.okc c=true):(10:UInt8) ∉ t:=fun hc=>by
 have:=h 10 hc
 revert this;decide
theorem jrp (L:List (List UInt8)) (h : ∀t∈L,∀c∈t,Lx.okc c=true):Lx.q0p ((L.map (· ++ [10])).flatten)=L:=Lx.j5o L fun t ht=>jvg (h t ht)
theorem qvu : ∀(L:List (List UInt8)) (i:Nat) (out:List Lx.Ln),(∀t∈L,∀c∈t,Lx.okc c=true)->(Lx.q4z L i out).2.2=0
 | [],i,out,_=>rfl
 | t::L,i,out,h=>by
  rw [Lx.q4z,if_pos (List.all_eq_true.2 (h t (List.mem_cons_self ..)))]
  exact qvu L (i+1) _ fun x hx=>h x (List.mem_cons_of_mem _ hx)
theorem quw : ∀(L:List (List UInt8)) (i:Nat) (out:List Lx.Ln),(Lx.q4z L i out).2.2=0->∀t∈L,∀c∈t,Lx.okc c=true
 | [],i,out,_,t,ht=>by cases ht
 | x::L,i,out,h,t,ht=>by
  rw [Lx.q4z] at h
  split at h
  ·rename_i hx
   rcases List.mem_cons.1 ht with rfl|ht
   ·exact fun c hc=>List.all_eq_true.1 hx c hc
   ·exact quw L (i+1) _ h t ht
  ·cases h
end Go.Proofs.YtapfankgdkdkgaaGreatDoor.AM
namespace Go.Proofs.YtapfankgdkdkgaaGreatDoor.AM
open Go.RowKit
set_option linter.unusedVariables false
set_option linter.unusedSimpArgs false
def q0x (σ:MS) (c:Cl):Bool:=(q0c clT c σ.sd).isSome
def ps (st:Int) (w:Lx.Wd):Int×Int:=(st+w.2,st+w.2+((w.1.length:Nat):Int))
def q8g:List Lx.Wd->Nat
 | []=>0
 | w::r=>w.1.length+q8g r
theorem qmt {w:Lx.Wd} : ∀{ws:List Lx.Wd},w∈ws->w.1.length<=q8g ws
 | x::r,h=>by
  rcases List.mem_cons.1 h with rfl|h
  ·rw [q8g];omega
  ·have:=qmt h;rw [q8g];omega
theorem qqk (p:Lx.Wd->Bool) : ∀ws:List Lx.Wd,q8g (ws.filter p)<=q8g ws
 | []=>Nat.le_refl _
 | x::r=>by
  have:=qqk p r
  rw [List.filter_cons]
  split
  ·rw [q8g,q8g];omega
  ·rw [q8g];omega
inductive Step (σ:MS) (st:Int) (ws:List Lx.Wd):MS->Prop
 | mo (w:Lx.Wd) (hw:w∈ws) (h:okS w.1=true) (hc:q0x σ (qaw,([],v0))=false):Step σ st ws { σ with mo:=w.1,sd:=q3v clT (qaw,([],v0)) (ps st w) σ.sd }
 | go (w:Lx.Wd) (hw:w∈ws) (h:qdu w.1=true) (hc:q0x σ (kGo,([],v0))=false):Step σ st ws { σ with go:=w.1,sd:=q3v clT (kGo,([],v0)) (ps st w) σ.sd }
 | rq (x:Lx.Wd) (q:Rq) (hx:x∈ws) (hz:q.1.length+x.1.length<=q8g ws) (h:q8l q.1 q.2=true) (ht:q0n q.2=x.1) (hc:q0x σ (q8y,(q.1,v0))=false):Step σ st ws { σ with rq:=σ.rq ++ [q],sd:=q3v clT (q8y,(q.1,v0)) (ps st x) σ.sd }
 | ex (x:Lx.Wd) (q:Rq) (hx:x∈ws) (hz:q.1.length+x.1.length<=q8g ws) (h:q8l q.1 q.2=true) (ht:q0n q.2=x.1) (hc:q0x σ (qgb,(q.1,q.2))=false):Step σ st ws { σ with ex:=σ.ex ++ [q],sd:=q3v clT (qgb,(q.1,q.2)) (ps st x) σ.sd }
 | sw (x:Lx.Wd) (q:Sw) (hx:x∈ws) (hz:q.1.length+q.2.length<=q8g ws) (h:okS q.1=true) (h2:q4w q.2=true) (hc:q0x σ (qfn,(q.1,v0))=false):Step σ st ws { σ with sw:=σ.sw ++ [q],sd:=q3v clT (qfn,(q.1,v0)) (ps st x) σ.sd }
 | rt (x:Sp) (hz:(qu3 x).length<=q8g ws+4) (h:q10 (qfz x)=true) (h2:q10 (q4v x)=true) (hc:jo7 (qfz x) (q4v x)<=0):Step σ st ws { σ with rt:=σ.rt ++ [x] }
theorem Step.mono {σ σ':MS} {st:Int} {ws ws':List Lx.Wd} (h:Step σ st ws σ') (h1 : ∀w∈ws,w∈ws') (h2:q8g ws<=q8g ws'):Step σ st ws' σ':=by
 cases h with
 | mo w hw h hc=>exact .mo w (h1 w hw) h hc
 | go w hw h hc=>exact .go w (h1 w hw) h hc
 | rq x q hx hz h ht hc=>exact .rq x q (h1 x hx) (by omega) h ht hc
 | ex x q hx hz h ht hc=>exact .ex x q (h1 x hx) (by omega) h ht hc
 | sw x q hx hz h h2 hc=>exact .sw x q (h1 x hx) (by omega) h h2 hc
 | rt x hz h h2 hc=>exact .rt x (by omega) h h2 hc
theorem qc7 {σ σ':MS} {c:Cl} {st:Int} {w:Lx.Wd} (e:q1c σ c st w = .inr σ'):q0x σ c=false/\σ' = { σ with sd:=q3v clT c (ps st w) σ.sd }:=by
 unfold q1c at e
 unfold q0x
 split at e
 ·cases e
 ·rename_i h
  cases e
  exact ⟨by simpa using h,rfl⟩
theorem jl0 {p x:List UInt8} {q:Rq} (e:j6f p x = .inr q):q.1=p/\q8l q.1 q.2=true/\q0n q.2=x:=by
 unfold j6f at e
 split at e
 ·cases e
 ·split at e
  ·cases e
  ·split at e
   ·cases e
   ·rename_i h1 h2 h3
    cases e
    exact ⟨rfl,by simpa using h3,(qij (by simpa using h2)).2⟩
theorem js2 {σ σ':MS} {v:List UInt8} {ws:List Lx.Wd} {st:Int} (h2:v=q8y\/v=qgb\/v=qfn->∃ w x r,ws=w::x::r) (e:qtr σ st v ws = .inr σ'):Step σ st ws σ':=by
 unfold qtr at e
 split at e
 ·cases e
 ·rename_i w ws'
  have hw0:w∈w::ws':=List.mem_cons_self ..
  split at e
  ·split at e
   ·cases e
   ·rename_i h
    obtain ⟨hc,rfl⟩:=qc7 e
    exact .mo w hw0 (by simpa using h) hc
  ·split at e
   ·split at e
    ·cases e
    ·rename_i h
     obtain ⟨hc,rfl⟩:=qc7 e
     exact .go w hw0 (by simpa using h) hc
   ·split at e
    ·rename_i hv
     obtain ⟨w',x,r,hx⟩:=h2 (.inl hv)
     obtain ⟨rfl,rfl⟩:=List.cons.inj hx
     split at e
     ·cases e
     ·rename_i q hq
      obtain ⟨q1,q2,q3⟩:=jl0 hq
      obtain ⟨hc,rfl⟩:=qc7 e
      exact .rq x q (by simp) (by rw [q1,q8g,q8g];omega) q2 q3 hc
    ·split at e
     ·rename_i hv
      obtain ⟨w',x,r,hx⟩:=h2 (.inr (.inl hv))
      obtain ⟨rfl,rfl⟩:=List.cons.inj hx
      split at e
      ·cases e
      ·rename_i q hq
       obtain ⟨q1,q2,q3⟩:=jl0 hq
       obtain ⟨hc,rfl⟩:=qc7 e
       exact .ex x q (by simp) (by rw [q1,q8g,q8g];omega) q2 q3 hc
     ·split at e
      ·rename_i hv
       obtain ⟨w',x,r,hx⟩:=h2 (.inr (.inr hv))
       obtain ⟨rfl,rfl⟩:=List.cons.inj hx
       split at e
       ·cases e
       ·rename_i g1
        split at e
        ·cases e
        ·rename_i g2
         obtain ⟨hc,rfl⟩:=qc7 e
         exact .sw x (w.1,x.1) (by simp) (by rw [q8g,q8g];show w.1.length+x.1.length<=_;omega) (by simpa using g1) (by simpa using g2) hc
      ·split at e
       ·cases e
       ·rename_i g1
        split at e
        ·cases e
        ·rename_i g2
         split at e
         ·cases e
         ·rename_i g3
          cases e
          obtain ⟨a1,a2⟩:=qij (s:=w.1) (by simpa using g1)
          obtain ⟨b1,b2⟩:=qij (s:=(ws'.getLast?.getD w).1) (by simpa using g2)
          refine .rt _ ?_ a1 b1 (by simpa [jsx,jl8] using g3)
          unfold qu3
          rw [jsx,jl8]
          split
          ·rw [a2,q8g];omega
          ·rename_i hne
           rw [a2,b2]
           cases ws' with
           | nil=>exact absurd rfl hne
           | cons y r =>
            have hm:(y::r).getLast?.getD w∈y::r:=by
             rw [List.getLast?_eq_some_getLast (List.cons_ne_nil _ _),Option.getD_some]
             exact List.getLast_mem _
            have:=qmt hm
            rw [q8g]
            simp only [List.length_cons,List.length_append,List.length_nil]
            omega
theorem j3u {σ σ':MS} {v:List UInt8} {ws:List Lx.Wd} {st:Int} (e:q47 σ st v ws = .inr σ'):Step σ st ws σ':=by
 unfold q47 at e
 split at e
 ·rename_i hm
  refine (js2 (fun hv=>?_) e).mono (fun w hw=>(List.mem_filter.1 hw).1) (qqk _ ws)
  have:(unm ws).length=2:=by
   rcases hv with rfl|rfl|rfl
   ·exact q89 (k:=2) (List.mem_singleton.1 hm) (by decide) (by decide)
   ·exact q89 (k:=2) (List.mem_singleton.1 hm) (by decide) (by decide)
   ·exact q89 (k:=2) (List.mem_singleton.1 hm) (by decide) (by decide)
  obtain ⟨a,b,hab⟩:=jxd this
  exact ⟨a,b,[],hab⟩
 ·cases e
theorem qom {σ σ':MS} {ws:List Lx.Wd} {st:Int} (e:qav σ st ws = .inr σ'):Step σ st ws σ' \/ ∃ b,σ' = { σ with bk:=b }:=by
 unfold qav at e
 split at e
 ·cases e;exact .inr ⟨σ.bk,rfl⟩
 ·rename_i w ws'
  split at e
  ·split at e
   ·cases e;exact .inr ⟨w.1,rfl⟩
   ·exact .inl ((j3u e).mono (fun x hx=>List.mem_cons_of_mem _ hx) (by rw [q8g];omega))
  ·split at e
   ·cases e;exact .inr ⟨[],rfl⟩
   ·exact .inl (j3u e)
structure GoodM (σ:MS):Prop where
 mo:σ.mo = []\/okS σ.mo=true
 mc:q0x σ (qaw,([],v0))=true↔σ.mo ≠ []
 go:σ.go = []\/qdu σ.go=true
 gk:q0x σ (kGo,([],v0))=true↔σ.go ≠ []
 rq : ∀q∈σ.rq,q8l q.1 q.2=true
 rk : ∀p,q0x σ (q8y,(p,v0))=true↔p∈σ.rq.map Prod.fst
 rn:(σ.rq.map Prod.fst).Nodup
 sw : ∀q∈σ.sw,okS q.1=true/\q4w q.2=true
 sk : ∀p,q0x σ (qfn,(p,v0))=true↔p∈σ.sw.map Prod.fst
 sn:(σ.sw.map Prod.fst).Nodup
 ex : ∀q∈σ.ex,q8l q.1 q.2=true
 ek : ∀q:Rq,q0x σ (qgb,(q.1,q.2))=true↔q∈σ.ex
 en:σ.ex.Nodup
 rt : ∀x∈σ.rt,q10 (qfz x)=true/\q10 (q4v x)=true/\jo7 (qfz x) (q4v x)<=0
theorem jzg (c:Cl) (P:Prop) (h : ¬ P):q0x ms0 c=true↔P:=⟨fun e=>(by cases e),fun p=>absurd p h⟩
theorem jxi:GoodM ms0 where
 mo:=.inl rfl
 mc:=jzg _ _ (fun h=>h rfl)
 go:=.inl rfl
 gk:=jzg _ _ (fun h=>h rfl)
 rq:=fun q h=>by cases h
 rk:=fun p=>jzg _ _ (fun h=>by cases h)
 rn:=List.nodup_nil
 sw:=fun q h=>by cases h
 sk:=fun p=>jzg _ _ (fun h=>by cases h)
 sn:=List.nodup_nil
 ex:=fun q h=>by cases h
 ek:=fun p=>jzg _ _ (fun h=>by cases h)
 en:=List.nodup_nil
 rt:=fun q h=>by cases h
theorem j38 (sd:jx1) (c c':Cl) (v:Int×Int):(q0c clT c' (q3v clT c v sd)).isSome=true↔c'=c\/(q0c clT c' sd).isSome=true:=by
 rw [qd0]
 cases h:eqT clT c' c with
 | true =>
  have:=(qqm c' c).1 h
  simp [this]
 | false =>
  have:c'≠c:=fun e=>by rw [(qqm c' c).2 e] at h;cases h
  simp [this]
theorem qif {β:Type} {l:List β} {a:β} (h:l.Nodup) (ha:a ∉ l):(l ++ [a]).Nodup:=by
 rw [List.nodup_append]
 exact ⟨h,by simp,fun x hx y hy e=>by rw [List.mem_singleton.1 hy] at e;rw [e] at hx;exact ha hx⟩
theorem ok_ne {p:List UInt8} (h:okS p=true):p ≠ []:=(qhd h).1
theorem jvl {p:List UInt8} (h:qdu p=true):p ≠ []:=(qde h).1
theorem kd:qaw≠kGo/\qaw≠q8y/\qaw≠qgb/\qaw≠qfn/\kGo≠q8y/\kGo≠qgb/\kGo≠qfn/\q8y≠qgb/\q8y≠qfn/\qgb≠qfn:=by decide
theorem q18 {σ:MS} {a b:List UInt8} (h:a≠b) (x y:List UInt8×VD) (v:Int×Int):(q0c clT (a,x) (q3v clT (b,y) v σ.sd)).isSome=(q0c clT (a,x) σ.sd).isSome:=by
 rw [qqo (fun e=>h (congrArg Prod.fst e))]
theorem jkj {σ:MS} {c:Cl} {P:Prop} (h:q0x σ c=true↔P) (hc:q0x σ c=false) : ¬ P:=fun hp=>by rw [h.2 hp] at hc;cases hc
theorem ji0 {σ σ':MS} {ws:List Lx.Wd} {st:Int} (g:GoodM σ) (h:Step σ st ws σ'):GoodM σ':=by
 obtain ⟨d1,d2,d3,d4,d5,d6,d7,d8,d9,d10⟩:=kd
 cases h with
 | mo w hw h hc =>
  exact ⟨.inr h,by show (q0c clT _ _).isSome=true↔_;rw [j38];simp [ok_ne h],g.go,by show (q0c clT _ _).isSome=true↔_;rw [q18 d1.symm];exact g.gk,g.rq,fun p=>by show (q0c clT _ _).isSome=true↔_;rw [q18 d2.symm];exact g.rk p,g.rn,g.sw,fun p=>by show (q0c clT _ _).isSome=true↔_;rw [q18 d4.symm];exact g.sk p,g.sn,g.ex,fun p=>by show (q0c clT _ _).isSome=true↔_;rw [q18 d3.symm];exact g.ek p,g.en,g.rt⟩
 | go w hw h hc =>
  exact ⟨g.mo,by show (q0c clT _ _).isSome=true↔_;rw [q18 d1];exact g.mc,.inr h,by show (q0c clT _ _).isSome=true↔_;rw [j38];simp [jvl h],g.rq,fun p=>by show (q0c clT _ _).isSome=true↔_;rw [q18 d5.symm];exact g.rk p,g.rn,g.sw,fun p=>by show (q0c clT _ _).isSome=true↔_;rw [q18 d7.symm];exact g.sk p,g.sn,g.ex,fun p=>by show (q0c clT _ _).isSome=true↔_;rw [q18 d6.symm];exact g.ek p,g.en,g.rt⟩
 | rq x q hx hz h ht hc =>
  refine ⟨g.mo,by show (q0c clT _ _).isSome=true↔_;rw [q18 d2];exact g.mc,g.go,by show (q0c clT _ _).isSome=true↔_;rw [q18 d5];exact g.gk,fun y hy=>?_,fun p=>?_,?_,g.sw,fun p=>by show (q0c clT _ _).isSome=true↔_;rw [q18 d9.symm];exact g.sk p,g.sn,g.ex,fun p=>by show (q0c clT _ _).isSome=true↔_;rw [q18 d8.symm];exact g.ek p,g.en,g.rt⟩
  ·rcases List.mem_append.1 hy with hy|hy
   ·exact g.rq y hy
   ·rw [List.mem_singleton.1 hy];exact h
  ·show (q0c clT _ _).isSome=true↔_
   rw [j38]
   have:=g.rk p
   unfold q0x at this
   rw [this,List.map_append,List.mem_append]
   simp [or_comm]
  ·show ((σ.rq ++ [q]).map Prod.fst).Nodup
   rw [List.map_append]
   exact qif g.rn (jkj (g.rk q.1) hc)
 | ex x q hx hz h ht hc =>
  refine ⟨g.mo,by show (q0c clT _ _).isSome=true↔_;rw [q18 d3];exact g.mc,g.go,by show (q0c clT _ _).isSome=true↔_;rw [q18 d6];exact g.gk,g.rq,fun p=>by show (q0c clT _ _).isSome=true↔_;rw [q18 d8];exact g.rk p,g.rn,g.sw,fun p=>by show (q0c clT _ _).isSome=true↔_;rw [q18 d10.symm];exact g.sk p,g.sn,fun y hy=>?_,fun p=>?_,?_,g.rt⟩
  ·rcases List.mem_append.1 hy with hy|hy
   ·exact g.ex y hy
   ·rw [List.mem_singleton.1 hy];exact h
  ·show (q0c clT _ _).isSome=true↔_
   rw [j38]
   have:=g.ek p
   unfold q0x at this
   rw [this,List.mem_append]
   obtain ⟨p1,p2⟩:=p
   obtain ⟨q1,q2⟩:=q
   simp [or_comm]
  ·exact qif g.en (jkj (g.ek q) hc)
 | sw x q hx hz h h2 hc =>
  refine ⟨g.mo,by show (q0c clT _ _).isSome=true↔_;rw [q18 d4];exact g.mc,g.go,by show (q0c clT _ _).isSome=true↔_;rw [q18 d7];exact g.gk,g.rq,fun p=>by show (q0c clT _ _).isSome=true↔_;rw [q18 d9];exact g.rk p,g.rn,fun y hy=>?_,fun p=>?_,?_,g.ex,fun p=>by show (q0c clT _ _).isSome=true↔_;rw [q18 d10];exact g.ek p,g.en,g.rt⟩
  ·rcases List.mem_append.1 hy with hy|hy
   ·exact g.sw y hy
   ·rw [List.mem_singleton.1 hy];exact ⟨h,h2⟩
  ·show (q0c clT _ _).isSome=true↔_
   rw [j38]
   have:=g.sk p
   unfold q0x at this
   rw [this,List.map_append,List.mem_append]
   simp [or_comm]
  ·show ((σ.sw ++ [q]).map Prod.fst).Nodup
   rw [List.map_append]
   exact qif g.sn (jkj (g.sk q.1) hc)
 | rt x hz h h2 hc =>
  refine ⟨g.mo,g.mc,g.go,g.gk,g.rq,g.rk,g.rn,g.sw,g.sk,g.sn,g.ex,g.ek,g.en,fun y hy=>?_⟩
  rcases List.mem_append.1 hy with hy|hy
  ·exact g.rt y hy
  ·rw [List.mem_singleton.1 hy];exact ⟨h,h2,hc⟩
theorem jv1 {σ:MS} (g:GoodM σ) (b:List UInt8):GoodM { σ with bk:=b }:=⟨g.mo,g.mc,g.go,g.gk,g.rq,g.rk,g.rn,g.sw,g.sk,g.sn,g.ex,g.ek,g.en,g.rt⟩
theorem q69 {σ σ':MS} {ws:List Lx.Wd} {st:Int} (g:GoodM σ) (e:qav σ st ws = .inr σ'):GoodM σ':=by
 rcases qom e with h|⟨b,rfl⟩
 ·exact ji0 g h
 ·exact jv1 g b
theorem j3c : ∀(ls:List (List UInt8)) (i st:Int) (σ σ':MS),GoodM σ->q5t ls i st σ = .inr σ'->GoodM σ'
 | [],i,st,σ,σ',g,e=>by cases e;exact g
 | t::ts,i,st,σ,σ',g,e=>by
  rw [q5t] at e
  split at e
  ·cases e
  ·rename_i σ1 h1
   exact j3c ts _ _ σ1 σ' (q69 g h1) e
def Mono (σ σ':MS):Prop:=(σ.mo ≠ []->σ'.mo=σ.mo)/\(σ.go ≠ []->σ'.go=σ.go)/\σ.rq <+: σ'.rq/\σ.sw <+: σ'.sw/\σ.ex <+: σ'.ex/\σ.rt <+: σ'.rt
theorem Mono.trans {a b c:MS} (h1:Mono a b) (h2:Mono b c):Mono a c:=by
 obtain ⟨a1,a2,a3,a4,a5,a6⟩:=h1
 obtain ⟨b1,b2,b3,b4,b5,b6⟩:=h2
 exact ⟨fun h=>(b1 (by rw [a1 h];exact h)).trans (a1 h),fun h=>(b2 (by rw [a2 h];exact h)).trans (a2 h),a3.trans b3,a4.trans b4,a5.trans b5,a6.trans b6⟩
end Go.Proofs.YtapfankgdkdkgaaGreatDoor.AM
namespace Go.Proofs.YtapfankgdkdkgaaGreatDoor.AM
open Go.RowKit
set_option linter.unusedVariables false
set_option linter.unusedSimpArgs false
set_option synthInstance.maxSize 100000
set_option synthInstance.maxHeartbeats 0
theorem jjv {p x:List UInt8} {e:Int} (h:j6f p x = .inl e):e≠0:=by
 unfold j6f at h
 split at h
 ·cases h;decide
 ·split at h
  ·cases h;decide
  ·split at h<;>cases h;decide
theorem qbv {σ:MS} {c:Cl} {st:Int} {w:Lx.Wd} {e:Int} (h:q1c σ c st w = .inl e):e≠0:=by
 unfold q1c at h
 split at h<;>cases h;decide
theorem jvv {σ:MS} {v:List UInt8} {ws:List Lx.Wd} {st e:Int} (h:qtr σ st v ws = .inl e):e≠0:=by
 unfold qtr at h
 split at h
 ·cases h;decide
 ·split at h
  ·split at h
   ·cases h;decide
   ·exact qbv h
  ·split at h
   ·split at h
    ·cases h;decide
    ·exact qbv h
   ·split at h
    ·split at h
     ·rename_i hq;cases h;exact jjv hq
     ·exact qbv h
    ·split at h
     ·split at h
      ·rename_i hq;cases h;exact jjv hq
      ·exact qbv h
     ·split at h
      ·split at h
       ·cases h;decide
       ·split at h
        ·cases h;decide
        ·exact qbv h
      ·split at h
       ·cases h;decide
       ·split at h
        ·cases h;decide
        ·split at h<;>cases h;decide
theorem jdd {σ:MS} {v:List UInt8} {ws:List Lx.Wd} {st e:Int} (h:q47 σ st v ws = .inl e):e≠0:=by
 unfold q47 at h
 split at h
 ·exact jvv h
 ·cases h;decide
theorem js3 {σ:MS} {ws:List Lx.Wd} {st e:Int} (h:qav σ st ws = .inl e):e≠0:=by
 unfold qav at h
 split at h
 ·cases h
 ·split at h
  ·split at h
   ·cases h
   ·exact jdd h
  ·split at h
   ·cases h
   ·exact jdd h
theorem j2v : ∀(ls:List (List UInt8)) (i st:Int) (σ:MS) (e:Int×Int),q5t ls i st σ = .inl e->e.2≠0
 | [],i,st,σ,e,h=>by cases h
 | t::ts,i,st,σ,e,h=>by
  rw [q5t] at h
  split at h
  ·rename_i h1;cases h;exact js3 h1
  ·exact j2v ts _ _ _ e h
structure IsM (s:List UInt8) (σ:MS):Prop where
 okc : ∀t∈Lx.q0p s,∀c∈t,Lx.okc c=true
 rd:q5t (Lx.q0p s) 0 0 ms0 = .inr σ
 bk:σ.bk = []
 mo:σ.mo ≠ []
theorem jw9 {s:List UInt8} {σ:MS} {k:Int} (h:qjp s = .inr (σ,k)):IsM s σ/\k=(((Lx.q0p s).length:Nat):Int):=by
 unfold qjp at h
 split at h
 ·cases h
 ·rename_i h0
  split at h
  ·cases h
  ·rename_i σ1 h1
   split at h
   ·cases h
   ·rename_i h2
    split at h
    ·cases h
    ·rename_i h3
     cases h
     exact ⟨⟨quw _ 0 [] (by simpa using h0),h1,by simpa using h2,h3⟩,rfl⟩
theorem jms {s:List UInt8} {σ:MS} (h:IsM s σ):qjp s = .inr (σ,(((Lx.q0p s).length:Nat):Int)):=by
 unfold qjp
 rw [if_neg (by simpa using qvu _ 0 [] h.okc),h.rd]
 simp only [h.bk,h.mo,ne_eq,not_true_eq_false,if_false]
theorem jcl {s:List UInt8} {σ:MS} (h:IsM s σ):q1r s=(σ.md,((((Lx.q0p s).length:Nat):Int),0)):=by unfold q1r;rw [jms h]
theorem jos {s:List UInt8} (h:(q1r s).2.2=0) : ∃ σ,IsM s σ:=by
 cases hr:qjp s with
 | inr x=>exact ⟨x.1,(jw9 (k:=x.2) hr).1⟩
 | inl e =>
  exfalso
  have h':e.2=0:=by unfold q1r at h;rw [hr] at h;exact h
  unfold qjp at hr
  split at hr
  ·rename_i h0;cases hr;exact h0 h'
  ·split at hr
   ·rename_i h1;cases hr;exact j2v _ _ _ _ _ h1 h'
   ·split at hr
    ·cases hr;exact absurd (show (10:Int)=0 from h') (by decide)
    ·split at hr
     ·cases hr;exact absurd (show (5:Int)=0 from h') (by decide)
     ·cases hr
theorem IsM.good {s:List UInt8} {σ:MS} (h:IsM s σ):GoodM σ:=j3c _ _ _ _ _ jxi h.rd
theorem jj4 (a:List UInt8) (c:UInt8):Lx.qzy (a ++ [c])=decide (c=10):=by
 unfold Lx.qzy
 by_cases h:c=10<;>simp [h]
end Go.Proofs.YtapfankgdkdkgaaGreatDoor.AM
namespace Go.Proofs.YtapfankgdkdkgaaGreatDoor.AM
open Go.RowKit
set_option linter.unusedVariables false
set_option linter.unusedSimpArgs false
set_option synthInstance.maxSize 100000
set_option synthInstance.maxHeartbeats 0
def Sm (σ τ:MS):Prop:=σ.md=τ.md/\∀c,q0x σ c=q0x τ c
theorem Sm.mo {σ τ:MS} (h:Sm σ τ):σ.mo=τ.mo:=congrArg (fun m:MD=>m.1) h.1
def k02 (b1 b2:List UInt8):Int⊕MS->Int⊕MS->Prop
 | .inl e,.inl e'=>e=e'
 | .inr σ,.inr τ=>Sm σ τ/\σ.bk=b1/\τ.bk=b2
 | _,_=>False
theorem qaz {σ τ:MS} {b1 b2:List UInt8} (h:Sm σ τ) (h1:σ.bk=b1) (h2:τ.bk=b2) (c:Cl) (st st':Int) (w w':Lx.Wd):k02 b1 b2 (q1c σ c st w) (q1c τ c st' w'):=by
 have hc:=h.2 c
 unfold q0x at hc
 unfold q1c
 rw [hc]
 cases (q0c clT c τ.sd).isSome with
 | true=>rfl
 | false =>
  refine ⟨⟨h.1,fun c'=>?_⟩,h1,h2⟩
  have h3:=h.2 c'
  unfold q0x at h3 ⊢
  show (q0c clT c' (q3v clT c _ σ.sd)).isSome=(q0c clT c' (q3v clT c _ τ.sd)).isSome
  rw [qd0,qd0]
  cases eqT clT c' c with
  | true=>rfl
  | false=>exact h3
theorem jl2 : ∀(r r':List Lx.Wd) (w w':Lx.Wd),w.1=w'.1->tx r=tx r'->(r.getLast?.getD w).1=(r'.getLast?.getD w').1
 | [],[],w,w',h,_=>h
 | [],_::_,_,_,_,h=>by cases h
 | _::_,[],_,_,_,h=>by cases h
 | a::r,b::r',w,w',h,e=>by
  obtain ⟨h1,h2⟩:=List.cons.inj e
  rw [List.getLast?_cons,List.getLast?_cons]
  exact jl2 r r' a b h1 h2
theorem jr1 {r r':List Lx.Wd} (h:tx r=tx r'):(r.headD ([],0)).1=(r'.headD ([],0)).1:=by
 cases r<;>cases r'<;>first|rfl|cases h|exact (List.cons.inj h).1
theorem jw5 {σ τ:MS} {b1 b2:List UInt8} (h:Sm σ τ) (h1:σ.bk=b1) (h2:τ.bk=b2) (v:List UInt8) (st st':Int) {ws ws':List Lx.Wd} (hw:tx ws=tx ws'):k02 b1 b2 (qtr σ st v ws) (qtr τ st' v ws'):=by
 obtain ⟨m1,g1,k1,s1,r1,w1,e1,t1⟩:=σ
 obtain ⟨m2,g2,k2,s2,r2,w2,e2,t2⟩:=τ
 have hc:=h.2
 have hm:=h.1
 simp only [MS.md,Prod.mk.injEq] at hm
 obtain ⟨rfl,rfl,rfl,rfl,rfl,rfl⟩:=hm
 cases ws with
 | nil =>
  cases ws' with
  | nil=>rfl
  | cons=>cases hw
 | cons w r =>
  cases ws' with
  | nil=>cases hw
  | cons w' r' =>
   obtain ⟨e0,e9⟩:=List.cons.inj hw
   have e1':=jr1 e9
   have e2':=jl2 r r' w w' e0 e9
   unfold qtr
   simp only [e0,e1',e2']
   split
   ·split
    ·rfl
    ·exact qaz (by exact ⟨rfl,hc⟩) (by exact h1) (by exact h2) _ _ _ _ _
   ·split
    ·split
     ·rfl
     ·exact qaz (by exact ⟨rfl,hc⟩) (by exact h1) (by exact h2) _ _ _ _ _
    ·split
     ·split
      ·rfl
      ·exact qaz (by exact ⟨rfl,hc⟩) (by exact h1) (by exact h2) _ _ _ _ _
     ·split
      ·split
       ·rfl
       ·exact qaz (by exact ⟨rfl,hc⟩) (by exact h1) (by exact h2) _ _ _ _ _
      ·split
       ·split
        ·rfl
        ·split
         ·rfl
         ·exact qaz (by exact ⟨rfl,hc⟩) (by exact h1) (by exact h2) _ _ _ _ _
       ·split
        ·rfl
        ·split
         ·rfl
         ·split
          ·rfl
          ·exact ⟨⟨rfl,hc⟩,h1,h2⟩
theorem jmc {ws ws':List Lx.Wd} (h:tx ws=tx ws'):shp ws=shp ws':=by
 have e : ∀ws:List Lx.Wd,ws.map qts=(tx ws).map fun t=>if qfa t then t else [120]:=fun ws=>by simp [qts,Function.comp_def]
 unfold shp
 rw [e,e,h]
theorem jt2 : ∀{ws ws':List Lx.Wd},tx ws=tx ws'->tx (unm ws)=tx (unm ws')
 | [],[],_=>rfl
 | [],_::_,h=>by cases h
 | _::_,[],h=>by cases h
 | a::r,b::r',h=>by
  obtain ⟨h1,h2⟩:=List.cons.inj h
  have ih:=jt2 h2
  unfold unm at ih ⊢
  rw [List.filter_cons,List.filter_cons,h1]
  split
  ·show a.1::tx _=b.1::tx _
   rw [ih,h1]
  ·exact ih
theorem jbe {σ τ:MS} {b1 b2:List UInt8} (h:Sm σ τ) (h1:σ.bk=b1) (h2:τ.bk=b2) (v:List UInt8) (st st':Int) {ws ws':List Lx.Wd} (hw:tx ws=tx ws'):k02 b1 b2 (q47 σ st v ws) (q47 τ st' v ws'):=by
 unfold q47
 rw [jmc hw]
 split
 ·exact jw5 h h1 h2 v st st' (jt2 hw)
 ·rfl
def RelL:Int⊕MS->Int⊕MS->Prop
 | .inl e,.inl e'=>e=e'
 | .inr σ,.inr τ=>Sm σ τ/\σ.bk=τ.bk
 | _,_=>False
theorem k02.toL {b:List UInt8} {x y:Int⊕MS} (h:k02 b b x y):RelL x y:=by
 cases x<;>cases y
 ·exact h
 ·exact h
 ·exact h
 ·exact ⟨h.1,h.2.1.trans h.2.2.symm⟩
theorem jri {σ τ:MS} (h:Sm σ τ) (hb:σ.bk=τ.bk) (st st':Int) {ws ws':List Lx.Wd} (hw:tx ws=tx ws'):RelL (qav σ st ws) (qav τ st' ws'):=by
 cases ws with
 | nil =>
  cases ws' with
  | nil=>exact ⟨h,hb⟩
  | cons=>cases hw
 | cons w r =>
  cases ws' with
  | nil=>cases hw
  | cons w' r' =>
   obtain ⟨e0,e9⟩:=List.cons.inj hw
   unfold qav
   have q1:=jmc hw
   have q2:=jmc e9
   simp only [q1,q2,hb,e0]
   split
   ·split
    ·exact ⟨⟨h.1,h.2⟩,rfl⟩
    ·exact (jbe h hb rfl _ st st' e9).toL
   ·split
    ·exact ⟨⟨h.1,h.2⟩,rfl⟩
    ·exact (jbe h hb rfl _ st st' hw).toL
inductive Lns:List (List UInt8)->List (List UInt8)->Prop
 | nil:Lns [] []
 | both {a b:List UInt8} {r r':List (List UInt8)} (h:tx (q11 a)=tx (q11 b)) (hr:Lns r r'):Lns (a::r) (b::r')
 | more {b:List UInt8} {r r':List (List UInt8)} (h:q11 b = []) (hr:Lns r r'):Lns r (b::r')
theorem Lns.read {L L':List (List UInt8)} (h:Lns L L') : ∀(i i' st st':Int) (σ τ σ':MS),Sm σ τ->σ.bk=τ.bk->q5t L i st σ = .inr σ'->∃ τ',q5t L' i' st' τ = .inr τ'/\Sm σ' τ'/\σ'.bk=τ'.bk:=by
 induction h with
 | nil=>intro i i' st st' σ τ σ' h1 h2 e;cases e;exact ⟨τ,rfl,h1,h2⟩
 | both h hr ih =>
  intro i i' st st' σ τ σ' h1 h2 e
  have hl:=jri h1 h2 st st' h
  rw [q5t] at e ⊢
  split at e
  ·cases e
  ·rename_i σ1 hs
   rw [hs] at hl
   split
   ·rename_i e' he';rw [he'] at hl;exact absurd hl id
   ·rename_i τ1 ht
    rw [ht] at hl
    exact ih _ _ _ _ _ _ _ hl.1 hl.2 e
 | more h hr ih =>
  intro i i' st st' σ τ σ' h1 h2 e
  rw [q5t,h]
  exact ih _ _ _ _ _ _ _ h1 h2 e
theorem Sm.bk {σ τ:MS} (h:Sm σ τ) (b:List UInt8):Sm σ { τ with bk:=b }:=⟨h.1,h.2⟩
end Go.Proofs.YtapfankgdkdkgaaGreatDoor.AM
namespace Go.Proofs.YtapfankgdkdkgaaGreatDoor.AM
open Go.RowKit
set_option linter.unusedVariables false
set_option linter.unusedSimpArgs false
theorem jff {p:List UInt8} (h:q4w p=true) : ∀c∈p,c=47\/qfk c=true:=by
 have h2:=(qiq h).2
 have h3:(spl 47 [] p).all (fun w=>w.all qfk)=true:=by
  rw [List.all_eq_true] at h2 ⊢
  exact fun w hw=>jdw (h2 w hw)
 exact ((qqj 47 qfk p []).1 h3).2
def word (w:List UInt8):Prop:=plain w/\qfa w=false
theorem j99 {w:List UInt8} (h:plain w) (h2:w ≠ [61,62]):word w:=by
 refine ⟨h,?_⟩
 cases hm:qfa w with
 | false=>rfl
 | true =>
  exfalso
  rcases qkk hm with e|e|e|e|e|e
  ·exact h2 e
  all_goals (rw [e] at h;exact absurd (h.2.2 _ (List.mem_cons_self ..)) (by decide))
theorem qq3 {p:List UInt8} (h:q4w p=true):word p:=j99 (qdh h) fun e=>by
 rcases jff h 61 (by rw [e];decide) with h1|h1
 ·exact absurd h1 (by decide)
 ·exact absurd h1 (by decide)
theorem qax {p:List UInt8} (h:okS p=true):word p:=qq3 (qka h).1
theorem q3z {v:VD} (h:q10 v=true):word (q0n v):=j99 (q5z h) fun e=>by
 unfold q0n at e
 rw [if_pos h] at e
 exact absurd (List.cons.inj e).1 (by decide)
theorem j4l {x:List UInt8} (h:qdu x=true):word x:=j99 (qde h) fun e=>by
 obtain ⟨a,b,e1,ha,hb⟩:=qj7 h
 rw [e] at e1
 have ha:=qg8 ha
 cases a with
 | nil=>exact ha.2.1 rfl
 | cons d a =>
  have h1:=ha.1 d (List.mem_cons_self ..)
  rw [<-(List.cons.inj e1).1] at h1
  exact absurd h1 (by decide)
theorem q53 {p:List UInt8} {v:VD} (h:q8l p v=true):okS p=true/\q10 v=true:=by
 unfold q8l at h
 simp only [Bool.and_eq_true] at h
 exact ⟨h.1,h.2.1⟩
theorem qke {v:VD} (h:q10 v=true):q0v (q0n v)=(v,true):=jrq h rfl
theorem qlc {ws:List Lx.Wd} {L:List (List UInt8)} (h:tx ws=L):shp ws=Lib.join (L.map fun t=>if qfa t then t else [120]) [32]:=by
 unfold shp
 rw [<-h]
 congr 1
 simp [qts,Function.comp_def]
theorem tx1 {ws:List Lx.Wd} {a:List UInt8} (h:tx ws = [a]) : ∃ w,ws = [w]/\w.1=a:=by
 match ws,h with
 | [w],h=>exact ⟨w,rfl,(List.cons.inj h).1⟩
theorem tx2 {ws:List Lx.Wd} {a b:List UInt8} (h:tx ws = [a,b]) : ∃ w x,ws = [w,x]/\w.1=a/\x.1=b:=by
 match ws,h with
 | [w,x],h=>exact ⟨w,x,rfl,(List.cons.inj h).1,(List.cons.inj (List.cons.inj h).2).1⟩
theorem qs4 {ws:List Lx.Wd} {L:List (List UInt8)} (h:tx ws=L):tx (unm ws)=L.filter fun t=>!qfa t:=by
 rw [<-h,List.filter_map]
 rfl
theorem jdn {p:List UInt8} {v:VD} (h:q8l p v=true):j6f p (q0n v) = .inr (p,v):=by
 obtain ⟨h1,h2⟩:=q53 h
 unfold j6f
 rw [qke h2,h1,h]
 rfl
theorem jpu {σ:MS} {st:Int} {ws:List Lx.Wd} {p:List UInt8} (h:tx ws = [p]) (hp:okS p=true) : ∃ x:Lx.Wd,x.1=p/\q47 σ st qaw ws=q1c { σ with mo:=p } (qaw,([],v0)) st x:=by
 have hw:=(qax hp).2
 obtain ⟨w,e,e1⟩:=tx1 (show tx (unm ws) = [p] by rw [qs4 h];simp [hw])
 refine ⟨w,e1,?_⟩
 unfold q47
 rw [qlc h,if_pos (by simp [hw,q1q,Lib.join_one]),e]
 show (if okS w.1=false then _ else q1c { σ with mo:=w.1 } (qaw,([],v0)) st w)=_
 rw [e1,hp];rfl
theorem jud {σ:MS} {st:Int} {ws:List Lx.Wd} {p:List UInt8} (h:tx ws = [p]) (hp:qdu p=true) : ∃ x:Lx.Wd,x.1=p/\q47 σ st kGo ws=q1c { σ with go:=p } (kGo,([],v0)) st x:=by
 have hw:=(j4l hp).2
 obtain ⟨w,e,e1⟩:=tx1 (show tx (unm ws) = [p] by rw [qs4 h];simp [hw])
 refine ⟨w,e1,?_⟩
 unfold q47
 rw [qlc h,if_pos (by simp [hw,q1q,Lib.join_one]),e]
 show (if qdu w.1=false then _ else q1c { σ with go:=w.1 } (kGo,([],v0)) st w)=_
 rw [e1,hp];rfl
theorem j6w:Lib.join [[(120:UInt8)],[120]] [32] = [120,32,120]:=by decide
theorem jrg {σ:MS} {st:Int} {ws:List Lx.Wd} {p:List UInt8} {v:VD} (h:tx ws = [p,q0n v]) (hf:q8l p v=true) : ∃ x:Lx.Wd,x.1=q0n v/\q47 σ st q8y ws=q1c { σ with rq:=σ.rq ++ [(p,v)] } (q8y,(p,v0)) st x:=by
 have hw:=(qax (q53 hf).1).2
 have hv:=(q3z (q53 hf).2).2
 obtain ⟨w,x,e,e1,e2⟩:=tx2 (show tx (unm ws) = [p,q0n v] by rw [qs4 h];simp [hw,hv])
 refine ⟨x,e2,?_⟩
 unfold q47
 rw [qlc h,if_pos (by simp [hw,hv,q1q,j6w]),e]
 show (match j6f w.1 x.1 with
   | .inl e=>(Sum.inl e:Int⊕MS)
   | .inr q=>q1c { σ with rq:=σ.rq ++ [q] } (q8y,(q.1,v0)) st x)=_
 rw [e1,e2,jdn hf]
theorem jpl {σ:MS} {st:Int} {ws:List Lx.Wd} {p:List UInt8} {v:VD} (h:tx ws = [p,q0n v]) (hf:q8l p v=true) : ∃ x:Lx.Wd,x.1=q0n v/\q47 σ st qgb ws=q1c { σ with ex:=σ.ex ++ [(p,v)] } (qgb,(p,v)) st x:=by
 have hw:=(qax (q53 hf).1).2
 have hv:=(q3z (q53 hf).2).2
 obtain ⟨w,x,e,e1,e2⟩:=tx2 (show tx (unm ws) = [p,q0n v] by rw [qs4 h];simp [hw,hv])
 refine ⟨x,e2,?_⟩
 unfold q47
 rw [qlc h,if_pos (by simp [hw,hv,q1q,j6w]),e]
 show (match j6f w.1 x.1 with
   | .inl e=>(Sum.inl e:Int⊕MS)
   | .inr q=>q1c { σ with ex:=σ.ex ++ [q] } (qgb,(q.1,q.2)) st x)=_
 rw [e1,e2,jdn hf]
theorem jol {σ:MS} {st:Int} {ws:List Lx.Wd} {p d:List UInt8} (h:tx ws = [p,[61,62],d]) (hp:okS p=true) (hd:q4w d=true) : ∃ x:Lx.Wd,x.1=d/\q47 σ st qfn ws=q1c { σ with sw:=σ.sw ++ [(p,d)] } (qfn,(p,v0)) st x:=by
 have hw:=(qax hp).2
 have hv:=(qq3 hd).2
 obtain ⟨w,x,e,e1,e2⟩:=tx2 (show tx (unm ws) = [p,d] by rw [qs4 h];simp [hw,hv,show qfa [61,62]=true from by decide])
 refine ⟨x,e2,?_⟩
 unfold q47
 rw [qlc h,if_pos (by simp [hw,hv,q1q,show qfa [61,62]=true from by decide,show Lib.join [[(120:UInt8)],[61,62],[120]] [32] = [120,32,61,62,32,120] from by decide]),e]
 show (if okS w.1=false then _ else if q4w x.1=false then _ else q1c { σ with sw:=σ.sw ++ [(w.1,x.1)] } (qfn,(w.1,v0)) st x)=_
 rw [e1,e2,hp,hd];rfl
theorem jrm {σ:MS} {st:Int} {ws:List Lx.Wd} {a b:VD} (h:tx ws=if a=b then [q0n a] else [[91],q0n a,[44],q0n b,[93]]) (ha:q10 a=true) (hb:q10 b=true) (hc:jo7 a b<=0):q47 σ st qvt ws = .inr { σ with rt:=σ.rt ++ [jo8 a b] }:=by
 have hw:=(q3z ha).2
 have hv:=(q3z hb).2
 have hu : ∃ w r,unm ws=w::r/\w.1=q0n a/\(r.getLast?.getD w).1=q0n b/\shp ws∈q1q qvt:=by
  by_cases he:a=b
  ·rw [if_pos he] at h
   obtain ⟨w,e,e1⟩:=tx1 (show tx (unm ws) = [q0n a] by rw [qs4 h];simp [hw])
   exact ⟨w,[],e,e1,by rw [<-he];exact e1,by rw [qlc h];simp [hw,q1q,Lib.join_one]⟩
  ·rw [if_neg he] at h
   obtain ⟨w,x,e,e1,e2⟩:=tx2 (show tx (unm ws) = [q0n a,q0n b] by rw [qs4 h];simp [hw,hv,show qfa [91]=true from by decide,show qfa [44]=true from by decide,show qfa [93]=true from by decide])
   exact ⟨w,[x],e,e1,e2,by rw [qlc h];simp [hw,hv,q1q,show qfa [91]=true from by decide,show qfa [44]=true from by decide,show qfa [93]=true from by decide,show Lib.join [[(91:UInt8)],[120],[44],[120],[93]] [32] = [91,32,120,32,44,32,120,32,93] from by decide]⟩
 obtain ⟨w,r,e,e1,e2,e3⟩:=hu
 unfold q47
 rw [if_pos e3,e]
 show (if (q0v w.1).2=false then (Sum.inl 7:Int⊕MS) else if (q0v ((r.getLast?.getD w).1)).2=false then .inl 7
  else if 0<jo7 (q0v w.1).1 (q0v ((r.getLast?.getD w).1)).1 then .inl 7 else .inr { σ with rt:=σ.rt ++ [jo8 (q0v w.1).1 (q0v ((r.getLast?.getD w).1)).1] })=_
 rw [e1,e2,qke ha,qke hb]
 simp only [Bool.true_eq_false,if_false]
 rw [if_neg (by omega)]
theorem qfh {σ:MS} {c:Cl} {st:Int} {w:Lx.Wd} (h:q0x σ c=false):q1c σ c st w = .inr { σ with sd:=q3v clT c (ps st w) σ.sd }:=by
 unfold q0x at h
 unfold q1c
 rw [h];rfl
theorem qdg {σ:MS} {st:Int} {ws:List Lx.Wd} {v:List UInt8} {L:List (List UInt8)} (h:tx ws=v::L) (hb:σ.bk = []) (hs:Lib.join (L.map fun t=>if qfa t then t else [120]) [32] ≠ [40]) : ∃ ws',tx ws'=L/\qav σ st ws=q47 σ st v ws':=by
 cases ws with
 | nil=>cases h
 | cons w r =>
  obtain ⟨h1,h2⟩:=List.cons.inj h
  refine ⟨r,h2,?_⟩
  unfold qav
  simp only [hb,if_true,h1]
  rw [if_neg (fun hh=>hs (by rw [<-qlc h2];exact hh.2))]
end Go.Proofs.YtapfankgdkdkgaaGreatDoor.AM
