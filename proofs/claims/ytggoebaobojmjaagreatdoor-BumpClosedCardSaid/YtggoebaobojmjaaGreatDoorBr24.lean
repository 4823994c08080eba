
import Derived.Test.YtggoebaobojmjaaGreatDoorBr23
import Derived.Test.YtggoebaobojmjaaGreatDoorBr19
namespace Go.Proofs
open Go.RowKit Go.Shelf Go.Lib
attribute [local go_sem] Oper.semAt_some
set_option linter.unusedVariables false
set_option linter.unusedSimpArgs false
namespace YtggoebaobojmjaaGreatDoor.AM
theorem qn0 : ∀(l:List q9x) (k j:Nat) (hk:k<l.length),j<13->(q2h l)[k*13+j]? = (rls l[k]).toList[j]?
 | f::l,0,j,_,hj=>by
  show ((rls f).toList++q2h l)[0*13+j]? = _
  rw [Nat.zero_mul,Nat.zero_add,List.getElem?_append_left (by show j<13;exact hj)]
  rfl
 | f::l,k+1,j,hk,hj=>by
  have:=qn0 l k j (by simpa using hk) hj
  show ((rls f).toList++q2h l)[(k+1)*13+j]? = _
  have e:(rls f).toList.length=13:=rfl
  rw [List.getElem?_append_right (by omega),e,show (k+1)*13+j - 13=k*13+j from by omega,this]
  rfl
theorem jrk (r:q9x):q03 k0m r=(rls r).toList.map Dat.v:=rfl
theorem jx5 (r:q9x) : ∀u∈(rls r).toList,u.oneCell'=true:=fun u hu=>by
 simp [rls] at hu
 rcases hu with rfl|rfl|rfl|rfl|rfl|rfl|rfl|rfl|rfl|rfl|rfl|rfl|rfl<;>rfl
theorem jt1 {w:World} {B:Nat} {v:Value} {l:List q9x} {Pc:Nat->Nat->Prop} (h:w.ownsRow B 30 13 v l.length (q2h l)) (hP : ∀b o,B<=b->b<w.heap.size->Pc b o):DatRep Pc w v (.lst 13 (l.map (q03 k0m))):=by
 rcases h.2 with ⟨rfl,h0⟩|⟨g,cap,cur,rfl,hb,hg,hn,hc,hs,ht⟩
 ·have:l = []:=List.eq_nil_of_length_eq_zero h0
  subst this
  exact DatRep.lst none 0 0 13 [] 0 0 (fun _ _=>undef) rfl (Nat.le_refl _) (by unfold maxLen;omega) (fun x hx=>by cases hx) (fun h=>by cases h) (fun k j hk=>by cases hk) (fun k j hk=>by cases hk)
 ·refine DatRep.lst (some ⟨g,0,none⟩) l.length cap 13 _ g 0 (fun k j=>(q2h l)[k*13+j]?.getD undef) (by simp) hn hc (fun x hx=>by obtain ⟨f,_,rfl⟩:=List.mem_map.1 hx;rfl) (fun _=>rfl) (fun k j hk hj=>?_) (fun k j hk hj=>?_)
  ·have hk':k<l.length:=by simpa using hk
   have hlt:k*13+j<(q2h l).length:=by rw [qw9];omega
   refine ⟨hP _ _ hb (q0q hg),?_,?_⟩
   ·rw [cell_of_row w g _ cur _ _ hg,List.getElem?_eq_getElem hlt]
    have:cur.toList[k*13+j]? = some (q2h l)[k*13+j]:=by
     have e:(cur.toList.take (l.length*13))[k*13+j]? = some (q2h l)[k*13+j]:=by rw [ht,List.getElem?_eq_getElem hlt]
     rw [List.getElem?_take] at e
     split at e
     ·exact e
     ·cases e
    rw [Nat.zero_add]
    simpa using this
   ·rw [qn0 l k j hk' hj]
    have hj2:j<(rls l[k]).toList.length:=hj
    rw [List.getElem?_eq_getElem hj2]
    exact jx5 _ _ (List.getElem_mem hj2)
  ·have hk':k<l.length:=by simpa using hk
   simp only [List.getElem_map] at hj ⊢
   have hj2:j<(rls l[k]).toList.length:=hj
   rw [qn0 l k j hk' hj,List.getElem?_eq_getElem hj2]
   have e:(q03 k0m l[k])[j]=Dat.v ((rls l[k]).toList[j]):=by
    have e1:(q03 k0m l[k])[j]? = some (Dat.v ((rls l[k]).toList[j])):=by rw [jrk,List.getElem?_map,List.getElem?_eq_getElem hj2];rfl
    rw [List.getElem?_eq_getElem hj] at e1
    exact Option.some.inj e1
   have h9:DatRep Pc w ((some (rls l[k]).toList[j]).getD undef) (Dat.v ((rls l[k]).toList[j])):=.v _
   rw [<-e] at h9
   exact h9
def qcc:FC:={ f:=15,args:=[.one (.c (.d (.lst jub))),.one (.c (.d (.lst jz5))),.one (.c (.d (.lst (.int .i64)))),.one (.c (.d (.lst WT18)))],res:=.tup [.c (.d (.lst k0m)),.c (.d (.int .i64))],F:=fun p=>q1o p.1 p.2.1 p.2.2.1 p.2.2.2 }
theorem qnt:q0g Inv Tryz.prog qcc:=fun G hG=>⟨⟨by kernel_rfl,fun (p:List qyr×(List j7q×(List Int×List (List UInt8×Int)))) r h=>by
 obtain ⟨ms,tg,ch,wn⟩:=p
 have h':q1o ms tg ch wn=some r:=h
 intro Pc w vs hg hlt hv
 obtain ⟨vl⟩:=vs
 match vl,hv with
 | [vM,vT,vC,vW],⟨h1,h2,h3,h4,_⟩ =>
  refine (qvd (Pc:=Pc) w vM vT vC vW ms tg ch wn r (hG.im w hg) hlt h1 h2 h3 h4 h').mono ?_
  rintro e w' ⟨v',rfl,hown,hb⟩
  exact ⟨_,fun b o=>Pc b o\/(w.heap.size<=b/\b<w'.heap.size),rfl,hb,fun b o hp=>Or.inl hp,fun b o hp=>hp,#[v',.int .i64 r.2],rfl,jt1 hown (fun b o h1 h2=>Or.inr ⟨h1,h2⟩),q06 (σ:=q2y) (.int .i64 r.2),trivial⟩⟩,rfl⟩
end YtggoebaobojmjaaGreatDoor.AM
end Go.Proofs
namespace Go.Proofs.YtggoebaobojmjaaGreatDoor.AM
open Go.RowKit Gr
set_option linter.unusedVariables false
set_option linter.unusedSimpArgs false
theorem j7z (n:Nat) (p:List UInt8) (hp:p.length<=1000) (hn:2000<=n):qjq n p=some (qnj p):=by
 unfold qjq qnj
 rw [qh8 n p (by omega) (by omega),Option.bind_some]
 cases h:(q1e p).2.2 with
 | false=>rfl
 | true =>
  rw [if_pos rfl]
  by_cases c:(q1e p).2.1=0
  ·rw [if_pos c,decide_eq_true c];rfl
  ·rw [if_neg c,decide_eq_false c];rfl
theorem qt9 (n:Nat) (k:Int):qhq n k=some (jh8 k):=by
 unfold qhq jh8
 cases decide (1<=k)<;>rfl
theorem j7t (n:Nat) (p:List UInt8) (v:VD) (k:Int) (hp:p.length<=1000) (hn:2000<=n):qie n p v k=some (q20 p v k):=by
 unfold qie q20
 rw [q7c n v (by omega),Option.bind_some,jiu n v k (by omega),Option.bind_some]
 cases q1f v with
 | false=>rfl
 | true =>
  rw [Bool.not_true,cond_false,if_pos rfl]
  by_cases c:(qm7 v k).2=0
  ·rw [if_pos c,decide_eq_true c,Bool.not_true,cond_false,ji0 n p _ (by omega) (by omega) (by omega),Option.bind_some]
   cases qp1 p (qm7 v k).1<;>rfl
  ·rw [if_neg c,decide_eq_false c];rfl
theorem jgk (n:Nat) (p:List UInt8) (l:List TgD) (k:Int) (hp:p.length<=1000) (hl:l.length<=1000000) (hn:1000000<n):qm1 n p l k=some (q9e p l k):=by
 unfold qm1 q9e
 rw [j7z n p hp (by omega),Option.bind_some]
 cases hf:(qnj p).2 with
 | false=>rfl
 | true =>
  rw [Bool.not_true,cond_false,if_pos rfl,qt9,Option.bind_some]
  cases jh8 k with
  | false=>rfl
  | true =>
   rw [Bool.not_true,cond_false,if_pos rfl,j7n n (by omega) l p (by omega) (by omega),Option.bind_some]
   cases q1b p none l with
   | none=>rfl
   | some t =>
    show (qie n p (tV t) k).bind _=_
    rw [j7t n p _ k hp (by omega),Option.bind_some]
    show _=some (if (q20 p (tV t) k).2=0 then _ else _)
    by_cases c:(q20 p (tV t) k).2=0
    ·rw [if_pos c,decide_eq_true c];rfl
    ·rw [if_neg c,decide_eq_false c];rfl
theorem jcg {l:List MD} {p:List UInt8} (h:q3y l p=none):qyp l p = -1:=by unfold qyp;rw [h]
theorem jc9 {l:List MD} {p:List UInt8} {i:Nat} (h:q3y l p=some i):qyp l p=(i:Int):=by unfold qyp;rw [h]
theorem qx8 (n:Nat) (l:List MD) (p:List UInt8) (k:Int) (hl:l.length<=1000) : ∀m j:Nat,j<=l.length->l.length - j<m ->
  qas n m l ((l.length:Nat):Int) (j:Int) p k=some (match plc p j (l.drop j) with
   | some i=>Sum.inl (((i:Int),()),(((p,k),()),()))
   | none=>Sum.inr ((),(((p,k),()),())))
 | 0,j,_,h=>absurd h (Nat.not_lt_zero _)
 | m+1,j,hj,h=>by
  rw [qon]
  unfold j1c
  by_cases c:j<l.length
  ·rw [decide_eq_true (by omega),cond_true,q0k c,Option.bind_some]
   unfold jc8
   rw [Option.bind_some,List.drop_eq_getElem_cons c,plc]
   by_cases e:l[j].2.1=p
   ·rw [decide_eq_true e,cond_true,if_pos e]
   ·rw [decide_eq_false e,cond_false,if_neg e,q0f,q04 (by omega)]
    exact qx8 n l p k hl m (j+1) (by omega) (by omega)
  ·obtain rfl:j=l.length:=by omega
   rw [decide_eq_false (by omega),cond_false,List.drop_length];rfl
theorem jj9 (n:Nat) (l:List MD) (p:List UInt8) (k:Int) (hl:l.length<=1000) (hn:1000<n):j0u n l () p k=some (qyp l p,(((p,k),()),())):=by
 have h:=qx8 n l p k hl n 0 (Nat.zero_le _) (by omega)
 unfold j0u qyp q3y
 rw [show (0:Int)=((0:Nat):Int) from rfl,h,Option.bind_some,List.drop_zero]
 cases plc p 0 l<;>rfl
abbrev I12T:Type:=Int×(Int×(Int×(Int×(Int×(Int×(Int×(Int×(Int×(Int×(Int×Int))))))))))
def Q12 (M:List Int):I12T:=(M.getD 0 0,(M.getD 1 0,(M.getD 2 0,(M.getD 3 0,(M.getD 4 0,(M.getD 5 0,(M.getD 6 0,(M.getD 7 0,(M.getD 8 0,(M.getD 9 0,(M.getD 10 0,M.getD 11 0)))))))))))
def Z12:I12T:=(0,(0,(0,(0,(0,(0,(0,(0,(0,(0,(0,0)))))))))))
def jyw {β:Type} (f:Int->Int->Int->Int->Int->Int->Int->Int->Int->Int->Int->Int->β) (M:List Int):β :=
 f (M.getD 0 0) (M.getD 1 0) (M.getD 2 0) (M.getD 3 0) (M.getD 4 0) (M.getD 5 0) (M.getD 6 0) (M.getD 7 0) (M.getD 8 0) (M.getD 9 0) (M.getD 10 0) (M.getD 11 0)
theorem jow {M:List Int} (hM:M.length=12) : [M.getD 0 0,M.getD 1 0,M.getD 2 0,M.getD 3 0,M.getD 4 0,M.getD 5 0,M.getD 6 0,M.getD 7 0,M.getD 8 0,M.getD 9 0,M.getD 10 0,M.getD 11 0]=M:=by
 match M,hM with
 | [_,_,_,_,_,_,_,_,_,_,_,_],_=>rfl
theorem k1j {M:List Int} {k:Nat} (hk:k<M.length):nth M k=some (M.getD k 0):=by
 rw [jmz hk,List.getD_eq_getElem?_getD,List.getElem?_eq_getElem hk];rfl
theorem q38 {M:List Int} {j k:Nat} (y:Int) (hk:k<M.length):q29 k (j:Int) y (M.getD k 0)=(M.set j y).getD k 0:=by
 unfold q29
 rw [Int.toNat_natCast,List.getD_eq_getElem?_getD,List.getD_eq_getElem?_getD,List.getElem?_set]
 by_cases h:k=j
 ·subst h
  rw [Nat.beq_refl,cond_true,if_pos rfl,if_pos hk];rfl
 ·have hb:Nat.beq k j=false:=by
   cases hb:Nat.beq k j with
   | false=>rfl
   | true=>exact absurd (Nat.eq_of_beq_eq_true hb) h
  rw [hb,cond_false,if_neg (fun e=>h e.symm)]
theorem k01 {β:Type} {M:List Int} {j:Nat} (y:Int) (hM:M.length=12) (f:Int->Int->Int->Int->Int->Int->Int->Int->Int->Int->Int->Int->β) :
  f (q29 0 (j:Int) y (M.getD 0 0)) (q29 1 (j:Int) y (M.getD 1 0)) (q29 2 (j:Int) y (M.getD 2 0)) (q29 3 (j:Int) y (M.getD 3 0)) (q29 4 (j:Int) y (M.getD 4 0)) (q29 5 (j:Int) y (M.getD 5 0)) (q29 6 (j:Int) y (M.getD 6 0)) (q29 7 (j:Int) y (M.getD 7 0)) (q29 8 (j:Int) y (M.getD 8 0)) (q29 9 (j:Int) y (M.getD 9 0)) (q29 10 (j:Int) y (M.getD 10 0)) (q29 11 (j:Int) y (M.getD 11 0))=jyw f (M.set j y):=by
 unfold jyw
 rw [q38 _ (by omega),q38 _ (by omega),q38 _ (by omega),q38 _ (by omega),q38 _ (by omega),q38 _ (by omega),q38 _ (by omega),q38 _ (by omega),q38 _ (by omega),q38 _ (by omega),q38 _ (by omega),q38 _ (by omega)]
theorem qoa (n:Nat) (ms:List MD) (wn:List WnD) (hms:ms.length<=12) (hwn:wn.length<=1000) (hn:1000<n) : ∀m j:Nat,j<=wn.length->wn.length - j<m->WOk ms (wn.take j) ->
  jyw (q2s n m ms wn ((wn.length:Nat):Int) (j:Int) 0 0 0 0 0 0 0 0 0 0 0 0) (lvS ms (wn.take j))=some (if q5j ms (wn.take j) (wn.drop j)=0
   then Sum.inr (((),((),())),((Z12,(Q12 (lvS ms wn),())),()))
   else Sum.inl (((),(q5j ms (wn.take j) (wn.drop j),())),((Z12,()),())))
 | 0,j,_,h,_=>absurd h (Nat.not_lt_zero _)
 | m+1,j,hj,h,hok=>by
  unfold jyw
  rw [qjn]
  unfold qmb
  by_cases c:j<wn.length
  ·have htk:wn.take (j+1)=wn.take j ++ [wn[j]]:=List.take_succ_eq_append_getElem c
   have ih:=qoa n ms wn hms hwn hn m (j+1) (by omega) (by omega)
   rw [htk] at ih
   rw [decide_eq_true (by omega),cond_true,q0k c,Option.bind_some,jj9 n ms _ _ (by omega) hn,Option.bind_some,List.drop_eq_getElem_cons c,q5j]
   generalize wn[j]=x at ih ⊢
   cases hp:q3y ms x.1 with
   | none =>
    rw [jcg hp];rfl
   | some i =>
    obtain ⟨hi,hpi⟩:=q6p hp
    rw [jc9 hp]
    show (bif decide ((i:Int)<0) then _ else _)=_
    rw [decide_eq_false (by omega),cond_false,qt9,Option.bind_some,if_pos (Option.isSome_some)]
    cases hlv:jh8 x.2 with
    | false =>
     rw [if_neg Bool.false_ne_true];rfl
    | true =>
     rw [if_pos rfl,Bool.not_true,cond_false]
     show (bif inA (i:Int) 12 then _ else none)=_
     rw [qd6 (by omega),cond_true,jow (qbd _ _),Int.toNat_natCast,k1j (by rw [qbd];omega),Option.bind_some,jb6 (by omega),j12 hp]
     have hz:=j5z (w:=wn.take j) (f:=fun y=>decide (y.1=x.1)) fun y hy=>(hok y hy).2
     cases ha:(wn.take j).any (fun y=>decide (y.1=x.1)) with
     | true =>
      rw [ha] at hz
      rw [decide_eq_false (fun e=>by have:=hz.1 e;cases this),if_pos rfl];rfl
     | false =>
      rw [decide_eq_true (hz.2 ha),if_neg Bool.false_ne_true,Bool.not_true,cond_false,cond_true,cond_true,q0f,q04 (by omega)]
      have hx:WOk ms (wn.take j ++ [x]):=fun y hy=>by
       rcases List.mem_append.1 hy with hy|hy
       ·exact hok y hy
       ·rw [List.mem_singleton] at hy;subst hy;exact ⟨by rw [hp];rfl,hlv⟩
      refine (k01 x.2 (qbd _ _) (q2s n m ms wn ((wn.length:Nat):Int) ((j+1:Nat):Int) 0 0 0 0 0 0 0 0 0 0 0 0)).trans ?_
      rw [jtz hp (by omega) ha]
      exact ih hx
  ·obtain rfl:j=wn.length:=by omega
   rw [decide_eq_false (by omega),cond_false,List.drop_length,List.take_length];rfl
theorem jxx (ms:List MD):lvS ms [] = [0,0,0,0,0,0,0,0,0,0,0,0]:=rfl
theorem j7m (n:Nat) (ms:List MD) (wn:List WnD) (hms:ms.length<=12) (hwn:wn.length<=1000) (hn:1000<n):qce n ms wn=some (if q5j ms [] wn=0 then (Q12 (lvS ms wn),0) else (Z12,q5j ms [] wn)):=by
 have h:=qoa n ms wn hms hwn hn n 0 (Nat.zero_le _) (by omega) (fun x hx=>by cases hx)
 rw [List.take_zero,List.drop_zero,jxx] at h
 have h':q2s n n ms wn ((wn.length:Nat):Int) 0 0 0 0 0 0 0 0 0 0 0 0 0 0 0 0 0 0 0 0 0 0 0 0 0=_:=h
 unfold qce
 rw [h',Option.bind_some]
 by_cases c:q5j ms [] wn=0
 ·rw [if_pos c,if_pos c];rfl
 ·rw [if_neg c,if_neg c];rfl
theorem qbx (n:Nat) (M:List Int) (hM:M.length=12) : ∀m j:Nat,∀acc:List Int,acc.length<=j->j<=12->12 - j<m ->
  jyw (q3h n m) M (j:Int) acc=some (((),()),((),(acc++iL ((List.range' j (12 - j)).filter fun i=>!decide (M.getD i 0=0)),())))
 | 0,j,_,_,_,h=>absurd h (Nat.not_lt_zero _)
 | m+1,j,acc,ha,hj,h=>by
  unfold jyw
  rw [qi0]
  unfold qkq
  by_cases c:j<12
  ·obtain ⟨k,hk⟩ : ∃ k,12 - j=k+1:=⟨12 - j - 1,by omega⟩
   have hk':12 - (j+1)=k:=by omega
   have hx:q0x M (j:Int)=some (M.getD j 0):=by
    rw [q0k (by omega),List.getD_eq_getElem?_getD,List.getElem?_eq_getElem (by omega)];rfl
   rw [decide_eq_true (by omega),cond_true,jow hM,hx,Option.bind_some,hk,List.range'_succ,List.filter_cons]
   cases hz:decide (M.getD j 0=0) with
   | true =>
    rw [Bool.not_true,cond_false,if_neg Bool.false_ne_true,q0f,q04 (by omega)]
    refine (qbx n M hM m (j+1) _ (by omega) (by omega) (by omega)).trans ?_
    rw [hk']
   | false =>
    rw [Bool.not_false,cond_true,if_pos rfl,qf4 (by simp;omega),Option.bind_some,q0f,q04 (by omega)]
    refine (qbx n M hM m (j+1) _ (by simp;omega) (by omega) (by omega)).trans ?_
    rw [hk']
    simp [iL]
  ·obtain rfl:j=12:=by omega
   rw [decide_eq_false (by omega),cond_false,Nat.sub_self]
   simp [iL]
theorem j2y (n:Nat) (ms:List MD) (wn:List WnD) (hn:1000<n):q9n n (Q12 (lvS ms wn))=some (iL (plS ms wn)):=by
 have h:=qbx n (lvS ms wn) (qbd _ _) n 0 [] (Nat.le_refl _) (Nat.zero_le _) (by omega)
 unfold q9n
 have h':q3h n n (Q12 (lvS ms wn)).1 (Q12 (lvS ms wn)).2.1 (Q12 (lvS ms wn)).2.2.1 (Q12 (lvS ms wn)).2.2.2.1 (Q12 (lvS ms wn)).2.2.2.2.1 (Q12 (lvS ms wn)).2.2.2.2.2.1 (Q12 (lvS ms wn)).2.2.2.2.2.2.1 (Q12 (lvS ms wn)).2.2.2.2.2.2.2.1 (Q12 (lvS ms wn)).2.2.2.2.2.2.2.2.1 (Q12 (lvS ms wn)).2.2.2.2.2.2.2.2.2.1 (Q12 (lvS ms wn)).2.2.2.2.2.2.2.2.2.2.1 (Q12 (lvS ms wn)).2.2.2.2.2.2.2.2.2.2.2 0 []=_:=h
 rw [h',Option.bind_some,List.nil_append,Nat.sub_zero,<-List.range_eq_range']
 unfold plS
 rw [List.filter_congr fun i hi=>by rw [jb6 (List.mem_range.1 hi)]]
theorem jrw (n:Nat) (ms:List MD) (wn:List WnD) (k:Nat) (hk:k<12):jq0 n (Q12 (lvS ms wn)) (k:Int)=some (max (lvl ms wn k) 1):=by
 unfold jq0
 rw [qd6 hk,cond_true]
 show (nth [(lvS ms wn).getD 0 0,(lvS ms wn).getD 1 0,(lvS ms wn).getD 2 0,(lvS ms wn).getD 3 0,(lvS ms wn).getD 4 0,(lvS ms wn).getD 5 0,(lvS ms wn).getD 6 0,(lvS ms wn).getD 7 0,(lvS ms wn).getD 8 0,(lvS ms wn).getD 9 0,(lvS ms wn).getD 10 0,(lvS ms wn).getD 11 0] _).bind _=_
 rw [jow (qbd _ _),Int.toNat_natCast,k1j (by rw [qbd];omega),Option.bind_some,jb6 hk]
 rfl
theorem j4a (n:Nat) (a b:List Int) (ha:a.length<=1000) (hb:b.length<=1000) (hn:10<n):qcy n [a,b]=some (a++b):=by
 obtain ⟨m,hm⟩ : ∃ m,n=m+1+1+1:=⟨n - 3,by omega⟩
 have h0:q19 n n [a,b] 0 [a,b] 2 0=some (([a,b],(((a.length:Int)+(b.length:Int)),())),((),())):=by
  conv=>lhs;rw [show q19 n n=q19 n (m+1+1+1) by rw [hm]]
  rw [q3q];unfold q92
  rw [decide_eq_true (by decide),cond_true,show q0x [a,b] (0:Int)=some a from rfl,Option.bind_some,q0f,wrap64 (by omega) (by omega),decide_eq_false (by omega),cond_false]
  show q19 n (m+1+1) [a,b] _ [a,b] 2 1=_
  rw [q3q];unfold q92
  rw [decide_eq_true (by decide),cond_true,show q0x [a,b] (1:Int)=some b from rfl,Option.bind_some,q0f,wrap64 (by omega) (by omega),decide_eq_false (by omega),cond_false]
  show q19 n (m+1) [a,b] _ [a,b] 2 2=_
  rw [q3q];unfold q92
  rw [Int.zero_add];rfl
 have h1:q1a n n [a,b] 2 0 []=some (((),()),((),(a++b,()))):=by
  conv=>lhs;rw [show q1a n n=q1a n (m+1+1+1) by rw [hm]]
  rw [q41];unfold q95
  rw [decide_eq_true (by decide),cond_true,show q0x [a,b] (0:Int)=some a from rfl,Option.bind_some,qf4 (by simp;omega),Option.bind_some,List.nil_append]
  show q1a n (m+1+1) [a,b] 2 1 _=_
  rw [q41];unfold q95
  rw [decide_eq_true (by decide),cond_true,show q0x [a,b] (1:Int)=some b from rfl,Option.bind_some,qf4 (by omega),Option.bind_some]
  show q1a n (m+1) [a,b] 2 2 _=_
  rw [q41];unfold q95
  rfl
 unfold qcy
 show (q19 n n [a,b] 0 [a,b] 2 0).bind _=_
 rw [h0,Option.bind_some]
 show (qll () ((a.length:Int)+(b.length:Int))).bind _=_
 unfold qll
 rw [if_pos (by omega),Option.bind_some]
 show (q1a n n [a,b] 2 0 []).bind _=_
 rw [h1];rfl
theorem qnu (n:Nat) (l:List MD) (hl:SmL l) (hl12:l.length<=12) (hn:100000<n) : ∀m f:Nat,∀O M,Rep M O->Ord l.length (adj l) O->l.length<O.length+f->f<=m ->
  qk9 (q2u n m l) M (iL O)=some ((l,((),())),((),(iL (jyv l.length (adj l) f O),())))
 | 0,f,O,M,hR,hO,hf,hm=>by
  have:=qdy hO.nd hO.lt
  omega
 | m+1,f,O,M,hR,hO,hf,hm=>by
  unfold qk9
  rw [qk7]
  unfold ql7
  have hx:=jjq n l O M hR hl hl12 hn
  unfold qk9 at hx
  rw [hx,Option.bind_some]
  cases f with
  | zero =>
   have:=qdy hO.nd hO.lt
   omega
  | succ f =>
   unfold jyv
   cases hN:nxt l.length (adj l) O with
   | none=>rfl
   | some i =>
    obtain ⟨h1,h2,h3⟩:=jdp hN
    have hOl:=qdy hO.nd hO.lt
    show (bif !true then _ else (bif inA ((i:Nat):Int) 12 then (bif inA ((i:Nat):Int) 12 then (j0w 8 (iL O) ([((i:Nat):Int)]:List Int)).bind _ else none) else none))=_
    rw [Bool.not_true,cond_false,qd6 (by omega),cond_true,cond_true,qf4 (by rw [q3g];simp;omega),Option.bind_some]
    have hap:iL O ++ [((i:Nat):Int)]=iL (O ++ [i]):=by rw [k0j];rfl
    rw [hap]
    refine (jli true hR.1 (fun b1 b2 b3 b4 b5 b6 b7 b8 b9 b10 b11 b12=>q2u n m l b1 b2 b3 b4 b5 b6 b7 b8 b9 b10 b11 b12 (iL (O ++ [i])))).trans ?_
    exact qnu n l hl hl12 hn m f (O ++ [i]) (M.set i true) (hR.snoc (by omega)) (hO.snoc hN) (by rw [List.length_append,List.length_singleton];omega) (by omega)
theorem j2o (n:Nat) (l:List MD) (hl:SmL l) (hn:100000<n):qc3 n l=some (((),(q82 l).2),((),((q82 l).1,()))):=by
 unfold qc3 q82
 rw [quy n l hl hn,Option.bind_some]
 by_cases c:qlx l=0
 ·have h12:=j1y c
  rw [decide_eq_true c,Bool.not_true,cond_false,if_pos c]
  have:=qnu n l hl h12 hn n 13 [] _ jod Ord.nil (by simp;omega) (by omega)
  have h':q2u n n l false false false false false false false false false false false false []=some ((l,((),())),((),(iL (jbe l),()))):=this
  rw [h',Option.bind_some]
  show (bif decide (((iL (jbe l)).length:Int)<((l.length:Nat):Int)) then _ else _)=_
  rw [q3g]
  by_cases hlt:(jbe l).length<l.length
  ·rw [decide_eq_true (by omega),cond_true,if_pos hlt]
  ·rw [decide_eq_false (by omega),cond_false,if_neg hlt]
 ·rw [decide_eq_false c,Bool.not_false,cond_true,if_neg c]
theorem j3q (ms:List MD) (tg:List TgD) (wn:List WnD) (hl:SmL ms) (h12:ms.length<=12) (hc:qlx ms=0) (hw:WOk ms wn) (htg:tg.length<=1000) : ∀(D:List Nat) (acc:List RlD),(∀k∈D,k<ms.length) ->
  jqv ms tg (Q12 (lvS ms wn)) (iL D) acc=some (if jk1 ms tg wn D=0 then (acc++D.map fun k=>(qo0 ms tg wn k).1,0) else ([],jk1 ms tg wn D))
 | [],acc,_=>by
  show some (acc,(0:Int))=some (acc ++ [],(0:Int))
  rw [List.append_nil]
 | k::D,acc,hD=>by
  have hk:=hD k (List.mem_cons_self ..)
  have hp:=(hl.2 _ (List.getElem_mem hk)).1
  show (j0s ms tg (Q12 (lvS ms wn)) (k:Int)).bind _=_
  unfold j0s
  have h1:max (lvl ms wn k) 1=q9j wn ms[k].2.1:=by
   rw [j12 (jg5 hc hk),jzk fun x hx=>(hw x hx).2];rfl
  rw [q0k hk,Option.bind_some,jrw _ ms wn k (by omega),Option.bind_some,h1]
  show (qm1 1000001 ms[k].2.1 tg _).bind _=_
  rw [jgk _ _ tg _ (by omega) (by omega) (by decide),Option.bind_some,jk1,j3d tg wn hk]
  by_cases c:(q9e ms[k].2.1 tg (q9j wn ms[k].2.1)).2=0
  ·rw [if_pos c,if_pos c]
   show jqv ms tg (Q12 (lvS ms wn)) (iL D) (acc ++ [((k:Int),(q9e ms[k].2.1 tg (q9j wn ms[k].2.1)).1.2)])=_
   rw [j3q ms tg wn hl h12 hc hw htg D _ fun q hq=>hD q (List.mem_cons_of_mem _ hq),List.map_cons,j3d tg wn hk,List.append_assoc,List.singleton_append]
  ·rw [if_neg c,if_neg c,if_neg c]
theorem jr7 {U O:List Nat} : q46 (iL U) (iL O)=iL (O.filter U.contains):=by
 unfold q46 iL
 rw [List.filter_map]
 congr 1
 apply List.filter_congr
 intro x _
 rw [Function.comp,Bool.eq_iff_iff,decide_eq_true_iff,List.contains_iff_mem]
 exact qjl
theorem IsF.congr {n:Nat} {P Q:Nat->Prop} {L:List Nat} (h:IsF n P L) (hPQ : ∀k,P k↔Q k):IsF n Q L:=by
 obtain ⟨p,h1,h2⟩:=h
 exact ⟨p,h1,fun k hk=>(h2 k hk).trans (hPQ k)⟩
theorem jxk {ms:List MD} {f g:List Int} (h : ∀x,x∈f↔x∈g) (k:Nat):UpP ms f k↔UpP ms g k:=by
 constructor
 ·rintro ⟨i,h1,h2⟩;exact ⟨i,(h _).1 h1,h2⟩
 ·rintro ⟨i,h1,h2⟩;exact ⟨i,(h _).2 h1,h2⟩
theorem jyn {ms:List MD} {wn:List WnD} (hw:WOk ms wn) (h12:ms.length<=12) (ch:List Int) (x:Int):x∈ch++iL (plS ms wn)↔x∈ch++iL (jn5 ms wn):=by
 rw [List.mem_append,List.mem_append]
 refine or_congr Iff.rfl ?_
 unfold iL
 rw [List.mem_map,List.mem_map]
 constructor
 ·rintro ⟨k,h1,h2⟩;exact ⟨k,(mem_pl hw h12).1 h1,h2⟩
 ·rintro ⟨k,h1,h2⟩;exact ⟨k,(mem_pl hw h12).2 h1,h2⟩
theorem j2n {ms:List MD} (h:(q82 ms).2=0):qlx ms=0/\(q82 ms).1=iL (jbe ms)/\(jbe ms).length=ms.length:=by
 unfold q82 at h ⊢
 by_cases c:qlx ms=0
 ·rw [if_pos c] at h ⊢
  by_cases d:(jbe ms).length<ms.length
  ·rw [if_pos d] at h;cases h
  ·rw [if_neg d]
   have:=jcd ms
   exact ⟨c,rfl,by omega⟩
 ·rw [if_neg c] at h;exact absurd h c
theorem qvr (ms:List MD) (tg:List TgD) (ch:List Int) (wn:List WnD) (hl:SmL ms) (hch:ch.length<=100) (hw:wn.length<=100) (htg:tg.length<=1000) :
  ∃ U,q1o ms tg ch wn=some (jsw ms tg wn U)/\(qlx ms=0->q5j ms [] wn=0->IsF ms.length (UpP ms (ch++iL (jn5 ms wn))) U):=by
 have hpl:(plS ms wn).length<=12:=by
  have:=List.length_filter_le (fun i=>!decide (lvl ms wn i=0)) (List.range 12)
  rwa [List.length_range] at this
 obtain ⟨U,u1,_,u3⟩:=jrf 1000001 ms (ch++iL (plS ms wn)) hl (by rw [List.length_append,q3g];omega) (by decide)
 refine ⟨U,?_,fun hc he=>(u3 hc).congr fun k=>jxk (jyn (qzy he) (j1y hc) ch) k⟩
 unfold q1o jsw
 rw [j2o 1000001 ms hl (by decide),Option.bind_some]
 show (if (q82 ms).2=0 then _ else _)=_
 by_cases ho:(q82 ms).2=0
 case neg=>rw [if_neg ho,if_neg ho]
 obtain ⟨hc,ho1,ho2⟩:=j2n ho
 have h12:=j1y hc
 rw [if_pos ho,if_pos ho,j7m 1000001 ms wn h12 (by omega) (by decide),Option.bind_some]
 by_cases he:q5j ms [] wn=0
 case neg=>rw [if_neg he,if_neg he,if_neg he]
 rw [if_pos he,if_pos he]
 show (if (0:Int)=0 then _ else _)=_
 rw [if_pos rfl]
 show (q9n 1000001 (Q12 (lvS ms wn))).bind _=_
 rw [j2y 1000001 ms wn (by decide),Option.bind_some,j4a 1000001 _ _ (by omega) (by rw [q3g];omega) (by decide),Option.bind_some,u1,Option.bind_some]
 have hol:=jcd ms
 have h20:=hl.1
 have hUl:U.length<=12:=Nat.le_trans (u3 hc).lt h12
 show (if (iL U).length<=1000000/\(q82 ms).1.length<=1000000 then jqv ms tg (Q12 (lvS ms wn)) (q46 (iL U) (q82 ms).1) [] else none)=_
 rw [ho1,q3g,q3g,if_pos (by omega),jr7,j3q ms tg wn hl h12 hc (qzy he) htg _ _ fun k hk=>(qo7 ms).lt k (List.mem_filter.1 hk).1,List.nil_append]
 rfl
end Go.Proofs.YtggoebaobojmjaaGreatDoor.AM
