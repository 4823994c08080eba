
import Derived.Test.YtggoebaobojmjaaGreatDoorBp23
import Derived.Test.YtggoebaobojmjaaGreatDoorBp19
namespace Go.Proofs
open Go.RowKit Go.Shelf Go.Lib
attribute [local go_sem] Oper.semAt_some
set_option linter.unusedVariables false
set_option linter.unusedSimpArgs false
namespace YtggoebaobojmjaaGreatDoor.AM
theorem qk0 : ∀(l:List q8m) (k j:Nat) (hk:k<l.length),j<13->(q23 l)[k*13+j]? = (rls l[k]).toList[j]?
 | f::l,0,j,_,hj=>by
  show ((rls f).toList++q23 l)[0*13+j]? = _
  rw [Nat.zero_mul,Nat.zero_add,List.getElem?_append_left (by show j<13;exact hj)]
  rfl
 | f::l,k+1,j,hk,hj=>by
  have:=qk0 l k j (by simpa using hk) hj
  show ((rls f).toList++q23 l)[(k+1)*13+j]? = _
  have e:(rls f).toList.length=13:=rfl
  rw [List.getElem?_append_right (by omega),e,show (k+1)*13+j - 13=k*13+j from by omega,this]
  rfl
theorem jso (r:q8m):q03 jym r=(rls r).toList.map Dat.v:=rfl
theorem jvg (r:q8m) : ∀u∈(rls r).toList,u.oneCell'=true:=fun u hu=>by
 simp [rls] at hu
 rcases hu with rfl|rfl|rfl|rfl|rfl|rfl|rfl|rfl|rfl|rfl|rfl|rfl|rfl<;>rfl
theorem jql {w:World} {B:Nat} {v:Value} {l:List q8m} {Pc:Nat->Nat->Prop} (h:w.ownsRow B 30 13 v l.length (q23 l)) (hP : ∀b o,B<=b->b<w.heap.size->Pc b o):DatRep Pc w v (.lst 13 (l.map (q03 jym))):=by
 rcases h.2 with ⟨rfl,h0⟩|⟨g,cap,cur,rfl,hb,hg,hn,hc,hs,ht⟩
 ·have:l = []:=List.eq_nil_of_length_eq_zero h0
  subst this
  exact DatRep.lst none 0 0 13 [] 0 0 (fun _ _=>undef) rfl (Nat.le_refl _) (by unfold maxLen;omega) (fun x hx=>by cases hx) (fun h=>by cases h) (fun k j hk=>by cases hk) (fun k j hk=>by cases hk)
 ·refine DatRep.lst (some ⟨g,0,none⟩) l.length cap 13 _ g 0 (fun k j=>(q23 l)[k*13+j]?.getD undef) (by simp) hn hc (fun x hx=>by obtain ⟨f,_,rfl⟩:=List.mem_map.1 hx;rfl) (fun _=>rfl) (fun k j hk hj=>?_) (fun k j hk hj=>?_)
  ·have hk':k<l.length:=by simpa using hk
   have hlt:k*13+j<(q23 l).length:=by rw [qxo];omega
   refine ⟨hP _ _ hb (q0s hg),?_,?_⟩
   ·rw [cell_of_row w g _ cur _ _ hg,List.getElem?_eq_getElem hlt]
    have:cur.toList[k*13+j]? = some (q23 l)[k*13+j]:=by
     have e:(cur.toList.take (l.length*13))[k*13+j]? = some (q23 l)[k*13+j]:=by rw [ht,List.getElem?_eq_getElem hlt]
     rw [List.getElem?_take] at e
     split at e
     ·exact e
     ·cases e
    rw [Nat.zero_add]
    simpa using this
   ·rw [qk0 l k j hk' hj]
    have hj2:j<(rls l[k]).toList.length:=hj
    rw [List.getElem?_eq_getElem hj2]
    exact jvg _ _ (List.getElem_mem hj2)
  ·have hk':k<l.length:=by simpa using hk
   simp only [List.getElem_map] at hj ⊢
   have hj2:j<(rls l[k]).toList.length:=hj
   rw [qk0 l k j hk' hj,List.getElem?_eq_getElem hj2]
   have e:(q03 jym l[k])[j]=Dat.v ((rls l[k]).toList[j]):=by
    have e1:(q03 jym l[k])[j]? = some (Dat.v ((rls l[k]).toList[j])):=by rw [jso,List.getElem?_map,List.getElem?_eq_getElem hj2];rfl
    rw [List.getElem?_eq_getElem hj] at e1
    exact Option.some.inj e1
   have h9:DatRep Pc w ((some (rls l[k]).toList[j]).getD undef) (Dat.v ((rls l[k]).toList[j])):=.v _
   rw [<-e] at h9
   exact h9
def q78:FC:={ f:=15,args:=[.one (.c (.d (.lst jr1))),.one (.c (.d (.lst jy5))),.one (.c (.d (.lst (.int .i64)))),.one (.c (.d (.lst WT18)))],res:=.tup [.c (.d (.lst jym)),.c (.d (.int .i64))],F:=fun p=>q0p p.1 p.2.1 p.2.2.1 p.2.2.2 }
theorem qbk:q0f Inv Tryz.prog q78:=fun G hG=>⟨⟨by kernel_rfl,fun (p:List j0v×(List j6y×(List Int×List (List UInt8×Int)))) r h=>by
 obtain ⟨ms,tg,ch,wn⟩:=p
 have h':q0p ms tg ch wn=some r:=h
 intro Pc w vs hg hlt hv
 obtain ⟨vl⟩:=vs
 match vl,hv with
 | [vM,vT,vC,vW],⟨h1,h2,h3,h4,_⟩ =>
  refine (qv5 (Pc:=Pc) w vM vT vC vW ms tg ch wn r (hG.im w hg) hlt h1 h2 h3 h4 h').mono ?_
  rintro e w' ⟨v',rfl,hown,hb⟩
  exact ⟨_,fun b o=>Pc b o\/(w.heap.size<=b/\b<w'.heap.size),rfl,hb,fun b o hp=>Or.inl hp,fun b o hp=>hp,#[v',.int .i64 r.2],rfl,jql hown (fun b o h1 h2=>Or.inr ⟨h1,h2⟩),q06 (σ:=q2m) (.int .i64 r.2),trivial⟩⟩,rfl⟩
end YtggoebaobojmjaaGreatDoor.AM
end Go.Proofs
namespace Go.Proofs.YtggoebaobojmjaaGreatDoor.AM
open Go.RowKit Gr
set_option linter.unusedVariables false
set_option linter.unusedSimpArgs false
theorem qqf (n:Nat) (p:List UInt8) (hp:p.length<=1000) (hn:2000<=n):qcs n p=some (qn2 p):=by
 unfold qcs qn2
 rw [qfd n p (by omega) (by omega),Option.bind_some]
 cases h:(q3q p).2.2 with
 | false=>rfl
 | true =>
  rw [if_pos rfl]
  by_cases c:(q3q p).2.1=0
  ·rw [if_pos c,decide_eq_true c];rfl
  ·rw [if_neg c,decide_eq_false c];rfl
theorem qhk (n:Nat) (p:List UInt8) (hp:p.length<=1000) (hn:2000<=n):q8q n p=some (qn2 p):=by
 unfold q8q qn2
 rw [qm5 n p (by omega) (by omega),Option.bind_some]
 cases h:(q3q p).2.2 with
 | false=>rfl
 | true =>
  rw [if_pos rfl]
  by_cases c:(q3q p).2.1=0
  ·rw [if_pos c,decide_eq_true c];rfl
  ·rw [if_neg c,decide_eq_false c];rfl
theorem qsy (n:Nat) (k:Int):qij n k=some (jha k):=by
 unfold qij jha
 cases decide (1<=k)<;>rfl
theorem j8e (n:Nat) (p:List UInt8) (v:VD) (k:Int) (hp:p.length<=1000) (hn:2000<=n):qg6 n p v k=some (qj1 p v k):=by
 unfold qg6 qj1
 rw [q6k n v (by omega),Option.bind_some,jii n v k (by omega),Option.bind_some]
 cases q0y v with
 | false=>rfl
 | true =>
  rw [Bool.not_true,cond_false,if_pos rfl]
  by_cases c:(qe2 v k).2=0
  ·rw [if_pos c,decide_eq_true c,Bool.not_true,cond_false,jin n p _ (by omega) (by omega) (by omega),Option.bind_some]
   cases j91 p (qe2 v k).1<;>rfl
  ·rw [if_neg c,decide_eq_false c];rfl
theorem qwu (n:Nat) (p:List UInt8) (l:List TgD) (k:Int) (hp:p.length<=1000) (hl:l.length<=1000000) (hn:1000000<n):qf7 n p l k=some (qui p l k):=by
 unfold qf7 qui
 rw [qqf n p hp (by omega),Option.bind_some]
 cases hf:(qn2 p).2 with
 | false=>rfl
 | true =>
  rw [Bool.not_true,cond_false,if_pos rfl,qsy,Option.bind_some]
  cases jha k with
  | false=>rfl
  | true =>
   rw [Bool.not_true,cond_false,if_pos rfl,j29 n (by omega) l p (by omega) (by omega),Option.bind_some]
   cases q0l p none l with
   | none=>rfl
   | some t =>
    show (qg6 n p (tV t) k).bind _=_
    rw [j8e n p _ k hp (by omega),Option.bind_some]
    show _=some (if (qj1 p (tV t) k).2=0 then _ else _)
    by_cases c:(qj1 p (tV t) k).2=0
    ·rw [if_pos c,decide_eq_true c];rfl
    ·rw [if_neg c,decide_eq_false c];rfl
theorem j68 (n:Nat) (p:List UInt8) (l:List TgD) (k:Int) (hp:p.length<=1000) (hl:l.length<=1000000) (hn:1000000<n):qit n p l k=some (qui p l k):=by
 unfold qit qui
 rw [qhk n p hp (by omega),Option.bind_some]
 cases hf:(qn2 p).2 with
 | false=>rfl
 | true =>
  rw [Bool.not_true,cond_false,if_pos rfl]
  unfold jha
  by_cases c1:k<1
  ·rw [decide_eq_true c1,cond_true,decide_eq_false (p:=1<=k) (by omega)];rfl
  ·rw [decide_eq_false c1,cond_false,decide_eq_true (p:=1<=k) (by omega)]
   by_cases c2:3<k
   ·rw [decide_eq_true c2,cond_true,decide_eq_false (p:=k<=3) (by omega)];rfl
   ·rw [decide_eq_false c2,cond_false,decide_eq_true (p:=k<=3) (by omega),Bool.and_self,if_pos rfl,qur n (by omega) l p (by omega) (by omega),Option.bind_some]
    cases q0l p none l with
    | none=>rfl
    | some t =>
     show (q2k n (tV t)).bind _=some (if (qj1 p (tV t) k).2=0 then _ else _)
     unfold qj1
     rw [q3u n _ (by omega),Option.bind_some]
     cases q0y (tV t) with
     | false=>rfl
     | true =>
      rw [Bool.not_true,cond_false,if_pos rfl]
      show (qti n (tV t) k).bind _=_
      rw [jim n _ k (by omega),Option.bind_some]
      by_cases c:(qe2 (tV t) k).2=0
      ·rw [if_pos c,decide_eq_true c,Bool.not_true,cond_false,j84 n p _ hp (by omega),Option.bind_some]
       cases j91 p (qe2 (tV t) k).1<;>rfl
      ·rw [if_neg c,decide_eq_false c,Bool.not_false,cond_true]
       show _=some (if (qe2 (tV t) k).2=0 then _ else _)
       rw [if_neg c];rfl
theorem j8s {l:List MD} {p:List UInt8} (h:q3k l p=none):qw3 l p = -1:=by unfold qw3;rw [h]
theorem jb2 {l:List MD} {p:List UInt8} {i:Nat} (h:q3k l p=some i):qw3 l p=(i:Int):=by unfold qw3;rw [h]
theorem qvt (n:Nat) (l:List MD) (p:List UInt8) (k:Int) (hl:l.length<=1000) : ∀m j:Nat,j<=l.length->l.length - j<m ->
  q9k n m l ((l.length:Nat):Int) (j:Int) p k=some (match plc p j (l.drop j) with
   | some i=>Sum.inl (((i:Int),()),(((p,k),()),()))
   | none=>Sum.inr ((),(((p,k),()),())))
 | 0,j,_,h=>absurd h (Nat.not_lt_zero _)
 | m+1,j,hj,h=>by
  rw [qnw]
  unfold qzf
  by_cases c:j<l.length
  ·rw [decide_eq_true (by omega),cond_true,q0m c,Option.bind_some]
   unfold jap
   rw [Option.bind_some,List.drop_eq_getElem_cons c,plc]
   by_cases e:l[j].2.1=p
   ·rw [decide_eq_true e,cond_true,if_pos e]
   ·rw [decide_eq_false e,cond_false,if_neg e,q0h,q04 (by omega)]
    exact qvt n l p k hl m (j+1) (by omega) (by omega)
  ·obtain rfl:j=l.length:=by omega
   rw [decide_eq_false (by omega),cond_false,List.drop_length];rfl
theorem jhk (n:Nat) (l:List MD) (p:List UInt8) (k:Int) (hl:l.length<=1000) (hn:1000<n):qz6 n l () p k=some (qw3 l p,(((p,k),()),())):=by
 have h:=qvt n l p k hl n 0 (Nat.zero_le _) (by omega)
 unfold qz6 qw3 q3k
 rw [show (0:Int)=((0:Nat):Int) from rfl,h,Option.bind_some,List.drop_zero]
 cases plc p 0 l<;>rfl
abbrev I12T:Type:=Int×(Int×(Int×(Int×(Int×(Int×(Int×(Int×(Int×(Int×(Int×Int))))))))))
def Q12 (M:List Int):I12T:=(M.getD 0 0,(M.getD 1 0,(M.getD 2 0,(M.getD 3 0,(M.getD 4 0,(M.getD 5 0,(M.getD 6 0,(M.getD 7 0,(M.getD 8 0,(M.getD 9 0,(M.getD 10 0,M.getD 11 0)))))))))))
def Z12:I12T:=(0,(0,(0,(0,(0,(0,(0,(0,(0,(0,(0,0)))))))))))
def jy3 {β:Type} (f:Int->Int->Int->Int->Int->Int->Int->Int->Int->Int->Int->Int->β) (M:List Int):β :=
 f (M.getD 0 0) (M.getD 1 0) (M.getD 2 0) (M.getD 3 0) (M.getD 4 0) (M.getD 5 0) (M.getD 6 0) (M.getD 7 0) (M.getD 8 0) (M.getD 9 0) (M.getD 10 0) (M.getD 11 0)
theorem jjg {M:List Int} (hM:M.length=12) : [M.getD 0 0,M.getD 1 0,M.getD 2 0,M.getD 3 0,M.getD 4 0,M.getD 5 0,M.getD 6 0,M.getD 7 0,M.getD 8 0,M.getD 9 0,M.getD 10 0,M.getD 11 0]=M:=by
 match M,hM with
 | [_,_,_,_,_,_,_,_,_,_,_,_],_=>rfl
theorem jzv {M:List Int} {k:Nat} (hk:k<M.length):nth M k=some (M.getD k 0):=by
 rw [jpb hk,List.getD_eq_getElem?_getD,List.getElem?_eq_getElem hk];rfl
theorem q31 {M:List Int} {j k:Nat} (y:Int) (hk:k<M.length):q1t k (j:Int) y (M.getD k 0)=(M.set j y).getD k 0:=by
 unfold q1t
 rw [Int.toNat_natCast,List.getD_eq_getElem?_getD,List.getD_eq_getElem?_getD,List.getElem?_set]
 by_cases h:k=j
 ·subst h
  rw [Nat.beq_refl,cond_true,if_pos rfl,if_pos hk];rfl
 ·have hb:Nat.beq k j=false:=by
   cases hb:Nat.beq k j with
   | false=>rfl
   | true=>exact absurd (Nat.eq_of_beq_eq_true hb) h
  rw [hb,cond_false,if_neg (fun e=>h e.symm)]
theorem jyz {β:Type} {M:List Int} {j:Nat} (y:Int) (hM:M.length=12) (f:Int->Int->Int->Int->Int->Int->Int->Int->Int->Int->Int->Int->β) :
  f (q1t 0 (j:Int) y (M.getD 0 0)) (q1t 1 (j:Int) y (M.getD 1 0)) (q1t 2 (j:Int) y (M.getD 2 0)) (q1t 3 (j:Int) y (M.getD 3 0)) (q1t 4 (j:Int) y (M.getD 4 0)) (q1t 5 (j:Int) y (M.getD 5 0)) (q1t 6 (j:Int) y (M.getD 6 0)) (q1t 7 (j:Int) y (M.getD 7 0)) (q1t 8 (j:Int) y (M.getD 8 0)) (q1t 9 (j:Int) y (M.getD 9 0)) (q1t 10 (j:Int) y (M.getD 10 0)) (q1t 11 (j:Int) y (M.getD 11 0))=jy3 f (M.set j y):=by
 unfold jy3
 rw [q31 _ (by omega),q31 _ (by omega),q31 _ (by omega),q31 _ (by omega),q31 _ (by omega),q31 _ (by omega),q31 _ (by omega),q31 _ (by omega),q31 _ (by omega),q31 _ (by omega),q31 _ (by omega),q31 _ (by omega)]
theorem qm1 (n:Nat) (ms:List MD) (wn:List WnD) (hms:ms.length<=12) (hwn:wn.length<=1000) (hn:1000<n) : ∀m j:Nat,j<=wn.length->wn.length - j<m->WOk ms (wn.take j) ->
  jy3 (q2i n m ms wn ((wn.length:Nat):Int) (j:Int) 0 0 0 0 0 0 0 0 0 0 0 0) (lvS ms (wn.take j))=some (if q3p ms (wn.take j) (wn.drop j)=0
   then Sum.inr (((),((),())),((Z12,(Q12 (lvS ms wn),())),()))
   else Sum.inl (((),(q3p ms (wn.take j) (wn.drop j),())),((Z12,()),())))
 | 0,j,_,h,_=>absurd h (Nat.not_lt_zero _)
 | m+1,j,hj,h,hok=>by
  unfold jy3
  rw [qhy]
  unfold qlj
  by_cases c:j<wn.length
  ·have htk:wn.take (j+1)=wn.take j ++ [wn[j]]:=List.take_succ_eq_append_getElem c
   have ih:=qm1 n ms wn hms hwn hn m (j+1) (by omega) (by omega)
   rw [htk] at ih
   rw [decide_eq_true (by omega),cond_true,q0m c,Option.bind_some,jhk n ms _ _ (by omega) hn,Option.bind_some,List.drop_eq_getElem_cons c,q3p]
   generalize wn[j]=x at ih ⊢
   cases hp:q3k ms x.1 with
   | none =>
    rw [j8s hp];rfl
   | some i =>
    obtain ⟨hi,hpi⟩:=q8w hp
    rw [jb2 hp]
    show (bif decide ((i:Int)<0) then _ else _)=_
    rw [decide_eq_false (by omega),cond_false,qsy,Option.bind_some,if_pos (Option.isSome_some)]
    cases hlv:jha x.2 with
    | false =>
     rw [if_neg Bool.false_ne_true];rfl
    | true =>
     rw [if_pos rfl,Bool.not_true,cond_false]
     show (bif inA (i:Int) 12 then _ else none)=_
     rw [qc9 (by omega),cond_true,jjg (qaj _ _),Int.toNat_natCast,jzv (by rw [qaj];omega),Option.bind_some,jb5 (by omega),qzh hp]
     have hz:=j2j (w:=wn.take j) (f:=fun y=>decide (y.1=x.1)) fun y hy=>(hok y hy).2
     cases ha:(wn.take j).any (fun y=>decide (y.1=x.1)) with
     | true =>
      rw [ha] at hz
      rw [decide_eq_false (fun e=>by have:=hz.1 e;cases this),if_pos rfl];rfl
     | false =>
      rw [decide_eq_true (hz.2 ha),if_neg Bool.false_ne_true,Bool.not_true,cond_false,cond_true,cond_true,q0h,q04 (by omega)]
      have hx:WOk ms (wn.take j ++ [x]):=fun y hy=>by
       rcases List.mem_append.1 hy with hy|hy
       ·exact hok y hy
       ·rw [List.mem_singleton] at hy;subst hy;exact ⟨by rw [hp];rfl,hlv⟩
      refine (jyz x.2 (qaj _ _) (q2i n m ms wn ((wn.length:Nat):Int) ((j+1:Nat):Int) 0 0 0 0 0 0 0 0 0 0 0 0)).trans ?_
      rw [jrt hp (by omega) ha]
      exact ih hx
  ·obtain rfl:j=wn.length:=by omega
   rw [decide_eq_false (by omega),cond_false,List.drop_length,List.take_length];rfl
theorem jxl (ms:List MD):lvS ms [] = [0,0,0,0,0,0,0,0,0,0,0,0]:=rfl
theorem j63 (n:Nat) (ms:List MD) (wn:List WnD) (hms:ms.length<=12) (hwn:wn.length<=1000) (hn:1000<n):qco n ms wn=some (if q3p ms [] wn=0 then (Q12 (lvS ms wn),0) else (Z12,q3p ms [] wn)):=by
 have h:=qm1 n ms wn hms hwn hn n 0 (Nat.zero_le _) (by omega) (fun x hx=>by cases hx)
 rw [List.take_zero,List.drop_zero,jxl] at h
 have h':q2i n n ms wn ((wn.length:Nat):Int) 0 0 0 0 0 0 0 0 0 0 0 0 0 0 0 0 0 0 0 0 0 0 0 0 0=_:=h
 unfold qco
 rw [h',Option.bind_some]
 by_cases c:q3p ms [] wn=0
 ·rw [if_pos c,if_pos c];rfl
 ·rw [if_neg c,if_neg c];rfl
theorem qch (n:Nat) (M:List Int) (hM:M.length=12) : ∀m j:Nat,∀acc:List Int,acc.length<=j->j<=12->12 - j<m ->
  jy3 (q3e n m) M (j:Int) acc=some (((),()),((),(acc++iL ((List.range' j (12 - j)).filter fun i=>!decide (M.getD i 0=0)),())))
 | 0,j,_,_,_,h=>absurd h (Nat.not_lt_zero _)
 | m+1,j,acc,ha,hj,h=>by
  unfold jy3
  rw [qhb]
  unfold ql8
  by_cases c:j<12
  ·obtain ⟨k,hk⟩ : ∃ k,12 - j=k+1:=⟨12 - j - 1,by omega⟩
   have hk':12 - (j+1)=k:=by omega
   have hx:q1a M (j:Int)=some (M.getD j 0):=by
    rw [q0m (by omega),List.getD_eq_getElem?_getD,List.getElem?_eq_getElem (by omega)];rfl
   rw [decide_eq_true (by omega),cond_true,jjg hM,hx,Option.bind_some,hk,List.range'_succ,List.filter_cons]
   cases hz:decide (M.getD j 0=0) with
   | true =>
    rw [Bool.not_true,cond_false,if_neg Bool.false_ne_true,q0h,q04 (by omega)]
    refine (qch n M hM m (j+1) _ (by omega) (by omega) (by omega)).trans ?_
    rw [hk']
   | false =>
    rw [Bool.not_false,cond_true,if_pos rfl,qce (by simp;omega),Option.bind_some,q0h,q04 (by omega)]
    refine (qch n M hM m (j+1) _ (by simp;omega) (by omega) (by omega)).trans ?_
    rw [hk']
    simp [iL]
  ·obtain rfl:j=12:=by omega
   rw [decide_eq_false (by omega),cond_false,Nat.sub_self]
   simp [iL]
theorem j20 (n:Nat) (ms:List MD) (wn:List WnD) (hn:1000<n):q8x n (Q12 (lvS ms wn))=some (iL (plS ms wn)):=by
 have h:=qch n (lvS ms wn) (qaj _ _) n 0 [] (Nat.le_refl _) (Nat.zero_le _) (by omega)
 unfold q8x
 have h':q3e n n (Q12 (lvS ms wn)).1 (Q12 (lvS ms wn)).2.1 (Q12 (lvS ms wn)).2.2.1 (Q12 (lvS ms wn)).2.2.2.1 (Q12 (lvS ms wn)).2.2.2.2.1 (Q12 (lvS ms wn)).2.2.2.2.2.1 (Q12 (lvS ms wn)).2.2.2.2.2.2.1 (Q12 (lvS ms wn)).2.2.2.2.2.2.2.1 (Q12 (lvS ms wn)).2.2.2.2.2.2.2.2.1 (Q12 (lvS ms wn)).2.2.2.2.2.2.2.2.2.1 (Q12 (lvS ms wn)).2.2.2.2.2.2.2.2.2.2.1 (Q12 (lvS ms wn)).2.2.2.2.2.2.2.2.2.2.2 0 []=_:=h
 rw [h',Option.bind_some,List.nil_append,Nat.sub_zero,<-List.range_eq_range']
 unfold plS
 rw [List.filter_congr fun i hi=>by rw [jb5 (List.mem_range.1 hi)]]
theorem jq9 (n:Nat) (ms:List MD) (wn:List WnD) (k:Nat) (hk:k<12):jn8 n (Q12 (lvS ms wn)) (k:Int)=some (max (lvl ms wn k) 1):=by
 unfold jn8
 rw [qc9 hk,cond_true]
 show (nth [(lvS ms wn).getD 0 0,(lvS ms wn).getD 1 0,(lvS ms wn).getD 2 0,(lvS ms wn).getD 3 0,(lvS ms wn).getD 4 0,(lvS ms wn).getD 5 0,(lvS ms wn).getD 6 0,(lvS ms wn).getD 7 0,(lvS ms wn).getD 8 0,(lvS ms wn).getD 9 0,(lvS ms wn).getD 10 0,(lvS ms wn).getD 11 0] _).bind _=_
 rw [jjg (qaj _ _),Int.toNat_natCast,jzv (by rw [qaj];omega),Option.bind_some,jb5 hk]
 rfl
theorem j3n (n:Nat) (a b:List Int) (ha:a.length<=1000) (hb:b.length<=1000) (hn:10<n):qc4 n [a,b]=some (a++b):=by
 obtain ⟨m,hm⟩ : ∃ m,n=m+1+1+1:=⟨n - 3,by omega⟩
 have h0:q1c n n [a,b] 0 [a,b] 2 0=some (([a,b],(((a.length:Int)+(b.length:Int)),())),((),())):=by
  conv=>lhs;rw [show q1c n n=q1c n (m+1+1+1) by rw [hm]]
  rw [q3m];unfold q96
  rw [decide_eq_true (by decide),cond_true,show q1a [a,b] (0:Int)=some a from rfl,Option.bind_some,q0h,wrap64 (by omega) (by omega),decide_eq_false (by omega),cond_false]
  show q1c n (m+1+1) [a,b] _ [a,b] 2 1=_
  rw [q3m];unfold q96
  rw [decide_eq_true (by decide),cond_true,show q1a [a,b] (1:Int)=some b from rfl,Option.bind_some,q0h,wrap64 (by omega) (by omega),decide_eq_false (by omega),cond_false]
  show q1c n (m+1) [a,b] _ [a,b] 2 2=_
  rw [q3m];unfold q96
  rw [Int.zero_add];rfl
 have h1:q1b n n [a,b] 2 0 []=some (((),()),((),(a++b,()))):=by
  conv=>lhs;rw [show q1b n n=q1b n (m+1+1+1) by rw [hm]]
  rw [q3d];unfold q8e
  rw [decide_eq_true (by decide),cond_true,show q1a [a,b] (0:Int)=some a from rfl,Option.bind_some,qce (by simp;omega),Option.bind_some,List.nil_append]
  show q1b n (m+1+1) [a,b] 2 1 _=_
  rw [q3d];unfold q8e
  rw [decide_eq_true (by decide),cond_true,show q1a [a,b] (1:Int)=some b from rfl,Option.bind_some,qce (by omega),Option.bind_some]
  show q1b n (m+1) [a,b] 2 2 _=_
  rw [q3d];unfold q8e
  rfl
 unfold qc4
 show (q1c n n [a,b] 0 [a,b] 2 0).bind _=_
 rw [h0,Option.bind_some]
 show (qjw () ((a.length:Int)+(b.length:Int))).bind _=_
 unfold qjw
 rw [if_pos (by omega),Option.bind_some]
 show (q1b n n [a,b] 2 0 []).bind _=_
 rw [h1];rfl
theorem qn8 (n:Nat) (l:List MD) (hl:SmL l) (hl12:l.length<=12) (hn:100000<n) : ∀m f:Nat,∀O M,Rep M O->Ord l.length (adj l) O->l.length<O.length+f->f<=m ->
  qj4 (q2p n m l) M (iL O)=some ((l,((),())),((),(iL (jy2 l.length (adj l) f O),())))
 | 0,f,O,M,hR,hO,hf,hm=>by
  have:=qj3 hO.nd hO.lt
  omega
 | m+1,f,O,M,hR,hO,hf,hm=>by
  unfold qj4
  rw [qir]
  unfold ql2
  have hx:=jg2 n l O M hR hl hl12 hn
  unfold qj4 at hx
  rw [hx,Option.bind_some]
  cases f with
  | zero =>
   have:=qj3 hO.nd hO.lt
   omega
  | succ f =>
   unfold jy2
   cases hN:nxt l.length (adj l) O with
   | none=>rfl
   | some i =>
    obtain ⟨h1,h2,h3⟩:=jeo hN
    have hOl:=qj3 hO.nd hO.lt
    show (bif !true then _ else (bif inA ((i:Nat):Int) 12 then (bif inA ((i:Nat):Int) 12 then (qxh 8 (iL O) ([((i:Nat):Int)]:List Int)).bind _ else none) else none))=_
    rw [Bool.not_true,cond_false,qc9 (by omega),cond_true,cond_true,qce (by rw [qmg];simp;omega),Option.bind_some]
    have hap:iL O ++ [((i:Nat):Int)]=iL (O ++ [i]):=by rw [jz1];rfl
    rw [hap]
    refine (jof true hR.1 (fun b1 b2 b3 b4 b5 b6 b7 b8 b9 b10 b11 b12=>q2p n m l b1 b2 b3 b4 b5 b6 b7 b8 b9 b10 b11 b12 (iL (O ++ [i])))).trans ?_
    exact qn8 n l hl hl12 hn m f (O ++ [i]) (M.set i true) (hR.snoc (by omega)) (hO.snoc hN) (by rw [List.length_append,List.length_singleton];omega) (by omega)
theorem j4q (n:Nat) (l:List MD) (hl:SmL l) (hn:100000<n):qbw n l=some (((),(q2s l).2),((),((q2s l).1,()))):=by
 unfold qbw q2s
 rw [qqm n l hl hn,Option.bind_some]
 by_cases c:qwk l=0
 ·have h12:=j02 c
  rw [decide_eq_true c,Bool.not_true,cond_false,if_pos c]
  have:=qn8 n l hl h12 hn n 13 [] _ jpj Ord.nil (by simp;omega) (by omega)
  have h':q2p n n l false false false false false false false false false false false false []=some ((l,((),())),((),(iL (jcb l),()))):=this
  rw [h',Option.bind_some]
  show (bif decide (((iL (jcb l)).length:Int)<((l.length:Nat):Int)) then _ else _)=_
  rw [qmg]
  by_cases hlt:(jcb l).length<l.length
  ·rw [decide_eq_true (by omega),cond_true,if_pos hlt]
  ·rw [decide_eq_false (by omega),cond_false,if_neg hlt]
 ·rw [decide_eq_false c,Bool.not_false,cond_true,if_neg c]
theorem j3j (ms:List MD) (tg:List TgD) (wn:List WnD) (hl:SmL ms) (h12:ms.length<=12) (hc:qwk ms=0) (hw:WOk ms wn) (htg:tg.length<=1000) : ∀(D:List Nat) (acc:List RlD),(∀k∈D,k<ms.length) ->
  jq3 ms tg (Q12 (lvS ms wn)) (iL D) acc=some (if jj6 ms tg wn D=0 then (acc++D.map fun k=>(j6z ms tg wn k).1,0) else ([],jj6 ms tg wn D))
 | [],acc,_=>by
  show some (acc,(0:Int))=some (acc ++ [],(0:Int))
  rw [List.append_nil]
 | k::D,acc,hD=>by
  have hk:=hD k (List.mem_cons_self ..)
  have hp:=(hl.2 _ (List.getElem_mem hk)).1
  show (qyi ms tg (Q12 (lvS ms wn)) (k:Int)).bind _=_
  unfold qyi
  have h1:max (lvl ms wn k) 1=qqv wn ms[k].2.1:=by
   rw [qzh (j1e hc hk),jyy fun x hx=>(hw x hx).2];rfl
  rw [q0m hk,Option.bind_some,jq9 _ ms wn k (by omega),Option.bind_some,h1]
  show (qf7 1000001 ms[k].2.1 tg _).bind _=_
  rw [qwu _ _ tg _ (by omega) (by omega) (by decide),Option.bind_some,jj6,jmx tg wn hk]
  by_cases c:(qui ms[k].2.1 tg (qqv wn ms[k].2.1)).2=0
  ·rw [if_pos c,if_pos c]
   show jq3 ms tg (Q12 (lvS ms wn)) (iL D) (acc ++ [((k:Int),(qui ms[k].2.1 tg (qqv wn ms[k].2.1)).1.2)])=_
   rw [j3j ms tg wn hl h12 hc hw htg D _ fun q hq=>hD q (List.mem_cons_of_mem _ hq),List.map_cons,jmx tg wn hk,List.append_assoc,List.singleton_append]
  ·rw [if_neg c,if_neg c,if_neg c]
theorem jqv {U O:List Nat} : q3o (iL U) (iL O)=iL (O.filter U.contains):=by
 unfold q3o iL
 rw [List.filter_map]
 congr 1
 apply List.filter_congr
 intro x _
 rw [Function.comp,Bool.eq_iff_iff,decide_eq_true_iff,List.contains_iff_mem]
 exact k06
theorem IsF.congr {n:Nat} {P Q:Nat->Prop} {L:List Nat} (h:IsF n P L) (hPQ : ∀k,P k↔Q k):IsF n Q L:=by
 obtain ⟨p,h1,h2⟩:=h
 exact ⟨p,h1,fun k hk=>(h2 k hk).trans (hPQ k)⟩
theorem jvm {ms:List MD} {f g:List Int} (h : ∀x,x∈f↔x∈g) (k:Nat):UpP ms f k↔UpP ms g k:=by
 constructor
 ·rintro ⟨i,h1,h2⟩;exact ⟨i,(h _).1 h1,h2⟩
 ·rintro ⟨i,h1,h2⟩;exact ⟨i,(h _).2 h1,h2⟩
theorem jvu {ms:List MD} {wn:List WnD} (hw:WOk ms wn) (h12:ms.length<=12) (ch:List Int) (x:Int):x∈ch++iL (plS ms wn)↔x∈ch++iL (k0e ms wn):=by
 rw [List.mem_append,List.mem_append]
 refine or_congr Iff.rfl ?_
 unfold iL
 rw [List.mem_map,List.mem_map]
 constructor
 ·rintro ⟨k,h1,h2⟩;exact ⟨k,(mem_pl hw h12).1 h1,h2⟩
 ·rintro ⟨k,h1,h2⟩;exact ⟨k,(mem_pl hw h12).2 h1,h2⟩
theorem qp9 {ms:List MD} (h:(q2s ms).2=0):qwk ms=0/\(q2s ms).1=iL (jcb ms)/\(jcb ms).length=ms.length:=by
 unfold q2s at h ⊢
 by_cases c:qwk ms=0
 ·rw [if_pos c] at h ⊢
  by_cases d:(jcb ms).length<ms.length
  ·rw [if_pos d] at h;cases h
  ·rw [if_neg d]
   have:=j77 ms
   exact ⟨c,rfl,by omega⟩
 ·rw [if_neg c] at h;exact absurd h c
theorem q4k (ms:List MD) (tg:List TgD) (ch:List Int) (wn:List WnD) (hl:SmL ms) (hch:ch.length<=100) (hw:wn.length<=100) (htg:tg.length<=1000) :
  ∃ U,q0p ms tg ch wn=some (q59 ms tg wn U)/\(qwk ms=0->q3p ms [] wn=0->IsF ms.length (UpP ms (ch++iL (k0e ms wn))) U):=by
 have hpl:(plS ms wn).length<=12:=by
  have:=List.length_filter_le (fun i=>!decide (lvl ms wn i=0)) (List.range 12)
  rwa [List.length_range] at this
 obtain ⟨U,u1,_,u3⟩:=jsv 1000001 ms (ch++iL (plS ms wn)) hl (by rw [List.length_append,qmg];omega) (by decide)
 refine ⟨U,?_,fun hc he=>(u3 hc).congr fun k=>jvm (jvu (j11 he) (j02 hc) ch) k⟩
 unfold q0p q59
 rw [j4q 1000001 ms hl (by decide),Option.bind_some]
 show (if (q2s ms).2=0 then _ else _)=_
 by_cases ho:(q2s ms).2=0
 case neg=>rw [if_neg ho,if_neg ho]
 obtain ⟨hc,ho1,ho2⟩:=qp9 ho
 have h12:=j02 hc
 rw [if_pos ho,if_pos ho,j63 1000001 ms wn h12 (by omega) (by decide),Option.bind_some]
 by_cases he:q3p ms [] wn=0
 case neg=>rw [if_neg he,if_neg he,if_neg he]
 rw [if_pos he,if_pos he]
 show (if (0:Int)=0 then _ else _)=_
 rw [if_pos rfl]
 show (q8x 1000001 (Q12 (lvS ms wn))).bind _=_
 rw [j20 1000001 ms wn (by decide),Option.bind_some,j3n 1000001 _ _ (by omega) (by rw [qmg];omega) (by decide),Option.bind_some,u1,Option.bind_some]
 have hol:=j77 ms
 have h20:=hl.1
 have hUl:U.length<=12:=Nat.le_trans (u3 hc).lt h12
 show (if (iL U).length<=1000000/\(q2s ms).1.length<=1000000 then jq3 ms tg (Q12 (lvS ms wn)) (q3o (iL U) (q2s ms).1) [] else none)=_
 rw [ho1,qmg,qmg,if_pos (by omega),jqv,j3j ms tg wn hl h12 hc (j11 he) htg _ _ fun k hk=>(j4m ms).lt k (List.mem_filter.1 hk).1,List.nil_append]
 rfl
end Go.Proofs.YtggoebaobojmjaaGreatDoor.AM
