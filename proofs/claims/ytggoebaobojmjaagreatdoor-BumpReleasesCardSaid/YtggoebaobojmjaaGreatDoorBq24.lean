
import Derived.Test.YtggoebaobojmjaaGreatDoorBq23
import Derived.Test.YtggoebaobojmjaaGreatDoorBq19
namespace Go.Proofs
open Go.RowKit Go.Shelf Go.Lib
attribute [local go_sem] Oper.semAt_some
set_option linter.unusedVariables false
set_option linter.unusedSimpArgs false
namespace YtggoebaobojmjaaGreatDoor.AM
theorem qrp : ∀(l:List qbj) (k j:Nat) (hk:k<l.length),j<13->(q2g l)[k*13+j]? = (rls l[k]).toList[j]?
 | f::l,0,j,_,hj=>by
  show ((rls f).toList++q2g l)[0*13+j]? = _
  rw [Nat.zero_mul,Nat.zero_add,List.getElem?_append_left (by show j<13;exact hj)]
  rfl
 | f::l,k+1,j,hk,hj=>by
  have:=qrp l k j (by simpa using hk) hj
  show ((rls f).toList++q2g l)[(k+1)*13+j]? = _
  have e:(rls f).toList.length=13:=rfl
  rw [List.getElem?_append_right (by omega),e,show (k+1)*13+j - 13=k*13+j from by omega,this]
  rfl
theorem k26 (r:qbj):q04 kag r=(rls r).toList.map Dat.v:=rfl
theorem k7g (r:qbj) : ∀u∈(rls r).toList,u.oneCell'=true:=fun u hu=>by
 simp [rls] at hu
 rcases hu with rfl|rfl|rfl|rfl|rfl|rfl|rfl|rfl|rfl|rfl|rfl|rfl|rfl<;>rfl
theorem k3r {w:World} {B:Nat} {v:Value} {l:List qbj} {Pc:Nat->Nat->Prop} (h:w.ownsRow B 30 13 v l.length (q2g l)) (hP : ∀b o,B<=b->b<w.heap.size->Pc b o):DatRep Pc w v (.lst 13 (l.map (q04 kag))):=by
 rcases h.2 with ⟨rfl,h0⟩|⟨g,cap,cur,rfl,hb,hg,hn,hc,hs,ht⟩
 ·have:l = []:=List.eq_nil_of_length_eq_zero h0
  subst this
  exact DatRep.lst none 0 0 13 [] 0 0 (fun _ _=>undef) rfl (Nat.le_refl _) (by unfold maxLen;omega) (fun x hx=>by cases hx) (fun h=>by cases h) (fun k j hk=>by cases hk) (fun k j hk=>by cases hk)
 ·refine DatRep.lst (some ⟨g,0,none⟩) l.length cap 13 _ g 0 (fun k j=>(q2g l)[k*13+j]?.getD undef) (by simp) hn hc (fun x hx=>by obtain ⟨f,_,rfl⟩:=List.mem_map.1 hx;rfl) (fun _=>rfl) (fun k j hk hj=>?_) (fun k j hk hj=>?_)
  ·have hk':k<l.length:=by simpa using hk
   have hlt:k*13+j<(q2g l).length:=by rw [j3y];omega
   refine ⟨hP _ _ hb (q0r hg),?_,?_⟩
   ·rw [cell_of_row w g _ cur _ _ hg,List.getElem?_eq_getElem hlt]
    have:cur.toList[k*13+j]? = some (q2g l)[k*13+j]:=by
     have e:(cur.toList.take (l.length*13))[k*13+j]? = some (q2g l)[k*13+j]:=by rw [ht,List.getElem?_eq_getElem hlt]
     rw [List.getElem?_take] at e
     split at e
     ·exact e
     ·cases e
    rw [Nat.zero_add]
    simpa using this
   ·rw [qrp l k j hk' hj]
    have hj2:j<(rls l[k]).toList.length:=hj
    rw [List.getElem?_eq_getElem hj2]
    exact k7g _ _ (List.getElem_mem hj2)
  ·have hk':k<l.length:=by simpa using hk
   simp only [List.getElem_map] at hj ⊢
   have hj2:j<(rls l[k]).toList.length:=hj
   rw [qrp l k j hk' hj,List.getElem?_eq_getElem hj2]
   have e:(q04 kag l[k])[j]=Dat.v ((rls l[k]).toList[j]):=by
    have e1:(q04 kag l[k])[j]? = some (Dat.v ((rls l[k]).toList[j])):=by rw [k26,List.getElem?_map,List.getElem?_eq_getElem hj2];rfl
    rw [List.getElem?_eq_getElem hj] at e1
    exact Option.some.inj e1
   have h9:DatRep Pc w ((some (rls l[k]).toList[j]).getD undef) (Dat.v ((rls l[k]).toList[j])):=.v _
   rw [<-e] at h9
   exact h9
def qfl:FC:={ f:=15,args:=[.one (.c (.d (.lst k22))),.one (.c (.d (.lst k88))),.one (.c (.d (.lst (.int .i64)))),.one (.c (.d (.lst WT18)))],res:=.tup [.c (.d (.lst kag)),.c (.d (.int .i64))],F:=fun p=>q1l p.1 p.2.1 p.2.2.1 p.2.2.2 }
theorem qtq:q0h Inv Tryz.prog qfl:=fun G hG=>⟨⟨by kernel_rfl,fun (p:List j7b×(List jfr×(List Int×List (List UInt8×Int)))) r h=>by
 obtain ⟨ms,tg,ch,wn⟩:=p
 have h':q1l ms tg ch wn=some r:=h
 intro Pc w vs hg hlt hv
 obtain ⟨vl⟩:=vs
 match vl,hv with
 | [vM,vT,vC,vW],⟨h1,h2,h3,h4,_⟩ =>
  refine (j22 (Pc:=Pc) w vM vT vC vW ms tg ch wn r (hG.im w hg) hlt h1 h2 h3 h4 h').mono ?_
  rintro e w' ⟨v',rfl,hown,hb⟩
  exact ⟨_,fun b o=>Pc b o\/(w.heap.size<=b/\b<w'.heap.size),rfl,hb,fun b o hp=>Or.inl hp,fun b o hp=>hp,#[v',.int .i64 r.2],rfl,k3r hown (fun b o h1 h2=>Or.inr ⟨h1,h2⟩),q07 (σ:=q38) (.int .i64 r.2),trivial⟩⟩,rfl⟩
end YtggoebaobojmjaaGreatDoor.AM
end Go.Proofs
namespace Go.Proofs.YtggoebaobojmjaaGreatDoor.AM
open Go.RowKit Gr
set_option linter.unusedVariables false
set_option linter.unusedSimpArgs false
theorem jgb (n:Nat) (p:List UInt8) (hp:p.length<=1000) (hn:2000<=n):qno n p=some (qsh p):=by
 unfold qno qsh
 rw [qiu n p (by omega) (by omega),Option.bind_some]
 cases h:(q4o p).2.2 with
 | false=>rfl
 | true =>
  rw [if_pos rfl]
  by_cases c:(q4o p).2.1=0
  ·rw [if_pos c,decide_eq_true c];rfl
  ·rw [if_neg c,decide_eq_false c];rfl
theorem j84 (n:Nat) (p:List UInt8) (hp:p.length<=1000) (hn:2000<=n):qh4 n p=some (qsh p):=by
 unfold qh4 qsh
 rw [qsr n p (by omega) (by omega),Option.bind_some]
 cases h:(q4o p).2.2 with
 | false=>rfl
 | true =>
  rw [if_pos rfl]
  by_cases c:(q4o p).2.1=0
  ·rw [if_pos c,decide_eq_true c];rfl
  ·rw [if_neg c,decide_eq_false c];rfl
theorem j15 (n:Nat) (k:Int):qmz n k=some (jlb k):=by
 unfold qmz jlb
 cases decide (1<=k)<;>rfl
theorem jgk (n:Nat) (p:List UInt8) (v:VD) (k:Int) (hp:p.length<=1000) (hn:2000<=n):qn1 n p v k=some (qmy p v k):=by
 unfold qn1 qmy
 rw [q8e n v (by omega),Option.bind_some,js3 n v k (by omega),Option.bind_some]
 cases q0y v with
 | false=>rfl
 | true =>
  rw [Bool.not_true,cond_false,if_pos rfl]
  by_cases c:(qhr v k).2=0
  ·rw [if_pos c,decide_eq_true c,Bool.not_true,cond_false,jsi n p _ (by omega) (by omega) (by omega),Option.bind_some]
   cases jkg p (qhr v k).1<;>rfl
  ·rw [if_neg c,decide_eq_false c];rfl
theorem jri (n:Nat) (p:List UInt8) (l:List TgD) (k:Int) (hp:p.length<=1000) (hl:l.length<=1000000) (hn:1000000<n):qpn n p l k=some (j1l p l k):=by
 unfold qpn j1l
 rw [jgb n p hp (by omega),Option.bind_some]
 cases hf:(qsh p).2 with
 | false=>rfl
 | true =>
  rw [Bool.not_true,cond_false,if_pos rfl,j15,Option.bind_some]
  cases jlb k with
  | false=>rfl
  | true =>
   rw [Bool.not_true,cond_false,if_pos rfl,j9y n (by omega) l p (by omega) (by omega),Option.bind_some]
   cases q0m p none l with
   | none=>rfl
   | some t =>
    show (qn1 n p (tV t) k).bind _=_
    rw [jgk n p _ k hp (by omega),Option.bind_some]
    show _=some (if (qmy p (tV t) k).2=0 then _ else _)
    by_cases c:(qmy p (tV t) k).2=0
    ·rw [if_pos c,decide_eq_true c];rfl
    ·rw [if_neg c,decide_eq_false c];rfl
theorem jdj (n:Nat) (p:List UInt8) (l:List TgD) (k:Int) (hp:p.length<=1000) (hl:l.length<=1000000) (hn:1000000<n):qmh n p l k=some (j1l p l k):=by
 unfold qmh j1l
 rw [j84 n p hp (by omega),Option.bind_some]
 cases hf:(qsh p).2 with
 | false=>rfl
 | true =>
  rw [Bool.not_true,cond_false,if_pos rfl]
  unfold jlb
  by_cases c1:k<1
  ·rw [decide_eq_true c1,cond_true,decide_eq_false (p:=1<=k) (by omega)];rfl
  ·rw [decide_eq_false c1,cond_false,decide_eq_true (p:=1<=k) (by omega)]
   by_cases c2:3<k
   ·rw [decide_eq_true c2,cond_true,decide_eq_false (p:=k<=3) (by omega)];rfl
   ·rw [decide_eq_false c2,cond_false,decide_eq_true (p:=k<=3) (by omega),Bool.and_self,if_pos rfl,j1v n (by omega) l p (by omega) (by omega),Option.bind_some]
    cases q0m p none l with
    | none=>rfl
    | some t =>
     show (q2y n (tV t)).bind _=some (if (qmy p (tV t) k).2=0 then _ else _)
     unfold qmy
     rw [q4s n _ (by omega),Option.bind_some]
     cases q0y (tV t) with
     | false=>rfl
     | true =>
      rw [Bool.not_true,cond_false,if_pos rfl]
      show (qvz n (tV t) k).bind _=_
      rw [jrw n _ k (by omega),Option.bind_some]
      by_cases c:(qhr (tV t) k).2=0
      ·rw [if_pos c,decide_eq_true c,Bool.not_true,cond_false,jg0 n p _ hp (by omega),Option.bind_some]
       cases jkg p (qhr (tV t) k).1<;>rfl
      ·rw [if_neg c,decide_eq_false c,Bool.not_false,cond_true]
       show _=some (if (qhr (tV t) k).2=0 then _ else _)
       rw [if_neg c];rfl
theorem qyg {l:List MD} {p:List UInt8} (h:q39 l p=none):qsu l p = -1:=by unfold qsu;rw [h]
theorem qwf {l:List MD} {p:List UInt8} {i:Nat} (h:q39 l p=some i):qsu l p=(i:Int):=by unfold qsu;rw [h]
theorem j3v (n:Nat) (l:List MD) (p:List UInt8) (k:Int) (hl:l.length<=1000) : ∀m j:Nat,j<=l.length->l.length - j<m ->
  qcd n m l ((l.length:Nat):Int) (j:Int) p k=some (match plc p j (l.drop j) with
   | some i=>Sum.inl (((i:Int),()),(((p,k),()),()))
   | none=>Sum.inr ((),(((p,k),()),())))
 | 0,j,_,h=>absurd h (Nat.not_lt_zero _)
 | m+1,j,hj,h=>by
  rw [que]
  unfold j89
  by_cases c:j<l.length
  ·rw [decide_eq_true (by omega),cond_true,q0i c,Option.bind_some]
   unfold jhn
   rw [Option.bind_some,List.drop_eq_getElem_cons c,plc]
   by_cases e:l[j].2.1=p
   ·rw [decide_eq_true e,cond_true,if_pos e]
   ·rw [decide_eq_false e,cond_false,if_neg e,q0a,q03 (by omega)]
    exact j3v n l p k hl m (j+1) (by omega) (by omega)
  ·obtain rfl:j=l.length:=by omega
   rw [decide_eq_false (by omega),cond_false,List.drop_length];rfl
theorem jsa (n:Nat) (l:List MD) (p:List UInt8) (k:Int) (hl:l.length<=1000) (hn:1000<n):j7s n l () p k=some (qsu l p,(((p,k),()),())):=by
 have h:=j3v n l p k hl n 0 (Nat.zero_le _) (by omega)
 unfold j7s qsu q39
 rw [show (0:Int)=((0:Nat):Int) from rfl,h,Option.bind_some,List.drop_zero]
 cases plc p 0 l<;>rfl
theorem qna (n:Nat) (l:List MD) (p:List UInt8) (hl:l.length<=1000) : ∀m j:Nat,j<=l.length->l.length - j<m ->
  q5j n m l p (j:Int)=some (match plc p j (l.drop j) with
   | some i=>Sum.inl (((i:Int),()),((),()))
   | none=>Sum.inr ((),((),())))
 | 0,j,_,h=>absurd h (Nat.not_lt_zero _)
 | m+1,j,hj,h=>by
  rw [qk9]
  unfold qjr
  by_cases c:j<l.length
  ·rw [decide_eq_true (by omega),cond_true,q0i c,Option.bind_some,List.drop_eq_getElem_cons c,plc]
   by_cases e:l[j].2.1=p
   ·rw [decide_eq_true e,cond_true,if_pos e]
   ·rw [decide_eq_false e,cond_false,if_neg e,q0a,q03 (by omega)]
    exact qna n l p hl m (j+1) (by omega) (by omega)
  ·obtain rfl:j=l.length:=by omega
   rw [decide_eq_false (by omega),cond_false,List.drop_length];rfl
theorem j6d (n:Nat) (l:List MD) (p:List UInt8) (hl:l.length<=1000) (hn:1000<n):qh3 n l p=some (qsu l p):=by
 have h:=qna n l p hl n 0 (Nat.zero_le _) (by omega)
 unfold qh3 qsu q39
 rw [show (0:Int)=((0:Nat):Int) from rfl,h,Option.bind_some,List.drop_zero]
 cases plc p 0 l<;>rfl
theorem j9h (n:Nat) (w:List WnD) (p:List UInt8) (hw:w.length<=1000) (hn:1000<n):qhp n w p=some (qhy w p):=by
 have loop : ∀m j:Nat,j<=w.length->w.length - j<m->q5k n m w p (j:Int)=some (match (w.drop j).find? (fun x=>decide (x.1=p)) with
   | some x=>Sum.inl ((x.2,()),((),()))
   | none=>Sum.inr ((),((),()))):=by
  intro m
  induction m with
  | zero=>intro j _ h;exact absurd h (Nat.not_lt_zero _)
  | succ m ih =>
   intro j hj h
   rw [qjz]
   unfold qkp
   by_cases c:j<w.length
   ·rw [decide_eq_true (by omega),cond_true,q0i c,Option.bind_some,Option.bind_some,List.drop_eq_getElem_cons c,List.find?_cons]
    by_cases e:w[j].1=p
    ·rw [decide_eq_true e,cond_true]
    ·rw [decide_eq_false e,cond_false,q0a,q03 (by omega)]
     exact ih (j+1) (by omega) (by omega)
   ·obtain rfl:j=w.length:=by omega
    rw [decide_eq_false (by omega),cond_false,List.drop_length];rfl
 have h:=loop n 0 (Nat.zero_le _) (by omega)
 unfold qhp qhy jt2
 rw [show (0:Int)=((0:Nat):Int) from rfl,h,Option.bind_some,List.drop_zero]
 cases w.find? (fun x=>decide (x.1=p))<;>rfl
abbrev I12T:Type:=Int×(Int×(Int×(Int×(Int×(Int×(Int×(Int×(Int×(Int×(Int×Int))))))))))
def Q12 (M:List Int):I12T:=(M.getD 0 0,(M.getD 1 0,(M.getD 2 0,(M.getD 3 0,(M.getD 4 0,(M.getD 5 0,(M.getD 6 0,(M.getD 7 0,(M.getD 8 0,(M.getD 9 0,(M.getD 10 0,M.getD 11 0)))))))))))
def Z12:I12T:=(0,(0,(0,(0,(0,(0,(0,(0,(0,(0,(0,0)))))))))))
def k84 {β:Type} (f:Int->Int->Int->Int->Int->Int->Int->Int->Int->Int->Int->Int->β) (M:List Int):β :=
 f (M.getD 0 0) (M.getD 1 0) (M.getD 2 0) (M.getD 3 0) (M.getD 4 0) (M.getD 5 0) (M.getD 6 0) (M.getD 7 0) (M.getD 8 0) (M.getD 9 0) (M.getD 10 0) (M.getD 11 0)
theorem ju5 {M:List Int} (hM:M.length=12) : [M.getD 0 0,M.getD 1 0,M.getD 2 0,M.getD 3 0,M.getD 4 0,M.getD 5 0,M.getD 6 0,M.getD 7 0,M.getD 8 0,M.getD 9 0,M.getD 10 0,M.getD 11 0]=M:=by
 match M,hM with
 | [_,_,_,_,_,_,_,_,_,_,_,_],_=>rfl
theorem k9a {M:List Int} {k:Nat} (hk:k<M.length):nth M k=some (M.getD k 0):=by
 rw [jci hk,List.getD_eq_getElem?_getD,List.getElem?_eq_getElem hk];rfl
theorem q3p {M:List Int} {j k:Nat} (y:Int) (hk:k<M.length):q23 k (j:Int) y (M.getD k 0)=(M.set j y).getD k 0:=by
 unfold q23
 rw [Int.toNat_natCast,List.getD_eq_getElem?_getD,List.getD_eq_getElem?_getD,List.getElem?_set]
 by_cases h:k=j
 ·subst h
  rw [Nat.beq_refl,cond_true,if_pos rfl,if_pos hk];rfl
 ·have hb:Nat.beq k j=false:=by
   cases hb:Nat.beq k j with
   | false=>rfl
   | true=>exact absurd (Nat.eq_of_beq_eq_true hb) h
  rw [hb,cond_false,if_neg (fun e=>h e.symm)]
theorem k98 {β:Type} {M:List Int} {j:Nat} (y:Int) (hM:M.length=12) (f:Int->Int->Int->Int->Int->Int->Int->Int->Int->Int->Int->Int->β) :
  f (q23 0 (j:Int) y (M.getD 0 0)) (q23 1 (j:Int) y (M.getD 1 0)) (q23 2 (j:Int) y (M.getD 2 0)) (q23 3 (j:Int) y (M.getD 3 0)) (q23 4 (j:Int) y (M.getD 4 0)) (q23 5 (j:Int) y (M.getD 5 0)) (q23 6 (j:Int) y (M.getD 6 0)) (q23 7 (j:Int) y (M.getD 7 0)) (q23 8 (j:Int) y (M.getD 8 0)) (q23 9 (j:Int) y (M.getD 9 0)) (q23 10 (j:Int) y (M.getD 10 0)) (q23 11 (j:Int) y (M.getD 11 0))=k84 f (M.set j y):=by
 unfold k84
 rw [q3p _ (by omega),q3p _ (by omega),q3p _ (by omega),q3p _ (by omega),q3p _ (by omega),q3p _ (by omega),q3p _ (by omega),q3p _ (by omega),q3p _ (by omega),q3p _ (by omega),q3p _ (by omega),q3p _ (by omega)]
theorem qt6 (n:Nat) (ms:List MD) (wn:List WnD) (hms:ms.length<=12) (hwn:wn.length<=1000) (hn:1000<n) : ∀m j:Nat,j<=wn.length->wn.length - j<m->WOk ms (wn.take j) ->
  k84 (q2q n m ms wn ((wn.length:Nat):Int) (j:Int) 0 0 0 0 0 0 0 0 0 0 0 0) (lvS ms (wn.take j))=some (if q3c ms (wn.take j) (wn.drop j)=0
   then Sum.inr (((),((),())),((Z12,(Q12 (lvS ms wn),())),()))
   else Sum.inl (((),(q3c ms (wn.take j) (wn.drop j),())),((Z12,()),())))
 | 0,j,_,h,_=>absurd h (Nat.not_lt_zero _)
 | m+1,j,hj,h,hok=>by
  unfold k84
  rw [qnv]
  unfold qs0
  by_cases c:j<wn.length
  ·have htk:wn.take (j+1)=wn.take j ++ [wn[j]]:=List.take_succ_eq_append_getElem c
   have ih:=qt6 n ms wn hms hwn hn m (j+1) (by omega) (by omega)
   rw [htk] at ih
   rw [decide_eq_true (by omega),cond_true,q0i c,Option.bind_some,jsa n ms _ _ (by omega) hn,Option.bind_some,List.drop_eq_getElem_cons c,q3c]
   generalize wn[j]=x at ih ⊢
   cases hp:q39 ms x.1 with
   | none =>
    rw [qyg hp];rfl
   | some i =>
    obtain ⟨hi,hpi⟩:=q7q hp
    rw [qwf hp]
    show (bif decide ((i:Int)<0) then _ else _)=_
    rw [decide_eq_false (by omega),cond_false,j15,Option.bind_some,if_pos (Option.isSome_some)]
    cases hlv:jlb x.2 with
    | false =>
     rw [if_neg Bool.false_ne_true];rfl
    | true =>
     rw [if_pos rfl,Bool.not_true,cond_false]
     show (bif inA (i:Int) 12 then _ else none)=_
     rw [qez (by omega),cond_true,ju5 (qc6 _ _),Int.toNat_natCast,k9a (by rw [qc6];omega),Option.bind_some,jki (by omega),j9i hp]
     have hz:=jbo (w:=wn.take j) (f:=fun y=>decide (y.1=x.1)) fun y hy=>(hok y hy).2
     cases ha:(wn.take j).any (fun y=>decide (y.1=x.1)) with
     | true =>
      rw [ha] at hz
      rw [decide_eq_false (fun e=>by have:=hz.1 e;cases this),if_pos rfl];rfl
     | false =>
      rw [decide_eq_true (hz.2 ha),if_neg Bool.false_ne_true,Bool.not_true,cond_false,cond_true,cond_true,q0a,q03 (by omega)]
      have hx:WOk ms (wn.take j ++ [x]):=fun y hy=>by
       rcases List.mem_append.1 hy with hy|hy
       ·exact hok y hy
       ·rw [List.mem_singleton] at hy;subst hy;exact ⟨by rw [hp];rfl,hlv⟩
      refine (k98 x.2 (qc6 _ _) (q2q n m ms wn ((wn.length:Nat):Int) ((j+1:Nat):Int) 0 0 0 0 0 0 0 0 0 0 0 0)).trans ?_
      rw [k2s hp (by omega) ha]
      exact ih hx
  ·obtain rfl:j=wn.length:=by omega
   rw [decide_eq_false (by omega),cond_false,List.drop_length,List.take_length];rfl
theorem k6m (ms:List MD):lvS ms [] = [0,0,0,0,0,0,0,0,0,0,0,0]:=rfl
theorem jeg (n:Nat) (ms:List MD) (wn:List WnD) (hms:ms.length<=12) (hwn:wn.length<=1000) (hn:1000<n):qem n ms wn=some (if q3c ms [] wn=0 then (Q12 (lvS ms wn),0) else (Z12,q3c ms [] wn)):=by
 have h:=qt6 n ms wn hms hwn hn n 0 (Nat.zero_le _) (by omega) (fun x hx=>by cases hx)
 rw [List.take_zero,List.drop_zero,k6m] at h
 have h':q2q n n ms wn ((wn.length:Nat):Int) 0 0 0 0 0 0 0 0 0 0 0 0 0 0 0 0 0 0 0 0 0 0 0 0 0=_:=h
 unfold qem
 rw [h',Option.bind_some]
 by_cases c:q3c ms [] wn=0
 ·rw [if_pos c,if_pos c];rfl
 ·rw [if_neg c,if_neg c];rfl
theorem qf2 (n:Nat) (M:List Int) (hM:M.length=12) : ∀m j:Nat,∀acc:List Int,acc.length<=j->j<=12->12 - j<m ->
  k84 (q46 n m) M (j:Int) acc=some (((),()),((),(acc++iL ((List.range' j (12 - j)).filter fun i=>!decide (M.getD i 0=0)),())))
 | 0,j,_,_,_,h=>absurd h (Nat.not_lt_zero _)
 | m+1,j,acc,ha,hj,h=>by
  unfold k84
  rw [qoi]
  unfold qre
  by_cases c:j<12
  ·obtain ⟨k,hk⟩ : ∃ k,12 - j=k+1:=⟨12 - j - 1,by omega⟩
   have hk':12 - (j+1)=k:=by omega
   have hx:q0s M (j:Int)=some (M.getD j 0):=by
    rw [q0i (by omega),List.getD_eq_getElem?_getD,List.getElem?_eq_getElem (by omega)];rfl
   rw [decide_eq_true (by omega),cond_true,ju5 hM,hx,Option.bind_some,hk,List.range'_succ,List.filter_cons]
   cases hz:decide (M.getD j 0=0) with
   | true =>
    rw [Bool.not_true,cond_false,if_neg Bool.false_ne_true,q0a,q03 (by omega)]
    refine (qf2 n M hM m (j+1) _ (by omega) (by omega) (by omega)).trans ?_
    rw [hk']
   | false =>
    rw [Bool.not_false,cond_true,if_pos rfl,q3u (by simp;omega),Option.bind_some,q0a,q03 (by omega)]
    refine (qf2 n M hM m (j+1) _ (by simp;omega) (by omega) (by omega)).trans ?_
    rw [hk']
    simp [iL]
  ·obtain rfl:j=12:=by omega
   rw [decide_eq_false (by omega),cond_false,Nat.sub_self]
   simp [iL]
theorem jb0 (n:Nat) (ms:List MD) (wn:List WnD) (hn:1000<n):qbp n (Q12 (lvS ms wn))=some (iL (plS ms wn)):=by
 have h:=qf2 n (lvS ms wn) (qc6 _ _) n 0 [] (Nat.le_refl _) (Nat.zero_le _) (by omega)
 unfold qbp
 have h':q46 n n (Q12 (lvS ms wn)).1 (Q12 (lvS ms wn)).2.1 (Q12 (lvS ms wn)).2.2.1 (Q12 (lvS ms wn)).2.2.2.1 (Q12 (lvS ms wn)).2.2.2.2.1 (Q12 (lvS ms wn)).2.2.2.2.2.1 (Q12 (lvS ms wn)).2.2.2.2.2.2.1 (Q12 (lvS ms wn)).2.2.2.2.2.2.2.1 (Q12 (lvS ms wn)).2.2.2.2.2.2.2.2.1 (Q12 (lvS ms wn)).2.2.2.2.2.2.2.2.2.1 (Q12 (lvS ms wn)).2.2.2.2.2.2.2.2.2.2.1 (Q12 (lvS ms wn)).2.2.2.2.2.2.2.2.2.2.2 0 []=_:=h
 rw [h',Option.bind_some,List.nil_append,Nat.sub_zero,<-List.range_eq_range']
 unfold plS
 rw [List.filter_congr fun i hi=>by rw [jki (List.mem_range.1 hi)]]
theorem k2b (n:Nat) (ms:List MD) (wn:List WnD) (k:Nat) (hk:k<12):jzy n (Q12 (lvS ms wn)) (k:Int)=some (max (lvl ms wn k) 1):=by
 unfold jzy
 rw [qez hk,cond_true]
 show (nth [(lvS ms wn).getD 0 0,(lvS ms wn).getD 1 0,(lvS ms wn).getD 2 0,(lvS ms wn).getD 3 0,(lvS ms wn).getD 4 0,(lvS ms wn).getD 5 0,(lvS ms wn).getD 6 0,(lvS ms wn).getD 7 0,(lvS ms wn).getD 8 0,(lvS ms wn).getD 9 0,(lvS ms wn).getD 10 0,(lvS ms wn).getD 11 0] _).bind _=_
 rw [ju5 (qc6 _ _),Int.toNat_natCast,k9a (by rw [qc6];omega),Option.bind_some,jki hk]
 rfl
theorem jb2 (n:Nat) (a b:List Int) (ha:a.length<=1000) (hb:b.length<=1000) (hn:10<n):qfo n [a,b]=some (a++b):=by
 obtain ⟨m,hm⟩ : ∃ m,n=m+1+1+1:=⟨n - 3,by omega⟩
 have h0:q1b n n [a,b] 0 [a,b] 2 0=some (([a,b],(((a.length:Int)+(b.length:Int)),())),((),())):=by
  conv=>lhs;rw [show q1b n n=q1b n (m+1+1+1) by rw [hm]]
  rw [q4h];unfold qbs
  rw [decide_eq_true (by decide),cond_true,show q0s [a,b] (0:Int)=some a from rfl,Option.bind_some,q0a,wrap64 (by omega) (by omega),decide_eq_false (by omega),cond_false]
  show q1b n (m+1+1) [a,b] _ [a,b] 2 1=_
  rw [q4h];unfold qbs
  rw [decide_eq_true (by decide),cond_true,show q0s [a,b] (1:Int)=some b from rfl,Option.bind_some,q0a,wrap64 (by omega) (by omega),decide_eq_false (by omega),cond_false]
  show q1b n (m+1) [a,b] _ [a,b] 2 2=_
  rw [q4h];unfold qbs
  rw [Int.zero_add];rfl
 have h1:q1c n n [a,b] 2 0 []=some (((),()),((),(a++b,()))):=by
  conv=>lhs;rw [show q1c n n=q1c n (m+1+1+1) by rw [hm]]
  rw [q4j];unfold qbu
  rw [decide_eq_true (by decide),cond_true,show q0s [a,b] (0:Int)=some a from rfl,Option.bind_some,q3u (by simp;omega),Option.bind_some,List.nil_append]
  show q1c n (m+1+1) [a,b] 2 1 _=_
  rw [q4j];unfold qbu
  rw [decide_eq_true (by decide),cond_true,show q0s [a,b] (1:Int)=some b from rfl,Option.bind_some,q3u (by omega),Option.bind_some]
  show q1c n (m+1) [a,b] 2 2 _=_
  rw [q4j];unfold qbu
  rfl
 unfold qfo
 show (q1b n n [a,b] 0 [a,b] 2 0).bind _=_
 rw [h0,Option.bind_some]
 show (qqy () ((a.length:Int)+(b.length:Int))).bind _=_
 unfold qqy
 rw [if_pos (by omega),Option.bind_some]
 show (q1c n n [a,b] 2 0 []).bind _=_
 rw [h1];rfl
theorem qto (n:Nat) (l:List MD) (hl:SmL l) (hl12:l.length<=12) (hn:100000<n) : ∀m f:Nat,∀O M,Rep M O->Ord l.length (adj l) O->l.length<O.length+f->f<=m ->
  qok (q2z n m l) M (iL O)=some ((l,((),())),((),(iL (jva l.length (adj l) f O),())))
 | 0,f,O,M,hR,hO,hf,hm=>by
  have:=q3o hO.nd hO.lt
  omega
 | m+1,f,O,M,hR,hO,hf,hm=>by
  unfold qok
  rw [qmf]
  unfold qp0
  have hx:=jsg n l O M hR hl hl12 hn
  unfold qok at hx
  rw [hx,Option.bind_some]
  cases f with
  | zero =>
   have:=q3o hO.nd hO.lt
   omega
  | succ f =>
   unfold jva
   cases hN:nxt l.length (adj l) O with
   | none=>rfl
   | some i =>
    obtain ⟨h1,h2,h3⟩:=j8w hN
    have hOl:=q3o hO.nd hO.lt
    show (bif !true then _ else (bif inA ((i:Nat):Int) 12 then (bif inA ((i:Nat):Int) 12 then (ql1 8 (iL O) ([((i:Nat):Int)]:List Int)).bind _ else none) else none))=_
    rw [Bool.not_true,cond_false,qez (by omega),cond_true,cond_true,q3u (by rw [q1h];simp;omega),Option.bind_some]
    have hap:iL O ++ [((i:Nat):Int)]=iL (O ++ [i]):=by rw [jma];rfl
    rw [hap]
    refine (jwh true hR.1 (fun b1 b2 b3 b4 b5 b6 b7 b8 b9 b10 b11 b12=>q2z n m l b1 b2 b3 b4 b5 b6 b7 b8 b9 b10 b11 b12 (iL (O ++ [i])))).trans ?_
    exact qto n l hl hl12 hn m f (O ++ [i]) (M.set i true) (hR.snoc (by omega)) (hO.snoc hN) (by rw [List.length_append,List.length_singleton];omega) (by omega)
theorem jcn (n:Nat) (l:List MD) (hl:SmL l) (hn:100000<n):qg0 n l=some (((),(q3z l).2),((),((q3z l).1,()))):=by
 unfold qg0 q3z
 rw [j1b n l hl hn,Option.bind_some]
 by_cases c:qc0 l=0
 ·have h12:=qeo c
  rw [decide_eq_true c,Bool.not_true,cond_false,if_pos c]
  have:=qto n l hl h12 hn n 13 [] _ jvz Ord.nil (by simp;omega) (by omega)
  have h':q2z n n l false false false false false false false false false false false false []=some ((l,((),())),((),(iL (j5w l),()))):=this
  rw [h',Option.bind_some]
  show (bif decide (((iL (j5w l)).length:Int)<((l.length:Nat):Int)) then _ else _)=_
  rw [q1h]
  by_cases hlt:(j5w l).length<l.length
  ·rw [decide_eq_true (by omega),cond_true,if_pos hlt]
  ·rw [decide_eq_false (by omega),cond_false,if_neg hlt]
 ·rw [decide_eq_false c,Bool.not_false,cond_true,if_neg c]
theorem jew (ms:List MD) (tg:List TgD) (wn:List WnD) (hl:SmL ms) (h12:ms.length<=12) (hc:qc0 ms=0) (hw:WOk ms wn) (htg:tg.length<=1000) : ∀(D:List Nat) (acc:List RlD),(∀k∈D,k<ms.length) ->
  jzz ms tg (Q12 (lvS ms wn)) (iL D) acc=some (if jrv ms tg wn D=0 then (acc++D.map fun k=>(k45 ms tg wn k).1,0) else ([],jrv ms tg wn D))
 | [],acc,_=>by
  show some (acc,(0:Int))=some (acc ++ [],(0:Int))
  rw [List.append_nil]
 | k::D,acc,hD=>by
  have hk:=hD k (List.mem_cons_self ..)
  have hp:=(hl.2 _ (List.getElem_mem hk)).1
  show (j8q ms tg (Q12 (lvS ms wn)) (k:Int)).bind _=_
  unfold j8q
  have h1:max (lvl ms wn k) 1=qhy wn ms[k].2.1:=by
   rw [j9i (k0n hc hk),k9c fun x hx=>(hw x hx).2];rfl
  rw [q0i hk,Option.bind_some,k2b _ ms wn k (by omega),Option.bind_some,h1]
  show (qpn 1000001 ms[k].2.1 tg _).bind _=_
  rw [jri _ _ tg _ (by omega) (by omega) (by decide),Option.bind_some,jrv,jl7 tg wn hk]
  by_cases c:(j1l ms[k].2.1 tg (qhy wn ms[k].2.1)).2=0
  ·rw [if_pos c,if_pos c]
   show jzz ms tg (Q12 (lvS ms wn)) (iL D) (acc ++ [((k:Int),(j1l ms[k].2.1 tg (qhy wn ms[k].2.1)).1.2)])=_
   rw [jew ms tg wn hl h12 hc hw htg D _ fun q hq=>hD q (List.mem_cons_of_mem _ hq),List.map_cons,jl7 tg wn hk,List.append_assoc,List.singleton_append]
  ·rw [if_neg c,if_neg c,if_neg c]
theorem k1w {U O:List Nat} : q4n (iL U) (iL O)=iL (O.filter U.contains):=by
 unfold q4n iL
 rw [List.filter_map]
 congr 1
 apply List.filter_congr
 intro x _
 rw [Function.comp,Bool.eq_iff_iff,decide_eq_true_iff,List.contains_iff_mem]
 exact jls
theorem IsF.congr {n:Nat} {P Q:Nat->Prop} {L:List Nat} (h:IsF n P L) (hPQ : ∀k,P k↔Q k):IsF n Q L:=by
 obtain ⟨p,h1,h2⟩:=h
 exact ⟨p,h1,fun k hk=>(h2 k hk).trans (hPQ k)⟩
theorem k6p {ms:List MD} {f g:List Int} (h : ∀x,x∈f↔x∈g) (k:Nat):UpP ms f k↔UpP ms g k:=by
 constructor
 ·rintro ⟨i,h1,h2⟩;exact ⟨i,(h _).1 h1,h2⟩
 ·rintro ⟨i,h1,h2⟩;exact ⟨i,(h _).2 h1,h2⟩
theorem k6y {ms:List MD} {wn:List WnD} (hw:WOk ms wn) (h12:ms.length<=12) (ch:List Int) (x:Int):x∈ch++iL (plS ms wn)↔x∈ch++iL (j9u ms wn):=by
 rw [List.mem_append,List.mem_append]
 refine or_congr Iff.rfl ?_
 unfold iL
 rw [List.mem_map,List.mem_map]
 constructor
 ·rintro ⟨k,h1,h2⟩;exact ⟨k,(mem_pl hw h12).1 h1,h2⟩
 ·rintro ⟨k,h1,h2⟩;exact ⟨k,(mem_pl hw h12).2 h1,h2⟩
theorem qzm {ms:List MD} (h:(q3z ms).2=0):qc0 ms=0/\(q3z ms).1=iL (j5w ms)/\(j5w ms).length=ms.length:=by
 unfold q3z at h ⊢
 by_cases c:qc0 ms=0
 ·rw [if_pos c] at h ⊢
  by_cases d:(j5w ms).length<ms.length
  ·rw [if_pos d] at h;cases h
  ·rw [if_neg d]
   have:=j6t ms
   exact ⟨c,rfl,by omega⟩
 ·rw [if_neg c] at h;exact absurd h c
theorem j1x (ms:List MD) (tg:List TgD) (ch:List Int) (wn:List WnD) (hl:SmL ms) (hch:ch.length<=100) (hw:wn.length<=100) (htg:tg.length<=1000) :
  ∃ U,q1l ms tg ch wn=some (jpj ms tg wn U)/\(qc0 ms=0->q3c ms [] wn=0->IsF ms.length (UpP ms (ch++iL (j9u ms wn))) U):=by
 have hpl:(plS ms wn).length<=12:=by
  have:=List.length_filter_le (fun i=>!decide (lvl ms wn i=0)) (List.range 12)
  rwa [List.length_range] at this
 obtain ⟨U,u1,_,u3⟩:=k3b 1000001 ms (ch++iL (plS ms wn)) hl (by rw [List.length_append,q1h];omega) (by decide)
 refine ⟨U,?_,fun hc he=>(u3 hc).congr fun k=>k6p (k6y (j8g he) (qeo hc) ch) k⟩
 unfold q1l jpj
 rw [jcn 1000001 ms hl (by decide),Option.bind_some]
 show (if (q3z ms).2=0 then _ else _)=_
 by_cases ho:(q3z ms).2=0
 case neg=>rw [if_neg ho,if_neg ho]
 obtain ⟨hc,ho1,ho2⟩:=qzm ho
 have h12:=qeo hc
 rw [if_pos ho,if_pos ho,jeg 1000001 ms wn h12 (by omega) (by decide),Option.bind_some]
 by_cases he:q3c ms [] wn=0
 case neg=>rw [if_neg he,if_neg he,if_neg he]
 rw [if_pos he,if_pos he]
 show (if (0:Int)=0 then _ else _)=_
 rw [if_pos rfl]
 show (qbp 1000001 (Q12 (lvS ms wn))).bind _=_
 rw [jb0 1000001 ms wn (by decide),Option.bind_some,jb2 1000001 _ _ (by omega) (by rw [q1h];omega) (by decide),Option.bind_some,u1,Option.bind_some]
 have hol:=j6t ms
 have h20:=hl.1
 have hUl:U.length<=12:=Nat.le_trans (u3 hc).lt h12
 show (if (iL U).length<=1000000/\(q3z ms).1.length<=1000000 then jzz ms tg (Q12 (lvS ms wn)) (q4n (iL U) (q3z ms).1) [] else none)=_
 rw [ho1,q1h,q1h,if_pos (by omega),k1w,jew ms tg wn hl h12 hc (j8g he) htg _ _ fun k hk=>(jlu ms).lt k (List.mem_filter.1 hk).1,List.nil_append]
 rfl
theorem qt2 (n:Nat) (ms:List MD) (tg:List TgD) (wn:List WnD) (od:List Int) (j:Nat) (hj:j<wn.length) (hwn:wn.length<=1000) (at_:Int) (a8:List WnD) (a9 a10:Int) (a11:Bool) (fr:List Int) : ∀m k:Nat,k<=j->j - k<m ->
  q1q n m ms tg wn od (j:Int) at_ (k:Int) a8 a9 a10 a11 fr=some (if ((wn.take j).drop k).any (fun y=>decide (y.1=wn[j].1))=true then Sum.inl (((),(11,())),((),()))
   else Sum.inr ((ms,(tg,(wn,(od,((),((j:Int),(at_,(a8,(a9,(a10,(a11,()))))))))))),((),(fr,()))))
 | 0,k,_,h=>absurd h (Nat.not_lt_zero _)
 | m+1,k,hk,h=>by
  rw [qea]
  unfold qaw
  by_cases c:k<j
  ·have hd:(wn.take j).drop k=wn[k]::(wn.take j).drop (k+1):=by
    rw [List.drop_eq_getElem_cons (by rw [List.length_take];omega),List.getElem_take]
   rw [decide_eq_true (by omega),cond_true,q0i (by omega),Option.bind_some,q0i hj,Option.bind_some,hd,List.any_cons]
   by_cases e:wn[k].1=wn[j].1
   ·rw [decide_eq_true e,cond_true,Bool.true_or,if_pos rfl]
   ·rw [decide_eq_false e,cond_false,Bool.false_or,q0a,q03 (by omega)]
    exact qt2 n ms tg wn od j hj hwn at_ a8 a9 a10 a11 fr m (k+1) (by omega) (by omega)
  ·obtain rfl:k=j:=by omega
   rw [decide_eq_false (by omega),cond_false,List.drop_of_length_le (by rw [List.length_take];omega),List.any_nil,if_neg Bool.false_ne_true]
theorem qsf (n:Nat) (ms:List MD) (tg:List TgD) (wn:List WnD) (od ch:List Int) (hms:ms.length<=1000) (hch:ch.length<=1000) (hwn:wn.length<=1000) (hn:1000<n) : ∀m j:Nat,j<=wn.length->wn.length - j<m ->
  q1o n m ms tg wn od (j:Int) (ch++iL (j9u ms (wn.take j)))=some (if q3c ms (wn.take j) (wn.drop j)=0 then Sum.inr ((ms,(tg,(wn,(od,((),()))))),((),(ch++iL (j9u ms wn),())))
   else Sum.inl (((),(q3c ms (wn.take j) (wn.drop j),())),((),())))
 | 0,j,_,h=>absurd h (Nat.not_lt_zero _)
 | m+1,j,hj,h=>by
  rw [qeb]
  unfold qak
  by_cases c:j<wn.length
  ·have htk:wn.take (j+1)=wn.take j ++ [wn[j]]:=List.take_succ_eq_append_getElem c
   have ih:=qsf n ms tg wn od ch hms hch hwn hn m (j+1) (by omega) (by omega)
   have hal:=juq ms (wn.take j)
   rw [List.length_take] at hal
   rw [htk] at ih
   rw [decide_eq_true (by omega),cond_true,q0i c,Option.bind_some,j6d n ms _ (by omega) hn,Option.bind_some,Option.bind_some,Option.bind_some,List.drop_eq_getElem_cons c,q3c]
   cases hp:q39 ms wn[j].1 with
   | none=>rw [qyg hp];rfl
   | some i =>
    obtain ⟨hi,hpi⟩:=q7q hp
    rw [qwf hp,decide_eq_false (by omega),cond_false,if_pos (Option.isSome_some)]
    unfold jlb
    by_cases c1:wn[j].2<1
    ·rw [decide_eq_true c1,cond_true,decide_eq_false (p:=1<=wn[j].2) (by omega),Bool.false_and,if_neg Bool.false_ne_true];rfl
    rw [decide_eq_false c1,cond_false,decide_eq_true (p:=1<=wn[j].2) (by omega),Bool.true_and]
    by_cases c2:3<wn[j].2
    ·rw [decide_eq_true c2,cond_true,decide_eq_false (p:=wn[j].2<=3) (by omega),if_neg Bool.false_ne_true];rfl
    rw [decide_eq_false c2,cond_false,decide_eq_true (p:=wn[j].2<=3) (by omega),if_pos rfl]
    have h1:=qt2 n ms tg wn od j c hwn (i:Int) wn (j:Int) wn[j].2 false (ch++iL (j9u ms (wn.take j))) n 0 (Nat.zero_le _) (by omega)
    rw [List.drop_zero] at h1
    have h1':q1q n n ms tg wn od (j:Int) (i:Int) 0 wn (j:Int) wn[j].2 false (ch++iL (j9u ms (wn.take j)))=_:=h1
    rw [h1',Option.bind_some]
    cases ha:(wn.take j).any (fun y=>decide (y.1=wn[j].1)) with
    | true=>rw [if_pos rfl,if_pos rfl];rfl
    | false =>
     rw [if_neg Bool.false_ne_true,if_neg Bool.false_ne_true,Sum.elim_inr]
     show (ql1 8 (ch++iL (j9u ms (wn.take j))) [(i:Int)]).bind _=_
     have hap:(ch++iL (j9u ms (wn.take j))) ++ [(i:Int)]=ch++iL (j9u ms (wn.take j ++ [wn[j]])):=by
      rw [k18 hp,jma,List.append_assoc];rfl
     rw [q3u (by rw [List.length_append,q1h,List.length_singleton];omega),Option.bind_some,hap]
     show q0f (IntKind.wrap .i64 ((j:Int)+1)) _=_
     rw [q0a,q03 (by omega)]
     exact ih
  ·obtain rfl:j=wn.length:=by omega
   rw [decide_eq_false (by omega),cond_false,List.drop_length,List.take_length];rfl
theorem qfi (n:Nat) (ms:List MD) (tg:List TgD) (wn:List WnD) (O U:List Nat) (hl:SmL ms) (hO : ∀k∈O,k<ms.length) (hOl:O.length<=1000) (hU:U.length<=1000) (hwn:wn.length<=1000) (htg:tg.length<=1000) (hn:1000000<n) : ∀(m j:Nat) (acc:List RlD),acc.length<=j->j<=O.length->O.length - j<m ->
  q1d n m ms tg wn (iL O) (iL U) (j:Int) acc=some (if jrv ms tg wn ((O.drop j).filter U.contains)=0 then Sum.inr ((((),()),((),(acc++((O.drop j).filter U.contains).map (fun k=>(k45 ms tg wn k).1),())))) else Sum.inl (((),(jrv ms tg wn ((O.drop j).filter U.contains),())),((),())))
 | 0,j,_,_,_,h=>absurd h (Nat.not_lt_zero _)
 | m+1,j,acc,hac,hj,h=>by
  rw [qed]
  unfold qan
  rw [q1h]
  by_cases c:j<O.length
  ·have hx:q0s (iL O) (j:Int)=some ((O[j]:Nat):Int):=by rw [q0i (by rw [q1h];exact c)];simp [iL]
   have hk:=hO _ (List.getElem_mem c)
   have hin:decide (((O[j]:Nat):Int)∈iL U)=U.contains O[j]:=by
    rw [Bool.eq_iff_iff,decide_eq_true_iff,List.contains_iff_mem];exact jls
   rw [decide_eq_true (by omega),cond_true,hx,Option.bind_some,q3x n _ _ (by rw [q1h];omega) (by omega),Option.bind_some,hin,List.drop_eq_getElem_cons c,List.filter_cons]
   generalize O[j]=k at hk ⊢
   cases U.contains k with
   | false =>
    rw [Bool.not_false,cond_true,q0a,q03 (by omega),if_neg Bool.false_ne_true]
    exact qfi n ms tg wn O U hl hO hOl hU hwn htg hn m (j+1) acc (by omega) (by omega) (by omega)
   | true =>
    have hp:=(hl.2 _ (List.getElem_mem hk)).1
    rw [Bool.not_true,cond_false,Option.bind_some,q0i hk,Option.bind_some,j9h n wn _ (by omega) (by omega),Option.bind_some,jdj n _ tg _ (by omega) (by omega) hn,Option.bind_some,if_pos rfl,jrv,jl7 tg wn hk]
    by_cases e:(j1l ms[k].2.1 tg (qhy wn ms[k].2.1)).2=0
    ·rw [decide_eq_true e,Bool.not_true,cond_false,Option.bind_some,q3u (by rw [List.length_singleton];omega),Option.bind_some,q0a,q03 (by omega)]
     refine (qfi n ms tg wn O U hl hO hOl hU hwn htg hn m (j+1) _ (by rw [List.length_append,List.length_singleton];omega) (by omega) (by omega)).trans ?_
     rw [if_pos e,List.map_cons,jl7 tg wn hk,List.append_assoc,List.singleton_append]
    ·rw [decide_eq_false e,Bool.not_false,cond_true,if_neg e,if_neg e]
  ·obtain rfl:j=O.length:=by omega
   rw [decide_eq_false (by omega),cond_false,List.drop_length,List.filter_nil]
   show _=some (if (0:Int)=0 then Sum.inr ((((),()),((),(acc ++ [],())))) else _)
   rw [if_pos rfl,List.append_nil]
theorem qu9 (n:Nat) (ms:List MD) (tg:List TgD) (ch:List Int) (wn:List WnD) (U:List Nat) (hl:SmL ms) (hch:ch.length<=100) (hw:wn.length<=100) (htg:tg.length<=1000) (hn:1000000<n)
  (hU:qc0 ms=0->q3c ms [] wn=0->IsF ms.length (UpP ms (ch++iL (j9u ms wn))) U):q47 n ms tg ch wn=some (jpj ms tg wn U):=by
 unfold q47 jpj
 rw [j9c n ms hl (by omega),Option.bind_some]
 by_cases ho:(q3z ms).2=0
 case neg=>rw [if_neg ho,decide_eq_false ho];rfl
 obtain ⟨hc,ho1,ho2⟩:=qzm ho
 have h12:=qeo hc
 have h0:=qsf n ms tg wn (q3z ms).1 ch (by omega) (by omega) (by omega) (by omega) n 0 (Nat.zero_le _) (by omega)
 rw [List.take_zero,List.drop_zero] at h0
 have h0':q1o n n ms tg wn (q3z ms).1 0 (ch ++ [])=_:=h0
 rw [List.append_nil] at h0'
 rw [if_pos ho,decide_eq_true ho,Bool.not_true,cond_false,q3u (by simp;omega),Option.bind_some,List.nil_append,h0',Option.bind_some]
 by_cases he:q3c ms [] wn=0
 case neg=>rw [if_neg he,if_neg he];rfl
 have hal:=juq ms wn
 have hol:=j6t ms
 obtain ⟨V,v1,_,v3⟩:=jsr n ms (ch++iL (j9u ms wn)) hl (by rw [List.length_append,q1h];omega) (by omega)
 have hV:V=U:=(v3 hc).eq (hU hc he) fun k _=>Iff.rfl
 subst hV
 have hVl:=(v3 hc).lt
 have h2:=qfi n ms tg wn (j5w ms) V hl (jlu ms).lt (by omega) (by omega) (by omega) htg hn n 0 [] (Nat.le_refl _) (Nat.zero_le _) (by omega)
 rw [List.drop_zero,List.nil_append] at h2
 have h2':q1d n n ms tg wn (iL (j5w ms)) (iL V) 0 []=_:=h2
 rw [if_pos he,if_pos he,Sum.elim_inr]
 show (qw0 n ms (ch++iL (j9u ms wn))).bind _=_
 rw [v1,Option.bind_some]
 show (q1d n n ms tg wn (q3z ms).1 (iL V) 0 []).bind _=_
 rw [ho1,h2',Option.bind_some]
 unfold k1n k79
 by_cases hr:jrv ms tg wn ((j5w ms).filter V.contains)=0
 ·rw [if_pos hr,if_pos hr];rfl
 ·rw [if_neg hr,if_neg hr];rfl
end Go.Proofs.YtggoebaobojmjaaGreatDoor.AM
