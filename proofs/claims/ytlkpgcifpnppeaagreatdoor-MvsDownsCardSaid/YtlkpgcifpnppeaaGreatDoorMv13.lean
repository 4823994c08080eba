
import Derived.Test.YtlkpgcifpnppeaaGreatDoorMv10
import Derived.Test.YtlkpgcifpnppeaaGreatDoorMv12
import Derived.Test.YtlkpgcifpnppeaaGreatDoorMv11
set_option linter.unusedVariables false
set_option linter.unusedSimpArgs false
namespace Go.Proofs.YtlkpgcifpnppeaaGreatDoor.AM
open Go.RowKit
theorem qnf (n:Nat) (a b:Int):q9h n a b=some (q9c a b):=by
 unfold q9h qtv q9c
 simp only [decide_true,Bool.not_true,Option.bind_some,cond_false]
 by_cases h1:a<b
 ·simp [h1]
 ·by_cases h2:b<a
  ·simp [h1,h2]
  ·simp [h1,h2]
def q90:List Int->Int
 | []=>0
 | x::l=>or2 x (q90 l)
theorem qqr (n:Nat) (l:List Int) (hL:l.length<=1000000) : ∀m j:Nat,j<=l.length->l.length - j<m->q8m n m 0 l ((l.length:Nat):Int) (j:Int)=some (if q90 (l.drop j)=0 then Sum.inr (((0:Int),()),((),())) else Sum.inl ((q90 (l.drop j),()),((),())))
 | 0,j,_,h=>absurd h (Nat.not_lt_zero _)
 | m+1,j,hj,h=>by
  rw [qj0]
  unfold qsv
  by_cases c0:j<l.length
  ·have c0':((j:Nat):Int)<((l.length:Nat):Int):=by omega
   have ih:=qqr n l hL m (j+1) (by omega) (by omega)
   have hd:l.drop j=l[j]::l.drop (j+1):=(List.drop_eq_getElem_cons c0)
   simp only [c0',decide_true,cond_true,q0a c0,Option.bind_some,q08,q00 (show j<4611686018427387904 by omega),ih,hd,q90,or2]
   by_cases h0:l[j]=0
   ·simp [h0]
   ·simp [h0]
  ·have c0' : ¬ ((j:Nat):Int)<((l.length:Nat):Int):=by omega
   have:l.drop j = []:=List.drop_eq_nil_of_le (by omega)
   simp [c0',this,q90]
theorem qri (n:Nat) (l:List Int) (hL:l.length<=1000000) (hn:l.length<n):qnb n l=some (q90 l):=by
 unfold qnb
 have:=qqr n l hL n 0 (Nat.zero_le _) (by omega)
 rw [show ((0:Nat):Int)=(0:Int) from rfl] at this
 rw [this,List.drop_zero]
 by_cases h:q90 l=0
 ·simp [h]
 ·simp [h]
theorem j8i (n:Nat) (a b:Yy) (ha:a.length<=1000000) (hb:b.length<=1000000) (hn:a.length<n/\b.length<n/\3<=n):qtr n a b=some (jge a b):=by
 unfold qtr jge jld q6q
 rw [q9l n a ha hn.1,q9l n b hb hn.2.1]
 simp only [Option.bind_some,qnf,q66]
 cases q3g a with
 | false=>cases q3g b with
  | false =>
   simp only [cond_false,Bool.false_eq_true,if_false]
   unfold qg4 q9c or2
   simp
  | true =>
   simp only [cond_false,cond_true,Bool.false_eq_true,if_false,if_true]
   unfold qg4 q9c or2
   simp
 | true=>cases q3g b with
  | false =>
   simp only [cond_false,cond_true,Bool.false_eq_true,if_false,if_true]
   unfold qg4 q9c or2
   simp
  | true =>
   simp only [cond_true,if_true]
   rw [qri n _ (by simp) (by simp;omega)]
   simp only [Option.bind_some,q90]
   unfold qg4
   have e0:q9c (0:Int) 0=0:=by decide
   dsimp only
   rw [e0]
   unfold or2
   simp only [if_true]
   split
   ·split<;>simp_all
   ·rfl
theorem qib (n:Nat) (l1 l2:List Yy) (h1:l1.length<=1000000) (h2:l2.length<=1000000) (hw : ∀w,w∈l1\/w∈l2->w.length<=1000000/\w.length<n) (hn:3<=n) : ∀m j:Nat,j<=l1.length->j<=l2.length->l1.length - j<m ->
  ((q5m n m l1 l2 l1 ((l1.length:Nat):Int) (j:Int)).bind fun (o5:((Int×Unit)×Unit×Unit)⊕(((List Yy)×((List Yy)×Unit))×Unit×Unit))=>Sum.elim (fun (q6:(Int×Unit)×Unit×Unit)=>some q6.1.1) (fun (q7:((List Yy)×((List Yy)×Unit))×Unit×Unit)=>(bif decide (((List.length q7.1.1:Nat):Int)<((List.length q7.1.2.1:Nat):Int)) then some (-1:Int) else some (0:Int))) o5)=some (cmpL jge (l1.drop j) (l2.drop j))
 | 0,j,_,_,h=>absurd h (Nat.not_lt_zero _)
 | m+1,j,hj,hj2,h=>by
  rw [qfl]
  unfold qhk
  by_cases c0:j<l1.length
  ·have c0':((j:Nat):Int)<((l1.length:Nat):Int):=by omega
   have hd:l1.drop j=l1[j]::l1.drop (j+1):=(List.drop_eq_getElem_cons c0)
   by_cases c1:j<l2.length
   ·have c1' : ¬ ((l2.length:Nat):Int)<=((j:Nat):Int):=by omega
    have hd2:l2.drop j=l2[j]::l2.drop (j+1):=(List.drop_eq_getElem_cons c1)
    have ih:=qib n l1 l2 h1 h2 hw hn m (j+1) (by omega) (by omega) (by omega)
    have k1:=hw l1[j] (Or.inl (List.getElem_mem c0))
    have k2:=hw l2[j] (Or.inr (List.getElem_mem c1))
    have hp:=j8i n l1[j] l2[j] k1.1 k2.1 ⟨k1.2,k2.2,hn⟩
    rw [hd,hd2,cmpL]
    simp only [c0',decide_true,cond_true,q0a c0,Option.bind_some,c1',decide_false,cond_false,q0a c1,hp,q08,q00 (show j<4611686018427387904 by omega)]
    unfold or2
    by_cases h0:jge l1[j] l2[j]=0
    ·simp only [h0,decide_true,Bool.not_true,cond_false,if_true]
     exact ih
    ·simp only [h0,decide_false,Bool.not_false,cond_true,if_false,Option.bind_some,Sum.elim_inl]
   ·have c1':((l2.length:Nat):Int)<=((j:Nat):Int):=by omega
    have hd2:l2.drop j = []:=List.drop_eq_nil_of_le (by omega)
    rw [hd,hd2,cmpL]
    simp only [c0',decide_true,cond_true,q0a c0,Option.bind_some,c1',Sum.elim_inl]
  ·have c0' : ¬ ((j:Nat):Int)<((l1.length:Nat):Int):=by omega
   have hd:l1.drop j = []:=List.drop_eq_nil_of_le (by omega)
   simp only [c0',decide_false,cond_false,Option.bind_some,Sum.elim_inr]
   have hje:j=l1.length:=by omega
   rw [hd]
   by_cases c1:j<l2.length
   ·have hd2:l2.drop j=l2[j]::l2.drop (j+1):=(List.drop_eq_getElem_cons c1)
    have c2:((l1.length:Nat):Int)<((l2.length:Nat):Int):=by omega
    rw [hd2]
    simp only [c2,decide_true,cond_true,cmpL]
   ·have hd2:l2.drop j = []:=List.drop_eq_nil_of_le (by omega)
    have c2 : ¬ ((l1.length:Nat):Int)<((l2.length:Nat):Int):=by omega
    rw [hd2]
    simp only [c2,decide_false,cond_false,cmpL]
theorem qxw (n:Nat) (l1 l2:List Yy) (h1:l1.length<=1000000) (h2:l2.length<=1000000) (hw : ∀w,w∈l1\/w∈l2->w.length<=1000000/\w.length<n) (hn:3<=n) (hn2:l1.length<n):qky n l1 l2 ()=some (cmpL jge l1 l2):=by
 have:=qib n l1 l2 h1 h2 hw hn n 0 (Nat.zero_le _) (Nat.zero_le _) (by omega)
 rw [List.drop_zero,List.drop_zero] at this
 exact this
theorem jd2 (n:Nat) (a b:Yy) (ha:a.length<=100000) (hb:b.length<=100000) (hn:a.length+3<n/\b.length+3<n):j7h n a b=some (qad a b):=by
 unfold j7h
 by_cases hab:a=b
 ·subst hab
  rw [qrc.refl]
  simp
 ·simp only [hab,decide_false,cond_false]
  by_cases h1:a = []
  ·have hb0:b ≠ []:=fun e=>hab (by rw [h1,e])
   simp only [h1,decide_true,cond_true]
   unfold qad qg4 jas q9c or2
   simp [hb0]
  ·simp only [h1,decide_false,cond_false]
   by_cases h2:b = []
   ·simp only [h2,decide_true,cond_true]
    unfold qad qg4 jas q9c or2
    simp [h1]
   ·simp only [h2,decide_false,cond_false]
    have s1:qcy a [46]=some (spl 46 [] a):=if_pos (by omega)
    have s2:qcy b [46]=some (spl 46 [] b):=if_pos (by omega)
    have k1:=q6i 46 a []
    have k2:=q6i 46 b []
    rw [s1,s2]
    simp only [Option.bind_some]
    rw [qxw n _ _ (by omega) (by omega) (fun w hw=>by
     rcases hw with hw|hw
     ·have:=q9a 46 a [] w hw;simp at this;omega
     ·have:=q9a 46 b [] w hw;simp at this;omega) (by omega) (by omega)]
    unfold qad jas
    simp only [h1,h2,if_false]
    unfold qg4
    have e0:q9c (0:Int) 0=0:=by decide
    dsimp only
    rw [e0]
    unfold or2
    simp
theorem qfs (n:Nat) (a b:VD) (hn:100<=n):q7y n a b=some (q3d a b):=by
 unfold q7y q3d
 rw [qdy n a (by omega),qdy n b (by omega)]
 cases hca:q06 a with
 | false=>rfl
 | true=>cases hcb:q06 b with
  | false=>rfl
  | true =>
   obtain ⟨-,-,-,h4,-⟩:=q6g hca
   obtain ⟨-,-,-,k4,-⟩:=q6g hcb
   have t1:=qj4 h4
   have t2:=qj4 k4
   simp only [Option.bind_some,Bool.not_true,cond_false,qnf]
   rw [jd2 n _ _ (by omega) (by omega) ⟨by omega,by omega⟩]
   simp only [Option.bind_some]
   rw [qri n _ (by simp) (by simp;omega)]
   simp only [Option.bind_some,q90,Bool.and_self,if_true]
   have z0 : ∀x:Int,or2 x 0=x:=fun x=>by unfold or2;split<;>simp_all
   rw [z0]
   rfl
def q10 (a b:QD):Int:=if cmpL qix a.1 b.1=0 then q3d a.2 b.2 else cmpL qix a.1 b.1
theorem j97 (n:Nat) (x y:Int) (hn:3<=n):qju n [x,y]=some (if x=0 then y else x):=by
 obtain ⟨n,rfl⟩ : ∃ k,n=k+3:=⟨n - 3,by omega⟩
 unfold qju
 rw [show q1c (n+3) (n+3) 0 [x,y] ((([x,y]:List Int).length:Nat):Int) 0=q1c (n+3) (n+2+1) 0 [x,y] 2 0 from rfl,q4f]
 unfold qfa
 by_cases hx:x=0
 ·subst hx
  rw [show q1c (n+3) (n+2)=q1c (n+3) (n+1+1) from rfl]
  have e2:q1c (n+3) (n+1+1) 0 [0,y] 2 1=if y=0 then some (Sum.inr ((0,()),((),()))) else some (Sum.inl ((y,()),((),()))):=by
   rw [q4f]
   unfold qfa
   by_cases hy:y=0
   ·subst hy
    rw [if_pos rfl]
    show q1c (n+3) (n+1) 0 [0,0] 2 2=_
    rw [q4f];rfl
   ·rw [if_neg hy]
    show (bif !decide (y=0) then some (Sum.inl ((y,()),((),()))) else _)=_
    rw [decide_eq_false hy];rfl
  show (q1c (n+3) (n+1+1) 0 [0,y] 2 1).bind _=_
  rw [e2]
  by_cases hy:y=0
  ·subst hy;rfl
  ·rw [if_neg hy,if_pos rfl];rfl
 ·show ((bif !decide (x=0) then some (Sum.inl ((x,()),((),()))) else _).bind _)=_
  rw [decide_eq_false hx,if_neg hx];rfl
theorem j1p (a b:Yy):q6q a b=some (cmpL qix a b):=by unfold q6q;rw [q66]
theorem qmd (n:Nat) (a b:QD) (hn:100<=n):qo4 n a b=some (q10 a b):=by
 unfold qo4 q10
 rw [j1p,Option.bind_some,qfs n _ _ hn,Option.bind_some,j97 n _ _ (by omega),Option.bind_some]
def qok (q:QD):List QD->List QD
 | []=>[q]
 | x::l=>if cmpL qix q.1 x.1<0 then q::x::l else x::qok q l
def j8c:List QD->List QD
 | []=>[]
 | q::l=>qok q (j8c l)
theorem q8d (q:QD) : ∀l,(qok q l).Perm (q::l)
 | []=>List.Perm.refl _
 | x::l=>by
  unfold qok
  split
  ·exact List.Perm.refl _
  ·exact ((q8d q l).cons x).trans (List.Perm.swap q x l)
theorem q68 : ∀l,(j8c l).Perm l
 | []=>List.Perm.refl _
 | q::l=>(q8d q (j8c l)).trans ((q68 l).cons q)
def ltP (a b:QD):Prop:=cmpL qix a.1 b.1<0
theorem qg0 {a b c:QD} (h1:ltP a b) (h2:ltP b c):ltP a c:=by
 have hc:=q1j q1o
 unfold ltP at *
 have t:=hc.tr a.1 b.1 c.1 (by omega) (by omega)
 by_cases h:cmpL qix a.1 c.1=0
 ·have e:=hc.eq _ _ h
  rw [e] at h1
  have:=hc.anti c.1 b.1
  omega
 ·omega
theorem qy7 {a b:QD} (h:a.1≠b.1) (h1 : ¬ ltP a b):ltP b a:=by
 have hc:=q1j q1o
 unfold ltP at *
 have:=hc.anti a.1 b.1
 have h2:cmpL qix a.1 b.1≠0:=fun e=>h (hc.eq _ _ e)
 omega
theorem qan (q:QD) : ∀l:List QD,l.Pairwise ltP->(∀x∈l,x.1≠q.1)->(qok q l).Pairwise ltP
 | [],_,_=>by unfold qok;exact List.pairwise_singleton _ _
 | x::l,h,hne=>by
  obtain ⟨h1,h2⟩:=List.pairwise_cons.1 h
  unfold qok
  split
  ·rename_i hlt
   refine List.pairwise_cons.2 ⟨fun y hy=>?_,h⟩
   rcases List.mem_cons.1 hy with rfl|hy
   ·exact hlt
   ·exact qg0 hlt (h1 y hy)
  ·rename_i hlt
   refine List.pairwise_cons.2 ⟨fun y hy=>?_,qan q l h2 fun z hz=>hne z (List.mem_cons_of_mem _ hz)⟩
   rcases List.mem_cons.1 ((q8d q l).mem_iff.1 hy) with rfl|hy
   ·exact qy7 (fun e=>hne x (List.mem_cons_self ..) e.symm) hlt
   ·exact h1 y hy
theorem q6c : ∀l:List QD,l.Pairwise (fun a b=>a.1≠b.1)->(j8c l).Pairwise ltP
 | [],_=>List.Pairwise.nil
 | q::l,h=>by
  obtain ⟨h1,h2⟩:=List.pairwise_cons.1 h
  exact qan q _ (q6c l h2) fun x hx e=>h1 x ((q68 l).mem_iff.1 hx) e.symm
theorem q7s (a:QD) : ¬ ltP a a:=by unfold ltP;rw [(q1j q1o).refl];omega
theorem qha : ∀{l m:List QD},l.Perm m->l.Pairwise ltP->m.Pairwise ltP->l=m
 | [],m,hp,_,_=>(List.Perm.nil_eq hp)
 | a::l,[],hp,_,_=>by have:=hp.length_eq;simp at this
 | a::l,b::m,hp,h1,h2=>by
  obtain ⟨ha,hl⟩:=List.pairwise_cons.1 h1
  obtain ⟨hb,hm⟩:=List.pairwise_cons.1 h2
  have e:a=b:=by
   rcases List.mem_cons.1 (hp.mem_iff.1 (List.mem_cons_self ..)) with e|e
   ·exact e
   ·rcases List.mem_cons.1 (hp.mem_iff.2 (List.mem_cons_self ..)) with e2|e2
    ·exact e2.symm
    ·exact absurd (qg0 (ha b e2) (hb a e)) (q7s a)
  subst e
  rw [qha (List.perm_cons a |>.1 hp) hl hm]
theorem qa4 (n:Nat) (s:Yy) (c:UInt8) (hs:s.length<=1000000) : ∀(m i fr:Nat) (out:List Yy),i<=s.length->s.length - i+1<m->fr<=i->out.length<=i ->
  q5n n m s ((c.toNat:Nat):Int) (fr:Int) (i:Int) out=some (((),()),((),(out++spl c ((s.drop fr).take (i - fr)) (s.drop i),())))
 | 0,i,fr,_,_,h,_,_=>absurd h (Nat.not_lt_zero _)
 | m+1,i,fr,out,hi,h,hf,ho=>by
  rw [q6z]
  unfold qb3
  have c0:((i:Nat):Int)<=((s.length:Nat):Int):=by omega
  have w1:=q00 (show i<4611686018427387904 by omega)
  have s1:qoa s ((fr:Nat):Int) ((i:Nat):Int)=some ((s.drop fr).take (i - fr)):=sub_le hf hi
  have a1:q7r 16 out [(s.drop fr).take (i - fr)]=some (out ++ [(s.drop fr).take (i - fr)]):=q1x (by simp;omega)
  by_cases c1:i=s.length
  ·have c1':((i:Nat):Int)=((s.length:Nat):Int):=by omega
   have hd:s.drop i = []:=List.drop_eq_nil_of_le (by omega)
   simp only [c0,c1',decide_true,cond_true]
   rw [<-c1',s1,Option.bind_some,a1,Option.bind_some,hd]
   simp only [q08,w1]
   cases m with
   | zero=>omega
   | succ m =>
    rw [q6z]
    unfold qb3
    have c2 : ¬ ((i+1:Nat):Int)<=((s.length:Nat):Int):=by omega
    simp only [c2,Int.le_refl,decide_true,decide_false,cond_true,cond_false]
    rfl
  ·have c1' : ¬ ((i:Nat):Int)=((s.length:Nat):Int):=by omega
   have hi':i<s.length:=by omega
   have hd:s.drop i=s[i]::s.drop (i+1):=List.drop_eq_getElem_cons hi'
   simp only [c0,c1',decide_true,decide_false,cond_true,cond_false,q6n hi',Option.bind_some,q08,w1,s1,a1]
   have hc:decide (((s[i].toNat:Nat):Int)=((c.toNat:Nat):Int))=decide (s[i]=c):=by
    apply decide_eq_decide.2
    constructor
    ·intro hh;exact UInt8.toNat_inj.1 (by omega)
    ·intro hh;rw [hh]
   rw [hc,hd,spl]
   by_cases c2:s[i]=c
   ·simp only [c2,decide_true,cond_true,if_true]
    rw [qa4 n s c hs m (i+1) (i+1) (out ++ [(s.drop fr).take (i - fr)]) (by omega) (by omega) (Nat.le_refl _) (by simp;omega)]
    simp
   ·simp only [c2,decide_false,cond_false,if_false]
    rw [qa4 n s c hs m (i+1) fr out (by omega) (by omega) (by omega) (by omega)]
    have e1:(s.drop fr).take (i+1 - fr)=(s.drop fr).take (i - fr) ++ [s[i]]:=by
     rw [show i+1 - fr=(i - fr)+1 from by omega,List.take_add_one,List.getElem?_drop,show fr+(i - fr)=i from by omega,List.getElem?_eq_getElem hi']
     rfl
    rw [e1]
theorem q8b (n:Nat) (s:Yy) (c:UInt8) (hs:s.length<=1000000) (hn:s.length+1<n):q2b n s ((c.toNat:Nat):Int)=some (spl c [] s):=by
 unfold q2b
 have h:=qa4 n s c hs n 0 0 [] (Nat.zero_le _) (by omega) (Nat.le_refl _) (Nat.zero_le _)
 rw [show ((0:Nat):Int)=(0:Int) from rfl] at h
 rw [h]
 simp
theorem qhx (n:Nat) (s:Yy) (hL:s.length<=1000000) : ∀m j:Nat,j<=s.length->s.length - j<m->q5w n m s (j:Int)=some (if (s.drop j).all q1v=true then Sum.inr ((s,()),((),())) else Sum.inl ((false,()),((),())))
 | 0,j,_,h=>absurd h (Nat.not_lt_zero _)
 | m+1,j,hj,h=>by
  rw [qe9]
  unfold qgr
  by_cases c0:j<s.length
  ·have c0':((j:Nat):Int)<((s.length:Nat):Int):=by omega
   have ih:=qhx n s hL m (j+1) (by omega) (by omega)
   have hd:s.drop j=s[j]::s.drop (j+1):=(List.drop_eq_getElem_cons c0)
   simp only [c0',decide_true,cond_true,q6n c0,Option.bind_some,q08,q00 (show j<4611686018427387904 by omega),ih,hd,List.all_cons]
   unfold q1v
   by_cases h1:s[j].toNat<48
   ·have e1:((s[j].toNat:Nat):Int)<48:=by omega
    have e2 : ¬ 48<=s[j].toNat:=by omega
    simp [e1,e2]
   ·have e1 : ¬ ((s[j].toNat:Nat):Int)<48:=by omega
    have e2:48<=s[j].toNat:=by omega
    by_cases h2:57<s[j].toNat
    ·have e3:(57:Int)<((s[j].toNat:Nat):Int):=by omega
     have e4 : ¬ s[j].toNat<=57:=by omega
     simp [e1,e2,e3,e4]
    ·have e3 : ¬ (57:Int)<((s[j].toNat:Nat):Int):=by omega
     have e4:s[j].toNat<=57:=by omega
     simp [e1,e2,e3,e4]
  ·have c0' : ¬ ((j:Nat):Int)<((s.length:Nat):Int):=by omega
   have:s.drop j = []:=List.drop_eq_nil_of_le (by omega)
   simp [c0',this]
theorem qao (n:Nat) (s:Yy) (hL:s.length<=1000000) (hn:s.length<n):q89 n s=some (q3g s):=by
 unfold q89 q3g
 have:=qhx n s hL n 0 (Nat.zero_le _) (by omega)
 rw [show ((0:Nat):Int)=(0:Int) from rfl] at this
 rw [this,List.drop_zero]
 cases s.all q1v<;>rfl
theorem j4t (c:UInt8):j8y c=((decide ((97:Int)<=((c.toNat:Nat):Int))&&decide (((c.toNat:Nat):Int)<=(122:Int)))||(decide ((65:Int)<=((c.toNat:Nat):Int))&&decide (((c.toNat:Nat):Int)<=(90:Int)))||(decide ((48:Int)<=((c.toNat:Nat):Int))&&decide (((c.toNat:Nat):Int)<=(57:Int)))||decide (((c.toNat:Nat):Int)=(45:Int))):=by
 unfold j8y q1v
 have h1:decide ((97:Int)<=((c.toNat:Nat):Int))=decide (97<=c.toNat):=decide_eq_decide.2 (by omega)
 have h2:decide (((c.toNat:Nat):Int)<=(122:Int))=decide (c.toNat<=122):=decide_eq_decide.2 (by omega)
 have h3:decide ((65:Int)<=((c.toNat:Nat):Int))=decide (65<=c.toNat):=decide_eq_decide.2 (by omega)
 have h4:decide (((c.toNat:Nat):Int)<=(90:Int))=decide (c.toNat<=90):=decide_eq_decide.2 (by omega)
 have h5:decide (((c.toNat:Nat):Int)=(45:Int))=decide (c.toNat=45):=decide_eq_decide.2 (by omega)
 have h6:decide ((48:Int)<=((c.toNat:Nat):Int))=decide (48<=c.toNat):=decide_eq_decide.2 (by omega)
 have h7:decide (((c.toNat:Nat):Int)<=(57:Int))=decide (c.toNat<=57):=decide_eq_decide.2 (by omega)
 rw [h1,h2,h3,h4,h5,h6,h7]
theorem qbx (n:Nat) (z:Bool) (l:List Yy) (i:Nat) (hi:i<l.length) (w:Yy) (hw:l[i]=w) (hL:w.length<=1000000) : ∀m j:Nat,j<=w.length->w.length - j<m->q5y n m z l (i:Int) (j:Int)=some (if (w.drop j).all j8y=true then Sum.inr ((z,(l,((i:Int),()))),((),())) else Sum.inl ((false,()),((),())))
 | 0,j,_,h=>absurd h (Nat.not_lt_zero _)
 | m+1,j,hj,h=>by
  rw [qee]
  unfold qh3
  have e0:q0w l ((i:Nat):Int)=some w:=by rw [q0a hi,hw]
  by_cases c0:j<w.length
  ·have c0':((j:Nat):Int)<((w.length:Nat):Int):=by omega
   have ih:=qbx n z l i hi w hw hL m (j+1) (by omega) (by omega)
   have hd:w.drop j=w[j]::w.drop (j+1):=(List.drop_eq_getElem_cons c0)
   simp only [e0,Option.bind_some,c0',decide_true,cond_true,q6n c0,q08,q00 (show j<4611686018427387904 by omega),ih,hd,List.all_cons,j4t]
   cases decide ((97:Int)<=((w[j].toNat:Nat):Int))<;>cases decide (((w[j].toNat:Nat):Int)<=(122:Int))<;>cases decide ((65:Int)<=((w[j].toNat:Nat):Int))<;>cases decide (((w[j].toNat:Nat):Int)<=(90:Int))<;>cases decide ((48:Int)<=((w[j].toNat:Nat):Int))<;>cases decide (((w[j].toNat:Nat):Int)<=(57:Int))<;>cases decide (((w[j].toNat:Nat):Int)=(45:Int))<;>rfl
  ·have c0' : ¬ ((j:Nat):Int)<((w.length:Nat):Int):=by omega
   have:w.drop j = []:=List.drop_eq_nil_of_le (by omega)
   simp only [e0,Option.bind_some,c0',decide_false,cond_false,this,List.all_nil,if_true]
def q7m (z:Bool) (w:Yy):Bool:=q2s w&&(z || !(q3g w&&(decide (1<w.length)&&decide (w.head? = some 48))))
theorem qz4 (w:Yy):q7m true w=q2s w:=by unfold q7m;simp
theorem qt0 (w:Yy):q7m false w=q5l w:=by
 unfold q7m q5l
 cases w with
 | nil=>simp [q2s]
 | cons c r =>
  cases hn:q3g (c::r) with
  | false=>simp
  | true =>
   by_cases hc:c=48
   ·subst hc
    cases r with
    | nil=>simp
    | cons d r=>simp
   ·simp [hc]
theorem qew (n:Nat) (z:Bool) (l:List Yy) (hl:l.length<=1000000) (hw : ∀w∈l,w.length<=1000000/\w.length<n) : ∀m i:Nat,i<=l.length->l.length - i<m->q5p n m z l (i:Int)=some (if (l.drop i).all (q7m z)=true then Sum.inr ((),((),())) else Sum.inl ((false,()),((),())))
 | 0,j,_,h=>absurd h (Nat.not_lt_zero _)
 | m+1,i,hi,h=>by
  rw [qeh]
  unfold qgu
  by_cases c0:i<l.length
  ·have c0':((i:Nat):Int)<((l.length:Nat):Int):=by omega
   have ih:=qew n z l hl hw m (i+1) (by omega) (by omega)
   have hd:l.drop i=l[i]::l.drop (i+1):=(List.drop_eq_getElem_cons c0)
   have hww:=hw l[i] (List.getElem_mem c0)
   have h1:=qbx n z l i c0 l[i] rfl hww.1 n 0 (Nat.zero_le _) (by omega)
   rw [show ((0:Nat):Int)=(0:Int) from rfl,List.drop_zero] at h1
   rw [hd,List.all_cons]
   simp only [c0',decide_true,cond_true,h1,Option.bind_some]
   rw [show q7m z l[i]=((l[i].all j8y && !decide (l[i] = []))&&(z || !(q3g l[i]&&(decide (1<l[i].length)&&decide (l[i].head? = some 48))))) from rfl]
   cases hs:l[i].all j8y with
   | false=>simp
   | true =>
    simp only [if_true,Sum.elim_inr,q0a c0,Option.bind_some,qao n _ hww.1 hww.2,q08,q00 (show i<4611686018427387904 by omega),ih]
    generalize hx:l[i]=x at hs hww
    cases x with
    | nil=>simp
    | cons c r =>
     have h0:sAt (c::r) (0:Int)=some ((c.toNat:Nat):Int):=q6n (s:=c::r) (j:=0) (by simp)
     have h2:decide (((c.toNat:Nat):Int)=(48:Int))=decide ((c::r).head? = some 48):=decide_eq_decide.2 (by
      simp only [List.head?_cons,Option.some.injEq]
      constructor
      ·intro h;exact UInt8.toNat_inj.1 (by have e48:(48:UInt8).toNat=48:=rfl;rw [e48];omega)
      ·rintro rfl;rfl)
     have h3:decide ((1:Int)<(((c::r).length:Nat):Int))=decide (1<(c::r).length):=decide_eq_decide.2 (by omega)
     have e0:decide (c::r=([]:Yy))=false:=by simp
     simp only [h0,h2,h3,e0,Option.bind_some,cond_false]
     cases z<;>cases q3g (c::r)<;>cases decide (1<(c::r).length)<;>cases decide ((c::r).head? = some 48)<;>simp
  ·have c0' : ¬ ((i:Nat):Int)<((l.length:Nat):Int):=by omega
   have:l.drop i = []:=List.drop_eq_nil_of_le (by omega)
   simp only [c0',decide_false,cond_false,this,List.all_nil,if_true]
theorem qhw (n:Nat) (s:Yy) (z:Bool) (hs:s.length<=100000) (hn:s.length+2<n):q85 n s z=some ((spl 46 [] s).all (q7m z)):=by
 unfold q85
 have e1:q2b n s (46:Int)=some (spl 46 [] s):=q8b n s 46 (by omega) (by omega)
 rw [e1]
 have k:=q6i 46 s []
 have h:=qew n z (spl 46 [] s) (by omega) (fun w hw=>by have:=q9a 46 s [] w hw;simp at this;omega) n 0 (Nat.zero_le _) (by omega)
 rw [show ((0:Nat):Int)=(0:Int) from rfl,List.drop_zero] at h
 simp only [Option.bind_some,h]
 cases (spl 46 [] s).all (q7m z)<;>rfl
theorem je7 (n:Nat) (a:Int):qq1 n a=some (j6y a):=by
 unfold qq1 j6y
 cases decide ((0:Int)<=a)<;>rfl
theorem qd7 (n:Nat) (v:VD) (hn:100<=n):qbn n v=some (q06 v):=by
 unfold qbn q06
 simp only [je7,Option.bind_some]
 cases j6y v.1 with
 | false=>rfl
 | true=>cases j6y v.2.1 with
  | false=>rfl
  | true=>cases j6y v.2.2.1 with
   | false=>rfl
   | true =>
    simp only [Bool.not_true,cond_false,Bool.true_and]
    unfold q7o
    have f1:(q7m true)=q2s:=funext qz4
    have f2:(q7m false)=q5l:=funext qt0
    by_cases c1:(30:Int)<((v.2.2.2.1.length:Nat):Int)
    ·have e1:v.2.2.2.1 ≠ []:=fun e=>by rw [e] at c1;simp at c1
     have e2 : ¬ v.2.2.2.1.length<=30:=by omega
     simp [c1,e1,e2]
    ·by_cases c2:(30:Int)<((v.2.2.2.2.length:Nat):Int)
     ·have e1:v.2.2.2.2 ≠ []:=fun e=>by rw [e] at c2;simp at c2
      have e2 : ¬ v.2.2.2.2.length<=30:=by omega
      simp [c1,c2,e1,e2]
     ·have l1:v.2.2.2.1.length<=30:=by omega
      have l2:v.2.2.2.2.length<=30:=by omega
      have r1:=qhw n v.2.2.2.1 false (by omega) (by omega)
      have r2:=qhw n v.2.2.2.2 true (by omega) (by omega)
      rw [f2] at r1
      rw [f1] at r2
      simp only [c1,c2,decide_false,cond_false,r1,r2,l1,l2,decide_true,Bool.true_and,Option.bind_some]
      by_cases p:v.2.2.2.1 = []
      ·by_cases q:v.2.2.2.2 = []<;>simp [p,q]
      ·by_cases q:v.2.2.2.2 = []
       ·simp only [p,q,decide_false,decide_true,cond_false,cond_true,Bool.false_or,Bool.true_or,Bool.and_true]
        cases (spl 46 [] v.2.2.2.1).all q5l<;>rfl
       ·simp only [p,q,decide_false,decide_true,cond_false,cond_true,Bool.false_or]
        cases (spl 46 [] v.2.2.2.1).all q5l<;>rfl
theorem j9r (n:Nat) (s:Yy) (hL:s.length<=1000000) (hn:s.length<n):qta n s=some (q2l s):=by
 unfold qta q2l
 have hg:=j6o 47 s
 obtain ⟨k,hk⟩ : ∃ k:Nat,q82 47 s+1=(k:Int):=⟨(q82 47 s+1).toNat,by omega⟩
 rw [qr6 n s hL hn]
 simp only [Option.bind_some,q08]
 rw [hk,wrap64 (by omega) (by omega),sub_le (by omega) (Nat.le_refl _)]
 simp only [Option.bind_some,Int.toNat_natCast]
 rw [List.take_of_length_le (by rw [List.length_drop];exact Nat.le_refl _)]
theorem ji8 (s:Yy):(q2q s).length<=s.length:=by unfold q2q;rw [List.length_take];omega
theorem j6p (s:Yy):(q2l s).length<=s.length:=by unfold q2l;rw [List.length_drop];omega
theorem j42 {s:Yy} (h:q1i s=true):q4c s=s.drop 1:=by
 unfold q1i at h
 simp only [Bool.and_eq_true,decide_eq_true_eq] at h
 unfold q4c;rw [if_pos h.1]
theorem j2g (n:Nat) (s:Yy) (hL:s.length<=1000000) (hn:s.length<n):qjv n s=some (q9v s):=by
 have hb:=ji8 s
 have hl:=j6p s
 have e1:qnl s=some (q2q s):=if_pos hL
 have e2:qyz (q2q s)=some (anyS (q2q s)):=if_pos (by omega)
 have e3:qq5 (q2l s)=some (numOf (q4c (q2l s)),qoc (q4c (q2l s))):=if_pos (by omega)
 have e4:j2q s=some (qbt s):=rfl
 unfold qjv q9v okS
 simp only [e1,e2,e3,e4,j9r n s hL hn,qnr n (q2l s) (by omega),Option.bind_some]
 cases qbt s with
 | false=>rfl
 | true=>cases anyS (q2q s) with
  | true=>rfl
  | false=>cases ht:q1i (q2l s) with
   | false=>rfl
   | true =>
    rw [j42 ht]
    cases qoc ((q2l s).drop 1) with
    | false=>rfl
    | true =>
     by_cases h0:q2q s = []
     ·simp [h0]
     ·simp [h0]
theorem j5u (s:Yy):(q9v s).2.2=okS s:=by
 unfold q9v
 cases okS s with
 | false=>rfl
 | true=>cases q1i (q2l s)<;>rfl
def j7u (p:Yy) (v:VD):Bool:=okS p&&(q06 v&&(if (q9v p).2.1=0 then decide (v.1<2) else decide (v.1=(q9v p).2.1)))
theorem j7t (n:Nat) (s:Yy) (v:VD) (hL:s.length<=1000000) (hn:s.length<n) (h4:4<=n):qu1 n s v=some (j7u s v):=by
 unfold qu1 j7u
 rw [j2g n s hL hn]
 simp only [Option.bind_some,j5u,qdy n v h4]
 cases okS s with
 | false=>rfl
 | true=>cases q06 v with
  | false=>rfl
  | true =>
   by_cases h:(q9v s).2.1=0
   ·simp [h]
   ·simp [h]
theorem j1u (c:UInt8):qne c=((decide ((97:Int)<=((c.toNat:Nat):Int))&&decide (((c.toNat:Nat):Int)<=(122:Int)))||(decide ((65:Int)<=((c.toNat:Nat):Int))&&decide (((c.toNat:Nat):Int)<=(90:Int)))||(decide ((48:Int)<=((c.toNat:Nat):Int))&&decide (((c.toNat:Nat):Int)<=(57:Int)))||decide (((c.toNat:Nat):Int)=(45:Int))||decide (((c.toNat:Nat):Int)=(95:Int))||decide (((c.toNat:Nat):Int)=(46:Int))):=by
 unfold qne
 have h6:decide (((c.toNat:Nat):Int)=(95:Int))=decide (c.toNat=95):=decide_eq_decide.2 (by omega)
 have h7:decide (((c.toNat:Nat):Int)=(46:Int))=decide (c.toNat=46):=decide_eq_decide.2 (by omega)
 rw [h6,h7,<-j4t]
theorem qkn (n:Nat) (s:Yy) (hL:s.length<=1000000) : ∀m j:Nat,j<=s.length->s.length - j<m->q7h n m s (j:Int)=some (if (s.drop j).all qne=true then Sum.inr ((s,()),((),())) else Sum.inl ((false,()),((),())))
 | 0,j,_,h=>absurd h (Nat.not_lt_zero _)
 | m+1,j,hj,h=>by
  rw [qge]
  unfold qlc
  by_cases c0:j<s.length
  ·have c0':((j:Nat):Int)<((s.length:Nat):Int):=by omega
   have ih:=qkn n s hL m (j+1) (by omega) (by omega)
   have hd:s.drop j=s[j]::s.drop (j+1):=(List.drop_eq_getElem_cons c0)
   simp only [c0',decide_true,cond_true,q6n c0,Option.bind_some,q08,q00 (show j<4611686018427387904 by omega),ih,hd,List.all_cons]
   rw [j1u]
   generalize (List.drop (j+1) s).all qne=B
   generalize decide ((97:Int)<=((s[j].toNat:Nat):Int))=b1
   generalize decide (((s[j].toNat:Nat):Int)<=(122:Int))=b2
   generalize decide ((65:Int)<=((s[j].toNat:Nat):Int))=b3
   generalize decide (((s[j].toNat:Nat):Int)<=(90:Int))=b4
   generalize decide ((48:Int)<=((s[j].toNat:Nat):Int))=b5
   generalize decide (((s[j].toNat:Nat):Int)<=(57:Int))=b6
   generalize decide (((s[j].toNat:Nat):Int)=(45:Int))=b7
   generalize decide (((s[j].toNat:Nat):Int)=(95:Int))=b8
   generalize decide (((s[j].toNat:Nat):Int)=(46:Int))=b9
   cases b1<;>cases b2<;>cases b3<;>cases b4<;>cases b5<;>cases b6<;>cases b7<;>cases b8<;>cases b9<;>rfl
  ·have c0' : ¬ ((j:Nat):Int)<((s.length:Nat):Int):=by omega
   have:s.drop j = []:=List.drop_eq_nil_of_le (by omega)
   simp [c0',this]
theorem j1w (n:Nat) (s:Yy) (hL:s.length<=1000000) (hn:s.length<n):qjh n s=some (qcs s):=by
 unfold qjh qcs
 have:=qkn n s hL n 0 (Nat.zero_le _) (by omega)
 rw [show ((0:Nat):Int)=(0:Int) from rfl] at this
 rw [this,List.drop_zero]
 cases s.all qne with
 | true =>
  simp only [if_true,Option.bind_some,Sum.elim_inr]
  cases decide (s = [])<;>cases decide (s = [46])<;>cases decide (s = [46,46])<;>rfl
 | false =>
  simp only [Bool.false_eq_true,if_false,Option.bind_some,Sum.elim_inl]
  cases decide (s = [])<;>cases decide (s = [46])<;>cases decide (s = [46,46])<;>rfl
theorem qk7 (n:Nat) (l:List Yy) (hl:l.length<=1000000) (hw : ∀w∈l,w.length<=1000000/\w.length<n) : ∀m j:Nat,j<=l.length->l.length - j<m->q71 n m l (j:Int)=some (if (l.drop j).all qcs=true then Sum.inr ((),((),())) else Sum.inl ((false,()),((),())))
 | 0,j,_,h=>absurd h (Nat.not_lt_zero _)
 | m+1,j,hj,h=>by
  rw [qga]
  unfold qkj
  by_cases c0:j<l.length
  ·have c0':((j:Nat):Int)<((l.length:Nat):Int):=by omega
   have ih:=qk7 n l hl hw m (j+1) (by omega) (by omega)
   have hd:l.drop j=l[j]::l.drop (j+1):=(List.drop_eq_getElem_cons c0)
   have hm:=hw l[j] (List.getElem_mem c0)
   simp only [c0',decide_true,cond_true,q0a c0,Option.bind_some,j1w n l[j] hm.1 hm.2,q08,q00 (show j<4611686018427387904 by omega),ih,hd,List.all_cons]
   cases qcs l[j]<;>simp
  ·have c0' : ¬ ((j:Nat):Int)<((l.length:Nat):Int):=by omega
   have:l.drop j = []:=List.drop_eq_nil_of_le (by omega)
   simp [c0',this]
theorem j31 (n:Nat) (s:Yy) (hL:s.length<=1000000) (hn:100<=n):qk1 n s=some (qbt s):=by
 unfold qk1 qbt
 by_cases h:s.length<=60
 ·have h' : ¬ (60:Int)<((s.length:Nat):Int):=by omega
  have hlen:=q6i 47 s []
  have hw : ∀w∈spl 47 [] s,w.length<=s.length:=fun w hm=>by have:=q9a 47 s [] w hm;simpa using this
  have:=qk7 n (spl 47 [] s) (by omega) (fun w hm=>⟨by have:=hw w hm;omega,by have:=hw w hm;omega⟩) n 0 (Nat.zero_le _) (by omega)
  rw [show ((0:Nat):Int)=(0:Int) from rfl] at this
  simp only [h',decide_false,cond_false]
  rw [show (47:Int)=(((47:UInt8).toNat:Nat):Int) from rfl,q8b n s 47 hL (by omega)]
  simp only [Option.bind_some]
  rw [this,List.drop_zero]
  cases (spl 47 [] s).all qcs<;>simp [h]
 ·have h':(60:Int)<((s.length:Nat):Int):=by omega
  simp [h,h']
def q3b (q:QD):Bool:=j7u q.1 q.2
theorem q3q {q:QD} (h:q3b q=true):q06 q.2=true:=by
 unfold q3b j7u at h
 simp only [Bool.and_eq_true] at h
 exact h.2.1
theorem q2n (a b:VD):q3d a b = - q3d b a:=by
 unfold q3d
 cases q06 a<;>cases q06 b<;>simp
 exact qtg.anti _ _
theorem jcd {a b:VD} (ha:q06 a=true) (hb:q06 b=true):q3d a b=cmpC (core a) (core b):=by unfold q3d;rw [ha,hb];rfl
theorem qrv (a:VD):q3d a a=0:=by have:=q2n a a;omega
theorem qhz {a b c:VD} (ha:q06 a=true) (hb:q06 b=true) (hc:q06 c=true) (h1:q3d a b<=0) (h2:q3d b c<=0):q3d a c<=0:=by
 rw [jcd ha hb] at h1
 rw [jcd hb hc] at h2
 rw [jcd ha hc]
 exact qtg.tr _ _ _ h1 h2
theorem jk0 {a b:VD} (h:0<q3d a b):q06 a=true/\q06 b=true:=by
 unfold q3d at h
 split at h
 ·rename_i h1;simpa using h1
 ·omega
def q5f (a:List QD) (q:QD):List QD:=if q3b q=true/\q ∉ a then a ++ [q] else a
def q37 (a L:List QD):List QD:=L.foldl q5f a
def q1k:List ND->QD->List QD
 | [],_=>[]
 | n::l,q=>if nq n=q then nR n else q1k l q
def q50 (l:List ND):Nat->Nat->List QD->List QD
 | 0,_,out=>out
 | f+1,i,out=>if h:i<out.length then q50 l f (i+1) (q37 out (q1k l out[i])) else out
def qf9 (root:List QD) (l:List ND):List QD:=root++l.flatMap nR
def q0d (root:List QD) (l:List ND):List QD:=q50 l ((qf9 root l).length+1) 0 (q37 [] root)
inductive Rch (root:List QD) (l:List ND):QD->Prop
 | base (q:QD):q∈root->q3b q=true->Rch root l q
 | step (x q:QD):Rch root l x->q∈q1k l x->q3b q=true->Rch root l q
theorem jhr (a:List QD) (q x:QD):x∈q5f a q↔x∈a\/(x=q/\q3b q=true):=by
 unfold q5f
 split
 ·rename_i h
  rw [List.mem_append,List.mem_singleton]
  constructor
  ·rintro (h1|h1)
   ·exact Or.inl h1
   ·exact Or.inr ⟨h1,h.1⟩
  ·rintro (h1|h1)
   ·exact Or.inl h1
   ·exact Or.inr h1.1
 ·rename_i h
  constructor
  ·exact Or.inl
  ·rintro (h1|⟨rfl,h1⟩)
   ·exact h1
   ·exact Classical.byContradiction fun hn=>h ⟨h1,hn⟩
theorem j7y {a:List QD} (q:QD) (h:a.Nodup):(q5f a q).Nodup:=by
 unfold q5f
 split
 ·rename_i h1
  rw [List.nodup_append]
  refine ⟨h,List.pairwise_singleton _ _,fun x hx y hy=>?_⟩
  rw [List.mem_singleton] at hy
  subst hy
  rintro rfl
  exact h1.2 hx
 ·exact h
theorem q98 : ∀(L a:List QD) (x:QD),x∈q37 a L↔x∈a\/(x∈L/\q3b x=true)
 | [],a,x=>by simp [q37]
 | q::L,a,x=>by
  show x∈q37 (q5f a q) L↔_
  rw [q98 L,jhr,List.mem_cons]
  constructor
  ·rintro ((h|⟨rfl,h⟩)|⟨h1,h2⟩)
   ·exact Or.inl h
   ·exact Or.inr ⟨Or.inl rfl,h⟩
   ·exact Or.inr ⟨Or.inr h1,h2⟩
  ·rintro (h|⟨rfl|h1,h2⟩)
   ·exact Or.inl (Or.inl h)
   ·exact Or.inl (Or.inr ⟨rfl,h2⟩)
   ·exact Or.inr ⟨h1,h2⟩
theorem qhm : ∀(L:List QD) {a:List QD},a.Nodup->(q37 a L).Nodup
 | [],a,h=>h
 | q::L,a,h=>qhm L (j7y q h)
theorem j72 : ∀(L a:List QD),∃ t,q37 a L=a++t
 | [],a=>⟨[],by simp [q37]⟩
 | q::L,a=>by
  obtain ⟨t,ht⟩:=j72 L (q5f a q)
  have:q37 a (q::L)=q37 (q5f a q) L:=rfl
  rw [this,ht]
  unfold q5f
  split
  ·exact ⟨[q]++t,by rw [List.append_assoc]⟩
  ·exact ⟨t,rfl⟩
theorem j5h {l:List ND} {q x:QD} (h:x∈q1k l q):x∈l.flatMap nR:=by
 induction l with
 | nil=>cases h
 | cons n l ih =>
  unfold q1k at h
  rw [List.flatMap_cons,List.mem_append]
  split at h
  ·exact Or.inl h
  ·exact Or.inr (ih h)
theorem qf6 : ∀{a b:List QD},a.Nodup->(∀x∈a,x∈b)->a.length<=b.length
 | [],b,_,_=>Nat.zero_le _
 | x::a,b,h,hs=>by
  obtain ⟨h1,h2⟩:=List.nodup_cons.1 h
  have hx:x∈b:=hs x (List.mem_cons_self ..)
  have:=qf6 (b:=b.erase x) h2 fun y hy=>by
   have hne:y≠x:=fun e=>h1 (e ▸ hy)
   exact (List.mem_erase_of_ne hne).2 (hs y (List.mem_cons_of_mem _ hy))
  rw [List.length_erase_of_mem hx] at this
  have:=List.length_pos_of_mem hx
  simp only [List.length_cons];omega
structure ROk (root:List QD) (l:List ND) (i:Nat) (out:List QD):Prop where
 nd:out.Nodup
 rch : ∀x∈out,Rch root l x
 roots : ∀x∈root,q3b x=true->x∈out
 closed : ∀(j:Nat) (h:j<out.length),j<i->∀q∈q1k l out[j],q3b q=true->q∈out
theorem qls {root:List QD} {l:List ND} {q:QD} (h:Rch root l q):q3b q=true:=by cases h<;>assumption
theorem jc8 {root:List QD} {l:List ND} {q:QD} (h:Rch root l q):q∈qf9 root l:=by
 unfold qf9
 rw [List.mem_append]
 cases h with
 | base q h _=>exact Or.inl h
 | step x q _ h _=>exact Or.inr (j5h h)
theorem qsd {root:List QD} {l:List ND} {i:Nat} {out:List QD} (h:ROk root l i out):out.length<=(qf9 root l).length:=qf6 h.nd fun x hx=>jc8 (h.rch x hx)
theorem qtf {root:List QD} {l:List ND} {i:Nat} {out:List QD} (h:ROk root l i out) (hi:i<out.length):ROk root l (i+1) (q37 out (q1k l out[i])):=by
 refine ⟨qhm _ h.nd,fun x hx=>?_,fun x hx hm=>(q98 _ _ _).2 (Or.inl (h.roots x hx hm)),fun j hj hji q hq hm=>?_⟩
 ·rcases (q98 _ _ _).1 hx with hx|⟨hx,hm⟩
  ·exact h.rch x hx
  ·exact .step out[i] x (h.rch _ (List.getElem_mem hi)) hx hm
 ·obtain ⟨t,ht⟩:=j72 (q1k l out[i]) out
  have hjo:j<out.length:=by omega
  have e:(q37 out (q1k l out[i]))[j]=out[j]:=by
   have:(q37 out (q1k l out[i]))[j]? = out[j]?:=by rw [ht,List.getElem?_append_left hjo]
   rw [List.getElem?_eq_getElem hj,List.getElem?_eq_getElem hjo] at this
   exact Option.some.inj this
  rw [e] at hq
  by_cases hji':j<i
  ·exact (q98 _ _ _).2 (Or.inl (h.closed j hjo hji' q hq hm))
  ·obtain rfl:j=i:=by omega
   exact (q98 _ _ _).2 (Or.inr ⟨hq,hm⟩)
theorem qlw (root:List QD) (l:List ND):ROk root l 0 (q37 [] root):=by
 refine ⟨qhm _ List.nodup_nil,fun x hx=>?_,fun x hx hm=>(q98 _ _ _).2 (Or.inr ⟨hx,hm⟩),fun j _ h=>absurd h (Nat.not_lt_zero _)⟩
 rcases (q98 _ _ _).1 hx with hx|⟨hx,hm⟩
 ·cases hx
 ·exact .base x hx hm
theorem qza {root:List QD} {l:List ND} : ∀(f i:Nat) (out:List QD),ROk root l i out->(qf9 root l).length<i+f->∃ k,ROk root l k (q50 l f i out)/\(q50 l f i out).length<=k
 | 0,i,out,h,hf=>by
  have:=qsd h
  exact ⟨i,h,by show out.length<=i;omega⟩
 | f+1,i,out,h,hf=>by
  unfold q50
  split
  ·rename_i hi
   exact qza f (i+1) _ (qtf h hi) (by omega)
  ·rename_i hi
   exact ⟨i,h,by omega⟩
theorem qsa (root:List QD) (l:List ND) : ∃ k,ROk root l k (q0d root l)/\(q0d root l).length<=k:=qza _ 0 _ (qlw root l) (by omega)
theorem q0r (root:List QD) (l:List ND) (q:QD):q∈q0d root l↔Rch root l q:=by
 obtain ⟨k,h,hk⟩:=qsa root l
 constructor
 ·exact h.rch q
 ·intro hr
  induction hr with
  | base q h1 h2=>exact h.roots q h1 h2
  | step x q _ h1 h2 ih =>
   obtain ⟨j,hj,rfl⟩:=List.mem_iff_getElem.1 ih
   exact h.closed j hj (by omega) q h1 h2
theorem j7i (root:List QD) (l:List ND):(q0d root l).Nodup:=by obtain ⟨k,h,_⟩:=qsa root l;exact h.nd
theorem q53 {root:List QD} {l:List ND} {q:QD} (h:q∈q0d root l):q3b q=true:=qls ((q0r _ _ _).1 h)
theorem q7t (root:List QD) (l:List ND):(q0d root l).length<=(qf9 root l).length:=by obtain ⟨k,h,_⟩:=qsa root l;exact qsd h
theorem q78 {a b:List QD} {l:List ND} (h : ∀x∈a,q3b x=true->Rch b l x) {q:QD} (hr:Rch a l q):Rch b l q:=by
 induction hr with
 | base q h1 h2=>exact h q h1 h2
 | step x q _ h1 h2 ih=>exact .step x q ih h1 h2
theorem jc2 {a:List QD} {l:List ND} {q:QD} (hr:Rch a l q) : ∃ x∈a,q3b x=true/\Rch [x] l q:=by
 induction hr with
 | base q h1 h2=>exact ⟨q,h1,h2,.base q (List.mem_singleton.2 rfl) h2⟩
 | step x q _ h1 h2 ih =>
  obtain ⟨y,h3,h4,h5⟩:=ih
  exact ⟨y,h3,h4,.step x q h5 h1 h2⟩
def qg3 (p:Yy) (b:Option QD) (x:QD):Bool:=decide (x.1=p)&&(match b with
 | none=>true
 | some y=>decide (0<q3d x.2 y.2))
def ofF (p:Yy):Option QD->List QD->Option QD
 | b,[]=>b
 | b,x::t=>ofF p (if qg3 p b x=true then some x else b) t
def ofQ (all:List QD) (p:Yy):Option QD:=ofF p none all
theorem qbp (p:Yy) (x:QD):qg3 p none x=decide (x.1=p):=by unfold qg3;simp
theorem qm2 (p:Yy) : ∀(l:List QD) (b:Option QD),(∀y,b=some y->y.1=p)->∀y,ofF p b l=some y->y.1=p/\(y∈l\/b=some y)
 | [],b,hb,y,h=>⟨hb y h,Or.inr h⟩
 | x::t,b,hb,y,h=>by
  have h':ofF p (if qg3 p b x=true then some x else b) t=some y:=h
  split at h'
  ·rename_i hx
   have hxp:x.1=p:=by unfold qg3 at hx;simp at hx;exact hx.1
   obtain ⟨h1,h2⟩:=qm2 p t (some x) (fun z hz=>by rw [<-Option.some.inj hz];exact hxp) y h'
   refine ⟨h1,Or.inl ?_⟩
   rcases h2 with h2|h2
   ·exact List.mem_cons_of_mem _ h2
   ·rw [<-Option.some.inj h2];exact List.mem_cons_self ..
  ·obtain ⟨h1,h2⟩:=qm2 p t b hb y h'
   refine ⟨h1,?_⟩
   rcases h2 with h2|h2
   ·exact Or.inl (List.mem_cons_of_mem _ h2)
   ·exact Or.inr h2
theorem qsq (p:Yy) : ∀(l:List QD) (z:QD),∃ y,ofF p (some z) l=some y
 | [],z=>⟨z,rfl⟩
 | x::t,z=>by
  show ∃ y,ofF p (if qg3 p (some z) x=true then some x else some z) t=some y
  split
  ·exact qsq p t x
  ·exact qsq p t z
theorem qjf (p:Yy) : ∀(l:List QD),ofF p none l=none->∀x∈l,x.1≠p
 | x::t,h,y,hy=>by
  have h':ofF p (if qg3 p none x=true then some x else none) t=none:=h
  rw [qbp] at h'
  by_cases e:x.1=p
  ·rw [if_pos (decide_eq_true e)] at h'
   obtain ⟨u,hu⟩:=qsq p t x
   rw [hu] at h';cases h'
  ·rw [if_neg (by simpa using e)] at h'
   rcases List.mem_cons.1 hy with rfl|hy
   ·exact e
   ·exact qjf p t h' y hy
theorem qgy (p:Yy) : ∀(l:List QD) (b:Option QD),(∀x∈l,q06 x.2=true)->(∀y,b=some y->q06 y.2=true)->∀y,ofF p b l=some y->q06 y.2=true/\(∀x∈l,x.1=p->q3d x.2 y.2<=0)/\(∀z,b=some z->q3d z.2 y.2<=0)
 | [],b,hl,hb,y,h=>⟨hb y h,(fun x hx=>by cases hx),fun z hz=>by rw [show b=some y from h] at hz;rw [<-Option.some.inj hz,qrv];exact Int.le_refl _⟩
 | x::t,b,hl,hb,y,h=>by
  have h':ofF p (if qg3 p b x=true then some x else b) t=some y:=h
  have hlt : ∀z∈t,q06 z.2=true:=fun z hz=>hl z (List.mem_cons_of_mem _ hz)
  have hx:=hl x (List.mem_cons_self ..)
  split at h'
  ·rename_i hbx
   obtain ⟨h1,h2,h3⟩:=qgy p t (some x) hlt (fun z hz=>by rw [<-Option.some.inj hz];exact hx) y h'
   refine ⟨h1,fun z hz he=>?_,fun z hz=>?_⟩
   ·rcases List.mem_cons.1 hz with rfl|hz
    ·exact h3 _ rfl
    ·exact h2 z hz he
   ·subst hz
    unfold qg3 at hbx
    simp only [Bool.and_eq_true,decide_eq_true_eq] at hbx
    have:=q2n z.2 x.2
    exact qhz (hb z rfl) hx h1 (by omega) (h3 x rfl)
  ·rename_i hbx
   obtain ⟨h1,h2,h3⟩:=qgy p t b hlt hb y h'
   refine ⟨h1,fun z hz he=>?_,h3⟩
   rcases List.mem_cons.1 hz with rfl|hz
   ·cases b with
    | none=>rw [qbp] at hbx;exact absurd (decide_eq_true he) hbx
    | some w =>
     unfold qg3 at hbx
     simp only [Bool.and_eq_true,decide_eq_true_eq,not_and] at hbx
     have:=hbx he
     exact qhz hx (hb w rfl) h1 (by omega) (h3 w rfl)
   ·exact h2 z hz he
theorem q4d {all:List QD} {p:Yy} {y:QD} (h:ofQ all p=some y):y∈all/\y.1=p:=by
 obtain ⟨h1,h2⟩:=qm2 p all none (fun y h=>by cases h) y h
 rcases h2 with h2|h2
 ·exact ⟨h2,h1⟩
 ·cases h2
theorem jdi {all:List QD} (ha : ∀x∈all,q3b x=true) {p:Yy} {y:QD} (h:ofQ all p=some y) {x:QD} (hx:x∈all) (he:x.1=p):q3d x.2 y.2<=0 :=
 (qgy p all none (fun x hx=>q3q (ha x hx)) (fun y h=>by cases h) y h).2.1 x hx he
theorem qkz {all:List QD} {x:QD} (hx:x∈all) : ∃ y,ofQ all x.1=some y:=by
 cases h:ofQ all x.1 with
 | some y=>exact ⟨y,rfl⟩
 | none=>exact absurd rfl (qjf x.1 all h x hx)
theorem qrg : ∀{a b:List QD},a.Pairwise ltP->b.Pairwise ltP->(∀x,x∈a↔x∈b)->a=b
 | [],[],_,_,_=>rfl
 | [],y::b,_,_,h=>absurd ((h y).2 (List.mem_cons_self ..)) (by simp)
 | x::a,[],_,_,h=>absurd ((h x).1 (List.mem_cons_self ..)) (by simp)
 | x::a,y::b,h1,h2,h=>by
  obtain ⟨ha,h1'⟩:=List.pairwise_cons.1 h1
  obtain ⟨hb,h2'⟩:=List.pairwise_cons.1 h2
  have e:x=y:=by
   rcases List.mem_cons.1 ((h x).1 (List.mem_cons_self ..)) with e|e
   ·exact e
   ·rcases List.mem_cons.1 ((h y).2 (List.mem_cons_self ..)) with e2|e2
    ·exact e2.symm
    ·exact absurd (qg0 (ha y e2) (hb x e)) (q7s x)
  subst e
  rw [qrg h1' h2' fun z=>?_]
  constructor
  ·intro hz
   rcases List.mem_cons.1 ((h z).1 (List.mem_cons_of_mem _ hz)) with rfl|h3
   ·exact absurd (ha z hz) (q7s z)
   ·exact h3
  ·intro hz
   rcases List.mem_cons.1 ((h z).2 (List.mem_cons_of_mem _ hz)) with rfl|h3
   ·exact absurd (hb z hz) (q7s z)
   ·exact h3
theorem q6k : ∀{a:List QD},a.Pairwise ltP->∀x∈a,∀y∈a,x.1=y.1->x=y
 | z::a,h,x,hx,y,hy,he=>by
  obtain ⟨h1,h2⟩:=List.pairwise_cons.1 h
  have irr : ∀u v:QD,ltP u v->u.1≠v.1:=fun u v h e=>by
   unfold ltP at h
   rw [e,(q1j q1o).refl] at h
   omega
  rcases List.mem_cons.1 hx with e1|hx<;>rcases List.mem_cons.1 hy with e2|hy
  ·rw [e1,e2]
  ·exact absurd he (by rw [e1];exact irr z y (h1 y hy))
  ·exact absurd he.symm (by rw [e2];exact irr z x (h1 x hx))
  ·exact q6k h2 x hx y hy he
structure IsL (all L:List QD):Prop where
 rises:L.Pairwise ltP
 mem : ∀x,x∈L↔ofQ all x.1=some x
theorem jo8 {all a b:List QD} (h1:IsL all a) (h2:IsL all b):a=b:=qrg h1.rises h2.rises fun x=>(h1.mem x).trans (h2.mem x).symm
def je9 (L:List QD) (r:QD):List QD:=if ∃ x∈L,x.1=r.1 then L else qok r L
instance (L:List QD) (r:QD):Decidable (∃ x∈L,x.1=r.1):=inferInstance
def qqd (all:List QD) (L:List QD) (l:List QD):List QD:=l.foldl (fun L x=>je9 L ((ofQ all x.1).getD ([],0,0,0,[],[]))) L
def qih (all:List QD):List QD:=qqd all [] all
theorem j01 (all:List QD) : ∀(l pre L:List QD),all=pre++l->L.Pairwise ltP->(∀x,x∈L↔(ofQ all x.1=some x/\∃ y∈pre,y.1=x.1))->IsL all (qqd all L l)
 | [],pre,L,he,hs,hm=>by
  rw [List.append_nil] at he
  subst he
  refine ⟨hs,fun x=>(hm x).trans ⟨fun h=>h.1,fun h=>⟨h,x,(q4d h).1,rfl⟩⟩⟩
 | x::l,pre,L,he,hs,hm=>by
  have hx:x∈all:=by rw [he];simp
  obtain ⟨r,hr⟩:=qkz hx
  obtain ⟨h1,h2⟩:=q4d hr
  have e:qqd all L (x::l)=qqd all (je9 L r) l:=by
   show qqd all (je9 L ((ofQ all x.1).getD _)) l=_
   rw [hr];rfl
  rw [e]
  have he':all=(pre ++ [x])++l:=by rw [he];simp
  refine j01 all l (pre ++ [x]) (je9 L r) he' ?_ fun z=>?_
  ·unfold je9
   split
   ·exact hs
   ·rename_i hn
    exact qan r L hs fun y hy e=>hn ⟨y,hy,e⟩
  ·unfold je9
   split
   ·rename_i hn
    obtain ⟨y,hy,hye⟩:=hn
    rw [hm]
    constructor
    ·rintro ⟨h3,w,hw,hwe⟩
     exact ⟨h3,w,List.mem_append_left _ hw,hwe⟩
    ·rintro ⟨h3,w,hw,hwe⟩
     rcases List.mem_append.1 hw with hw|hw
     ·exact ⟨h3,w,hw,hwe⟩
     ·rw [List.mem_singleton] at hw
      subst hw
      obtain ⟨_,u,hu,hue⟩:=(hm y).1 hy
      exact ⟨h3,u,hu,by rw [hue,hye,h2,hwe]⟩
   ·rename_i hn
    rw [(q8d r L).mem_iff,List.mem_cons,hm]
    constructor
    ·rintro (rfl|⟨h3,w,hw,hwe⟩)
     ·exact ⟨by rw [h2];exact hr,x,by simp,h2.symm⟩
     ·exact ⟨h3,w,List.mem_append_left _ hw,hwe⟩
    ·rintro ⟨h3,w,hw,hwe⟩
     rcases List.mem_append.1 hw with hw|hw
     ·exact Or.inr ⟨h3,w,hw,hwe⟩
     ·rw [List.mem_singleton] at hw
      subst hw
      rw [<-hwe,hr] at h3
      exact Or.inl (Option.some.inj h3).symm
theorem q6u (all:List QD):IsL all (qih all):=j01 all all [] [] rfl List.Pairwise.nil fun x=>by simp
def qh0 (m:List (Yy×QD)) (p:Yy):Option QD:=(m.find? fun x=>decide (x.1=p)).map (·.2)
def j07 (m:List (Yy×QD)) (p:Yy) (r:QD):List (Yy×QD):=match m with
 | []=>[(p,r)]
 | x::t=>if x.1=p then (p,r)::t else x::j07 t p r
def qoe (m:List (Yy×QD)) (r:QD):List (Yy×QD):=if qg3 r.1 (qh0 m r.1) r=true then j07 m r.1 r else m
theorem qv9 (r:QD) (p:Yy) : ∀m:List (Yy×QD),qh0 (j07 m r.1 r) p=if r.1=p then some r else qh0 m p
 | []=>by
  unfold j07 qh0
  by_cases e:r.1=p
  ·simp [e]
  ·simp [e]
 | x::t=>by
  unfold j07
  by_cases e:x.1=r.1
  ·rw [if_pos e]
   unfold qh0
   by_cases e2:r.1=p
   ·simp [e2]
   ·have:x.1≠p:=fun h=>e2 (e ▸ h)
    simp [e2,this]
  ·rw [if_neg e]
   have ih:=qv9 r p t
   unfold qh0 at ih ⊢
   rw [List.find?_cons,List.find?_cons]
   by_cases e3:x.1=p
   ·have:r.1≠p:=fun h=>e (e3.trans h.symm)
    simp [e3,this]
   ·simp only [decide_eq_false e3]
    exact ih
theorem j79 (r:QD) : ∀m:List (Yy×QD),(∀x∈m,x.1=x.2.1)->∀x∈j07 m r.1 r,x.1=x.2.1
 | [],_,x,hx=>by
  unfold j07 at hx
  rw [List.mem_singleton] at hx;subst hx;rfl
 | y::t,h,x,hx=>by
  unfold j07 at hx
  split at hx
  ·rcases List.mem_cons.1 hx with rfl|hx
   ·rfl
   ·exact h x (List.mem_cons_of_mem _ hx)
  ·rcases List.mem_cons.1 hx with rfl|hx
   ·exact h x (List.mem_cons_self ..)
   ·exact j79 r t (fun z hz=>h z (List.mem_cons_of_mem _ hz)) x hx
theorem qwo (r:QD) (p:Yy) : ∀m:List (Yy×QD),(∀x∈j07 m p r,x.1=p \/ ∃ y∈m,y.1=x.1)
 | [],x,hx=>by
  unfold j07 at hx
  rw [List.mem_singleton] at hx;subst hx;exact Or.inl rfl
 | y::t,x,hx=>by
  unfold j07 at hx
  split at hx
  ·rcases List.mem_cons.1 hx with rfl|hx
   ·exact Or.inl rfl
   ·exact Or.inr ⟨x,List.mem_cons_of_mem _ hx,rfl⟩
  ·rcases List.mem_cons.1 hx with rfl|hx
   ·exact Or.inr ⟨x,List.mem_cons_self ..,rfl⟩
   ·rcases qwo r p t x hx with h|⟨z,hz,h⟩
    ·exact Or.inl h
    ·exact Or.inr ⟨z,List.mem_cons_of_mem _ hz,h⟩
theorem jfh (r:QD) (p:Yy) : ∀m:List (Yy×QD),m.Pairwise (fun a b=>a.1≠b.1)->(j07 m p r).Pairwise fun a b=>a.1≠b.1
 | [],_=>by unfold j07;exact List.pairwise_singleton _ _
 | x::t,h=>by
  obtain ⟨h1,h2⟩:=List.pairwise_cons.1 h
  unfold j07
  split
  ·rename_i e
   exact List.pairwise_cons.2 ⟨fun y hy=>by rw [show ((p,r):Yy×QD).1=x.1 from e.symm];exact h1 y hy,h2⟩
  ·rename_i e
   refine List.pairwise_cons.2 ⟨fun y hy=>?_,jfh r p t h2⟩
   rcases qwo r p t y hy with h3|⟨z,hz,h3⟩
   ·rw [h3];exact e
   ·rw [<-h3];exact h1 z hz
structure GOk (pre:List QD) (m:List (Yy×QD)):Prop where
 key : ∀x∈m,x.1=x.2.1
 pw:m.Pairwise fun a b=>a.1≠b.1
 look : ∀p,qh0 m p=ofQ pre p
theorem jgc (p:Yy) (x:QD) : ∀(l:List QD) (b:Option QD),ofF p b (l ++ [x])=if qg3 p (ofF p b l) x=true then some x else ofF p b l
 | [],b=>rfl
 | y::l,b=>jgc p x l _
theorem j5k {pre:List QD} {m:List (Yy×QD)} (h:GOk pre m) (r:QD):GOk (pre ++ [r]) (qoe m r):=by
 unfold qoe
 have hb : ∀p,ofQ (pre ++ [r]) p=if qg3 p (qh0 m p) r=true then some r else qh0 m p:=fun p=>by
  unfold ofQ
  rw [jgc,h.look];rfl
 split
 ·rename_i hr
  refine ⟨j79 r m h.key,jfh r _ m h.pw,fun p=>?_⟩
  rw [qv9,hb]
  by_cases e:r.1=p
  ·subst e
   rw [if_pos rfl,if_pos hr]
  ·rw [if_neg e,if_neg]
   unfold qg3;simp [e]
 ·rename_i hr
  refine ⟨h.key,h.pw,fun p=>?_⟩
  rw [hb]
  by_cases e:r.1=p
  ·subst e
   rw [if_neg hr]
  ·rw [if_neg]
   unfold qg3;simp [e]
theorem j0k : ∀(l pre:List QD) (m:List (Yy×QD)),GOk pre m->GOk (pre++l) (l.foldl qoe m)
 | [],pre,m,h=>by rw [List.append_nil];exact h
 | x::l,pre,m,h=>by
  have:=j0k l (pre ++ [x]) (qoe m x) (j5k h x)
  rw [List.append_assoc] at this
  exact this
theorem j18:GOk [] []:=⟨(fun x h=>by cases h),List.Pairwise.nil,fun p=>rfl⟩
theorem qfc {pre:List QD} {m:List (Yy×QD)} (h:GOk pre m):(m.map (·.2)).Pairwise fun a b=>a.1≠b.1:=by
 rw [List.pairwise_map]
 exact h.pw.imp_of_mem fun {a b} ha hb hn=>by rw [<-h.key a ha,<-h.key b hb];exact hn
theorem jbk {pre:List QD} {m:List (Yy×QD)} (h:GOk pre m) (x:QD):x∈m.map (·.2)↔ofQ pre x.1=some x:=by
 rw [<-h.look]
 unfold qh0
 constructor
 ·intro hx
  obtain ⟨y,hy,rfl⟩:=List.mem_map.1 hx
  cases hf:m.find? fun z=>decide (z.1=y.2.1) with
  | none =>
   rw [List.find?_eq_none] at hf
   have:=hf y hy
   rw [h.key y hy] at this
   simp at this
  | some z =>
   have h1:=List.mem_of_find?_eq_some hf
   have h2:z.1=y.2.1:=by simpa using List.find?_some hf
   have hp:=qfc h
   obtain ⟨i,hi,rfl⟩:=List.mem_iff_getElem.1 h1
   obtain ⟨j,hj,rfl⟩:=List.mem_iff_getElem.1 hy
   have hpw:=List.pairwise_iff_getElem.1 h.pw
   have hij:i=j:=by
    rcases Nat.lt_trichotomy i j with hl|he|hl
    ·exact absurd (by rw [h2,h.key _ (List.getElem_mem hj)]) (hpw i j hi hj hl)
    ·exact he
    ·exact absurd (by rw [h2,h.key _ (List.getElem_mem hj)]) (hpw j i hj hi hl)
   subst hij
   rfl
 ·intro hx
  cases hf:m.find? fun z=>decide (z.1=x.1) with
  | none=>rw [hf] at hx;cases hx
  | some z =>
   rw [hf] at hx
   have:z.2=x:=Option.some.inj hx
   rw [<-this]
   exact List.mem_map.2 ⟨z,List.mem_of_find?_eq_some hf,rfl⟩
theorem jdn (all:List QD):j8c ((all.foldl qoe []).map (·.2))=qih all:=by
 have h:=j0k all [] [] j18
 rw [List.nil_append] at h
 refine jo8 (all:=all) ⟨q6c _ (qfc h),fun x=>?_⟩ (q6u all)
 rw [(q68 _).mem_iff,jbk h]
theorem jlv {pre:List QD} {m:List (Yy×QD)} (h:GOk pre m):m.length<=pre.length:=by
 have h1:(m.map (·.2)).Nodup:=(qfc h).imp fun hn e=>hn (by rw [e])
 have:=qf6 h1 fun x hx=>(q4d ((jbk h x).1 hx)).1
 rwa [List.length_map] at this
theorem qzu (q r:QD) (q' x:QD) : ∀acc:List ND,x∈q1k (qob q r acc) q'↔x∈q1k acc q'\/(q'=q/\x=r)
 | []=>by
  unfold qob q1k
  rw [jqs,jg3]
  by_cases e:q=q'
  ·rw [if_pos e,List.mem_singleton]
   constructor
   ·exact fun h=>Or.inr ⟨e.symm,h⟩
   ·rintro (h|h)
    ·cases h
    ·exact h.2
  ·rw [if_neg e]
   unfold q1k
   constructor
   ·intro h;cases h
   ·rintro (h|h)
    ·cases h
    ·exact absurd h.1.symm e
 | n::t=>by
  unfold qob
  by_cases e:nq n=q
  ·rw [if_pos e]
   unfold q1k
   rw [jqs,jg3]
   by_cases e2:nq n=q'
   ·rw [if_pos e2,if_pos e2,List.mem_append,List.mem_singleton]
    have:q'=q:=e2.symm.trans e
    simp [this]
   ·rw [if_neg e2,if_neg e2]
    have:q'≠q:=fun h=>e2 (e.trans h.symm)
    simp [this]
  ·rw [if_neg e]
   unfold q1k
   by_cases e2:nq n=q'
   ·rw [if_pos e2,if_pos e2]
    have:q'≠q:=fun h=>e (e2.trans h)
    simp [this]
   ·rw [if_neg e2,if_neg e2]
    exact qzu q r q' x t
theorem qqy (r q x:QD) : ∀(L:List QD) (acc:List ND),x∈q1k (qat r acc L) q↔x∈q1k acc q\/(x=r/\q∈L)
 | [],acc=>by show x∈q1k acc q↔_;simp
 | y::L,acc=>by
  show x∈q1k (qat r (qob y r acc) L) q↔_
  rw [qqy r q x L,qzu,List.mem_cons]
  constructor
  ·rintro ((h|⟨rfl,rfl⟩)|⟨h1,h2⟩)
   ·exact Or.inl h
   ·exact Or.inr ⟨rfl,Or.inl rfl⟩
   ·exact Or.inr ⟨h1,Or.inr h2⟩
  ·rintro (h|⟨h1,h2|h2⟩)
   ·exact Or.inl (Or.inl h)
   ·exact Or.inl (Or.inr ⟨h2,h1⟩)
   ·exact Or.inr ⟨h1,h2⟩
theorem qgs (q x:QD) : ∀(l:List ND) (met:List QD) (acc:List ND),x∈q1k (q1s met acc l) q↔x∈q1k acc q\/(x ∉ met/\q∈q1k l x)
 | [],met,acc=>by
  show x∈q1k acc q↔_
  constructor
  ·exact Or.inl
  ·rintro (h|⟨_,h⟩)
   ·exact h
   ·cases h
 | n::l,met,acc=>by
  have e:q1s met acc (n::l)=if nq n∈met then q1s met acc l else q1s (met ++ [nq n]) (qat (nq n) acc (nR n)) l:=rfl
  have e2:q1k (n::l) x=if nq n=x then nR n else q1k l x:=rfl
  rw [e,e2]
  by_cases hm:nq n∈met
  ·rw [if_pos hm,qgs q x l]
   by_cases hx:nq n=x
   ·have : ¬ x ∉ met:=fun h=>h (hx ▸ hm)
    simp [this]
   ·rw [if_neg hx]
  ·rw [if_neg hm,qgs q x l,qqy,List.mem_append,List.mem_singleton]
   by_cases hx:nq n=x
   ·rw [if_pos hx]
    subst hx
    constructor
    ·rintro ((h|⟨_,h⟩)|⟨h,_⟩)
     ·exact Or.inl h
     ·exact Or.inr ⟨hm,h⟩
     ·exact absurd (Or.inr rfl) h
    ·rintro (h|⟨_,h⟩)
     ·exact Or.inl (Or.inl h)
     ·exact Or.inl (Or.inr ⟨rfl,h⟩)
   ·rw [if_neg hx]
    have hx' : ¬ x=nq n:=fun h=>hx h.symm
    constructor
    ·rintro ((h|⟨h,_⟩)|⟨h,h2⟩)
     ·exact Or.inl h
     ·exact absurd h hx'
     ·exact Or.inr ⟨fun h3=>h (Or.inl h3),h2⟩
    ·rintro (h|⟨h,h2⟩)
     ·exact Or.inl (Or.inl h)
     ·exact Or.inr ⟨fun h3=>h3.elim h hx',h2⟩
theorem ql1 (l:List ND) (q x:QD):x∈q1k (q1s [] [] l) q↔q∈q1k l x:=by
 rw [qgs]
 constructor
 ·rintro (h|⟨_,h⟩)
  ·cases h
  ·exact h
 ·exact fun h=>Or.inr ⟨by simp,h⟩
theorem jeq {l:List ND} {x y q:QD} (h1:Rch [q] l x) (h2:Rch [x] l y):Rch [q] l y:=q78 (fun z hz _=>by rw [List.mem_singleton] at hz;subst hz;exact h1) h2
theorem j9m (high:List QD) (l:List ND) (x:QD):Rch high (q1s [] [] l) x ↔ ∃ y∈high,Rch [x] l y:=by
 constructor
 ·intro h
  induction h with
  | base q h1 h2=>exact ⟨q,h1,.base q (List.mem_singleton.2 rfl) h2⟩
  | step z q h0 h1 h2 ih =>
   obtain ⟨y,h3,h4⟩:=ih
   have h5:z∈q1k l q:=(ql1 l z q).1 h1
   exact ⟨y,h3,jeq (.step q z (.base q (List.mem_singleton.2 rfl) h2) h5 (qls h0)) h4⟩
 ·rintro ⟨y,hy,h⟩
  have key : ∀y,Rch [x] l y->Rch high (q1s [] [] l) y->Rch high (q1s [] [] l) x:=by
   intro y h
   induction h with
   | base q h1 h2=>intro h3;rw [List.mem_singleton] at h1;exact h1 ▸ h3
   | step z q h0 h1 h2 ih=>exact fun h3=>ih (.step q z h3 ((ql1 l q z).2 h1) (qls h0))
  exact key y h (.base y hy (qls h))
def qc1 (r q:QD):Bool:=decide (q.1=r.1)&&decide (0<q3d q.2 r.2)
def qkv (l:List ND) (r x:QD):Bool:=match ofQ (qih (q0d [x] l)) r.1 with
 | some y=>decide (0<q3d y.2 r.2)
 | none=>false
theorem jnm (all:List QD) (p:Yy):ofQ (qih all) p=ofQ all p:=by
 have hL:=q6u all
 cases h:ofQ all p with
 | none =>
  cases h2:ofQ (qih all) p with
  | none=>rfl
  | some y =>
   obtain ⟨h3,h4⟩:=q4d h2
   have:=(hL.mem y).1 h3
   rw [h4,h] at this;cases this
 | some y =>
  obtain ⟨h3,h4⟩:=q4d h
  have h5:y∈qih all:=(hL.mem y).2 (by rw [h4];exact h)
  obtain ⟨z,hz⟩:=qkz h5
  obtain ⟨h6,h7⟩:=q4d hz
  rw [<-h4,hz,q6k hL.rises z h6 y h5 h7]
theorem qui {l:List ND} {r x:QD} : qkv l r x=true ↔ ∃ y,Rch [x] l y/\qc1 r y=true:=by
 unfold qkv
 rw [jnm]
 have hm : ∀z∈q0d [x] l,q3b z=true:=fun z hz=>q53 hz
 constructor
 ·intro h
  cases hf:ofQ (q0d [x] l) r.1 with
  | none=>rw [hf] at h;cases h
  | some y =>
   rw [hf] at h
   obtain ⟨h1,h2⟩:=q4d hf
   refine ⟨y,(q0r _ _ _).1 h1,?_⟩
   unfold qc1
   simpa [h2] using h
 ·rintro ⟨y,h1,h2⟩
  unfold qc1 at h2
  simp only [Bool.and_eq_true,decide_eq_true_eq] at h2
  have hy:=(q0r _ _ _).2 h1
  obtain ⟨z,hz⟩:=qkz hy
  rw [h2.1] at hz
  rw [hz]
  have h3:=jdi hm hz hy h2.1
  obtain ⟨h4,h5⟩:=q4d hz
  obtain ⟨c1,c2⟩:=jk0 h2.2
  have c3:=q3q (hm z h4)
  apply decide_eq_true
  have a1:=q2n z.2 r.2
  have a2:=q2n y.2 r.2
  apply Classical.byContradiction
  intro hn
  have:=qhz c1 c3 c2 h3 (by omega)
  omega
def q6t (r:QD) (root:List QD) (l:List ND):List QD:=(root++l.flatMap fun n=>nq n::nR n).filter (qc1 r)
theorem jes {root:List QD} {l:List ND} {r x:QD} (hx:x∈root \/ ∃ n∈l,nq n=x):x∈q0d (q6t r root l) (q1s [] [] l)↔qkv l r x=true:=by
 rw [q0r,j9m,qui]
 constructor
 ·rintro ⟨y,h1,h2⟩
  exact ⟨y,h2,(List.mem_filter.1 h1).2⟩
 ·rintro ⟨y,h1,h2⟩
  refine ⟨y,List.mem_filter.2 ⟨?_,h2⟩,h1⟩
  rw [List.mem_append]
  cases h1 with
  | base q h3 h4 =>
   rw [List.mem_singleton] at h3
   subst h3
   rcases hx with hx|⟨n,hn,rfl⟩
   ·exact Or.inl hx
   ·exact Or.inr (List.mem_flatMap.2 ⟨n,hn,List.mem_cons_self ..⟩)
  | step z q h3 h4 h5 =>
   obtain ⟨n,hn,h6⟩:=List.mem_flatMap.1 (j5h h4)
   exact Or.inr (List.mem_flatMap.2 ⟨n,hn,List.mem_cons_of_mem _ h6⟩)
def canQ (l:List ND) (r x:QD):List QD:=(l.map nq).filter fun y=>decide (y.1=x.1)&&(q3b y&&(decide (q3d y.2 x.2<0) && !qkv l r y))
def j7c (l:List ND) (r x:QD):Option QD:=ofQ (canQ l r x) x.1
def q6y (l:List ND) (r:QD):List QD->List QD
 | []=>[]
 | x::t=>if qkv l r x=true then (match j7c l r x with|some y=>y::q6y l r t|none=>q6y l r t) else x::q6y l r t
def q6p (root:List QD) (l:List ND) (r:QD):List QD:=if q3b r=true then q6y l r root else root
def upL (r:QD):List QD->List QD
 | []=>[r]
 | x::t=>if x.1=r.1 then (if q3b x=true/\0<=q3d x.2 r.2 then x::t else r::t) else x::upL r t
def upQ (root:List QD) (r:QD):List QD:=if q3b r=true then upL r root else root
theorem qub (l:List ND) (r:QD) : ∀root:List QD,(q6y l r root).length<=root.length
 | []=>Nat.le_refl _
 | x::t=>by
  have:=qub l r t
  unfold q6y
  split
  ·split<;>simp<;>omega
  ·simp;omega
theorem qjc {l:List ND} {r:QD} : ∀{root:List QD} {y:QD},y∈q6y l r root->qkv l r y=false
 | x::t,y,h=>by
  unfold q6y at h
  by_cases ho:qkv l r x=true
  ·rw [if_pos ho] at h
   cases hf:j7c l r x with
   | none=>rw [hf] at h;exact qjc h
   | some z =>
    rw [hf] at h
    rcases List.mem_cons.1 h with rfl|h
    ·have:=(List.mem_filter.1 (q4d hf).1).2
     simp only [Bool.and_eq_true,Bool.not_eq_true'] at this
     exact this.2.2.2
    ·exact qjc h
  ·rw [if_neg ho] at h
   rcases List.mem_cons.1 h with rfl|h
   ·simpa using ho
   ·exact qjc h
theorem qwl {l:List ND} {r:QD} : ∀{root:List QD},(∀x∈root,qkv l r x=false)->q6y l r root=root
 | [],_=>rfl
 | x::t,h=>by
  unfold q6y
  rw [if_neg (by rw [h x (List.mem_cons_self ..)];simp),qwl fun z hz=>h z (List.mem_cons_of_mem _ hz)]
theorem jjd {root:List QD} {l:List ND} {r y:QD} (hr:q3b r=true) (h:y∈qih (q0d (q6p root l r) l)) (hp:y.1=r.1):q3d y.2 r.2<=0:=by
 have h1:=(q0r _ _ _).1 (q4d (((q6u _).mem y).1 h)).1
 unfold q6p at h1
 rw [if_pos hr] at h1
 obtain ⟨x,hx,hm,h2⟩:=jc2 h1
 have h3:=qjc hx
 apply Classical.byContradiction
 intro hn
 have:qkv l r x=true:=qui.2 ⟨y,h2,by unfold qc1;rw [decide_eq_true hp,decide_eq_true (by omega)];rfl⟩
 rw [h3] at this;cases this
theorem jc5 {root:List QD} {l:List ND} {r:QD} (hr:q3b r=true) (h : ∀y∈qih (q0d root l),y.1=r.1->q3d y.2 r.2<=0):q6p root l r=root:=by
 unfold q6p
 rw [if_pos hr]
 refine qwl fun x hx=>?_
 cases ho:qkv l r x with
 | false=>rfl
 | true =>
  obtain ⟨y,h1,h2⟩:=qui.1 ho
  unfold qc1 at h2
  simp only [Bool.and_eq_true,decide_eq_true_eq] at h2
  have h3:Rch root l y:=q78 (fun z hz hm=>by rw [List.mem_singleton] at hz;subst hz;exact .base _ hx hm) h1
  have hy:=(q0r _ _ _).2 h3
  obtain ⟨z,hz⟩:=qkz hy
  obtain ⟨h4,h5⟩:=q4d hz
  have h6:z∈qih (q0d root l):=((q6u _).mem z).2 (by rw [h5];exact hz)
  have h7:=h z h6 (h5.trans h2.1)
  have h8:=jdi (fun z hz=>q53 hz) hz hy rfl
  obtain ⟨c1,c2⟩:=jk0 h2.2
  have:=qhz c1 (q3q (q53 h4)) c2 h8 h7
  omega
theorem j6z (r:QD) : ∀root:List QD,upL r (upL r root)=upL r root
 | []=>by
  show (if r.1=r.1 then (if q3b r=true/\0<=q3d r.2 r.2 then [r] else [r]) else _)=_
  rw [if_pos rfl];split<;>rfl
 | x::t=>by
  by_cases e:x.1=r.1
  ·have e1:upL r (x::t)=if q3b x=true/\0<=q3d x.2 r.2 then x::t else r::t:=by
    show (if x.1=r.1 then _ else _)=_
    rw [if_pos e]
   rw [e1]
   split
   ·rename_i h
    rw [e1,if_pos h]
   ·show (if r.1=r.1 then (if q3b r=true/\0<=q3d r.2 r.2 then r::t else r::t) else _)=_
    rw [if_pos rfl];split<;>rfl
  ·have e1:upL r (x::t)=x::upL r t:=by
    show (if x.1=r.1 then _ else _)=_
    rw [if_neg e]
   have e2:upL r (x::upL r t)=x::upL r (upL r t):=by
    show (if x.1=r.1 then _ else _)=_
    rw [if_neg e]
   rw [e1,e2,j6z r t]
theorem jk2 (r:QD) : ∀{root:List QD} {x:QD},q3b r=true->x∈root->q3b x=true->x∈upL r root\/(x.1=r.1/\q3d x.2 r.2<0/\r∈upL r root)
 | y::t,x,hr,hx,hm=>by
  unfold upL
  by_cases e:y.1=r.1
  ·rw [if_pos e]
   split
   ·exact Or.inl hx
   ·rename_i h
    rcases List.mem_cons.1 hx with rfl|hx
    ·exact Or.inr ⟨e,by
      apply Classical.byContradiction
      intro hn
      exact h ⟨hm,by omega⟩,List.mem_cons_self ..⟩
    ·exact Or.inl (List.mem_cons_of_mem _ hx)
  ·rw [if_neg e]
   rcases List.mem_cons.1 hx with rfl|hx
   ·exact Or.inl (List.mem_cons_self ..)
   ·rcases jk2 r hr hx hm with h|⟨h1,h2,h3⟩
    ·exact Or.inl (List.mem_cons_of_mem _ h)
    ·exact Or.inr ⟨h1,h2,List.mem_cons_of_mem _ h3⟩
theorem jkm (r:QD) (hr:q3b r=true) : ∀root:List QD,∃ x∈upL r root,q3b x=true/\x.1=r.1/\0<=q3d x.2 r.2
 | []=>⟨r,List.mem_cons_self ..,hr,rfl,by rw [qrv];exact Int.le_refl _⟩
 | y::t=>by
  unfold upL
  by_cases e:y.1=r.1
  ·rw [if_pos e]
   split
   ·rename_i h
    exact ⟨y,List.mem_cons_self ..,h.1,e,h.2⟩
   ·exact ⟨r,List.mem_cons_self ..,hr,rfl,by rw [qrv];exact Int.le_refl _⟩
  ·rw [if_neg e]
   obtain ⟨x,h1,h2⟩:=jkm r hr t
   exact ⟨x,List.mem_cons_of_mem _ h1,h2⟩
theorem jdo (r:QD) : ∀root:List QD,(upL r root).length<=root.length+1
 | []=>Nat.le_refl _
 | y::t=>by
  have:=jdo r t
  unfold upL
  split
  ·split<;>simp
  ·simp;omega
end Go.Proofs.YtlkpgcifpnppeaaGreatDoor.AM
