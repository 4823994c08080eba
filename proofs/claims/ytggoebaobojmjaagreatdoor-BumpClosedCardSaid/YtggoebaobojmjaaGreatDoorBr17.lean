
import Derived.Test.YtggoebaobojmjaaGreatDoorBr12
import Derived.Test.YtggoebaobojmjaaGreatDoorBr13
namespace Go.Proofs.YtggoebaobojmjaaGreatDoor.AM
open Go.RowKit
set_option linter.unusedVariables false
set_option linter.unusedSimpArgs false
theorem qs4 (n:Nat) (a b:Int):qax n a b=some (q4y a b):=by
  unfold qax j05 q4y
  simp only [decide_true,Bool.not_true,Option.bind_some,cond_false]
  by_cases h1:a<b
  · simp [h1]
  · by_cases h2:b<a
    · simp [h1,h2]
    · simp [h1,h2]
def qaj:List Int->Int
  | []=>0
  | x::l=>or2 x (qaj l)
theorem qwd (n:Nat) (l:List Int) (hL:l.length<=1000000) : ∀m j:Nat,j<=l.length->l.length - j<m->qb0 n m 0 l ((l.length:Nat):Int) (j:Int)=some (if qaj (l.drop j)=0 then Sum.inr (((0:Int),()),((),())) else Sum.inl ((qaj (l.drop j),()),((),())))
  | 0,j,_,h=>absurd h (Nat.not_lt_zero _)
  | m+1,j,hj,h=>by
    rw [qor]
    unfold qzb
    by_cases c0:j<l.length
    · have c0':((j:Nat):Int)<((l.length:Nat):Int):=by omega
      have ih:=qwd n l hL m (j+1) (by omega) (by omega)
      have hd:l.drop j=l[j]::l.drop (j+1):=(List.drop_eq_getElem_cons c0)
      simp only [c0',decide_true,cond_true,q0k c0,Option.bind_some,q0e,q04 (show j<4611686018427387904 by omega),ih,hd,qaj,or2]
      by_cases h0:l[j]=0
      · simp [h0]
      · simp [h0]
    · have c0' : ¬ ((j:Nat):Int)<((l.length:Nat):Int):=by omega
      have:l.drop j = []:=List.drop_eq_nil_of_le (by omega)
      simp [c0',this,qaj]
theorem qx3 (n:Nat) (l:List Int) (hL:l.length<=1000000) (hn:l.length<n):qsh n l=some (qaj l):=by
  unfold qsh
  have:=qwd n l hL n 0 (Nat.zero_le _) (by omega)
  rw [show ((0:Nat):Int)=(0:Int) from rfl] at this
  rw [this,List.drop_zero]
  by_cases h:qaj l=0
  · simp [h]
  · simp [h]
theorem jgx (n:Nat) (a b:List UInt8) (ha:a.length<=1000000) (hb:b.length<=1000000) (hn:a.length<n/\b.length<n/\3<=n):qyy n a b=some (jqt a b):=by
  unfold qyy jqt jv1 qjy
  rw [qbe n a ha hn.1,qbe n b hb hn.2.1]
  simp only [Option.bind_some,qs4,qd8]
  cases q33 a with
  | false=>cases q33 b with
    | false =>
      simp only [cond_false,Bool.false_eq_true,if_false]
      unfold qhk q4y or2
      simp
    | true =>
      simp only [cond_false,cond_true,Bool.false_eq_true,if_false,if_true]
      unfold qhk q4y or2
      simp
  | true=>cases q33 b with
    | false =>
      simp only [cond_false,cond_true,Bool.false_eq_true,if_false,if_true]
      unfold qhk q4y or2
      simp
    | true =>
      simp only [cond_true,if_true]
      rw [qx3 n _ (by simp) (by simp;omega)]
      simp only [Option.bind_some,qaj]
      unfold qhk
      have e0:q4y (0:Int) 0=0:=by decide
      dsimp only
      rw [e0]
      unfold or2
      simp only [if_true]
      split
      · split<;>simp_all
      · rfl
theorem qnc (n:Nat) (l1 l2:List (List UInt8)) (h1:l1.length<=1000000) (h2:l2.length<=1000000) (hw : ∀w,w∈l1\/w∈l2->w.length<=1000000/\w.length<n) (hn:3<=n) : ∀m j:Nat,j<=l1.length->j<=l2.length->l1.length - j<m ->
    ((q6d n m l1 l2 l1 ((l1.length:Nat):Int) (j:Int)).bind fun (o5:((Int×(Unit))×(Unit)×(Unit))⊕(((List (List UInt8))×((List (List UInt8))×(Unit)))×(Unit)×(Unit)))=>Sum.elim (fun (q6:(Int×(Unit))×(Unit)×(Unit))=>some q6.1.1) (fun (q7:((List (List UInt8))×((List (List UInt8))×(Unit)))×(Unit)×(Unit))=>(bif decide (((List.length q7.1.1:Nat):Int)<((List.length q7.1.2.1:Nat):Int)) then some (-1:Int) else some (0:Int))) o5)=some (cmpL jqt (l1.drop j) (l2.drop j))
  | 0,j,_,_,h=>absurd h (Nat.not_lt_zero _)
  | m+1,j,hj,hj2,h=>by
    rw [qiw]
    unfold qlr
    by_cases c0:j<l1.length
    · have c0':((j:Nat):Int)<((l1.length:Nat):Int):=by omega
      have hd:l1.drop j=l1[j]::l1.drop (j+1):=(List.drop_eq_getElem_cons c0)
      by_cases c1:j<l2.length
      · have c1' : ¬ ((l2.length:Nat):Int)<=((j:Nat):Int):=by omega
        have hd2:l2.drop j=l2[j]::l2.drop (j+1):=(List.drop_eq_getElem_cons c1)
        have ih:=qnc n l1 l2 h1 h2 hw hn m (j+1) (by omega) (by omega) (by omega)
        have k1:=hw l1[j] (Or.inl (List.getElem_mem c0))
        have k2:=hw l2[j] (Or.inr (List.getElem_mem c1))
        have hp:=jgx n l1[j] l2[j] k1.1 k2.1 ⟨k1.2,k2.2,hn⟩
        rw [hd,hd2,cmpL]
        simp only [c0',decide_true,cond_true,q0k c0,Option.bind_some,c1',decide_false,cond_false,q0k c1,hp,q0e,q04 (show j<4611686018427387904 by omega)]
        unfold or2
        by_cases h0:jqt l1[j] l2[j]=0
        · simp only [h0,decide_true,Bool.not_true,cond_false,if_true]
          exact ih
        · simp only [h0,decide_false,Bool.not_false,cond_true,if_false,Option.bind_some,Sum.elim_inl]
      · have c1':((l2.length:Nat):Int)<=((j:Nat):Int):=by omega
        have hd2:l2.drop j = []:=List.drop_eq_nil_of_le (by omega)
        rw [hd,hd2,cmpL]
        simp only [c0',decide_true,cond_true,q0k c0,Option.bind_some,c1',Sum.elim_inl]
    · have c0' : ¬ ((j:Nat):Int)<((l1.length:Nat):Int):=by omega
      have hd:l1.drop j = []:=List.drop_eq_nil_of_le (by omega)
      simp only [c0',decide_false,cond_false,Option.bind_some,Sum.elim_inr]
      have hje:j=l1.length:=by omega
      rw [hd]
      by_cases c1:j<l2.length
      · have hd2:l2.drop j=l2[j]::l2.drop (j+1):=(List.drop_eq_getElem_cons c1)
        have c2:((l1.length:Nat):Int)<((l2.length:Nat):Int):=by omega
        rw [hd2]
        simp only [c2,decide_true,cond_true,cmpL]
      · have hd2:l2.drop j = []:=List.drop_eq_nil_of_le (by omega)
        have c2 : ¬ ((l1.length:Nat):Int)<((l2.length:Nat):Int):=by omega
        rw [hd2]
        simp only [c2,decide_false,cond_false,cmpL]
theorem j55 (n:Nat) (l1 l2:List (List UInt8)) (h1:l1.length<=1000000) (h2:l2.length<=1000000) (hw : ∀w,w∈l1\/w∈l2->w.length<=1000000/\w.length<n) (hn:3<=n) (hn2:l1.length<n):que n l1 l2 ()=some (cmpL jqt l1 l2):=by
  have:=qnc n l1 l2 h1 h2 hw hn n 0 (Nat.zero_le _) (Nat.zero_le _) (by omega)
  rw [List.drop_zero,List.drop_zero] at this
  exact this
theorem jqf (n:Nat) (a b:List UInt8) (ha:a.length<=100000) (hb:b.length<=100000) (hn:a.length+3<n/\b.length+3<n):jfz n a b=some (q9y a b):=by
  unfold jfz
  by_cases hab:a=b
  · subst hab
    rw [qmq.refl]
    simp
  · simp only [hab,decide_false,cond_false]
    by_cases h1:a = []
    · have hb0:b ≠ []:=fun e=>hab (by rw [h1,e])
      simp only [h1,decide_true,cond_true]
      unfold q9y qhk jk0 q4y or2
      simp [hb0]
    · simp only [h1,decide_false,cond_false]
      by_cases h2:b = []
      · simp only [h2,decide_true,cond_true]
        unfold q9y qhk jk0 q4y or2
        simp [h1]
      · simp only [h2,decide_false,cond_false]
        have s1:qg2 a [46]=some (spl 46 [] a):=if_pos (by omega)
        have s2:qg2 b [46]=some (spl 46 [] b):=if_pos (by omega)
        have k1:=q7f 46 a []
        have k2:=q7f 46 b []
        rw [s1,s2]
        simp only [Option.bind_some]
        rw [j55 n _ _ (by omega) (by omega) (fun w hw=>by
          rcases hw with hw|hw
          · have:=qay 46 a [] w hw;simp at this;omega
          · have:=qay 46 b [] w hw;simp at this;omega) (by omega) (by omega)]
        unfold q9y jk0
        simp only [h1,h2,if_false]
        unfold qhk
        have e0:q4y (0:Int) 0=0:=by decide
        dsimp only
        rw [e0]
        unfold or2
        simp
theorem qju (n:Nat) (a b:VD) (hn:100<=n):q6i n a b=some (qre a b):=by
  unfold q6i qre
  rw [q7c n a (by omega),q7c n b (by omega)]
  cases hca:q1f a with
  | false=>rfl
  | true=>cases hcb:q1f b with
    | false=>rfl
    | true =>
      obtain ⟨-,-,-,h4,-⟩:=q3d hca
      obtain ⟨-,-,-,k4,-⟩:=q3d hcb
      have t1:=qpr h4
      have t2:=qpr k4
      simp only [Option.bind_some,Bool.not_true,cond_false,qs4]
      rw [jqf n _ _ (by omega) (by omega) ⟨by omega,by omega⟩]
      simp only [Option.bind_some]
      rw [qx3 n _ (by simp) (by simp;omega)]
      simp only [Option.bind_some,qaj,Bool.and_self,if_true]
      have z0 : ∀x:Int,or2 x 0=x:=fun x=>by unfold or2;split<;>simp_all
      rw [z0]
      rfl
theorem jku {n:Int} (h:0<=n/\n<=999999999):qvf n=true:=by unfold qvf;simp [h.1,h.2]
theorem qk0 {a b c:Int} (h1:0<=a/\a<=999999999) (h2:0<=b/\b<=999999999) (h3:0<=c/\c<=999999999):q1f (a,(b,(c,([],[]))))=true:=by
  unfold q1f;simp only [jku h1,jku h2,jku h3,q5p,decide_true,Bool.true_or,Bool.and_self]
theorem jiz (p:List UInt8):q9y [] p=if p = [] then 0 else 1:=by
  by_cases h:p = []
  · subst h;rw [if_pos rfl];exact qmq.refl _
  · unfold q9y qhk jk0 q4y or2;simp [h]
theorem qq0 (a b c:Int) (v:VD):jwr (a,(b,(c,[]))) (core v)=or2 (q4y a v.1) (or2 (q4y b v.2.1) (or2 (q4y c v.2.2.1) (if v.2.2.2.1 = [] then 0 else 1))):=by
  rw [<-jiz];rfl
theorem jiu (n:Nat) (v:VD) (l:Int) (hn:100<=n):qzk n v l=some (qm7 v l):=by
  unfold qzk qm7
  rw [q7c n v (by omega)]
  cases hc:q1f v with
  | false=>simp
  | true =>
    obtain ⟨h1,h2,h3,h4,h5⟩:=q3d hc
    simp only [Option.bind_some,Bool.not_true,cond_false]
    by_cases l1:l<1
    · have : ¬ (1<=l):=by omega
      simp [l1,this]
    by_cases l3:3<l
    · have : ¬ (l<=3):=by omega
      simp [l1,l3,this]
    have q1:1<=l:=by omega
    have q3:l<=3:=by omega
    simp only [l1,l3,decide_false,cond_false,qju n _ v hn]
    have w1:IntKind.wrap .i64 (v.2.2.1+1)=v.2.2.1+1:=wrap64 (by omega) (by omega)
    have w2:IntKind.wrap .i64 (v.2.1+1)=v.2.1+1:=wrap64 (by omega) (by omega)
    have w3:IntKind.wrap .i64 (v.1+1)=v.1+1:=wrap64 (by omega) (by omega)
    simp only [q0e,w1,w2,w3]
    have i0 : ∀x:Int,q4y x x=0:=fun x=>q3u.refl x
    have z : ∀(x:Int),0<=x->x≠0->q4y 0 x = -1:=fun x hx hne=>by unfold q4y;rw [if_pos (by omega)]
    rcases (show l=1\/l=2\/l=3 by omega) with rfl|rfl|rfl
    · have hv:qre (v.1,(v.2.1,(v.2.2.1,([],[])))) v=if v.2.2.2.1 = [] then 0 else 1:=by
        unfold qre;rw [qk0 h1 h2 h3,hc]
        show jwr (v.1,(v.2.1,(v.2.2.1,[]))) (core v)=_
        rw [qq0,i0,i0,i0];unfold or2;simp
      simp only [qk5,show ¬ (1:Int)=3 by decide,show ¬ (1:Int)=2 by decide,decide_false,decide_true,cond_false,cond_true,Option.bind_some,hv]
      by_cases hp:v.2.2.2.1 = []
      · by_cases a1:v.2.2.1<999999999
        · simp [hp,a1]
        · by_cases a2:v.2.1<999999999
          · simp [hp,a1,a2]
          · by_cases a3:v.1<999999999<;>simp [hp,a1,a2,a3]
      · simp [hp]
    · have hv:qre (v.1,(v.2.1,(0,([],[])))) v=if v.2.2.1=0 then (if v.2.2.2.1 = [] then 0 else 1) else -1:=by
        unfold qre;rw [qk0 h1 h2 (by omega),hc]
        show jwr (v.1,(v.2.1,(0,[]))) (core v)=_
        rw [qq0,i0,i0]
        by_cases p0:v.2.2.1=0
        · rw [p0,i0];unfold or2;simp
        · rw [z _ h3.1 p0];unfold or2;simp [p0]
      simp only [qk5,show ¬ (2:Int)=3 by decide,show ¬ (2:Int)=1 by decide,decide_false,decide_true,cond_false,cond_true,Option.bind_some,hv]
      by_cases p0:v.2.2.1=0
      · by_cases hp:v.2.2.2.1 = []
        · by_cases a2:v.2.1<999999999
          · simp [hp,p0,a2]
          · by_cases a3:v.1<999999999<;>simp [hp,p0,a2,a3]
        · simp [hp,p0]
      · by_cases a2:v.2.1<999999999
        · simp [p0,a2]
        · by_cases a3:v.1<999999999<;>simp [p0,a2,a3]
    · have hv:qre (v.1,(0,(0,([],[])))) v=if v.2.1=0 then (if v.2.2.1=0 then (if v.2.2.2.1 = [] then 0 else 1) else -1) else -1:=by
        unfold qre;rw [qk0 h1 (by omega) (by omega),hc]
        show jwr (v.1,(0,(0,[]))) (core v)=_
        rw [qq0,i0]
        by_cases m0:v.2.1=0
        · by_cases p0:v.2.2.1=0
          · rw [p0,m0,i0];unfold or2;simp
          · rw [z _ h3.1 p0,m0,i0];unfold or2;simp [p0]
        · rw [z _ h2.1 m0];unfold or2;simp [m0]
      simp only [qk5,show ¬ (3:Int)=1 by decide,show ¬ (3:Int)=2 by decide,decide_false,decide_true,cond_false,cond_true,Option.bind_some,hv]
      by_cases m0:v.2.1=0
      · by_cases p0:v.2.2.1=0
        · by_cases hp:v.2.2.2.1 = []
          · by_cases a3:v.1<999999999<;>simp [hp,p0,m0,a3]
          · simp [hp,p0,m0]
        · by_cases a3:v.1<999999999<;>simp [p0,m0,a3]
      · by_cases a3:v.1<999999999<;>simp [m0,a3]
end Go.Proofs.YtggoebaobojmjaaGreatDoor.AM
namespace Go.Proofs.YtggoebaobojmjaaGreatDoor.AM
open Go.RowKit
set_option linter.unusedVariables false
set_option linter.unusedSimpArgs false
end Go.Proofs.YtggoebaobojmjaaGreatDoor.AM
namespace Go.Proofs.YtggoebaobojmjaaGreatDoor.AM
open Go.RowKit
set_option linter.unusedVariables false
set_option linter.unusedSimpArgs false
theorem jxd {a b:VD} (ha:q1f a=true) (hb:q1f b=true):qre a b=jwr (core a) (core b):=by unfold qre;rw [ha,hb];rfl
theorem jqe (a b:VD):qre a b = - qre b a:=by
  unfold qre
  cases q1f a<;>cases q1f b<;>simp
  exact jro.anti _ _
theorem jgp {v:VD} {l:Int} (h:(qm7 v l).2=0):q1f v=true/\(1<=l/\l<=3)/\∃ M m p:Int,qm7 v l=((M,(m,(p,([],[])))),0)/\(0<=M/\M<=999999999)/\(0<=m/\m<=999999999)/\(0<=p/\p<=999999999) /\
    (
     (v.2.2.2.1 ≠ []/\M=v.1/\m=v.2.1/\p=v.2.2.1/\(2<=l->p=0)/\(l=3->m=0)) \/
     (
      ¬ (v.2.2.2.1 ≠ []/\(2<=l->v.2.2.1=0)/\(l=3->v.2.1=0))/\((l=1/\M=v.1/\m=v.2.1/\p=v.2.2.1+1) \/
      (l<=2/\M=v.1/\m=v.2.1+1/\p=0/\(l=1->v.2.2.1=999999999)) \/
      (M=v.1+1/\m=0/\p=0/\(l=1->v.2.2.1=999999999)/\(l<=2->v.2.1=999999999))))):=by
  unfold qm7 at h ⊢
  split at h
  case isFalse=>simp at h
  rename_i h0
  obtain ⟨hc,hl⟩:=h0
  obtain ⟨h1,h2,h3,h4,h5⟩:=q3d hc
  refine ⟨hc,hl,?_⟩
  rw [if_pos ⟨hc,hl⟩]
  split
  · rename_i k1
    exact ⟨_,_,_,rfl,h1,h2,h3,Or.inl ⟨k1.1,rfl,rfl,rfl,k1.2.1,k1.2.2⟩⟩
  · rename_i k1
    split
    · rename_i k2
      exact ⟨_,_,_,rfl,h1,h2,by omega,Or.inr ⟨k1,Or.inl ⟨k2.1,rfl,rfl,rfl⟩⟩⟩
    · rename_i k2
      split
      · rename_i k3
        exact ⟨_,_,_,rfl,h1,by omega,by omega,Or.inr ⟨k1,Or.inr (Or.inl ⟨k3.1,rfl,rfl,rfl,by omega⟩)⟩⟩
      · rename_i k3
        split
        · rename_i k4
          exact ⟨_,_,_,rfl,by omega,by omega,by omega,Or.inr ⟨k1,Or.inr (Or.inr ⟨rfl,rfl,rfl,by omega,by omega⟩)⟩⟩
        · rename_i k4
          exfalso
          rw [if_neg k1,if_neg k2,if_neg k3,if_neg k4] at h
          simp at h
theorem jym {a b c:Int} {v:VD} (h1:0<=a/\a<=999999999) (h2:0<=b/\b<=999999999) (h3:0<=c/\c<=999999999) (hv:q1f v=true) :
    qre (a,(b,(c,([],[])))) v=or2 (q4y a v.1) (or2 (q4y b v.2.1) (or2 (q4y c v.2.2.1) (if v.2.2.2.1 = [] then 0 else 1))):=by
  rw [jxd (qk0 h1 h2 h3) hv]
  exact qq0 a b c v
theorem jw9 {x y:Int} : or2 x y=1↔(x=1\/(x=0/\y=1)):=by unfold or2;split<;>omega
theorem jtu {a b:Int} : q4y a b=1↔b<a:=by unfold q4y;split<;>(try split)<;>omega
theorem jp2 {a b:Int} : q4y a b=0↔a=b:=by unfold q4y;split<;>(try split)<;>omega
theorem ji1 {v:VD} {l:Int} {M m p:Int} (hM:0<=M/\M<=999999999) (hm:0<=m/\m<=999999999) (hp:0<=p/\p<=999999999) (hv:q1f v=true) (hl:1<=l/\l<=3)
    (
     h:(v.2.2.2.1 ≠ []/\M=v.1/\m=v.2.1/\p=v.2.2.1/\(2<=l->p=0)/\(l=3->m=0)) \/
     (
      ¬ (v.2.2.2.1 ≠ []/\(2<=l->v.2.2.1=0)/\(l=3->v.2.1=0))/\((l=1/\M=v.1/\m=v.2.1/\p=v.2.2.1+1) \/
      (l<=2/\M=v.1/\m=v.2.1+1/\p=0/\(l=1->v.2.2.1=999999999)) \/
      (M=v.1+1/\m=0/\p=0/\(l=1->v.2.2.1=999999999)/\(l<=2->v.2.1=999999999))))):qre (M,(m,(p,([],[])))) v=1:=by
  rw [jym hM hm hp hv]
  simp only [jw9,jtu,jp2]
  by_cases hp0:v.2.2.2.1 = []
  · simp only [hp0,ne_eq,not_true,false_and,false_or,not_false_eq_true,true_and,if_true] at h ⊢
    omega
  · simp only [hp0,ne_eq,not_false_eq_true,true_and,and_true,if_false] at h ⊢
    omega
end Go.Proofs.YtggoebaobojmjaaGreatDoor.AM
namespace Go.Proofs.YtggoebaobojmjaaGreatDoor.AM
open Go.RowKit
set_option linter.unusedVariables false
set_option linter.unusedSimpArgs false
theorem qbv (n:Nat) (s:List UInt8) (c:UInt8) (hs:s.length<=1000000) : ∀(m i fr:Nat) (out:List (List UInt8)),i<=s.length->s.length - i+1<m->fr<=i->out.length<=i ->
    q6e n m s ((c.toNat:Nat):Int) (fr:Int) (i:Int) out=some (((),()),((),(out++spl c ((s.drop fr).take (i - fr)) (s.drop i),())))
  | 0,i,fr,_,_,h,_,_=>absurd h (Nat.not_lt_zero _)
  | m+1,i,fr,out,hi,h,hf,ho=>by
    rw [q7n]
    unfold qdu
    have c0:((i:Nat):Int)<=((s.length:Nat):Int):=by omega
    have w1:=q04 (show i<4611686018427387904 by omega)
    have s1:qtj s ((fr:Nat):Int) ((i:Nat):Int)=some ((s.drop fr).take (i - fr)):=sub_le hf hi
    have a1:j0w 16 out [(s.drop fr).take (i - fr)]=some (out ++ [(s.drop fr).take (i - fr)]):=qf4 (by simp;omega)
    by_cases c1:i=s.length
    · have c1':((i:Nat):Int)=((s.length:Nat):Int):=by omega
      have hd:s.drop i = []:=List.drop_eq_nil_of_le (by omega)
      simp only [c0,c1',decide_true,cond_true]
      rw [<-c1',s1,Option.bind_some,a1,Option.bind_some,hd]
      simp only [q0e,w1]
      cases m with
      | zero=>omega
      | succ m =>
        rw [q7n]
        unfold qdu
        have c2 : ¬ ((i+1:Nat):Int)<=((s.length:Nat):Int):=by omega
        simp only [c2,Int.le_refl,decide_true,decide_false,cond_true,cond_false]
        rfl
    · have c1' : ¬ ((i:Nat):Int)=((s.length:Nat):Int):=by omega
      have hi':i<s.length:=by omega
      have hd:s.drop i=s[i]::s.drop (i+1):=List.drop_eq_getElem_cons hi'
      simp only [c0,c1',decide_true,decide_false,cond_true,cond_false,q6x hi',Option.bind_some,q0e,w1,s1,a1]
      have hc:decide (((s[i].toNat:Nat):Int)=((c.toNat:Nat):Int))=decide (s[i]=c):=by
        apply decide_eq_decide.2
        constructor
        · intro hh;exact UInt8.toNat_inj.1 (by omega)
        · intro hh;rw [hh]
      rw [hc,hd,spl]
      by_cases c2:s[i]=c
      · simp only [c2,decide_true,cond_true,if_true]
        rw [qbv n s c hs m (i+1) (i+1) (out ++ [(s.drop fr).take (i - fr)]) (by omega) (by omega) (Nat.le_refl _) (by simp;omega)]
        simp
      · simp only [c2,decide_false,cond_false,if_false]
        rw [qbv n s c hs m (i+1) fr out (by omega) (by omega) (by omega) (by omega)]
        have e1:(s.drop fr).take (i+1 - fr)=(s.drop fr).take (i - fr) ++ [s[i]]:=by
          rw [show i+1 - fr=(i - fr)+1 from by omega,List.take_add_one,List.getElem?_drop,show fr+(i - fr)=i from by omega,List.getElem?_eq_getElem hi']
          rfl
        rw [e1]
theorem q94 (n:Nat) (s:List UInt8) (c:UInt8) (hs:s.length<=1000000) (hn:s.length+1<n):q2a n s ((c.toNat:Nat):Int)=some (spl c [] s):=by
  unfold q2a
  have h:=qbv n s c hs n 0 0 [] (Nat.zero_le _) (by omega) (Nat.le_refl _) (Nat.zero_le _)
  rw [show ((0:Nat):Int)=(0:Int) from rfl] at h
  rw [h]
  simp
theorem qoe (n:Nat) (s:List UInt8) (hL:s.length<=1000000) : ∀m j:Nat,j<=s.length->s.length - j<m->q6f n m s (j:Int)=some (if (s.drop j).all q1z=true then Sum.inr ((s,()),((),())) else Sum.inl ((false,()),((),())))
  | 0,j,_,h=>absurd h (Nat.not_lt_zero _)
  | m+1,j,hj,h=>by
    rw [qi7]
    unfold qly
    by_cases c0:j<s.length
    · have c0':((j:Nat):Int)<((s.length:Nat):Int):=by omega
      have ih:=qoe n s hL m (j+1) (by omega) (by omega)
      have hd:s.drop j=s[j]::s.drop (j+1):=(List.drop_eq_getElem_cons c0)
      simp only [c0',decide_true,cond_true,q6x c0,Option.bind_some,q0e,q04 (show j<4611686018427387904 by omega),ih,hd,List.all_cons]
      unfold q1z
      by_cases h1:s[j].toNat<48
      · have e1:((s[j].toNat:Nat):Int)<48:=by omega
        have e2 : ¬ 48<=s[j].toNat:=by omega
        simp [e1,e2]
      · have e1 : ¬ ((s[j].toNat:Nat):Int)<48:=by omega
        have e2:48<=s[j].toNat:=by omega
        by_cases h2:57<s[j].toNat
        · have e3:(57:Int)<((s[j].toNat:Nat):Int):=by omega
          have e4 : ¬ s[j].toNat<=57:=by omega
          simp [e1,e2,e3,e4]
        · have e3 : ¬ (57:Int)<((s[j].toNat:Nat):Int):=by omega
          have e4:s[j].toNat<=57:=by omega
          simp [e1,e2,e3,e4]
    · have c0' : ¬ ((j:Nat):Int)<((s.length:Nat):Int):=by omega
      have:s.drop j = []:=List.drop_eq_nil_of_le (by omega)
      simp [c0',this]
theorem qcl (n:Nat) (s:List UInt8) (hL:s.length<=1000000) (hn:s.length<n):q9g n s=some (q33 s):=by
  unfold q9g q33
  have:=qoe n s hL n 0 (Nat.zero_le _) (by omega)
  rw [show ((0:Nat):Int)=(0:Int) from rfl] at this
  rw [this,List.drop_zero]
  cases s.all q1z<;>rfl
theorem jfj (c:UInt8):jjr c=((decide ((97:Int)<=((c.toNat:Nat):Int))&&decide (((c.toNat:Nat):Int)<=(122:Int)))||(decide ((65:Int)<=((c.toNat:Nat):Int))&&decide (((c.toNat:Nat):Int)<=(90:Int)))||(decide ((48:Int)<=((c.toNat:Nat):Int))&&decide (((c.toNat:Nat):Int)<=(57:Int)))||decide (((c.toNat:Nat):Int)=(45:Int))):=by
  unfold jjr q1z
  have h1:decide ((97:Int)<=((c.toNat:Nat):Int))=decide (97<=c.toNat):=decide_eq_decide.2 (by omega)
  have h2:decide (((c.toNat:Nat):Int)<=(122:Int))=decide (c.toNat<=122):=decide_eq_decide.2 (by omega)
  have h3:decide ((65:Int)<=((c.toNat:Nat):Int))=decide (65<=c.toNat):=decide_eq_decide.2 (by omega)
  have h4:decide (((c.toNat:Nat):Int)<=(90:Int))=decide (c.toNat<=90):=decide_eq_decide.2 (by omega)
  have h5:decide (((c.toNat:Nat):Int)=(45:Int))=decide (c.toNat=45):=decide_eq_decide.2 (by omega)
  have h6:decide ((48:Int)<=((c.toNat:Nat):Int))=decide (48<=c.toNat):=decide_eq_decide.2 (by omega)
  have h7:decide (((c.toNat:Nat):Int)<=(57:Int))=decide (c.toNat<=57):=decide_eq_decide.2 (by omega)
  rw [h1,h2,h3,h4,h5,h6,h7]
theorem qfb (n:Nat) (z:Bool) (l:List (List UInt8)) (i:Nat) (hi:i<l.length) (w:List UInt8) (hw:l[i]=w) (hL:w.length<=1000000) : ∀m j:Nat,j<=w.length->w.length - j<m->q5r n m z l (i:Int) (j:Int)=some (if (w.drop j).all jjr=true then Sum.inr ((z,(l,((i:Int),()))),((),())) else Sum.inl ((false,()),((),())))
  | 0,j,_,h=>absurd h (Nat.not_lt_zero _)
  | m+1,j,hj,h=>by
    rw [qji]
    unfold qmo
    have e0:q0x l ((i:Nat):Int)=some w:=by rw [q0k hi,hw]
    by_cases c0:j<w.length
    · have c0':((j:Nat):Int)<((w.length:Nat):Int):=by omega
      have ih:=qfb n z l i hi w hw hL m (j+1) (by omega) (by omega)
      have hd:w.drop j=w[j]::w.drop (j+1):=(List.drop_eq_getElem_cons c0)
      simp only [e0,Option.bind_some,c0',decide_true,cond_true,q6x c0,q0e,q04 (show j<4611686018427387904 by omega),ih,hd,List.all_cons,jfj]
      cases decide ((97:Int)<=((w[j].toNat:Nat):Int))<;>cases decide (((w[j].toNat:Nat):Int)<=(122:Int))<;>cases decide ((65:Int)<=((w[j].toNat:Nat):Int))<;>cases decide (((w[j].toNat:Nat):Int)<=(90:Int))<;>cases decide ((48:Int)<=((w[j].toNat:Nat):Int))<;>cases decide (((w[j].toNat:Nat):Int)<=(57:Int))<;>cases decide (((w[j].toNat:Nat):Int)=(45:Int))<;>rfl
    · have c0' : ¬ ((j:Nat):Int)<((w.length:Nat):Int):=by omega
      have:w.drop j = []:=List.drop_eq_nil_of_le (by omega)
      simp only [e0,Option.bind_some,c0',decide_false,cond_false,this,List.all_nil,if_true]
def q8y (z:Bool) (w:List UInt8):Bool:=q2f w&&(z || !(q33 w&&(decide (1<w.length)&&decide (w.head? = some 48))))
theorem j78 (w:List UInt8):q8y true w=q2f w:=by unfold q8y;simp
theorem j1w (w:List UInt8):q8y false w=q5e w:=by
  unfold q8y q5e
  cases w with
  | nil=>simp [q2f]
  | cons c r =>
    cases hn:q33 (c::r) with
    | false=>simp
    | true =>
      by_cases hc:c=48
      · subst hc
        cases r with
        | nil=>simp
        | cons d r=>simp
      · simp [hc]
theorem qj9 (n:Nat) (z:Bool) (l:List (List UInt8)) (hl:l.length<=1000000) (hw : ∀w∈l,w.length<=1000000/\w.length<n) : ∀m i:Nat,i<=l.length->l.length - i<m->q5s n m z l (i:Int)=some (if (l.drop i).all (q8y z)=true then Sum.inr ((),((),())) else Sum.inl ((false,()),((),())))
  | 0,j,_,h=>absurd h (Nat.not_lt_zero _)
  | m+1,i,hi,h=>by
    rw [qid]
    unfold qmx
    by_cases c0:i<l.length
    · have c0':((i:Nat):Int)<((l.length:Nat):Int):=by omega
      have ih:=qj9 n z l hl hw m (i+1) (by omega) (by omega)
      have hd:l.drop i=l[i]::l.drop (i+1):=(List.drop_eq_getElem_cons c0)
      have hww:=hw l[i] (List.getElem_mem c0)
      have h1:=qfb n z l i c0 l[i] rfl hww.1 n 0 (Nat.zero_le _) (by omega)
      rw [show ((0:Nat):Int)=(0:Int) from rfl,List.drop_zero] at h1
      rw [hd,List.all_cons]
      simp only [c0',decide_true,cond_true,h1,Option.bind_some]
      rw [show q8y z l[i]=((l[i].all jjr && !decide (l[i] = []))&&(z || !(q33 l[i]&&(decide (1<l[i].length)&&decide (l[i].head? = some 48))))) from rfl]
      cases hs:l[i].all jjr with
      | false=>simp
      | true =>
        simp only [if_true,Sum.elim_inr,q0k c0,Option.bind_some,qcl n _ hww.1 hww.2,q0e,q04 (show i<4611686018427387904 by omega),ih]
        generalize hx:l[i]=x at hs hww
        cases x with
        | nil=>simp
        | cons c r =>
          have h0:sAt (c::r) (0:Int)=some ((c.toNat:Nat):Int):=q6x (s:=c::r) (j:=0) (by simp)
          have h2:decide (((c.toNat:Nat):Int)=(48:Int))=decide ((c::r).head? = some 48):=decide_eq_decide.2 (by
            simp only [List.head?_cons,Option.some.injEq]
            constructor
            · intro h;exact UInt8.toNat_inj.1 (by have e48:(48:UInt8).toNat=48:=rfl;rw [e48];omega)
            · rintro rfl;rfl)
          have h3:decide ((1:Int)<(((c::r).length:Nat):Int))=decide (1<(c::r).length):=decide_eq_decide.2 (by omega)
          have e0:decide (c::r=([]:List UInt8))=false:=by simp
          simp only [h0,h2,h3,e0,Option.bind_some,cond_false]
          cases z<;>cases q33 (c::r)<;>cases decide (1<(c::r).length)<;>cases decide ((c::r).head? = some 48)<;>simp
    · have c0' : ¬ ((i:Nat):Int)<((l.length:Nat):Int):=by omega
      have:l.drop i = []:=List.drop_eq_nil_of_le (by omega)
      simp only [c0',decide_false,cond_false,this,List.all_nil,if_true]
theorem qny (n:Nat) (s:List UInt8) (z:Bool) (hs:s.length<=100000) (hn:s.length+2<n):qa0 n s z=some ((spl 46 [] s).all (q8y z)):=by
  unfold qa0
  have e1:q2a n s (46:Int)=some (spl 46 [] s):=q94 n s 46 (by omega) (by omega)
  rw [e1]
  have k:=q7f 46 s []
  have h:=qj9 n z (spl 46 [] s) (by omega) (fun w hw=>by have:=qay 46 s [] w hw;simp at this;omega) n 0 (Nat.zero_le _) (by omega)
  rw [show ((0:Nat):Int)=(0:Int) from rfl,List.drop_zero] at h
  simp only [Option.bind_some,h]
  cases (spl 46 [] s).all (q8y z)<;>rfl
theorem jm8 (n:Nat) (a:Int):qyd n a=some (qvf a):=by
  unfold qyd qvf
  cases decide ((0:Int)<=a)<;>rfl
theorem qh6 (n:Nat) (v:VD) (hn:100<=n):qdr n v=some (q1f v):=by
  unfold qdr q1f
  simp only [jm8,Option.bind_some]
  cases qvf v.1 with
  | false=>rfl
  | true=>cases qvf v.2.1 with
    | false=>rfl
    | true=>cases qvf v.2.2.1 with
      | false=>rfl
      | true =>
        simp only [Bool.not_true,cond_false,Bool.true_and]
        unfold q5p
        have f1:(q8y true)=q2f:=funext j78
        have f2:(q8y false)=q5e:=funext j1w
        by_cases c1:(30:Int)<((v.2.2.2.1.length:Nat):Int)
        · have e1:v.2.2.2.1 ≠ []:=fun e=>by rw [e] at c1;simp at c1
          have e2 : ¬ v.2.2.2.1.length<=30:=by omega
          simp [c1,e1,e2]
        · by_cases c2:(30:Int)<((v.2.2.2.2.length:Nat):Int)
          · have e1:v.2.2.2.2 ≠ []:=fun e=>by rw [e] at c2;simp at c2
            have e2 : ¬ v.2.2.2.2.length<=30:=by omega
            simp [c1,c2,e1,e2]
          · have l1:v.2.2.2.1.length<=30:=by omega
            have l2:v.2.2.2.2.length<=30:=by omega
            have r1:=qny n v.2.2.2.1 false (by omega) (by omega)
            have r2:=qny n v.2.2.2.2 true (by omega) (by omega)
            rw [f2] at r1
            rw [f1] at r2
            simp only [c1,c2,decide_false,cond_false,r1,r2,l1,l2,decide_true,Bool.true_and,Option.bind_some]
            by_cases p:v.2.2.2.1 = []
            · by_cases q:v.2.2.2.2 = []<;>simp [p,q]
            · by_cases q:v.2.2.2.2 = []
              · simp only [p,q,decide_false,decide_true,cond_false,cond_true,Bool.false_or,Bool.true_or,Bool.and_true]
                cases (spl 46 [] v.2.2.2.1).all q5e<;>rfl
              · simp only [p,q,decide_false,decide_true,cond_false,cond_true,Bool.false_or]
                cases (spl 46 [] v.2.2.2.1).all q5e<;>rfl
end Go.Proofs.YtggoebaobojmjaaGreatDoor.AM
namespace Go.Proofs.YtggoebaobojmjaaGreatDoor.AM
open Go.RowKit
set_option linter.unusedVariables false
set_option linter.unusedSimpArgs false
theorem q39 (n:Nat) (a b:Int):q44 n a b=some (q4y a b):=by
  unfold q44 q4y
  by_cases h1:a<b
  · simp [h1]
  · by_cases h2:b<a
    · simp [h1,h2]
    · simp [h1,h2]
theorem k18 (a b:List UInt8):(bif ltS a b then some (-1:Int) else (bif !(ltS a b||decide (a=b)) then some (1:Int) else some (0:Int)))=some (cmpL jnr a b):=by
  unfold ltS
  rw [qis]
  have hr:=(qhr qpz).rng a b
  have hz:cmpL jnr a b=0↔a=b:=(qhr qpz).zero
  by_cases h1:cmpL jnr a b<0
  · have:cmpL jnr a b = -1:=by omega
    simp [h1,this]
  · by_cases h2:a=b
    · have:=hz.2 h2
      simp [h1,h2,(qhr qpz).refl b]
    · have:cmpL jnr a b=1:=by
        have : ¬ cmpL jnr a b=0:=fun e=>h2 (hz.1 e)
        omega
      simp [h2,this]
theorem jac (n:Nat) (a b:List UInt8) (ha:a.length<=1000000) (hb:b.length<=1000000) (hn:a.length<n/\b.length<n):qht n a b=some (jqt a b):=by
  unfold qht jqt jv1
  rw [qcl n a ha hn.1,qcl n b hb hn.2]
  simp only [Option.bind_some,k18,q39]
  cases q33 a with
  | false=>cases q33 b with
    | false =>
      simp only [cond_false,Bool.false_eq_true,if_false]
      unfold qhk q4y or2
      simp
    | true =>
      simp only [cond_false,cond_true,Bool.not_false,Bool.false_eq_true,if_false,if_true]
      unfold qhk q4y or2
      simp
  | true=>cases q33 b with
    | false =>
      simp only [cond_false,cond_true,Bool.not_false,Bool.false_eq_true,if_false,if_true]
      unfold qhk q4y or2
      simp
    | true =>
      simp only [cond_true,cond_false,Bool.not_true,if_true]
      unfold qhk
      have e0:q4y (0:Int) 0=0:=by decide
      dsimp only
      rw [e0]
      unfold or2
      simp only [if_true]
      by_cases hl:((a.length:Nat):Int)=((b.length:Nat):Int)
      · have:q4y ((a.length:Nat):Int) ((b.length:Nat):Int)=0:=by rw [hl];exact q3u.refl _
        simp only [hl,decide_true,Bool.not_true,cond_false]
        rw [hl] at this
        rw [this];rfl
      · have : ¬ q4y ((a.length:Nat):Int) ((b.length:Nat):Int)=0:=fun e=>hl (q3u.eq _ _ e)
        simp only [hl,decide_false,Bool.not_false,cond_true,this,if_false]
theorem qxs (n:Nat) (l1 l2:List (List UInt8)) (h1:l1.length<=1000000) (h2:l2.length<=1000000) (hw : ∀w,w∈l1\/w∈l2->w.length<=1000000/\w.length<n) : ∀m j:Nat,j<=l1.length->j<=l2.length->l1.length - j<m ->
    ((qeh n m l1 l2 (j:Int)).bind fun (o16:((Int×(Unit))×(Unit)×(Unit))⊕(((List (List UInt8))×((List (List UInt8))×(Unit)))×(Unit)×(Unit)))=>Sum.elim (fun (q17:(Int×(Unit))×(Unit)×(Unit))=>some q17.1.1) (fun (q18:((List (List UInt8))×((List (List UInt8))×(Unit)))×(Unit)×(Unit))=>(q44 n ((List.length q18.1.1:Nat):Int) ((List.length q18.1.2.1:Nat):Int)).bind fun (r19:Int)=>some r19) o16)=some (cmpL jqt (l1.drop j) (l2.drop j))
  | 0,j,_,_,h=>absurd h (Nat.not_lt_zero _)
  | m+1,j,hj,hj2,h=>by
    rw [qqz]
    unfold j9p
    by_cases c0:j<l1.length
    · have c0':((j:Nat):Int)<((l1.length:Nat):Int):=by omega
      have hd:l1.drop j=l1[j]::l1.drop (j+1):=(List.drop_eq_getElem_cons c0)
      by_cases c1:j<l2.length
      · have c1':((j:Nat):Int)<((l2.length:Nat):Int):=by omega
        have hd2:l2.drop j=l2[j]::l2.drop (j+1):=(List.drop_eq_getElem_cons c1)
        have ih:=qxs n l1 l2 h1 h2 hw m (j+1) (by omega) (by omega) (by omega)
        have k1:=hw l1[j] (Or.inl (List.getElem_mem c0))
        have k2:=hw l2[j] (Or.inr (List.getElem_mem c1))
        have hp:=jac n l1[j] l2[j] k1.1 k2.1 ⟨k1.2,k2.2⟩
        rw [hd,hd2,cmpL]
        simp only [c0',decide_true,cond_true,q0k c0,Option.bind_some,c1',q0k c1,hp,q0e,q04 (show j<4611686018427387904 by omega)]
        unfold or2
        by_cases h0:jqt l1[j] l2[j]=0
        · simp only [h0,decide_true,Bool.not_true,cond_false,if_true]
          exact ih
        · simp only [h0,decide_false,Bool.not_false,cond_true,if_false,Option.bind_some,Sum.elim_inl]
      · have c1' : ¬ ((j:Nat):Int)<((l2.length:Nat):Int):=by omega
        have hd2:l2.drop j = []:=List.drop_eq_nil_of_le (by omega)
        have c3:q4y ((l1.length:Nat):Int) ((l2.length:Nat):Int)=1:=by unfold q4y;rw [if_neg (by omega),if_pos (by omega)]
        rw [hd,hd2,cmpL]
        simp only [c0',decide_true,cond_true,c1',decide_false,cond_false,Option.bind_some,Sum.elim_inr,q39,c3]
    · have c0' : ¬ ((j:Nat):Int)<((l1.length:Nat):Int):=by omega
      have hd:l1.drop j = []:=List.drop_eq_nil_of_le (by omega)
      simp only [c0',decide_false,cond_false,Option.bind_some,Sum.elim_inr,q39]
      rw [hd]
      by_cases c1:j<l2.length
      · have hd2:l2.drop j=l2[j]::l2.drop (j+1):=(List.drop_eq_getElem_cons c1)
        have c3:q4y ((l1.length:Nat):Int) ((l2.length:Nat):Int) = -1:=by unfold q4y;rw [if_pos (by omega)]
        rw [hd2,c3]
        rfl
      · have hd2:l2.drop j = []:=List.drop_eq_nil_of_le (by omega)
        have c3:q4y ((l1.length:Nat):Int) ((l2.length:Nat):Int)=0:=by unfold q4y;rw [if_neg (by omega),if_neg (by omega)]
        rw [hd2,c3]
        rfl
theorem jm3 (n:Nat) (a b:List UInt8) (ha:a.length<=100000) (hb:b.length<=100000) (hn:a.length+3<n/\b.length+3<n):jfr n a b=some (q9y a b):=by
  unfold jfr qy3
  by_cases h1:a = []
  · by_cases h2:b = []
    · simp only [h1,h2,decide_true,cond_true,Option.bind_some,q39]
      rfl
    · simp only [h1,h2,decide_true,decide_false,cond_true,cond_false,Option.bind_some,q39]
      unfold q9y qhk jk0 q4y or2
      simp [h2]
  · by_cases h2:b = []
    · simp only [h1,h2,decide_true,decide_false,cond_true,cond_false,Option.bind_some,q39]
      unfold q9y qhk jk0 q4y or2
      simp [h1]
    · simp only [h1,h2,decide_false,cond_false]
      have s1:q2a n a (46:Int)=some (spl 46 [] a):=q94 n a 46 (by omega) (by omega)
      have s2:q2a n b (46:Int)=some (spl 46 [] b):=q94 n b 46 (by omega) (by omega)
      have k1:=q7f 46 a []
      have k2:=q7f 46 b []
      rw [s1,s2]
      simp only [Option.bind_some]
      have h:=qxs n (spl 46 [] a) (spl 46 [] b) (by omega) (by omega) (fun w hw=>by
          rcases hw with hw|hw
          · have:=qay 46 a [] w hw;simp at this;omega
          · have:=qay 46 b [] w hw;simp at this;omega) n 0 (Nat.zero_le _) (Nat.zero_le _) (by omega)
      rw [show ((0:Nat):Int)=(0:Int) from rfl,List.drop_zero,List.drop_zero] at h
      rw [h]
      unfold q9y jk0
      simp only [h1,h2,if_false]
      unfold qhk
      have e0:q4y (0:Int) 0=0:=by decide
      dsimp only
      rw [e0]
      unfold or2
      simp
theorem j09 (n:Nat) (a b:VD) (hn:100<=n):q9u n a b=some (qre a b):=by
  unfold q9u qre
  rw [qh6 n a hn,qh6 n b hn]
  cases hca:q1f a with
  | false=>rfl
  | true=>cases hcb:q1f b with
    | false=>rfl
    | true =>
      obtain ⟨-,-,-,h4,-⟩:=q3d hca
      obtain ⟨-,-,-,k4,-⟩:=q3d hcb
      have t1:=qpr h4
      have t2:=qpr k4
      simp only [Option.bind_some,Bool.not_true,cond_false,q39]
      rw [jm3 n _ _ (by omega) (by omega) ⟨by omega,by omega⟩]
      simp only [Option.bind_some,Bool.and_self,if_true]
      show _=some (or2 (q4y a.1 b.1) (or2 (q4y a.2.1 b.2.1) (or2 (q4y a.2.2.1 b.2.2.1) (q9y a.2.2.2.1 b.2.2.2.1))))
      have z : ∀x y:Int,q4y x y=0↔x=y:=fun x y=>q3u.zero
      unfold or2
      simp only [z]
      by_cases e1:a.1=b.1
      · by_cases e2:a.2.1=b.2.1
        · by_cases e3:a.2.2.1=b.2.2.1<;>simp [e1,e2,e3]
        · simp [e1,e2]
      · simp [e1]
end Go.Proofs.YtggoebaobojmjaaGreatDoor.AM
namespace Go.Proofs.YtggoebaobojmjaaGreatDoor.AM
open Go.RowKit
set_option linter.unusedVariables false
set_option linter.unusedSimpArgs false
end Go.Proofs.YtggoebaobojmjaaGreatDoor.AM
namespace Go.Proofs.YtggoebaobojmjaaGreatDoor.AM
open Go.RowKit
set_option linter.unusedVariables false
set_option linter.unusedSimpArgs false
theorem jik (n:Nat) (s:List UInt8) (hL:s.length<=1000000) (hn:s.length<n):j1s n s=some (q1i s):=by
  unfold j1s q1i
  have hg:=jdg 47 s
  obtain ⟨k,hk⟩ : ∃ k:Nat,q91 47 s+1=(k:Int):=⟨(q91 47 s+1).toNat,by omega⟩
  rw [qwb n s hL hn]
  simp only [Option.bind_some,q0e]
  rw [hk,wrap64 (by omega) (by omega),sub_le (by omega) (Nat.le_refl _)]
  simp only [Option.bind_some,Int.toNat_natCast]
  rw [List.take_of_length_le (by rw [List.length_drop];exact Nat.le_refl _)]
theorem jur (s:List UInt8):(q1m s).length<=s.length:=by unfold q1m;rw [List.length_take];omega
theorem je2 (s:List UInt8):(q1i s).length<=s.length:=by unfold q1i;rw [List.length_drop];omega
theorem j8d {s:List UInt8} (h:q0w s=true):q45 s=s.drop 1:=by
  unfold q0w at h
  simp only [Bool.and_eq_true,decide_eq_true_eq] at h
  unfold q45;rw [if_pos h.1]
theorem qh8 (n:Nat) (s:List UInt8) (hL:s.length<=1000000) (hn:s.length<n):qdz n s=some (q1e s):=by
  have hb:=jur s
  have hl:=je2 s
  have e1:qqr s=some (q1m s):=if_pos hL
  have e2:j5b (q1m s)=some (anyS (q1m s)):=if_pos (by omega)
  have e3:qyn (q1i s)=some (numOf (q45 (q1i s)),qv5 (q45 (q1i s))):=if_pos (by omega)
  have e4:jai s=some (q73 s):=rfl
  unfold qdz q1e okS
  simp only [e1,e2,e3,e4,jik n s hL hn,qup n (q1i s) (by omega),Option.bind_some]
  cases q73 s with
  | false=>rfl
  | true=>cases anyS (q1m s) with
    | true=>rfl
    | false=>cases ht:q0w (q1i s) with
      | false=>rfl
      | true =>
        rw [j8d ht]
        cases qv5 ((q1i s).drop 1) with
        | false=>rfl
        | true =>
          by_cases h0:q1m s = []
          · simp [h0]
          · simp [h0]
theorem j0z (s:List UInt8):(q1e s).2.2=okS s:=by
  unfold q1e
  cases okS s with
  | false=>rfl
  | true=>cases q0w (q1i s)<;>rfl
theorem j8s (n:Nat) (s:List UInt8) (hL:s.length<=1000000) (hn:s.length<n):qps n s=some (okS s):=by
  unfold qps
  rw [qh8 n s hL hn,<-j0z];rfl
def qp1 (p:List UInt8) (v:VD):Bool:=okS p&&(q1f v&&(if (q1e p).2.1=0 then decide (v.1<2) else decide (v.1=(q1e p).2.1)))
theorem ji0 (n:Nat) (s:List UInt8) (v:VD) (hL:s.length<=1000000) (hn:s.length<n) (h4:4<=n):j07 n s v=some (qp1 s v):=by
  unfold j07 qp1
  rw [qh8 n s hL hn]
  simp only [Option.bind_some,j0z,q7c n v h4]
  cases okS s with
  | false=>rfl
  | true=>cases q1f v with
    | false=>rfl
    | true =>
      by_cases h:(q1e s).2.1=0
      · simp [h]
      · simp [h]
theorem jbj (c:UInt8):qv1 c=((decide ((97:Int)<=((c.toNat:Nat):Int))&&decide (((c.toNat:Nat):Int)<=(122:Int)))||(decide ((65:Int)<=((c.toNat:Nat):Int))&&decide (((c.toNat:Nat):Int)<=(90:Int)))||(decide ((48:Int)<=((c.toNat:Nat):Int))&&decide (((c.toNat:Nat):Int)<=(57:Int)))||decide (((c.toNat:Nat):Int)=(45:Int))||decide (((c.toNat:Nat):Int)=(95:Int))||decide (((c.toNat:Nat):Int)=(46:Int))):=by
  unfold qv1
  have h6:decide (((c.toNat:Nat):Int)=(95:Int))=decide (c.toNat=95):=decide_eq_decide.2 (by omega)
  have h7:decide (((c.toNat:Nat):Int)=(46:Int))=decide (c.toNat=46):=decide_eq_decide.2 (by omega)
  rw [h6,h7,<-jfj]
theorem qqc (n:Nat) (s:List UInt8) (hL:s.length<=1000000) : ∀m j:Nat,j<=s.length->s.length - j<m->q8g n m s (j:Int)=some (if (s.drop j).all qv1=true then Sum.inr ((s,()),((),())) else Sum.inl ((false,()),((),())))
  | 0,j,_,h=>absurd h (Nat.not_lt_zero _)
  | m+1,j,hj,h=>by
    rw [qmc]
    unfold qrl
    by_cases c0:j<s.length
    · have c0':((j:Nat):Int)<((s.length:Nat):Int):=by omega
      have ih:=qqc n s hL m (j+1) (by omega) (by omega)
      have hd:s.drop j=s[j]::s.drop (j+1):=(List.drop_eq_getElem_cons c0)
      simp only [c0',decide_true,cond_true,q6x c0,Option.bind_some,q0e,q04 (show j<4611686018427387904 by omega),ih,hd,List.all_cons]
      rw [jbj]
      generalize (List.drop (j+1) s).all qv1=B
      generalize decide ((97:Int)<=((s[j].toNat:Nat):Int))=b1
      generalize decide (((s[j].toNat:Nat):Int)<=(122:Int))=b2
      generalize decide ((65:Int)<=((s[j].toNat:Nat):Int))=b3
      generalize decide (((s[j].toNat:Nat):Int)<=(90:Int))=b4
      generalize decide ((48:Int)<=((s[j].toNat:Nat):Int))=b5
      generalize decide (((s[j].toNat:Nat):Int)<=(57:Int))=b6
      generalize decide (((s[j].toNat:Nat):Int)=(45:Int))=b7
      generalize decide (((s[j].toNat:Nat):Int)=(95:Int))=b8
      generalize decide (((s[j].toNat:Nat):Int)=(46:Int))=b9
      cases b1<;>cases b2<;>cases b3<;>cases b4<;>cases b5<;>cases b6<;>cases b7<;>cases b8<;>cases b9<;>rfl
    · have c0' : ¬ ((j:Nat):Int)<((s.length:Nat):Int):=by omega
      have:s.drop j = []:=List.drop_eq_nil_of_le (by omega)
      simp [c0',this]
theorem j88 (n:Nat) (s:List UInt8) (hL:s.length<=1000000) (hn:s.length<n):qpl n s=some (qg3 s):=by
  unfold qpl qg3
  have:=qqc n s hL n 0 (Nat.zero_le _) (by omega)
  rw [show ((0:Nat):Int)=(0:Int) from rfl] at this
  rw [this,List.drop_zero]
  cases s.all qv1 with
  | true =>
    simp only [if_true,Option.bind_some,Sum.elim_inr]
    cases decide (s = [])<;>cases decide (s = [46])<;>cases decide (s = [46,46])<;>rfl
  | false =>
    simp only [Bool.false_eq_true,if_false,Option.bind_some,Sum.elim_inl]
    cases decide (s = [])<;>cases decide (s = [46])<;>cases decide (s = [46,46])<;>rfl
theorem qqv (n:Nat) (l:List (List UInt8)) (hl:l.length<=1000000) (hw : ∀w∈l,w.length<=1000000/\w.length<n) : ∀m j:Nat,j<=l.length->l.length - j<m->q7q n m l (j:Int)=some (if (l.drop j).all qg3=true then Sum.inr ((),((),())) else Sum.inl ((false,()),((),())))
  | 0,j,_,h=>absurd h (Nat.not_lt_zero _)
  | m+1,j,hj,h=>by
    rw [qkf]
    unfold qsq
    by_cases c0:j<l.length
    · have c0':((j:Nat):Int)<((l.length:Nat):Int):=by omega
      have ih:=qqv n l hl hw m (j+1) (by omega) (by omega)
      have hd:l.drop j=l[j]::l.drop (j+1):=(List.drop_eq_getElem_cons c0)
      have hm:=hw l[j] (List.getElem_mem c0)
      simp only [c0',decide_true,cond_true,q0k c0,Option.bind_some,j88 n l[j] hm.1 hm.2,q0e,q04 (show j<4611686018427387904 by omega),ih,hd,List.all_cons]
      cases qg3 l[j]<;>simp
    · have c0' : ¬ ((j:Nat):Int)<((l.length:Nat):Int):=by omega
      have:l.drop j = []:=List.drop_eq_nil_of_le (by omega)
      simp [c0',this]
theorem jb3 (n:Nat) (s:List UInt8) (hL:s.length<=1000000) (hn:100<=n):qpa n s=some (q73 s):=by
  unfold qpa q73
  by_cases h:s.length<=60
  · have h' : ¬ (60:Int)<((s.length:Nat):Int):=by omega
    have hlen:=q7f 47 s []
    have hw : ∀w∈spl 47 [] s,w.length<=s.length:=fun w hm=>by have:=qay 47 s [] w hm;simpa using this
    have:=qqv n (spl 47 [] s) (by omega) (fun w hm=>⟨by have:=hw w hm;omega,by have:=hw w hm;omega⟩) n 0 (Nat.zero_le _) (by omega)
    rw [show ((0:Nat):Int)=(0:Int) from rfl] at this
    simp only [h',decide_false,cond_false]
    rw [show (47:Int)=(((47:UInt8).toNat:Nat):Int) from rfl,q94 n s 47 hL (by omega)]
    simp only [Option.bind_some]
    rw [this,List.drop_zero]
    cases (spl 47 [] s).all qg3<;>simp [h]
  · have h':(60:Int)<((s.length:Nat):Int):=by omega
    simp [h,h']
end Go.Proofs.YtggoebaobojmjaaGreatDoor.AM
namespace Go.Proofs.YtggoebaobojmjaaGreatDoor.AM
open Go.RowKit
set_option linter.unusedVariables false
set_option linter.unusedSimpArgs false
end Go.Proofs.YtggoebaobojmjaaGreatDoor.AM
namespace Go.Proofs.YtggoebaobojmjaaGreatDoor.AM
open Go.RowKit
set_option linter.unusedVariables false
set_option linter.unusedSimpArgs false
theorem jul : ∀n:Nat,0<n->(Lib.decDigits n).head? ≠ some 48:=by
  intro n
  induction n using Nat.strongRecOn with
  | _ n ih =>
    intro h0
    rw [Lib.decDigits]
    split
    · rename_i h
      intro h2
      have h3:UInt8.ofNat (48+n)=48:=by simpa using h2
      have h4:=congrArg UInt8.toNat h3
      rw [UInt8.toNat_ofNat'] at h4
      have e48:(48:UInt8).toNat=48:=rfl
      rw [e48] at h4;omega
    · rename_i h
      have:=ih (n / 10) (by omega) (by omega)
      have hne:=(jmj (n / 10)).2
      generalize Lib.decDigits (n / 10)=l at this hne
      cases l with
      | nil=>exact absurd rfl hne
      | cons b r=>simpa using this
theorem jol : ∀(k:Nat) (d:List UInt8),d.length=k->d.all q1z=true->d ≠ []->d.head? ≠ some 48->Lib.decDigits (qex 0 d).toNat=d
  | 0,d,hk,_,hne,_=>absurd (List.eq_nil_of_length_eq_zero hk) hne
  | k+1,d,hk,hd,hne,h48=>by
    obtain ⟨l,c,rfl⟩ : ∃ l c,d=l ++ [c]:=⟨d.dropLast,d.getLast hne,(List.dropLast_concat_getLast hne).symm⟩
    have hl:l.length=k:=by simpa using hk
    rw [List.all_append,Bool.and_eq_true] at hd
    have hc:q1z c=true:=by simpa using hd.2
    have hc2:48<=c.toNat/\c.toNat<=57:=by unfold q1z at hc;simpa using hc
    have hb:=ql1 l 0 (by decide) hd.1
    rw [j11]
    have e1:qex (qex 0 l) [c]=10*qex 0 l+c.toNat - 48:=by simp only [qex]
    rw [e1,Lib.decDigits]
    have uc:UInt8.ofNat (48+(c.toNat - 48))=c:=by
      have:48+(c.toNat - 48)=c.toNat:=by omega
      rw [this];simp
    by_cases h0:l = []
    · subst h0
      have:(10*qex 0 ([]:List UInt8)+(c.toNat:Int) - 48).toNat=c.toNat - 48:=by show (10*(0:Int)+(c.toNat:Int) - 48).toNat=_;omega
      rw [this,dif_pos (by omega),uc];rfl
    · have hh:l.head? ≠ some 48:=by
        cases l with
        | nil=>exact absurd rfl h0
        | cons b r=>simpa using h48
      have ih:=jol k l hl hd.1 h0 hh
      have hpos:qex 0 l≠0:=fun h=>by
        rw [h] at ih
        have e0:Lib.decDigits (0:Int).toNat = [48]:=Lib.decDigits_one (by decide)
        rw [e0] at ih
        rw [<-ih] at hh;exact hh rfl
      have q1:(10*qex 0 l+(c.toNat:Int) - 48).toNat / 10=(qex 0 l).toNat:=by omega
      have q2:(10*qex 0 l+(c.toNat:Int) - 48).toNat % 10=c.toNat - 48:=by omega
      rw [dif_neg (by omega),q1,q2,ih,uc]
def jz0 (w:List UInt8):Int:=if 10<w.length then 0 else if (w.drop 1).head? = some 48 then 0 else if qex 0 (w.drop 1)<2 then 0 else qex 0 (w.drop 1)
theorem j5w {w:List UInt8} (h:q0w w=true):jz0 w=if qv5 (w.drop 1) then numOf (w.drop 1) else 0:=by
  have hl:w.length=(w.drop 1).length+1:=by
    cases w with
    | nil=>exact absurd h (by decide)
    | cons b r=>simp
  unfold q0w at h
  simp only [Bool.and_eq_true] at h
  have hd:=h.2
  unfold q33 at hd
  simp only [Bool.and_eq_true,Bool.not_eq_true',decide_eq_false_iff_not] at hd
  unfold jz0
  rw [hl]
  generalize w.drop 1=d at hd
  cases hf:qv5 d with
  | true =>
    obtain ⟨n0,n1,ne⟩:=qst hf
    have li:=juf (n:=numOf d) (by omega)
    have ed:Lib.decDigits (numOf d).toNat=d:=by rw [<-qpc (by omega)];exact ne.symm
    have hh:=jul (numOf d).toNat (by omega)
    have hv:=js2 (numOf d).toNat
    rw [ed] at hh hv
    rw [<-ne] at li
    rw [if_neg (by omega),if_neg hh,hv,if_neg (by omega)]
    show (((numOf d).toNat:Nat):Int)=numOf d
    omega
  | false =>
    by_cases c1:10<d.length+1
    · rw [if_pos c1];rfl
    by_cases c2:d.head? = some 48
    · rw [if_neg c1,if_pos c2];rfl
    by_cases c3:qex 0 d<2
    · rw [if_neg c1,if_neg c2,if_pos c3];rfl
    · exfalso
      have hb:=ql1 d 0 (by decide) hd.1
      have hp:(10:Int) ^ d.length<=10 ^ 9:=by
        have:=Nat.pow_le_pow_right (n:=10) (by decide) (show d.length<=9 by omega)
        have e2:((10 ^ d.length:Nat):Int)=(10:Int) ^ d.length:=by simp
        have e3:((10 ^ 9:Nat):Int)=(10:Int) ^ 9:=by simp
        rw [<-e2,<-e3];omega
      have e9:(10:Int) ^ 9=1000000000:=by decide
      rw [e9] at hp
      have ed:=jol d.length d rfl hd.1 hd.2 c2
      have ei:Lib.itoa (qex 0 d)=d:=by rw [qpc hb.1];exact ed
      have:=(jlz (n:=qex 0 d) (by omega) (by omega)).1
      rw [ei,hf] at this;cases this
theorem qod (n:Nat) (s:List UInt8) (hL:s.length<=1000000) : ∀m j:Nat,j<=s.length+1->s.length+1 - j<m->q6c n m s (j:Int)=some (if (s.drop j).all q1z=true then Sum.inr ((s,()),((),())) else Sum.inl ((false,()),((),())))
  | 0,j,_,h=>absurd h (Nat.not_lt_zero _)
  | m+1,j,hj,h=>by
    rw [qi1]
    unfold qmk
    by_cases c0:j<s.length
    · have c0':((j:Nat):Int)<((s.length:Nat):Int):=by omega
      have ih:=qod n s hL m (j+1) (by omega) (by omega)
      have hd:s.drop j=s[j]::s.drop (j+1):=(List.drop_eq_getElem_cons c0)
      have hi:q1z s[j]=(!decide (((s[j].toNat:Nat):Int)<48) && !decide ((57:Int)<((s[j].toNat:Nat):Int))):=by
        unfold q1z
        rw [<-decide_not,<-decide_not]
        congr 1<;>exact decide_eq_decide.2 (by omega)
      simp only [c0',decide_true,cond_true,q6x c0,Option.bind_some,q0e,q04 (show j<4611686018427387904 by omega),ih,hd,List.all_cons,hi]
      cases decide (((s[j].toNat:Nat):Int)<48)<;>cases decide ((57:Int)<((s[j].toNat:Nat):Int))<;>simp
    · have c0' : ¬ ((j:Nat):Int)<((s.length:Nat):Int):=by omega
      have:s.drop j = []:=List.drop_eq_nil_of_le (by omega)
      simp [c0',this]
theorem qoj (n:Nat) (s:List UInt8) (hL:s.length<=1000000) (hn:s.length+1<n):qcn n s=some (q0w s):=by
  unfold qcn q0w q33
  have:=qod n s hL n 1 (by omega) (by omega)
  rw [show ((1:Nat):Int)=(1:Int) from rfl] at this
  rw [this]
  cases s with
  | nil=>rfl
  | cons b r =>
    simp only [List.drop_succ_cons,List.drop_zero,List.head?_cons,Option.some.injEq]
    have h0:sAt (b::r) (0:Int)=some ((b.toNat:Nat):Int):=q6x (s:=b::r) (j:=0) (by simp)
    have h1:decide (((b.toNat:Nat):Int)=(118:Int))=decide (b=118):=decide_eq_decide.2 (by
      constructor
      · intro h;exact UInt8.toNat_inj.1 (by have e:(118:UInt8).toNat=118:=rfl;rw [e];omega)
      · rintro rfl;rfl)
    have h2:decide ((1:Int)<(((b::r).length:Nat):Int)) = !decide (r = []):=by
      rw [<-decide_not]
      refine decide_eq_decide.2 ?_
      cases r with
      | nil=>simp
      | cons x y=>simp;omega
    cases hr:r.all q1z with
    | true =>
      simp only [if_true,Option.bind_some,Sum.elim_inr,h2,h0,h1,Bool.true_and]
      cases decide (r = [])<;>simp
    | false=>simp
theorem qjj (n:Nat) (s:List UInt8) (hL:s.length<=10) (hd:(s.drop 1).all q1z=true) : ∀(m j:Nat) (a:Int),1<=j->j<=s.length->s.length - j<m->0<=a->a<10 ^ j->q4s n m s a (j:Int)=some ((qex a (s.drop j),()),((),()))
  | 0,j,a,_,_,h,_,_=>absurd h (Nat.not_lt_zero _)
  | m+1,j,a,hj1,hj,h,ha,hb=>by
    rw [qg7]
    unfold qfp
    by_cases c0:j<s.length
    · have c0':((j:Nat):Int)<((s.length:Nat):Int):=by omega
      have hp:(10:Int) ^ j<=10 ^ 10:=by
        have:=Nat.pow_le_pow_right (n:=10) (by decide) (show j<=10 by omega)
        have e2:((10 ^ j:Nat):Int)=(10:Int) ^ j:=by simp
        have e3:((10 ^ 10:Nat):Int)=(10:Int) ^ 10:=by simp
        rw [<-e2,<-e3];omega
      have e9:(10:Int) ^ 10=10000000000:=by decide
      rw [e9] at hp
      have hdr:s.drop j=s[j]::s.drop (j+1):=(List.drop_eq_getElem_cons c0)
      have hm:s[j]∈s.drop 1:=by
        have e:s.drop 1=s.drop 1:=rfl
        have:(s.drop 1)[j - 1]'(by simp;omega)=s[j]:=by simp;congr 1;omega
        rw [<-this];exact List.getElem_mem _
      have hc:=List.all_eq_true.1 hd _ hm
      have hc2:48<=s[j].toNat/\s[j].toNat<=57:=by unfold q1z at hc;simpa using hc
      have e10:(10:Int) ^ (j+1)=10*10 ^ j:=by rw [Int.pow_succ];omega
      have ih:=qjj n s hL hd m (j+1) (10*a+(s[j].toNat:Int) - 48) (by omega) (by omega) (by omega) (by omega) (by rw [e10];omega)
      simp only [c0',decide_true,cond_true,q6x c0,Option.bind_some,q0e,q04 (show j<4611686018427387904 by omega)]
      rw [wrap64 (n:=10*a) (by omega) (by omega),wrap64 (n:=((s[j].toNat:Nat):Int)) (by omega) (by omega),wrap64 (n:=10*a+((s[j].toNat:Nat):Int)) (by omega) (by omega),wrap64 (n:=10*a+((s[j].toNat:Nat):Int) - 48) (by omega) (by omega),ih,hdr]
      rfl
    · have c0' : ¬ ((j:Nat):Int)<((s.length:Nat):Int):=by omega
      have:s.drop j = []:=List.drop_eq_nil_of_le (by omega)
      simp [c0',this,qex]
theorem qi5 (n:Nat) (s:List UInt8) (hn:100<=n) (ht:q0w s=true):q99 n s=some (jz0 s):=by
  have hd:(s.drop 1).all q1z=true/\s.drop 1 ≠ []:=by
    unfold q0w q33 at ht
    simp only [Bool.and_eq_true,Bool.not_eq_true',decide_eq_false_iff_not] at ht
    exact ht.2
  have h2:2<=s.length:=by
    cases s with
    | nil=>exact absurd rfl hd.2
    | cons b r=>cases r with
      | nil=>exact absurd rfl hd.2
      | cons c t=>simp
  unfold q99 jz0
  by_cases c1:10<s.length
  · have c1':(10:Int)<((s.length:Nat):Int):=by omega
    simp [c1,c1']
  · have c1' : ¬ (10:Int)<((s.length:Nat):Int):=by omega
    have h0:sAt s (1:Int)=some ((s[1].toNat:Nat):Int):=q6x (s:=s) (j:=1) (by omega)
    have e1:(s.drop 1).head? = some s[1]:=by rw [List.head?_drop];exact List.getElem?_eq_getElem _
    have h1:decide (((s[1].toNat:Nat):Int)=(48:Int))=decide (s[1]=48):=decide_eq_decide.2 (by
      constructor
      · intro h;exact UInt8.toNat_inj.1 (by have e:(48:UInt8).toNat=48:=rfl;rw [e];omega)
      · intro h;rw [h];rfl)
    have hlp:=qjj n s (by omega) hd.1 n 1 0 (by omega) (by omega) (by omega) (by omega) (by decide)
    rw [show ((1:Nat):Int)=(1:Int) from rfl] at hlp
    simp only [c1,c1',decide_false,cond_false,if_false,h0,h1,hlp,Option.bind_some,e1,Option.some.injEq]
    generalize qex 0 (s.drop 1)=V
    by_cases c2:s[1]=48
    · simp [c2]
    · by_cases c3:V<2
      · simp [c2,c3]
      · simp [c2,c3]
theorem jb1 (n m:Nat) (l:List (List UInt8)):q3n n (m+1) l ((l.length:Nat):Int)=some (Sum.inr ((),((),()))):=by
  rw [q8e];unfold qdh;simp
theorem qoh (n:Nat) (f:List (List UInt8)) (x:List UInt8) (hl:f.length<=1000000) (hw : ∀w∈f ++ [x],w.length<=1000000/\w.length+1<n) (hn:100<=n) : ∀m j:Nat,j<=f.length->f.length+1 - j<m ->
    q3n n m (f ++ [x]) (j:Int)=some (if ((f.drop j).all (fun w=>!q0w w)&&(!q0w x||(!decide (f = []) && !decide (jz0 x=0))))=true then Sum.inr ((),((),())) else Sum.inl ((false,()),((),())))
  | 0,j,_,h=>absurd h (Nat.not_lt_zero _)
  | m+1,j,hj,h=>by
    rw [q8e]
    unfold qdh
    have hlen:(f ++ [x]).length=f.length+1:=by simp
    have c0:((j:Nat):Int)<(((f ++ [x]).length:Nat):Int):=by rw [hlen];omega
    have w1:IntKind.wrap .i64 ((((f ++ [x]).length:Nat):Int) - 1)=((f.length:Nat):Int):=by rw [hlen,wrap64 (by omega) (by omega)];omega
    have hx:q0x (f ++ [x]) ((j:Nat):Int)=some ((f ++ [x])[j]'(by rw [hlen];omega)):=q0k _
    have hm:=hw _ (List.getElem_mem (show j<(f ++ [x]).length by rw [hlen];omega))
    simp only [c0,decide_true,cond_true,hx,Option.bind_some,qoj n _ hm.1 hm.2,q0e,w1,q04 (show j<4611686018427387904 by omega)]
    by_cases c1:j<f.length
    · have ih:=qoh n f x hl hw hn m (j+1) (by omega) (by omega)
      have hd:f.drop j=f[j]::f.drop (j+1):=(List.drop_eq_getElem_cons c1)
      have he:(f ++ [x])[j]'(by rw [hlen];omega)=f[j]:=List.getElem_append_left c1
      have c1':((j:Nat):Int)<((f.length:Nat):Int):=by omega
      rw [he,ih,hd]
      simp only [c1',decide_true,cond_true,List.all_cons]
      rcases Bool.eq_false_or_eq_true (q0w f[j]) with hb|hb
      · simp only [hb,cond_true,Bool.not_true,Bool.false_and,Bool.false_eq_true,if_false]
      · simp only [hb,cond_false,Bool.not_false,Bool.true_and]
    · have hj2:j=f.length:=by omega
      subst hj2
      have he:(f ++ [x])[f.length]'(by rw [hlen];omega)=x:=by simp
      obtain ⟨k,rfl⟩ : ∃ k,m=k+1:=⟨m - 1,by omega⟩
      have hend:=jb1 n k (f ++ [x])
      rw [hlen] at hend
      rw [he,hend]
      have d0:decide (((f.length:Nat):Int)=0)=decide (f = []):=decide_eq_decide.2 (by
        constructor
        · intro h;exact List.eq_nil_of_length_eq_zero (by omega)
        · rintro rfl;rfl)
      simp only [Int.lt_irrefl,decide_false,cond_false,d0,List.drop_length,List.all_nil,Bool.true_and]
      cases ht:q0w x with
      | false=>rfl
      | true =>
        rw [qi5 n x hn ht]
        simp only [cond_true,Option.bind_some,Bool.not_true,Bool.false_or]
        cases decide (f = [])<;>cases decide (jz0 x=0)<;>rfl
theorem j6r (s:List UInt8) (hp:q73 s=true) : ∃ f,spl 47 [] s=f ++ [q1i s]/\f.all (fun w=>!q0w w) = !anyS (q1m s)/\decide (f = [])=decide (q1m s = []):=by
  have key : ∀b,anyS b = !((spl 47 [] b).all fun x=>!q0w x):=fun b=>by unfold anyS;rw [List.any_eq_not_all_not]
  rcases qe1 s with ⟨_,a,b,c⟩|⟨he,hs,hc⟩
  · refine ⟨[],by rw [b,c];rfl,?_,by rw [a];rfl⟩
    rw [a];decide
  · refine ⟨spl 47 [] (q1m s),hc,?_,?_⟩
    · rw [key,Bool.not_not]
    · have h1:=jva 47 (q1m s) []
      have h2:q1m s ≠ []:=fun h=>by
        have:=(qxg hp).2
        rw [hc,h] at this
        simp [spl] at this
        exact absurd this.1 (by decide)
      simp [h1,h2]
theorem qof (n:Nat) (s:List UInt8) (hL:s.length<=1000) (hn:2000<=n):qcu n s=some (okS s):=by
  unfold qcu okS
  rw [jb3 n s (by omega) (by omega)]
  cases hp:q73 s with
  | false=>rfl
  | true =>
    obtain ⟨f,e1,e2,e3⟩:=j6r s hp
    have hlen:=q7f 47 s []
    have hw : ∀w∈spl 47 [] s,w.length<=s.length:=fun w hm=>by have:=qay 47 s [] w hm;simpa using this
    rw [show (47:Int)=(((47:UInt8).toNat:Nat):Int) from rfl,q94 n s 47 (by omega) (by omega)]
    rw [e1] at hlen hw ⊢
    have hlen2:f.length+1<=s.length+1:=by simpa using hlen.2
    have hlp:=qoh n f (q1i s) (by omega) (fun w hm=>⟨by have:=hw w hm;omega,by have:=hw w hm;omega⟩) (by omega) n 0 (Nat.zero_le _) (by omega)
    rw [show ((0:Nat):Int)=(0:Int) from rfl] at hlp
    simp only [Option.bind_some,Bool.not_true,cond_false,hlp,List.drop_zero,e2,e3,Bool.true_and]
    cases ht:q0w (q1i s) with
    | false=>cases anyS (q1m s)<;>rfl
    | true =>
      rw [j5w ht]
      generalize (q1i s).drop 1=d
      cases hf:qv5 d with
      | false=>cases anyS (q1m s)<;>simp
      | true =>
        have n0 : ¬ numOf d=0:=by have:=(qst hf).1;omega
        cases anyS (q1m s)<;>cases decide (q1m s = [])<;>simp [n0]
theorem qqd (n:Nat) (s:List UInt8) (hL:s.length<=1000000) : ∀m j:Nat,j<=s.length->j<m->q87 n m s ((j:Int) - 1)=some (if q8s 47 (s.take j).reverse = -1 then Sum.inr ((),((),())) else Sum.inl ((s.take (q8s 47 (s.take j).reverse).toNat,()),((),())))
  | 0,j,_,h=>absurd h (Nat.not_lt_zero _)
  | m+1,0,_,_=>by
    rw [q9z]
    unfold qib
    simp [q8s]
  | m+1,j+1,hj,h=>by
    rw [q9z]
    unfold qib
    have e1:((j+1:Nat):Int) - 1=((j:Nat):Int):=by omega
    have ih:=qqd n s hL m j (by omega) (by omega)
    have w1:IntKind.wrap .i64 (((j:Nat):Int) - 1)=((j:Nat):Int) - 1:=wrap64 (by omega) (by omega)
    have c0:(0:Int)<=((j:Nat):Int):=by omega
    have d1:decide (((s[j].toNat:Nat):Int)=(47:Int))=decide (s[j]=47):=decide_eq_decide.2 (by
      constructor
      · intro h;exact UInt8.toNat_inj.1 (by have e:(47:UInt8).toNat=47:=rfl;rw [e];omega)
      · intro h;rw [h];rfl)
    rw [e1]
    simp only [c0,decide_true,cond_true,q6x (show j<s.length by omega),Option.bind_some,d1,q0e,w1,ih,qiz s j (by omega),q8s,sub_zero (show j<=s.length by omega)]
    by_cases h0:s[j]=47
    · have l1:(s.take j).reverse.length=j:=by simp;omega
      simp only [h0,decide_true,cond_true,if_true,l1]
      rw [if_neg (by omega),Int.toNat_natCast]
    · simp [h0]
theorem j7v (n:Nat) (s:List UInt8) (hL:s.length<=1000000) (hn:s.length<n):qq1 n s=some (q1m s):=by
  unfold qq1 q1m q91
  have:=qqd n s hL n s.length (Nat.le_refl _) hn
  have w1:IntKind.wrap .i64 (((s.length:Nat):Int) - 1)=((s.length:Nat):Int) - 1:=wrap64 (by omega) (by omega)
  simp only [q0e,w1,this,List.take_length]
  by_cases h:q8s 47 s.reverse = -1
  · simp [h]
  · simp [h]
theorem j6q (n:Nat) (s:List UInt8) (hL:s.length<=1000) (hn:2000<=n):qia n s=some (q1e s):=by
  unfold qia q1e
  rw [qof n s hL hn]
  cases ho:okS s with
  | false=>rfl
  | true =>
    obtain ⟨f,e1,_,_⟩:=j6r s (j9i ho).1
    have hll:=je2 s
    have hlen:=q7f 47 s []
    rw [e1] at hlen
    have hlen2:f.length+1<=s.length+1:=by simpa using hlen.2
    rw [show (47:Int)=(((47:UInt8).toNat:Nat):Int) from rfl,q94 n s 47 (by omega) (by omega),e1]
    have hl2:(f ++ [q1i s]).length=f.length+1:=by simp
    have w1:IntKind.wrap .i64 ((((f ++ [q1i s]).length:Nat):Int) - 1)=((f.length:Nat):Int):=by rw [hl2,wrap64 (by omega) (by omega)];omega
    have hx:q0x (f ++ [q1i s]) ((f.length:Nat):Int)=some (q1i s):=by
      have:=q0k (l:=f ++ [q1i s]) (j:=f.length) (by rw [hl2];omega)
      rw [this];simp
    simp only [Option.bind_some,Bool.not_true,cond_false,q0e,w1,hx,qoj n (q1i s) (by omega) (by omega),if_true]
    cases ht:q0w (q1i s) with
    | false=>rfl
    | true =>
      have hf:=((j9i ho).2.2 ht).1
      simp only [Bool.not_true,cond_false,j7v n s (by omega) (by omega),qi5 n (q1i s) (by omega) ht,j5w ht,hf,if_true,Option.bind_some]
theorem j7w (n:Nat) (s:List UInt8) (v:VD) (hL:s.length<=1000) (hn:2000<=n):qk4 n s v=some (qp1 s v):=by
  unfold qk4 qp1
  rw [j6q n s hL hn,qh6 n v (by omega)]
  simp only [Option.bind_some,j0z]
  cases okS s with
  | false=>rfl
  | true=>cases hc:q1f v with
    | false=>rfl
    | true =>
      have h1:=(q3d hc).1
      simp only [Bool.not_true,cond_false,Bool.true_and]
      by_cases c0:(q1e s).2.1=0
      · rw [c0]
        by_cases c1:v.1=0
        · simp [c1]
        · have:decide (v.1=1)=decide (v.1<2):=decide_eq_decide.2 (by omega)
          simp [c1,this]
      · by_cases c1:v.1=(q1e s).2.1
        · simp [c0,c1]
        · simp [c0,c1]
end Go.Proofs.YtggoebaobojmjaaGreatDoor.AM
