
import Derived.Test.YtapfankgdkdkgaaGreatDoorEb28
import Derived.Test.YtapfankgdkdkgaaGreatDoorEb23
import Derived.Test.YtapfankgdkdkgaaGreatDoorEb24
import Derived.Test.YtapfankgdkdkgaaGreatDoorEb22
import Derived.Test.YtapfankgdkdkgaaGreatDoorEb9
import Derived.Test.YtapfankgdkdkgaaGreatDoorRows
import Derived.Test.YtapfankgdkdkgaaGreatDoorEb10
import Derived.LaidLaws
import Derived.LaidHandle
import Derived.Stop.LaidErr
import Derived.Lib.LaidTab
import Derived.Lay
set_option linter.unusedVariables false
set_option linter.unusedSimpArgs false
namespace Go.Proofs.YtapfankgdkdkgaaGreatDoor.AM
open Go.RowKit
set_option synthInstance.maxSize 100000
set_option synthInstance.maxHeartbeats 0
abbrev RSt:=Yy×(Yy×(List Rq×(List Sw×(List Rq×(List Sp×(Yy×(Int×(List Int×(List Int×List Int)))))))))
def rst (σ:MS) (ln:Int) (a l:List Int):RSt:=(σ.mo,(σ.go,(σ.rq,(σ.sw,(σ.ex,(σ.rt,(σ.bk,(ln,(a,([],l))))))))))
def RR (off:Int→Int) (M:Int) (σ:MS) (at_ ls:List Int):Prop:=at_.length=σ.rq.length∧ls.length=σ.rq.length∧∀ (i:Nat) (q:Rq),σ.rq[i]? = some q→∃ a l,at_[i]? = some a∧ls[i]? = some l∧(0≤a∧a≤100001)∧(0≤l∧l≤M) ∧
 q0c clT (q43,(q.1,v0)) σ.sd=some (off l+a,off l+a+(((q1g q.2).length:Nat):Int))
def RL (off:Int→Int) (M ln:Int) (x:Option (RSt×Int)):Int⊕MS→Prop
 | .inl e=>∃ S,x=some (S,e)
 | .inr σ'=>∃ a l,x=some (rst σ' ln a l,0)∧RR off M σ' a l
theorem RR.other {off:Int→Int} {M:Int} {σ σ':MS} {a l:List Int} (h:RR off M σ a l) (hr:σ'.rq=σ.rq) (hs : ∀ p,q0c clT (q43,(p,v0)) σ'.sd=q0c clT (q43,(p,v0)) σ.sd):RR off M σ' a l:=by
 obtain ⟨h1,h2,h3⟩:=h
 refine ⟨by rw [hr];exact h1,by rw [hr];exact h2,fun i q hq=>?_⟩
 rw [hr] at hq
 obtain ⟨x,y,g1,g2,g3,g4,g5⟩:=h3 i q hq
 exact ⟨x,y,g1,g2,g3,g4,by rw [hs];exact g5⟩
theorem qeg {σ:MS} {c:Cl} {st:Int} {w:Lx.Wd} (h:q0h σ c=true):q1z σ c st w = .inl 11:=by
 unfold q0h at h
 unfold q1z
 rw [if_pos h]
theorem one_mod (n:Nat) (off:Int→Int) (M ln:Int) (σ:MS) (a l:List Int) (g:GoodM σ) (h:RR off M σ a l) (w:Lx.Wd) (hw:w.1.length≤100001) (hn:1000000<n) :
  RL off M ln (qbf n (rst σ ln a l) qgj w.1) (qg4 σ (off ln) qgj [w]):=by
 obtain ⟨d1,d2,d3,d4,d5,d6,d7,d8,d9,d10⟩:=kd
 rw [show qg4 σ (off ln) qgj [w]=(if okS w.1=false then .inl 6 else q1z { σ with mo:=w.1 } (qgj,([],v0)) (off ln) w) from rfl]
 unfold qbf
 simp only [decide_true,cond_true,qc8 n w.1 (show _≤1000000 by omega) (show 2000≤n by omega),Option.bind_some]
 cases okS w.1 with
 | false=>exact ⟨_,rfl⟩
 | true =>
  simp only [Bool.not_true,cond_false,Bool.true_eq_false,if_false]
  by_cases hm:σ.mo = []
  ·have hc:q0h { σ with mo:=w.1 } (qgj,([],v0))=false:=qfq g.mc (by simp [hm])
   rw [qi9 hc]
   refine ⟨a,l,?_,h.other rfl (fun p=>q99 (fun e=>d2.symm (congrArg Prod.fst e)) _ _)⟩
   simp only [rst,hm,decide_true,Bool.not_true,cond_false]
  ·have hc:q0h { σ with mo:=w.1 } (qgj,([],v0))=true:=g.mc.2 hm
   rw [qeg hc]
   exact ⟨_,by simp only [rst,hm,decide_false,Bool.not_false,cond_true];rfl⟩
theorem k76 (n:Nat) (off:Int→Int) (M ln:Int) (σ:MS) (a l:List Int) (g:GoodM σ) (h:RR off M σ a l) (w:Lx.Wd) (hw:w.1.length≤100001) (hn:1000000<n) :
  RL off M ln (qbf n (rst σ ln a l) kGo w.1) (qg4 σ (off ln) kGo [w]):=by
 obtain ⟨d1,d2,d3,d4,d5,d6,d7,d8,d9,d10⟩:=kd
 rw [show qg4 σ (off ln) kGo [w]=(if qde w.1=false then .inl 7 else q1z { σ with go:=w.1 } (kGo,([],v0)) (off ln) w) from rfl]
 unfold qbf
 simp only [decide_eq_false d1.symm,cond_false,qri n w.1 hw (by omega),Option.bind_some]
 cases qde w.1 with
 | false=>exact ⟨_,rfl⟩
 | true =>
  simp only [Bool.not_true,cond_false,Bool.true_eq_false,if_false]
  by_cases hm:σ.go = []
  ·have hc:q0h { σ with go:=w.1 } (kGo,([],v0))=false:=qfq g.gk (by simp [hm])
   rw [qi9 hc]
   refine ⟨a,l,?_,h.other rfl (fun p=>q99 (fun e=>d5.symm (congrArg Prod.fst e)) _ _)⟩
   simp only [rst,hm,decide_true,Bool.not_true,cond_false]
  ·have hc:q0h { σ with go:=w.1 } (kGo,([],v0))=true:=g.gk.2 hm
   rw [qeg hc]
   exact ⟨_,by simp only [rst,hm,decide_false,Bool.not_false,cond_true];rfl⟩
theorem jkp (l:List Rq) (p:Yy):(l.any fun q=>decide (q.1=p))=true↔p∈l.map Prod.fst:=by
 rw [List.any_eq_true,List.mem_map]
 simp
theorem any_eq (l:List Rq) (r:Rq):(l.any fun q=>decide (q=r))=true↔r∈l:=by
 rw [List.any_eq_true]
 simp
theorem k44 (n:Nat) (off:Int→Int) (M ln:Int) (σ:MS) (a l:List Int) (g:GoodM σ) (h:RR off M σ a l) (w x:Lx.Wd) (hw:w.1.length≤100001) (hx:x.1.length≤100001∧0≤x.2∧x.2≤100001) (hb:SB 200000 σ) (hln:0≤ln∧ln≤M) (hn:1000000<n) :
  RL off M ln (qao n (rst σ ln a l) q43 [w,x]) (qg4 σ (off ln) q43 [w,x]):=by
 rw [show qg4 σ (off ln) q43 [w,x]=(match j5i w.1 x.1 with
   | .inl e=>.inl e
   | .inr q=>q1z { σ with rq:=σ.rq ++ [q] } (q43,(q.1,v0)) (off ln) x) from rfl]
 unfold qao
 simp only [qx7 n w x [] hw hx.1 (by omega),Option.bind_some]
 cases hr:j5i w.1 x.1 with
 | inl e =>
  have:=j44 hr
  exact ⟨_,by simp only [this,decide_false,Bool.not_false,cond_true];rfl⟩
 | inr q =>
  obtain ⟨q1,q2,q3⟩:=jg7 hr
  simp only [decide_true,Bool.not_true,cond_false,show decide (q43=qct)=false from by decide]
  have hrl:σ.rq.length≤200000:=hb.1
  have hH:qaq n (rst σ ln a l).2.2.1 q false=some (σ.rq.any fun y=>decide (y.1=q.1)):=qra n σ.rq false q (by omega) (by omega)
  rw [hH,Option.bind_some]
  by_cases hm:q.1∈σ.rq.map Prod.fst
  ·have hc:q0h { σ with rq:=σ.rq ++ [q] } (q43,(q.1,v0))=true:=(g.rk q.1).2 hm
   rw [qeg hc,(jkp σ.rq q.1).2 hm]
   exact ⟨_,rfl⟩
  ·have hc:q0h { σ with rq:=σ.rq ++ [q] } (q43,(q.1,v0))=false:=qfq (g.rk q.1) hm
   have hany:(σ.rq.any fun y=>decide (y.1=q.1))=false:=by
    cases hh:(σ.rq.any fun y=>decide (y.1=q.1)) with
    | false=>rfl
    | true=>exact absurd ((jkp _ _).1 hh) hm
   obtain ⟨h1,h2,h3⟩:=h
   have a1:q2g 72 ([]:List Rq) σ.rq=some σ.rq:=q2i (by simp;omega)
   have a2:q2g 72 σ.rq [q]=some (σ.rq ++ [q]):=q2i (by simp;omega)
   have a3:q2g 8 ([]:List Int) a=some a:=q2i (by simp;omega)
   have a4:q2g 8 a [x.2]=some (a ++ [x.2]):=q2i (by simp;omega)
   have a5:q2g 8 ([]:List Int) l=some l:=q2i (by simp;omega)
   have a6:q2g 8 l [ln]=some (l ++ [ln]):=q2i (by simp;omega)
   rw [qi9 hc,hany]
   refine ⟨a ++ [x.2],l ++ [ln],?_,by simp [h1],by simp [h2],fun i y hy=>?_⟩
   ·simp only [rst,cond_false,a1,a2,a3,a4,a5,a6,k6p,Option.bind_some]
   ·replace hy:(σ.rq ++ [q])[i]? = some y:=hy
    show ∃ a' l',(a ++ [x.2])[i]? = some a'∧(l ++ [ln])[i]? = some l'∧_∧_∧q0c clT (q43,(y.1,v0)) (q3x clT (q43,(q.1,v0)) (ps (off ln) x) σ.sd)=_
    by_cases hi:i<σ.rq.length
    ·rw [List.getElem?_append_left hi] at hy
     obtain ⟨x1,y1,g1,g2,g3,g4,g5⟩:=h3 i y hy
     have hne:y.1≠q.1:=fun e=>hm (List.mem_map.2 ⟨y,List.mem_of_getElem? hy,e⟩)
     exact ⟨x1,y1,by rw [List.getElem?_append_left (by omega)];exact g1,by rw [List.getElem?_append_left (by omega)];exact g2,g3,g4,by rw [q99 (fun e=>hne (by simpa using e))];exact g5⟩
    ·have hie:i=σ.rq.length:=by
      have:=(List.getElem?_eq_some_iff.1 hy).1
      simp at this;omega
     subst hie
     rw [List.getElem?_concat_length] at hy
     cases hy
     refine ⟨x.2,ln,by rw [← h1,List.getElem?_concat_length],by rw [← h2,List.getElem?_concat_length],⟨hx.2.1,hx.2.2⟩,hln,?_⟩
     rw [jxf,ps,q3]
theorem k40 (n:Nat) (off:Int→Int) (M ln:Int) (σ:MS) (a l:List Int) (g:GoodM σ) (h:RR off M σ a l) (w x:Lx.Wd) (hw:w.1.length≤100001) (hx:x.1.length≤100001) (hb:SB 200000 σ) (hn:1000000<n) :
  RL off M ln (qao n (rst σ ln a l) qct [w,x]) (qg4 σ (off ln) qct [w,x]):=by
 obtain ⟨d1,d2,d3,d4,d5,d6,d7,d8,d9,d10⟩:=kd
 rw [show qg4 σ (off ln) qct [w,x]=(match j5i w.1 x.1 with
   | .inl e=>.inl e
   | .inr q=>q1z { σ with ex:=σ.ex ++ [q] } (qct,(q.1,q.2)) (off ln) x) from rfl]
 unfold qao
 simp only [qx7 n w x [] hw hx (by omega),Option.bind_some]
 cases hr:j5i w.1 x.1 with
 | inl e =>
  have:=j44 hr
  exact ⟨_,by simp only [this,decide_false,Bool.not_false,cond_true];rfl⟩
 | inr q =>
  simp only [decide_true,Bool.not_true,cond_false,cond_true]
  have hrl:σ.ex.length≤200000:=hb.2.2.1
  have hH:qaq n (rst σ ln a l).2.2.2.2.1 q true=some (σ.ex.any fun y=>decide (y=q)):=qra n σ.ex true q (by omega) (by omega)
  rw [hH,Option.bind_some]
  by_cases hm:q∈σ.ex
  ·have hc:q0h { σ with ex:=σ.ex ++ [q] } (qct,(q.1,q.2))=true:=(g.ek q).2 hm
   rw [qeg hc,(any_eq σ.ex q).2 hm]
   exact ⟨_,rfl⟩
  ·have hc:q0h { σ with ex:=σ.ex ++ [q] } (qct,(q.1,q.2))=false:=qfq (g.ek q) hm
   have hany:(σ.ex.any fun y=>decide (y=q))=false:=by
    cases hh:(σ.ex.any fun y=>decide (y=q)) with
    | false=>rfl
    | true=>exact absurd ((any_eq _ _).1 hh) hm
   have a1:q2g 72 ([]:List Rq) σ.ex=some σ.ex:=q2i (by simp;omega)
   have a2:q2g 72 σ.ex [q]=some (σ.ex ++ [q]):=q2i (by simp;omega)
   rw [qi9 hc,hany]
   refine ⟨a,l,?_,h.other rfl (fun p=>q99 (fun e=>d8 (congrArg Prod.fst e)) _ _)⟩
   simp only [rst,cond_false,a1,a2,Option.bind_some]
end Go.Proofs.YtapfankgdkdkgaaGreatDoor.AM
namespace Go.Proofs.YtapfankgdkdkgaaGreatDoor.AM
open Go.RowKit
theorem q3w (n:Nat) (a b:Int):q4i n a b=some (qbh a b):=by
 unfold q4i qbh
 by_cases h1:a<b
 ·simp [h1]
 ·by_cases h2:b<a
  ·simp [h1,h2]
  ·simp [h1,h2]
theorem k97 (a b:Yy):(bif ltS a b then some (-1:Int) else (bif !(ltS a b||decide (a=b)) then some (1:Int) else some (0:Int)))=some (cmpL jrc a b):=by
 unfold ltS
 rw [qkb]
 have hr:=(qi3 qqo).rng a b
 have hz:cmpL jrc a b=0↔a=b:=(qi3 qqo).zero
 by_cases h1:cmpL jrc a b<0
 ·have:cmpL jrc a b = -1:=by omega
  simp [h1,this]
 ·by_cases h2:a=b
  ·have:=hz.2 h2
   simp [h1,h2,(qi3 qqo).refl b]
  ·have:cmpL jrc a b=1:=by
    have : ¬ cmpL jrc a b=0:=fun e=>h2 (hz.1 e)
    omega
   simp [h2,this]
theorem jft (n:Nat) (a b:Yy) (ha:a.length≤1000000) (hb:b.length≤1000000) (hn:a.length<n∧b.length<n):qja n a b=some (jpq a b):=by
 unfold qja jpq k2v
 rw [q8w n a ha hn.1,q8w n b hb hn.2]
 simp only [Option.bind_some,k97,q3w]
 cases q2q a with
 | false=>cases q2q b with
  | false =>
   simp only [cond_false,Bool.false_eq_true,if_false]
   unfold ql0 qbh or2
   simp
  | true =>
   simp only [cond_false,cond_true,Bool.not_false,Bool.false_eq_true,if_false,if_true]
   unfold ql0 qbh or2
   simp
 | true=>cases q2q b with
  | false =>
   simp only [cond_false,cond_true,Bool.not_false,Bool.false_eq_true,if_false,if_true]
   unfold ql0 qbh or2
   simp
  | true =>
   simp only [cond_true,cond_false,Bool.not_true,if_true]
   unfold ql0
   have e0:qbh (0:Int) 0=0:=by decide
   dsimp only
   rw [e0]
   unfold or2
   simp only [if_true]
   by_cases hl:((a.length:Nat):Int)=((b.length:Nat):Int)
   ·have:qbh ((a.length:Nat):Int) ((b.length:Nat):Int)=0:=by rw [hl];exact qbs.refl _
    simp only [hl,decide_true,Bool.not_true,cond_false]
    rw [hl] at this
    rw [this];rfl
   ·have : ¬ qbh ((a.length:Nat):Int) ((b.length:Nat):Int)=0:=fun e=>hl (qbs.eq _ _ e)
    simp only [hl,decide_false,Bool.not_false,cond_true,this,if_false]
theorem j0e (n:Nat) (l1 l2:List (Yy)) (h1:l1.length≤1000000) (h2:l2.length≤1000000) (hw : ∀ w,w∈l1∨w∈l2→w.length≤1000000∧w.length<n) : ∀ m j:Nat,j≤l1.length→j≤l2.length→l1.length - j<m →
  ((qfk n m l1 l2 (j:Int)).bind fun (o16:((Int×(Unit))×(Unit)×(Unit))⊕(((List (Yy))×((List (Yy))×(Unit)))×(Unit)×(Unit)))=>Sum.elim (fun (q17:(Int×(Unit))×(Unit)×(Unit))=>some q17.1.1) (fun (q18:((List (Yy))×((List (Yy))×(Unit)))×(Unit)×(Unit))=>(q4i n ((List.length q18.1.1:Nat):Int) ((List.length q18.1.2.1:Nat):Int)).bind fun (r19:Int)=>some r19) o16)=some (cmpL jpq (l1.drop j) (l2.drop j))
 | 0,j,_,_,h=>absurd h (Nat.not_lt_zero _)
 | m+1,j,hj,hj2,h=>by
  rw [quv]
  unfold jeu
  by_cases c0:j<l1.length
  ·have c0':((j:Nat):Int)<((l1.length:Nat):Int):=by omega
   have hd:l1.drop j=l1[j]::l1.drop (j+1):=(List.drop_eq_getElem_cons c0)
   by_cases c1:j<l2.length
   ·have c1':((j:Nat):Int)<((l2.length:Nat):Int):=by omega
    have hd2:l2.drop j=l2[j]::l2.drop (j+1):=(List.drop_eq_getElem_cons c1)
    have ih:=j0e n l1 l2 h1 h2 hw m (j+1) (by omega) (by omega) (by omega)
    have k1:=hw l1[j] (Or.inl (List.getElem_mem c0))
    have k2:=hw l2[j] (Or.inr (List.getElem_mem c1))
    have hp:=jft n l1[j] l2[j] k1.1 k2.1 ⟨k1.2,k2.2⟩
    rw [hd,hd2,cmpL]
    simp only [c0',decide_true,cond_true,q1c c0,Option.bind_some,c1',q1c c1,hp,q04,q0a (show j<4611686018427387904 by omega)]
    unfold or2
    by_cases h0:jpq l1[j] l2[j]=0
    ·simp only [h0,decide_true,Bool.not_true,cond_false,if_true]
     exact ih
    ·simp only [h0,decide_false,Bool.not_false,cond_true,if_false,Option.bind_some,Sum.elim_inl]
   ·have c1' : ¬ ((j:Nat):Int)<((l2.length:Nat):Int):=by omega
    have hd2:l2.drop j = []:=List.drop_eq_nil_of_le (by omega)
    have c3:qbh ((l1.length:Nat):Int) ((l2.length:Nat):Int)=1:=by unfold qbh;rw [if_neg (by omega),if_pos (by omega)]
    rw [hd,hd2,cmpL]
    simp only [c0',decide_true,cond_true,c1',decide_false,cond_false,Option.bind_some,Sum.elim_inr,q3w,c3]
  ·have c0' : ¬ ((j:Nat):Int)<((l1.length:Nat):Int):=by omega
   have hd:l1.drop j = []:=List.drop_eq_nil_of_le (by omega)
   simp only [c0',decide_false,cond_false,Option.bind_some,Sum.elim_inr,q3w]
   rw [hd]
   by_cases c1:j<l2.length
   ·have hd2:l2.drop j=l2[j]::l2.drop (j+1):=(List.drop_eq_getElem_cons c1)
    have c3:qbh ((l1.length:Nat):Int) ((l2.length:Nat):Int) = -1:=by unfold qbh;rw [if_pos (by omega)]
    rw [hd2,c3]
    rfl
   ·have hd2:l2.drop j = []:=List.drop_eq_nil_of_le (by omega)
    have c3:qbh ((l1.length:Nat):Int) ((l2.length:Nat):Int)=0:=by unfold qbh;rw [if_neg (by omega),if_neg (by omega)]
    rw [hd2,c3]
    rfl
theorem jss (n:Nat) (a b:Yy) (ha:a.length≤100000) (hb:b.length≤100000) (hn:a.length+3<n∧b.length+3<n):ji6 n a b=some (qcw a b):=by
 unfold ji6 qdu
 by_cases h1:a = []
 ·by_cases h2:b = []
  ·simp only [h1,h2,decide_true,cond_true,Option.bind_some,q3w]
   rfl
  ·simp only [h1,h2,decide_true,decide_false,cond_true,cond_false,Option.bind_some,q3w]
   unfold qcw ql0 jq2 qbh or2
   simp [h2]
 ·by_cases h2:b = []
  ·simp only [h1,h2,decide_true,decide_false,cond_true,cond_false,Option.bind_some,q3w]
   unfold qcw ql0 jq2 qbh or2
   simp [h1]
  ·simp only [h1,h2,decide_false,cond_false]
   have s1:q0k n a (46:Int)=some (spl 46 [] a):=q3n n a 46 (by omega) (by omega)
   have s2:q0k n b (46:Int)=some (spl 46 [] b):=q3n n b 46 (by omega) (by omega)
   have k1:=q4y 46 a []
   have k2:=q4y 46 b []
   rw [s1,s2]
   simp only [Option.bind_some]
   have h:=j0e n (spl 46 [] a) (spl 46 [] b) (by omega) (by omega) (fun w hw=>by
     rcases hw with hw|hw
     ·have:=q62 46 a [] w hw;simp at this;omega
     ·have:=q62 46 b [] w hw;simp at this;omega) n 0 (Nat.zero_le _) (Nat.zero_le _) (by omega)
   rw [show ((0:Nat):Int)=(0:Int) from rfl,List.drop_zero,List.drop_zero] at h
   rw [h]
   unfold qcw jq2
   simp only [h1,h2,if_false]
   unfold ql0
   have e0:qbh (0:Int) 0=0:=by decide
   dsimp only
   rw [e0]
   unfold or2
   simp
theorem j40 (n:Nat) (a b:VD) (hn:100≤n):q72 n a b=some (jpc a b):=by
 unfold q72 jpc
 rw [qap n a hn,qap n b hn]
 cases hca:q1b a with
 | false=>rfl
 | true=>cases hcb:q1b b with
  | false=>rfl
  | true =>
   obtain ⟨-,-,-,h4,-⟩:=q1k hca
   obtain ⟨-,-,-,k4,-⟩:=q1k hcb
   have t1:=q5b h4
   have t2:=q5b k4
   simp only [Option.bind_some,Bool.not_true,cond_false,q3w]
   rw [jss n _ _ (by omega) (by omega) ⟨by omega,by omega⟩]
   simp only [Option.bind_some,Bool.and_self,if_true]
   show _=some (or2 (qbh a.1 b.1) (or2 (qbh a.2.1 b.2.1) (or2 (qbh a.2.2.1 b.2.2.1) (qcw a.2.2.2.1 b.2.2.2.1))))
   have z : ∀ x y:Int,qbh x y=0↔x=y:=fun x y=>qbs.zero
   unfold or2
   simp only [z]
   by_cases e1:a.1=b.1
   ·by_cases e2:a.2.1=b.2.1
    ·by_cases e3:a.2.2.1=b.2.2.1<;>simp [e1,e2,e3]
    ·simp [e1,e2]
   ·simp [e1]
end Go.Proofs.YtapfankgdkdkgaaGreatDoor.AM
namespace Go.Proofs.YtapfankgdkdkgaaGreatDoor.AM
open Go.RowKit
set_option synthInstance.maxSize 100000
set_option synthInstance.maxHeartbeats 0
theorem j5t (n:Nat) (ws:List Lx.Wd) (w:Lx.Wd) (r:List Lx.Wd) (hws:ws=w::r) (mo go:Yy) (rq:List Rq) (sw:List Sw) (ex:List Rq) (rt:List Sp) (bk:Yy) (ln:Int) (a e l:List Int) (z1 z2 z3:Yy) (z4:Int) (hL:sw.length≤1000000) : ∀ m j:Nat,j≤sw.length→sw.length - j<m →
  q4o n m ws (j:Int) mo go rq sw ex rt bk ln a e l z1 z2 z3 z4=some (if (sw.drop j).any (fun q=>decide (q.1=w.1))=true then Sum.inl (((),(11,())),(((mo,(go,(rq,(sw,(ex,(rt,(bk,(ln,(a,(e,l)))))))))),()),()))
   else Sum.inr (((ws,((),((),()))),(((mo,(go,(rq,(sw,(ex,(rt,(bk,(ln,(a,(e,l)))))))))),((z1,(z2,((),((),((),((),(z3,(z4,((),((),())))))))))),())),()))))
 | 0,j,_,h=>absurd h (Nat.not_lt_zero _)
 | m+1,j,hj,h=>by
  rw [qkl]
  unfold qng
  by_cases c0:j<sw.length
  ·have c0':((j:Nat):Int)<((sw.length:Nat):Int):=by omega
   have ih:=j5t n ws w r hws mo go rq sw ex rt bk ln a e l z1 z2 z3 z4 hL m (j+1) (by omega) (by omega)
   have i0:q0n ws (0:Int)=some w:=by rw [hws];exact jo9 w r
   rw [List.drop_eq_getElem_cons c0,List.any_cons]
   simp only [c0',decide_true,cond_true,q1c c0,i0,Option.bind_some,q04,q0a (show j<4611686018427387904 by omega)]
   by_cases h1:sw[j].1=w.1
   ·simp [h1]
   ·rw [decide_eq_false h1,cond_false,Bool.false_or];exact ih
  ·have c0' : ¬ ((j:Nat):Int)<((sw.length:Nat):Int):=by omega
   simp only [c0',decide_false,cond_false]
   rw [List.drop_eq_nil_of_le (by omega)]
   rfl
theorem k1s (l:List Sw) (p:Yy):(l.any fun q=>decide (q.1=p))=true↔p∈l.map Prod.fst:=by
 rw [List.any_eq_true,List.mem_map]
 simp
theorem k6b (n:Nat) (off:Int→Int) (M ln:Int) (σ:MS) (a l:List Int) (g:GoodM σ) (h:RR off M σ a l) (w b x:Lx.Wd) (hw:w.1.length≤100001) (hx:x.1.length≤100001) (hb:SB 200000 σ) (hn:1000000<n) :
  RL off M ln (qdm n (rst σ ln a l) [w,b,x]) (qg4 σ (off ln) q9b [w,x]):=by
 obtain ⟨d1,d2,d3,d4,d5,d6,d7,d8,d9,d10⟩:=kd
 rw [show qg4 σ (off ln) q9b [w,x]=(if okS w.1=false then .inl 6 else if q4u x.1=false then .inl 6 else q1z { σ with sw:=σ.sw ++ [(w.1,x.1)] } (q9b,(w.1,v0)) (off ln) x) from rfl]
 unfold qdm
 have i2:q0n [w,b,x] (2:Int)=some x:=rfl
 simp only [jo9,i2,Option.bind_some,qc8 n w.1 (show _≤1000000 by omega) (show 2000≤n by omega),qhe n x.1 (show _≤1000000 by omega) (show 100≤n by omega)]
 cases okS w.1 with
 | false=>exact ⟨_,rfl⟩
 | true =>
  simp only [Bool.not_true,cond_false,Bool.true_eq_false,if_false]
  cases q4u x.1 with
  | false=>exact ⟨_,rfl⟩
  | true =>
   simp only [Bool.not_true,cond_false,Bool.true_eq_false,if_false]
   have hsl:σ.sw.length≤200000:=hb.2.1
   have hlp:=j5t n [w,b,x] w [b,x] rfl σ.mo σ.go σ.rq σ.sw σ.ex σ.rt σ.bk ln a [] l [] [] [] 0 (by omega) n 0 (Nat.zero_le _) (by omega)
   rw [zI,List.drop_zero] at hlp
   rw [show q4o n n [w,b,x] 0 (rst σ ln a l).1 (rst σ ln a l).2.1 (rst σ ln a l).2.2.1 (rst σ ln a l).2.2.2.1 (rst σ ln a l).2.2.2.2.1 (rst σ ln a l).2.2.2.2.2.1 (rst σ ln a l).2.2.2.2.2.2.1 (rst σ ln a l).2.2.2.2.2.2.2.1 (rst σ ln a l).2.2.2.2.2.2.2.2.1 (rst σ ln a l).2.2.2.2.2.2.2.2.2.1 (rst σ ln a l).2.2.2.2.2.2.2.2.2.2 [] [] [] 0=_ from hlp]
   by_cases hm:w.1∈σ.sw.map Prod.fst
   ·have hc:q0h { σ with sw:=σ.sw ++ [(w.1,x.1)] } (q9b,(w.1,v0))=true:=(g.sk w.1).2 hm
    rw [qeg hc,(k1s σ.sw w.1).2 hm]
    exact ⟨_,rfl⟩
   ·have hc:q0h { σ with sw:=σ.sw ++ [(w.1,x.1)] } (q9b,(w.1,v0))=false:=qfq (g.sk w.1) hm
    have hany:(σ.sw.any fun y=>decide (y.1=w.1))=false:=by
     cases hh:(σ.sw.any fun y=>decide (y.1=w.1)) with
     | false=>rfl
     | true=>exact absurd ((k1s _ _).1 hh) hm
    have a1:q2g 32 ([]:List Sw) σ.sw=some σ.sw:=q2i (by simp;omega)
    have a2:q2g 32 σ.sw [(w.1,x.1)]=some (σ.sw ++ [(w.1,x.1)]):=q2i (by simp;omega)
    rw [qi9 hc,hany]
    refine ⟨a,l,?_,h.other rfl (fun p=>q99 (fun e=>d9 (congrArg Prod.fst e)) _ _)⟩
    simp only [Bool.false_eq_true,if_false,Option.bind_some,Sum.elim_inr,a1,a2,jo9,i2,rst]
theorem jj5 (n:Nat) (off:Int→Int) (M ln:Int) (σ:MS) (a l:List Int) (h:RR off M σ a l) (ws:List Lx.Wd) (x y:Lx.Wd) (r:List Lx.Wd) (hws:(ws = [x]∧y=x∧r = [])∨(∃ p q s,ws = [p,x,q,y,s]∧r = [y])) (hx:x.1.length≤100001) (hy:y.1.length≤100001) (hb:SB 200000 σ) (hn:1000000<n) :
  RL off M ln (qd6 n (rst σ ln a l) ws) (qg4 σ (off ln) ql2 (x::r)):=by
 have hgl:(r.getLast?.getD x).1=y.1:=by
  rcases hws with ⟨_,rfl,rfl⟩|⟨p,q,s,_,rfl⟩<;>rfl
 rw [show qg4 σ (off ln) ql2 (x::r)=(if (q0e x.1).2=false then .inl 7 else if (q0e ((r.getLast?.getD x).1)).2=false then .inl 7
  else if 0<jpc (q0e x.1).1 (q0e ((r.getLast?.getD x).1)).1 then .inl 7 else .inr { σ with rt:=σ.rt ++ [jpj (q0e x.1).1 (q0e ((r.getLast?.getD x).1)).1] }) from rfl,hgl]
 have hrl:σ.rt.length≤200000:=hb.2.2.2
 have hgen:RL off M ln (bif !(q0e x.1).2 then some (rst σ ln a l,(7:Int)) else (bif !(q0e y.1).2 then some (rst σ ln a l,7) else (q72 n (q0e x.1).1 (q0e y.1).1).bind fun r5=>(bif decide (0<r5) then some (rst σ ln a l,7) else (q2g 112 ([]:List Sp) (rst σ ln a l).2.2.2.2.2.1).bind fun l6=>(q2g 112 l6 ([jpj (q0e x.1).1 (q0e y.1).1])).bind fun l7=>some (((rst σ ln a l).1,((rst σ ln a l).2.1,((rst σ ln a l).2.2.1,((rst σ ln a l).2.2.2.1,((rst σ ln a l).2.2.2.2.1,(l7,(rst σ ln a l).2.2.2.2.2.2)))))),0))))
   (if (q0e x.1).2=false then .inl 7 else if (q0e y.1).2=false then .inl 7 else if 0<jpc (q0e x.1).1 (q0e y.1).1 then .inl 7 else .inr { σ with rt:=σ.rt ++ [jpj (q0e x.1).1 (q0e y.1).1] }):=by
  rw [j40 n _ _ (by omega)]
  cases (q0e x.1).2 with
  | false=>exact ⟨_,rfl⟩
  | true =>
   cases (q0e y.1).2 with
   | false=>exact ⟨_,rfl⟩
   | true =>
    simp only [Bool.not_true,cond_false,Bool.true_eq_false,if_false,Option.bind_some]
    by_cases hc:0<jpc (q0e x.1).1 (q0e y.1).1
    ·simp only [hc,decide_true,cond_true,if_true];exact ⟨_,rfl⟩
    ·have a1:q2g 112 ([]:List Sp) σ.rt=some σ.rt:=q2i (by simp;omega)
     have a2:q2g 112 σ.rt [jpj (q0e x.1).1 (q0e y.1).1]=some (σ.rt ++ [jpj (q0e x.1).1 (q0e y.1).1]):=q2i (by simp;omega)
     simp only [hc,decide_false,cond_false,if_false]
     refine ⟨a,l,?_,h.other rfl (fun p=>rfl)⟩
     simp only [rst,a1,a2,Option.bind_some]
 unfold qd6
 rcases hws with ⟨rfl,rfl,rfl⟩|⟨p,q,s,rfl,rfl⟩
 ·rw [show decide ((([y].length:Nat):Int)=5)=false from rfl,cond_false]
  simp only [jo9,Option.bind_some,qev n y.1 (show 2000≤n by omega)]
  exact hgen
 ·have i1:q0n [p,x,q,y,s] (1:Int)=some x:=rfl
  have i3:q0n [p,x,q,y,s] (3:Int)=some y:=rfl
  rw [show decide ((([p,x,q,y,s].length:Nat):Int)=5)=true from rfl,cond_true]
  simp only [i1,i3,Option.bind_some,qev n x.1 (show 2000≤n by omega),qev n y.1 (show 2000≤n by omega)]
  exact hgen
theorem RL.some {off:Int→Int} {M ln:Int} {x:Option (RSt×Int)} {r:Int⊕MS} (h:RL off M ln x r) : ∃ y,x=some y:=by
 cases r with
 | inl e=>obtain ⟨S,e⟩:=h;exact ⟨_,e⟩
 | inr σ'=>obtain ⟨a,l,e,_⟩:=h;exact ⟨_,e⟩
theorem jpp {ws:List Lx.Wd} (h:tk1 ws=true) : ∃ a,ws = [a]∧q42 a.1=false:=by
 match ws,h with
 | [a],h=>exact ⟨a,rfl,by simpa [tk1] using h⟩
theorem k2t {ws:List Lx.Wd} (h:tk2 ws=true) : ∃ a b,ws = [a,b]∧q42 a.1=false∧q42 b.1=false:=by
 match ws,h with
 | [a,b],h=>simp only [tk2,Bool.and_eq_true,Bool.not_eq_true'] at h;exact ⟨a,b,rfl,h.1,h.2⟩
theorem k8b {ws:List Lx.Wd} (h:tk3 ws=true) : ∃ a b c,ws = [a,b,c]∧q42 a.1=false∧q42 b.1=true∧q42 c.1=false:=by
 match ws,h with
 | [a,b,c],h =>
  simp only [tk3,Bool.and_eq_true,Bool.not_eq_true',decide_eq_true_eq] at h
  exact ⟨a,b,c,rfl,h.1,by rw [h.2.1];decide,h.2.2⟩
theorem k93 {ws:List Lx.Wd} (h:tk5 ws=true) : ∃ a b c d e,ws = [a,b,c,d,e]∧q42 a.1=true∧q42 b.1=false∧q42 c.1=true∧q42 d.1=false∧q42 e.1=true:=by
 match ws,h with
 | [a,b,c,d,e],h =>
  simp only [tk5,Bool.and_eq_true,Bool.not_eq_true',decide_eq_true_eq] at h
  exact ⟨a,b,c,d,e,rfl,by rw [h.1];decide,h.2.1,by rw [h.2.2.1];decide,h.2.2.2.1,by rw [h.2.2.2.2];decide⟩
theorem jin (n:Nat) (off:Int→Int) (M ln:Int) (σ:MS) (a l:List Int) (g:GoodM σ) (h:RR off M σ a l) (v:Yy) (ws:List Lx.Wd) (hws:WB ws) (hb:SB 200000 σ) (hln:0≤ln∧ln≤M) (hn:1000000<n) :
  RL off M ln (q1v n (rst σ ln a l) v ws) (qgc σ (off ln) v ws):=by
 obtain ⟨d1,d2,d3,d4,d5,d6,d7,d8,d9,d10⟩:=kd
 have hsh:=jz1 v ws
 unfold q1v qgc
 dsimp only
 rw [j72 n v ws hws.1 (by omega),Option.bind_some]
 cases hf:fS v ws with
 | false =>
  rw [hf] at hsh
  rw [if_neg (of_decide_eq_false hsh)]
  exact ⟨_,rfl⟩
 | true =>
  rw [hf] at hsh
  rw [if_pos (of_decide_eq_true hsh),Bool.not_true,cond_false]
  by_cases h1:v=qgj
  ·subst h1
   obtain ⟨w,rfl,m1⟩:=jpp (ws:=ws) hf
   have hu:unm [w] = [w]:=by simp [unm,m1]
   have hq:=one_mod n off M ln σ a l g h w hws.head.1 hn
   rw [hu]
   simp only [decide_true,cond_true,jo9,Option.bind_some]
   obtain ⟨y,hy⟩:=hq.some
   rw [hy] at hq ⊢
   exact hq
  by_cases h2:v=kGo
  ·subst h2
   obtain ⟨w,rfl,m1⟩:=jpp (ws:=ws) hf
   have hu:unm [w] = [w]:=by simp [unm,m1]
   have hq:=k76 n off M ln σ a l g h w hws.head.1 hn
   rw [hu]
   simp only [decide_eq_false h1,cond_false,decide_true,cond_true,jo9,Option.bind_some]
   obtain ⟨y,hy⟩:=hq.some
   rw [hy] at hq ⊢
   exact hq
  by_cases h3:v=q43
  ·subst h3
   obtain ⟨w,x,rfl,m1,m2⟩:=k2t (ws:=ws) hf
   have hu:unm [w,x] = [w,x]:=by simp [unm,m1,m2]
   have hq:=k44 n off M ln σ a l g h w x hws.head.1 hws.tail.head hb hln hn
   rw [hu]
   simp only [decide_eq_false h1,decide_eq_false h2,cond_false,decide_true,cond_true]
   obtain ⟨y,hy⟩:=hq.some
   rw [hy] at hq ⊢
   exact hq
  by_cases h4:v=qct
  ·subst h4
   obtain ⟨w,x,rfl,m1,m2⟩:=k2t (ws:=ws) hf
   have hu:unm [w,x] = [w,x]:=by simp [unm,m1,m2]
   have hq:=k40 n off M ln σ a l g h w x hws.head.1 hws.tail.head.1 hb hn
   rw [hu]
   simp only [decide_eq_false h1,decide_eq_false h2,decide_eq_false h3,cond_false,decide_true,cond_true]
   obtain ⟨y,hy⟩:=hq.some
   rw [hy] at hq ⊢
   exact hq
  by_cases h5:v=q9b
  ·subst h5
   obtain ⟨w,b,x,rfl,m1,m2,m3⟩:=k8b (ws:=ws) hf
   have hu:unm [w,b,x] = [w,x]:=by simp [unm,m1,m2,m3]
   have hq:=k6b n off M ln σ a l g h w b x hws.head.1 hws.tail.tail.head.1 hb hn
   rw [hu]
   simp only [decide_eq_false h1,decide_eq_false h2,decide_eq_false h3,decide_eq_false h4,cond_false,decide_true,cond_true]
   obtain ⟨y,hy⟩:=hq.some
   rw [hy] at hq ⊢
   exact hq
  have h6:v=ql2:=by
   by_cases h6:v=ql2
   ·exact h6
   ·simp only [fS,if_neg h1,if_neg h2,if_neg h3,if_neg h4,if_neg h5,if_neg h6] at hf
    cases hf
  subst h6
  simp only [decide_eq_false h1,decide_eq_false h2,decide_eq_false h3,decide_eq_false h4,decide_eq_false h5,cond_false]
  have hor:tk1 ws=true∨tk5 ws=true:=by
   have:(tk1 ws||tk5 ws)=true:=hf
   simpa using this
  rcases hor with hk|hk
  ·obtain ⟨w,rfl,m1⟩:=jpp hk
   have hu:unm [w] = [w]:=by simp [unm,m1]
   have hq:=jj5 n off M ln σ a l h [w] w w [] (.inl ⟨rfl,rfl,rfl⟩) hws.head.1 hws.head.1 hb hn
   rw [hu]
   obtain ⟨y,hy⟩:=hq.some
   rw [hy] at hq ⊢
   exact hq
  ·obtain ⟨p,x,q,y,s,rfl,m1,m2,m3,m4,m5⟩:=k93 hk
   have hu:unm [p,x,q,y,s] = [x,y]:=by simp [unm,m1,m2,m3,m4,m5]
   have hq:=jj5 n off M ln σ a l h [p,x,q,y,s] x y [y] (.inr ⟨p,q,s,rfl,rfl⟩) hws.tail.head.1 hws.tail.tail.tail.head.1 hb hn
   rw [hu]
   obtain ⟨y,hy⟩:=hq.some
   rw [hy] at hq ⊢
   exact hq
end Go.Proofs.YtapfankgdkdkgaaGreatDoor.AM
namespace Go.Proofs.YtapfankgdkdkgaaGreatDoor.AM
open Go.RowKit
set_option synthInstance.maxSize 100000
set_option synthInstance.maxHeartbeats 0
theorem jl2 {m:Yy} (hm:q42 m=true) (hs:spl 32 [] m = [m]) (hne:m ≠ []) (ws:List Lx.Wd):shp ws=m ↔ ∃ x,ws = [x]∧x.1=m:=by
 rw [qu9 hne hs (Lib.join_one _ _)]
 constructor
 ·intro h
  match ws,h with
  | [x],h=>exact ⟨x,rfl,(jp8 x hm).1 (List.cons.inj h).1⟩
 ·rintro ⟨x,rfl,h⟩
  rw [List.map_cons,List.map_nil,(jp8 x hm).2 h]
theorem k5e (ws:List Lx.Wd):shp ws = [40] ↔ ∃ x,ws = [x]∧x.1 = [40]:=jl2 (by decide) (by decide) (by decide) ws
theorem k4l (ws:List Lx.Wd):shp ws = [41] ↔ ∃ x,ws = [x]∧x.1 = [41]:=jl2 (by decide) (by decide) (by decide) ws
theorem RR.bk {off:Int→Int} {M:Int} {σ:MS} {a l:List Int} (h:RR off M σ a l) (b:Yy):RR off M { σ with bk:=b } a l:=h.other rfl (fun p=>rfl)
theorem jyj (n:Nat) (off:Int→Int) (M ln:Int) (σ:MS) (a l:List Int) (g:GoodM σ) (h:RR off M σ a l) (ws:List Lx.Wd) (hws:WB ws) (hb:SB 200000 σ) (hln:0≤ln∧ln≤M) (hn:1000000<n) :
  RL off M ln (qj2 n (rst σ ln a l) ws) (qaj σ (off ln) ws):=by
 unfold qj2
 cases ws with
 | nil=>exact ⟨a,l,rfl,h⟩
 | cons w r =>
  have hwl:=hws.1
  have c0 : ¬ ((((w::r).length:Nat):Int)=0):=by simp only [List.length_cons];omega
  have hsub:q1d (w::r) (1:Int) (((w::r).length:Nat):Int)=some r:=by
   have:=sub_le (l:=w::r) (a:=1) (b:=(w::r).length) (by simp) (Nat.le_refl _)
   rw [show ((1:Nat):Int)=(1:Int) from rfl] at this
   rw [this];simp
  unfold qaj
  simp only [c0,decide_false,cond_false,jo9,hsub,Option.bind_some]
  by_cases hb0:σ.bk = []
  ·have e1:decide ((rst σ ln a l).2.2.2.2.2.2.1 = [])=true:=decide_eq_true hb0
   rw [e1,Bool.not_true,cond_false]
   simp only [if_pos hb0]
   have hst:=jin n off M ln σ a l g h w.1 r hws.tail hb hln hn
   obtain ⟨y,hy⟩:=hst.some
   rw [hy] at hst ⊢
   by_cases hl:(((w::r).length:Nat):Int)=2
   ·rw [decide_eq_true hl,cond_true]
    obtain ⟨x,rfl⟩ : ∃ x,r = [x]:=len1 (by simp only [List.length_cons] at hl;omega)
    simp only [k6p,Option.bind_some]
    by_cases hx:x.1 = [40]
    ·rw [decide_eq_true hx,cond_true]
     have hs40:shp [x] = [40]:=(k5e _).2 ⟨x,rfl,hx⟩
     have hgo : ∀ b,RL off M ln (some (((rst σ ln a l).1,((rst σ ln a l).2.1,((rst σ ln a l).2.2.1,((rst σ ln a l).2.2.2.1,((rst σ ln a l).2.2.2.2.1,((rst σ ln a l).2.2.2.2.2.1,(b,(rst σ ln a l).2.2.2.2.2.2.2))))))),(0:Int))) (.inr { σ with bk:=b }):=fun b=>⟨a,l,rfl,h.bk b⟩
     by_cases k1:w.1=q43
     ·rw [decide_eq_true k1,cond_true,if_pos ⟨by rw [k1];decide,hs40⟩];exact hgo w.1
     rw [decide_eq_false k1,cond_false]
     by_cases k2:w.1=qct
     ·rw [decide_eq_true k2,cond_true,if_pos ⟨by rw [k2];decide,hs40⟩];exact hgo w.1
     rw [decide_eq_false k2,cond_false]
     by_cases k3:w.1=q9b
     ·rw [decide_eq_true k3,cond_true,if_pos ⟨by rw [k3];decide,hs40⟩];exact hgo w.1
     rw [decide_eq_false k3,cond_false]
     by_cases k4:w.1=ql2
     ·rw [decide_eq_true k4,cond_true,if_pos ⟨by rw [k4];decide,hs40⟩];exact hgo w.1
     rw [decide_eq_false k4,cond_false]
     have hnb:q8i w.1=false:=by simp only [q8i,decide_eq_false k1,decide_eq_false k2,decide_eq_false k3,decide_eq_false k4,Bool.or_self]
     rw [if_neg (fun hh=>by rw [hnb] at hh;cases hh.1)]
     exact hst
    ·rw [decide_eq_false hx,cond_false,if_neg (fun hh=>by obtain ⟨x',e,hx'⟩:=(k5e _).1 hh.2;cases e;exact hx hx')]
     exact hst
   ·rw [decide_eq_false hl,cond_false,if_neg (fun hh=>by obtain ⟨x',e,hx'⟩:=(k5e _).1 hh.2;rw [e] at hl;exact hl rfl)]
    exact hst
  ·have e1:decide ((rst σ ln a l).2.2.2.2.2.2.1 = [])=false:=decide_eq_false hb0
   rw [e1,Bool.not_false,cond_true]
   simp only [if_neg hb0]
   have hst:=jin n off M ln σ a l g h σ.bk (w::r) hws hb hln hn
   obtain ⟨y,hy⟩:=hst.some
   rw [show (rst σ ln a l).2.2.2.2.2.2.1=σ.bk from rfl,hy]
   rw [hy] at hst
   by_cases hl:(((w::r).length:Nat):Int)=1
   ·rw [decide_eq_true hl,cond_true]
    obtain rfl:r = []:=by
     cases r with
     | nil=>rfl
     | cons=>simp only [List.length_cons] at hl;omega
    by_cases hx:w.1 = [41]
    ·rw [decide_eq_true hx,cond_true,if_pos ((k4l _).2 ⟨w,rfl,hx⟩)]
     exact ⟨a,l,rfl,h.bk []⟩
    ·rw [decide_eq_false hx,cond_false,if_neg (fun hh=>by obtain ⟨x',e,hx'⟩:=(k4l _).1 hh;cases e;exact hx hx')]
     exact hst
   ·rw [decide_eq_false hl,cond_false,if_neg (fun hh=>by obtain ⟨x',e,hx'⟩:=(k4l _).1 hh;rw [e] at hl;exact hl rfl)]
    exact hst
def jpi (ls:List (Yy)) (k:Int):Int:=((tot (ls.take k.toNat):Nat):Int)
theorem qw6 : ∀ a b:List (Yy),tot (a++b)=tot a+tot b
 | [],b=>by simp [tot]
 | x::a,b=>by rw [List.cons_append,tot,tot,qw6 a b];omega
theorem jrb (ls:List (Yy)) (j:Nat) (h:j<ls.length):jpi ls ((j+1:Nat):Int)=jpi ls (j:Int)+((ls[j].length:Nat):Int)+1:=by
 unfold jpi
 rw [Int.toNat_natCast,Int.toNat_natCast,List.take_succ_eq_append_getElem h,qw6]
 simp [tot];omega
theorem jj0 (n:Nat) (ls:List (Yy)) (hl:ls.length≤100001) (hx : ∀ x∈ls,x.length≤100001) (hn:1000000<n) (z1 z2 z3:Yy) (z4:Int) :
  ∀ (m j:Nat) (σ:MS) (ln:Int) (a l:List Int),j≤ls.length→ls.length - j<m→GoodM σ→SB j σ→RR (jpi ls) (((ls.length:Nat):Int) - 1) σ a l →
  match q5o (ls.drop j) (j:Int) (jpi ls (j:Int)) σ with
  | .inl e=>∃ y,q4a n m (ls.map Lx.qkz) (j:Int) z1 z2 z3 z4 σ.mo σ.go σ.rq σ.sw σ.ex σ.rt σ.bk ln a [] l=some (Sum.inl (((),(e.1,(e.2,()))),(((([]:Yy),(([]:Yy),((),((),((),((),(([]:Yy),((0:Int),((),((),())))))))))),()),y)))
  | .inr σ'=>∃ ln' a' l',q4a n m (ls.map Lx.qkz) (j:Int) z1 z2 z3 z4 σ.mo σ.go σ.rq σ.sw σ.ex σ.rt σ.bk ln a [] l=some (Sum.inr ((((),(ls.map Lx.qkz,((),()))),(((z1,(z2,((),((),((),((),(z3,(z4,((),((),())))))))))),(rst σ' ln' a' l',())),()))))∧RR (jpi ls) (((ls.length:Nat):Int) - 1) σ' a' l'
 | 0,j,σ,ln,a,l,_,h,_,_,_=>absurd h (Nat.not_lt_zero _)
 | m+1,j,σ,ln,a,l,hj,h,g,hs,hr=>by
  rw [qjq]
  unfold qnj
  have hml:(ls.map Lx.qkz).length=ls.length:=List.length_map ..
  by_cases c0:j<ls.length
  ·have c0':((j:Nat):Int)<(((ls.map Lx.qkz).length:Nat):Int):=by rw [hml];omega
   rw [List.drop_eq_getElem_cons c0,q5o]
   have hxj:=hx ls[j] (List.getElem_mem c0)
   have i2:q0n (ls.map Lx.qkz) (j:Int)=some (Lx.qkz ls[j]):=by
    rw [q1c (by rw [List.length_map];exact c0)];simp
   have hL:=jyj n (jpi ls) (((ls.length:Nat):Int) - 1) (j:Int) σ a l g hr (q2t ls[j]) (jiw _ hxj) (hs.mono (by omega)) ⟨by omega,by omega⟩ hn
   simp only [c0',decide_true,cond_true,i2,Option.bind_some]
   rw [show ((σ.mo,(σ.go,(σ.rq,(σ.sw,(σ.ex,(σ.rt,(σ.bk,((j:Int),(a,(([]:List Int),l)))))))))):RSt)=rst σ (j:Int) a l from rfl]
   rw [show (Lx.qkz ls[j]).1=q2t ls[j] from rfl]
   cases hlS:qaj σ (jpi ls (j:Int)) (q2t ls[j]) with
   | inl e =>
    rw [hlS] at hL
    obtain ⟨S,e1⟩:=hL
    have hne:=jik hlS
    rw [e1]
    exact ⟨(),by simp only [Option.bind_some,hne,decide_false,Bool.not_false,cond_true]⟩
   | inr σ' =>
    rw [hlS] at hL
    obtain ⟨a',l',e1,hr'⟩:=hL
    rw [e1]
    have ih:=jj0 n ls hl hx hn z1 z2 z3 z4 m (j+1) σ' (j:Int) a' l' (by omega) (by omega) (j8e g hlS) (jg0 hs hlS) hr'
    rw [jrb ls j c0] at ih
    simp only [Option.bind_some,decide_true,Bool.not_true,cond_false,q04,q0a (show j<4611686018427387904 by omega)]
    exact ih
  ·have c0' : ¬ ((j:Nat):Int)<(((ls.map Lx.qkz).length:Nat):Int):=by rw [hml];omega
   simp only [c0',decide_false,cond_false]
   rw [List.drop_eq_nil_of_le (by omega),q5o]
   exact ⟨ln,a,l,rfl,hr⟩
theorem j8g (n:Nat) (s:Yy) (hs:s.length≤100000) (hn:1000000<n) :
  match qcv s with
  | .inl e=>∃ S:RSt,qdj n s=some (S,e)∧((S.1,(S.2.1,(S.2.2.1,(S.2.2.2.1,(S.2.2.2.2.1,S.2.2.2.2.2.1))))):MD)=md0
  | .inr (σ,k)=>∃ ln a l,qdj n s=some (rst σ ln a l,(k,0))∧RR (jpi (Lx.q0l s)) ((((Lx.q0l s).length:Nat):Int) - 1) σ a l:=by
 unfold qcv qdj
 obtain ⟨l1,l2⟩:=Lx.q57 s
 rw [Lx.jyd n s hs (by omega)]
 by_cases h9:(Lx.q3k (Lx.q0l s) 0 []).2.2=0
 ·rw [if_neg (by simp [h9]),qun _ _ _ h9]
  have hlp:=jj0 n (Lx.q0l s) (by omega) (fun x hx=>by have:=l2 x hx;omega) hn [] [] [] 0 n 0 ms0 0 [] [] (Nat.zero_le _) (by omega) k9o ⟨Nat.le_refl _,Nat.le_refl _,Nat.le_refl _,Nat.le_refl _⟩ ⟨rfl,rfl,fun i q hq=>by cases hq⟩
  rw [zI,List.drop_zero,show jpi (Lx.q0l s) 0=0 from rfl] at hlp
  rw [show ms0.mo = [] from rfl,show ms0.go = [] from rfl,show ms0.bk = [] from rfl,show ms0.rq = [] from rfl,show ms0.sw = [] from rfl,show ms0.ex = [] from rfl,show ms0.rt = [] from rfl] at hlp
  have hml:((Lx.q0l s).map Lx.qkz).length=(Lx.q0l s).length:=List.length_map ..
  simp only [Option.bind_some,decide_true,Bool.not_true,cond_false,List.nil_append]
  cases hr:q5o (Lx.q0l s) 0 0 ms0 with
  | inl e =>
   rw [hr] at hlp
   obtain ⟨y,hy⟩:=hlp
   rw [hy]
   exact ⟨_,rfl,rfl⟩
  | inr σ =>
   rw [hr] at hlp
   obtain ⟨ln,a,l,hy,hrr⟩:=hlp
   rw [hy]
   simp only [Option.bind_some,Sum.elim_inr,rst,hml]
   by_cases hb:σ.bk = []
   ·by_cases hm:σ.mo = []
    ·simp only [hb,hm,decide_true,Bool.not_true,cond_false,cond_true,ne_eq,not_true_eq_false,if_false,if_true]
     exact ⟨_,rfl,rfl⟩
    ·simp only [hb,hm,decide_true,decide_false,Bool.not_true,cond_false,ne_eq,not_true_eq_false,if_false]
     exact ⟨ln,a,l,by rw [← hb],hrr⟩
   ·simp only [hb,decide_false,Bool.not_false,cond_true,ne_eq,not_false_eq_true,if_true]
    exact ⟨_,rfl,rfl⟩
 ·rw [if_pos h9]
  simp only [Option.bind_some,decide_eq_false h9,Bool.not_false,cond_true]
  exact ⟨_,rfl,rfl⟩
theorem qx3 (n:Nat) (ls:List (Yy)) (hls:ls.length≤100001) (hx : ∀ x∈ls,x.length≤100001) (htot:tot ls≤1000000) (i:Nat) (L:Nat) (hL:L<ls.length) (a0:Int) (h0:0≤a0∧a0≤100001) (mo go:Yy) (rq:List Rq) (sw:List Sw) (ex:List Rq) (rt:List Sp) (bk:Yy) (ln:Int) (a l:List Int) (hl:l[i]? = some (L:Int)) : ∀ m k:Nat,k≤L→L - k<m →
  q5k n m ls (i:Int) (a0+((tot (ls.take k):Nat):Int)) (k:Int) mo go rq sw ex rt bk ln a [] l=some ((((),((i:Int),(a0+((tot (ls.take L):Nat):Int),()))),(((mo,(go,(rq,(sw,(ex,(rt,(bk,(ln,(a,(([]:List Int),l)))))))))),()),())))
 | 0,k,_,h=>absurd h (Nat.not_lt_zero _)
 | m+1,k,hk,h=>by
  rw [qh0]
  unfold qhy
  have hil:=(List.getElem?_eq_some_iff.1 hl).1
  have il:q0n l (i:Int)=some (L:Int):=by rw [q1c hil];exact congrArg some (List.getElem?_eq_some_iff.1 hl).2
  have htl : ∀ k,tot (ls.take k)≤tot ls:=fun k=>by
   have:=qw6 (ls.take k) (ls.drop k)
   rw [List.take_append_drop] at this
   omega
  simp only [il,Option.bind_some]
  by_cases c0:k<L
  ·have c0':((k:Nat):Int)<((L:Nat):Int):=by omega
   have hkl:k<ls.length:=by omega
   have h1:=htl k
   have h2:=htl (k+1)
   have hxk:=hx ls[k] (List.getElem_mem hkl)
   have e3:tot (ls.take (k+1))=tot (ls.take k)+ls[k].length+1:=by
    rw [List.take_succ_eq_append_getElem hkl,qw6];simp [tot];omega
   have w1:IntKind.wrap .i64 (a0+((tot (ls.take k):Nat):Int)+((ls[k].length:Nat):Int))=a0+((tot (ls.take k):Nat):Int)+((ls[k].length:Nat):Int):=wrap64 (by omega) (by omega)
   have w2:IntKind.wrap .i64 (a0+((tot (ls.take k):Nat):Int)+((ls[k].length:Nat):Int)+1)=a0+((tot (ls.take (k+1)):Nat):Int):=by rw [wrap64 (by omega) (by omega)];omega
   simp only [c0',decide_true,cond_true,q1c hkl,Option.bind_some,q04,w1,w2,q0a (show k<4611686018427387904 by omega)]
   exact qx3 n ls hls hx htot i L hL a0 h0 mo go rq sw ex rt bk ln a l hl m (k+1) (by omega) (by omega)
  ·have c0' : ¬ ((k:Nat):Int)<((L:Nat):Int):=by omega
   obtain rfl:k=L:=by omega
   simp only [c0',decide_false,cond_false]
theorem qss (n:Nat) (hn:1000000<n) (p:Yy) (ls:List (Yy)) (hls:ls.length≤100001) (hx : ∀ x∈ls,x.length≤100001) (htot:tot ls≤1000000) (σ:MS) (ln:Int) (a l:List Int) (hr:RR (jpi ls) (((ls.length:Nat):Int) - 1) σ a l) (hb:σ.rq.length≤1000000) : ∀ m j:Nat,j≤σ.rq.length→σ.rq.length - j<m→(∀ i,i<j→∀ q,σ.rq[i]? = some q→q.1≠p) →
  (q5i n m p ls (j:Int) σ.mo σ.go σ.rq σ.sw σ.ex σ.rt σ.bk ln a [] l).bind (fun o15=>Sum.elim (fun q16=>some (q16.1.1,(q16.1.2.1,q16.1.2.2.1))) (fun q17=>some ((0:Int),((0:Int),false))) o15) =
   some (if p∈(σ.rq.drop j).map Prod.fst then (match q0c clT (q43,(p,v0)) σ.sd with|some x=>(x.1,(x.2,true))|none=>(0,(0,false))) else (0,(0,false)))
 | 0,j,_,h,_=>absurd h (Nat.not_lt_zero _)
 | m+1,j,hj,h,hno=>by
  rw [qh1]
  unfold qhj
  by_cases c0:j<σ.rq.length
  ·have c0':((j:Nat):Int)<((σ.rq.length:Nat):Int):=by omega
   rw [List.drop_eq_getElem_cons c0]
   simp only [c0',decide_true,cond_true,q1c c0,Option.bind_some,List.map_cons,List.mem_cons]
   by_cases hp:σ.rq[j].1=p
   ·obtain ⟨x,y,g1,g2,g3,g4,g5⟩:=hr.2.2 j σ.rq[j] (List.getElem?_eq_getElem c0)
    obtain ⟨L,rfl⟩ : ∃ L:Nat,y=(L:Int):=⟨y.toNat,by omega⟩
    have hL:L<ls.length:=by omega
    have ia:q0n a (j:Int)=some x:=by rw [q1c (List.getElem?_eq_some_iff.1 g1).1];exact congrArg some (List.getElem?_eq_some_iff.1 g1).2
    have hlp:=qx3 n ls hls hx htot j L hL x g3 σ.mo σ.go σ.rq σ.sw σ.ex σ.rt σ.bk ln a l g2 n 0 (Nat.zero_le _) (by omega)
    rw [List.take_zero,show ((tot []:Nat):Int)=0 from rfl,Int.add_zero,zI] at hlp
    have htl:tot (ls.take L)≤tot ls:=by
     have:=qw6 (ls.take L) (ls.drop L)
     rw [List.take_append_drop] at this
     omega
    have ht:=qbo σ.rq[j].2
    have w1:IntKind.wrap .i64 (x+((tot (ls.take L):Nat):Int)+(((q1g σ.rq[j].2).length:Nat):Int))=x+((tot (ls.take L):Nat):Int)+(((q1g σ.rq[j].2).length:Nat):Int):=wrap64 (by omega) (by omega)
    rw [if_pos (.inl hp.symm),← hp,g5]
    simp only [decide_true,cond_true,ia,Option.bind_some,hlp,q1c c0,qn2 n σ.rq[j].2 (show 100≤n by omega),q04,w1,Sum.elim_inl,jpi,Int.toNat_natCast]
    congr 1
    refine Prod.ext ?_ (Prod.ext ?_ rfl)<;>simp only<;>omega
   ·simp only [decide_eq_false hp,cond_false,q04,q0a (show j<4611686018427387904 by omega)]
    have ih:=qss n hn p ls hls hx htot σ ln a l hr hb m (j+1) (by omega) (by omega) (fun i hi q hq=>by
     by_cases hij:i=j
     ·subst hij
      rw [List.getElem?_eq_getElem c0] at hq
      cases hq;exact hp
     ·exact hno i (by omega) q hq)
    rw [ih]
    have:(p=σ.rq[j].1∨p∈(σ.rq.drop (j+1)).map Prod.fst)↔p∈(σ.rq.drop (j+1)).map Prod.fst:=⟨fun hh=>hh.resolve_left (fun e=>hp e.symm),.inr⟩
    simp only [this]
  ·have c0' : ¬ ((j:Nat):Int)<((σ.rq.length:Nat):Int):=by omega
   simp only [c0',decide_false,cond_false]
   rw [List.drop_eq_nil_of_le (by omega)]
   simp
theorem j2y (n:Nat) (s p:Yy) (hs:s.length≤100000) (hn:1000000<n):qfe n s p=some (q5y s p):=by
 have h:=j8g n s hs hn
 unfold qfe q5y
 cases hr:qcv s with
 | inl e =>
  rw [hr] at h
  obtain ⟨S,h1,h2⟩:=h
  have hne:e.2≠0:=fun h0=>by
   have:(q9i s).2.2=0:=by unfold q9i;rw [hr];exact h0
   obtain ⟨σ,hσ⟩:=jzl this
   rw [jgh hσ] at hr
   cases hr
  rw [h1]
  simp only [Option.bind_some,hne,decide_false,Bool.not_false,cond_true]
 | inr x =>
  obtain ⟨σ,k⟩:=x
  rw [hr] at h
  obtain ⟨ln,a,l,h1,h2⟩:=h
  have hi:=(jdb hr).1
  have g:=hi.good
  obtain ⟨l1,l2⟩:=Lx.q57 s
  have l3:=j91 s
  have hb:σ.rq.length≤1000000:=by
   have:=(k09 s).1
   rw [jzn hi] at this
   have h3:σ.rq.length≤s.length+1:=this
   omega
  have hlp:=qss n hn p (Lx.q0l s) (by omega) (fun x hx=>by have:=l2 x hx;omega) (by omega) σ ln a l h2 hb n 0 (Nat.zero_le _) (by omega) (fun i hi=>absurd hi (Nat.not_lt_zero _))
  rw [zI,List.drop_zero] at hlp
  rw [h1]
  simp only [Option.bind_some,decide_true,Bool.not_true,cond_false,Lx.jjo n s hs (by omega)]
  refine Eq.trans hlp ?_
  show _=some (match q0c clT (q43,(p,v0)) σ.sd with|some x=>(x.1,(x.2,true))|none=>(0,(0,false)))
  by_cases hm:p∈σ.rq.map Prod.fst
  ·rw [if_pos hm]
  ·rw [if_neg hm]
   have hc:q0h σ (q43,(p,v0))=false:=qfq (g.rk p) hm
   unfold q0h at hc
   cases hk:q0c clT (q43,(p,v0)) σ.sd with
   | none=>rfl
   | some x=>rw [hk] at hc;cases hc
end Go.Proofs.YtapfankgdkdkgaaGreatDoor.AM
namespace Go.Proofs.YtapfankgdkdkgaaGreatDoor.AM
open Go.RowKit
set_option synthInstance.maxSize 100000
set_option synthInstance.maxHeartbeats 0
def qj6 (s:Yy) (r:Rq):Int:=if (q9i s).2.2=0 then (if okS r.1=false then 6 else if q1b r.2=false then 7 else if qco r.1 r.2=false then 8 else 0) else (q9i s).2.2
def jhn (s:Yy) (r:Rq):Yy×Int:=if qj6 s r=0 then (if (q5y s r.1).2.2=true then (s.take (q5y s r.1).1.toNat++(q1g r.2++s.drop (q5y s r.1).2.1.toNat),0) else ([],5)) else ([],qj6 s r)
def jph (s:Yy) (r:Rq):Yy×Int:=if qj6 s r=0 then (if (q5y s r.1).2.2=true then ([],11) else ((if Lx.qg8 s=true then s else s ++ [10])++(jms r ++ [10]),0)) else ([],qj6 s r)
theorem qz9 {s p:Yy} (h:(q5y s p).2.2=true) : ∃ (σ:MS) (q:Rq) (a:Nat),IsM s σ∧q∈σ.rq∧q.1=p∧q5y s p=((a:Int),(((a+(q1g q.2).length:Nat):Int),true))∧a+(q1g q.2).length≤s.length∧(s.drop a).take (q1g q.2).length=q1g q.2:=by
 cases hr:qcv s with
 | inl e=>unfold q5y at h;rw [hr] at h;cases h
 | inr x =>
  have hi:=(jdb (σ:=x.1) (k:=x.2) hr).1
  have g:=hi.good
  have hc:q0h x.1 (q43,(p,v0))=true:=by
   unfold q5y at h
   rw [hr] at h
   unfold q0h
   cases hk:q0c clT (q43,(p,v0)) x.1.sd with
   | none =>
    exfalso
    have h':(match q0c clT (q43,(p,v0)) x.1.sd with|some x=>(x.1,(x.2,true))|none=>((0:Int),((0:Int),false))).2.2=true:=h
    rw [hk] at h'
    cases h'
   | some y=>rfl
  obtain ⟨q,hq,hp⟩:=List.mem_map.1 ((g.rk p).1 hc)
  obtain ⟨a,e1,e2,e3⟩:=jy6 hi hq
  rw [hp] at e1
  exact ⟨x.1,q,a,hi,hq,hp,e1,e2,e3⟩
theorem qxc (n:Nat) (s:Yy) (r:Rq) (hs:s.length≤100000) (hr:r.1.length≤1000) (hn:1000000<n):qit n s r=some (qj6 s r):=by
 unfold qit qj6
 simp only [jd9 n s hs (by omega),Option.bind_some]
 by_cases h0:(q9i s).2.2=0
 ·simp only [h0,decide_true,Bool.not_true,cond_false,if_true,qb9 n r.1 (show _≤1000000 by omega) (by omega),Option.bind_some]
  cases okS r.1 with
  | false=>rfl
  | true =>
   simp only [Bool.not_true,cond_false,Bool.true_eq_false,if_false,q53 n r.2 (show 4≤n by omega),Option.bind_some]
   cases q1b r.2 with
   | false=>rfl
   | true =>
    simp only [Bool.not_true,cond_false,Bool.true_eq_false,if_false,j0i n r.1 r.2 (show _≤1000000 by omega) (show r.1.length<n by omega) (show 4≤n by omega),Option.bind_some]
    cases qco r.1 r.2<;>rfl
 ·simp only [h0,decide_false,Bool.not_false,cond_true,if_false]
theorem jti (n:Nat) (s:Yy) (r:Rq) (hs:s.length≤100000) (hr:r.1.length≤1000) (hn:1000000<n):qop n s r=some (jhn s r):=by
 unfold qop jhn
 rw [qxc n s r hs hr hn,Option.bind_some]
 by_cases h0:qj6 s r=0
 ·simp only [h0,decide_true,Bool.not_true,cond_false,if_true,qmk n r.2 (show 4≤n by omega),Option.bind_some]
  unfold jda
  simp only [qwx n s r.1 hs (by omega),Option.bind_some]
  cases hw:(q5y s r.1).2.2 with
  | false=>rfl
  | true =>
   obtain ⟨σ,q,a,h1,h2,h3,h4,h5,h6⟩:=qz9 hw
   have ht:=qbo r.2
   have ht2:=qbo q.2
   rw [h4]
   have s1:q1d s (0:Int) (a:Int)=some (s.take a):=sub_zero (by omega)
   have s2:q1d s ((a+(q1g q.2).length:Nat):Int) ((s.length:Nat):Int)=some (s.drop (a+(q1g q.2).length)):=by
    rw [sub_le h5 (Nat.le_refl _),List.take_of_length_le (by simp)]
   simp only [Bool.not_true,cond_false,jfv,s1,s2,Option.bind_some,if_true,Int.toNat_natCast]
   rw [q79 (by simp;omega),Option.bind_some,q79 (by simp;omega),Option.bind_some,List.append_assoc]
   rfl
 ·simp only [h0,decide_false,Bool.not_false,cond_true,if_false]
theorem jpl (n:Nat) (s:Yy) (hs:s.length≤1000000):qbd n s [10]=some (Lx.qg8 s):=by
 unfold qbd q37
 rcases List.eq_nil_or_concat s with rfl|⟨m,c,rfl⟩
 ·rfl
 ·rw [List.concat_eq_append,jbl]
  have hl:(m ++ [c]).length=m.length+1:=by simp
  have c1:((([(10:UInt8)].length:Nat):Int)≤(((m ++ [c]).length:Nat):Int)):=by rw [hl];simp;omega
  have w1:IntKind.wrap .i64 ((((m ++ [c]).length:Nat):Int) - (([(10:UInt8)].length:Nat):Int))=((m.length:Nat):Int):=by
   rw [hl];simp only [List.length_cons,List.length_nil];simp at hs;rw [wrap64 (by omega) (by omega)];omega
  have s1:q1d (m ++ [c]) ((m.length:Nat):Int) (((m ++ [c]).length:Nat):Int)=some [c]:=by
   rw [sub_le (by rw [hl];omega) (Nat.le_refl _)];simp
  simp only [c1,decide_true,cond_true,q04,w1,s1,Option.bind_some]
  congr 1
  by_cases h:c=10<;>simp [h]
theorem jvk (n:Nat) (s:Yy) (r:Rq) (hs:s.length≤100000) (hr:r.1.length≤1000) (hn:1000000<n):qyz n s r=some (jph s r):=by
 have ht:=qbo r.2
 unfold qyz jph
 rw [qxc n s r hs hr hn,Option.bind_some]
 by_cases h0:qj6 s r=0
 ·simp only [h0,decide_true,Bool.not_true,cond_false,if_true,jif,qwx n s r.1 hs (by omega),Option.bind_some]
  cases (q5y s r.1).2.2 with
  | true=>rfl
  | false =>
   simp only [cond_false,Bool.false_eq_true,if_false,jpl n s (by omega),Option.bind_some,qmk n r.2 (show 4≤n by omega)]
   cases he:Lx.qg8 s with
   | true =>
    simp only [Bool.not_true,cond_false,if_true]
    rw [q79 (by simp;omega),Option.bind_some,q79 (by simp;omega),Option.bind_some,q79 (by simp;omega),Option.bind_some,q79 (by simp;omega),Option.bind_some,q79 (by simp;omega),Option.bind_some,q79 (by simp;omega),Option.bind_some,jdm]
    simp
   | false =>
    simp only [Bool.not_false,cond_true,Bool.false_eq_true,if_false]
    rw [q79 (by simp;omega),Option.bind_some,q79 (by simp;omega),Option.bind_some,q79 (by simp;omega),Option.bind_some,q79 (by simp;omega),Option.bind_some,q79 (by simp;omega),Option.bind_some,q79 (by simp;omega),Option.bind_some,q79 (by simp;omega),Option.bind_some,jdm]
    simp
 ·simp only [h0,decide_false,Bool.not_false,cond_true,if_false]
theorem jkx (n:Nat) (l:List Rq) (hL:l.length≤9223372036854775807) : ∀ m j:Nat,j≤l.length→l.length - j<m→q8t n m l (j:Int)=some (if (l.drop j).all k32=true then Sum.inr ((l,()),((),())) else Sum.inl ((false,()),((),())))
 | 0,j,_,h=>absurd h (Nat.not_lt_zero _)
 | m+1,j,hj,h=>by
  rw [qle]
  unfold qv7
  by_cases c0:j<l.length
  ·have c0':((j:Nat):Int)<((l.length:Nat):Int):=by omega
   have ih:=jkx n l hL m (j+1) (by omega) (by omega)
   have w1:IntKind.wrap .i64 ((j:Int)+1)=((j+1:Nat):Int):=by rw [wrap64 (by omega) (by omega)];omega
   have g1:=gtI l[j].1 200
   have g2:=gtI l[j].2.2.2.2.1 200
   have g3:=gtI l[j].2.2.2.2.2 200
   rw [show ((200:Nat):Int)=(200:Int) from rfl] at g1 g2 g3
   rw [List.drop_eq_getElem_cons c0,List.all_cons,k32]
   simp only [c0',decide_true,cond_true,q1c c0,Option.bind_some,q04,w1,g1,g2,g3]
   cases decide (l[j].1.length≤200) with
   | false=>rfl
   | true =>
    cases decide (l[j].2.2.2.2.1.length≤200) with
    | false=>rfl
    | true =>
     cases decide (l[j].2.2.2.2.2.length≤200) with
     | false=>rfl
     | true =>
      simp only [Bool.not_true,cond_false,Bool.true_and]
      exact ih
  ·have c0' : ¬ ((j:Nat):Int)<((l.length:Nat):Int):=by omega
   simp only [c0',decide_false,cond_false]
   rw [List.drop_eq_nil_of_le (by omega)]
   rfl
theorem k0z (n:Nat) (l:List Rq) (hL:l.length≤9223372036854775807) (hn:9223372036854775807<n):qqn n l=some (l.all k32&&decide (l.length≤20)):=by
 unfold qqn
 have h:=jkx n l hL n 0 (Nat.zero_le _) (by omega)
 rw [zI,List.drop_zero] at h
 rw [h]
 have g:=leI l.length 20
 rw [show ((20:Nat):Int)=(20:Int) from rfl] at g
 cases l.all k32 with
 | false=>rfl
 | true=>simp only [if_true,Option.bind_some,Sum.elim_inr,g,Bool.true_and]
theorem jy4 {q:Rq} (h:k32 q=true):q.1.length≤200:=by
 unfold k32 at h
 simp only [Bool.and_eq_true,decide_eq_true_eq] at h
 exact h.1
theorem jok (n:Nat) (hn:9223372036854775807<n) (hl:q5z n=some true) (s:Yy) (r:Rq):qg7 n s r=some true:=by
 unfold qg7
 have g1:=gtI s 3000
 rw [show ((3000:Nat):Int)=(3000:Int) from rfl] at g1
 simp only [hl,Option.bind_some,g1,k0z n [r] (by simp) hn]
 by_cases c1:s.length≤3000
 ·rw [decide_eq_true c1,Bool.not_true,cond_false]
  cases hf:(([r].all k32)&&decide ([r].length≤20)) with
  | false=>rfl
  | true =>
   have hp:r.1.length≤200:=jy4 (by simpa using hf)
   have ht:=qbo r.2
   rw [Bool.not_true,cond_false]
   simp only [j2y n s r.1 (by omega) (by omega),jti n s r (by omega) (by omega) (by omega),jvk n s r (by omega) (by omega) (by omega),Option.bind_some]
   by_cases h0:(jhn s r).2=0
   ·rw [decide_eq_true h0,cond_true]
    have hw:(q5y s r.1).2.2=true:=by
     unfold jhn at h0
     split at h0
     ·split at h0
      ·assumption
      ·cases h0
     ·rename_i hj;exact absurd h0 hj
    have hj:qj6 s r=0:=by
     unfold jhn at h0
     split at h0
     ·assumption
     ·rename_i hj;exact absurd h0 hj
    obtain ⟨σ,q,a,h1,h2,h3,h4,h5,h6⟩:=qz9 hw
    have ht2:=qbo q.2
    have es:(jhn s r).1=s.take a++(q1g r.2++s.drop (a+(q1g q.2).length)):=by
     unfold jhn
     rw [if_pos hj,if_pos hw,h4]
     simp only [Int.toNat_natCast]
    generalize hk:(q1g q.2).length=k at *
    generalize hm:(q1g r.2).length=m at *
    have lt:(s.take a).length=a:=by rw [List.length_take];omega
    have ld:(s.drop (a+k)).length=s.length - (a+k):=List.length_drop ..
    have hlen:(jhn s r).1.length=a+m+(s.length - (a+k)):=by rw [es,List.length_append,List.length_append,lt,ld,hm];omega
    rw [h4]
    have w1:IntKind.wrap .i64 ((a:Int)+((s.length:Nat):Int))=((a+s.length:Nat):Int):=by rw [wrap64 (by omega) (by omega)];omega
    have w2:IntKind.wrap .i64 (((a+s.length:Nat):Int) - ((a+k:Nat):Int))=((s.length - k:Nat):Int):=by rw [wrap64 (by omega) (by omega)];omega
    have w3:IntKind.wrap .i64 (((s.length:Nat):Int) - ((a+k:Nat):Int))=((s.length - (a+k):Nat):Int):=by rw [wrap64 (by omega) (by omega)];omega
    have w4:IntKind.wrap .i64 ((((jhn s r).1.length:Nat):Int) - ((s.length - (a+k):Nat):Int))=((a+m:Nat):Int):=by rw [hlen,wrap64 (by omega) (by omega)];omega
    have c8 : ¬ (((jhn s r).1.length:Nat):Int)<((s.length - k:Nat):Int):=by rw [hlen];omega
    have s1:q1d (jhn s r).1 (0:Int) (a:Int)=some (s.take a):=by rw [sub_zero (by omega),es,List.take_left' lt]
    have s2:q1d s (0:Int) (a:Int)=some (s.take a):=sub_zero (by omega)
    have s3:q1d (jhn s r).1 ((a+m:Nat):Int) (((jhn s r).1.length:Nat):Int)=some (s.drop (a+k)):=by
     rw [sub_le (by omega) (Nat.le_refl _),es,← List.append_assoc,List.drop_left' (by rw [List.length_append,lt,hm]),List.take_of_length_le]
     rw [List.length_append,List.length_append,lt,hm];omega
    have s4:q1d s ((a+k:Nat):Int) ((s.length:Nat):Int)=some (s.drop (a+k)):=by rw [sub_le (by omega) (Nat.le_refl _),List.take_of_length_le (by simp)]
    have s5:q1d (jhn s r).1 (a:Int) ((a+m:Nat):Int)=some (q1g r.2):=by
     rw [sub_le (by omega) (by omega),es,List.drop_left' lt,List.take_left' (by omega)]
    simp only [Bool.not_true,cond_false,q04,w1,w2,w3,w4,c8,decide_false,s1,s2,s3,s4,s5,Option.bind_some,decide_true,qn2 n r.2 (show 100≤n by omega),cond_true]
   ·rw [decide_eq_false h0,cond_false]
    by_cases h1:(jph s r).2=0
    ·rw [decide_eq_true h1,Bool.not_true,cond_false]
     have ea : ∃ x,(jph s r).1=s++(x ++ [10])∧x.length≤1000:=by
      unfold jph at h1 ⊢
      split at h1
      ·rename_i hj
       rw [if_pos hj]
       split at h1
       ·cases h1
       ·rename_i hw
        rw [if_neg hw]
        have hfl:(jms r).length≤500:=by rw [jdm];simp;omega
        split
        ·exact ⟨jms r,by simp,by omega⟩
        ·exact ⟨10::jms r,by simp,by simp;omega⟩
      ·rename_i hj;exact absurd h1 hj
     obtain ⟨x,hx,hxl⟩:=ea
     have hlen:(jph s r).1.length=s.length+x.length+1:=by rw [hx];simp;omega
     have c9:((s.length:Nat):Int)<(((jph s r).1.length:Nat):Int):=by omega
     have s1:q1d (jph s r).1 (0:Int) ((s.length:Nat):Int)=some s:=by rw [sub_zero (by omega),hx,List.take_left]
     have w1:IntKind.wrap .i64 ((((jph s r).1.length:Nat):Int) - 1)=((s.length+x.length:Nat):Int):=by rw [hlen,wrap64 (by omega) (by omega)];omega
     have c10:sAt (jph s r).1 ((s.length+x.length:Nat):Int)=some 10:=by
      rw [q1l (by omega)]
      have:(jph s r).1[s.length+x.length]'(by omega)=10:=by
       have e:(jph s r).1[s.length+x.length]? = some 10:=by
        rw [hx,← List.append_assoc,show s.length+x.length=(s++x).length by simp,List.getElem?_concat_length]
       rw [List.getElem?_eq_getElem (by omega)] at e
       exact Option.some.inj e
      rw [this];rfl
     simp only [c9,decide_true,cond_true,s1,Option.bind_some,q04,w1,c10]
    ·rw [decide_eq_false h1];rfl
 ·rw [decide_eq_false c1];rfl
end Go.Proofs.YtapfankgdkdkgaaGreatDoor.AM
namespace Go.Proofs.YtapfankgdkdkgaaGreatDoor.AM
open Go.RowKit
set_option maxRecDepth 100000
abbrev jhh:Nat:=9223372036854775808
theorem k7s:q5z jhh=some true:=by kernel_rfl
end Go.Proofs.YtapfankgdkdkgaaGreatDoor.AM
namespace Go.Proofs.YtapfankgdkdkgaaGreatDoor.AM
open Go.RowKit
set_option maxRecDepth 100000
abbrev RqTy:Ty:=.prod .str Tv
theorem j3k (s:Yy) (r:den RqTy) (_:s.length≤maxLen) (_:jgp RqTy r):qg7 jhh s r=some true:=jok jhh (by decide) k7s s r
end Go.Proofs.YtapfankgdkdkgaaGreatDoor.AM
namespace Go.Proofs.YtapfankgdkdkgaaGreatDoor.AM
open Go.RowKit
theorem jho : "*" ++ "errors.errorString" = "*errors.errorString":=by decide
theorem jue (u:TypeId) (h:Tryz.prog.typeName? 3 u=some "*errors.errorString"):u=276 :=
 typeName_ptr_named (nm := "errors.errorString") (by rw [jho];kernel_rfl) (by kernel_rfl) (by decide) u (by rw [jho];exact h)
theorem k9d:(Rows.laid_internal_strconv_uint64pow10:DataW Unit)=Lib.tabData .u64 Lib.pow10Tab:=by rfl
theorem k7u:Tryz.prog.globalNamed "internal/strconv.uint64pow10" = some ((Tryz.prog.globalNamed "internal/strconv.uint64pow10").getD 0)∧(Tryz.prog.globals[(Tryz.prog.globalNamed "internal/strconv.uint64pow10").getD 0]?).map (·.type)=some 251:=⟨by kernel_rfl,by kernel_rfl⟩
theorem k5k:Tryz.prog.globalNamed "strconv.ErrSyntax" = some (Tryz.laysAtoi_ren.g 15)∧(Tryz.prog.globals[Tryz.laysAtoi_ren.g 15]?).map (·.type)=some 82:=⟨by kernel_rfl,by kernel_rfl⟩
theorem k4f:Tryz.prog.globalNamed "strconv.ErrRange" = some (Tryz.laysAtoi_ren.g 16)∧(Tryz.prog.globals[Tryz.laysAtoi_ren.g 16]?).map (·.type)=some 82:=⟨by kernel_rfl,by kernel_rfl⟩
theorem j9c:Tryz.prog.cellsOf 278=1:=by kernel_rfl
theorem j6m:Tryz.prog.cellsOf 9=1:=by kernel_rfl
theorem hEt:Tryz.prog.globalNamed "errors.errorType" = some 0:=by kernel_rfl
theorem hRt:(Tryz.prog.cutTypes.find? (·.1 == "internal/reflectlite.rtype")).map (·.2)=some 196:=by kernel_rfl
theorem hOne:((List.range 306).filter fun t=>Tryz.prog.rowNamed t [101,114,114,111,114]) = [82]:=by kernel_rfl
theorem hSize:Tryz.prog.types.size=306:=by kernel_rfl
theorem k74 {w:World} (hsh:w.ShapedOpen Tryz.prog) (hLH:laidMetH Tryz.prog [("math/bits.deBruijn32tab",Rows.laid_math_bits_deBruijn32tab),("math/bits.deBruijn64tab",Rows.laid_math_bits_deBruijn64tab),("internal/strconv.uint64pow10",Rows.laid_internal_strconv_uint64pow10),("unicode/utf8.acceptRanges",Rows.laid_unicode_utf8_acceptRanges),("errors.errorType",Rows.laid_errors_errorType),("strconv.ErrRange",Rows.laid_strconv_ErrRange),("strconv.ErrSyntax",Rows.laid_strconv_ErrSyntax),("unicode/utf8.first",Rows.laid_unicode_utf8_first)] w):Inv w:=by
 have h':laidMet Tryz.prog [("math/bits.deBruijn32tab",Rows.laid_math_bits_deBruijn32tab),("math/bits.deBruijn64tab",Rows.laid_math_bits_deBruijn64tab),("internal/strconv.uint64pow10",Rows.laid_internal_strconv_uint64pow10),("unicode/utf8.acceptRanges",Rows.laid_unicode_utf8_acceptRanges),("strconv.ErrRange",Rows.laid_strconv_ErrRange),("strconv.ErrSyntax",Rows.laid_strconv_ErrSyntax),("unicode/utf8.first",Rows.laid_unicode_utf8_first)] w∧handlesMet Tryz.prog [("errors.errorType",Rows.laid_errors_errorType)] w:=hLH
 obtain ⟨name,u,ty,e1,e2,e3,e4,e5⟩:=h'.2 _ (List.mem_singleton.2 rfl)
 have en:name = [101,114,114,111,114]:=(Option.some.inj e1).symm
 subst en
 obtain rfl:=Option.some.inj (hRt.symm.trans e2)
 have hm:ty∈(List.range 306).filter fun t=>Tryz.prog.rowNamed t [101,114,114,111,114]:=List.mem_filter.2 ⟨List.mem_range.2 (by rw [← hSize];exact e3),e4⟩
 rw [hOne] at hm
 obtain rfl:=List.mem_singleton.1 hm
 have hh:typeHandle Tryz.prog 82 = .pointer (some ⟨9,82,none⟩):=by kernel_rfl
 rw [hh] at e5
 have hT:w.cell? ⟨0,0,none⟩=some (.iface 196 (.agg #[.pointer (some ⟨9,82,none⟩)])):=by simpa using World.var?_cell hEt e5 0
 have hL:=h'.1
 obtain ⟨m,hm⟩:=Tryz.laysIndex.s1_3 w hsh
 have h3:=hL.tail.tail
 rw [k9d] at h3
 have h5:=hL.tail.tail.tail.tail
 unfold Rows.laid_strconv_ErrRange at h5
 have h6:=hL.tail.tail.tail.tail.tail
 unfold Rows.laid_strconv_ErrSyntax at h6
 obtain ⟨a0,s0,hv0,-,-,-⟩:=laid_sentinel h5 k4f.1 k4f.2 Tryz.underlying82 jue Tryz.underlying276 Tryz.underlying278 rfl rfl Tryz.underlying9 j9c j6m
 obtain ⟨a1,s1,hv1,-,-,-⟩:=laid_sentinel h6 k5k.1 k5k.2 Tryz.underlying82 jue Tryz.underlying276 Tryz.underlying278 rfl rfl Tryz.underlying9 j9c j6m
 have c0:w.cell? ⟨Tryz.laysAtoi_ren.g 16,0,none⟩=some (.iface 276 (.pointer (some a0))):=by have h0:=World.var?_cell k4f.1 hv0 0;simpa using h0
 have c1:w.cell? ⟨Tryz.laysAtoi_ren.g 15,0,none⟩=some (.iface 276 (.pointer (some a1))):=by have h0:=World.var?_cell k5k.1 hv1 0;simpa using h0
 exact ⟨hT,⟨m,hm⟩,Lib.tabIs_of_head k7u.1 k7u.2 (n:=20) (e:=231) (by kernel_rfl) (by kernel_rfl) (by kernel_rfl) (by kernel_rfl) h3,⟨_,_,c1⟩,⟨_,_,c0⟩⟩
noncomputable def wH (os:Os):World :=
 let w0:=World.holding Tryz.prog os ⟨#[],#[],[]⟩
 {w0 with heap:=w0.heap.modify 0 fun
   | .cells _ t frozen=>.cells #[.iface 196 (.agg #[.pointer (some ⟨9,82,none⟩)])] t frozen
   | o=>o }
noncomputable def laidW (os:Os) (laid:List (String×DataW Unit)):World:=(wH os).layVars Tryz.prog laid
theorem j32 {os:Os} {laid:List (String×DataW Unit)} (args:Array Value) (hf:(wH os).layFits Tryz.prog laid []=true) (hi:(wH os).layIfaces Tryz.prog laid (laidW os laid)=true) :
  laidMet Tryz.prog laid ((laidW os laid).forCall (fun _ _=>0) ⟨#[],args,[]⟩).memory:=by
 have e1:(laid.filter fun x=>(laid.map (·.1)).contains x.1)=laid:=List.filter_eq_self.2 fun x hx=>List.contains_iff_mem.2 (List.mem_map.2 ⟨x,hx,rfl⟩)
 have e2:(laid.filter fun x=>!(laid.map (·.1)).contains x.1) = []:=List.filter_eq_nil_iff.2 fun x hx=>by rw [List.contains_iff_mem.2 (List.mem_map.2 ⟨x,hx,rfl⟩)];simp
 have h:laidMet Tryz.prog laid (laidW os laid):=laidMet_layVars (w0:=wH os) (laid.map (·.1)) [] (by rw [e1];rfl) (by rw [e1];exact hf) (by rw [e1];exact hi) (by rw [e2];exact LaidIn.none)
 exact h.of_heap (by simp [World.memory,World.forCall,Input.heap])
end Go.Proofs.YtapfankgdkdkgaaGreatDoor.AM
