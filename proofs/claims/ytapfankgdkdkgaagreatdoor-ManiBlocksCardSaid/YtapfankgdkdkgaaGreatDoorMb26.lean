
import Derived.Test.YtapfankgdkdkgaaGreatDoorMb25
import Derived.Test.YtapfankgdkdkgaaGreatDoorMb23
import Derived.Test.YtapfankgdkdkgaaGreatDoorMb8
import Derived.Test.YtapfankgdkdkgaaGreatDoorRows
import Derived.Test.YtapfankgdkdkgaaGreatDoorMb9
import Derived.LaidLaws
import Derived.LaidHandle
import Derived.Stop.LaidErr
import Derived.Lib.LaidTab
import Derived.Lay
namespace Go.Proofs.YtapfankgdkdkgaaGreatDoor.AM
open Go.RowKit
set_option linter.unusedVariables false
set_option linter.unusedSimpArgs false
set_option synthInstance.maxSize 100000
set_option synthInstance.maxHeartbeats 0
abbrev topP:List UInt8:=[101,120,47,116,111,112]
abbrev jio:List UInt8:=[109,111,100,117,108,101,32,101,120,47,116,111,112]
abbrev jpv:List UInt8:=[114,101,113,117,105,114,101,32,40]
def qfs (q:Rq):List UInt8:=Lib.join (rqL q) [32]
def qoz (q:Rq):List UInt8:=9::Lib.join [q.1,q2x q.2] [32]
def nlT (L:List (List UInt8)):List UInt8:=(L.map (· ++ [10])).flatten
theorem qd1 (t:List UInt8) (L:List (List UInt8)):nlT (t::L)=t++(10::nlT L):=by simp [nlT]
theorem jw4 (L L':List (List UInt8)):nlT (L++L')=nlT L++nlT L':=by simp [nlT]
theorem jmc (q:Rq):qfs q=q8b++(32::(q.1++32::q2x q.2)):=by unfold qfs rqL;rw [Lib.join_cons];simp [Lib.joinTail]
theorem jue (q:Rq):qoz q=9::(q.1++32::q2x q.2):=by unfold qoz;rw [Lib.join_cons];simp [Lib.joinTail]
theorem j64:plain q8b:=⟨by decide,by decide,by decide⟩
theorem qlx {q:Rq} (h:q3p q.1 q.2=true):plain q.1∧plain (q2x q.2):=⟨(j01 (qes h).1).1,(qpf (qes h).2).1⟩
theorem jp4 {q:Rq} (h:q3p q.1 q.2=true):Lib.join ([q.1,q2x q.2].map fun t=>if j7f t then t else [120]) [32] = [120,32,120]:=by
 simp [(j01 (qes h).1).2,(qpf (qes h).2).2,jja]
theorem jiq {q:Rq} (h:q3p q.1 q.2=true):tx (q15 (qfs q)) = [q8b,q.1,q2x q.2]:=jin _ (fun w hw=>by
 simp only [rqL,List.mem_cons,List.not_mem_nil,or_false] at hw
 rcases hw with rfl|rfl|rfl
 ·exact j64
 ·exact (qlx h).1
 ·exact (qlx h).2)
theorem j2a {q:Rq} (h:q3p q.1 q.2=true):tx (q15 (qoz q)) = [q.1,q2x q.2]:=jl0 _ (fun w hw=>by
 simp only [List.mem_cons,List.not_mem_nil,or_false] at hw
 rcases hw with rfl|rfl
 ·exact (qlx h).1
 ·exact (qlx h).2)
theorem jth {q:Rq} (h:q3p q.1 q.2=true) : ∀ c∈qfs q,Lx.okc c=true:=jfk _ (fun w hw=>by
 simp only [rqL,List.mem_cons,List.not_mem_nil,or_false] at hw
 rcases hw with rfl|rfl|rfl
 ·exact qb4 j64
 ·exact qb4 (qlx h).1
 ·exact qb4 (qlx h).2)
theorem jwt {q:Rq} (h:q3p q.1 q.2=true) : ∀ c∈qoz q,Lx.okc c=true:=by
 intro c hc
 rcases List.mem_cons.1 hc with rfl|hc
 ·decide
 ·exact jfk _ (fun w hw=>by
   simp only [List.mem_cons,List.not_mem_nil,or_false] at hw
   rcases hw with rfl|rfl
   ·exact qb4 (qlx h).1
   ·exact qb4 (qlx h).2) c hc
def RelB (l:List Rq) (r0:List Rq):(Int×Int)⊕MS→(Int×Int)⊕MS→Prop
 | .inl _,.inl _=>True
 | .inr σ,.inr τ=>Sm σ τ∧σ.bk = []∧τ.bk=q8b∧σ.rq=r0++l
 | _,_=>False
theorem jff : ∀ (l:List Rq) (i i' st st':Int) (σ τ:MS),(∀ q∈l,q3p q.1 q.2=true)→Sm σ τ→σ.bk = []→τ.bk=q8b→RelB l σ.rq (q1a (l.map qfs) i st σ) (q1a (l.map qoz) i' st' τ)
 | [],i,i',st,st',σ,τ,_,h,h1,h2=>⟨h,h1,h2,by simp⟩
 | q::l,i,i',st,st',σ,τ,hq,h,h1,h2=>by
  have hf:=hq q (List.mem_cons_self ..)
  obtain ⟨ws1,t1,e1⟩:=jel (σ:=σ) (st:=st) (jiq hf) h1 (by rw [jp4 hf];decide)
  have e2:=jwc (σ:=τ) (st:=st') (j2a hf) (by simp) (by rw [h2];decide) (by rw [jp4 hf];decide)
  rw [h2] at e2
  have hs:=qyd h h1 h2 q8b st st' (t1.trans (j2a hf).symm)
  obtain ⟨x,_,e3⟩:=jsm (σ:=σ) (st:=st) t1 hf
  rw [List.map_cons,List.map_cons,q1a,q1a,e1,e2]
  cases g1:q6d σ st q8b ws1 with
  | inl e =>
   rw [g1] at hs
   cases g2:q6d τ st' q8b (q15 (qoz q)) with
   | inl e'=>trivial
   | inr τ1=>rw [g2] at hs;exact absurd hs id
  | inr σ1 =>
   rw [g1] at hs
   cases g2:q6d τ st' q8b (q15 (qoz q)) with
   | inl e'=>rw [g2] at hs;exact absurd hs id
   | inr τ1 =>
    rw [g2] at hs
    have hr:σ1.rq=σ.rq ++ [q]:=by
     rw [e3] at g1
     rw [(q8v g1).2]
    have ih:=jff l (i+1) (i'+1) (st+((qfs q).length:Nat)+1) (st'+((qoz q).length:Nat)+1) σ1 τ1 (fun y hy=>hq y (List.mem_cons_of_mem _ hy)) hs.1 hs.2.1 hs.2.2
    rw [hr] at ih
    show RelB (q::l) σ.rq (q1a (l.map qfs) (i+1) (st+((qfs q).length:Nat)+1) σ1) (q1a (l.map qoz) (i'+1) (st'+((qoz q).length:Nat)+1) τ1)
    cases g3:q1a (l.map qfs) (i+1) (st+((qfs q).length:Nat)+1) σ1<;>cases g4:q1a (l.map qoz) (i'+1) (st'+((qoz q).length:Nat)+1) τ1<;>rw [g3,g4] at ih
    ·trivial
    ·exact ih
    ·exact ih
    ·exact ⟨ih.1,ih.2.1,ih.2.2.1,by rw [ih.2.2.2];simp⟩
theorem jse : ∃ σm,q58 ms0 0 (q15 jio) = .inr σm∧σm.bk = []∧σm.rq = []∧σm.mo ≠ []:=by
 have hw:tx (q15 jio) = [qnh,topP]:=by decide +kernel
 obtain ⟨ws,h1,h2⟩:=jel (σ:=ms0) (st:=0) hw rfl (by decide)
 obtain ⟨x,_,h3⟩:=jr6 (σ:=ms0) (st:=0) h1 (by decide +kernel)
 rw [h2,h3,jtn rfl]
 exact ⟨_,rfl,rfl,rfl,by simp⟩
theorem jtb {σ:MS} {st:Int} (h:σ.bk = []):q58 σ st (q15 jpv) = .inr { σ with bk:=q8b }:=by
 have hw:q15 jpv = [(q8b,0),([40],8)]:=by decide +kernel
 rw [hw]
 unfold q58
 simp only [h,if_true]
 rw [if_pos ⟨by decide,by decide⟩]
theorem jt1 {σ:MS} {st:Int} (h:σ.bk ≠ []):q58 σ st (q15 [41]) = .inr { σ with bk:=[] }:=by
 have hw:q15 [41] = [([41],0)]:=by decide +kernel
 rw [hw]
 unfold q58
 simp only [if_neg h]
 rw [if_pos (by decide)]
def qb5 (l:List Rq):List (List UInt8):=jio::l.map qfs
def qvs (l:List Rq):List (List UInt8):=jio::jpv::(l.map qoz ++ [[41]])
theorem j6n {l:List Rq} (h : ∀ q∈l,q3p q.1 q.2=true) : ∀ t∈qb5 l,∀ c∈t,Lx.okc c=true:=by
 intro t ht
 rcases List.mem_cons.1 ht with rfl|ht
 ·decide
 ·obtain ⟨q,hq,rfl⟩:=List.mem_map.1 ht
  exact jth (h q hq)
theorem j0x {l:List Rq} (h : ∀ q∈l,q3p q.1 q.2=true) : ∀ t∈qvs l,∀ c∈t,Lx.okc c=true:=by
 intro t ht
 rcases List.mem_cons.1 ht with rfl|ht
 ·decide
 ·rcases List.mem_cons.1 ht with rfl|ht
  ·decide
  ·rcases List.mem_append.1 ht with ht|ht
   ·obtain ⟨q,hq,rfl⟩:=List.mem_map.1 ht
    exact jwt (h q hq)
   ·rw [List.mem_singleton.1 ht];decide
theorem jg9 {l:List Rq} (h : ∀ q∈l,q3p q.1 q.2=true):((qcf (nlT (qb5 l))).2.2=0∧∃ σ τ,IsM (nlT (qb5 l)) σ∧IsM (nlT (qvs l)) τ∧σ.md=τ.md∧σ.rq=l)∨((qcf (nlT (qb5 l))).2.2≠0∧(qcf (nlT (qvs l))).2.2≠0):=by
 have hF:Lx.q0p (nlT (qb5 l))=qb5 l:=qy1 _ (j6n h)
 have hB:Lx.q0p (nlT (qvs l))=qvs l:=qy1 _ (j0x h)
 obtain ⟨σm,m1,m2,m3,m4⟩:=jse
 have eF:q1a (qb5 l) 0 0 ms0=q1a (l.map qfs) (0+1) (0+((jio.length:Nat):Int)+1) σm:=by
  unfold qb5;rw [q1a,m1]
 have eB:q1a (qvs l) 0 0 ms0=match q1a (l.map qoz) (0+1+1) (0+((jio.length:Nat):Int)+1+((jpv.length:Nat):Int)+1) { σm with bk:=q8b } with
   | .inl e=>.inl e
   | .inr σ'=>q1a [[41]] (0+1+1+(((l.map qoz).length:Nat):Int)) (0+((jio.length:Nat):Int)+1+((jpv.length:Nat):Int)+1+((tot (l.map qoz):Nat):Int)) σ':=by
  unfold qvs;rw [q1a,m1]
  show q1a (jpv::_) _ _ σm=_
  rw [q1a,jtb m2]
  show q1a (l.map qoz ++ [[41]]) _ _ _=_
  rw [jct]
  cases q1a (l.map qoz) (0+1+1) (0+((jio.length:Nat):Int)+1+((jpv.length:Nat):Int)+1) { σm with bk:=q8b }<;>rfl
 have hR:=jff l (0+1) (0+1+1) (0+((jio.length:Nat):Int)+1) (0+((jio.length:Nat):Int)+1+((jpv.length:Nat):Int)+1) σm { σm with bk:=q8b } h ⟨rfl,fun _=>rfl⟩ m2 rfl
 have gm:GoodM σm:=qt2 k0s m1
 cases g1:q1a (l.map qfs) (0+1) (0+((jio.length:Nat):Int)+1) σm with
 | inl e =>
  rw [g1] at hR
  cases g2:q1a (l.map qoz) (0+1+1) (0+((jio.length:Nat):Int)+1+((jpv.length:Nat):Int)+1) { σm with bk:=q8b } with
  | inr τ=>rw [g2] at hR;exact absurd hR id
  | inl e' =>
   refine .inr ⟨fun h0=>?_,fun h0=>?_⟩
   ·obtain ⟨σ,hσ⟩:=jeu h0
    have:=hσ.rd
    rw [hF,eF,g1] at this
    cases this
   ·obtain ⟨σ,hσ⟩:=jeu h0
    have:=hσ.rd
    rw [hB,eB,g2] at this
    cases this
 | inr σ =>
  rw [g1] at hR
  cases g2:q1a (l.map qoz) (0+1+1) (0+((jio.length:Nat):Int)+1+((jpv.length:Nat):Int)+1) { σm with bk:=q8b } with
  | inl e'=>rw [g2] at hR;exact absurd hR id
  | inr τ =>
   rw [g2] at hR
   obtain ⟨r1,r2,r3,r4⟩:=hR
   rw [m3,List.nil_append] at r4
   have hmo:σ.mo ≠ []:=by rw [(j67 _ _ _ _ _ gm g1).1 m4];exact m4
   have i1:IsM (nlT (qb5 l)) σ:=⟨by rw [hF];exact j6n h,by rw [hF,eF,g1],r2,hmo⟩
   have i2:IsM (nlT (qvs l)) { τ with bk:=[] }:=⟨by rw [hB];exact j0x h,by
    rw [hB,eB,g2]
    show q1a [[41]] _ _ τ=_
    rw [q1a,jt1 (by rw [r3];decide)];rfl,rfl,by show τ.mo ≠ [];rw [← r1.mo];exact hmo⟩
   exact .inl ⟨by rw [qo1 i1],σ,_,i1,i2,r1.1,r4⟩
theorem qbx (n:Nat) (hn:1000000<n) (hl:q3u n=some true) (l:List Rq) (hL:l.length≤20) (hf : ∀ q∈l,q.1.length≤200) : ∀ (m j:Nat) (B F:List UInt8),j≤l.length→l.length - j<m→B.length≤1000+400*j→F.length≤1000+400*j →
  q3y n m l B F (j:Int)=some (if (l.drop j).all (fun q=>q3p q.1 q.2)=true then Sum.inr ((l,(B++nlT ((l.drop j).map qoz),(F++nlT ((l.drop j).map qfs),()))),((),())) else Sum.inl ((true,()),((),())))
 | 0,j,_,_,_,h,_,_=>absurd h (Nat.not_lt_zero _)
 | m+1,j,B,F,hj,h,hB,hF=>by
  rw [qe3]
  unfold qba
  by_cases c0:j<l.length
  ·have c0':((j:Nat):Int)<((l.length:Nat):Int):=by omega
   have hq:=hf l[j] (List.getElem_mem c0)
   have ht:=qzy l[j].2
   rw [List.drop_eq_getElem_cons c0,List.all_cons]
   simp only [c0',decide_true,cond_true,q0x c0,Option.bind_some,jbo n l[j].1 l[j].2 (show _≤1000 by omega) (show 2000≤n by omega),jil n l[j].2 (show 100≤n by omega),hl]
   cases q3p l[j].1 l[j].2 with
   | false=>rfl
   | true =>
    simp only [Bool.not_true,cond_false,Bool.true_and]
    rw [qbi (s:=B) (by simp;omega),Option.bind_some,qbi (by simp;omega),Option.bind_some,qbi (by simp;omega),Option.bind_some,qbi (by simp;omega),Option.bind_some,qbi (by simp;omega),Option.bind_some,
     qbi (s:=F) (by simp;omega),Option.bind_some,qbi (by simp;omega),Option.bind_some,qbi (by simp;omega),Option.bind_some,qbi (by simp;omega),Option.bind_some,qbi (by simp;omega),Option.bind_some]
    simp only [q05,q0a (show j<4611686018427387904 by omega)]
    rw [qbx n hn hl l hL hf m (j+1) _ _ (by omega) (by omega) (by simp;omega) (by simp;omega)]
    rw [List.map_cons,List.map_cons,qd1,qd1,jue,jmc]
    simp only [List.append_assoc,List.cons_append,List.nil_append]
  ·have c0' : ¬ ((j:Nat):Int)<((l.length:Nat):Int):=by omega
   simp only [c0',decide_false,cond_false]
   rw [List.drop_eq_nil_of_le (by omega)]
   simp [nlT]
theorem jah : ∀ (L:List (List UInt8)) (k:Nat),(∀ t∈L,t.length≤k)→(nlT L).length≤L.length*(k+1)
 | [],k,_=>by simp [nlT]
 | t::L,k,h=>by
  have ih:=jah L k (fun x hx=>h x (List.mem_cons_of_mem _ hx))
  have:=h t (List.mem_cons_self ..)
  rw [qd1,List.length_append,List.length_cons,List.length_cons,Nat.succ_mul]
  omega
theorem j8u (n:Nat) (hn:9223372036854775807<n) (hl:q3u n=some true) (l:List Rq):qaa n l=some true:=by
 unfold qaa
 have g1:=gtI l 20
 rw [show ((20:Nat):Int)=(20:Int) from rfl] at g1
 simp only [hl,Option.bind_some,g1]
 by_cases c1:l.length≤20
 ·rw [decide_eq_true c1,Bool.not_true,cond_false]
  rw [qzc n ([],([],(l,([],([],[]))))) (by simp) (by simp) (fun x hx=>by cases hx) (by omega),Option.bind_some]
  cases hsm:jec ([],([],(l,([],([],[]))))) with
  | false=>rfl
  | true =>
   have hq : ∀ q∈l,q.1.length≤200:=by
    intro q hq
    unfold jec at hsm
    simp only [Bool.and_eq_true] at hsm
    have:=List.all_eq_true.1 hsm.2.2.2.2.2.1 q hq
    unfold j6m at this
    simp only [Bool.and_eq_true,decide_eq_true_eq] at this
    exact this.1
   rw [Bool.not_true,cond_false]
   have hlp:=qbx n (by omega) hl l c1 hq n 0 [109,111,100,117,108,101,32,101,120,47,116,111,112,10,114,101,113,117,105,114,101,32,40,10] [109,111,100,117,108,101,32,101,120,47,116,111,112,10] (Nat.zero_le _) (by omega) (by simp) (by simp)
   rw [zI,List.drop_zero] at hlp
   rw [hlp,Option.bind_some]
   by_cases hf:l.all (fun q=>q3p q.1 q.2)=true
   ·rw [if_pos hf]
    have hf' : ∀ q∈l,q3p q.1 q.2=true:=fun q hq=>List.all_eq_true.1 hf q hq
    have eF : [109,111,100,117,108,101,32,101,120,47,116,111,112,10]++nlT (l.map qfs)=nlT (qb5 l):=by unfold qb5;rw [qd1];rfl
    have eB:([109,111,100,117,108,101,32,101,120,47,116,111,112,10,114,101,113,117,105,114,101,32,40,10]++nlT (l.map qoz)) ++ [41,10]=nlT (qvs l):=by unfold qvs;rw [qd1,qd1,jw4];simp [nlT]
    have lF:(nlT (qb5 l)).length≤10000:=by
     have:=jah (qb5 l) 320 (fun t ht=>by
      rcases List.mem_cons.1 ht with rfl|ht
      ·decide
      ·obtain ⟨q,hq',rfl⟩:=List.mem_map.1 ht
       have:=hq q hq'
       have:=qzy q.2
       rw [jmc];simp;omega)
     have h2:(qb5 l).length≤21:=by simp [qb5];omega
     have:=Nat.mul_le_mul_right 321 h2
     omega
    have lB:(nlT (qvs l)).length≤10000:=by
     have:=jah (qvs l) 320 (fun t ht=>by
      rcases List.mem_cons.1 ht with rfl|ht
      ·decide
      ·rcases List.mem_cons.1 ht with rfl|ht
       ·decide
       ·rcases List.mem_append.1 ht with ht|ht
        ·obtain ⟨q,hq',rfl⟩:=List.mem_map.1 ht
         have:=hq q hq'
         have:=qzy q.2
         rw [jue];simp;omega
        ·rw [List.mem_singleton.1 ht];decide)
     have h2:(qvs l).length≤23:=by simp [qvs];omega
     have:=Nat.mul_le_mul_right 321 h2
     omega
    have hcat:q6q ([109,111,100,117,108,101,32,101,120,47,116,111,112,10,114,101,113,117,105,114,101,32,40,10]++nlT (l.map qoz)) [41,10]=some (nlT (qvs l)):=by
     have:=eB
     rw [qbi (by have:=congrArg List.length eB;rw [List.length_append] at this;omega),eB]
    simp only [Sum.elim_inr,eF,hcat,Option.bind_some,qrm n (nlT (qb5 l)) (by omega) (by omega),qrm n (nlT (qvs l)) (by omega) (by omega)]
    rcases jg9 hf' with ⟨h0,σ,τ,i1,i2,e1,e2⟩|⟨h1,h2⟩
    ·have k1:ML 1000000 σ.md:=by
      have:=(jrh (nlT (qb5 l))).mono (show _≤1000000 by omega)
      rw [qo1 i1] at this;exact this
     have k2:ML 1000000 τ.md:=by rw [← e1];exact k1
     have hB:(Lx.q0p (nlT (qvs l))).length=l.length+3:=by
      rw [show Lx.q0p (nlT (qvs l))=qvs l from qy1 _ (j0x hf')];simp [qvs]
     have ew:IntKind.wrap .i64 (((l.length:Nat):Int)+3)=((l.length+3:Nat):Int):=by rw [wrap64 (by omega) (by omega)];omega
     have k3:σ.md.2.2.1=l:=e2
     rw [qo1 i1,qo1 i2]
     simp only [decide_true,Bool.not_true,cond_false,cond_true,q05,ew,hB,qlm n σ.md k1 (by omega),qlm n τ.md k2 (by omega),Option.bind_some,j47 n σ.md τ.md k1 (by omega),decide_eq_true e1]
     rw [k3,qbz n l l (by omega) (by omega),Option.bind_some,decide_eq_true rfl,cond_true]
    ·rw [decide_eq_false h1,decide_eq_false h2];rfl
   ·rw [if_neg hf];rfl
 ·rw [decide_eq_false c1];rfl
end Go.Proofs.YtapfankgdkdkgaaGreatDoor.AM
namespace Go.Proofs.YtapfankgdkdkgaaGreatDoor.AM
open Go.RowKit
set_option linter.unusedVariables false
set_option linter.unusedSimpArgs false
set_option synthInstance.maxSize 100000
set_option synthInstance.maxHeartbeats 0
end Go.Proofs.YtapfankgdkdkgaaGreatDoor.AM
namespace Go.Proofs.YtapfankgdkdkgaaGreatDoor.AM
open Go.RowKit
set_option maxRecDepth 100000
abbrev jdy:Nat:=9223372036854775808
theorem k0z:q3u jdy=some true:=by kernel_rfl
end Go.Proofs.YtapfankgdkdkgaaGreatDoor.AM
namespace Go.Proofs.YtapfankgdkdkgaaGreatDoor.AM
open Go.RowKit
set_option linter.unusedVariables false
set_option maxRecDepth 100000
abbrev jzk:Ty:=.lst (.prod .str (.prod (.int .i64) (.prod (.int .i64) (.prod (.int .i64) (.prod .str .str)))))
theorem quv (l:den jzk) (_:jaw jzk l):qaa jdy l=some true:=j8u jdy (by decide) k0z l
end Go.Proofs.YtapfankgdkdkgaaGreatDoor.AM
namespace Go.Proofs.YtapfankgdkdkgaaGreatDoor.AM
open Go.RowKit
set_option linter.unusedVariables false
set_option linter.unusedSimpArgs false
theorem jcy : "*" ++ "errors.errorString" = "*errors.errorString":=by decide
theorem job (u:TypeId) (h:Tryz.prog.typeName? 3 u=some "*errors.errorString"):u=276 :=
 typeName_ptr_named (nm := "errors.errorString") (by rw [jcy];kernel_rfl) (by kernel_rfl) (by decide) u (by rw [jcy];exact h)
theorem k1a:(Rows.laid_internal_strconv_uint64pow10:DataW Unit)=Lib.tabData .u64 Lib.pow10Tab:=by rfl
theorem k1s:Tryz.prog.globalNamed "internal/strconv.uint64pow10" = some ((Tryz.prog.globalNamed "internal/strconv.uint64pow10").getD 0)∧(Tryz.prog.globals[(Tryz.prog.globalNamed "internal/strconv.uint64pow10").getD 0]?).map (·.type)=some 251:=⟨by kernel_rfl,by kernel_rfl⟩
theorem jxa:Tryz.prog.globalNamed "strconv.ErrSyntax" = some (Tryz.laysAtoi_ren.g 15)∧(Tryz.prog.globals[Tryz.laysAtoi_ren.g 15]?).map (·.type)=some 82:=⟨by kernel_rfl,by kernel_rfl⟩
theorem jxr:Tryz.prog.globalNamed "strconv.ErrRange" = some (Tryz.laysAtoi_ren.g 16)∧(Tryz.prog.globals[Tryz.laysAtoi_ren.g 16]?).map (·.type)=some 82:=⟨by kernel_rfl,by kernel_rfl⟩
theorem j26:Tryz.prog.cellsOf 278=1:=by kernel_rfl
theorem j5o:Tryz.prog.cellsOf 9=1:=by kernel_rfl
theorem hEt:Tryz.prog.globalNamed "errors.errorType" = some 0:=by kernel_rfl
theorem hRt:(Tryz.prog.cutTypes.find? (·.1 == "internal/reflectlite.rtype")).map (·.2)=some 196:=by kernel_rfl
theorem hOne:((List.range 306).filter fun t=>Tryz.prog.rowNamed t [101,114,114,111,114]) = [82]:=by kernel_rfl
theorem hSize:Tryz.prog.types.size=306:=by kernel_rfl
theorem k1r {w:World} (hsh:w.ShapedOpen Tryz.prog) (hLH:laidMetH Tryz.prog [("math/bits.deBruijn32tab",Rows.laid_math_bits_deBruijn32tab),("math/bits.deBruijn64tab",Rows.laid_math_bits_deBruijn64tab),("internal/strconv.uint64pow10",Rows.laid_internal_strconv_uint64pow10),("unicode/utf8.acceptRanges",Rows.laid_unicode_utf8_acceptRanges),("errors.errorType",Rows.laid_errors_errorType),("strconv.ErrRange",Rows.laid_strconv_ErrRange),("strconv.ErrSyntax",Rows.laid_strconv_ErrSyntax),("unicode/utf8.first",Rows.laid_unicode_utf8_first)] w):Inv w:=by
 have h':laidMet Tryz.prog [("math/bits.deBruijn32tab",Rows.laid_math_bits_deBruijn32tab),("math/bits.deBruijn64tab",Rows.laid_math_bits_deBruijn64tab),("internal/strconv.uint64pow10",Rows.laid_internal_strconv_uint64pow10),("unicode/utf8.acceptRanges",Rows.laid_unicode_utf8_acceptRanges),("strconv.ErrRange",Rows.laid_strconv_ErrRange),("strconv.ErrSyntax",Rows.laid_strconv_ErrSyntax),("unicode/utf8.first",Rows.laid_unicode_utf8_first)] w∧handlesMet Tryz.prog [("errors.errorType",Rows.laid_errors_errorType)] w:=hLH
 obtain ⟨name,u,ty,e1,e2,e3,e4,e5⟩:=h'.2 _ (List.mem_singleton.2 rfl)
 have en:name = [101,114,114,111,114]:=(Option.some.inj e1).symm
 subst en
 obtain rfl:=Option.some.inj (hRt.symm.trans e2)
 have hm:ty∈(List.range 306).filter fun t=>Tryz.prog.rowNamed t [101,114,114,111,114]:=List.mem_filter.2 ⟨List.mem_range.2 (by rw [← hSize];exact e3),e4⟩
 rw [hOne] at hm
 obtain rfl:=List.mem_singleton.1 hm
 have hh:typeHandle Tryz.prog 82 = .pointer (some ⟨9,82,none⟩):=by kernel_rfl
 rw [hh] at e5
 have hT:w.cell? ⟨0,0,none⟩=some (.iface 196 (.agg #[.pointer (some ⟨9,82,none⟩)])):=by simpa using World.var?_cell hEt e5 0
 have hL:=h'.1
 obtain ⟨m,hm⟩:=Tryz.laysIndex.s1_3 w hsh
 have h3:=hL.tail.tail
 rw [k1a] at h3
 have h5:=hL.tail.tail.tail.tail
 unfold Rows.laid_strconv_ErrRange at h5
 have h6:=hL.tail.tail.tail.tail.tail
 unfold Rows.laid_strconv_ErrSyntax at h6
 obtain ⟨a0,s0,hv0,-,-,-⟩:=laid_sentinel h5 jxr.1 jxr.2 Tryz.underlying82 job Tryz.underlying276 Tryz.underlying278 rfl rfl Tryz.underlying9 j26 j5o
 obtain ⟨a1,s1,hv1,-,-,-⟩:=laid_sentinel h6 jxa.1 jxa.2 Tryz.underlying82 job Tryz.underlying276 Tryz.underlying278 rfl rfl Tryz.underlying9 j26 j5o
 have c0:w.cell? ⟨Tryz.laysAtoi_ren.g 16,0,none⟩=some (.iface 276 (.pointer (some a0))):=by have h0:=World.var?_cell jxr.1 hv0 0;simpa using h0
 have c1:w.cell? ⟨Tryz.laysAtoi_ren.g 15,0,none⟩=some (.iface 276 (.pointer (some a1))):=by have h0:=World.var?_cell jxa.1 hv1 0;simpa using h0
 exact ⟨hT,⟨m,hm⟩,Lib.tabIs_of_head k1s.1 k1s.2 (n:=20) (e:=231) (by kernel_rfl) (by kernel_rfl) (by kernel_rfl) (by kernel_rfl) h3,⟨_,_,c1⟩,⟨_,_,c0⟩⟩
noncomputable def wH (os:Os):World :=
 let w0:=World.holding Tryz.prog os ⟨#[],#[],[]⟩
 {w0 with heap:=w0.heap.modify 0 fun
   | .cells _ t frozen=>.cells #[.iface 196 (.agg #[.pointer (some ⟨9,82,none⟩)])] t frozen
   | o=>o }
noncomputable def laidW (os:Os) (laid:List (String×DataW Unit)):World:=(wH os).layVars Tryz.prog laid
theorem j14 {os:Os} {laid:List (String×DataW Unit)} (args:Array Value) (hf:(wH os).layFits Tryz.prog laid []=true) (hi:(wH os).layIfaces Tryz.prog laid (laidW os laid)=true) :
  laidMet Tryz.prog laid ((laidW os laid).forCall (fun _ _=>0) ⟨#[],args,[]⟩).memory:=by
 have e1:(laid.filter fun x=>(laid.map (·.1)).contains x.1)=laid:=List.filter_eq_self.2 fun x hx=>List.contains_iff_mem.2 (List.mem_map.2 ⟨x,hx,rfl⟩)
 have e2:(laid.filter fun x=>!(laid.map (·.1)).contains x.1) = []:=List.filter_eq_nil_iff.2 fun x hx=>by rw [List.contains_iff_mem.2 (List.mem_map.2 ⟨x,hx,rfl⟩)];simp
 have h:laidMet Tryz.prog laid (laidW os laid):=laidMet_layVars (w0:=wH os) (laid.map (·.1)) [] (by rw [e1];rfl) (by rw [e1];exact hf) (by rw [e1];exact hi) (by rw [e2];exact LaidIn.none)
 exact h.of_heap (by simp [World.memory,World.forCall,Input.heap])
end Go.Proofs.YtapfankgdkdkgaaGreatDoor.AM
