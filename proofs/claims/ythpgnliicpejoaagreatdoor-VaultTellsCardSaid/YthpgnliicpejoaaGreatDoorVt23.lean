
import Derived.Test.YthpgnliicpejoaaGreatDoorVt22
import Derived.Test.YthpgnliicpejoaaGreatDoorVt9
import Derived.Test.YthpgnliicpejoaaGreatDoorVt16
import Derived.Lib.Bytealg
import GoSem.Op.String
import Derived.Lib.ItoaNum
import Derived.Lib.AtoiAll
import Derived.Lib.SlTrimSet
import Derived.Test.YthpgnliicpejoaaGreatDoorVt20
namespace Go.Proofs
open Go.RowKit
set_option linter.unusedVariables false
set_option linter.unusedSimpArgs false
namespace YthpgnliicpejoaaGreatDoor.AM
theorem jqn {a b:ByteArray} : unB a=unB b↔a=b:=⟨fun h=>by rw [<-qbq a,<-qbq b,h],fun h=>by rw [h]⟩
theorem qeq (n:Nat) (k g q:Int) (s:List UInt8) (hs:s.length<=100000):qco n k g q s=some (if RM.may k g q (s.length:Int) (SM.q1d 1 s) then (unB (RM.q3i k g q (s.length:Int) (SM.q1d 1 s)),true) else ([],false)):=by
 have hM:=max_eq
 unfold qco q4o
 rw [if_pos (by omega),Option.bind_some]
 by_cases c:RM.may k g q (s.length:Int) (SM.q1d 1 s)
 ·have hb:=SM.qtd 1 s
  simp only [c,decide_true,Bool.not_true,cond_false,if_true]
  unfold qg0
  rw [if_pos c]
  unfold q6u
  rw [if_pos (show qot (SM.q1d 1 s) by unfold qot;omega),Option.bind_some,decide_eq_true c]
 ·simp only [c,decide_false,Bool.not_false,cond_true,if_false]
theorem qe6:SM.q1d 1 []=1:=by decide
theorem j5s {D:DM.Dk} {f z:Nat} (h1:f+z<=512) (h2:2<=z) (h3:f+z<=D.secs.length) (hm:DM.q2y D):jhq D (f:Int) (z:Int):=⟨⟨by omega,by omega,by omega⟩,hm,by omega⟩
def j65 (B:BL) (f z:Nat):Int×(List (List UInt8)×Int):=(qk4 B f,((j8k B f z).1.map unB,((j8k B f z).2:Int)))
theorem qy0 (n:Nat) (hn:600<=n) (d:DkT) (hd:smD d) (f z:Nat) (h:jhq (q0x d) (f:Int) (z:Int)) :
  qmj n d ((f:Int),(z:Int))=some (if qut (flat (q0x d)) f then (j65 (flat (q0x d)) f z,0) else ((0,([],0)),5)):=by
 obtain ⟨⟨c1,c2,c3⟩,hm,hl⟩:=id h
 have hB:f+z<=(flat (q0x d)).length:=by rw [qdx];omega
 unfold qmj
 rw [jk5 n d hd f z (by omega) (by omega),if_pos h,Option.bind_some]
 generalize flat (q0x d)=B at hB
 have hf:f<B.length:=by omega
 have hg:gB B f=B[f]:=jqd hf
 simp only [Bool.not_true,cond_false]
 rw [q26 (by rw [List.length_map];exact hf),Option.bind_some,List.getElem_map,qtz,Option.bind_some]
 have hgen:=qt3 B f
 have hmay:=qjy hgen
 have eg:(q3w B[f]).2.1=qk4 B f:=by unfold qk4;rw [hg]
 show Option.bind (qco n 1 (q3w B[f]).2.1 0 []) _=_
 rw [eg,qeq n 1 (qk4 B f) 0 [] (by simp),Option.bind_some]
 have e0:(([]:List UInt8).length:Int)=0:=rfl
 rw [e0,qe6,if_pos hmay]
 simp only [Bool.not_true,cond_false]
 by_cases c:qut B f
 ·have c':RM.q3i 1 (qk4 B f) 0 0 1=B[f]:=by rw [<-hg];exact c.symm
  rw [if_pos c,c',decide_eq_true rfl,Bool.not_true,cond_false]
  have w1:IntKind.wrap .i64 ((f:Int)+1)=((f+1:Nat):Int):=q0w (by omega)
  rw [w1,q0j]
  have hloop:=jc3 n B f z (qk4 B f) (by omega) hB n (f+1) [] (by omega) (by omega) (by simp)
  rw [List.map_nil] at hloop
  rw [hloop,Option.bind_some]
  have e2:q3h B (f+z) (qk4 B f) (f+z - (f+1)) (f+1) []=j8k B f z:=by
   unfold j8k
   rw [show f+z - (f+1)=z - 1 from by omega]
  rw [e2]
  rfl
 ·have c' : ¬ unB (RM.q3i 1 (qk4 B f) 0 0 1)=unB B[f]:=fun h=>c (by unfold qut;rw [hg];exact (jqn.1 h).symm)
  rw [if_neg c,decide_eq_false c',Bool.not_false,cond_true]
theorem qfk (n:Nat) (f z g:Int) (h1 : -9223372036854775808<=f) (h2:f<=9223372036854775807):qau n (f,z) g=some (if chk f z/\0<=g/\g<=1073741824 then ([(false,(f,unB (RM.q3i 1 g 0 0 1))),(true,(0,[]))],0) else ([],1)):=by
 unfold qau
 show Option.bind (qco n 1 g 0 []) _=_
 rw [qeq n 1 g 0 [] (by simp),Option.bind_some]
 have e0:(([]:List UInt8).length:Int)=0:=rfl
 rw [e0,qe6,qjl n f z h1 h2,Option.bind_some]
 by_cases c:chk f z
 ·rw [decide_eq_true c,Bool.not_true,cond_false]
  by_cases c2:0<=g/\g<=1073741824
  ·rw [if_pos (qjy c2),if_pos ⟨c,c2⟩];rfl
  ·rw [if_neg (fun h=>c2 h.2.1),if_neg (fun h=>c2 h.2)];rfl
 ·rw [decide_eq_false c,Bool.not_false,cond_true,if_neg (fun h=>c h.1)]
def qcg (l:List DM.Ac):AcT:=l.map fun a=>(a.1,(a.2.1,unB a.2.2))
theorem q3t (l:List DM.Ac):(qcg l).length=l.length:=by unfold qcg;simp
def txB (g:Int) (q:Nat) (p:ByteArray):ByteArray:=RM.q3i 2 g (q:Int) (p.size:Int) (SM.q1d 1 p.data.toList)
theorem qs0 (n:Nat) (t:List UInt8) (p:ByteArray) (f z:Int) (nx:Nat) (hx:nx<=10000) (k:Nat) (hk:RM.q2l p=k) (hk2:k<=133) : ∀(m i:Nat),k - i<m->i<=k ->
  q71 n m t ((RM.q59 p).map unB) (k:Int) (i:Int) f z (nx:Int) (qcg (qs4 nx p i))=some (((),(t,((),()))),((((f,(z,(nx:Int))),()),(qcg (qs4 nx p k),()))))
 | 0,i,h,_=>by omega
 | m+1,i,hm,hi=>by
  rw [qkb]
  unfold j2k
  by_cases c:i<k
  ·have ih:=qs0 n t p f z nx hx k hk hk2 m (i+1) (by omega) (by omega)
   have hl:i<((RM.q59 p).map unB).length:=by rw [List.length_map,RM.q1k];omega
   have w1:IntKind.wrap .i64 ((nx:Int)+1)=((nx+1:Nat):Int):=q0w (by omega)
   have w2:IntKind.wrap .i64 (((nx+1:Nat):Int)+(i:Int))=((nx+1+i:Nat):Int):=wrap_add (by omega) (by omega)
   have w3:IntKind.wrap .i64 ((i:Int)+1)=((i+1:Nat):Int):=q0w (by omega)
   rw [decide_eq_true (by omega),cond_true,q26 hl,Option.bind_some,w1,q0j,w2,q0j,q4i (by rw [q3t,q7k];simp;omega),Option.bind_some,w3,q0j]
   have e:qcg (qs4 nx p i) ++ [(false,(((nx+1+i:Nat):Int),((RM.q59 p).map unB)[i]))]=qcg (qs4 nx p (i+1)):=by
    unfold qcg qs4
    rw [List.range_succ,List.map_append,List.map_append]
    simp [RM.q59]
   rw [e]
   exact ih
  ·obtain rfl:i=k:=by omega
   rw [decide_eq_false (by omega),cond_false]
theorem jkr (n:Nat) (hn:600<=n) (f z nx:Nat) (g:Int) (its:List (List UInt8)) (p:List UInt8) (h1:f+z<=512) (h2:2<=z) (h3:f<nx) (h4:nx<=f+z) (hg:0<=g/\g<=1073741824) (hq:its.length<=65535) :
  qym n ((f:Int),(z:Int)) (g,(its,(nx:Int))) p=some (if 4096<p.length then ([],2) else if f+z<nx+1+RM.q2l (ba p) then ([],3) else (qcg (jah nx (ba p) (txB g its.length (ba p))),0)):=by
 have hM:=max_eq
 unfold qym qy2
 simp only
 rw [qjl n f z (by omega) (by omega),decide_eq_true (show chk (f:Int) (z:Int) from ⟨by omega,by omega,by omega⟩),Option.bind_some,cond_true,decide_eq_true (by omega),cond_true,wrap_add (by omega) (by omega),q0j,Option.bind_some,decide_eq_true (by omega),Bool.not_true,cond_false,
  decide_eq_false (by omega),cond_false,decide_eq_false (by omega),cond_false,decide_eq_false (by omega),cond_false]
 by_cases c1:4096<p.length
 ·rw [decide_eq_true (by omega),cond_true,if_pos c1]
 have hsz:(ba p).size=p.length:=q29 p
 have hdat:(ba p).data.toList=p:=qgv p
 have hcut:RM.q0u (p.length:Int)=(RM.q2l (ba p):Int):=by rw [<-hsz];exact RM.qpn _ (by omega)
 have hcl:=RM.q4q (ba p)
 rw [decide_eq_false (by omega),cond_false,if_neg c1,qdy n f z nx h1 (by omega),Option.bind_some]
 unfold q4b
 rw [if_pos (show qot (p.length:Int) by unfold qot;omega),Option.bind_some,hcut,wrap64 (by omega) (by omega),q0j]
 by_cases c2:f+z<nx+1+RM.q2l (ba p)
 ·rw [decide_eq_true (by omega),cond_true,if_pos c2]
 rw [decide_eq_false (by omega),cond_false,if_neg c2]
 have hm:RM.may 2 g (its.length:Int) (p.length:Int) (SM.q1d 1 p):=⟨Or.inr rfl,hg,⟨by omega,by omega⟩,⟨by omega,by omega⟩,SM.qan _ _⟩
 show Option.bind (qco n 2 g (its.length:Int) p) _=_
 rw [qeq n 2 g (its.length:Int) p (by omega),if_pos hm,Option.bind_some]
 unfold qvd
 rw [if_pos (by omega),Option.bind_some]
 have hll:((RM.q59 (ba p)).map unB).length=RM.q2l (ba p):=by rw [List.length_map,RM.q1k]
 rw [hll]
 have hloop:=qs0 n (unB (RM.q3i 2 g (its.length:Int) (p.length:Int) (SM.q1d 1 p))) (ba p) f z nx (by omega) (RM.q2l (ba p)) rfl hcl n 0 (by omega) (Nat.zero_le _)
 have e0:qcg (qs4 nx (ba p) 0) = []:=rfl
 rw [e0] at hloop
 have hloop':=hloop
 rw [Int.natCast_zero] at hloop'
 simp only
 rw [hloop',Option.bind_some,q4i (by rw [q3t,q7k];simp;omega),Option.bind_some]
 have etx:txB g its.length (ba p)=RM.q3i 2 g (its.length:Int) (p.length:Int) (SM.q1d 1 p):=by unfold txB;rw [hdat,hsz]
 unfold jah
 rw [etx]
 unfold qcg
 rw [List.map_append]
 rfl
end YthpgnliicpejoaaGreatDoor.AM
end Go.Proofs
namespace Go.Proofs
open Go.RowKit
set_option linter.unusedVariables false
set_option linter.unusedSimpArgs false
namespace YthpgnliicpejoaaGreatDoor.AM
theorem jmu {n:Int} (h:(Lit.int .i64 n).wf=true) : -9223372036854775808<=n/\n<=9223372036854775807:=by
 simp [Lit.wf,IntKind.min,IntKind.max,IntKind.signed,IntKind.bits] at h
 omega
theorem j6q (D:DM.Dk) (hm:DM.q2y D) (j:Nat) (hj:j<D.secs.length):DM.jai D (j:Int)=gB (flat D) j:=by
 have key : ∀k,k<=D.cache.length->gB (DM.q19 (fun _=>true) D.secs D.cache k) j=DM.q9z (D.secs.getD j ⟨#[]⟩) (D.cache.take k) (j:Int):=by
  intro k
  induction k with
  | zero=>intro _;rfl
  | succ k ih =>
   intro hk
   have hlt:k<D.cache.length:=by omega
   have hw:=hm.2.2.2 _ (List.getElem_mem hlt)
   have hg:D.cache.getD k (0,⟨#[]⟩)=D.cache[k]:=by simp [List.getD,hlt]
   unfold DM.q19
   rw [if_pos rfl,ju1,hg,DM.q1w,ih (by omega),<-List.take_append_getElem hlt]
   have hl:=DM.jki (D.secs.getD j ⟨#[]⟩) (D.cache.take k) D.cache[k].1 (j:Int) D.cache[k].2
   rw [show (D.cache[k].1,D.cache[k].2)=D.cache[k] from rfl] at hl
   rw [hl]
   have h1:=hw.1;have h2:=hw.2.1
   by_cases c:D.cache[k].1=(j:Int)
   ·rw [if_pos c,if_pos ⟨by omega,by omega⟩]
   ·rw [if_neg c,if_neg (fun h=>c (by omega))]
 have hk:=key D.cache.length (Nat.le_refl _)
 rw [List.take_length] at hk
 unfold DM.jai
 rw [if_pos ⟨hm,⟨by omega,by omega⟩⟩,Int.toNat_natCast]
 exact hk.symm
theorem jhw {D:DM.Dk} (h:DM.qhq D):D.secs.length<=600/\D.cache.length<=200:=⟨h.1.1,h.2.1⟩
theorem q9c (d:DkT):(q0x d).secs.length=d.1.length/\(q0x d).cache.length=d.2.length:=by unfold q0x;simp
theorem jn5 {d:DkT} (h1:(q0x d).secs.length<=1000000) (h2:(q0x d).cache.length<=1000000):smD d:=by rw [(q9c d).1] at h1;rw [(q9c d).2] at h2;exact ⟨h1,h2⟩
theorem jr3 {D:DM.Dk} (h1:D.secs.length<=1000000) (h2:D.cache.length<=1000000):smD (ji8 D):=jn5 (by rw [qkx];exact h1) (by rw [qkx];exact h2)
theorem j2s {B:BL} {f z:Nat} (hz:1<=z) (h:f+z<=512):f+1<=(j8k B f z).2/\(j8k B f z).2<=f+z/\(j8k B f z).1.length<=512:=by
 have h1:f+1<=(j8k B f z).2:=j5o _ _ _
 have h2:(j8k B f z).2<=f+z:=j70 _ _ _ (by omega)
 have h3:(j8k B f z).1.length<=(j8k B f z).2:=qxv _ _ _ (by simp)
 exact ⟨h1,h2,by omega⟩
def j5j (f:Nat) (g:Int):AcT:=[(false,((f:Int),unB (RM.q3i 1 g 0 0 1))),(true,(0,[]))]
end YthpgnliicpejoaaGreatDoor.AM
end Go.Proofs
namespace Go.Proofs.YthpgnliicpejoaaGreatDoor.AM
set_option linter.unusedVariables false
set_option linter.unusedSimpArgs false
structure Cmp {α:Type} (c:α->α->Int):Prop where
 rng : ∀x y,c x y = -1\/c x y=0\/c x y=1
 anti : ∀x y,c x y = - c y x
 tr : ∀x y z,c x y<=0->c y z<=0->c x z<=0
 eq : ∀x y,c x y=0->x=y
theorem Cmp.refl {α:Type} {c:α->α->Int} (h:Cmp c) (x:α):c x x=0:=by have:=h.anti x x;omega
theorem Cmp.zero {α:Type} {c:α->α->Int} (h:Cmp c) {x y:α} : c x y=0↔x=y:=⟨h.eq x y,fun e=>e ▸ h.refl x⟩
def cmpI (a b:Int):Int:=if a<b then -1 else if b<a then 1 else 0
theorem jis:Cmp cmpI:=by
 refine ⟨fun x y=>?_,fun x y=>?_,fun x y z=>?_,fun x y=>?_⟩<;>unfold cmpI<;>repeat' split
 all_goals (try omega)
def or2 (x y:Int):Int:=if x=0 then y else x
def cmpP {α β:Type} (c:α->α->Int) (d:β->β->Int) (x y:α×β):Int:=or2 (c x.1 y.1) (d x.2 y.2)
theorem Cmp.key {α β:Type} {c:β->β->Int} (hc:Cmp c) (f:α->β) (hf : ∀x y,f x=f y->x=y):Cmp fun x y=>c (f x) (f y) :=
 ⟨fun x y=>hc.rng _ _,fun x y=>hc.anti _ _,fun x y z=>hc.tr _ _ _,fun x y h=>hf _ _ (hc.eq _ _ h)⟩
def cmpL {α:Type} (c:α->α->Int):List α->List α->Int
 | [],[]=>0
 | [],_::_=>-1
 | _::_,[]=>1
 | a::asx,b::bs=>or2 (c a b) (cmpL c asx bs)
theorem q3v {α:Type} {c:α->α->Int} (hc:Cmp c):Cmp (cmpL c):=by
 refine ⟨fun x=>?_,fun x=>?_,fun x=>?_,fun x=>?_⟩
 ·induction x with
  | nil=>intro y;cases y<;>simp [cmpL]
  | cons a asx ih=>intro y;cases y with
   | nil=>simp [cmpL]
   | cons b bs =>
    unfold cmpL or2;split
    ·exact ih bs
    ·exact hc.rng _ _
 ·induction x with
  | nil=>intro y;cases y<;>simp [cmpL]
  | cons a asx ih=>intro y;cases y with
   | nil=>simp [cmpL]
   | cons b bs =>
    have a1:=hc.anti a b
    have a2:=ih bs
    unfold cmpL or2;split<;>split<;>omega
 ·induction x with
  | nil=>intro y z;cases y<;>cases z<;>simp [cmpL]
  | cons a asx ih=>intro y z h1 h2;cases y with
   | nil=>simp [cmpL] at h1
   | cons b bs=>cases z with
    | nil=>simp [cmpL] at h2
    | cons d ds =>
     have h1':cmpP c (cmpL c) (a,asx) (b,bs)<=0:=h1
     have h2':cmpP c (cmpL c) (b,bs) (d,ds)<=0:=h2
     show or2 (c a d) (cmpL c asx ds)<=0
     unfold cmpP or2 at *
     dsimp only at *
     have t:=hc.tr a b d
     split at h1'<;>split at h2'
     ·rename_i e1 e2
      rw [hc.eq _ _ e1,hc.eq _ _ e2,hc.refl,if_pos rfl]
      exact ih bs ds h1' h2'
     ·rename_i e1 e2
      rw [hc.eq _ _ e1,if_neg e2];exact h2'
     ·rename_i e1 e2
      rw [<-hc.eq _ _ e2,if_neg e1];exact h1'
     ·rename_i e1 e2
      have t0:=t h1' h2'
      split
      ·rename_i e3
       have e4:=hc.eq _ _ e3
       have a1:=hc.anti a b
       rw [<-e4] at h2' e2
       omega
      ·exact t0
 ·induction x with
  | nil=>intro y;cases y<;>simp [cmpL]
  | cons a asx ih=>intro y h;cases y with
   | nil=>simp [cmpL] at h
   | cons b bs =>
    unfold cmpL or2 at h
    split at h
    ·rename_i e1
     rw [hc.eq _ _ e1,ih bs h]
    ·rename_i e1;exact absurd h e1
def ji7 (a b:UInt8):Int:=cmpI a.toNat b.toNat
theorem jco (a b:UInt8):ji7 a b=if ((a.toNat:Nat):Int)<((b.toNat:Nat):Int) then -1 else if ((b.toNat:Nat):Int)<((a.toNat:Nat):Int) then 1 else 0:=rfl
theorem q3o:Cmp ji7:=jis.key (fun a:UInt8=>((a.toNat:Nat):Int)) fun x y h=>UInt8.toNat_inj.1 (by omega)
theorem q5u : ∀a b:List UInt8,Lib.compareBytes a b=cmpL ji7 a b
 | [],[]=>rfl
 | [],_::_=>rfl
 | _::_,[]=>rfl
 | a::asx,b::bs=>by
  unfold Lib.compareBytes cmpL or2
  rw [q5u asx bs,jco a b]
  have h1:a<b↔((a.toNat:Nat):Int)<((b.toNat:Nat):Int):=by rw [UInt8.lt_iff_toNat_lt];omega
  have h2:b<a↔((b.toNat:Nat):Int)<((a.toNat:Nat):Int):=by rw [UInt8.lt_iff_toNat_lt];omega
  simp only [h1,h2]
  split
  ·simp
  ·split
   ·simp
   ·simp
theorem q3p : ∀a b:List UInt8,Op.bytesLess a b=decide (cmpL ji7 a b<0)
 | [],[]=>rfl
 | [],_::_=>rfl
 | _::_,[]=>rfl
 | a::asx,b::bs=>by
  unfold Op.bytesLess cmpL or2
  rw [q3p asx bs,jco a b]
  have h1:a<b↔((a.toNat:Nat):Int)<((b.toNat:Nat):Int):=by rw [UInt8.lt_iff_toNat_lt];omega
  have h3:(a==b)=decide (((a.toNat:Nat):Int)=((b.toNat:Nat):Int)):=by
   by_cases h:a=b
   ·subst h;simp
   ·have : ¬ ((a.toNat:Nat):Int)=((b.toNat:Nat):Int):=fun e=>h (UInt8.toNat_inj.1 (by omega))
    simp [h,this]
  rw [h3]
  simp only [h1]
  by_cases c1:((a.toNat:Nat):Int)<((b.toNat:Nat):Int)
  ·simp [c1]
  ·by_cases c2:((b.toNat:Nat):Int)<((a.toNat:Nat):Int)
   ·have : ¬ ((a.toNat:Nat):Int)=((b.toNat:Nat):Int):=by omega
    simp [c1,c2,this]
   ·have:((a.toNat:Nat):Int)=((b.toNat:Nat):Int):=by omega
    simp [c1,c2,this]
end Go.Proofs.YthpgnliicpejoaaGreatDoor.AM
namespace Go.Proofs.YthpgnliicpejoaaGreatDoor.AM
open Go.RowKit
set_option linter.unusedVariables false
set_option linter.unusedSimpArgs false
abbrev VD:=Int×(Int×(Int×(List UInt8×List UInt8)))
abbrev v0:VD:=(0,(0,(0,([],[]))))
def jsa (c:UInt8):Bool:=decide (48<=c.toNat)&&decide (c.toNat<=57)
def isSg (c:UInt8):Bool:=(decide (97<=c.toNat)&&decide (c.toNat<=122))||(decide (65<=c.toNat)&&decide (c.toNat<=90))||jsa c||decide (c.toNat=45)
end Go.Proofs.YthpgnliicpejoaaGreatDoor.AM
namespace Go.Proofs.YthpgnliicpejoaaGreatDoor.AM
open Go.RowKit
set_option linter.unusedVariables false
set_option linter.unusedSimpArgs false
def qna (c:UInt8):Bool:=isSg c||decide (c.toNat=95)||decide (c.toNat=46)
def qe1 (s:List UInt8):Bool:=!decide (s = [])&&(!decide (s = [46])&&(!decide (s = [46,46])&&s.all qna))
def q3n (s:List UInt8):Bool:=decide (s.length<=60)&&(spl 47 [] s).all qe1
end Go.Proofs.YthpgnliicpejoaaGreatDoor.AM
namespace Go.Proofs.YthpgnliicpejoaaGreatDoor.AM
open Go.RowKit
set_option linter.unusedVariables false
set_option maxRecDepth 20000
def qx2 (n:Nat):List LC:=[]
def qs3 (n:Nat) (a1:Int):Option (Bool) :=
 (bif decide (97<=a1) then (bif decide (a1<=122) then (bif decide (a1<=122) then some true else (bif decide (a1=45) then some true else (bif decide (a1=95) then some true else some (decide (a1=46))))) else (bif decide (65<=a1) then (bif decide (a1<=90) then (bif decide (a1<=90) then some true else (bif decide (a1=45) then some true else (bif decide (a1=95) then some true else some (decide (a1=46))))) else (bif decide (48<=a1) then (bif decide (a1<=57) then some true else (bif decide (a1=45) then some true else (bif decide (a1=95) then some true else some (decide (a1=46))))) else (bif decide (a1=45) then some true else (bif decide (a1=95) then some true else some (decide (a1=46)))))) else (bif decide (48<=a1) then (bif decide (a1<=57) then some true else (bif decide (a1=45) then some true else (bif decide (a1=95) then some true else some (decide (a1=46))))) else (bif decide (a1=45) then some true else (bif decide (a1=95) then some true else some (decide (a1=46))))))) else (bif decide (65<=a1) then (bif decide (a1<=90) then (bif decide (a1<=90) then some true else (bif decide (a1=45) then some true else (bif decide (a1=95) then some true else some (decide (a1=46))))) else (bif decide (48<=a1) then (bif decide (a1<=57) then some true else (bif decide (a1=45) then some true else (bif decide (a1=95) then some true else some (decide (a1=46))))) else (bif decide (a1=45) then some true else (bif decide (a1=95) then some true else some (decide (a1=46)))))) else (bif decide (48<=a1) then (bif decide (a1<=57) then some true else (bif decide (a1=45) then some true else (bif decide (a1=95) then some true else some (decide (a1=46))))) else (bif decide (a1=45) then some true else (bif decide (a1=95) then some true else some (decide (a1=46)))))))
def qe0 (n:Nat):FC:={ f:=150,args:=[.one (.c (.d (.int .u8)))],res:=.one (.c (.d .bool)),F:=fun p=>qs3 n p }
def j3r (n:Nat):List FC:=[]
theorem j7p (n:Nat) {G:World->Prop} (hG:Know Inv G) : ∀c∈j3r n,q27 Tryz.prog G c/\q0z c.args=true:=(fun _ h=>by cases h)
def j60:q0y:=[]
theorem jjv:drB j60 (q05 Tryz.f150)=true:=by kernel_rfl
theorem jj9 (n:Nat) : ∀a,(qe0 n).F a=main Tryz.prog 32 (j3r n) (qx2 n) j60 (q05 Tryz.f150) [.tmp 2] (qe0 n).args (qe0 n).res a:=by intro a;kernel_rfl
theorem jjy (n:Nat):q0v Inv Tryz.prog (qe0 n):=fun G hG=>⟨⟨by kernel_rfl,fun a r h=>q0p (c:=q05 Tryz.f150) Tryz.func150 (by kernel_rfl) (by kernel_rfl) (Nat.le_of_ble_eq_true (by kernel_rfl)) hG.st (by kernel_rfl) (rs:=[.tmp 2]) (by kernel_rfl) (j7p n hG) (lts:=qx2 n) (fun F hF hFG=>have hK:Know Inv F.G:=hFG ▸ hG;(q0k fun j L h1 h2 h3=>absurd h2 (Nat.not_lt.2 (Nat.le_trans (by decide +kernel) h1)))) jjv ((jj9 n a).symm.trans h)⟩,rfl⟩
@[reducible] def qdt:SSt:=⟨[(0,.one (.c (.d .str))),(15,.one (.c (.d (.int .i64)))),(16,.one (.c (.d (.int .i64))))],[],[]⟩
@[reducible] def q8f:List (Exit×SSt):=[(.ret,⟨[(2,.one (.c (.d .bool)))],[],[]⟩),(.exit 0,⟨[],[],[]⟩)]
def quc (n:Nat) (rec:(List UInt8)->Int->Int->Option (((Bool×Unit)×Unit×Unit)⊕(Unit×Unit×Unit))) (a1:List UInt8) (a2:Int) (a3:Int):Option (((Bool×Unit)×Unit×Unit)⊕(Unit×Unit×Unit)) :=
 (bif decide (a3<a2) then (sAt a1 a3).bind fun c1=>(qs3 n c1).bind fun r2=>(bif !r2 then some (Sum.inl ((false,()),((),()))) else q0n (IntKind.wrap .i64 (a3+1)) fun n3=>rec a1 a2 n3) else some (Sum.inr (((),((),())))))
def que (n:Nat) (rec:pSt qdt->Option (q17 q8f)) (p:pSt qdt):Option (q17 q8f):=quc n (fun a1 a2 a3=>rec ((a1,(a2,(a3,()))),((),()))) p.1.1 p.1.2.1 p.1.2.2.1
def q83 (n m:Nat) (a1:List UInt8) (a2:Int) (a3:Int):Option (((Bool×Unit)×Unit×Unit)⊕(Unit×Unit×Unit)):=q1b (que n) m ((a1,(a2,(a3,()))),((),()))
theorem qib (n m:Nat) (a1 a2 a3):q83 n (m+1) a1 a2 a3=quc n (fun a1 a2 a3=>q83 n m a1 a2 a3) a1 a2 a3:=rfl
def j4l (n:Nat):LC:={ sh:=qdt,outs:=q8f,F:=q1b (que n) n }
def qkr (n:Nat):List LC:=[j4l n]
def qzn (n:Nat) (a1:List UInt8):Option (Bool) :=
 (bif decide (a1=([]:List UInt8)) then some false else (bif decide (a1=([46]:List UInt8)) then some false else (bif decide (a1=([46,46]:List UInt8)) then some false else (q83 n n a1 (a1.length:Int) (0:Int)).bind fun o4=>Sum.elim (fun (q5:(Bool×Unit)×Unit×Unit)=>some q5.1.1) (fun (q6:(Unit)×Unit×Unit)=>some true) o4)))
def qip (n:Nat):FC:={ f:=131,args:=[.one (.c (.d .str))],res:=.one (.c (.d .bool)),F:=fun p=>qzn n p }
def qrp (n:Nat):List FC:=[qe0 n]
theorem qqa (n:Nat) {G:World->Prop} (hG:Know Inv G) : ∀c∈qrp n,q27 Tryz.prog G c/\q0z c.args=true:=List.forall_mem_cons.2 ⟨jjy n G hG,(fun _ h=>by cases h)⟩
def qth:q0y:=[]
theorem j69:drB qth (q05 Tryz.f131)=true:=by kernel_rfl
theorem jhs (n:Nat) : ∀rec p,que n rec p=round Tryz.prog 25 (qrp n) (qkr n) qth 1 qdt q8f (q0h 0 0 (q05 Tryz.f131)) rec p:=by intro rec p;kernel_rfl
theorem j9l (n:Nat) {F:Fr} (hF:F.n=25) (hK:Know Inv F.G):qae Tryz.prog F (j4l n) (q0h 0 0 (q05 Tryz.f131)) :=
 q1h hF (by kernel_rfl) (qqa n hK) (jhs n) (fuel:=n) (fun _=>rfl) (q0k fun j L h1 h2 h3=>absurd h2 (Nat.not_lt.2 (Nat.le_trans (by decide +kernel) h1))) (q20 j69)
theorem jjt (n:Nat) : ∀a,(qip n).F a=main Tryz.prog 25 (qrp n) (qkr n) qth (q05 Tryz.f131) [.tmp 2] (qip n).args (qip n).res a:=by intro a;kernel_rfl
theorem jk9 (n:Nat):q0v Inv Tryz.prog (qip n):=fun G hG=>⟨⟨by kernel_rfl,fun a r h=>q0p (c:=q05 Tryz.f131) Tryz.func131 (by kernel_rfl) (by kernel_rfl) (Nat.le_of_ble_eq_true (by kernel_rfl)) hG.st (by kernel_rfl) (rs:=[.tmp 2]) (by kernel_rfl) (qqa n hG) (lts:=qkr n) (fun F hF hFG=>have hK:Know Inv F.G:=hFG ▸ hG;(q0k (c:=(q05 Tryz.f131)) (fun j L h1 h2 h3=>by
  have h2':j<1:=Nat.lt_of_lt_of_le h2 (by decide +kernel)
  match j,h1,h2',h3 with
  | 0,_,_,h3=>obtain rfl:=Option.some.inj h3;exact (show q0h 0 0 (q05 Tryz.f131)=q0h 0 0 (q05 Tryz.f131) by kernel_rfl) ▸ j9l n hF hK
  | j+1,_,h2',_=>exact absurd h2' (by omega)))) j69 ((jjt n a).symm.trans h)⟩,rfl⟩
end Go.Proofs.YthpgnliicpejoaaGreatDoor.AM
namespace Go.Proofs.YthpgnliicpejoaaGreatDoor.AM
open Go.RowKit
set_option linter.unusedVariables false
set_option linter.unusedSimpArgs false
theorem j84 (n:Nat) (c:UInt8):qs3 n ((c.toNat:Nat):Int)=some (qna c):=by
 have h : ∀k:Fin 256,qs3 0 ((k.val:Nat):Int)=some (qna (UInt8.ofNat k.val)):=by decide +kernel
 have h1:=h ⟨c.toNat,c.toNat_lt⟩
 have e:UInt8.ofNat c.toNat=c:=by simp
 rw [e] at h1
 exact h1
theorem qov (n:Nat) (s:List UInt8) (hL:s.length<=1000000) : ∀m j:Nat,j<=s.length->s.length - j<m->q83 n m s ((s.length:Nat):Int) (j:Int)=some (if (s.drop j).all qna=true then Sum.inr ((),((),())) else Sum.inl ((false,()),((),())))
 | 0,j,_,h=>absurd h (Nat.not_lt_zero _)
 | m+1,j,hj,h=>by
  rw [qib]
  unfold quc
  by_cases c0:j<s.length
  ·have c0':((j:Nat):Int)<((s.length:Nat):Int):=by omega
   have ih:=qov n s hL m (j+1) (by omega) (by omega)
   have hd:s.drop j=s[j]::s.drop (j+1):=(List.drop_eq_getElem_cons c0)
   simp only [c0',decide_true,cond_true,qvy c0,Option.bind_some,j84,q0n,q0w (show j<4611686018427387904 by omega),ih,hd,List.all_cons]
   cases qna s[j]<;>simp
  ·have c0' : ¬ ((j:Nat):Int)<((s.length:Nat):Int):=by omega
   have:s.drop j = []:=List.drop_eq_nil_of_le (by omega)
   simp [c0',this]
theorem j9r (n:Nat) (s:List UInt8) (hL:s.length<=1000000) (hn:s.length<n):qzn n s=some (qe1 s):=by
 unfold qzn qe1
 have:=qov n s hL n 0 (Nat.zero_le _) (by omega)
 rw [show ((0:Nat):Int)=(0:Int) from rfl] at this
 rw [this,List.drop_zero]
 cases decide (s = [])<;>cases decide (s = [46])<;>cases decide (s = [46,46])<;>cases s.all qna<;>rfl
end Go.Proofs.YthpgnliicpejoaaGreatDoor.AM
namespace Go.Proofs
open Go.RowKit Go.Shelf Go.Lib
attribute [local go_sem] Oper.semAt_some
set_option linter.unusedVariables false
set_option linter.unusedSimpArgs false
namespace YthpgnliicpejoaaGreatDoor.AM
theorem qt0 {P:Program} {fn:Func} {p:Tmp} {ty:TypeId} {b:Nat} {v:Value} {tmps:Array Value} {w:World} (h:fn.results = #[.cell p ty]) (hp:tmps.getD p undef = .pointer (some ⟨b,0,none⟩)) (ha:qhj P ty=some false)
  (hc:w.cell? ⟨b,0,none⟩=some v):(results fn tmps).run P w = .ok v w:=by
 have hp':tmps[p]?.getD undef = .pointer (some ⟨b,0,none⟩):=by simpa using hp
 simp only [results,h]
 simp [Sem.run_bind,hp',asAddr,loadVar,q28 ha w,go_sem,hc]
theorem q42 {W W':World} {a:Addr} {v:Value} (hb:Below W.heap.size W W') (h:W.cell? a=some v):W'.cell? a=some v:=by
 obtain ⟨o,ho,hc⟩:=cells_of_cell h
 exact (World.cell?_of_block ((hb.block _ (Array.getElem?_eq_some_iff.1 ho).1).trans ho |>.trans ho.symm)).trans h
theorem q9t {W W':World} {a:Addr} {v:Value} (hb:Below W.heap.size W W') (h:W.cell? a=some v):W'.frozen? a=W.frozen? a:=by
 obtain ⟨o,ho,hc⟩:=cells_of_cell h
 exact World.frozen?_of_block ((hb.block _ (Array.getElem?_eq_some_iff.1 ho).1).trans ho |>.trans ho.symm)
theorem q5q {W W':World} (hb:Below W.heap.size W W'):KeepsOthers W W':=⟨hb.size,fun k o h _=>(hb.block k (Array.getElem?_eq_some_iff.1 h).1).trans h⟩
theorem jac {pS:Nat} {r:List UInt8} {W W':World} (h:Left pS r W) (hb:Below W.heap.size W W'):Left pS r W':=⟨q42 hb h.1,(q9t hb h.1).trans h.2⟩
theorem qag {w:World} {b:Nat} {v:Value} {t:TypeId} (h:w.heap[b]? = some (.cells #[v] t (0,0))):w.cell? ⟨b,0,none⟩=some v/\w.frozen? ⟨b,0,none⟩=false:=by
 constructor
 ·simp [World.cell?,h]
 ·simp [World.frozen?,h]
theorem hag:qhj Tryz.prog 4=some false:=by kernel_rfl
structure Rng (fv:Value) (pF pR:Nat) (pP pC:Nat) (c:UInt8) (w0:World) (pred:List UInt8->Bool) (pre:List (List UInt8)) (W:World):Prop where
 fn:W.cell? ⟨pF,0,none⟩=some fv
 res:W.cell? ⟨pR,0,none⟩=some (.bool false)
 frz:W.frozen? ⟨pR,0,none⟩=false
 cP:W.cell? ⟨pP,0,none⟩=some (.string (ba [c]))
 cC:W.cell? ⟨pC,0,none⟩=some (.int .i64 0)
 below:Below w0.heap.size w0 W
 all:pre.all pred=true
structure RngX (pR:Nat) (w0:World) (pred:List UInt8->Bool) (pre:List (List UInt8)) (W:World):Prop where
 res:W.cell? ⟨pR,0,none⟩=some (.bool false)
 below:Below w0.heap.size w0 W
 no:pre.all pred=false
theorem jod {fv:Value} {pF pR pP pC:Nat} {c:UInt8} {w0:World} {pred:List UInt8->Bool} {B:Nat} (hB:w0.heap.size<=B):OwnFrom B (Rng fv pF pR pP pC c w0 pred):=fun s W W' row h hg hr =>
 ⟨q54 h.fn hg hr,q54 h.res hg hr,(frozen_kept h.res hg (fun r e=>(hr r e).2)).trans h.frz,q54 h.cP hg hr,q54 h.cC hg hr,h.below.grown hg h.below.size (fun k e=>Nat.le_trans hB (hr k e).1),h.all⟩
theorem jla {pR:Nat} {w0:World} {pred:List UInt8->Bool} {B:Nat} (hB:w0.heap.size<=B):OwnFrom B (RngX pR w0 pred):=fun s W W' row h hg hr =>
 ⟨q54 h.res hg hr,h.below.grown hg h.below.size (fun k e=>Nat.le_trans hB (hr k e).1),h.no⟩
theorem jcl {fv:Value} {pF pR pP pC:Nat} {c:UInt8} {w0:World} {pred:List UInt8->Bool} {pre:List (List UInt8)} {x:List UInt8} {W W':World} (h:Rng fv pF pR pP pC c w0 pred pre W) (hb:Below W.heap.size W W') (hx:pred x=true):Rng fv pF pR pP pC c w0 pred (pre ++ [x]) W' :=
 ⟨q42 hb h.fn,q42 hb h.res,(q9t hb h.res).trans h.frz,q42 hb h.cP,q42 hb h.cC,h.below.trans (hb.mono h.below.size),by rw [List.all_append,h.all];simp [hx]⟩
theorem jp5 {fv:Value} {pF pR pP pC:Nat} {c:UInt8} {w0:World} {pred:List UInt8->Bool} {pre:List (List UInt8)} {W:World} {q:Nat} (v:Value) (h:Rng fv pF pR pP pC c w0 pred pre W) (h0:w0.heap.size<=q) (h1:q≠pF) (h2:q≠pR) (h3:q≠pP) (h4:q≠pC):Rng fv pF pR pP pC c w0 pred pre (W.setCell ⟨q,0,none⟩ v):=by
 have ne : ∀p:Nat,q≠p->(W.setCell ⟨q,0,none⟩ v).cell? ⟨p,0,none⟩=W.cell? ⟨p,0,none⟩:=fun p hp=>World.cell?_setCell_other _ _ _ _ (by intro e;exact hp (by injection e with e))
 exact ⟨(ne _ h1).trans h.fn,(ne _ h2).trans h.res,by rw [World.frozen?_setCell];exact h.frz,(ne _ h3).trans h.cP,(ne _ h4).trans h.cC,h.below.setCell (by simpa using h0) _,h.all⟩
theorem four (w:World) (o0 o1 o2 o3:Obj) : ∃ W,((((w.alloc o0).alloc o1).alloc o2).alloc o3)=W/\W.heap.size=w.heap.size+4/\Below w.heap.size w W/\W.heap[w.heap.size]? = some o0/\W.heap[w.heap.size+1]? = some o1/\W.heap[w.heap.size+1+1]? = some o2/\W.heap[w.heap.size+1+2]? = some o3:=by
 have al : ∀(w:World) (o:Obj) (k:Nat),k<w.heap.size->(w.alloc o).heap[k]? = w.heap[k]?:=fun w o k h=>Below.heap_alloc _ _ _ h
 refine ⟨_,rfl,by simp,((((Below.refl _ w).alloc (Nat.le_refl _) _).alloc (by simp) _).alloc (by simp;omega) _).alloc (by simp;omega) _,?_,?_,?_,?_⟩
 ·rw [al _ _ _ (by simp<;>omega),al _ _ _ (by simp<;>omega),al _ _ _ (by simp),World.alloc_heap_new]
 ·rw [al _ _ _ (by simp<;>omega),al _ _ _ (by simp)]
  have:=World.alloc_heap_new (w.alloc o0) o1
  rw [World.size_alloc] at this;exact this
 ·rw [al _ _ _ (by simp)]
  have:=World.alloc_heap_new ((w.alloc o0).alloc o1) o2
  rw [World.size_alloc,World.size_alloc] at this;exact this
 ·have:=World.alloc_heap_new (((w.alloc o0).alloc o1).alloc o2) o3
  rw [World.size_alloc,World.size_alloc,World.size_alloc] at this;exact this
structure RngY (pR:Nat) (w0:World) (pred:List UInt8->Bool) (pre:List (List UInt8)) (W:World):Prop where
 res:W.cell? ⟨pR,0,none⟩=some (.bool true)
 below:Below w0.heap.size w0 W
 no:pre.all pred=false
theorem jjb {pred:List UInt8->Bool} {s x:List UInt8} {pre t:List (List UInt8)} (hsp:spl 47 [] s=pre++x::t) (hn:(pre ++ [x]).all pred=false):(spl 47 [] s).all pred=false:=by
 rw [List.all_append,Bool.and_eq_false_iff] at hn
 rw [hsp,List.all_append,Bool.and_eq_false_iff]
 rcases hn with hn|hn
 ·exact Or.inl hn
 ·refine Or.inr ?_
  simp only [List.all_cons,List.all_nil,Bool.and_true] at hn
  rw [List.all_cons,hn];rfl
end YthpgnliicpejoaaGreatDoor.AM
end Go.Proofs
namespace Go.Proofs
open Go.RowKit Go.Shelf Go.Lib
attribute [local go_sem] Oper.semAt_some
set_option linter.unusedVariables false
set_option linter.unusedSimpArgs false
namespace YthpgnliicpejoaaGreatDoor.AM
theorem jib (x:List UInt8) (w:World) (hI:Inv w) (hx:x.length<=1000000):Calls Tryz.prog 131 #[.string (ba x)] w fun e w'=>e = .returned (.bool (qe1 x))/\Below w.heap.size w w':=by
 have h:=(jk9 1000001 Inv q7u).1.2 x (qe1 x) (j9r 1000001 x (by omega) (by omega))
 refine (h (fun _ _=>False) w #[.string (ba x)] hI (fun b o h=>h.elim) ⟨q0o _,trivial⟩).mono ?_
 rintro e w' ⟨v,Pc,rfl,hb,_,_,hv⟩
 have hv':v = .bool (qe1 x):=q0r hv
 rw [hv']
 exact ⟨rfl,hb⟩
set_option maxHeartbeats 2000000 in
theorem qlk (s:List UInt8) (w:World) (hI:Inv w):Calls Tryz.prog 102 #[.string (ba s)] w fun e w'=>e = .returned (.bool (q3n s))/\Below w.heap.size w w':=by
 refine (callsIn_wide (n:=9)).1 ?_
 refine callsIn_of_wp_marks Tryz.func102 rfl trivial ?_ rfl
 simp only [Tryz.ntmps102,List.size_toArray,List.length_cons,List.length_nil,Nat.reduceAdd,Nat.reduceSub,Array.replicate_succ,Array.replicate_zero,List.push_toArray,List.append_toArray,List.nil_append,List.cons_append]
 have hsz:(ba s).size=s.length:=q29 s
 by_cases h2:s.length<=60
 ·skip
  gi_wp2_with (refine ⟨trivial,?_⟩;gi_at_call 130;refine (callsIn_wide.2 (qob _ _ _)).mono ?_;rintro e w' ⟨rfl,rfl⟩)
  obtain ⟨W0,hW0,hs0,hb0,g0,g1,g2,g3⟩:=four w (Obj.cells #[Value.bool false] 4) (Obj.cells #[Value.string (ba s)] 9) (Obj.cells #[Value.string { data:=#[47] }] 9) (Obj.cells #[Value.int IntKind.i64 0] 3)
  rw [hW0]
  clear hW0
  obtain ⟨c1,f1⟩:=qag g0
  obtain ⟨c2,f2⟩:=qag g1
  obtain ⟨c3,f3⟩:=qag g2
  obtain ⟨c4,f4⟩:=qag g3
  refine range_split (n:=9) (by omega) 47 (w.heap.size+1) (w.heap.size+1+1) (w.heap.size+1+2) s (by omega) rfl ⟨c2,f2⟩
   (Rng (.string (ba [47])) (w.heap.size+1+1) w.heap.size (w.heap.size+1+1) (w.heap.size+1+2) 47 w qe1) (RngX w.heap.size w qe1) (jod (by omega)) (jla (by omega))
   (fun pre W h=>⟨h.cP,h.cC,(hI.below h.below).maxLen⟩) (fun pre W v h=>jp5 v h (by omega) (by omega) (by omega) (by omega) (by omega)) ⟨c3,c1,f1,c3,c4,hb0,rfl⟩
   (fun x=>{ tmps:=#[.string (ba s),undef,.pointer (some ⟨w.heap.size,0,none⟩),.string (ba x),.string (ba s),.int .i64 s.length,.bool (decide ((60:Int)<s.length)),.string (ba s),.func (.func 160) #[] #[.pointer (some ⟨w.heap.size+1+1,0,none⟩),.pointer (some ⟨w.heap.size+1,0,none⟩),.pointer (some ⟨w.heap.size+1+2,0,none⟩)],.string (ba x),undef,undef,undef],defers:=[] }) ?assign ?body ?done ?stop
  case assign =>
   intro l x W K hK
   gi_wp2
   exact hK
  case body =>
   intro l pre x r W hi hL hx
   have k1:=hi.res
   have k2:=hi.frz
   have hc:=jib x W (hI.below hi.below) (by omega)
   cases hpx:qe1 x with
   | true =>
    rw [hpx] at hc
    gi_wp2_with (refine ⟨trivial,?_⟩;gi_at_call 131;refine (CallsIn.inRound l (callsIn_wide.2 hc)).mono ?_;rintro e w' ⟨rfl,hb'⟩)
    exact ⟨q5q hb',jcl hi hb' (by simp [hpx]),jac hL hb'⟩
   | false =>
    rw [hpx] at hc
    gi_wp2_with (refine ⟨trivial,?_⟩;gi_at_call 131;refine (CallsIn.inRound l (callsIn_wide.2 hc)).mono ?_;rintro e w' ⟨rfl,hb'⟩;have k3:=q42 hb' hi.res;have k4:=(q9t hb' hi.res).trans hi.frz)
    exact ⟨(q5q hb').trans (KeepsOthers.setCell _ _ _),World.cell?_setCell_same' _ _ _ (by rw [k3];rfl),(hi.below.trans (hb'.mono hi.below.size)).setCell (by simp) _,by simp [hpx]⟩
  case done =>
   intro D W hD hi hK
   have k1:=hi.res
   have k2:=hi.frz
   gi_wp2
   have hK':=(KeepsOthers.setCell W ⟨w.heap.size,0,none⟩ (.bool true)).same D _ hK rfl
   have hW':Below w.heap.size w (W.setCell ⟨w.heap.size,0,none⟩ (.bool true)):=hi.below.setCell (by simp) _
   have k5:(W.setCell ⟨w.heap.size,0,none⟩ (.bool true)).cell? ⟨w.heap.size,0,none⟩=some (.bool true):=World.cell?_setCell_same' _ _ _ (by rw [k1];rfl)
   generalize W.setCell ⟨w.heap.size,0,none⟩ (.bool true)=W2 at hK' hW' k5
   refine ⟨by simp,.inl ⟨_,_,rfl,run_takeDeferred hK',?_⟩⟩
   have hg:=grownBy_putObj' W2 D (.deferred none)
   refine ⟨_,qt0 (b:=w.heap.size) (v:=.bool true) rfl rfl hag (cell_kept k5 hg (fun r e=>by cases e;exact ⟨_,hK',rfl⟩)),?_,?_⟩
   ·have ha:=hi.all
    unfold q3n;simp [h2,ha]
   ·exact hW'.grown hg hW'.size (fun k e=>by cases e;omega)
  case stop =>
   intro D pre x t W hD hsp hi hK
   refine ⟨by simp,.inl ⟨_,_,rfl,run_takeDeferred hK,?_⟩⟩
   have hg:=grownBy_putObj' W D (.deferred none)
   refine ⟨_,qt0 (b:=w.heap.size) (v:=.bool false) rfl rfl hag (cell_kept hi.res hg (fun r e=>by cases e;exact ⟨_,hK,rfl⟩)),?_,?_⟩
   ·have ha:=jjb hsp hi.no
    unfold q3n;simp [ha]
   ·exact hi.below.grown hg hi.below.size (fun k e=>by cases e;omega)
 ·gi_wp2
  refine ⟨_,qt0 (b:=w.heap.size) (v:=.bool false) rfl rfl hag (by simp),?_,?_⟩
  ·unfold q3n;simp [h2]
  ·exact (Below.refl _ w).alloc (Nat.le_refl _) _
def qmg (s:List UInt8):Option Bool:=some (q3n s)
def qrr:FC:={ f:=102,args:=[strA],res:=boolA,F:=fun p=>qmg p }
theorem j3q:q0v Inv Tryz.prog qrr:=fun G hG=>⟨⟨by kernel_rfl,fun (s:List UInt8) r h=>by
 have hr:q3n s=r:=Option.some.inj h
 intro Pc w vs hg hlt hv
 obtain ⟨l⟩:=vs
 match l,hv with
 | [x],⟨h1,_⟩ =>
  obtain rfl:x = .string (ba s):=q0r h1
  refine (qlk s w (hG.im w hg)).mono ?_
  rintro e w' ⟨rfl,hb⟩
  subst hr
  exact qa3 rfl hb (q0o _)⟩,rfl⟩
end YthpgnliicpejoaaGreatDoor.AM
end Go.Proofs
