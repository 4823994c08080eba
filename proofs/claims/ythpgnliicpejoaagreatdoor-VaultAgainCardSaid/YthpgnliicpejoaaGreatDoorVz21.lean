
import Derived.Test.YthpgnliicpejoaaGreatDoorVz20
import Derived.Test.YthpgnliicpejoaaGreatDoorVz9
import Derived.Test.YthpgnliicpejoaaGreatDoorVz15
import Derived.Lib.Bytealg
import GoSem.Op.String
import Derived.Lib.ItoaNum
import Derived.Lib.AtoiAll
import Derived.Lib.SlTrimSet
import Derived.Test.YthpgnliicpejoaaGreatDoorVz18
namespace Go.Proofs
open Go.RowKit
set_option linter.unusedVariables false
set_option linter.unusedSimpArgs false
namespace YthpgnliicpejoaaGreatDoor.AM
theorem jch {a b:ByteArray} : unB a=unB b↔a=b:=⟨fun h=>by rw [<-q9g a,<-q9g b,h],fun h=>by rw [h]⟩
theorem q9t (n:Nat) (k g q:Int) (s:List UInt8) (hs:s.length<=100000):q91 n k g q s=some (if RM.may k g q (s.length:Int) (SM.q1f 1 s) then (unB (RM.q18 k g q (s.length:Int) (SM.q1f 1 s)),true) else ([],false)):=by
 have hM:=max_eq
 unfold q91 qsp
 rw [if_pos (by omega),Option.bind_some]
 by_cases c:RM.may k g q (s.length:Int) (SM.q1f 1 s)
 ·have hb:=SM.j3n 1 s
  simp only [c,decide_true,Bool.not_true,cond_false,if_true]
  unfold jca
  rw [if_pos c]
  unfold qr7
  rw [if_pos (show qwg (SM.q1f 1 s) by unfold qwg;omega),Option.bind_some,decide_eq_true c]
 ·simp only [c,decide_false,Bool.not_false,cond_true,if_false]
theorem qtg:SM.q1f 1 []=1:=by decide
theorem qtl {D:DM.Dk} {f z:Nat} (h1:f+z<=512) (h2:2<=z) (h3:f+z<=D.secs.length) (hm:DM.q2b D):j27 D (f:Int) (z:Int):=⟨⟨by omega,by omega,by omega⟩,hm,by omega⟩
def jf0 (B:BL) (f z:Nat):Int×(List (List UInt8)×Int):=(q3e B f,((q3j B f z).1.map unB,((q3j B f z).2:Int)))
theorem qq2 (n:Nat) (hn:600<=n) (d:DkT) (hd:smD d) (f z:Nat) (h:j27 (q29 d) (f:Int) (z:Int)) :
  qfx n d ((f:Int),(z:Int))=some (if q8p (flat (q29 d)) f then (jf0 (flat (q29 d)) f z,0) else ((0,([],0)),5)):=by
 obtain ⟨⟨c1,c2,c3⟩,hm,hl⟩:=id h
 have hB:f+z<=(flat (q29 d)).length:=by rw [qw2];omega
 unfold qfx
 rw [j81 n d hd f z (by omega) (by omega),if_pos h,Option.bind_some]
 generalize flat (q29 d)=B at hB
 have hf:f<B.length:=by omega
 have hg:gB B f=B[f]:=qwz hf
 simp only [Bool.not_true,cond_false]
 rw [q49 (by rw [List.length_map];exact hf),Option.bind_some,List.getElem_map,qtr,Option.bind_some]
 have hgen:=q5g B f
 have hmay:=q95 hgen
 have eg:(qep B[f]).2.1=q3e B f:=by unfold q3e;rw [hg]
 show Option.bind (q91 n 1 (qep B[f]).2.1 0 []) _=_
 rw [eg,q9t n 1 (q3e B f) 0 [] (by simp),Option.bind_some]
 have e0:(([]:List UInt8).length:Int)=0:=rfl
 rw [e0,qtg,if_pos hmay]
 simp only [Bool.not_true,cond_false]
 by_cases c:q8p B f
 ·have c':RM.q18 1 (q3e B f) 0 0 1=B[f]:=by rw [<-hg];exact c.symm
  rw [if_pos c,c',decide_eq_true rfl,Bool.not_true,cond_false]
  have w1:IntKind.wrap .i64 ((f:Int)+1)=((f+1:Nat):Int):=q24 (by omega)
  rw [w1,q0o]
  have hloop:=j52 n B f z (q3e B f) (by omega) hB n (f+1) [] (by omega) (by omega) (by simp)
  rw [List.map_nil] at hloop
  rw [hloop,Option.bind_some]
  have e2:q36 B (f+z) (q3e B f) (f+z - (f+1)) (f+1) []=q3j B f z:=by
   unfold q3j
   rw [show f+z - (f+1)=z - 1 from by omega]
  rw [e2]
  rfl
 ·have c' : ¬ unB (RM.q18 1 (q3e B f) 0 0 1)=unB B[f]:=fun h=>c (by unfold q8p;rw [hg];exact (jch.1 h).symm)
  rw [if_neg c,decide_eq_false c',Bool.not_false,cond_true]
theorem qb5 (n:Nat) (f z g:Int) (h1 : -9223372036854775808<=f) (h2:f<=9223372036854775807):q82 n (f,z) g=some (if chk f z/\0<=g/\g<=1073741824 then ([(false,(f,unB (RM.q18 1 g 0 0 1))),(true,(0,[]))],0) else ([],1)):=by
 unfold q82
 show Option.bind (q91 n 1 g 0 []) _=_
 rw [q9t n 1 g 0 [] (by simp),Option.bind_some]
 have e0:(([]:List UInt8).length:Int)=0:=rfl
 rw [e0,qtg,qdl n f z h1 h2,Option.bind_some]
 by_cases c:chk f z
 ·rw [decide_eq_true c,Bool.not_true,cond_false]
  by_cases c2:0<=g/\g<=1073741824
  ·rw [if_pos (q95 c2),if_pos ⟨c,c2⟩];rfl
  ·rw [if_neg (fun h=>c2 h.2.1),if_neg (fun h=>c2 h.2)];rfl
 ·rw [decide_eq_false c,Bool.not_false,cond_true,if_neg (fun h=>c h.1)]
def q93 (l:List DM.Ac):AcT:=l.map fun a=>(a.1,(a.2.1,unB a.2.2))
theorem je7 (l:List DM.Ac):qzp (q93 l)=l:=by
 unfold qzp q93
 rw [List.map_map]
 exact (List.map_congr_left fun x _=>by simp only [Function.comp,q9g];rfl).trans (List.map_id _)
theorem q5d (l:List DM.Ac):(q93 l).length=l.length:=by unfold q93;simp
def txB (g:Int) (q:Nat) (p:ByteArray):ByteArray:=RM.q18 2 g (q:Int) (p.size:Int) (SM.q1f 1 p.data.toList)
theorem qm0 (n:Nat) (t:List UInt8) (p:ByteArray) (f z:Int) (nx:Nat) (hx:nx<=10000) (k:Nat) (hk:RM.q1b p=k) (hk2:k<=133) : ∀(m i:Nat),k - i<m->i<=k ->
  q60 n m t ((RM.qd0 p).map unB) (k:Int) (i:Int) f z (nx:Int) (q93 (qhf nx p i))=some (((),(t,((),()))),((((f,(z,(nx:Int))),()),(q93 (qhf nx p k),()))))
 | 0,i,h,_=>by omega
 | m+1,i,hm,hi=>by
  rw [qew]
  unfold qt4
  by_cases c:i<k
  ·have ih:=qm0 n t p f z nx hx k hk hk2 m (i+1) (by omega) (by omega)
   have hl:i<((RM.qd0 p).map unB).length:=by rw [List.length_map,RM.q2t];omega
   have w1:IntKind.wrap .i64 ((nx:Int)+1)=((nx+1:Nat):Int):=q24 (by omega)
   have w2:IntKind.wrap .i64 (((nx+1:Nat):Int)+(i:Int))=((nx+1+i:Nat):Int):=wrap_add (by omega) (by omega)
   have w3:IntKind.wrap .i64 ((i:Int)+1)=((i+1:Nat):Int):=q24 (by omega)
   rw [decide_eq_true (by omega),cond_true,q49 hl,Option.bind_some,w1,q0o,w2,q0o,qnb (by rw [q5d,q6l];simp;omega),Option.bind_some,w3,q0o]
   have e:q93 (qhf nx p i) ++ [(false,(((nx+1+i:Nat):Int),((RM.qd0 p).map unB)[i]))]=q93 (qhf nx p (i+1)):=by
    unfold q93 qhf
    rw [List.range_succ,List.map_append,List.map_append]
    simp [RM.qd0]
   rw [e]
   exact ih
  ·obtain rfl:i=k:=by omega
   rw [decide_eq_false (by omega),cond_false]
theorem j8h (n:Nat) (hn:600<=n) (f z nx:Nat) (g:Int) (its:List (List UInt8)) (p:List UInt8) (h1:f+z<=512) (h2:2<=z) (h3:f<nx) (h4:nx<=f+z) (hg:0<=g/\g<=1073741824) (hq:its.length<=65535) :
  qni n ((f:Int),(z:Int)) (g,(its,(nx:Int))) p=some (if 4096<p.length then ([],2) else if f+z<nx+1+RM.q1b (ba p) then ([],3) else (q93 (q92 nx (ba p) (txB g its.length (ba p))),0)):=by
 have hM:=max_eq
 unfold qni qpp
 simp only
 rw [qdl n f z (by omega) (by omega),decide_eq_true (show chk (f:Int) (z:Int) from ⟨by omega,by omega,by omega⟩),Option.bind_some,cond_true,decide_eq_true (by omega),cond_true,wrap_add (by omega) (by omega),q0o,Option.bind_some,decide_eq_true (by omega),Bool.not_true,cond_false,
  decide_eq_false (by omega),cond_false,decide_eq_false (by omega),cond_false,decide_eq_false (by omega),cond_false]
 by_cases c1:4096<p.length
 ·rw [decide_eq_true (by omega),cond_true,if_pos c1]
 have hsz:(ba p).size=p.length:=q23 p
 have hdat:(ba p).data.toList=p:=qjx p
 have hcut:RM.q0u (p.length:Int)=(RM.q1b (ba p):Int):=by rw [<-hsz];exact RM.q81 _ (by omega)
 have hcl:=RM.q98 (ba p)
 rw [decide_eq_false (by omega),cond_false,if_neg c1,qak n f z nx h1 (by omega),Option.bind_some]
 unfold q6t
 rw [if_pos (show qwg (p.length:Int) by unfold qwg;omega),Option.bind_some,hcut,wrap64 (by omega) (by omega),q0o]
 by_cases c2:f+z<nx+1+RM.q1b (ba p)
 ·rw [decide_eq_true (by omega),cond_true,if_pos c2]
 rw [decide_eq_false (by omega),cond_false,if_neg c2]
 have hm:RM.may 2 g (its.length:Int) (p.length:Int) (SM.q1f 1 p):=⟨Or.inr rfl,hg,⟨by omega,by omega⟩,⟨by omega,by omega⟩,SM.q4k _ _⟩
 show Option.bind (q91 n 2 g (its.length:Int) p) _=_
 rw [q9t n 2 g (its.length:Int) p (by omega),if_pos hm,Option.bind_some]
 unfold qov
 rw [if_pos (by omega),Option.bind_some]
 have hll:((RM.qd0 (ba p)).map unB).length=RM.q1b (ba p):=by rw [List.length_map,RM.q2t]
 rw [hll]
 have hloop:=qm0 n (unB (RM.q18 2 g (its.length:Int) (p.length:Int) (SM.q1f 1 p))) (ba p) f z nx (by omega) (RM.q1b (ba p)) rfl hcl n 0 (by omega) (Nat.zero_le _)
 have e0:q93 (qhf nx (ba p) 0) = []:=rfl
 rw [e0] at hloop
 have hloop':=hloop
 rw [Int.natCast_zero] at hloop'
 simp only
 rw [hloop',Option.bind_some,qnb (by rw [q5d,q6l];simp;omega),Option.bind_some]
 have etx:txB g its.length (ba p)=RM.q18 2 g (its.length:Int) (p.length:Int) (SM.q1f 1 p):=by unfold txB;rw [hdat,hsz]
 unfold q92
 rw [etx]
 unfold q93
 rw [List.map_append]
 rfl
theorem qea {g:Int} {q:Nat} {p:ByteArray} (hg:0<=g/\g<=1073741824) (hq:q<=65535) (hp:p.size<=4096):(txB g q p).size=32:=by
 unfold txB
 rw [RM.q4y _ _ _ _ _ ⟨Or.inr rfl,hg,⟨by omega,by omega⟩,⟨by omega,by omega⟩,SM.q4k _ _⟩]
 rfl
end YthpgnliicpejoaaGreatDoor.AM
end Go.Proofs
namespace Go.Proofs
open Go.RowKit
set_option linter.unusedVariables false
set_option linter.unusedSimpArgs false
namespace YthpgnliicpejoaaGreatDoor.AM
theorem qzh {B X:BL} {a b:Nat} (h:alike B X a b):alike X B a b:=fun j h1 h2=>(h j h1 h2).symm
theorem qyq {B X:BL} {f z:Nat} (hz:1<=z) (hB:f+z<=B.length) (hX:f+z<=X.length) (h:alike B X f (f+z)) :
  q3e X f=q3e B f/\(q8p X f↔q8p B f)/\q3j X f z=q3j B f z/\∀lo g q,f<=lo->(q78 X lo (f+z) g q↔q78 B lo (f+z) g q):=by
 have e0:=h f (Nat.le_refl _) (by omega)
 have eg:q3e X f=q3e B f:=by unfold q3e;rw [e0]
 have hle:(q3j B f z).2<=f+z:=qkb _ _ _ (by omega)
 have hge:f+1<=(q3j B f z).2:=q7z _ _ _
 refine ⟨eg,?_,?_,fun lo g q hlo=>?_⟩
 ·unfold q8p;rw [eg,e0]
 ·have h1:=q90 (g:=q3e B f) hB hX (z - 1) (f+1) [] (by omega) (fun j h1 h2=>h j (by omega) (by unfold q3j at hle;omega))
  have hst:=qjo (B:=B) (e:=f+z) (g:=q3e B f) (z - 1) (f+1) [] (by omega)
  unfold q3j at hge hle ⊢
  rw [eg,h1,q27]
  intro hr
  have hen:_<=f+z:=hr.2.2.2.2.2.1
  exact hst (qiw hX hB hr (fun j h1 h2=>(h j (by omega) (by omega)).symm)).1
 ·exact ⟨fun hc j h1 h2=>by rw [h j (by omega) h1];exact hc j h1 h2,fun hc j h1 h2=>by rw [<-h j (by omega) h1];exact hc j h1 h2⟩
theorem q9h (keep:Nat->Bool) (B:BL) (c x:List DM.Wr) : ∀k,k<=c.length->DM.q0j keep B (c++x) k=DM.q0j keep B c k
 | 0,_=>rfl
 | k+1,h=>by
  have ih:=q9h keep B c x k (by omega)
  unfold DM.q0j
  have hg:(c++x).getD k (0,⟨#[]⟩)=c.getD k (0,⟨#[]⟩):=by
   rw [List.getD_eq_getElem?_getD,List.getD_eq_getElem?_getD,List.getElem?_append_left (by omega)]
  rw [ih,hg]
theorem j8e (D:DM.Dk) (i:Int) (s:ByteArray):flat (DM.qzo D i s)=(flat D).set i.toNat (DM.q52 s):=by
 unfold flat DM.qzo
 simp only [List.length_append,List.length_cons,List.length_nil]
 conv=>lhs;unfold DM.q0j
 rw [if_pos rfl,q9h _ _ _ _ _ (Nat.le_refl _)]
 have hg:(D.cache ++ [(i,DM.q52 s)]).getD D.cache.length (0,⟨#[]⟩)=(i,DM.q52 s):=by
  rw [List.getD_eq_getElem?_getD,List.getElem?_append_right (Nat.le_refl _)];simp
 rw [hg]
theorem qay (B:BL):flat ⟨B,[]⟩=B:=rfl
theorem qd5 (d:DkT):(q29 d).secs.length=d.1.length/\(q29 d).cache.length=d.2.length:=by unfold q29;simp
theorem jhq {d:DkT} (h1:(q29 d).secs.length<=1000000) (h2:(q29 d).cache.length<=1000000):smD d:=by rw [(qd5 d).1] at h1;rw [(qd5 d).2] at h2;exact ⟨h1,h2⟩
theorem j4y {D:DM.Dk} (h1:D.secs.length<=1000000) (h2:D.cache.length<=1000000):smD (q3f D):=jhq (by rw [q1d];exact h1) (by rw [q1d];exact h2)
theorem qr5 {B:BL} {f z:Nat} (hz:1<=z) (h:f+z<=512):f+1<=(q3j B f z).2/\(q3j B f z).2<=f+z/\(q3j B f z).1.length<=512:=by
 have h1:f+1<=(q3j B f z).2:=q7z _ _ _
 have h2:(q3j B f z).2<=f+z:=qkb _ _ _ (by omega)
 have h3:(q3j B f z).1.length<=(q3j B f z).2:=qpr _ _ _ (by simp)
 exact ⟨h1,h2,by omega⟩
theorem ql0 (d:DkT) (hs:(q29 d).secs.length<=1000) (hc:(q29 d).cache.length<=1000) (l:List DM.Ac) (hl:l.length<=1000) (hsz : ∀a∈l,a.2.2.size<=32) (x:Int):q3n d (q93 l) x=some (q3f (DM.qt1 (q29 d) (l.take (min (max x 0) (l.length:Int)).toNat)),DM.qkr (q29 d) (l.take (min (max x 0) (l.length:Int)).toNat)):=by
 unfold q3n
 rw [if_pos,je7,q5d]
 refine ⟨?_,?_⟩
 ·unfold smR;rw [<-(qd5 d).1,<-(qd5 d).2];omega
 ·refine ⟨by rw [q5d];omega,fun a ha=>?_⟩
  unfold q93 at ha
  obtain ⟨b,hb,rfl⟩:=List.mem_map.1 ha
  have:=hsz b hb
  show (unB b.2.2).length<=1000
  have e:(unB b.2.2).length=b.2.2.size:=q8d _
  omega
theorem qp7 {nx:Nat} {p h:ByteArray} (hh:h.size=32) : ∀a∈q92 nx p h,a.2.2.size<=32:=fun a ha=>by
 rcases List.mem_append.1 ha with h1|h1
 ·obtain ⟨i,hi,rfl⟩:=List.mem_map.1 h1
  simp only [RM.qan];omega
 ·simp only [List.mem_cons,List.not_mem_nil,or_false] at h1
  rcases h1 with rfl|rfl|rfl
  ·exact Nat.zero_le _
  ·simp only [hh];omega
  ·exact Nat.zero_le _
theorem j4c {D:DM.Dk} (hm:DM.q2b D) {f:Nat} {t:ByteArray} (hf:f<D.secs.length) (ht:t.size=32) :
  DM.qkr D [(false,(f:Int),t),flA]=0/\DM.qt1 D [(false,(f:Int),t),flA]=⟨(flat D).set f t,[]⟩/\DM.q2b ⟨(flat D).set f t,[]⟩:=by
 have hok : ∀a ∈ [((false,(f:Int),t):DM.Ac),flA],DM.q3m D.secs.length a:=fun a ha=>by
  simp only [List.mem_cons,List.not_mem_nil,or_false] at ha
  rcases ha with rfl|rfl
  ·refine Or.inr ?_
   unfold DM.q1v
   rw [if_pos ⟨by simp only;omega,by simp only;omega⟩,if_neg (by simp only [ht];omega)]
  ·exact Or.inl rfl
 obtain ⟨r1,r2,r3⟩:=qk0 hm hok
 have e:DM.runK D [(false,(f:Int),t),flA]=⟨(flat D).set f t,[]⟩:=by
  show DM.q16 (fun _=>true) (DM.qzo D f t)=_
  have:=j8e D f t
  rw [qf5 ht,Int.toNat_natCast] at this
  unfold DM.q16
  unfold flat at this ⊢
  rw [this]
 exact ⟨r1,by rw [r2,e],by rw [<-e];exact r3⟩
def qnx (f:Nat) (g:Int):AcT:=[(false,((f:Int),unB (RM.q18 1 g 0 0 1))),(true,(0,[]))]
theorem qe2 {g:Int} (h:0<=g/\g<=1073741824):(RM.q18 1 g 0 0 1).size=32:=by rw [RM.q4y _ _ _ _ _ (q95 h)];rfl
theorem j1k (d:DkT) (hm:DM.q2b (q29 d)) (hs:(q29 d).secs.length<=1000) (hc:(q29 d).cache.length<=1000) (f:Nat) (g:Int) (hg:0<=g/\g<=1073741824) (hf:f<(q29 d).secs.length) :
  q3n d (qnx f g) 2=some (q3f ⟨(flat (q29 d)).set f (RM.q18 1 g 0 0 1),[]⟩,0)/\DM.q2b ⟨(flat (q29 d)).set f (RM.q18 1 g 0 0 1),[]⟩:=by
 have e:qnx f g=q93 [(false,(f:Int),RM.q18 1 g 0 0 1),flA]:=rfl
 obtain ⟨r1,r2,r3⟩:=j4c hm hf (qe2 hg)
 refine ⟨?_,r3⟩
 rw [e,ql0 d hs hc _ (by simp) (fun a ha=>?_) 2]
 ·have e2:(min (max (2:Int) 0) (([(false,(f:Int),RM.q18 1 g 0 0 1),flA]:List DM.Ac).length:Int)).toNat=2:=by
   show (min (max (2:Int) 0) (2:Int)).toNat=2
   decide
  rw [e2]
  show some (q3f (DM.qt1 (q29 d) [(false,(f:Int),RM.q18 1 g 0 0 1),flA]),DM.qkr (q29 d) [(false,(f:Int),RM.q18 1 g 0 0 1),flA])=_
  rw [r1,r2]
 ·simp only [List.mem_cons,List.not_mem_nil,or_false] at ha
  rcases ha with rfl|rfl
  ·simp only [qe2 hg];omega
  ·exact Nat.zero_le _
theorem j6n {n:Nat} (h1:1<=n) (h2:n<=512):DM.j3w (n:Int)=⟨List.replicate n DM.q2d,[]⟩:=by
 unfold DM.j3w;rw [if_pos ⟨by omega,by omega⟩,Int.toNat_natCast]
theorem j55:DM.q2d.size=32:=by decide
theorem qad : ¬ RM.q1r DM.q2d:=by decide +kernel
theorem j9r {n:Nat} (h1:1<=n) (h2:n<=512):DM.q2b ⟨List.replicate n DM.q2d,[]⟩:=by
 refine ⟨by simpa using h1,by simpa using h2,fun s hs=>?_,fun p hp=>by cases hp⟩
 rw [(List.mem_replicate.1 hs).2];exact j55
end YthpgnliicpejoaaGreatDoor.AM
end Go.Proofs
namespace Go.Proofs.YthpgnliicpejoaaGreatDoor.AM
set_option linter.unusedVariables false
set_option linter.unusedSimpArgs false
structure Cmp {α:Type} (c:α->α->Int):Prop where
 rng : ∀x y,c x y = -1\/c x y=0\/c x y=1
 anti : ∀x y,c x y = - c y x
 tr : ∀x y z,c x y<=0->c y z<=0->c x z<=0
 eq : ∀x y,c x y=0->x=y
theorem Cmp.refl {α:Type} {c:α->α->Int} (h:Cmp c) (x:α):c x x=0:=by have:=h.anti x x;omega
theorem Cmp.zero {α:Type} {c:α->α->Int} (h:Cmp c) {x y:α} : c x y=0↔x=y:=⟨h.eq x y,fun e=>e ▸ h.refl x⟩
def cmpI (a b:Int):Int:=if a<b then -1 else if b<a then 1 else 0
theorem j7w:Cmp cmpI:=by
 refine ⟨fun x y=>?_,fun x y=>?_,fun x y z=>?_,fun x y=>?_⟩<;>unfold cmpI<;>repeat' split
 all_goals (try omega)
def or2 (x y:Int):Int:=if x=0 then y else x
def cmpP {α β:Type} (c:α->α->Int) (d:β->β->Int) (x y:α×β):Int:=or2 (c x.1 y.1) (d x.2 y.2)
theorem Cmp.key {α β:Type} {c:β->β->Int} (hc:Cmp c) (f:α->β) (hf : ∀x y,f x=f y->x=y):Cmp fun x y=>c (f x) (f y) :=
 ⟨fun x y=>hc.rng _ _,fun x y=>hc.anti _ _,fun x y z=>hc.tr _ _ _,fun x y h=>hf _ _ (hc.eq _ _ h)⟩
def cmpL {α:Type} (c:α->α->Int):List α->List α->Int
 | [],[]=>0
 | [],_::_=>-1
 | _::_,[]=>1
 | a::asx,b::bs=>or2 (c a b) (cmpL c asx bs)
theorem q53 {α:Type} {c:α->α->Int} (hc:Cmp c):Cmp (cmpL c):=by
 refine ⟨fun x=>?_,fun x=>?_,fun x=>?_,fun x=>?_⟩
 ·induction x with
  | nil=>intro y;cases y<;>simp [cmpL]
  | cons a asx ih=>intro y;cases y with
   | nil=>simp [cmpL]
   | cons b bs =>
    unfold cmpL or2;split
    ·exact ih bs
    ·exact hc.rng _ _
 ·induction x with
  | nil=>intro y;cases y<;>simp [cmpL]
  | cons a asx ih=>intro y;cases y with
   | nil=>simp [cmpL]
   | cons b bs =>
    have a1:=hc.anti a b
    have a2:=ih bs
    unfold cmpL or2;split<;>split<;>omega
 ·induction x with
  | nil=>intro y z;cases y<;>cases z<;>simp [cmpL]
  | cons a asx ih=>intro y z h1 h2;cases y with
   | nil=>simp [cmpL] at h1
   | cons b bs=>cases z with
    | nil=>simp [cmpL] at h2
    | cons d ds =>
     have h1':cmpP c (cmpL c) (a,asx) (b,bs)<=0:=h1
     have h2':cmpP c (cmpL c) (b,bs) (d,ds)<=0:=h2
     show or2 (c a d) (cmpL c asx ds)<=0
     unfold cmpP or2 at *
     dsimp only at *
     have t:=hc.tr a b d
     split at h1'<;>split at h2'
     ·rename_i e1 e2
      rw [hc.eq _ _ e1,hc.eq _ _ e2,hc.refl,if_pos rfl]
      exact ih bs ds h1' h2'
     ·rename_i e1 e2
      rw [hc.eq _ _ e1,if_neg e2];exact h2'
     ·rename_i e1 e2
      rw [<-hc.eq _ _ e2,if_neg e1];exact h1'
     ·rename_i e1 e2
      have t0:=t h1' h2'
      split
      ·rename_i e3
       have e4:=hc.eq _ _ e3
       have a1:=hc.anti a b
       rw [<-e4] at h2' e2
       omega
      ·exact t0
 ·induction x with
  | nil=>intro y;cases y<;>simp [cmpL]
  | cons a asx ih=>intro y h;cases y with
   | nil=>simp [cmpL] at h
   | cons b bs =>
    unfold cmpL or2 at h
    split at h
    ·rename_i e1
     rw [hc.eq _ _ e1,ih bs h]
    ·rename_i e1;exact absurd h e1
def jbt (a b:UInt8):Int:=cmpI a.toNat b.toNat
theorem j29 (a b:UInt8):jbt a b=if ((a.toNat:Nat):Int)<((b.toNat:Nat):Int) then -1 else if ((b.toNat:Nat):Int)<((a.toNat:Nat):Int) then 1 else 0:=rfl
theorem q5a:Cmp jbt:=j7w.key (fun a:UInt8=>((a.toNat:Nat):Int)) fun x y h=>UInt8.toNat_inj.1 (by omega)
theorem q4t : ∀a b:List UInt8,Lib.compareBytes a b=cmpL jbt a b
 | [],[]=>rfl
 | [],_::_=>rfl
 | _::_,[]=>rfl
 | a::asx,b::bs=>by
  unfold Lib.compareBytes cmpL or2
  rw [q4t asx bs,j29 a b]
  have h1:a<b↔((a.toNat:Nat):Int)<((b.toNat:Nat):Int):=by rw [UInt8.lt_iff_toNat_lt];omega
  have h2:b<a↔((b.toNat:Nat):Int)<((a.toNat:Nat):Int):=by rw [UInt8.lt_iff_toNat_lt];omega
  simp only [h1,h2]
  split
  ·simp
  ·split
   ·simp
   ·simp
theorem q6y : ∀a b:List UInt8,Op.bytesLess a b=decide (cmpL jbt a b<0)
 | [],[]=>rfl
 | [],_::_=>rfl
 | _::_,[]=>rfl
 | a::asx,b::bs=>by
  unfold Op.bytesLess cmpL or2
  rw [q6y asx bs,j29 a b]
  have h1:a<b↔((a.toNat:Nat):Int)<((b.toNat:Nat):Int):=by rw [UInt8.lt_iff_toNat_lt];omega
  have h3:(a==b)=decide (((a.toNat:Nat):Int)=((b.toNat:Nat):Int)):=by
   by_cases h:a=b
   ·subst h;simp
   ·have : ¬ ((a.toNat:Nat):Int)=((b.toNat:Nat):Int):=fun e=>h (UInt8.toNat_inj.1 (by omega))
    simp [h,this]
  rw [h3]
  simp only [h1]
  by_cases c1:((a.toNat:Nat):Int)<((b.toNat:Nat):Int)
  ·simp [c1]
  ·by_cases c2:((b.toNat:Nat):Int)<((a.toNat:Nat):Int)
   ·have : ¬ ((a.toNat:Nat):Int)=((b.toNat:Nat):Int):=by omega
    simp [c1,c2,this]
   ·have:((a.toNat:Nat):Int)=((b.toNat:Nat):Int):=by omega
    simp [c1,c2,this]
end Go.Proofs.YthpgnliicpejoaaGreatDoor.AM
namespace Go.Proofs.YthpgnliicpejoaaGreatDoor.AM
open Go.RowKit
set_option linter.unusedVariables false
set_option linter.unusedSimpArgs false
abbrev VD:=Int×(Int×(Int×(List UInt8×List UInt8)))
abbrev v0:VD:=(0,(0,(0,([],[]))))
def isDig (c:UInt8):Bool:=decide (48<=c.toNat)&&decide (c.toNat<=57)
def isSg (c:UInt8):Bool:=(decide (97<=c.toNat)&&decide (c.toNat<=122))||(decide (65<=c.toNat)&&decide (c.toNat<=90))||isDig c||decide (c.toNat=45)
end Go.Proofs.YthpgnliicpejoaaGreatDoor.AM
namespace Go.Proofs.YthpgnliicpejoaaGreatDoor.AM
open Go.RowKit
set_option linter.unusedVariables false
set_option linter.unusedSimpArgs false
def qx5 (c:UInt8):Bool:=isSg c||decide (c.toNat=95)||decide (c.toNat=46)
def qhk (s:List UInt8):Bool:=!decide (s = [])&&(!decide (s = [46])&&(!decide (s = [46,46])&&s.all qx5))
def q4m (s:List UInt8):Bool:=decide (s.length<=60)&&(spl 47 [] s).all qhk
theorem qxy {s:List UInt8} (h:q4m s=true):s.length<=60/\(spl 47 [] s).all qhk=true:=by
 unfold q4m at h;simpa using h
end Go.Proofs.YthpgnliicpejoaaGreatDoor.AM
namespace Go.Proofs.YthpgnliicpejoaaGreatDoor.AM
open Go.RowKit
set_option linter.unusedVariables false
set_option maxRecDepth 20000
def qpg (n:Nat):List LC:=[]
def qmh (n:Nat) (a1:Int):Option (Bool) :=
 (bif decide ((97:Int)<=a1) then (bif decide (a1<=(122:Int)) then (bif decide (a1<=(122:Int)) then some true else (bif decide (a1=(45:Int)) then some true else (bif decide (a1=(95:Int)) then some true else some (decide (a1=(46:Int)))))) else (bif decide ((65:Int)<=a1) then (bif decide (a1<=(90:Int)) then (bif decide (a1<=(90:Int)) then some true else (bif decide (a1=(45:Int)) then some true else (bif decide (a1=(95:Int)) then some true else some (decide (a1=(46:Int)))))) else (bif decide ((48:Int)<=a1) then (bif decide (a1<=(57:Int)) then some true else (bif decide (a1=(45:Int)) then some true else (bif decide (a1=(95:Int)) then some true else some (decide (a1=(46:Int)))))) else (bif decide (a1=(45:Int)) then some true else (bif decide (a1=(95:Int)) then some true else some (decide (a1=(46:Int))))))) else (bif decide ((48:Int)<=a1) then (bif decide (a1<=(57:Int)) then some true else (bif decide (a1=(45:Int)) then some true else (bif decide (a1=(95:Int)) then some true else some (decide (a1=(46:Int)))))) else (bif decide (a1=(45:Int)) then some true else (bif decide (a1=(95:Int)) then some true else some (decide (a1=(46:Int)))))))) else (bif decide ((65:Int)<=a1) then (bif decide (a1<=(90:Int)) then (bif decide (a1<=(90:Int)) then some true else (bif decide (a1=(45:Int)) then some true else (bif decide (a1=(95:Int)) then some true else some (decide (a1=(46:Int)))))) else (bif decide ((48:Int)<=a1) then (bif decide (a1<=(57:Int)) then some true else (bif decide (a1=(45:Int)) then some true else (bif decide (a1=(95:Int)) then some true else some (decide (a1=(46:Int)))))) else (bif decide (a1=(45:Int)) then some true else (bif decide (a1=(95:Int)) then some true else some (decide (a1=(46:Int))))))) else (bif decide ((48:Int)<=a1) then (bif decide (a1<=(57:Int)) then some true else (bif decide (a1=(45:Int)) then some true else (bif decide (a1=(95:Int)) then some true else some (decide (a1=(46:Int)))))) else (bif decide (a1=(45:Int)) then some true else (bif decide (a1=(95:Int)) then some true else some (decide (a1=(46:Int))))))))
def qau (n:Nat):FC:={ f:=150,args:=[.one (.c (.d (.int .u8)))],res:=.one (.c (.d .bool)),F:=fun p=>qmh n p }
def qtm (n:Nat):List FC:=[]
theorem qy5 (n:Nat) {G:World->Prop} (hG:Know Inv G) : ∀c∈qtm n,q44 Tryz.prog G c/\q1o c.args=true:=(fun _ h=>by cases h)
def qvg:q1m:=[]
theorem j6j:drB qvg (q0g Tryz.f150)=true:=by kernel_rfl
theorem j73 (n:Nat) : ∀a,(qau n).F a=main Tryz.prog 32 (qtm n) (qpg n) qvg (q0g Tryz.f150) [.tmp 2] (qau n).args (qau n).res a:=by intro a;kernel_rfl
theorem j7k (n:Nat):q1a Inv Tryz.prog (qau n):=fun G hG=>⟨⟨by kernel_rfl,fun a r h=>q0y (c:=q0g Tryz.f150) Tryz.func150 (by kernel_rfl) (by kernel_rfl) (Nat.le_of_ble_eq_true (by kernel_rfl)) hG.st (by kernel_rfl) (rs:=[.tmp 2]) (by kernel_rfl) (qy5 n hG) (lts:=qpg n) (fun F hF hFG=>have hK:Know Inv F.G:=hFG ▸ hG;(q0t fun j L h1 h2 h3=>absurd h2 (Nat.not_lt.2 (Nat.le_trans (by decide +kernel) h1)))) j6j ((j73 n a).symm.trans h)⟩,rfl⟩
@[reducible] def qaz:SSt:=⟨[(0,.one (.c (.d .str))),(15,.one (.c (.d (.int .i64)))),(16,.one (.c (.d (.int .i64))))],[],[]⟩
@[reducible] def q6s:List (Exit×SSt):=[(.ret,⟨[(2,.one (.c (.d .bool)))],[],[]⟩),(.exit 0,⟨[],[],[]⟩)]
def qlg (n:Nat) (rec:(List UInt8)->Int->Int->Option (((Bool×(Unit))×(Unit)×(Unit))⊕((Unit)×(Unit)×(Unit)))) (a1:List UInt8) (a2:Int) (a3:Int):Option (((Bool×(Unit))×(Unit)×(Unit))⊕((Unit)×(Unit)×(Unit))) :=
 (bif decide (a3<a2) then (sAt a1 a3).bind fun (c1:Int)=>(qmh n c1).bind fun (r2:Bool)=>(bif !r2 then some (Sum.inl ((false,()),((),()))) else q1i (IntKind.wrap .i64 (a3+(1:Int))) fun (n3:Int)=>rec a1 a2 n3) else some (Sum.inr (((),((),())))))
def qlc (n:Nat) (rec:pSt qaz->Option (q2h q6s)) (p:pSt qaz):Option (q2h q6s):=qlg n (fun a1 a2 a3=>rec ((a1,(a2,(a3,()))),((),()))) p.1.1 p.1.2.1 p.1.2.2.1
def q6u (n m:Nat) (a1:List UInt8) (a2:Int) (a3:Int):Option (((Bool×(Unit))×(Unit)×(Unit))⊕((Unit)×(Unit)×(Unit))):=q2z (qlc n) m ((a1,(a2,(a3,()))),((),()))
theorem qd8 (n m:Nat) (a1:List UInt8) (a2:Int) (a3:Int):q6u n (m+1) a1 a2 a3=qlg n (fun a1 a2 a3=>q6u n m a1 a2 a3) a1 a2 a3:=rfl
def qub (n:Nat):LC:={ sh:=qaz,outs:=q6s,F:=q2z (qlc n) n }
def qgs (n:Nat):List LC:=[qub n]
def qsv (n:Nat) (a1:List UInt8):Option (Bool) :=
 (bif decide (a1=([]:List UInt8)) then some false else (bif decide (a1=([46]:List UInt8)) then some false else (bif decide (a1=([46,46]:List UInt8)) then some false else (q6u n n a1 ((List.length a1:Nat):Int) (0:Int)).bind fun (o4:((Bool×(Unit))×(Unit)×(Unit))⊕((Unit)×(Unit)×(Unit)))=>Sum.elim (fun (q5:(Bool×(Unit))×(Unit)×(Unit))=>some q5.1.1) (fun (q6:(Unit)×(Unit)×(Unit))=>some true) o4)))
def qdw (n:Nat):FC:={ f:=131,args:=[.one (.c (.d .str))],res:=.one (.c (.d .bool)),F:=fun p=>qsv n p }
def qli (n:Nat):List FC:=[qau n]
theorem qi3 (n:Nat) {G:World->Prop} (hG:Know Inv G) : ∀c∈qli n,q44 Tryz.prog G c/\q1o c.args=true:=List.forall_mem_cons.2 ⟨j7k n G hG,(fun _ h=>by cases h)⟩
def qkj:q1m:=[]
theorem qvs:drB qkj (q0g Tryz.f131)=true:=by kernel_rfl
theorem j1x (n:Nat) : ∀rec p,qlc n rec p=round Tryz.prog 25 (qli n) (qgs n) qkj 1 qaz q6s (q0m 0 0 (q0g Tryz.f131)) rec p:=by intro rec p;kernel_rfl
theorem qxa (n:Nat) {F:Fr} (hF:F.n=25) (hK:Know Inv F.G):qq9 Tryz.prog F (qub n) (q0m 0 0 (q0g Tryz.f131)) :=
 q3h hF (by kernel_rfl) (qi3 n hK) (j1x n) (fuel:=n) (fun _=>rfl) (q0t fun j L h1 h2 h3=>absurd h2 (Nat.not_lt.2 (Nat.le_trans (by decide +kernel) h1))) (q56 qvs)
theorem j98 (n:Nat) : ∀a,(qdw n).F a=main Tryz.prog 25 (qli n) (qgs n) qkj (q0g Tryz.f131) [.tmp 2] (qdw n).args (qdw n).res a:=by intro a;kernel_rfl
theorem j7j (n:Nat):q1a Inv Tryz.prog (qdw n):=fun G hG=>⟨⟨by kernel_rfl,fun a r h=>q0y (c:=q0g Tryz.f131) Tryz.func131 (by kernel_rfl) (by kernel_rfl) (Nat.le_of_ble_eq_true (by kernel_rfl)) hG.st (by kernel_rfl) (rs:=[.tmp 2]) (by kernel_rfl) (qi3 n hG) (lts:=qgs n) (fun F hF hFG=>have hK:Know Inv F.G:=hFG ▸ hG;(q0t (c:=(q0g Tryz.f131)) (fun j L h1 h2 h3=>by
  have h2':j<1:=Nat.lt_of_lt_of_le h2 (by decide +kernel)
  match j,h1,h2',h3 with
  | 0,_,_,h3=>obtain rfl:=Option.some.inj h3;exact (show q0m 0 0 (q0g Tryz.f131)=q0m 0 0 (q0g Tryz.f131) by kernel_rfl) ▸ qxa n hF hK
  | j+1,_,h2',_=>exact absurd h2' (by omega)))) qvs ((j98 n a).symm.trans h)⟩,rfl⟩
end Go.Proofs.YthpgnliicpejoaaGreatDoor.AM
namespace Go.Proofs.YthpgnliicpejoaaGreatDoor.AM
open Go.RowKit
set_option linter.unusedVariables false
set_option linter.unusedSimpArgs false
theorem qy9 (n:Nat) (c:UInt8):qmh n ((c.toNat:Nat):Int)=some (qx5 c):=by
 have h : ∀k:Fin 256,qmh 0 ((k.val:Nat):Int)=some (qx5 (UInt8.ofNat k.val)):=by decide +kernel
 have h1:=h ⟨c.toNat,c.toNat_lt⟩
 have e:UInt8.ofNat c.toNat=c:=by simp
 rw [e] at h1
 exact h1
theorem qif (n:Nat) (s:List UInt8) (hL:s.length<=1000000) : ∀m j:Nat,j<=s.length->s.length - j<m->q6u n m s ((s.length:Nat):Int) (j:Int)=some (if (s.drop j).all qx5=true then Sum.inr ((),((),())) else Sum.inl ((false,()),((),())))
 | 0,j,_,h=>absurd h (Nat.not_lt_zero _)
 | m+1,j,hj,h=>by
  rw [qd8]
  unfold qlg
  by_cases c0:j<s.length
  ·have c0':((j:Nat):Int)<((s.length:Nat):Int):=by omega
   have ih:=qif n s hL m (j+1) (by omega) (by omega)
   have hd:s.drop j=s[j]::s.drop (j+1):=(List.drop_eq_getElem_cons c0)
   simp only [c0',decide_true,cond_true,jaw c0,Option.bind_some,qy9,q1i,q24 (show j<4611686018427387904 by omega),ih,hd,List.all_cons]
   cases qx5 s[j]<;>simp
  ·have c0' : ¬ ((j:Nat):Int)<((s.length:Nat):Int):=by omega
   have:s.drop j = []:=List.drop_eq_nil_of_le (by omega)
   simp [c0',this]
theorem qyb (n:Nat) (s:List UInt8) (hL:s.length<=1000000) (hn:s.length<n):qsv n s=some (qhk s):=by
 unfold qsv qhk
 have:=qif n s hL n 0 (Nat.zero_le _) (by omega)
 rw [show ((0:Nat):Int)=(0:Int) from rfl] at this
 rw [this,List.drop_zero]
 cases decide (s = [])<;>cases decide (s = [46])<;>cases decide (s = [46,46])<;>cases s.all qx5<;>rfl
end Go.Proofs.YthpgnliicpejoaaGreatDoor.AM
namespace Go.Proofs
open Go.RowKit Go.Shelf Go.Lib
attribute [local go_sem] Oper.semAt_some
set_option linter.unusedVariables false
set_option linter.unusedSimpArgs false
namespace YthpgnliicpejoaaGreatDoor.AM
theorem qlr {P:Program} {fn:Func} {p:Tmp} {ty:TypeId} {b:Nat} {v:Value} {tmps:Array Value} {w:World} (h:fn.results = #[.cell p ty]) (hp:tmps.getD p undef = .pointer (some ⟨b,0,none⟩)) (ha:qc8 P ty=some false)
  (hc:w.cell? ⟨b,0,none⟩=some v):(results fn tmps).run P w = .ok v w:=by
 have hp':tmps[p]?.getD undef = .pointer (some ⟨b,0,none⟩):=by simpa using hp
 simp only [results,h]
 simp [Sem.run_bind,hp',asAddr,loadVar,q1z ha w,go_sem,hc]
theorem q3t {W W':World} {a:Addr} {v:Value} (hb:Below W.heap.size W W') (h:W.cell? a=some v):W'.cell? a=some v:=by
 obtain ⟨o,ho,hc⟩:=cells_of_cell h
 exact (World.cell?_of_block ((hb.block _ (Array.getElem?_eq_some_iff.1 ho).1).trans ho |>.trans ho.symm)).trans h
theorem q7m {W W':World} {a:Addr} {v:Value} (hb:Below W.heap.size W W') (h:W.cell? a=some v):W'.frozen? a=W.frozen? a:=by
 obtain ⟨o,ho,hc⟩:=cells_of_cell h
 exact World.frozen?_of_block ((hb.block _ (Array.getElem?_eq_some_iff.1 ho).1).trans ho |>.trans ho.symm)
theorem q4r {W W':World} (hb:Below W.heap.size W W'):KeepsOthers W W':=⟨hb.size,fun k o h _=>(hb.block k (Array.getElem?_eq_some_iff.1 h).1).trans h⟩
theorem qxe {pS:Nat} {r:List UInt8} {W W':World} (h:Left pS r W) (hb:Below W.heap.size W W'):Left pS r W':=⟨q3t hb h.1,(q7m hb h.1).trans h.2⟩
theorem q83 {w:World} {b:Nat} {v:Value} {t:TypeId} (h:w.heap[b]? = some (.cells #[v] t (0,0))):w.cell? ⟨b,0,none⟩=some v/\w.frozen? ⟨b,0,none⟩=false:=by
 constructor
 ·simp [World.cell?,h]
 ·simp [World.frozen?,h]
theorem hag:qc8 Tryz.prog 4=some false:=by kernel_rfl
structure Rng (fv:Value) (pF pR:Nat) (pP pC:Nat) (c:UInt8) (w0:World) (pred:List UInt8->Bool) (pre:List (List UInt8)) (W:World):Prop where
 fn:W.cell? ⟨pF,0,none⟩=some fv
 res:W.cell? ⟨pR,0,none⟩=some (.bool false)
 frz:W.frozen? ⟨pR,0,none⟩=false
 cP:W.cell? ⟨pP,0,none⟩=some (.string (ba [c]))
 cC:W.cell? ⟨pC,0,none⟩=some (.int .i64 0)
 below:Below w0.heap.size w0 W
 all:pre.all pred=true
structure RngX (pR:Nat) (w0:World) (pred:List UInt8->Bool) (pre:List (List UInt8)) (W:World):Prop where
 res:W.cell? ⟨pR,0,none⟩=some (.bool false)
 below:Below w0.heap.size w0 W
 no:pre.all pred=false
theorem jdh {fv:Value} {pF pR pP pC:Nat} {c:UInt8} {w0:World} {pred:List UInt8->Bool} {B:Nat} (hB:w0.heap.size<=B):OwnFrom B (Rng fv pF pR pP pC c w0 pred):=fun s W W' row h hg hr =>
 ⟨q4h h.fn hg hr,q4h h.res hg hr,(frozen_kept h.res hg (fun r e=>(hr r e).2)).trans h.frz,q4h h.cP hg hr,q4h h.cC hg hr,h.below.grown hg h.below.size (fun k e=>Nat.le_trans hB (hr k e).1),h.all⟩
theorem j84 {pR:Nat} {w0:World} {pred:List UInt8->Bool} {B:Nat} (hB:w0.heap.size<=B):OwnFrom B (RngX pR w0 pred):=fun s W W' row h hg hr =>
 ⟨q4h h.res hg hr,h.below.grown hg h.below.size (fun k e=>Nat.le_trans hB (hr k e).1),h.no⟩
theorem j4e {fv:Value} {pF pR pP pC:Nat} {c:UInt8} {w0:World} {pred:List UInt8->Bool} {pre:List (List UInt8)} {x:List UInt8} {W W':World} (h:Rng fv pF pR pP pC c w0 pred pre W) (hb:Below W.heap.size W W') (hx:pred x=true):Rng fv pF pR pP pC c w0 pred (pre ++ [x]) W' :=
 ⟨q3t hb h.fn,q3t hb h.res,(q7m hb h.res).trans h.frz,q3t hb h.cP,q3t hb h.cC,h.below.trans (hb.mono h.below.size),by rw [List.all_append,h.all];simp [hx]⟩
theorem jbs {fv:Value} {pF pR pP pC:Nat} {c:UInt8} {w0:World} {pred:List UInt8->Bool} {pre:List (List UInt8)} {W:World} {q:Nat} (v:Value) (h:Rng fv pF pR pP pC c w0 pred pre W) (h0:w0.heap.size<=q) (h1:q≠pF) (h2:q≠pR) (h3:q≠pP) (h4:q≠pC):Rng fv pF pR pP pC c w0 pred pre (W.setCell ⟨q,0,none⟩ v):=by
 have ne : ∀p:Nat,q≠p->(W.setCell ⟨q,0,none⟩ v).cell? ⟨p,0,none⟩=W.cell? ⟨p,0,none⟩:=fun p hp=>World.cell?_setCell_other _ _ _ _ (by intro e;exact hp (by injection e with e))
 exact ⟨(ne _ h1).trans h.fn,(ne _ h2).trans h.res,by rw [World.frozen?_setCell];exact h.frz,(ne _ h3).trans h.cP,(ne _ h4).trans h.cC,h.below.setCell (by simpa using h0) _,h.all⟩
theorem four (w:World) (o0 o1 o2 o3:Obj) : ∃ W,((((w.alloc o0).alloc o1).alloc o2).alloc o3)=W/\W.heap.size=w.heap.size+4/\Below w.heap.size w W/\W.heap[w.heap.size]? = some o0/\W.heap[w.heap.size+1]? = some o1/\W.heap[w.heap.size+1+1]? = some o2/\W.heap[w.heap.size+1+2]? = some o3:=by
 have al : ∀(w:World) (o:Obj) (k:Nat),k<w.heap.size->(w.alloc o).heap[k]? = w.heap[k]?:=fun w o k h=>Below.heap_alloc _ _ _ h
 refine ⟨_,rfl,by simp,((((Below.refl _ w).alloc (Nat.le_refl _) _).alloc (by simp) _).alloc (by simp;omega) _).alloc (by simp;omega) _,?_,?_,?_,?_⟩
 ·rw [al _ _ _ (by simp<;>omega),al _ _ _ (by simp<;>omega),al _ _ _ (by simp),World.alloc_heap_new]
 ·rw [al _ _ _ (by simp<;>omega),al _ _ _ (by simp)]
  have:=World.alloc_heap_new (w.alloc o0) o1
  rw [World.size_alloc] at this;exact this
 ·rw [al _ _ _ (by simp)]
  have:=World.alloc_heap_new ((w.alloc o0).alloc o1) o2
  rw [World.size_alloc,World.size_alloc] at this;exact this
 ·have:=World.alloc_heap_new (((w.alloc o0).alloc o1).alloc o2) o3
  rw [World.size_alloc,World.size_alloc,World.size_alloc] at this;exact this
structure RngY (pR:Nat) (w0:World) (pred:List UInt8->Bool) (pre:List (List UInt8)) (W:World):Prop where
 res:W.cell? ⟨pR,0,none⟩=some (.bool true)
 below:Below w0.heap.size w0 W
 no:pre.all pred=false
theorem j9q {pred:List UInt8->Bool} {s x:List UInt8} {pre t:List (List UInt8)} (hsp:spl 47 [] s=pre++x::t) (hn:(pre ++ [x]).all pred=false):(spl 47 [] s).all pred=false:=by
 rw [List.all_append,Bool.and_eq_false_iff] at hn
 rw [hsp,List.all_append,Bool.and_eq_false_iff]
 rcases hn with hn|hn
 ·exact Or.inl hn
 ·refine Or.inr ?_
  simp only [List.all_cons,List.all_nil,Bool.and_true] at hn
  rw [List.all_cons,hn];rfl
end YthpgnliicpejoaaGreatDoor.AM
end Go.Proofs
namespace Go.Proofs
open Go.RowKit Go.Shelf Go.Lib
attribute [local go_sem] Oper.semAt_some
set_option linter.unusedVariables false
set_option linter.unusedSimpArgs false
namespace YthpgnliicpejoaaGreatDoor.AM
theorem j7e (x:List UInt8) (w:World) (hI:Inv w) (hx:x.length<=1000000):Calls Tryz.prog 131 #[.string (ba x)] w fun e w'=>e = .returned (.bool (qhk x))/\Below w.heap.size w w':=by
 have h:=(j7j 1000001 Inv q55).1.2 x (qhk x) (qyb 1000001 x (by omega) (by omega))
 refine (h (fun _ _=>False) w #[.string (ba x)] hI (fun b o h=>h.elim) ⟨q0l _,trivial⟩).mono ?_
 rintro e w' ⟨v,Pc,rfl,hb,_,_,hv⟩
 have hv':v = .bool (qhk x):=q0n hv
 rw [hv']
 exact ⟨rfl,hb⟩
set_option maxHeartbeats 2000000 in
theorem qfr (s:List UInt8) (w:World) (hI:Inv w):Calls Tryz.prog 102 #[.string (ba s)] w fun e w'=>e = .returned (.bool (q4m s))/\Below w.heap.size w w':=by
 refine (callsIn_wide (n:=9)).1 ?_
 refine callsIn_of_wp_marks Tryz.func102 rfl trivial ?_ rfl
 simp only [Tryz.ntmps102,List.size_toArray,List.length_cons,List.length_nil,Nat.reduceAdd,Nat.reduceSub,Array.replicate_succ,Array.replicate_zero,List.push_toArray,List.append_toArray,List.nil_append,List.cons_append]
 have hsz:(ba s).size=s.length:=q23 s
 by_cases h2:s.length<=60
 ·skip
  gi_wp2_with (refine ⟨trivial,?_⟩;gi_at_call 130;refine (callsIn_wide.2 (qhs _ _ _)).mono ?_;rintro e w' ⟨rfl,rfl⟩)
  obtain ⟨W0,hW0,hs0,hb0,g0,g1,g2,g3⟩:=four w (Obj.cells #[Value.bool false] 4) (Obj.cells #[Value.string (ba s)] 9) (Obj.cells #[Value.string { data:=#[47] }] 9) (Obj.cells #[Value.int IntKind.i64 0] 3)
  rw [hW0]
  clear hW0
  obtain ⟨c1,f1⟩:=q83 g0
  obtain ⟨c2,f2⟩:=q83 g1
  obtain ⟨c3,f3⟩:=q83 g2
  obtain ⟨c4,f4⟩:=q83 g3
  refine range_split (n:=9) (by omega) 47 (w.heap.size+1) (w.heap.size+1+1) (w.heap.size+1+2) s (by omega) rfl ⟨c2,f2⟩
   (Rng (.string (ba [47])) (w.heap.size+1+1) w.heap.size (w.heap.size+1+1) (w.heap.size+1+2) 47 w qhk) (RngX w.heap.size w qhk) (jdh (by omega)) (j84 (by omega))
   (fun pre W h=>⟨h.cP,h.cC,(hI.below h.below).maxLen⟩) (fun pre W v h=>jbs v h (by omega) (by omega) (by omega) (by omega) (by omega)) ⟨c3,c1,f1,c3,c4,hb0,rfl⟩
   (fun x=>{ tmps:=#[.string (ba s),undef,.pointer (some ⟨w.heap.size,0,none⟩),.string (ba x),.string (ba s),.int .i64 s.length,.bool (decide ((60:Int)<s.length)),.string (ba s),.func (.func 160) #[] #[.pointer (some ⟨w.heap.size+1+1,0,none⟩),.pointer (some ⟨w.heap.size+1,0,none⟩),.pointer (some ⟨w.heap.size+1+2,0,none⟩)],.string (ba x),undef,undef,undef],defers:=[] }) ?assign ?body ?done ?stop
  case assign =>
   intro l x W K hK
   gi_wp2
   exact hK
  case body =>
   intro l pre x r W hi hL hx
   have k1:=hi.res
   have k2:=hi.frz
   have hc:=j7e x W (hI.below hi.below) (by omega)
   cases hpx:qhk x with
   | true =>
    rw [hpx] at hc
    gi_wp2_with (refine ⟨trivial,?_⟩;gi_at_call 131;refine (CallsIn.inRound l (callsIn_wide.2 hc)).mono ?_;rintro e w' ⟨rfl,hb'⟩)
    exact ⟨q4r hb',j4e hi hb' (by simp [hpx]),qxe hL hb'⟩
   | false =>
    rw [hpx] at hc
    gi_wp2_with (refine ⟨trivial,?_⟩;gi_at_call 131;refine (CallsIn.inRound l (callsIn_wide.2 hc)).mono ?_;rintro e w' ⟨rfl,hb'⟩;have k3:=q3t hb' hi.res;have k4:=(q7m hb' hi.res).trans hi.frz)
    exact ⟨(q4r hb').trans (KeepsOthers.setCell _ _ _),World.cell?_setCell_same' _ _ _ (by rw [k3];rfl),(hi.below.trans (hb'.mono hi.below.size)).setCell (by simp) _,by simp [hpx]⟩
  case done =>
   intro D W hD hi hK
   have k1:=hi.res
   have k2:=hi.frz
   gi_wp2
   have hK':=(KeepsOthers.setCell W ⟨w.heap.size,0,none⟩ (.bool true)).same D _ hK rfl
   have hW':Below w.heap.size w (W.setCell ⟨w.heap.size,0,none⟩ (.bool true)):=hi.below.setCell (by simp) _
   have k5:(W.setCell ⟨w.heap.size,0,none⟩ (.bool true)).cell? ⟨w.heap.size,0,none⟩=some (.bool true):=World.cell?_setCell_same' _ _ _ (by rw [k1];rfl)
   generalize W.setCell ⟨w.heap.size,0,none⟩ (.bool true)=W2 at hK' hW' k5
   refine ⟨by simp,.inl ⟨_,_,rfl,run_takeDeferred hK',?_⟩⟩
   have hg:=grownBy_putObj' W2 D (.deferred none)
   refine ⟨_,qlr (b:=w.heap.size) (v:=.bool true) rfl rfl hag (cell_kept k5 hg (fun r e=>by cases e;exact ⟨_,hK',rfl⟩)),?_,?_⟩
   ·have ha:=hi.all
    unfold q4m;simp [h2,ha]
   ·exact hW'.grown hg hW'.size (fun k e=>by cases e;omega)
  case stop =>
   intro D pre x t W hD hsp hi hK
   refine ⟨by simp,.inl ⟨_,_,rfl,run_takeDeferred hK,?_⟩⟩
   have hg:=grownBy_putObj' W D (.deferred none)
   refine ⟨_,qlr (b:=w.heap.size) (v:=.bool false) rfl rfl hag (cell_kept hi.res hg (fun r e=>by cases e;exact ⟨_,hK,rfl⟩)),?_,?_⟩
   ·have ha:=j9q hsp hi.no
    unfold q4m;simp [ha]
   ·exact hi.below.grown hg hi.below.size (fun k e=>by cases e;omega)
 ·gi_wp2
  refine ⟨_,qlr (b:=w.heap.size) (v:=.bool false) rfl rfl hag (by simp),?_,?_⟩
  ·unfold q4m;simp [h2]
  ·exact (Below.refl _ w).alloc (Nat.le_refl _) _
def qef (s:List UInt8):Option Bool:=some (q4m s)
def qlj:FC:={ f:=102,args:=[strA],res:=boolA,F:=fun p=>qef p }
theorem qw4:q1a Inv Tryz.prog qlj:=fun G hG=>⟨⟨by kernel_rfl,fun (s:List UInt8) r h=>by
 have hr:q4m s=r:=Option.some.inj h
 intro Pc w vs hg hlt hv
 obtain ⟨l⟩:=vs
 match l,hv with
 | [x],⟨h1,_⟩ =>
  obtain rfl:x = .string (ba s):=q0n h1
  refine (qfr s w (hG.im w hg)).mono ?_
  rintro e w' ⟨rfl,hb⟩
  subst hr
  exact qcd rfl hb (q0l _)⟩,rfl⟩
end YthpgnliicpejoaaGreatDoor.AM
end Go.Proofs
