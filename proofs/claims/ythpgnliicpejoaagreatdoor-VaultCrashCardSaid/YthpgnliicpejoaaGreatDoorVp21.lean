
import Derived.Test.YthpgnliicpejoaaGreatDoorVp20
import Derived.Test.YthpgnliicpejoaaGreatDoorVp9
import Derived.Test.YthpgnliicpejoaaGreatDoorVp15
import Derived.Lib.Bytealg
import GoSem.Op.String
import Derived.Lib.ItoaNum
import Derived.Lib.AtoiAll
import Derived.Lib.SlTrimSet
import Derived.Test.YthpgnliicpejoaaGreatDoorVp18
namespace Go.Proofs
open Go.RowKit
set_option linter.unusedVariables false
set_option linter.unusedSimpArgs false
namespace YthpgnliicpejoaaGreatDoor.AM
theorem jfv {a b:ByteArray} : unB a=unB b↔a=b:=⟨fun h=>by rw [<-qbe a,<-qbe b,h],fun h=>by rw [h]⟩
theorem qcl (n:Nat) (k g q:Int) (s:List UInt8) (hs:s.length<=100000):qa8 n k g q s=some (if RM.may k g q (s.length:Int) (SM.q1g 1 s) then (unB (RM.q1a k g q (s.length:Int) (SM.q1g 1 s)),true) else ([],false)):=by
 have hM:=max_eq
 unfold qa8 qtk
 rw [if_pos (by omega),Option.bind_some]
 by_cases c:RM.may k g q (s.length:Int) (SM.q1g 1 s)
 ·have hb:=SM.j3b 1 s
  simp only [c,decide_true,Bool.not_true,cond_false,if_true]
  unfold jhi
  rw [if_pos c]
  unfold qvu
  rw [if_pos (show qxp (SM.q1g 1 s) by unfold qxp;omega),Option.bind_some,decide_eq_true c]
 ·simp only [c,decide_false,Bool.not_false,cond_true,if_false]
theorem qys:SM.q1g 1 []=1:=by decide
theorem qxl {D:DM.Dk} {f z:Nat} (h1:f+z<=512) (h2:2<=z) (h3:f+z<=D.secs.length) (hm:DM.q2e D):j89 D (f:Int) (z:Int):=⟨⟨by omega,by omega,by omega⟩,hm,by omega⟩
def jin (B:BL) (f z:Nat):Int×(List (List UInt8)×Int):=(q3k B f,((q3p B f z).1.map unB,((q3p B f z).2:Int)))
theorem qss (n:Nat) (hn:600<=n) (d:DkT) (hd:smD d) (f z:Nat) (h:j89 (q2m d) (f:Int) (z:Int)) :
  qih n d ((f:Int),(z:Int))=some (if q9q (flat (q2m d)) f then (jin (flat (q2m d)) f z,0) else ((0,([],0)),5)):=by
 obtain ⟨⟨c1,c2,c3⟩,hm,hl⟩:=id h
 have hB:f+z<=(flat (q2m d)).length:=by rw [qxg];omega
 unfold qih
 rw [jdg n d hd f z (by omega) (by omega),if_pos h,Option.bind_some]
 generalize flat (q2m d)=B at hB
 have hf:f<B.length:=by omega
 have hg:gB B f=B[f]:=j1s hf
 simp only [Bool.not_true,cond_false]
 rw [q37 (by rw [List.length_map];exact hf),Option.bind_some,List.getElem_map,qz8,Option.bind_some]
 have hgen:=q79 B f
 have hmay:=q9x hgen
 have eg:(qi5 B[f]).2.1=q3k B f:=by unfold q3k;rw [hg]
 show Option.bind (qa8 n 1 (qi5 B[f]).2.1 0 []) _=_
 rw [eg,qcl n 1 (q3k B f) 0 [] (by simp),Option.bind_some]
 have e0:(([]:List UInt8).length:Int)=0:=rfl
 rw [e0,qys,if_pos hmay]
 simp only [Bool.not_true,cond_false]
 by_cases c:q9q B f
 ·have c':RM.q1a 1 (q3k B f) 0 0 1=B[f]:=by rw [<-hg];exact c.symm
  rw [if_pos c,c',decide_eq_true rfl,Bool.not_true,cond_false]
  have w1:IntKind.wrap .i64 ((f:Int)+1)=((f+1:Nat):Int):=q1e (by omega)
  rw [w1,q0t]
  have hloop:=j5j n B f z (q3k B f) (by omega) hB n (f+1) [] (by omega) (by omega) (by simp)
  rw [List.map_nil] at hloop
  rw [hloop,Option.bind_some]
  have e2:q3a B (f+z) (q3k B f) (f+z - (f+1)) (f+1) []=q3p B f z:=by
   unfold q3p
   rw [show f+z - (f+1)=z - 1 from by omega]
  rw [e2]
  rfl
 ·have c' : ¬ unB (RM.q1a 1 (q3k B f) 0 0 1)=unB B[f]:=fun h=>c (by unfold q9q;rw [hg];exact (jfv.1 h).symm)
  rw [if_neg c,decide_eq_false c',Bool.not_false,cond_true]
theorem qd0 (n:Nat) (f z g:Int) (h1 : -9223372036854775808<=f) (h2:f<=9223372036854775807):q9g n (f,z) g=some (if chk f z/\0<=g/\g<=1073741824 then ([(false,(f,unB (RM.q1a 1 g 0 0 1))),(true,(0,[]))],0) else ([],1)):=by
 unfold q9g
 show Option.bind (qa8 n 1 g 0 []) _=_
 rw [qcl n 1 g 0 [] (by simp),Option.bind_some]
 have e0:(([]:List UInt8).length:Int)=0:=rfl
 rw [e0,qys,qfg n f z h1 h2,Option.bind_some]
 by_cases c:chk f z
 ·rw [decide_eq_true c,Bool.not_true,cond_false]
  by_cases c2:0<=g/\g<=1073741824
  ·rw [if_pos (q9x c2),if_pos ⟨c,c2⟩];rfl
  ·rw [if_neg (fun h=>c2 h.2.1),if_neg (fun h=>c2 h.2)];rfl
 ·rw [decide_eq_false c,Bool.not_false,cond_true,if_neg (fun h=>c h.1)]
def qbp (l:List DM.Ac):AcT:=l.map fun a=>(a.1,(a.2.1,unB a.2.2))
theorem ji6 (l:List DM.Ac):j2x (qbp l)=l:=by
 unfold j2x qbp
 rw [List.map_map]
 exact (List.map_congr_left fun x _=>by simp only [Function.comp,qbe];rfl).trans (List.map_id _)
theorem q5g (l:List DM.Ac):(qbp l).length=l.length:=by unfold qbp;simp
def txB (g:Int) (q:Nat) (p:ByteArray):ByteArray:=RM.q1a 2 g (q:Int) (p.size:Int) (SM.q1g 1 p.data.toList)
theorem qmw (n:Nat) (t:List UInt8) (p:ByteArray) (f z:Int) (nx:Nat) (hx:nx<=10000) (k:Nat) (hk:RM.q1d p=k) (hk2:k<=133) : ∀(m i:Nat),k - i<m->i<=k ->
  q6h n m t ((RM.qew p).map unB) (k:Int) (i:Int) f z (nx:Int) (qbp (qjn nx p i))=some (((),(t,((),()))),((((f,(z,(nx:Int))),()),(qbp (qjn nx p k),()))))
 | 0,i,h,_=>by omega
 | m+1,i,hm,hi=>by
  rw [qgv]
  unfold qwf
  by_cases c:i<k
  ·have ih:=qmw n t p f z nx hx k hk hk2 m (i+1) (by omega) (by omega)
   have hl:i<((RM.qew p).map unB).length:=by rw [List.length_map,RM.q2y];omega
   have w1:IntKind.wrap .i64 ((nx:Int)+1)=((nx+1:Nat):Int):=q1e (by omega)
   have w2:IntKind.wrap .i64 (((nx+1:Nat):Int)+(i:Int))=((nx+1+i:Nat):Int):=wrap_add (by omega) (by omega)
   have w3:IntKind.wrap .i64 ((i:Int)+1)=((i+1:Nat):Int):=q1e (by omega)
   rw [decide_eq_true (by omega),cond_true,q37 hl,Option.bind_some,w1,q0t,w2,q0t,qkf (by rw [q5g,q6t];simp;omega),Option.bind_some,w3,q0t]
   have e:qbp (qjn nx p i) ++ [(false,(((nx+1+i:Nat):Int),((RM.qew p).map unB)[i]))]=qbp (qjn nx p (i+1)):=by
    unfold qbp qjn
    rw [List.range_succ,List.map_append,List.map_append]
    simp [RM.qew]
   rw [e]
   exact ih
  ·obtain rfl:i=k:=by omega
   rw [decide_eq_false (by omega),cond_false]
theorem jbm (n:Nat) (hn:600<=n) (f z nx:Nat) (g:Int) (its:List (List UInt8)) (p:List UInt8) (h1:f+z<=512) (h2:2<=z) (h3:f<nx) (h4:nx<=f+z) (hg:0<=g/\g<=1073741824) (hq:its.length<=65535) :
  qs1 n ((f:Int),(z:Int)) (g,(its,(nx:Int))) p=some (if 4096<p.length then ([],2) else if f+z<nx+1+RM.q1d (ba p) then ([],3) else (qbp (q9y nx (ba p) (txB g its.length (ba p))),0)):=by
 have hM:=max_eq
 unfold qs1 qqq
 simp only
 rw [qfg n f z (by omega) (by omega),decide_eq_true (show chk (f:Int) (z:Int) from ⟨by omega,by omega,by omega⟩),Option.bind_some,cond_true,decide_eq_true (by omega),cond_true,wrap_add (by omega) (by omega),q0t,Option.bind_some,decide_eq_true (by omega),Bool.not_true,cond_false,
  decide_eq_false (by omega),cond_false,decide_eq_false (by omega),cond_false,decide_eq_false (by omega),cond_false]
 by_cases c1:4096<p.length
 ·rw [decide_eq_true (by omega),cond_true,if_pos c1]
 have hsz:(ba p).size=p.length:=q29 p
 have hdat:(ba p).data.toList=p:=qnl p
 have hcut:RM.q0v (p.length:Int)=(RM.q1d (ba p):Int):=by rw [<-hsz];exact RM.q93 _ (by omega)
 have hcl:=RM.qab (ba p)
 rw [decide_eq_false (by omega),cond_false,if_neg c1,qci n f z nx h1 (by omega),Option.bind_some]
 unfold q77
 rw [if_pos (show qxp (p.length:Int) by unfold qxp;omega),Option.bind_some,hcut,wrap64 (by omega) (by omega),q0t]
 by_cases c2:f+z<nx+1+RM.q1d (ba p)
 ·rw [decide_eq_true (by omega),cond_true,if_pos c2]
 rw [decide_eq_false (by omega),cond_false,if_neg c2]
 have hm:RM.may 2 g (its.length:Int) (p.length:Int) (SM.q1g 1 p):=⟨Or.inr rfl,hg,⟨by omega,by omega⟩,⟨by omega,by omega⟩,SM.q4v _ _⟩
 show Option.bind (qa8 n 2 g (its.length:Int) p) _=_
 rw [qcl n 2 g (its.length:Int) p (by omega),if_pos hm,Option.bind_some]
 unfold qsh
 rw [if_pos (by omega),Option.bind_some]
 have hll:((RM.qew (ba p)).map unB).length=RM.q1d (ba p):=by rw [List.length_map,RM.q2y]
 rw [hll]
 have hloop:=qmw n (unB (RM.q1a 2 g (its.length:Int) (p.length:Int) (SM.q1g 1 p))) (ba p) f z nx (by omega) (RM.q1d (ba p)) rfl hcl n 0 (by omega) (Nat.zero_le _)
 have e0:qbp (qjn nx (ba p) 0) = []:=rfl
 rw [e0] at hloop
 have hloop':=hloop
 rw [Int.natCast_zero] at hloop'
 simp only
 rw [hloop',Option.bind_some,qkf (by rw [q5g,q6t];simp;omega),Option.bind_some]
 have etx:txB g its.length (ba p)=RM.q1a 2 g (its.length:Int) (p.length:Int) (SM.q1g 1 p):=by unfold txB;rw [hdat,hsz]
 unfold q9y
 rw [etx]
 unfold qbp
 rw [List.map_append]
 rfl
theorem qg1 {g:Int} {q:Nat} {p:ByteArray} (hg:0<=g/\g<=1073741824) (hq:q<=65535) (hp:p.size<=4096):(txB g q p).size=32:=by
 unfold txB
 rw [RM.q52 _ _ _ _ _ ⟨Or.inr rfl,hg,⟨by omega,by omega⟩,⟨by omega,by omega⟩,SM.q4v _ _⟩]
 rfl
end YthpgnliicpejoaaGreatDoor.AM
end Go.Proofs
namespace Go.Proofs
open Go.RowKit
set_option linter.unusedVariables false
set_option linter.unusedSimpArgs false
namespace YthpgnliicpejoaaGreatDoor.AM
theorem j19 {B X:BL} {a b:Nat} (h:alike B X a b):alike X B a b:=fun j h1 h2=>(h j h1 h2).symm
theorem j0s {B X:BL} {f z:Nat} (hz:1<=z) (hB:f+z<=B.length) (hX:f+z<=X.length) (h:alike B X f (f+z)) :
  q3k X f=q3k B f/\(q9q X f↔q9q B f)/\q3p X f z=q3p B f z/\∀lo g q,f<=lo->(q85 X lo (f+z) g q↔q85 B lo (f+z) g q):=by
 have e0:=h f (Nat.le_refl _) (by omega)
 have eg:q3k X f=q3k B f:=by unfold q3k;rw [e0]
 have hle:(q3p B f z).2<=f+z:=qp3 _ _ _ (by omega)
 have hge:f+1<=(q3p B f z).2:=q8p _ _ _
 refine ⟨eg,?_,?_,fun lo g q hlo=>?_⟩
 ·unfold q9q;rw [eg,e0]
 ·have h1:=qaa (g:=q3k B f) hB hX (z - 1) (f+1) [] (by omega) (fun j h1 h2=>h j (by omega) (by unfold q3p at hle;omega))
  have hst:=qm4 (B:=B) (e:=f+z) (g:=q3k B f) (z - 1) (f+1) [] (by omega)
  unfold q3p at hge hle ⊢
  rw [eg,h1,q2c]
  intro hr
  have hen:_<=f+z:=hr.2.2.2.2.2.1
  exact hst (qm6 hX hB hr (fun j h1 h2=>(h j (by omega) (by omega)).symm)).1
 ·exact ⟨fun hc j h1 h2=>by rw [h j (by omega) h1];exact hc j h1 h2,fun hc j h1 h2=>by rw [<-h j (by omega) h1];exact hc j h1 h2⟩
theorem qbh (keep:Nat->Bool) (B:BL) (c x:List DM.Wr) : ∀k,k<=c.length->DM.q0k keep B (c++x) k=DM.q0k keep B c k
 | 0,_=>rfl
 | k+1,h=>by
  have ih:=qbh keep B c x k (by omega)
  unfold DM.q0k
  have hg:(c++x).getD k (0,⟨#[]⟩)=c.getD k (0,⟨#[]⟩):=by
   rw [List.getD_eq_getElem?_getD,List.getD_eq_getElem?_getD,List.getElem?_append_left (by omega)]
  rw [ih,hg]
theorem jbg (D:DM.Dk) (i:Int) (s:ByteArray):flat (DM.j2w D i s)=(flat D).set i.toNat (DM.q5b s):=by
 unfold flat DM.j2w
 simp only [List.length_append,List.length_cons,List.length_nil]
 conv=>lhs;unfold DM.q0k
 rw [if_pos rfl,qbh _ _ _ _ _ (Nat.le_refl _)]
 have hg:(D.cache ++ [(i,DM.q5b s)]).getD D.cache.length (0,⟨#[]⟩)=(i,DM.q5b s):=by
  rw [List.getD_eq_getElem?_getD,List.getElem?_append_right (Nat.le_refl _)];simp
 rw [hg]
theorem qft (B:BL):flat ⟨B,[]⟩=B:=rfl
theorem qgx (d:DkT):(q2m d).secs.length=d.1.length/\(q2m d).cache.length=d.2.length:=by unfold q2m;simp
theorem jkf {d:DkT} (h1:(q2m d).secs.length<=1000000) (h2:(q2m d).cache.length<=1000000):smD d:=by rw [(qgx d).1] at h1;rw [(qgx d).2] at h2;exact ⟨h1,h2⟩
theorem j4f {D:DM.Dk} (h1:D.secs.length<=1000000) (h2:D.cache.length<=1000000):smD (q6i D):=jkf (by rw [q1z];exact h1) (by rw [q1z];exact h2)
theorem qvt {B:BL} {f z:Nat} (hz:1<=z) (h:f+z<=512):f+1<=(q3p B f z).2/\(q3p B f z).2<=f+z/\(q3p B f z).1.length<=512:=by
 have h1:f+1<=(q3p B f z).2:=q8p _ _ _
 have h2:(q3p B f z).2<=f+z:=qp3 _ _ _ (by omega)
 have h3:(q3p B f z).1.length<=(q3p B f z).2:=qri _ _ _ (by simp)
 exact ⟨h1,h2,by omega⟩
theorem qxa (d:DkT) (hs:(q2m d).secs.length<=1000) (hc:(q2m d).cache.length<=1000) (l:List DM.Ac) (hl:l.length<=1000) (hsz : ∀a∈l,a.2.2.size<=32) (x:Int):q5s d (qbp l) x=some (q6i (DM.qw9 (q2m d) (l.take (min (max x 0) (l.length:Int)).toNat)),DM.qma (q2m d) (l.take (min (max x 0) (l.length:Int)).toNat)):=by
 unfold q5s
 rw [if_pos,ji6,q5g]
 refine ⟨?_,?_⟩
 ·unfold smR;rw [<-(qgx d).1,<-(qgx d).2];omega
 ·refine ⟨by rw [q5g];omega,fun a ha=>?_⟩
  unfold qbp at ha
  obtain ⟨b,hb,rfl⟩:=List.mem_map.1 ha
  have:=hsz b hb
  show (unB b.2.2).length<=1000
  have e:(unB b.2.2).length=b.2.2.size:=q94 _
  omega
theorem qqn {nx:Nat} {p h:ByteArray} (hh:h.size=32) : ∀a∈q9y nx p h,a.2.2.size<=32:=fun a ha=>by
 rcases List.mem_append.1 ha with h1|h1
 ·obtain ⟨i,hi,rfl⟩:=List.mem_map.1 h1
  simp only [RM.qbm];omega
 ·simp only [List.mem_cons,List.not_mem_nil,or_false] at h1
  rcases h1 with rfl|rfl|rfl
  ·exact Nat.zero_le _
  ·simp only [hh];omega
  ·exact Nat.zero_le _
theorem j63 {D:DM.Dk} (hm:DM.q2e D) {f:Nat} {t:ByteArray} (hf:f<D.secs.length) (ht:t.size=32) :
  DM.qma D [(false,(f:Int),t),flA]=0/\DM.qw9 D [(false,(f:Int),t),flA]=⟨(flat D).set f t,[]⟩/\DM.q2e ⟨(flat D).set f t,[]⟩:=by
 have hok : ∀a ∈ [((false,(f:Int),t):DM.Ac),flA],DM.q3t D.secs.length a:=fun a ha=>by
  simp only [List.mem_cons,List.not_mem_nil,or_false] at ha
  rcases ha with rfl|rfl
  ·refine Or.inr ?_
   unfold DM.q1y
   rw [if_pos ⟨by simp only;omega,by simp only;omega⟩,if_neg (by simp only [ht];omega)]
  ·exact Or.inl rfl
 obtain ⟨r1,r2,r3⟩:=qyl hm hok
 have e:DM.runK D [(false,(f:Int),t),flA]=⟨(flat D).set f t,[]⟩:=by
  show DM.q1c (fun _=>true) (DM.j2w D f t)=_
  have:=jbg D f t
  rw [qhw ht,Int.toNat_natCast] at this
  unfold DM.q1c
  unfold flat at this ⊢
  rw [this]
 exact ⟨r1,by rw [r2,e],by rw [<-e];exact r3⟩
def qqj (f:Nat) (g:Int):AcT:=[(false,((f:Int),unB (RM.q1a 1 g 0 0 1))),(true,(0,[]))]
theorem qg7 {g:Int} (h:0<=g/\g<=1073741824):(RM.q1a 1 g 0 0 1).size=32:=by rw [RM.q52 _ _ _ _ _ (q9x h)];rfl
theorem j36 (d:DkT) (hm:DM.q2e (q2m d)) (hs:(q2m d).secs.length<=1000) (hc:(q2m d).cache.length<=1000) (f:Nat) (g:Int) (hg:0<=g/\g<=1073741824) (hf:f<(q2m d).secs.length) :
  q5s d (qqj f g) 2=some (q6i ⟨(flat (q2m d)).set f (RM.q1a 1 g 0 0 1),[]⟩,0)/\DM.q2e ⟨(flat (q2m d)).set f (RM.q1a 1 g 0 0 1),[]⟩:=by
 have e:qqj f g=qbp [(false,(f:Int),RM.q1a 1 g 0 0 1),flA]:=rfl
 obtain ⟨r1,r2,r3⟩:=j63 hm hf (qg7 hg)
 refine ⟨?_,r3⟩
 rw [e,qxa d hs hc _ (by simp) (fun a ha=>?_) 2]
 ·have e2:(min (max (2:Int) 0) (([(false,(f:Int),RM.q1a 1 g 0 0 1),flA]:List DM.Ac).length:Int)).toNat=2:=by
   show (min (max (2:Int) 0) (2:Int)).toNat=2
   decide
  rw [e2]
  show some (q6i (DM.qw9 (q2m d) [(false,(f:Int),RM.q1a 1 g 0 0 1),flA]),DM.qma (q2m d) [(false,(f:Int),RM.q1a 1 g 0 0 1),flA])=_
  rw [r1,r2]
 ·simp only [List.mem_cons,List.not_mem_nil,or_false] at ha
  rcases ha with rfl|rfl
  ·simp only [qg7 hg];omega
  ·exact Nat.zero_le _
theorem jaz {n:Nat} (h1:1<=n) (h2:n<=512):DM.j8l (n:Int)=⟨List.replicate n DM.q2j,[]⟩:=by
 unfold DM.j8l;rw [if_pos ⟨by omega,by omega⟩,Int.toNat_natCast]
theorem j7k:DM.q2j.size=32:=by decide
theorem qay : ¬ RM.q1v DM.q2j:=by decide +kernel
theorem jd9 {n:Nat} (h1:1<=n) (h2:n<=512):DM.q2e ⟨List.replicate n DM.q2j,[]⟩:=by
 refine ⟨by simpa using h1,by simpa using h2,fun s hs=>?_,fun p hp=>by cases hp⟩
 rw [(List.mem_replicate.1 hs).2];exact j7k
end YthpgnliicpejoaaGreatDoor.AM
end Go.Proofs
namespace Go.Proofs.YthpgnliicpejoaaGreatDoor.AM
set_option linter.unusedVariables false
set_option linter.unusedSimpArgs false
structure Cmp {α:Type} (c:α->α->Int):Prop where
 rng : ∀x y,c x y = -1\/c x y=0\/c x y=1
 anti : ∀x y,c x y = - c y x
 tr : ∀x y z,c x y<=0->c y z<=0->c x z<=0
 eq : ∀x y,c x y=0->x=y
theorem Cmp.refl {α:Type} {c:α->α->Int} (h:Cmp c) (x:α):c x x=0:=by have:=h.anti x x;omega
theorem Cmp.zero {α:Type} {c:α->α->Int} (h:Cmp c) {x y:α} : c x y=0↔x=y:=⟨h.eq x y,fun e=>e ▸ h.refl x⟩
def cmpI (a b:Int):Int:=if a<b then -1 else if b<a then 1 else 0
theorem j9m:Cmp cmpI:=by
 refine ⟨fun x y=>?_,fun x y=>?_,fun x y z=>?_,fun x y=>?_⟩<;>unfold cmpI<;>repeat' split
 all_goals (try omega)
def or2 (x y:Int):Int:=if x=0 then y else x
def cmpP {α β:Type} (c:α->α->Int) (d:β->β->Int) (x y:α×β):Int:=or2 (c x.1 y.1) (d x.2 y.2)
theorem Cmp.key {α β:Type} {c:β->β->Int} (hc:Cmp c) (f:α->β) (hf : ∀x y,f x=f y->x=y):Cmp fun x y=>c (f x) (f y) :=
 ⟨fun x y=>hc.rng _ _,fun x y=>hc.anti _ _,fun x y z=>hc.tr _ _ _,fun x y h=>hf _ _ (hc.eq _ _ h)⟩
def cmpL {α:Type} (c:α->α->Int):List α->List α->Int
 | [],[]=>0
 | [],_::_=>-1
 | _::_,[]=>1
 | a::asx,b::bs=>or2 (c a b) (cmpL c asx bs)
theorem q5p {α:Type} {c:α->α->Int} (hc:Cmp c):Cmp (cmpL c):=by
 refine ⟨fun x=>?_,fun x=>?_,fun x=>?_,fun x=>?_⟩
 ·induction x with
  | nil=>intro y;cases y<;>simp [cmpL]
  | cons a asx ih=>intro y;cases y with
   | nil=>simp [cmpL]
   | cons b bs =>
    unfold cmpL or2;split
    ·exact ih bs
    ·exact hc.rng _ _
 ·induction x with
  | nil=>intro y;cases y<;>simp [cmpL]
  | cons a asx ih=>intro y;cases y with
   | nil=>simp [cmpL]
   | cons b bs =>
    have a1:=hc.anti a b
    have a2:=ih bs
    unfold cmpL or2;split<;>split<;>omega
 ·induction x with
  | nil=>intro y z;cases y<;>cases z<;>simp [cmpL]
  | cons a asx ih=>intro y z h1 h2;cases y with
   | nil=>simp [cmpL] at h1
   | cons b bs=>cases z with
    | nil=>simp [cmpL] at h2
    | cons d ds =>
     have h1':cmpP c (cmpL c) (a,asx) (b,bs)<=0:=h1
     have h2':cmpP c (cmpL c) (b,bs) (d,ds)<=0:=h2
     show or2 (c a d) (cmpL c asx ds)<=0
     unfold cmpP or2 at *
     dsimp only at *
     have t:=hc.tr a b d
     split at h1'<;>split at h2'
     ·rename_i e1 e2
      rw [hc.eq _ _ e1,hc.eq _ _ e2,hc.refl,if_pos rfl]
      exact ih bs ds h1' h2'
     ·rename_i e1 e2
      rw [hc.eq _ _ e1,if_neg e2];exact h2'
     ·rename_i e1 e2
      rw [<-hc.eq _ _ e2,if_neg e1];exact h1'
     ·rename_i e1 e2
      have t0:=t h1' h2'
      split
      ·rename_i e3
       have e4:=hc.eq _ _ e3
       have a1:=hc.anti a b
       rw [<-e4] at h2' e2
       omega
      ·exact t0
 ·induction x with
  | nil=>intro y;cases y<;>simp [cmpL]
  | cons a asx ih=>intro y h;cases y with
   | nil=>simp [cmpL] at h
   | cons b bs =>
    unfold cmpL or2 at h
    split at h
    ·rename_i e1
     rw [hc.eq _ _ e1,ih bs h]
    ·rename_i e1;exact absurd h e1
def jg3 (a b:UInt8):Int:=cmpI a.toNat b.toNat
theorem j3h (a b:UInt8):jg3 a b=if ((a.toNat:Nat):Int)<((b.toNat:Nat):Int) then -1 else if ((b.toNat:Nat):Int)<((a.toNat:Nat):Int) then 1 else 0:=rfl
theorem q5c:Cmp jg3:=j9m.key (fun a:UInt8=>((a.toNat:Nat):Int)) fun x y h=>UInt8.toNat_inj.1 (by omega)
theorem q4y : ∀a b:List UInt8,Lib.compareBytes a b=cmpL jg3 a b
 | [],[]=>rfl
 | [],_::_=>rfl
 | _::_,[]=>rfl
 | a::asx,b::bs=>by
  unfold Lib.compareBytes cmpL or2
  rw [q4y asx bs,j3h a b]
  have h1:a<b↔((a.toNat:Nat):Int)<((b.toNat:Nat):Int):=by rw [UInt8.lt_iff_toNat_lt];omega
  have h2:b<a↔((b.toNat:Nat):Int)<((a.toNat:Nat):Int):=by rw [UInt8.lt_iff_toNat_lt];omega
  simp only [h1,h2]
  split
  ·simp
  ·split
   ·simp
   ·simp
theorem q76 : ∀a b:List UInt8,Op.bytesLess a b=decide (cmpL jg3 a b<0)
 | [],[]=>rfl
 | [],_::_=>rfl
 | _::_,[]=>rfl
 | a::asx,b::bs=>by
  unfold Op.bytesLess cmpL or2
  rw [q76 asx bs,j3h a b]
  have h1:a<b↔((a.toNat:Nat):Int)<((b.toNat:Nat):Int):=by rw [UInt8.lt_iff_toNat_lt];omega
  have h3:(a==b)=decide (((a.toNat:Nat):Int)=((b.toNat:Nat):Int)):=by
   by_cases h:a=b
   ·subst h;simp
   ·have : ¬ ((a.toNat:Nat):Int)=((b.toNat:Nat):Int):=fun e=>h (UInt8.toNat_inj.1 (by omega))
    simp [h,this]
  rw [h3]
  simp only [h1]
  by_cases c1:((a.toNat:Nat):Int)<((b.toNat:Nat):Int)
  ·simp [c1]
  ·by_cases c2:((b.toNat:Nat):Int)<((a.toNat:Nat):Int)
   ·have : ¬ ((a.toNat:Nat):Int)=((b.toNat:Nat):Int):=by omega
    simp [c1,c2,this]
   ·have:((a.toNat:Nat):Int)=((b.toNat:Nat):Int):=by omega
    simp [c1,c2,this]
end Go.Proofs.YthpgnliicpejoaaGreatDoor.AM
namespace Go.Proofs.YthpgnliicpejoaaGreatDoor.AM
open Go.RowKit
set_option linter.unusedVariables false
set_option linter.unusedSimpArgs false
abbrev VD:=Int×(Int×(Int×(List UInt8×List UInt8)))
abbrev v0:VD:=(0,(0,(0,([],[]))))
def jk9 (c:UInt8):Bool:=decide (48<=c.toNat)&&decide (c.toNat<=57)
def isSg (c:UInt8):Bool:=(decide (97<=c.toNat)&&decide (c.toNat<=122))||(decide (65<=c.toNat)&&decide (c.toNat<=90))||jk9 c||decide (c.toNat=45)
end Go.Proofs.YthpgnliicpejoaaGreatDoor.AM
namespace Go.Proofs.YthpgnliicpejoaaGreatDoor.AM
open Go.RowKit
set_option linter.unusedVariables false
set_option linter.unusedSimpArgs false
def qiq (c:UInt8):Bool:=isSg c||decide (c.toNat=95)||decide (c.toNat=46)
def q9w (s:List UInt8):Bool:=!decide (s = [])&&(!decide (s = [46])&&(!decide (s = [46,46])&&s.all qiq))
def q3l (s:List UInt8):Bool:=decide (s.length<=60)&&(spl 47 [] s).all q9w
theorem j2u {s:List UInt8} (h:q3l s=true):s.length<=60/\(spl 47 [] s).all q9w=true:=by
 unfold q3l at h;simpa using h
end Go.Proofs.YthpgnliicpejoaaGreatDoor.AM
namespace Go.Proofs.YthpgnliicpejoaaGreatDoor.AM
open Go.RowKit
set_option linter.unusedVariables false
set_option maxRecDepth 20000
def qs0 (n:Nat):List LC:=[]
def qos (n:Nat) (a1:Int):Option (Bool) :=
 (bif decide ((97:Int)<=a1) then (bif decide (a1<=(122:Int)) then (bif decide (a1<=(122:Int)) then some true else (bif decide (a1=(45:Int)) then some true else (bif decide (a1=(95:Int)) then some true else some (decide (a1=(46:Int)))))) else (bif decide ((65:Int)<=a1) then (bif decide (a1<=(90:Int)) then (bif decide (a1<=(90:Int)) then some true else (bif decide (a1=(45:Int)) then some true else (bif decide (a1=(95:Int)) then some true else some (decide (a1=(46:Int)))))) else (bif decide ((48:Int)<=a1) then (bif decide (a1<=(57:Int)) then some true else (bif decide (a1=(45:Int)) then some true else (bif decide (a1=(95:Int)) then some true else some (decide (a1=(46:Int)))))) else (bif decide (a1=(45:Int)) then some true else (bif decide (a1=(95:Int)) then some true else some (decide (a1=(46:Int))))))) else (bif decide ((48:Int)<=a1) then (bif decide (a1<=(57:Int)) then some true else (bif decide (a1=(45:Int)) then some true else (bif decide (a1=(95:Int)) then some true else some (decide (a1=(46:Int)))))) else (bif decide (a1=(45:Int)) then some true else (bif decide (a1=(95:Int)) then some true else some (decide (a1=(46:Int)))))))) else (bif decide ((65:Int)<=a1) then (bif decide (a1<=(90:Int)) then (bif decide (a1<=(90:Int)) then some true else (bif decide (a1=(45:Int)) then some true else (bif decide (a1=(95:Int)) then some true else some (decide (a1=(46:Int)))))) else (bif decide ((48:Int)<=a1) then (bif decide (a1<=(57:Int)) then some true else (bif decide (a1=(45:Int)) then some true else (bif decide (a1=(95:Int)) then some true else some (decide (a1=(46:Int)))))) else (bif decide (a1=(45:Int)) then some true else (bif decide (a1=(95:Int)) then some true else some (decide (a1=(46:Int))))))) else (bif decide ((48:Int)<=a1) then (bif decide (a1<=(57:Int)) then some true else (bif decide (a1=(45:Int)) then some true else (bif decide (a1=(95:Int)) then some true else some (decide (a1=(46:Int)))))) else (bif decide (a1=(45:Int)) then some true else (bif decide (a1=(95:Int)) then some true else some (decide (a1=(46:Int))))))))
def qbz (n:Nat):FC:={ f:=150,args:=[.one (.c (.d (.int .u8)))],res:=.one (.c (.d .bool)),F:=fun p=>qos n p }
def qz1 (n:Nat):List FC:=[]
theorem j2o (n:Nat) {G:World->Prop} (hG:Know Inv G) : ∀c∈qz1 n,q3s Tryz.prog G c/\q1k c.args=true:=(fun _ h=>by cases h)
def qyu:q1h:=[]
theorem j9y:drB qyu (q0d Tryz.f150)=true:=by kernel_rfl
theorem ja2 (n:Nat) : ∀a,(qbz n).F a=main Tryz.prog 32 (qz1 n) (qs0 n) qyu (q0d Tryz.f150) [.tmp 2] (qbz n).args (qbz n).res a:=by intro a;kernel_rfl
theorem jcb (n:Nat):q19 Inv Tryz.prog (qbz n):=fun G hG=>⟨⟨by kernel_rfl,fun a r h=>q0s (c:=q0d Tryz.f150) Tryz.func150 (by kernel_rfl) (by kernel_rfl) (Nat.le_of_ble_eq_true (by kernel_rfl)) hG.st (by kernel_rfl) (rs:=[.tmp 2]) (by kernel_rfl) (j2o n hG) (lts:=qs0 n) (fun F hF hFG=>have hK:Know Inv F.G:=hFG ▸ hG;(q0p fun j L h1 h2 h3=>absurd h2 (Nat.not_lt.2 (Nat.le_trans (by decide +kernel) h1)))) j9y ((ja2 n a).symm.trans h)⟩,rfl⟩
@[reducible] def qch:SSt:=⟨[(0,.one (.c (.d .str))),(15,.one (.c (.d (.int .i64)))),(16,.one (.c (.d (.int .i64))))],[],[]⟩
@[reducible] def q6x:List (Exit×SSt):=[(.ret,⟨[(2,.one (.c (.d .bool)))],[],[]⟩),(.exit 0,⟨[],[],[]⟩)]
def qm9 (n:Nat) (rec:(List UInt8)->Int->Int->Option (((Bool×(Unit))×(Unit)×(Unit))⊕((Unit)×(Unit)×(Unit)))) (a1:List UInt8) (a2:Int) (a3:Int):Option (((Bool×(Unit))×(Unit)×(Unit))⊕((Unit)×(Unit)×(Unit))) :=
 (bif decide (a3<a2) then (sAt a1 a3).bind fun (c1:Int)=>(qos n c1).bind fun (r2:Bool)=>(bif !r2 then some (Sum.inl ((false,()),((),()))) else q0u (IntKind.wrap .i64 (a3+(1:Int))) fun (n3:Int)=>rec a1 a2 n3) else some (Sum.inr (((),((),())))))
def qnc (n:Nat) (rec:pSt qch->Option (q1l q6x)) (p:pSt qch):Option (q1l q6x):=qm9 n (fun a1 a2 a3=>rec ((a1,(a2,(a3,()))),((),()))) p.1.1 p.1.2.1 p.1.2.2.1
def q7b (n m:Nat) (a1:List UInt8) (a2:Int) (a3:Int):Option (((Bool×(Unit))×(Unit)×(Unit))⊕((Unit)×(Unit)×(Unit))):=q1r (qnc n) m ((a1,(a2,(a3,()))),((),()))
theorem qf3 (n m:Nat) (a1:List UInt8) (a2:Int) (a3:Int):q7b n (m+1) a1 a2 a3=qm9 n (fun a1 a2 a3=>q7b n m a1 a2 a3) a1 a2 a3:=rfl
def qzp (n:Nat):LC:={ sh:=qch,outs:=q6x,F:=q1r (qnc n) n }
def qio (n:Nat):List LC:=[qzp n]
def qw4 (n:Nat) (a1:List UInt8):Option (Bool) :=
 (bif decide (a1=([]:List UInt8)) then some false else (bif decide (a1=([46]:List UInt8)) then some false else (bif decide (a1=([46,46]:List UInt8)) then some false else (q7b n n a1 ((List.length a1:Nat):Int) (0:Int)).bind fun (o4:((Bool×(Unit))×(Unit)×(Unit))⊕((Unit)×(Unit)×(Unit)))=>Sum.elim (fun (q5:(Bool×(Unit))×(Unit)×(Unit))=>some q5.1.1) (fun (q6:(Unit)×(Unit)×(Unit))=>some true) o4)))
def qg2 (n:Nat):FC:={ f:=131,args:=[.one (.c (.d .str))],res:=.one (.c (.d .bool)),F:=fun p=>qw4 n p }
def qo9 (n:Nat):List FC:=[qbz n]
theorem qke (n:Nat) {G:World->Prop} (hG:Know Inv G) : ∀c∈qo9 n,q3s Tryz.prog G c/\q1k c.args=true:=List.forall_mem_cons.2 ⟨jcb n G hG,(fun _ h=>by cases h)⟩
def qmq:q1h:=[]
theorem qz3:drB qmq (q0d Tryz.f131)=true:=by kernel_rfl
theorem j3k (n:Nat) : ∀rec p,qnc n rec p=round Tryz.prog 25 (qo9 n) (qio n) qmq 1 qch q6x (q0h 0 0 (q0d Tryz.f131)) rec p:=by intro rec p;kernel_rfl
theorem j2n (n:Nat) {F:Fr} (hF:F.n=25) (hK:Know Inv F.G):qfv Tryz.prog F (qzp n) (q0h 0 0 (q0d Tryz.f131)) :=
 q26 hF (by kernel_rfl) (qke n hK) (j3k n) (fuel:=n) (fun _=>rfl) (q0p fun j L h1 h2 h3=>absurd h2 (Nat.not_lt.2 (Nat.le_trans (by decide +kernel) h1))) (q39 qz3)
theorem jbx (n:Nat) : ∀a,(qg2 n).F a=main Tryz.prog 25 (qo9 n) (qio n) qmq (q0d Tryz.f131) [.tmp 2] (qg2 n).args (qg2 n).res a:=by intro a;kernel_rfl
theorem j9n (n:Nat):q19 Inv Tryz.prog (qg2 n):=fun G hG=>⟨⟨by kernel_rfl,fun a r h=>q0s (c:=q0d Tryz.f131) Tryz.func131 (by kernel_rfl) (by kernel_rfl) (Nat.le_of_ble_eq_true (by kernel_rfl)) hG.st (by kernel_rfl) (rs:=[.tmp 2]) (by kernel_rfl) (qke n hG) (lts:=qio n) (fun F hF hFG=>have hK:Know Inv F.G:=hFG ▸ hG;(q0p (c:=(q0d Tryz.f131)) (fun j L h1 h2 h3=>by
  have h2':j<1:=Nat.lt_of_lt_of_le h2 (by decide +kernel)
  match j,h1,h2',h3 with
  | 0,_,_,h3=>obtain rfl:=Option.some.inj h3;exact (show q0h 0 0 (q0d Tryz.f131)=q0h 0 0 (q0d Tryz.f131) by kernel_rfl) ▸ j2n n hF hK
  | j+1,_,h2',_=>exact absurd h2' (by omega)))) qz3 ((jbx n a).symm.trans h)⟩,rfl⟩
end Go.Proofs.YthpgnliicpejoaaGreatDoor.AM
namespace Go.Proofs.YthpgnliicpejoaaGreatDoor.AM
open Go.RowKit
set_option linter.unusedVariables false
set_option linter.unusedSimpArgs false
theorem j2t (n:Nat) (c:UInt8):qos n ((c.toNat:Nat):Int)=some (qiq c):=by
 have h : ∀k:Fin 256,qos 0 ((k.val:Nat):Int)=some (qiq (UInt8.ofNat k.val)):=by decide +kernel
 have h1:=h ⟨c.toNat,c.toNat_lt⟩
 have e:UInt8.ofNat c.toNat=c:=by simp
 rw [e] at h1
 exact h1
theorem qly (n:Nat) (s:List UInt8) (hL:s.length<=1000000) : ∀m j:Nat,j<=s.length->s.length - j<m->q7b n m s ((s.length:Nat):Int) (j:Int)=some (if (s.drop j).all qiq=true then Sum.inr ((),((),())) else Sum.inl ((false,()),((),())))
 | 0,j,_,h=>absurd h (Nat.not_lt_zero _)
 | m+1,j,hj,h=>by
  rw [qf3]
  unfold qm9
  by_cases c0:j<s.length
  ·have c0':((j:Nat):Int)<((s.length:Nat):Int):=by omega
   have ih:=qly n s hL m (j+1) (by omega) (by omega)
   have hd:s.drop j=s[j]::s.drop (j+1):=(List.drop_eq_getElem_cons c0)
   simp only [c0',decide_true,cond_true,qyo c0,Option.bind_some,j2t,q0u,q1e (show j<4611686018427387904 by omega),ih,hd,List.all_cons]
   cases qiq s[j]<;>simp
  ·have c0' : ¬ ((j:Nat):Int)<((s.length:Nat):Int):=by omega
   have:s.drop j = []:=List.drop_eq_nil_of_le (by omega)
   simp [c0',this]
theorem j16 (n:Nat) (s:List UInt8) (hL:s.length<=1000000) (hn:s.length<n):qw4 n s=some (q9w s):=by
 unfold qw4 q9w
 have:=qly n s hL n 0 (Nat.zero_le _) (by omega)
 rw [show ((0:Nat):Int)=(0:Int) from rfl] at this
 rw [this,List.drop_zero]
 cases decide (s = [])<;>cases decide (s = [46])<;>cases decide (s = [46,46])<;>cases s.all qiq<;>rfl
end Go.Proofs.YthpgnliicpejoaaGreatDoor.AM
namespace Go.Proofs
open Go.RowKit Go.Shelf Go.Lib
attribute [local go_sem] Oper.semAt_some
set_option linter.unusedVariables false
set_option linter.unusedSimpArgs false
namespace YthpgnliicpejoaaGreatDoor.AM
theorem qnw {P:Program} {fn:Func} {p:Tmp} {ty:TypeId} {b:Nat} {v:Value} {tmps:Array Value} {w:World} (h:fn.results = #[.cell p ty]) (hp:tmps.getD p undef = .pointer (some ⟨b,0,none⟩)) (ha:qd3 P ty=some false)
  (hc:w.cell? ⟨b,0,none⟩=some v):(results fn tmps).run P w = .ok v w:=by
 have hp':tmps[p]?.getD undef = .pointer (some ⟨b,0,none⟩):=by simpa using hp
 simp only [results,h]
 simp [Sem.run_bind,hp',asAddr,loadVar,q2b ha w,go_sem,hc]
theorem q3z {W W':World} {a:Addr} {v:Value} (hb:Below W.heap.size W W') (h:W.cell? a=some v):W'.cell? a=some v:=by
 obtain ⟨o,ho,hc⟩:=cells_of_cell h
 exact (World.cell?_of_block ((hb.block _ (Array.getElem?_eq_some_iff.1 ho).1).trans ho |>.trans ho.symm)).trans h
theorem q8g {W W':World} {a:Addr} {v:Value} (hb:Below W.heap.size W W') (h:W.cell? a=some v):W'.frozen? a=W.frozen? a:=by
 obtain ⟨o,ho,hc⟩:=cells_of_cell h
 exact World.frozen?_of_block ((hb.block _ (Array.getElem?_eq_some_iff.1 ho).1).trans ho |>.trans ho.symm)
theorem q54 {W W':World} (hb:Below W.heap.size W W'):KeepsOthers W W':=⟨hb.size,fun k o h _=>(hb.block k (Array.getElem?_eq_some_iff.1 h).1).trans h⟩
theorem j1m {pS:Nat} {r:List UInt8} {W W':World} (h:Left pS r W) (hb:Below W.heap.size W W'):Left pS r W':=⟨q3z hb h.1,(q8g hb h.1).trans h.2⟩
theorem q8w {w:World} {b:Nat} {v:Value} {t:TypeId} (h:w.heap[b]? = some (.cells #[v] t (0,0))):w.cell? ⟨b,0,none⟩=some v/\w.frozen? ⟨b,0,none⟩=false:=by
 constructor
 ·simp [World.cell?,h]
 ·simp [World.frozen?,h]
theorem hag:qd3 Tryz.prog 4=some false:=by kernel_rfl
structure Rng (fv:Value) (pF pR:Nat) (pP pC:Nat) (c:UInt8) (w0:World) (pred:List UInt8->Bool) (pre:List (List UInt8)) (W:World):Prop where
 fn:W.cell? ⟨pF,0,none⟩=some fv
 res:W.cell? ⟨pR,0,none⟩=some (.bool false)
 frz:W.frozen? ⟨pR,0,none⟩=false
 cP:W.cell? ⟨pP,0,none⟩=some (.string (ba [c]))
 cC:W.cell? ⟨pC,0,none⟩=some (.int .i64 0)
 below:Below w0.heap.size w0 W
 all:pre.all pred=true
structure RngX (pR:Nat) (w0:World) (pred:List UInt8->Bool) (pre:List (List UInt8)) (W:World):Prop where
 res:W.cell? ⟨pR,0,none⟩=some (.bool false)
 below:Below w0.heap.size w0 W
 no:pre.all pred=false
theorem jhf {fv:Value} {pF pR pP pC:Nat} {c:UInt8} {w0:World} {pred:List UInt8->Bool} {B:Nat} (hB:w0.heap.size<=B):OwnFrom B (Rng fv pF pR pP pC c w0 pred):=fun s W W' row h hg hr =>
 ⟨q4s h.fn hg hr,q4s h.res hg hr,(frozen_kept h.res hg (fun r e=>(hr r e).2)).trans h.frz,q4s h.cP hg hr,q4s h.cC hg hr,h.below.grown hg h.below.size (fun k e=>Nat.le_trans hB (hr k e).1),h.all⟩
theorem jbl {pR:Nat} {w0:World} {pred:List UInt8->Bool} {B:Nat} (hB:w0.heap.size<=B):OwnFrom B (RngX pR w0 pred):=fun s W W' row h hg hr =>
 ⟨q4s h.res hg hr,h.below.grown hg h.below.size (fun k e=>Nat.le_trans hB (hr k e).1),h.no⟩
theorem j6m {fv:Value} {pF pR pP pC:Nat} {c:UInt8} {w0:World} {pred:List UInt8->Bool} {pre:List (List UInt8)} {x:List UInt8} {W W':World} (h:Rng fv pF pR pP pC c w0 pred pre W) (hb:Below W.heap.size W W') (hx:pred x=true):Rng fv pF pR pP pC c w0 pred (pre ++ [x]) W' :=
 ⟨q3z hb h.fn,q3z hb h.res,(q8g hb h.res).trans h.frz,q3z hb h.cP,q3z hb h.cC,h.below.trans (hb.mono h.below.size),by rw [List.all_append,h.all];simp [hx]⟩
theorem jfd {fv:Value} {pF pR pP pC:Nat} {c:UInt8} {w0:World} {pred:List UInt8->Bool} {pre:List (List UInt8)} {W:World} {q:Nat} (v:Value) (h:Rng fv pF pR pP pC c w0 pred pre W) (h0:w0.heap.size<=q) (h1:q≠pF) (h2:q≠pR) (h3:q≠pP) (h4:q≠pC):Rng fv pF pR pP pC c w0 pred pre (W.setCell ⟨q,0,none⟩ v):=by
 have ne : ∀p:Nat,q≠p->(W.setCell ⟨q,0,none⟩ v).cell? ⟨p,0,none⟩=W.cell? ⟨p,0,none⟩:=fun p hp=>World.cell?_setCell_other _ _ _ _ (by intro e;exact hp (by injection e with e))
 exact ⟨(ne _ h1).trans h.fn,(ne _ h2).trans h.res,by rw [World.frozen?_setCell];exact h.frz,(ne _ h3).trans h.cP,(ne _ h4).trans h.cC,h.below.setCell (by simpa using h0) _,h.all⟩
theorem four (w:World) (o0 o1 o2 o3:Obj) : ∃ W,((((w.alloc o0).alloc o1).alloc o2).alloc o3)=W/\W.heap.size=w.heap.size+4/\Below w.heap.size w W/\W.heap[w.heap.size]? = some o0/\W.heap[w.heap.size+1]? = some o1/\W.heap[w.heap.size+1+1]? = some o2/\W.heap[w.heap.size+1+2]? = some o3:=by
 have al : ∀(w:World) (o:Obj) (k:Nat),k<w.heap.size->(w.alloc o).heap[k]? = w.heap[k]?:=fun w o k h=>Below.heap_alloc _ _ _ h
 refine ⟨_,rfl,by simp,((((Below.refl _ w).alloc (Nat.le_refl _) _).alloc (by simp) _).alloc (by simp;omega) _).alloc (by simp;omega) _,?_,?_,?_,?_⟩
 ·rw [al _ _ _ (by simp<;>omega),al _ _ _ (by simp<;>omega),al _ _ _ (by simp),World.alloc_heap_new]
 ·rw [al _ _ _ (by simp<;>omega),al _ _ _ (by simp)]
  have:=World.alloc_heap_new (w.alloc o0) o1
  rw [World.size_alloc] at this;exact this
 ·rw [al _ _ _ (by simp)]
  have:=World.alloc_heap_new ((w.alloc o0).alloc o1) o2
  rw [World.size_alloc,World.size_alloc] at this;exact this
 ·have:=World.alloc_heap_new (((w.alloc o0).alloc o1).alloc o2) o3
  rw [World.size_alloc,World.size_alloc,World.size_alloc] at this;exact this
structure RngY (pR:Nat) (w0:World) (pred:List UInt8->Bool) (pre:List (List UInt8)) (W:World):Prop where
 res:W.cell? ⟨pR,0,none⟩=some (.bool true)
 below:Below w0.heap.size w0 W
 no:pre.all pred=false
theorem jbw {pred:List UInt8->Bool} {s x:List UInt8} {pre t:List (List UInt8)} (hsp:spl 47 [] s=pre++x::t) (hn:(pre ++ [x]).all pred=false):(spl 47 [] s).all pred=false:=by
 rw [List.all_append,Bool.and_eq_false_iff] at hn
 rw [hsp,List.all_append,Bool.and_eq_false_iff]
 rcases hn with hn|hn
 ·exact Or.inl hn
 ·refine Or.inr ?_
  simp only [List.all_cons,List.all_nil,Bool.and_true] at hn
  rw [List.all_cons,hn];rfl
end YthpgnliicpejoaaGreatDoor.AM
end Go.Proofs
namespace Go.Proofs
open Go.RowKit Go.Shelf Go.Lib
attribute [local go_sem] Oper.semAt_some
set_option linter.unusedVariables false
set_option linter.unusedSimpArgs false
namespace YthpgnliicpejoaaGreatDoor.AM
theorem jcl (x:List UInt8) (w:World) (hI:Inv w) (hx:x.length<=1000000):Calls Tryz.prog 131 #[.string (ba x)] w fun e w'=>e = .returned (.bool (q9w x))/\Below w.heap.size w w':=by
 have h:=(j9n 1000001 Inv q6n).1.2 x (q9w x) (j16 1000001 x (by omega) (by omega))
 refine (h (fun _ _=>False) w #[.string (ba x)] hI (fun b o h=>h.elim) ⟨q0m _,trivial⟩).mono ?_
 rintro e w' ⟨v,Pc,rfl,hb,_,_,hv⟩
 have hv':v = .bool (q9w x):=q0n hv
 rw [hv']
 exact ⟨rfl,hb⟩
set_option maxHeartbeats 2000000 in
theorem qjl (s:List UInt8) (w:World) (hI:Inv w):Calls Tryz.prog 102 #[.string (ba s)] w fun e w'=>e = .returned (.bool (q3l s))/\Below w.heap.size w w':=by
 refine (callsIn_wide (n:=9)).1 ?_
 refine callsIn_of_wp_marks Tryz.func102 rfl trivial ?_ rfl
 simp only [Tryz.ntmps102,List.size_toArray,List.length_cons,List.length_nil,Nat.reduceAdd,Nat.reduceSub,Array.replicate_succ,Array.replicate_zero,List.push_toArray,List.append_toArray,List.nil_append,List.cons_append]
 have hsz:(ba s).size=s.length:=q29 s
 by_cases h2:s.length<=60
 ·skip
  gi_wp2_with (refine ⟨trivial,?_⟩;gi_at_call 130;refine (callsIn_wide.2 (qk3 _ _ _)).mono ?_;rintro e w' ⟨rfl,rfl⟩)
  obtain ⟨W0,hW0,hs0,hb0,g0,g1,g2,g3⟩:=four w (Obj.cells #[Value.bool false] 4) (Obj.cells #[Value.string (ba s)] 9) (Obj.cells #[Value.string { data:=#[47] }] 9) (Obj.cells #[Value.int IntKind.i64 0] 3)
  rw [hW0]
  clear hW0
  obtain ⟨c1,f1⟩:=q8w g0
  obtain ⟨c2,f2⟩:=q8w g1
  obtain ⟨c3,f3⟩:=q8w g2
  obtain ⟨c4,f4⟩:=q8w g3
  refine range_split (n:=9) (by omega) 47 (w.heap.size+1) (w.heap.size+1+1) (w.heap.size+1+2) s (by omega) rfl ⟨c2,f2⟩
   (Rng (.string (ba [47])) (w.heap.size+1+1) w.heap.size (w.heap.size+1+1) (w.heap.size+1+2) 47 w q9w) (RngX w.heap.size w q9w) (jhf (by omega)) (jbl (by omega))
   (fun pre W h=>⟨h.cP,h.cC,(hI.below h.below).maxLen⟩) (fun pre W v h=>jfd v h (by omega) (by omega) (by omega) (by omega) (by omega)) ⟨c3,c1,f1,c3,c4,hb0,rfl⟩
   (fun x=>{ tmps:=#[.string (ba s),undef,.pointer (some ⟨w.heap.size,0,none⟩),.string (ba x),.string (ba s),.int .i64 s.length,.bool (decide ((60:Int)<s.length)),.string (ba s),.func (.func 160) #[] #[.pointer (some ⟨w.heap.size+1+1,0,none⟩),.pointer (some ⟨w.heap.size+1,0,none⟩),.pointer (some ⟨w.heap.size+1+2,0,none⟩)],.string (ba x),undef,undef,undef],defers:=[] }) ?assign ?body ?done ?stop
  case assign =>
   intro l x W K hK
   gi_wp2
   exact hK
  case body =>
   intro l pre x r W hi hL hx
   have k1:=hi.res
   have k2:=hi.frz
   have hc:=jcl x W (hI.below hi.below) (by omega)
   cases hpx:q9w x with
   | true =>
    rw [hpx] at hc
    gi_wp2_with (refine ⟨trivial,?_⟩;gi_at_call 131;refine (CallsIn.inRound l (callsIn_wide.2 hc)).mono ?_;rintro e w' ⟨rfl,hb'⟩)
    exact ⟨q54 hb',j6m hi hb' (by simp [hpx]),j1m hL hb'⟩
   | false =>
    rw [hpx] at hc
    gi_wp2_with (refine ⟨trivial,?_⟩;gi_at_call 131;refine (CallsIn.inRound l (callsIn_wide.2 hc)).mono ?_;rintro e w' ⟨rfl,hb'⟩;have k3:=q3z hb' hi.res;have k4:=(q8g hb' hi.res).trans hi.frz)
    exact ⟨(q54 hb').trans (KeepsOthers.setCell _ _ _),World.cell?_setCell_same' _ _ _ (by rw [k3];rfl),(hi.below.trans (hb'.mono hi.below.size)).setCell (by simp) _,by simp [hpx]⟩
  case done =>
   intro D W hD hi hK
   have k1:=hi.res
   have k2:=hi.frz
   gi_wp2
   have hK':=(KeepsOthers.setCell W ⟨w.heap.size,0,none⟩ (.bool true)).same D _ hK rfl
   have hW':Below w.heap.size w (W.setCell ⟨w.heap.size,0,none⟩ (.bool true)):=hi.below.setCell (by simp) _
   have k5:(W.setCell ⟨w.heap.size,0,none⟩ (.bool true)).cell? ⟨w.heap.size,0,none⟩=some (.bool true):=World.cell?_setCell_same' _ _ _ (by rw [k1];rfl)
   generalize W.setCell ⟨w.heap.size,0,none⟩ (.bool true)=W2 at hK' hW' k5
   refine ⟨by simp,.inl ⟨_,_,rfl,run_takeDeferred hK',?_⟩⟩
   have hg:=grownBy_putObj' W2 D (.deferred none)
   refine ⟨_,qnw (b:=w.heap.size) (v:=.bool true) rfl rfl hag (cell_kept k5 hg (fun r e=>by cases e;exact ⟨_,hK',rfl⟩)),?_,?_⟩
   ·have ha:=hi.all
    unfold q3l;simp [h2,ha]
   ·exact hW'.grown hg hW'.size (fun k e=>by cases e;omega)
  case stop =>
   intro D pre x t W hD hsp hi hK
   refine ⟨by simp,.inl ⟨_,_,rfl,run_takeDeferred hK,?_⟩⟩
   have hg:=grownBy_putObj' W D (.deferred none)
   refine ⟨_,qnw (b:=w.heap.size) (v:=.bool false) rfl rfl hag (cell_kept hi.res hg (fun r e=>by cases e;exact ⟨_,hK,rfl⟩)),?_,?_⟩
   ·have ha:=jbw hsp hi.no
    unfold q3l;simp [ha]
   ·exact hi.below.grown hg hi.below.size (fun k e=>by cases e;omega)
 ·gi_wp2
  refine ⟨_,qnw (b:=w.heap.size) (v:=.bool false) rfl rfl hag (by simp),?_,?_⟩
  ·unfold q3l;simp [h2]
  ·exact (Below.refl _ w).alloc (Nat.le_refl _) _
def qhp (s:List UInt8):Option Bool:=some (q3l s)
def qoj:FC:={ f:=102,args:=[strA],res:=boolA,F:=fun p=>qhp p }
theorem qwk:q19 Inv Tryz.prog qoj:=fun G hG=>⟨⟨by kernel_rfl,fun (s:List UInt8) r h=>by
 have hr:q3l s=r:=Option.some.inj h
 intro Pc w vs hg hlt hv
 obtain ⟨l⟩:=vs
 match l,hv with
 | [x],⟨h1,_⟩ =>
  obtain rfl:x = .string (ba s):=q0n h1
  refine (qjl s w (hG.im w hg)).mono ?_
  rintro e w' ⟨rfl,hb⟩
  subst hr
  exact qcx rfl hb (q0m _)⟩,rfl⟩
end YthpgnliicpejoaaGreatDoor.AM
end Go.Proofs
