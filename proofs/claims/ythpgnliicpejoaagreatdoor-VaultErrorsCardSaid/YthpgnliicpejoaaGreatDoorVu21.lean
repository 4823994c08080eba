
import Derived.Test.YthpgnliicpejoaaGreatDoorVu20
import Derived.Test.YthpgnliicpejoaaGreatDoorVu9
import Derived.Test.YthpgnliicpejoaaGreatDoorVu15
import Derived.Lib.Bytealg
import GoSem.Op.String
import Derived.Lib.ItoaNum
import Derived.Lib.AtoiAll
import Derived.Lib.SlTrimSet
import Derived.Test.YthpgnliicpejoaaGreatDoorVu18
namespace Go.Proofs
open Go.RowKit
set_option linter.unusedVariables false
set_option linter.unusedSimpArgs false
namespace YthpgnliicpejoaaGreatDoor.AM
theorem jfl {a b:ByteArray} : unB a=unB b↔a=b:=⟨fun h=>by rw [<-qct a,<-qct b,h],fun h=>by rw [h]⟩
theorem qby (n:Nat) (k g q:Int) (s:List UInt8) (hs:s.length<=100000):qap n k g q s=some (if RM.may k g q (s.length:Int) (SM.q1k 1 s) then (unB (RM.q1b k g q (s.length:Int) (SM.q1k 1 s)),true) else ([],false)):=by
 have hM:=max_eq
 unfold qap qvt
 rw [if_pos (by omega),Option.bind_some]
 by_cases c:RM.may k g q (s.length:Int) (SM.q1k 1 s)
 ·have hb:=SM.j6o 1 s
  simp only [c,decide_true,Bool.not_true,cond_false,if_true]
  unfold jgf
  rw [if_pos c]
  unfold qvs
  rw [if_pos (show qxu (SM.q1k 1 s) by unfold qxu;omega),Option.bind_some,decide_eq_true c]
 ·simp only [c,decide_false,Bool.not_false,cond_true,if_false]
theorem qxt:SM.q1k 1 []=1:=by decide
theorem qxi {D:DM.Dk} {f z:Nat} (h1:f+z<=512) (h2:2<=z) (h3:f+z<=D.secs.length) (hm:DM.q2s D):j5m D (f:Int) (z:Int):=⟨⟨by omega,by omega,by omega⟩,hm,by omega⟩
def jj2 (B:BL) (f z:Nat):Int×(List (List UInt8)×Int):=(q3m B f,((q3o B f z).1.map unB,((q3o B f z).2:Int)))
theorem qrh (n:Nat) (hn:600<=n) (d:DkT) (hd:smD d) (f z:Nat) (h:j5m (q2v d) (f:Int) (z:Int)) :
  qhq n d ((f:Int),(z:Int))=some (if qa6 (flat (q2v d)) f then (jj2 (flat (q2v d)) f z,0) else ((0,([],0)),5)):=by
 obtain ⟨⟨c1,c2,c3⟩,hm,hl⟩:=id h
 have hB:f+z<=(flat (q2v d)).length:=by rw [qzp];omega
 unfold qhq
 rw [jbk n d hd f z (by omega) (by omega),if_pos h,Option.bind_some]
 generalize flat (q2v d)=B at hB
 have hf:f<B.length:=by omega
 have hg:gB B f=B[f]:=j33 hf
 simp only [Bool.not_true,cond_false]
 rw [q2h (by rw [List.length_map];exact hf),Option.bind_some,List.getElem_map,qy2,Option.bind_some]
 have hgen:=q7k B f
 have hmay:=qao hgen
 have eg:(qj7 B[f]).2.1=q3m B f:=by unfold q3m;rw [hg]
 show Option.bind (qap n 1 (qj7 B[f]).2.1 0 []) _=_
 rw [eg,qby n 1 (q3m B f) 0 [] (by simp),Option.bind_some]
 have e0:(([]:List UInt8).length:Int)=0:=rfl
 rw [e0,qxt,if_pos hmay]
 simp only [Bool.not_true,cond_false]
 by_cases c:qa6 B f
 ·have c':RM.q1b 1 (q3m B f) 0 0 1=B[f]:=by rw [<-hg];exact c.symm
  rw [if_pos c,c',decide_eq_true rfl,Bool.not_true,cond_false]
  have w1:IntKind.wrap .i64 ((f:Int)+1)=((f+1:Nat):Int):=q19 (by omega)
  rw [w1,q0q]
  have hloop:=j9o n B f z (q3m B f) (by omega) hB n (f+1) [] (by omega) (by omega) (by simp)
  rw [List.map_nil] at hloop
  rw [hloop,Option.bind_some]
  have e2:q3a B (f+z) (q3m B f) (f+z - (f+1)) (f+1) []=q3o B f z:=by
   unfold q3o
   rw [show f+z - (f+1)=z - 1 from by omega]
  rw [e2]
  rfl
 ·have c' : ¬ unB (RM.q1b 1 (q3m B f) 0 0 1)=unB B[f]:=fun h=>c (by unfold qa6;rw [hg];exact (jfl.1 h).symm)
  rw [if_neg c,decide_eq_false c',Bool.not_false,cond_true]
theorem qe8 (n:Nat) (f z g:Int) (h1 : -9223372036854775808<=f) (h2:f<=9223372036854775807):q99 n (f,z) g=some (if chk f z/\0<=g/\g<=1073741824 then ([(false,(f,unB (RM.q1b 1 g 0 0 1))),(true,(0,[]))],0) else ([],1)):=by
 unfold q99
 show Option.bind (qap n 1 g 0 []) _=_
 rw [qby n 1 g 0 [] (by simp),Option.bind_some]
 have e0:(([]:List UInt8).length:Int)=0:=rfl
 rw [e0,qxt,qgk n f z h1 h2,Option.bind_some]
 by_cases c:chk f z
 ·rw [decide_eq_true c,Bool.not_true,cond_false]
  by_cases c2:0<=g/\g<=1073741824
  ·rw [if_pos (qao c2),if_pos ⟨c,c2⟩];rfl
  ·rw [if_neg (fun h=>c2 h.2.1),if_neg (fun h=>c2 h.2)];rfl
 ·rw [decide_eq_false c,Bool.not_false,cond_true,if_neg (fun h=>c h.1)]
def qba (l:List DM.Ac):AcT:=l.map fun a=>(a.1,(a.2.1,unB a.2.2))
theorem jfe (l:List DM.Ac):j3n (qba l)=l:=by
 unfold j3n qba
 rw [List.map_map]
 exact (List.map_congr_left fun x _=>by simp only [Function.comp,qct];rfl).trans (List.map_id _)
theorem q66 (l:List DM.Ac):(qba l).length=l.length:=by unfold qba;simp
def txB (g:Int) (q:Nat) (p:ByteArray):ByteArray:=RM.q1b 2 g (q:Int) (p.size:Int) (SM.q1k 1 p.data.toList)
theorem qnq (n:Nat) (t:List UInt8) (p:ByteArray) (f z:Int) (nx:Nat) (hx:nx<=10000) (k:Nat) (hk:RM.q1e p=k) (hk2:k<=133) : ∀(m i:Nat),k - i<m->i<=k ->
  q6i n m t ((RM.qfj p).map unB) (k:Int) (i:Int) f z (nx:Int) (qba (qk4 nx p i))=some (((),(t,((),()))),((((f,(z,(nx:Int))),()),(qba (qk4 nx p k),()))))
 | 0,i,h,_=>by omega
 | m+1,i,hm,hi=>by
  rw [qjj]
  unfold qx6
  by_cases c:i<k
  ·have ih:=qnq n t p f z nx hx k hk hk2 m (i+1) (by omega) (by omega)
   have hl:i<((RM.qfj p).map unB).length:=by rw [List.length_map,RM.q2y];omega
   have w1:IntKind.wrap .i64 ((nx:Int)+1)=((nx+1:Nat):Int):=q19 (by omega)
   have w2:IntKind.wrap .i64 (((nx+1:Nat):Int)+(i:Int))=((nx+1+i:Nat):Int):=wrap_add (by omega) (by omega)
   have w3:IntKind.wrap .i64 ((i:Int)+1)=((i+1:Nat):Int):=q19 (by omega)
   rw [decide_eq_true (by omega),cond_true,q2h hl,Option.bind_some,w1,q0q,w2,q0q,ql2 (by rw [q66,q7p];simp;omega),Option.bind_some,w3,q0q]
   have e:qba (qk4 nx p i) ++ [(false,(((nx+1+i:Nat):Int),((RM.qfj p).map unB)[i]))]=qba (qk4 nx p (i+1)):=by
    unfold qba qk4
    rw [List.range_succ,List.map_append,List.map_append]
    simp [RM.qfj]
   rw [e]
   exact ih
  ·obtain rfl:i=k:=by omega
   rw [decide_eq_false (by omega),cond_false]
theorem jbf (n:Nat) (hn:600<=n) (f z nx:Nat) (g:Int) (its:List (List UInt8)) (p:List UInt8) (h1:f+z<=512) (h2:2<=z) (h3:f<nx) (h4:nx<=f+z) (hg:0<=g/\g<=1073741824) (hq:its.length<=65535) :
  qqq n ((f:Int),(z:Int)) (g,(its,(nx:Int))) p=some (if 4096<p.length then ([],2) else if f+z<nx+1+RM.q1e (ba p) then ([],3) else (qba (qb5 nx (ba p) (txB g its.length (ba p))),0)):=by
 have hM:=max_eq
 unfold qqq qr5
 simp only
 rw [qgk n f z (by omega) (by omega),decide_eq_true (show chk (f:Int) (z:Int) from ⟨by omega,by omega,by omega⟩),Option.bind_some,cond_true,decide_eq_true (by omega),cond_true,wrap_add (by omega) (by omega),q0q,Option.bind_some,decide_eq_true (by omega),Bool.not_true,cond_false,
  decide_eq_false (by omega),cond_false,decide_eq_false (by omega),cond_false,decide_eq_false (by omega),cond_false]
 by_cases c1:4096<p.length
 ·rw [decide_eq_true (by omega),cond_true,if_pos c1]
 have hsz:(ba p).size=p.length:=q21 p
 have hdat:(ba p).data.toList=p:=qpb p
 have hcut:RM.q0w (p.length:Int)=(RM.q1e (ba p):Int):=by rw [<-hsz];exact RM.q9l _ (by omega)
 have hcl:=RM.qa8 (ba p)
 rw [decide_eq_false (by omega),cond_false,if_neg c1,qbv n f z nx h1 (by omega),Option.bind_some]
 unfold q7n
 rw [if_pos (show qxu (p.length:Int) by unfold qxu;omega),Option.bind_some,hcut,wrap64 (by omega) (by omega),q0q]
 by_cases c2:f+z<nx+1+RM.q1e (ba p)
 ·rw [decide_eq_true (by omega),cond_true,if_pos c2]
 rw [decide_eq_false (by omega),cond_false,if_neg c2]
 have hm:RM.may 2 g (its.length:Int) (p.length:Int) (SM.q1k 1 p):=⟨Or.inr rfl,hg,⟨by omega,by omega⟩,⟨by omega,by omega⟩,SM.q54 _ _⟩
 show Option.bind (qap n 2 g (its.length:Int) p) _=_
 rw [qby n 2 g (its.length:Int) p (by omega),if_pos hm,Option.bind_some]
 unfold qrq
 rw [if_pos (by omega),Option.bind_some]
 have hll:((RM.qfj (ba p)).map unB).length=RM.q1e (ba p):=by rw [List.length_map,RM.q2y]
 rw [hll]
 have hloop:=qnq n (unB (RM.q1b 2 g (its.length:Int) (p.length:Int) (SM.q1k 1 p))) (ba p) f z nx (by omega) (RM.q1e (ba p)) rfl hcl n 0 (by omega) (Nat.zero_le _)
 have e0:qba (qk4 nx (ba p) 0) = []:=rfl
 rw [e0] at hloop
 have hloop':=hloop
 rw [Int.natCast_zero] at hloop'
 simp only
 rw [hloop',Option.bind_some,ql2 (by rw [q66,q7p];simp;omega),Option.bind_some]
 have etx:txB g its.length (ba p)=RM.q1b 2 g (its.length:Int) (p.length:Int) (SM.q1k 1 p):=by unfold txB;rw [hdat,hsz]
 unfold qb5
 rw [etx]
 unfold qba
 rw [List.map_append]
 rfl
theorem qgp {g:Int} {q:Nat} {p:ByteArray} (hg:0<=g/\g<=1073741824) (hq:q<=65535) (hp:p.size<=4096):(txB g q p).size=32:=by
 unfold txB
 rw [RM.q5n _ _ _ _ _ ⟨Or.inr rfl,hg,⟨by omega,by omega⟩,⟨by omega,by omega⟩,SM.q54 _ _⟩]
 rfl
end YthpgnliicpejoaaGreatDoor.AM
end Go.Proofs
namespace Go.Proofs
open Go.RowKit
set_option linter.unusedVariables false
set_option linter.unusedSimpArgs false
namespace YthpgnliicpejoaaGreatDoor.AM
theorem j1t {B X:BL} {a b:Nat} (h:alike B X a b):alike X B a b:=fun j h1 h2=>(h j h1 h2).symm
theorem j12 {B X:BL} {f z:Nat} (hz:1<=z) (hB:f+z<=B.length) (hX:f+z<=X.length) (h:alike B X f (f+z)) :
  q3m X f=q3m B f/\(qa6 X f↔qa6 B f)/\q3o X f z=q3o B f z/\∀lo g q,f<=lo->(q8n X lo (f+z) g q↔q8n B lo (f+z) g q):=by
 have e0:=h f (Nat.le_refl _) (by omega)
 have eg:q3m X f=q3m B f:=by unfold q3m;rw [e0]
 have hle:(q3o B f z).2<=f+z:=qps _ _ _ (by omega)
 have hge:f+1<=(q3o B f z).2:=q9k _ _ _
 refine ⟨eg,?_,?_,fun lo g q hlo=>?_⟩
 ·unfold qa6;rw [eg,e0]
 ·have h1:=qae (g:=q3m B f) hB hX (z - 1) (f+1) [] (by omega) (fun j h1 h2=>h j (by omega) (by unfold q3o at hle;omega))
  have hst:=qku (B:=B) (e:=f+z) (g:=q3m B f) (z - 1) (f+1) [] (by omega)
  unfold q3o at hge hle ⊢
  rw [eg,h1,q29]
  intro hr
  have hen:_<=f+z:=hr.2.2.2.2.2.1
  exact hst (qma hX hB hr (fun j h1 h2=>(h j (by omega) (by omega)).symm)).1
 ·exact ⟨fun hc j h1 h2=>by rw [h j (by omega) h1];exact hc j h1 h2,fun hc j h1 h2=>by rw [<-h j (by omega) h1];exact hc j h1 h2⟩
theorem qcl (keep:Nat->Bool) (B:BL) (c x:List DM.Wr) : ∀k,k<=c.length->DM.q0m keep B (c++x) k=DM.q0m keep B c k
 | 0,_=>rfl
 | k+1,h=>by
  have ih:=qcl keep B c x k (by omega)
  unfold DM.q0m
  have hg:(c++x).getD k (0,⟨#[]⟩)=c.getD k (0,⟨#[]⟩):=by
   rw [List.getD_eq_getElem?_getD,List.getD_eq_getElem?_getD,List.getElem?_append_left (by omega)]
  rw [ih,hg]
theorem jai (D:DM.Dk) (i:Int) (s:ByteArray):flat (DM.j3i D i s)=(flat D).set i.toNat (DM.q5p s):=by
 unfold flat DM.j3i
 simp only [List.length_append,List.length_cons,List.length_nil]
 conv=>lhs;unfold DM.q0m
 rw [if_pos rfl,qcl _ _ _ _ _ (Nat.le_refl _)]
 have hg:(D.cache ++ [(i,DM.q5p s)]).getD D.cache.length (0,⟨#[]⟩)=(i,DM.q5p s):=by
  rw [List.getD_eq_getElem?_getD,List.getElem?_append_right (Nat.le_refl _)];simp
 rw [hg]
theorem qmq (B:BL):flat ⟨B,[]⟩=B:=rfl
theorem qly (d:DkT):(q2v d).secs.length=d.1.length/\(q2v d).cache.length=d.2.length:=by unfold q2v;simp
theorem jkf {d:DkT} (h1:(q2v d).secs.length<=1000000) (h2:(q2v d).cache.length<=1000000):smD d:=by rw [(qly d).1] at h1;rw [(qly d).2] at h2;exact ⟨h1,h2⟩
theorem j3x {D:DM.Dk} (h1:D.secs.length<=1000000) (h2:D.cache.length<=1000000):smD (qd6 D):=jkf (by rw [q2j];exact h1) (by rw [q2j];exact h2)
theorem qu5 {B:BL} {f z:Nat} (hz:1<=z) (h:f+z<=512):f+1<=(q3o B f z).2/\(q3o B f z).2<=f+z/\(q3o B f z).1.length<=512:=by
 have h1:f+1<=(q3o B f z).2:=q9k _ _ _
 have h2:(q3o B f z).2<=f+z:=qps _ _ _ (by omega)
 have h3:(q3o B f z).1.length<=(q3o B f z).2:=qtj _ _ _ (by simp)
 exact ⟨h1,h2,by omega⟩
theorem qxy (d:DkT) (hs:(q2v d).secs.length<=1000) (hc:(q2v d).cache.length<=1000) (l:List DM.Ac) (hl:l.length<=1000) (hsz : ∀a∈l,a.2.2.size<=32) (x:Int):q6j d (qba l) x=some (qd6 (DM.qui (q2v d) (l.take (min (max x 0) (l.length:Int)).toNat)),DM.qp4 (q2v d) (l.take (min (max x 0) (l.length:Int)).toNat)):=by
 unfold q6j
 rw [if_pos,jfe,q66]
 refine ⟨?_,?_⟩
 ·unfold smR;rw [<-(qly d).1,<-(qly d).2];omega
 ·refine ⟨by rw [q66];omega,fun a ha=>?_⟩
  unfold qba at ha
  obtain ⟨b,hb,rfl⟩:=List.mem_map.1 ha
  have:=hsz b hb
  show (unB b.2.2).length<=1000
  have e:(unB b.2.2).length=b.2.2.size:=q9a _
  omega
theorem qry {nx:Nat} {p h:ByteArray} (hh:h.size=32) : ∀a∈qb5 nx p h,a.2.2.size<=32:=fun a ha=>by
 rcases List.mem_append.1 ha with h1|h1
 ·obtain ⟨i,hi,rfl⟩:=List.mem_map.1 h1
  simp only [RM.qcp];omega
 ·simp only [List.mem_cons,List.not_mem_nil,or_false] at h1
  rcases h1 with rfl|rfl|rfl
  ·exact Nat.zero_le _
  ·simp only [hh];omega
  ·exact Nat.zero_le _
theorem j6t {D:DM.Dk} (hm:DM.q2s D) {f:Nat} {t:ByteArray} (hf:f<D.secs.length) (ht:t.size=32) :
  DM.qp4 D [(false,(f:Int),t),flA]=0/\DM.qui D [(false,(f:Int),t),flA]=⟨(flat D).set f t,[]⟩/\DM.q2s ⟨(flat D).set f t,[]⟩:=by
 have hok : ∀a ∈ [((false,(f:Int),t):DM.Ac),flA],DM.q3y D.secs.length a:=fun a ha=>by
  simp only [List.mem_cons,List.not_mem_nil,or_false] at ha
  rcases ha with rfl|rfl
  ·refine Or.inr ?_
   unfold DM.q20
   rw [if_pos ⟨by simp only;omega,by simp only;omega⟩,if_neg (by simp only [ht];omega)]
  ·exact Or.inl rfl
 obtain ⟨r1,r2,r3⟩:=j04 hm hok
 have e:DM.runK D [(false,(f:Int),t),flA]=⟨(flat D).set f t,[]⟩:=by
  show DM.q1n (fun _=>true) (DM.j3i D f t)=_
  have:=jai D f t
  rw [qk2 ht,Int.toNat_natCast] at this
  unfold DM.q1n
  unfold flat at this ⊢
  rw [this]
 exact ⟨r1,by rw [r2,e],by rw [<-e];exact r3⟩
def qt0 (f:Nat) (g:Int):AcT:=[(false,((f:Int),unB (RM.q1b 1 g 0 0 1))),(true,(0,[]))]
theorem qgi {g:Int} (h:0<=g/\g<=1073741824):(RM.q1b 1 g 0 0 1).size=32:=by rw [RM.q5n _ _ _ _ _ (qao h)];rfl
theorem j7q (d:DkT) (hm:DM.q2s (q2v d)) (hs:(q2v d).secs.length<=1000) (hc:(q2v d).cache.length<=1000) (f:Nat) (g:Int) (hg:0<=g/\g<=1073741824) (hf:f<(q2v d).secs.length) :
  q6j d (qt0 f g) 2=some (qd6 ⟨(flat (q2v d)).set f (RM.q1b 1 g 0 0 1),[]⟩,0)/\DM.q2s ⟨(flat (q2v d)).set f (RM.q1b 1 g 0 0 1),[]⟩:=by
 have e:qt0 f g=qba [(false,(f:Int),RM.q1b 1 g 0 0 1),flA]:=rfl
 obtain ⟨r1,r2,r3⟩:=j6t hm hf (qgi hg)
 refine ⟨?_,r3⟩
 rw [e,qxy d hs hc _ (by simp) (fun a ha=>?_) 2]
 ·have e2:(min (max (2:Int) 0) (([(false,(f:Int),RM.q1b 1 g 0 0 1),flA]:List DM.Ac).length:Int)).toNat=2:=by
   show (min (max (2:Int) 0) (2:Int)).toNat=2
   decide
  rw [e2]
  show some (qd6 (DM.qui (q2v d) [(false,(f:Int),RM.q1b 1 g 0 0 1),flA]),DM.qp4 (q2v d) [(false,(f:Int),RM.q1b 1 g 0 0 1),flA])=_
  rw [r1,r2]
 ·simp only [List.mem_cons,List.not_mem_nil,or_false] at ha
  rcases ha with rfl|rfl
  ·simp only [qgi hg];omega
  ·exact Nat.zero_le _
theorem jag {n:Nat} (h1:1<=n) (h2:n<=512):DM.j8k (n:Int)=⟨List.replicate n DM.q2d,[]⟩:=by
 unfold DM.j8k;rw [if_pos ⟨by omega,by omega⟩,Int.toNat_natCast]
theorem j5q:DM.q2d.size=32:=by decide
theorem qcs : ¬ RM.q1w DM.q2d:=by decide +kernel
theorem jci {n:Nat} (h1:1<=n) (h2:n<=512):DM.q2s ⟨List.replicate n DM.q2d,[]⟩:=by
 refine ⟨by simpa using h1,by simpa using h2,fun s hs=>?_,fun p hp=>by cases hp⟩
 rw [(List.mem_replicate.1 hs).2];exact j5q
end YthpgnliicpejoaaGreatDoor.AM
end Go.Proofs
namespace Go.Proofs.YthpgnliicpejoaaGreatDoor.AM
set_option linter.unusedVariables false
set_option linter.unusedSimpArgs false
structure Cmp {α:Type} (c:α->α->Int):Prop where
 rng : ∀x y,c x y = -1\/c x y=0\/c x y=1
 anti : ∀x y,c x y = - c y x
 tr : ∀x y z,c x y<=0->c y z<=0->c x z<=0
 eq : ∀x y,c x y=0->x=y
theorem Cmp.refl {α:Type} {c:α->α->Int} (h:Cmp c) (x:α):c x x=0:=by have:=h.anti x x;omega
theorem Cmp.zero {α:Type} {c:α->α->Int} (h:Cmp c) {x y:α} : c x y=0↔x=y:=⟨h.eq x y,fun e=>e ▸ h.refl x⟩
def cmpI (a b:Int):Int:=if a<b then -1 else if b<a then 1 else 0
theorem jco:Cmp cmpI:=by
 refine ⟨fun x y=>?_,fun x y=>?_,fun x y z=>?_,fun x y=>?_⟩<;>unfold cmpI<;>repeat' split
 all_goals (try omega)
def or2 (x y:Int):Int:=if x=0 then y else x
def cmpP {α β:Type} (c:α->α->Int) (d:β->β->Int) (x y:α×β):Int:=or2 (c x.1 y.1) (d x.2 y.2)
theorem Cmp.key {α β:Type} {c:β->β->Int} (hc:Cmp c) (f:α->β) (hf : ∀x y,f x=f y->x=y):Cmp fun x y=>c (f x) (f y) :=
 ⟨fun x y=>hc.rng _ _,fun x y=>hc.anti _ _,fun x y z=>hc.tr _ _ _,fun x y h=>hf _ _ (hc.eq _ _ h)⟩
def cmpL {α:Type} (c:α->α->Int):List α->List α->Int
 | [],[]=>0
 | [],_::_=>-1
 | _::_,[]=>1
 | a::asx,b::bs=>or2 (c a b) (cmpL c asx bs)
theorem q3r {α:Type} {c:α->α->Int} (hc:Cmp c):Cmp (cmpL c):=by
 refine ⟨fun x=>?_,fun x=>?_,fun x=>?_,fun x=>?_⟩
 ·induction x with
  | nil=>intro y;cases y<;>simp [cmpL]
  | cons a asx ih=>intro y;cases y with
   | nil=>simp [cmpL]
   | cons b bs =>
    unfold cmpL or2;split
    ·exact ih bs
    ·exact hc.rng _ _
 ·induction x with
  | nil=>intro y;cases y<;>simp [cmpL]
  | cons a asx ih=>intro y;cases y with
   | nil=>simp [cmpL]
   | cons b bs =>
    have a1:=hc.anti a b
    have a2:=ih bs
    unfold cmpL or2;split<;>split<;>omega
 ·induction x with
  | nil=>intro y z;cases y<;>cases z<;>simp [cmpL]
  | cons a asx ih=>intro y z h1 h2;cases y with
   | nil=>simp [cmpL] at h1
   | cons b bs=>cases z with
    | nil=>simp [cmpL] at h2
    | cons d ds =>
     have h1':cmpP c (cmpL c) (a,asx) (b,bs)<=0:=h1
     have h2':cmpP c (cmpL c) (b,bs) (d,ds)<=0:=h2
     show or2 (c a d) (cmpL c asx ds)<=0
     unfold cmpP or2 at *
     dsimp only at *
     have t:=hc.tr a b d
     split at h1'<;>split at h2'
     ·rename_i e1 e2
      rw [hc.eq _ _ e1,hc.eq _ _ e2,hc.refl,if_pos rfl]
      exact ih bs ds h1' h2'
     ·rename_i e1 e2
      rw [hc.eq _ _ e1,if_neg e2];exact h2'
     ·rename_i e1 e2
      rw [<-hc.eq _ _ e2,if_neg e1];exact h1'
     ·rename_i e1 e2
      have t0:=t h1' h2'
      split
      ·rename_i e3
       have e4:=hc.eq _ _ e3
       have a1:=hc.anti a b
       rw [<-e4] at h2' e2
       omega
      ·exact t0
 ·induction x with
  | nil=>intro y;cases y<;>simp [cmpL]
  | cons a asx ih=>intro y h;cases y with
   | nil=>simp [cmpL] at h
   | cons b bs =>
    unfold cmpL or2 at h
    split at h
    ·rename_i e1
     rw [hc.eq _ _ e1,ih bs h]
    ·rename_i e1;exact absurd h e1
def ja4 (a b:UInt8):Int:=cmpI a.toNat b.toNat
theorem j59 (a b:UInt8):ja4 a b=if ((a.toNat:Nat):Int)<((b.toNat:Nat):Int) then -1 else if ((b.toNat:Nat):Int)<((a.toNat:Nat):Int) then 1 else 0:=rfl
theorem q3q:Cmp ja4:=jco.key (fun a:UInt8=>((a.toNat:Nat):Int)) fun x y h=>UInt8.toNat_inj.1 (by omega)
theorem q5c : ∀a b:List UInt8,Lib.compareBytes a b=cmpL ja4 a b
 | [],[]=>rfl
 | [],_::_=>rfl
 | _::_,[]=>rfl
 | a::asx,b::bs=>by
  unfold Lib.compareBytes cmpL or2
  rw [q5c asx bs,j59 a b]
  have h1:a<b↔((a.toNat:Nat):Int)<((b.toNat:Nat):Int):=by rw [UInt8.lt_iff_toNat_lt];omega
  have h2:b<a↔((b.toNat:Nat):Int)<((a.toNat:Nat):Int):=by rw [UInt8.lt_iff_toNat_lt];omega
  simp only [h1,h2]
  split
  ·simp
  ·split
   ·simp
   ·simp
theorem q3p : ∀a b:List UInt8,Op.bytesLess a b=decide (cmpL ja4 a b<0)
 | [],[]=>rfl
 | [],_::_=>rfl
 | _::_,[]=>rfl
 | a::asx,b::bs=>by
  unfold Op.bytesLess cmpL or2
  rw [q3p asx bs,j59 a b]
  have h1:a<b↔((a.toNat:Nat):Int)<((b.toNat:Nat):Int):=by rw [UInt8.lt_iff_toNat_lt];omega
  have h3:(a==b)=decide (((a.toNat:Nat):Int)=((b.toNat:Nat):Int)):=by
   by_cases h:a=b
   ·subst h;simp
   ·have : ¬ ((a.toNat:Nat):Int)=((b.toNat:Nat):Int):=fun e=>h (UInt8.toNat_inj.1 (by omega))
    simp [h,this]
  rw [h3]
  simp only [h1]
  by_cases c1:((a.toNat:Nat):Int)<((b.toNat:Nat):Int)
  ·simp [c1]
  ·by_cases c2:((b.toNat:Nat):Int)<((a.toNat:Nat):Int)
   ·have : ¬ ((a.toNat:Nat):Int)=((b.toNat:Nat):Int):=by omega
    simp [c1,c2,this]
   ·have:((a.toNat:Nat):Int)=((b.toNat:Nat):Int):=by omega
    simp [c1,c2,this]
end Go.Proofs.YthpgnliicpejoaaGreatDoor.AM
namespace Go.Proofs.YthpgnliicpejoaaGreatDoor.AM
open Go.RowKit
set_option linter.unusedVariables false
set_option linter.unusedSimpArgs false
abbrev VD:=Int×(Int×(Int×(List UInt8×List UInt8)))
abbrev v0:VD:=(0,(0,(0,([],[]))))
def jke (c:UInt8):Bool:=decide (48<=c.toNat)&&decide (c.toNat<=57)
def isSg (c:UInt8):Bool:=(decide (97<=c.toNat)&&decide (c.toNat<=122))||(decide (65<=c.toNat)&&decide (c.toNat<=90))||jke c||decide (c.toNat=45)
end Go.Proofs.YthpgnliicpejoaaGreatDoor.AM
namespace Go.Proofs.YthpgnliicpejoaaGreatDoor.AM
open Go.RowKit
set_option linter.unusedVariables false
set_option linter.unusedSimpArgs false
def qh6 (c:UInt8):Bool:=isSg c||decide (c.toNat=95)||decide (c.toNat=46)
def qaa (s:List UInt8):Bool:=!decide (s = [])&&(!decide (s = [46])&&(!decide (s = [46,46])&&s.all qh6))
def q38 (s:List UInt8):Bool:=decide (s.length<=60)&&(spl 47 [] s).all qaa
theorem j2w {s:List UInt8} (h:q38 s=true):s.length<=60/\(spl 47 [] s).all qaa=true:=by
 unfold q38 at h;simpa using h
end Go.Proofs.YthpgnliicpejoaaGreatDoor.AM
namespace Go.Proofs.YthpgnliicpejoaaGreatDoor.AM
open Go.RowKit
set_option linter.unusedVariables false
set_option maxRecDepth 20000
def qt9 (n:Nat):List LC:=[]
def qph (n:Nat) (a1:Int):Option (Bool) :=
 (bif decide ((97:Int)<=a1) then (bif decide (a1<=(122:Int)) then (bif decide (a1<=(122:Int)) then some true else (bif decide (a1=(45:Int)) then some true else (bif decide (a1=(95:Int)) then some true else some (decide (a1=(46:Int)))))) else (bif decide ((65:Int)<=a1) then (bif decide (a1<=(90:Int)) then (bif decide (a1<=(90:Int)) then some true else (bif decide (a1=(45:Int)) then some true else (bif decide (a1=(95:Int)) then some true else some (decide (a1=(46:Int)))))) else (bif decide ((48:Int)<=a1) then (bif decide (a1<=(57:Int)) then some true else (bif decide (a1=(45:Int)) then some true else (bif decide (a1=(95:Int)) then some true else some (decide (a1=(46:Int)))))) else (bif decide (a1=(45:Int)) then some true else (bif decide (a1=(95:Int)) then some true else some (decide (a1=(46:Int))))))) else (bif decide ((48:Int)<=a1) then (bif decide (a1<=(57:Int)) then some true else (bif decide (a1=(45:Int)) then some true else (bif decide (a1=(95:Int)) then some true else some (decide (a1=(46:Int)))))) else (bif decide (a1=(45:Int)) then some true else (bif decide (a1=(95:Int)) then some true else some (decide (a1=(46:Int)))))))) else (bif decide ((65:Int)<=a1) then (bif decide (a1<=(90:Int)) then (bif decide (a1<=(90:Int)) then some true else (bif decide (a1=(45:Int)) then some true else (bif decide (a1=(95:Int)) then some true else some (decide (a1=(46:Int)))))) else (bif decide ((48:Int)<=a1) then (bif decide (a1<=(57:Int)) then some true else (bif decide (a1=(45:Int)) then some true else (bif decide (a1=(95:Int)) then some true else some (decide (a1=(46:Int)))))) else (bif decide (a1=(45:Int)) then some true else (bif decide (a1=(95:Int)) then some true else some (decide (a1=(46:Int))))))) else (bif decide ((48:Int)<=a1) then (bif decide (a1<=(57:Int)) then some true else (bif decide (a1=(45:Int)) then some true else (bif decide (a1=(95:Int)) then some true else some (decide (a1=(46:Int)))))) else (bif decide (a1=(45:Int)) then some true else (bif decide (a1=(95:Int)) then some true else some (decide (a1=(46:Int))))))))
def qd4 (n:Nat):FC:={ f:=150,args:=[.one (.c (.d (.int .u8)))],res:=.one (.c (.d .bool)),F:=fun p=>qph n p }
def qxj (n:Nat):List FC:=[]
theorem j1e (n:Nat) {G:World->Prop} (hG:Know Inv G) : ∀c∈qxj n,q3s Tryz.prog G c/\q1j c.args=true:=(fun _ h=>by cases h)
def j0f:q1h:=[]
theorem jd2:drB j0f (q0b Tryz.f150)=true:=by kernel_rfl
theorem jdh (n:Nat) : ∀a,(qd4 n).F a=main Tryz.prog 32 (qxj n) (qt9 n) j0f (q0b Tryz.f150) [.tmp 2] (qd4 n).args (qd4 n).res a:=by intro a;kernel_rfl
theorem jaj (n:Nat):q18 Inv Tryz.prog (qd4 n):=fun G hG=>⟨⟨by kernel_rfl,fun a r h=>q0u (c:=q0b Tryz.f150) Tryz.func150 (by kernel_rfl) (by kernel_rfl) (Nat.le_of_ble_eq_true (by kernel_rfl)) hG.st (by kernel_rfl) (rs:=[.tmp 2]) (by kernel_rfl) (j1e n hG) (lts:=qt9 n) (fun F hF hFG=>have hK:Know Inv F.G:=hFG ▸ hG;(q0r fun j L h1 h2 h3=>absurd h2 (Nat.not_lt.2 (Nat.le_trans (by decide +kernel) h1)))) jd2 ((jdh n a).symm.trans h)⟩,rfl⟩
@[reducible] def qcc:SSt:=⟨[(0,.one (.c (.d .str))),(15,.one (.c (.d (.int .i64)))),(16,.one (.c (.d (.int .i64))))],[],[]⟩
@[reducible] def q7l:List (Exit×SSt):=[(.ret,⟨[(2,.one (.c (.d .bool)))],[],[]⟩),(.exit 0,⟨[],[],[]⟩)]
def qnw (n:Nat) (rec:(List UInt8)->Int->Int->Option (((Bool×(Unit))×(Unit)×(Unit))⊕((Unit)×(Unit)×(Unit)))) (a1:List UInt8) (a2:Int) (a3:Int):Option (((Bool×(Unit))×(Unit)×(Unit))⊕((Unit)×(Unit)×(Unit))) :=
 (bif decide (a3<a2) then (sAt a1 a3).bind fun (c1:Int)=>(qph n c1).bind fun (r2:Bool)=>(bif !r2 then some (Sum.inl ((false,()),((),()))) else q0n (IntKind.wrap .i64 (a3+(1:Int))) fun (n3:Int)=>rec a1 a2 n3) else some (Sum.inr (((),((),())))))
def qp3 (n:Nat) (rec:pSt qcc->Option (q1m q7l)) (p:pSt qcc):Option (q1m q7l):=qnw n (fun a1 a2 a3=>rec ((a1,(a2,(a3,()))),((),()))) p.1.1 p.1.2.1 p.1.2.2.1
def q6s (n m:Nat) (a1:List UInt8) (a2:Int) (a3:Int):Option (((Bool×(Unit))×(Unit)×(Unit))⊕((Unit)×(Unit)×(Unit))):=q1s (qp3 n) m ((a1,(a2,(a3,()))),((),()))
theorem qfp (n m:Nat) (a1:List UInt8) (a2:Int) (a3:Int):q6s n (m+1) a1 a2 a3=qnw n (fun a1 a2 a3=>q6s n m a1 a2 a3) a1 a2 a3:=rfl
def qxb (n:Nat):LC:={ sh:=qcc,outs:=q7l,F:=q1s (qp3 n) n }
def qja (n:Nat):List LC:=[qxb n]
def qx3 (n:Nat) (a1:List UInt8):Option (Bool) :=
 (bif decide (a1=([]:List UInt8)) then some false else (bif decide (a1=([46]:List UInt8)) then some false else (bif decide (a1=([46,46]:List UInt8)) then some false else (q6s n n a1 ((List.length a1:Nat):Int) (0:Int)).bind fun (o4:((Bool×(Unit))×(Unit)×(Unit))⊕((Unit)×(Unit)×(Unit)))=>Sum.elim (fun (q5:(Bool×(Unit))×(Unit)×(Unit))=>some q5.1.1) (fun (q6:(Unit)×(Unit)×(Unit))=>some true) o4)))
def qgc (n:Nat):FC:={ f:=131,args:=[.one (.c (.d .str))],res:=.one (.c (.d .bool)),F:=fun p=>qx3 n p }
def qnv (n:Nat):List FC:=[qd4 n]
theorem qlx (n:Nat) {G:World->Prop} (hG:Know Inv G) : ∀c∈qnv n,q3s Tryz.prog G c/\q1j c.args=true:=List.forall_mem_cons.2 ⟨jaj n G hG,(fun _ h=>by cases h)⟩
def qn9:q1h:=[]
theorem j0h:drB qn9 (q0b Tryz.f131)=true:=by kernel_rfl
theorem j4b (n:Nat) : ∀rec p,qp3 n rec p=round Tryz.prog 25 (qnv n) (qja n) qn9 1 qcc q7l (q0h 0 0 (q0b Tryz.f131)) rec p:=by intro rec p;kernel_rfl
theorem j2q (n:Nat) {F:Fr} (hF:F.n=25) (hK:Know Inv F.G):qfl Tryz.prog F (qxb n) (q0h 0 0 (q0b Tryz.f131)) :=
 q1y hF (by kernel_rfl) (qlx n hK) (j4b n) (fuel:=n) (fun _=>rfl) (q0r fun j L h1 h2 h3=>absurd h2 (Nat.not_lt.2 (Nat.le_trans (by decide +kernel) h1))) (q37 j0h)
theorem jcj (n:Nat) : ∀a,(qgc n).F a=main Tryz.prog 25 (qnv n) (qja n) qn9 (q0b Tryz.f131) [.tmp 2] (qgc n).args (qgc n).res a:=by intro a;kernel_rfl
theorem jbu (n:Nat):q18 Inv Tryz.prog (qgc n):=fun G hG=>⟨⟨by kernel_rfl,fun a r h=>q0u (c:=q0b Tryz.f131) Tryz.func131 (by kernel_rfl) (by kernel_rfl) (Nat.le_of_ble_eq_true (by kernel_rfl)) hG.st (by kernel_rfl) (rs:=[.tmp 2]) (by kernel_rfl) (qlx n hG) (lts:=qja n) (fun F hF hFG=>have hK:Know Inv F.G:=hFG ▸ hG;(q0r (c:=(q0b Tryz.f131)) (fun j L h1 h2 h3=>by
  have h2':j<1:=Nat.lt_of_lt_of_le h2 (by decide +kernel)
  match j,h1,h2',h3 with
  | 0,_,_,h3=>obtain rfl:=Option.some.inj h3;exact (show q0h 0 0 (q0b Tryz.f131)=q0h 0 0 (q0b Tryz.f131) by kernel_rfl) ▸ j2q n hF hK
  | j+1,_,h2',_=>exact absurd h2' (by omega)))) j0h ((jcj n a).symm.trans h)⟩,rfl⟩
end Go.Proofs.YthpgnliicpejoaaGreatDoor.AM
namespace Go.Proofs.YthpgnliicpejoaaGreatDoor.AM
open Go.RowKit
set_option linter.unusedVariables false
set_option linter.unusedSimpArgs false
theorem j26 (n:Nat) (c:UInt8):qph n ((c.toNat:Nat):Int)=some (qh6 c):=by
 have h : ∀k:Fin 256,qph 0 ((k.val:Nat):Int)=some (qh6 (UInt8.ofNat k.val)):=by decide +kernel
 have h1:=h ⟨c.toNat,c.toNat_lt⟩
 have e:UInt8.ofNat c.toNat=c:=by simp
 rw [e] at h1
 exact h1
theorem qkq (n:Nat) (s:List UInt8) (hL:s.length<=1000000) : ∀m j:Nat,j<=s.length->s.length - j<m->q6s n m s ((s.length:Nat):Int) (j:Int)=some (if (s.drop j).all qh6=true then Sum.inr ((),((),())) else Sum.inl ((false,()),((),())))
 | 0,j,_,h=>absurd h (Nat.not_lt_zero _)
 | m+1,j,hj,h=>by
  rw [qfp]
  unfold qnw
  by_cases c0:j<s.length
  ·have c0':((j:Nat):Int)<((s.length:Nat):Int):=by omega
   have ih:=qkq n s hL m (j+1) (by omega) (by omega)
   have hd:s.drop j=s[j]::s.drop (j+1):=(List.drop_eq_getElem_cons c0)
   simp only [c0',decide_true,cond_true,qz9 c0,Option.bind_some,j26,q0n,q19 (show j<4611686018427387904 by omega),ih,hd,List.all_cons]
   cases qh6 s[j]<;>simp
  ·have c0' : ¬ ((j:Nat):Int)<((s.length:Nat):Int):=by omega
   have:s.drop j = []:=List.drop_eq_nil_of_le (by omega)
   simp [c0',this]
theorem j0z (n:Nat) (s:List UInt8) (hL:s.length<=1000000) (hn:s.length<n):qx3 n s=some (qaa s):=by
 unfold qx3 qaa
 have:=qkq n s hL n 0 (Nat.zero_le _) (by omega)
 rw [show ((0:Nat):Int)=(0:Int) from rfl] at this
 rw [this,List.drop_zero]
 cases decide (s = [])<;>cases decide (s = [46])<;>cases decide (s = [46,46])<;>cases s.all qh6<;>rfl
end Go.Proofs.YthpgnliicpejoaaGreatDoor.AM
namespace Go.Proofs
open Go.RowKit Go.Shelf Go.Lib
attribute [local go_sem] Oper.semAt_some
set_option linter.unusedVariables false
set_option linter.unusedSimpArgs false
namespace YthpgnliicpejoaaGreatDoor.AM
theorem qnk {P:Program} {fn:Func} {p:Tmp} {ty:TypeId} {b:Nat} {v:Value} {tmps:Array Value} {w:World} (h:fn.results = #[.cell p ty]) (hp:tmps.getD p undef = .pointer (some ⟨b,0,none⟩)) (ha:qew P ty=some false)
  (hc:w.cell? ⟨b,0,none⟩=some v):(results fn tmps).run P w = .ok v w:=by
 have hp':tmps[p]?.getD undef = .pointer (some ⟨b,0,none⟩):=by simpa using hp
 simp only [results,h]
 simp [Sem.run_bind,hp',asAddr,loadVar,q2a ha w,go_sem,hc]
theorem q43 {W W':World} {a:Addr} {v:Value} (hb:Below W.heap.size W W') (h:W.cell? a=some v):W'.cell? a=some v:=by
 obtain ⟨o,ho,hc⟩:=cells_of_cell h
 exact (World.cell?_of_block ((hb.block _ (Array.getElem?_eq_some_iff.1 ho).1).trans ho |>.trans ho.symm)).trans h
theorem q8l {W W':World} {a:Addr} {v:Value} (hb:Below W.heap.size W W') (h:W.cell? a=some v):W'.frozen? a=W.frozen? a:=by
 obtain ⟨o,ho,hc⟩:=cells_of_cell h
 exact World.frozen?_of_block ((hb.block _ (Array.getElem?_eq_some_iff.1 ho).1).trans ho |>.trans ho.symm)
theorem q59 {W W':World} (hb:Below W.heap.size W W'):KeepsOthers W W':=⟨hb.size,fun k o h _=>(hb.block k (Array.getElem?_eq_some_iff.1 h).1).trans h⟩
theorem j19 {pS:Nat} {r:List UInt8} {W W':World} (h:Left pS r W) (hb:Below W.heap.size W W'):Left pS r W':=⟨q43 hb h.1,(q8l hb h.1).trans h.2⟩
theorem q9m {w:World} {b:Nat} {v:Value} {t:TypeId} (h:w.heap[b]? = some (.cells #[v] t (0,0))):w.cell? ⟨b,0,none⟩=some v/\w.frozen? ⟨b,0,none⟩=false:=by
 constructor
 ·simp [World.cell?,h]
 ·simp [World.frozen?,h]
theorem hag:qew Tryz.prog 4=some false:=by kernel_rfl
structure Rng (fv:Value) (pF pR:Nat) (pP pC:Nat) (c:UInt8) (w0:World) (pred:List UInt8->Bool) (pre:List (List UInt8)) (W:World):Prop where
 fn:W.cell? ⟨pF,0,none⟩=some fv
 res:W.cell? ⟨pR,0,none⟩=some (.bool false)
 frz:W.frozen? ⟨pR,0,none⟩=false
 cP:W.cell? ⟨pP,0,none⟩=some (.string (ba [c]))
 cC:W.cell? ⟨pC,0,none⟩=some (.int .i64 0)
 below:Below w0.heap.size w0 W
 all:pre.all pred=true
structure RngX (pR:Nat) (w0:World) (pred:List UInt8->Bool) (pre:List (List UInt8)) (W:World):Prop where
 res:W.cell? ⟨pR,0,none⟩=some (.bool false)
 below:Below w0.heap.size w0 W
 no:pre.all pred=false
theorem jij {fv:Value} {pF pR pP pC:Nat} {c:UInt8} {w0:World} {pred:List UInt8->Bool} {B:Nat} (hB:w0.heap.size<=B):OwnFrom B (Rng fv pF pR pP pC c w0 pred):=fun s W W' row h hg hr =>
 ⟨q4r h.fn hg hr,q4r h.res hg hr,(frozen_kept h.res hg (fun r e=>(hr r e).2)).trans h.frz,q4r h.cP hg hr,q4r h.cC hg hr,h.below.grown hg h.below.size (fun k e=>Nat.le_trans hB (hr k e).1),h.all⟩
theorem jd7 {pR:Nat} {w0:World} {pred:List UInt8->Bool} {B:Nat} (hB:w0.heap.size<=B):OwnFrom B (RngX pR w0 pred):=fun s W W' row h hg hr =>
 ⟨q4r h.res hg hr,h.below.grown hg h.below.size (fun k e=>Nat.le_trans hB (hr k e).1),h.no⟩
theorem j81 {fv:Value} {pF pR pP pC:Nat} {c:UInt8} {w0:World} {pred:List UInt8->Bool} {pre:List (List UInt8)} {x:List UInt8} {W W':World} (h:Rng fv pF pR pP pC c w0 pred pre W) (hb:Below W.heap.size W W') (hx:pred x=true):Rng fv pF pR pP pC c w0 pred (pre ++ [x]) W' :=
 ⟨q43 hb h.fn,q43 hb h.res,(q8l hb h.res).trans h.frz,q43 hb h.cP,q43 hb h.cC,h.below.trans (hb.mono h.below.size),by rw [List.all_append,h.all];simp [hx]⟩
theorem jh6 {fv:Value} {pF pR pP pC:Nat} {c:UInt8} {w0:World} {pred:List UInt8->Bool} {pre:List (List UInt8)} {W:World} {q:Nat} (v:Value) (h:Rng fv pF pR pP pC c w0 pred pre W) (h0:w0.heap.size<=q) (h1:q≠pF) (h2:q≠pR) (h3:q≠pP) (h4:q≠pC):Rng fv pF pR pP pC c w0 pred pre (W.setCell ⟨q,0,none⟩ v):=by
 have ne : ∀p:Nat,q≠p->(W.setCell ⟨q,0,none⟩ v).cell? ⟨p,0,none⟩=W.cell? ⟨p,0,none⟩:=fun p hp=>World.cell?_setCell_other _ _ _ _ (by intro e;exact hp (by injection e with e))
 exact ⟨(ne _ h1).trans h.fn,(ne _ h2).trans h.res,by rw [World.frozen?_setCell];exact h.frz,(ne _ h3).trans h.cP,(ne _ h4).trans h.cC,h.below.setCell (by simpa using h0) _,h.all⟩
theorem four (w:World) (o0 o1 o2 o3:Obj) : ∃ W,((((w.alloc o0).alloc o1).alloc o2).alloc o3)=W/\W.heap.size=w.heap.size+4/\Below w.heap.size w W/\W.heap[w.heap.size]? = some o0/\W.heap[w.heap.size+1]? = some o1/\W.heap[w.heap.size+1+1]? = some o2/\W.heap[w.heap.size+1+2]? = some o3:=by
 have al : ∀(w:World) (o:Obj) (k:Nat),k<w.heap.size->(w.alloc o).heap[k]? = w.heap[k]?:=fun w o k h=>Below.heap_alloc _ _ _ h
 refine ⟨_,rfl,by simp,((((Below.refl _ w).alloc (Nat.le_refl _) _).alloc (by simp) _).alloc (by simp;omega) _).alloc (by simp;omega) _,?_,?_,?_,?_⟩
 ·rw [al _ _ _ (by simp<;>omega),al _ _ _ (by simp<;>omega),al _ _ _ (by simp),World.alloc_heap_new]
 ·rw [al _ _ _ (by simp<;>omega),al _ _ _ (by simp)]
  have:=World.alloc_heap_new (w.alloc o0) o1
  rw [World.size_alloc] at this;exact this
 ·rw [al _ _ _ (by simp)]
  have:=World.alloc_heap_new ((w.alloc o0).alloc o1) o2
  rw [World.size_alloc,World.size_alloc] at this;exact this
 ·have:=World.alloc_heap_new (((w.alloc o0).alloc o1).alloc o2) o3
  rw [World.size_alloc,World.size_alloc,World.size_alloc] at this;exact this
structure RngY (pR:Nat) (w0:World) (pred:List UInt8->Bool) (pre:List (List UInt8)) (W:World):Prop where
 res:W.cell? ⟨pR,0,none⟩=some (.bool true)
 below:Below w0.heap.size w0 W
 no:pre.all pred=false
theorem jbj {pred:List UInt8->Bool} {s x:List UInt8} {pre t:List (List UInt8)} (hsp:spl 47 [] s=pre++x::t) (hn:(pre ++ [x]).all pred=false):(spl 47 [] s).all pred=false:=by
 rw [List.all_append,Bool.and_eq_false_iff] at hn
 rw [hsp,List.all_append,Bool.and_eq_false_iff]
 rcases hn with hn|hn
 ·exact Or.inl hn
 ·refine Or.inr ?_
  simp only [List.all_cons,List.all_nil,Bool.and_true] at hn
  rw [List.all_cons,hn];rfl
end YthpgnliicpejoaaGreatDoor.AM
end Go.Proofs
namespace Go.Proofs
open Go.RowKit Go.Shelf Go.Lib
attribute [local go_sem] Oper.semAt_some
set_option linter.unusedVariables false
set_option linter.unusedSimpArgs false
namespace YthpgnliicpejoaaGreatDoor.AM
theorem jdi (x:List UInt8) (w:World) (hI:Inv w) (hx:x.length<=1000000):Calls Tryz.prog 131 #[.string (ba x)] w fun e w'=>e = .returned (.bool (qaa x))/\Below w.heap.size w w':=by
 have h:=(jbu 1000001 Inv q7m).1.2 x (qaa x) (j0z 1000001 x (by omega) (by omega))
 refine (h (fun _ _=>False) w #[.string (ba x)] hI (fun b o h=>h.elim) ⟨q0l _,trivial⟩).mono ?_
 rintro e w' ⟨v,Pc,rfl,hb,_,_,hv⟩
 have hv':v = .bool (qaa x):=q0o hv
 rw [hv']
 exact ⟨rfl,hb⟩
set_option maxHeartbeats 2000000 in
theorem qjg (s:List UInt8) (w:World) (hI:Inv w):Calls Tryz.prog 102 #[.string (ba s)] w fun e w'=>e = .returned (.bool (q38 s))/\Below w.heap.size w w':=by
 refine (callsIn_wide (n:=9)).1 ?_
 refine callsIn_of_wp_marks Tryz.func102 rfl trivial ?_ rfl
 simp only [Tryz.ntmps102,List.size_toArray,List.length_cons,List.length_nil,Nat.reduceAdd,Nat.reduceSub,Array.replicate_succ,Array.replicate_zero,List.push_toArray,List.append_toArray,List.nil_append,List.cons_append]
 have hsz:(ba s).size=s.length:=q21 s
 by_cases h2:s.length<=60
 ·skip
  gi_wp2_with (refine ⟨trivial,?_⟩;gi_at_call 130;refine (callsIn_wide.2 (qk6 _ _ _)).mono ?_;rintro e w' ⟨rfl,rfl⟩)
  obtain ⟨W0,hW0,hs0,hb0,g0,g1,g2,g3⟩:=four w (Obj.cells #[Value.bool false] 4) (Obj.cells #[Value.string (ba s)] 9) (Obj.cells #[Value.string { data:=#[47] }] 9) (Obj.cells #[Value.int IntKind.i64 0] 3)
  rw [hW0]
  clear hW0
  obtain ⟨c1,f1⟩:=q9m g0
  obtain ⟨c2,f2⟩:=q9m g1
  obtain ⟨c3,f3⟩:=q9m g2
  obtain ⟨c4,f4⟩:=q9m g3
  refine range_split (n:=9) (by omega) 47 (w.heap.size+1) (w.heap.size+1+1) (w.heap.size+1+2) s (by omega) rfl ⟨c2,f2⟩
   (Rng (.string (ba [47])) (w.heap.size+1+1) w.heap.size (w.heap.size+1+1) (w.heap.size+1+2) 47 w qaa) (RngX w.heap.size w qaa) (jij (by omega)) (jd7 (by omega))
   (fun pre W h=>⟨h.cP,h.cC,(hI.below h.below).maxLen⟩) (fun pre W v h=>jh6 v h (by omega) (by omega) (by omega) (by omega) (by omega)) ⟨c3,c1,f1,c3,c4,hb0,rfl⟩
   (fun x=>{ tmps:=#[.string (ba s),undef,.pointer (some ⟨w.heap.size,0,none⟩),.string (ba x),.string (ba s),.int .i64 s.length,.bool (decide ((60:Int)<s.length)),.string (ba s),.func (.func 160) #[] #[.pointer (some ⟨w.heap.size+1+1,0,none⟩),.pointer (some ⟨w.heap.size+1,0,none⟩),.pointer (some ⟨w.heap.size+1+2,0,none⟩)],.string (ba x),undef,undef,undef],defers:=[] }) ?assign ?body ?done ?stop
  case assign =>
   intro l x W K hK
   gi_wp2
   exact hK
  case body =>
   intro l pre x r W hi hL hx
   have k1:=hi.res
   have k2:=hi.frz
   have hc:=jdi x W (hI.below hi.below) (by omega)
   cases hpx:qaa x with
   | true =>
    rw [hpx] at hc
    gi_wp2_with (refine ⟨trivial,?_⟩;gi_at_call 131;refine (CallsIn.inRound l (callsIn_wide.2 hc)).mono ?_;rintro e w' ⟨rfl,hb'⟩)
    exact ⟨q59 hb',j81 hi hb' (by simp [hpx]),j19 hL hb'⟩
   | false =>
    rw [hpx] at hc
    gi_wp2_with (refine ⟨trivial,?_⟩;gi_at_call 131;refine (CallsIn.inRound l (callsIn_wide.2 hc)).mono ?_;rintro e w' ⟨rfl,hb'⟩;have k3:=q43 hb' hi.res;have k4:=(q8l hb' hi.res).trans hi.frz)
    exact ⟨(q59 hb').trans (KeepsOthers.setCell _ _ _),World.cell?_setCell_same' _ _ _ (by rw [k3];rfl),(hi.below.trans (hb'.mono hi.below.size)).setCell (by simp) _,by simp [hpx]⟩
  case done =>
   intro D W hD hi hK
   have k1:=hi.res
   have k2:=hi.frz
   gi_wp2
   have hK':=(KeepsOthers.setCell W ⟨w.heap.size,0,none⟩ (.bool true)).same D _ hK rfl
   have hW':Below w.heap.size w (W.setCell ⟨w.heap.size,0,none⟩ (.bool true)):=hi.below.setCell (by simp) _
   have k5:(W.setCell ⟨w.heap.size,0,none⟩ (.bool true)).cell? ⟨w.heap.size,0,none⟩=some (.bool true):=World.cell?_setCell_same' _ _ _ (by rw [k1];rfl)
   generalize W.setCell ⟨w.heap.size,0,none⟩ (.bool true)=W2 at hK' hW' k5
   refine ⟨by simp,.inl ⟨_,_,rfl,run_takeDeferred hK',?_⟩⟩
   have hg:=grownBy_putObj' W2 D (.deferred none)
   refine ⟨_,qnk (b:=w.heap.size) (v:=.bool true) rfl rfl hag (cell_kept k5 hg (fun r e=>by cases e;exact ⟨_,hK',rfl⟩)),?_,?_⟩
   ·have ha:=hi.all
    unfold q38;simp [h2,ha]
   ·exact hW'.grown hg hW'.size (fun k e=>by cases e;omega)
  case stop =>
   intro D pre x t W hD hsp hi hK
   refine ⟨by simp,.inl ⟨_,_,rfl,run_takeDeferred hK,?_⟩⟩
   have hg:=grownBy_putObj' W D (.deferred none)
   refine ⟨_,qnk (b:=w.heap.size) (v:=.bool false) rfl rfl hag (cell_kept hi.res hg (fun r e=>by cases e;exact ⟨_,hK,rfl⟩)),?_,?_⟩
   ·have ha:=jbj hsp hi.no
    unfold q38;simp [ha]
   ·exact hi.below.grown hg hi.below.size (fun k e=>by cases e;omega)
 ·gi_wp2
  refine ⟨_,qnk (b:=w.heap.size) (v:=.bool false) rfl rfl hag (by simp),?_,?_⟩
  ·unfold q38;simp [h2]
  ·exact (Below.refl _ w).alloc (Nat.le_refl _) _
def qis (s:List UInt8):Option Bool:=some (q38 s)
def qn4:FC:={ f:=102,args:=[strA],res:=boolA,F:=fun p=>qis p }
theorem j0d:q18 Inv Tryz.prog qn4:=fun G hG=>⟨⟨by kernel_rfl,fun (s:List UInt8) r h=>by
 have hr:q38 s=r:=Option.some.inj h
 intro Pc w vs hg hlt hv
 obtain ⟨l⟩:=vs
 match l,hv with
 | [x],⟨h1,_⟩ =>
  obtain rfl:x = .string (ba s):=q0o h1
  refine (qjg s w (hG.im w hg)).mono ?_
  rintro e w' ⟨rfl,hb⟩
  subst hr
  exact qdc rfl hb (q0l _)⟩,rfl⟩
end YthpgnliicpejoaaGreatDoor.AM
end Go.Proofs
