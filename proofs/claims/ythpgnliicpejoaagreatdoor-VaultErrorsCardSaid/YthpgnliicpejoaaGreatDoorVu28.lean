
import Derived.Test.YthpgnliicpejoaaGreatDoorVu27
import Derived.Test.YthpgnliicpejoaaGreatDoorVu21
namespace Go.Proofs.YthpgnliicpejoaaGreatDoor.AM
open Go.RowKit
set_option linter.unusedVariables false
set_option linter.unusedSimpArgs false
theorem qo6 {k:Nat} (h:k<256):(b8 ((k:Nat):Int)).toNat=k:=by rw [jeg,UInt8.toNat_ofNat'];omega
theorem jkq {o:OD} (h:q5q o=0):q38 o.2.1=true/\o.2.1.length<=60/\(o.1=true->o.2.2 = [])/\o.2.2.length<=4096:=by
 unfold q5q at h
 cases hp:q38 o.2.1 with
 | false=>rw [hp] at h;simp at h
 | true =>
  rw [hp] at h
  have hl:=(j2w hp).1
  simp only [if_true] at h
  by_cases h1:(o.1 && !decide (o.2.2 = []))=true
  ·rw [if_pos h1] at h;cases h
  ·rw [if_neg h1] at h
   by_cases h2:4096<o.2.2.length
   ·rw [if_pos h2] at h;cases h
   ·refine ⟨rfl,hl,fun h3=>?_,by omega⟩
    rw [h3] at h1
    simpa using h1
theorem j1h (o:OD) (rest:List UInt8) (h:q5q o=0):qwp (q5j o++rest)=some (o,(q5j o).length):=by
 obtain ⟨h1,h2,h3,h4⟩:=jkq h
 obtain ⟨gone,p,d⟩:=o
 simp only at h1 h2 h3 h4
 have hb:(b8 ((p.length:Nat):Int)).toNat=p.length:=qo6 (by omega)
 cases gone with
 | true =>
  have hd:=h3 rfl
  subst hd
  have e:q5j (true,(p,[]))++rest=1::b8 p.length::(p++rest):=by unfold q5j;simp
  have el:(q5j (true,(p,[]))).length=2+p.length:=by { unfold q5j;simp<;>omega }
  rw [e,el,qwp,if_pos (Or.inr rfl),hb,if_neg (by simp),if_pos rfl,List.take_left]
 | false =>
  have hx:(b8 ((d.length / 256:Nat):Int)).toNat=d.length / 256:=qo6 (by omega)
  have hy:(b8 ((d.length % 256:Nat):Int)).toNat=d.length % 256:=qo6 (by omega)
  have e:q5j (false,(p,d))++rest=0::b8 p.length::(p++b8 ((d.length / 256:Nat):Int)::b8 ((d.length % 256:Nat):Int)::(d++rest)):=by unfold q5j;simp
  have el:(q5j (false,(p,d))).length=4+p.length+d.length:=by { unfold q5j;simp<;>omega }
  rw [e,el,qwp,if_pos (Or.inl rfl),hb,if_neg (by simp<;>omega),if_neg (by decide),List.take_left,List.drop_left]
  simp only [hx,hy]
  have e2:256*(d.length / 256)+d.length % 256=d.length:=by omega
  rw [e2,if_neg (by simp),List.take_left]
theorem qqf : ∀(ops:List OD) (m:Nat),(∀o∈ops,q5q o=0)->ops.length<m->q3l m ((ops.map q5j).flatten)=some ops
 | [],m,_,h=>by
  obtain ⟨k,rfl⟩ : ∃ k,m=k+1:=⟨m - 1,by simp at h;omega⟩
  rw [q3l];rfl
 | o::t,m,hc,h=>by
  obtain ⟨k,rfl⟩ : ∃ k,m=k+1:=⟨m - 1,by simp at h;omega⟩
  have h0:=hc o (List.mem_cons_self ..)
  have hne : ¬ ((o::t).map q5j).flatten = []:=by
   rw [List.map_cons,List.flatten_cons];unfold q5j;simp
  have hd:(q5j o++(t.map q5j).flatten).drop (q5j o).length=(t.map q5j).flatten:=List.drop_left ..
  rw [q3l,if_neg hne,List.map_cons,List.flatten_cons,j1h o _ h0]
  simp only [hd]
  rw [qqf t k (fun o ho=>hc o (List.mem_cons_of_mem _ ho)) (by simp at h;omega)];rfl
theorem j0c : ∀(ops:List OD),ops.length<=((ops.map q5j).flatten).length
 | []=>Nat.le_refl _
 | o::t=>by
  have:=j0c t
  rw [List.map_cons,List.flatten_cons,List.length_append,List.length_cons]
  have:1<=(q5j o).length:=by unfold q5j;simp
  omega
theorem qyw : ∀(ops:List OD),(q51 ops).2=0->∀o∈ops,q5q o=0
 | [],_,o,ho=>by cases ho
 | x::t,h,o,ho=>by
  rw [q51] at h
  by_cases hc:q5q x=0
  ·rw [if_pos hc] at h
   by_cases h2:(q51 t).2=0
   ·rcases List.mem_cons.1 ho with rfl|ho
    ·exact hc
    ·exact qyw t h2 o ho
   ·rw [if_neg h2] at h;exact absurd h h2
  ·rw [if_neg hc] at h;exact absurd h hc
theorem j6b (ops:List OD) (h:(q25 ops).2=0):qd2 (q25 ops).1=(ops,0):=by
 have h0:=h
 unfold q25 at h
 by_cases h2:(q51 ops).2=0
 ·rw [if_pos h2] at h
  have hall:=qyw ops h2
  have hl:=qmp ops hall
  by_cases h3:4096<(q51 ops).1.length
  ·rw [if_pos h3] at h;cases h
  ·have e:(q25 ops).1=(ops.map q5j).flatten:=by unfold q25;rw [if_pos h2,if_neg h3,hl]
   have hlen:=j0c ops
   unfold qd2
   rw [e,qqf ops _ hall (by omega)]
   simp only
   rw [if_pos ⟨h0,e⟩]
 ·rw [if_neg h2] at h;exact absurd h h2
theorem qes (ops:List OD):(q25 ops).1.length<=4096:=by
 unfold q25
 split
 ·split
  ·simp
  ·simp only;omega
 ·simp
theorem j4f : ∀(m:Nat) (a b:List FD),(q1d m a b).length<=m:=by
 intro m
 induction m with
 | zero=>intro a b;simp [q1d]
 | succ m ih =>
  intro a b
  cases a with
  | nil=>cases b with
   | nil=>simp [q1d]
   | cons y b=>rw [q1d];simp only [List.length_cons];have:=ih [] b;omega
  | cons x a=>cases b with
   | nil=>rw [q1d];simp only [List.length_cons];have:=ih a [];omega
   | cons y b =>
    rw [q1d]
    have i1:=ih a (y::b);have i2:=ih (x::a) b;have i3:=ih a b
    split
    ·simp only [List.length_cons];omega
    ·split
     ·simp only [List.length_cons];omega
     ·split
      ·omega
      ·simp only [List.length_cons];omega
theorem qrw (a b:List FD):(q39 a b).length<=a.length+b.length:=by
 unfold q39;split
 ·exact j4f _ a b
 ·simp
end Go.Proofs.YthpgnliicpejoaaGreatDoor.AM
namespace Go.Proofs
open Go.RowKit
set_option linter.unusedVariables false
set_option linter.unusedSimpArgs false
namespace YthpgnliicpejoaaGreatDoor.AM
def qk3:List FD->List (List UInt8)->Option (List FD)
 | l,[]=>some l
 | l,x::xs=>if (qd2 x).2=0/\(q2r l (qd2 x).1).2=0 then qk3 (q2r l (qd2 x).1).1 xs else none
theorem qi9 : ∀(xs ys:List (List UInt8)) (l:List FD),qk3 l (xs++ys)=(qk3 l xs).bind fun k=>qk3 k ys
 | [],ys,l=>rfl
 | x::xs,ys,l=>by
  show (if _ then qk3 _ (xs++ys) else none)=Option.bind (if _ then qk3 _ xs else none) _
  split
  ·exact qi9 xs ys _
  ·rfl
theorem qcm {l k:List FD} {ops:List OD} (h:q2r l ops=(k,0)):q7t k=true:=by
 unfold q2r at h
 cases hm:q7t l with
 | false=>rw [hm] at h;simp at h
 | true =>
  rw [hm] at h
  have h':q7z l ops=(k,0):=h
  have:=j9f ops hm (by rw [h'])
  rw [h'] at this;exact this
theorem qpf : ∀(xs:List (List UInt8)) {l k:List FD},q7t l=true->qk3 l xs=some k->q7t k=true
 | [],l,k,h,hr=>by
  simp only [qk3,Option.some.injEq] at hr
  rw [<-hr];exact h
 | x::xs,l,k,h,hr=>by
  unfold qk3 at hr
  split at hr
  case isFalse=>cases hr
  rename_i hc
  exact qpf xs (qcm (ops:=(qd2 x).1) (l:=l) (k:=(q2r l (qd2 x).1).1) (by rw [<-hc.2])) hr
theorem qeh:q7t []=true:=by decide
theorem qxe : ∀(m:Nat) (k:List FD),k.length<=m->q1d m [] k=k.map fun f=>(false,f)
 | 0,[],_=>rfl
 | 0,_::_,h=>by simp at h
 | m+1,[],_=>rfl
 | m+1,y::b,h=>by
  rw [q1d,qxe m b (by simpa using h)];rfl
theorem jbc {l:List FD} {o:OD} (h:l.length<40):(q1v l o).2≠3/\(q1v l o).1.length<=l.length+1:=by
 unfold q1v
 have h1:=qad l o.2.1
 split
 ·split
  ·split
   ·exact ⟨(fun h=>by cases h),by simp only;omega⟩
   ·exact ⟨by decide,by simp⟩
  ·split
   ·exact ⟨by decide,by simp⟩
   ·split
    ·omega
    ·refine ⟨(fun h=>by cases h),?_⟩
     simp only
     rw [qee];omega
 ·exact ⟨by decide,by simp⟩
theorem qzk : ∀(ops:List OD) {l:List FD},l.length+ops.length<=40->(q7z l ops).2≠3
 | [],l,h=>by simp [q7z]
 | o::t,l,h=>by
  have h':l.length+(t.length+1)<=40:=by simpa using h
  obtain ⟨h1,h2⟩:=jbc (l:=l) (o:=o) (by omega)
  unfold q7z
  split
  ·exact qzk t (by omega)
  ·exact h1
theorem qdj {k:List FD} (h:q7t k=true):k.length<=40:=((q8o k).1 h).1
theorem jaa {k:List FD} (h:q7t k=true):q2r [] (q39 [] k)=(k,0):=by
 rcases j9h qeh h with h1|h1
 ·exact h1
 ·exfalso
  unfold q2r at h1
  rw [qeh] at h1
  have h1':(q7z [] (q39 [] k)).2=3:=h1
  refine qzk _ ?_ h1'
  have:=qrw [] k
  have:=qdj h
  simp at *;omega
def fA (n h:Nat):Nat:=match h with|0=>0|_+1=>n / 2
def zA (n h:Nat):Nat:=match h with|0=>n / 2|_+1=>n - n / 2
theorem q45 {n h:Nat} (hn:8<=n) (hh:h<=1):4<=zA n h/\fA n h+zA n h<=n/\n / 2<=zA n h/\zA n h<=n - n / 2:=by
 match h,hh with
 | 0,_=>show 4<=n / 2/\0+n / 2<=n/\n / 2<=n / 2/\n / 2<=n - n / 2;omega
 | 1,_=>show 4<=n - n / 2/\n / 2+(n - n / 2)<=n/\n / 2<=n - n / 2/\n - n / 2<=n - n / 2;omega
theorem qdb {n h:Nat} (hn:8<=n) (hh:h<=1) {j:Nat} (h1:fA n h<=j) (h2:j<fA n h+zA n h) (h3:fA n (1 - h)<=j) (h4:j<fA n (1 - h)+zA n (1 - h)):False:=by
 match h,hh with
 | 0,_ =>
  have a:j<0+n / 2:=h2
  have b:n / 2<=j:=h3
  omega
 | 1,_ =>
  have a:j<0+n / 2:=h4
  have b:n / 2<=j:=h1
  omega
def gA (B:BL) (n h:Nat):Int:=q3m B (fA n h)
def lA (B:BL) (n h:Nat):BL×Nat:=q3o B (fA n h) (zA n h)
structure VI (B:BL) (n h:Nat) (fs:List FD):Prop where
 may:DM.q2s ⟨B,[]⟩
 len:B.length=n
 n8:8<=n
 h1:h<=1
 beg:qa6 B (fA n h)
 cl:q8n B (lA B n h).2 (fA n h+zA n h) (gA B n h) (lA B n h).1.length
 rep:qk3 [] ((lA B n h).1.map unB)=some fs
 above : ∀j,fA n h<=j->j<fA n h+zA n h->∀g,gA B n h<g->¬ bad (gB B j) g 0
 other:qa6 B (fA n (1 - h))->gA B n (1 - h)<gA B n h
 oabove : ∀j,fA n (1 - h)+2<=j->j<fA n (1 - h)+zA n (1 - h)->∀g,gA B n h<g->¬ bad (gB B j) g 0
theorem VI.mayF {B:BL} {n h:Nat} {fs:List FD} (hI:VI B n h fs):q7t fs=true:=qpf _ qeh hI.rep
theorem VI.le {B:BL} {n h:Nat} {fs:List FD} (hI:VI B n h fs):n<=512:=by have:=hI.may.2.1;have:=hI.len;simp at *;omega
theorem qxh {g:Int} {q:Nat} {p:ByteArray} (hg:0<=g/\g<=1073741824) (hq:q<=65535) (hp:p.size<=4096):RM.q2x (txB g q p)=2/\RM.q0i (txB g q p) 2=g/\RM.q0i (txB g q p) 6=q:=by
 have hm:RM.may 2 g (q:Int) (p.size:Int) (SM.q1k 1 p.data.toList):=⟨Or.inr rfl,hg,⟨by omega,by omega⟩,⟨by omega,by omega⟩,SM.q54 _ _⟩
 obtain ⟨n1,n2,n3,_⟩:=RM.q82 _ _ _ _ _ hm
 unfold txB
 rw [RM.q5n _ _ _ _ _ hm]
 exact ⟨n1,n2,n3⟩
theorem jb4 {g:Int} (hg:0<=g/\g<=1073741824):RM.q2x (RM.q1b 1 g 0 0 1)=1:=by
 rw [RM.q5n _ _ _ _ _ (qao hg)]
 exact (RM.q82 _ _ _ _ _ (qao hg)).1
theorem qhl {g g':Int} {q:Nat} (hg:0<=g/\g<=1073741824) : ¬ bad (RM.q1b 1 g 0 0 1) g' q:=fun h=>by
 have:=h.2.1
 rw [jb4 hg] at this;omega
theorem q5f {p:ByteArray} {i:Nat} {g:Int} {q:Nat} : ¬ bad (RM.sec p i) g q:=fun h=>RM.qfe p i h.1
theorem jic {B:BL} {n h:Nat} {fs:List FD} (hI:VI B n h fs):fA n h+1<=(lA B n h).2/\(lA B n h).2<=fA n h+zA n h/\(lA B n h).1.length<=512:=by
 have hl:=hI.le
 obtain ⟨a,b,_⟩:=q45 hI.n8 hI.h1
 exact qu5 (by omega) (by omega)
theorem j7w {B X:BL} {n h:Nat} {fs fs':List FD} (hI:VI B n h fs) (hmX:DM.q2s ⟨X,[]⟩) (hl:X.length=B.length) (eg:q3m X (fA n h)=q3m B (fA n h)) (hb:qa6 X (fA n h)) (hcl:q8n X (lA X n h).2 (fA n h+zA n h) (gA X n h) (lA X n h).1.length) (hrep:qk3 [] ((lA X n h).1.map unB)=some fs')
  (hin : ∀j,fA n h<=j->j<fA n h+zA n h->gB X j=gB B j\/(∀g,gA B n h<g->¬ bad (gB X j) g 0)) (hout : ∀j,¬ (fA n h<=j/\j<fA n h+zA n h)->gB X j=gB B j):VI X n h fs':=by
 have eg':gA X n h=gA B n h:=eg
 obtain ⟨a,b,_⟩:=q45 hI.n8 hI.h1
 obtain ⟨a',b',_⟩:=q45 (n:=n) (h:=1 - h) hI.n8 (by omega)
 have eo : ∀j,fA n (1 - h)<=j->j<fA n (1 - h)+zA n (1 - h)->gB X j=gB B j:=fun j h1 h2=>hout j (fun hh=>qdb hI.n8 hI.h1 hh.1 hh.2 h1 h2)
 have e0:=eo (fA n (1 - h)) (Nat.le_refl _) (by omega)
 refine ⟨hmX,by rw [hl];exact hI.len,hI.n8,hI.h1,hb,hcl,hrep,fun j h1 h2 g hg=>?_,fun ho=>?_,fun j h1 h2 g hg=>?_⟩
 ·rw [eg'] at hg
  rcases hin j h1 h2 with h3|h3
  ·rw [h3];exact hI.above j h1 h2 g hg
  ·exact h3 g hg
 ·have egO:gA X n (1 - h)=gA B n (1 - h):=by unfold gA q3m;rw [e0]
  rw [eg',egO]
  refine hI.other ?_
  unfold qa6 at ho ⊢
  have:q3m X (fA n (1 - h))=q3m B (fA n (1 - h)):=egO
  rw [this,e0] at ho;exact ho
 ·rw [eg'] at hg
  rw [eo j (by omega) h2]
  exact hI.oabove j h1 h2 g hg
theorem je6 {B:BL} {n h:Nat} {fs after:List FD} (hI:VI B n h fs) {ops:List OD} (ha:q2r fs ops=(after,0)) (he:(q25 ops).2=0) (hfit:(lA B n h).2+1+RM.q1e (ba (q25 ops).1)<=fA n h+zA n h) (N:Nat) (keep:Nat->Bool) :
  ∃ X,DM.q1n keep (DM.runK ⟨B,[]⟩ ((qb5 (lA B n h).2 (ba (q25 ops).1) (txB (gA B n h) (lA B n h).1.length (ba (q25 ops).1))).take N))=⟨X,[]⟩ /\
   (N<=RM.q1e (ba (q25 ops).1)+1->VI X n h fs) /\
   (VI X n h fs\/(VI X n h after/\gA X n h=gA B n h/\lA X n h=((lA B n h).1 ++ [ba (q25 ops).1],(lA B n h).2+1+RM.q1e (ba (q25 ops).1)))) /\
   (RM.q1e (ba (q25 ops).1)+3<=N->(VI X n h after/\gA X n h=gA B n h/\lA X n h=((lA B n h).1 ++ [ba (q25 ops).1],(lA B n h).2+1+RM.q1e (ba (q25 ops).1))) /\
    DM.runK ⟨B,[]⟩ ((qb5 (lA B n h).2 (ba (q25 ops).1) (txB (gA B n h) (lA B n h).1.length (ba (q25 ops).1))).take N)=⟨X,[]⟩):=by
 have hsz:(ba (q25 ops).1).size<=4096:=by rw [q21];exact qes ops
 obtain ⟨c1,c2,c3⟩:=jic hI
 obtain ⟨z1,z2,_⟩:=q45 hI.n8 hI.h1
 have hBl:=hI.len
 have hgen:0<=gA B n h/\gA B n h<=1073741824:=q7k B (fA n h)
 have hdec:=j6b ops he
 have ebu:unB (ba (q25 ops).1)=(q25 ops).1:=jea _
 obtain ⟨p,hp⟩ : ∃ p,ba (q25 ops).1=p:=⟨_,rfl⟩
 rw [hp] at hfit hsz ebu ⊢
 have htx:(txB (gA B n h) (lA B n h).1.length p).size=32:=qgp hgen (by omega) hsz
 obtain ⟨X,x1,x2,x3,x4,x5⟩:=qjz B (lA B n h).2 p (txB (gA B n h) (lA B n h).1.length p) N keep (by omega) htx
 have hok : ∀a∈(qb5 (lA B n h).2 p (txB (gA B n h) (lA B n h).1.length p)).take N,DM.q3y (DM.Dk.mk B []).secs.length a:=fun a hm=>qpo (n:=B.length) (by omega) htx a (List.mem_of_mem_take hm)
 have hmX:DM.q2s ⟨X,[]⟩:=by
  have:=DM.qel (DM.qdx hI.may hok) keep
  rw [x1] at this;exact this
 have kA:qum B X (lA B n h).2 (RM.q1e p) p->VI X n h fs:=fun hA=>by
  obtain ⟨w1,w2,w3,w4⟩:=jh1 (B:=B) (X:=X) (f:=fA n h) (z:=zA n h) (k:=RM.q1e p) (p:=p) (by omega) (by omega) hI.cl hA
  refine j7w hI hmX hA.1 w1 (w2 hI.beg) w4 ?_ (fun j h1 h2=>?_) (fun j hj=>?_)
  ·have:lA X n h=lA B n h:=w3
   rw [this];exact hI.rep
  ·rcases hA.2 j with h3|⟨i,_,_,h3⟩
   ·exact Or.inl h3
   ·exact Or.inr fun g _=>by rw [h3];exact q5f
  ·rcases hA.2 j with h3|⟨i,hi,h3,_⟩
   ·exact h3
   ·exact absurd ⟨by omega,by omega⟩ hj
 have kB:qtb B X (lA B n h).2 (RM.q1e p) p (txB (gA B n h) (lA B n h).1.length p)->VI X n h after/\gA X n h=gA B n h/\lA X n h=((lA B n h).1 ++ [p],(lA B n h).2+1+RM.q1e p):=fun hB=>by
  obtain ⟨w1,w2,w3,w4⟩:=j5o (B:=B) (X:=X) (f:=fA n h) (z:=zA n h) (p:=p) (by omega) (by omega) hI.cl hsz (by have:=c3;unfold lA at this;omega) hfit hB
  have e3:lA X n h=((lA B n h).1 ++ [p],(lA B n h).2+1+RM.q1e p):=w3
  refine ⟨j7w hI hmX hB.1 w1 (w2 hI.beg) w4 ?_ (fun j h1 h2=>?_) (fun j hj=>?_),w1,e3⟩
  ·rw [e3,List.map_append,qi9,hI.rep]
   show qk3 fs [unB p]=some after
   rw [ebu]
   unfold qk3
   rw [hdec]
   simp only [ha,and_self,if_true]
   rfl
  ·by_cases h3:j<(lA B n h).2\/(lA B n h).2+RM.q1e p<j
   ·exact Or.inl (hB.2.1 j h3)
   ·by_cases h4:j=(lA B n h).2
    ·subst h4
     refine Or.inr fun g hg hb=>?_
     have:=hb.2.2.1
     rw [hB.2.2.1,(qxh hgen (by omega) hsz).2.1] at this
     omega
    ·have:=hB.2.2.2 (j - (lA B n h).2 - 1) (by omega)
     rw [show (lA B n h).2+1+(j - (lA B n h).2 - 1)=j from by omega] at this
     exact Or.inr fun g _=>by rw [this];exact q5f
  ·exact hB.2.1 j (by omega)
 exact ⟨X,x1,fun hN=>kA (x2 hN),x4.elim (fun h=>Or.inl (kA h)) (fun h=>Or.inr (kB h)),fun hN=>⟨kB (x3 hN),x5 hN⟩⟩
end YthpgnliicpejoaaGreatDoor.AM
end Go.Proofs
namespace Go.Proofs
open Go.RowKit
set_option linter.unusedVariables false
set_option linter.unusedSimpArgs false
namespace YthpgnliicpejoaaGreatDoor.AM
def jj1 (f:Nat) (g:Int):List DM.Ac:=[(false,(f:Int),RM.q1b 1 g 0 0 1),flA]
def q7y (n h:Nat) (g:Int) (q:ByteArray):List DM.Ac:=qb5 (fA n (1 - h)+1) q (txB (g+1) 0 q)++jj1 (fA n (1 - h)) (g+1)
theorem qr2 (n h:Nat) (g:Int) (q:ByteArray):(q7y n h g q).length=RM.q1e q+5:=by unfold q7y;rw [List.length_append,q9f];rfl
theorem qr8 {S:BL} {f z:Nat} {g:Int} (hg:q3m S f=g) (hno : ∀j,f+1<=j->j<f+z->¬ bad (gB S j) g 0):q3o S f z=([],f+1)/\q8n S (f+1) (f+z) g 0:=by
 refine ⟨?_,fun j h1 h2=>hno j h2 h1⟩
 unfold q3o
 rw [hg,q29]
 exact j9j (q:=0) (fun h=>hno (f+1) (Nat.le_refl _) h)
theorem j0b {h:Nat} (hh:h<=1):1 - (1 - h)=h:=by omega
theorem j9l {B Y:BL} {n h:Nat} {fs after:List FD} (hI:VI B n h fs) {q:ByteArray} (hq:q.size<=4096) (hrep:qk3 [] [unB q]=some after) (hg:gA B n h+1<=1073741824) (hfit:fA n (1 - h)+1+1+RM.q1e q<=fA n (1 - h)+zA n (1 - h))
  (hm:DM.q2s ⟨Y.set (fA n (1 - h)) (RM.q1b 1 (gA B n h+1) 0 0 1),[]⟩) (hB:qtb B Y (fA n (1 - h)+1) (RM.q1e q) q (txB (gA B n h+1) 0 q)) :
  VI (Y.set (fA n (1 - h)) (RM.q1b 1 (gA B n h+1) 0 0 1)) n (1 - h) after/\gA (Y.set (fA n (1 - h)) (RM.q1b 1 (gA B n h+1) 0 0 1)) n (1 - h)=gA B n h+1/\(lA (Y.set (fA n (1 - h)) (RM.q1b 1 (gA B n h+1) 0 0 1)) n (1 - h)).1.length=1:=by
 have hgen:=q7k B (fA n h)
 have hgen':0<=gA B n h/\gA B n h<=1073741824:=hgen
 obtain ⟨z1,z2,_⟩:=q45 hI.n8 hI.h1
 obtain ⟨y1,y2,_⟩:=q45 (n:=n) (h:=1 - h) hI.n8 (by omega)
 have hBl:=hI.len
 obtain ⟨hl,ha,hh,hs⟩:=hB
 have apart:=@qdb n h hI.n8 hI.h1
 obtain ⟨fo,hfo⟩ : ∃ fo,fA n (1 - h)=fo:=⟨_,rfl⟩
 obtain ⟨zo,hzo⟩ : ∃ zo,zA n (1 - h)=zo:=⟨_,rfl⟩
 have hoab:=hI.oabove
 rw [hfo,hzo] at hoab
 rw [hfo,hzo] at hfit y2
 rw [hzo] at y1
 rw [hfo] at hm ha hh hs
 rw [hfo]
 obtain ⟨g,hgg⟩ : ∃ g,gA B n h=g:=⟨_,rfl⟩
 rw [hgg] at hg hgen' hm hh hoab ⊢
 have hg1:0<=g+1/\g+1<=1073741824:=⟨by omega,by omega⟩
 obtain ⟨t,ht⟩ : ∃ t,RM.q1b 1 (g+1) 0 0 1=t:=⟨_,rfl⟩
 have htb : ∀g' q',¬ bad t g' q':=fun g' q'=>by rw [<-ht];exact qhl hg1
 have hX : ∀j,gB (Y.set fo t) j=if fo=j/\fo<Y.length then t else gB Y j:=fun j=>qa3 Y fo j t
 have hXf:gB (Y.set fo t) fo=t:=by rw [hX,if_pos ⟨rfl,by omega⟩]
 have hXj : ∀j,j≠fo->gB (Y.set fo t) j=gB Y j:=fun j hj=>by rw [hX,if_neg (fun e=>hj e.1.symm)]
 have hXl:(Y.set fo t).length=n:=by rw [List.length_set,hl,hBl]
 have eg1:q3m (Y.set fo t) fo=g+1:=qhb hg1 (by rw [hXf,ht])
 have hbeg:qa6 (Y.set fo t) fo:=by unfold qa6;rw [eg1,hXf,ht]
 let B0:BL:=(B.set fo t).set (fo+1) DM.q2d
 have hB0 : ∀j,gB B0 j=if fo+1=j/\fo+1<B.length then DM.q2d else if fo=j/\fo<B.length then t else gB B j:=fun j=>by
  show gB ((B.set fo t).set (fo+1) DM.q2d) j=_
  rw [qa3,List.length_set,qa3]
 have hB0l:B0.length=n:=by show ((B.set fo t).set (fo+1) DM.q2d).length=n;rw [List.length_set,List.length_set,hBl]
 have h0f:gB B0 fo=t:=by rw [hB0,if_neg (by omega),if_pos ⟨rfl,by omega⟩]
 have h01:gB B0 (fo+1)=DM.q2d:=by rw [hB0,if_pos ⟨rfl,by omega⟩]
 have h0j : ∀j,j≠fo->j≠fo+1->gB B0 j=gB B j:=fun j h1 h2=>by rw [hB0,if_neg (fun e=>h2 e.1.symm),if_neg (fun e=>h1 e.1.symm)]
 have eg0:q3m B0 fo=g+1:=qhb hg1 (by rw [h0f,ht])
 obtain ⟨q1,q2⟩:=qr8 (S:=B0) (f:=fo) (z:=zo) eg0 (fun j h1 h2=>by
  by_cases e:j=fo+1
  ·subst e;rw [h01];exact fun hb=>qcs hb.1
  ·rw [h0j j (by omega) e];exact hoab j (by omega) h2 _ (by omega))
 have hcB:qtb B0 (Y.set fo t) (q3o B0 fo zo).2 (RM.q1e q) q (RM.q1b 2 (q3m B0 fo) ((q3o B0 fo zo).1.length:Int) (q.size:Int) (SM.q1k 1 q.data.toList)):=by
  rw [q1,eg0]
  refine ⟨by rw [hXl,hB0l],fun j hj=>?_,?_,fun i hi=>?_⟩
  ·by_cases e:j=fo
   ·subst e;rw [hXf,h0f]
   ·rw [hXj j e,h0j j e (by simp only at hj;omega)]
    exact ha j (by simp only at hj;omega)
  ·rw [hXj (fo+1) (by omega)];exact hh
  ·rw [hXj _ (by simp only;omega)];exact hs i hi
 obtain ⟨w1,w2,w3,w4⟩:=j5o (B:=B0) (X:=Y.set fo t) (f:=fo) (z:=zo) (p:=q) (by omega) (by omega) (by rw [q1,eg0];exact q2) hq (by rw [q1];exact Nat.zero_le _) (by rw [q1];simp only;omega) hcB
 rw [q1] at w3
 have e3:(lA (Y.set fo t) n (1 - h))=([q],fo+1+1+RM.q1e q):=by unfold lA;rw [hfo,hzo];exact w3
 have eg':gA (Y.set fo t) n (1 - h)=g+1:=by unfold gA;rw [hfo];exact eg1
 have hact : ∀j,fA n h<=j->j<fA n h+zA n h->gB (Y.set fo t) j=gB B j:=fun j h1 h2=>by
  have h3 : ¬ (fo<=j/\j<fo+zo):=fun hc=>apart h1 h2 (by rw [hfo];exact hc.1) (by rw [hfo,hzo];exact hc.2)
  rw [hXj j (fun e=>h3 ⟨by omega,by omega⟩)]
  exact ha j (by omega)
 have egA:gA (Y.set fo t) n h=g:=by
  rw [<-hgg];unfold gA q3m;rw [hact _ (Nat.le_refl _) (by omega)]
 rw [ht] at hm ⊢
 refine ⟨⟨hm,hXl,hI.n8,by omega,by rw [hfo];exact hbeg,?_,?_,fun j h1 h2 g' hg'=>?_,fun _=>?_,fun j h1 h2 g' hg'=>?_⟩,eg',by rw [e3];rfl⟩
 ·unfold lA gA;rw [hfo,hzo];exact w4
 ·rw [e3];exact hrep
 ·rw [hfo] at h1;rw [hfo,hzo] at h2
  rw [eg'] at hg'
  by_cases e:j=fo
  ·subst e;rw [hXf];exact htb _ _
  ·rw [hXj j e]
   by_cases e1:j=fo+1
   ·subst e1
    intro hb
    have:=hb.2.2.1
    rw [hh,(qxh hg1 (Nat.zero_le _) hq).2.1] at this
    omega
   ·by_cases e2:j<=fo+1+RM.q1e q
    ·have:=hs (j - (fo+1) - 1) (by omega)
     rw [show fo+1+1+(j - (fo+1) - 1)=j from by omega] at this
     rw [this];exact q5f
    ·rw [ha j (by omega)];exact hoab j (by omega) h2 g' (by omega)
 ·rw [j0b hI.h1,egA,eg'];omega
 ·rw [j0b hI.h1] at h1 h2
  rw [eg'] at hg'
  rw [hact j (by omega) h2]
  exact hI.above j (by omega) h2 g' (by rw [hgg];omega)
theorem j6m {B X:BL} {n h:Nat} {fs:List FD} (hI:VI B n h fs) {q:ByteArray} (hq:q.size<=4096) (hmX:DM.q2s ⟨X,[]⟩) (hfit:fA n (1 - h)+1+1+RM.q1e q<=fA n (1 - h)+zA n (1 - h)) (hg:gA B n h+1<=1073741824)
  (hc:qum B X (fA n (1 - h)+1) (RM.q1e q) q\/qtb B X (fA n (1 - h)+1) (RM.q1e q) q (txB (gA B n h+1) 0 q)):VI X n h fs:=by
 obtain ⟨z1,z2,_⟩:=q45 hI.n8 hI.h1
 have hBl:=hI.len
 have apart:=@qdb n h hI.n8 hI.h1
 have hl:X.length=B.length:=hc.elim (fun h=>h.1) (fun h=>h.1)
 have out : ∀j,(j<fA n (1 - h)+1\/fA n (1 - h)+1+RM.q1e q<j)->gB X j=gB B j:=fun j hj=>by
  rcases hc with hA|hB
  ·rcases hA.2 j with h3|⟨i,hi,h3,_⟩
   ·exact h3
   ·omega
  ·exact hB.2.1 j hj
 have hact:alike X B (fA n h) (fA n h+zA n h):=fun j h1 h2=>out j (by
  refine Classical.byContradiction fun hn=>apart h1 h2 ?_ ?_<;>omega)
 obtain ⟨w1,w2,w3,w4⟩:=j12 (B:=B) (X:=X) (f:=fA n h) (z:=zA n h) (by omega) (by omega) (by omega) (j1t hact)
 have egA:gA X n h=gA B n h:=w1
 have elA:lA X n h=lA B n h:=w3
 have e0:=out (fA n (1 - h)) (by omega)
 have egO:gA X n (1 - h)=gA B n (1 - h):=by unfold gA q3m;rw [e0]
 have hlo:=(jic hI).1
 refine ⟨hmX,by rw [hl];exact hBl,hI.n8,hI.h1,w2.2 hI.beg,?_,by rw [elA];exact hI.rep,fun j h1 h2 g' hg'=>?_,fun ho=>?_,fun j h1 h2 g' hg'=>?_⟩
 ·rw [egA,elA];exact (w4 _ _ _ (by omega)).2 hI.cl
 ·rw [egA] at hg';rw [hact j h1 h2];exact hI.above j h1 h2 g' hg'
 ·rw [egA,egO]
  refine hI.other ?_
  unfold qa6 at ho ⊢
  have:q3m X (fA n (1 - h))=q3m B (fA n (1 - h)):=egO
  rw [this,e0] at ho;exact ho
 ·rw [egA] at hg'
  by_cases h3:fA n (1 - h)+1+RM.q1e q<j
  ·rw [out j (Or.inr h3)];exact hI.oabove j h1 h2 g' hg'
  ·rcases hc with hA|hB
   ·rcases hA.2 j with h4|⟨i,_,_,h4⟩
    ·rw [h4];exact hI.oabove j h1 h2 g' hg'
    ·rw [h4];exact q5f
   ·have:=hB.2.2.2 (j - (fA n (1 - h)+1) - 1) (by omega)
    rw [show fA n (1 - h)+1+1+(j - (fA n (1 - h)+1) - 1)=j from by omega] at this
    rw [this];exact q5f
theorem j4x {B:BL} {n h:Nat} {fs after:List FD} (hI:VI B n h fs) {q:ByteArray} (hq:q.size<=4096) (hrep:qk3 [] [unB q]=some after) (hg:gA B n h+1<=1073741824) (hfit:fA n (1 - h)+1+1+RM.q1e q<=fA n (1 - h)+zA n (1 - h)) (N:Nat) (keep:Nat->Bool) :
  ∃ X,DM.q1n keep (DM.runK ⟨B,[]⟩ ((q7y n h (gA B n h) q).take N))=⟨X,[]⟩/\(N<=RM.q1e q+3->VI X n h fs) /\
   (VI X n h fs\/(VI X n (1 - h) after/\gA X n (1 - h)=gA B n h+1/\(lA X n (1 - h)).1.length=1)) /\
   (RM.q1e q+5<=N->(VI X n (1 - h) after/\gA X n (1 - h)=gA B n h+1/\(lA X n (1 - h)).1.length=1)/\DM.runK ⟨B,[]⟩ ((q7y n h (gA B n h) q).take N)=⟨X,[]⟩):=by
 have hgen':0<=gA B n h/\gA B n h<=1073741824:=q7k B (fA n h)
 have hg1:0<=gA B n h+1/\gA B n h+1<=1073741824:=⟨by omega,by omega⟩
 obtain ⟨y1,y2,_⟩:=q45 (n:=n) (h:=1 - h) hI.n8 (by omega)
 have hBl:=hI.len
 have htx:(txB (gA B n h+1) 0 q).size=32:=qgp hg1 (Nat.zero_le _) hq
 have hbs:(RM.q1b 1 (gA B n h+1) 0 0 1).size=32:=qgi hg1
 have hal:=q9f (fA n (1 - h)+1) q (txB (gA B n h+1) 0 q)
 have hoka : ∀a∈qb5 (fA n (1 - h)+1) q (txB (gA B n h+1) 0 q),DM.q3y (DM.Dk.mk B []).secs.length a:=qpo (n:=B.length) (by omega) htx
 have hok : ∀a∈q7y n h (gA B n h) q,DM.q3y (DM.Dk.mk B []).secs.length a:=fun a hm=>by
  rcases List.mem_append.1 hm with hm|hm
  ·exact hoka a hm
  ·simp only [jj1,List.mem_cons,List.not_mem_nil,or_false] at hm
   rcases hm with rfl|rfl
   ·refine Or.inr ?_
    unfold DM.q20
    rw [if_pos ⟨by simp only;omega,by simp only;omega⟩,if_neg (by simp only [hbs];omega)]
   ·exact Or.inl rfl
 have hmay : ∀k,DM.q2s (DM.q1n k (DM.runK ⟨B,[]⟩ ((q7y n h (gA B n h) q).take N))):=fun k=>DM.qel (DM.qdx hI.may (fun a hm=>hok a (List.mem_of_mem_take hm))) k
 by_cases c1:N<=RM.q1e q+3
 ·obtain ⟨X,x1,x2,x3,x4,x5⟩:=qjz B (fA n (1 - h)+1) q (txB (gA B n h+1) 0 q) N keep (by omega) htx
  have et:(q7y n h (gA B n h) q).take N=(qb5 (fA n (1 - h)+1) q (txB (gA B n h+1) 0 q)).take N:=by
   unfold q7y;rw [List.take_append_of_le_length (by rw [hal];exact c1)]
  have hm:=hmay keep
  rw [et] at hm ⊢
  rw [x1] at hm
  have:=j6m hI hq hm hfit hg x4
  exact ⟨X,x1,fun _=>this,Or.inl this,fun h=>by omega⟩
 ·obtain ⟨Y,x1,x2,x3,x4,x5⟩:=qjz B (fA n (1 - h)+1) q (txB (gA B n h+1) 0 q) (RM.q1e q+3) keep (by omega) htx
  have x5:=x5 (Nat.le_refl _)
  have x3:=x3 (Nat.le_refl _)
  rw [List.take_of_length_le (by omega)] at x5
  have hYl:Y.length=n:=by rw [x3.1,hBl]
  have er1:DM.runK ⟨B,[]⟩ (qb5 (fA n (1 - h)+1) q (txB (gA B n h+1) 0 q) ++ [(false,(fA n (1 - h):Int),RM.q1b 1 (gA B n h+1) 0 0 1)])=⟨Y,[((fA n (1 - h):Int),RM.q1b 1 (gA B n h+1) 0 0 1)]⟩:=by
   rw [qcw,x5,q5b Y _ _ (fun a ha=>by obtain rfl:a=_:=List.mem_singleton.1 ha;rfl)]
   simp only [List.map_cons,List.map_nil,List.nil_append,qk2 hbs]
  have one : ∀k:Nat->Bool,DM.q1n k ⟨Y,[((fA n (1 - h):Int),RM.q1b 1 (gA B n h+1) 0 0 1)]⟩=⟨if k 0=true then Y.set (fA n (1 - h)) (RM.q1b 1 (gA B n h+1) 0 0 1) else Y,[]⟩:=fun k=>by
   show DM.Dk.mk (DM.q0m k Y [((fA n (1 - h):Int),RM.q1b 1 (gA B n h+1) 0 0 1)] 1) []=_
   unfold DM.q0m DM.q0m
   by_cases hk:k 0=true
   ·rw [if_pos hk,if_pos hk];rfl
   ·rw [if_neg hk,if_neg hk]
  by_cases c2:N=RM.q1e q+4
  ·have et:(q7y n h (gA B n h) q).take N=qb5 (fA n (1 - h)+1) q (txB (gA B n h+1) 0 q) ++ [(false,(fA n (1 - h):Int),RM.q1b 1 (gA B n h+1) 0 0 1)]:=by
    unfold q7y jj1
    rw [show N=(qb5 (fA n (1 - h)+1) q (txB (gA B n h+1) 0 q)).length+1 from by rw [hal];omega,List.take_length_add_append];rfl
   have hm:=hmay keep
   rw [et,er1,one] at hm
   rw [et,er1,one]
   by_cases hk:keep 0=true
   ·rw [if_pos hk] at hm ⊢
    have:=j9l hI hq hrep hg hfit hm x3
    exact ⟨_,rfl,fun h=>by omega,Or.inr this,fun h=>by omega⟩
   ·rw [if_neg hk] at hm ⊢
    have:=j6m hI hq hm hfit hg (Or.inr x3)
    exact ⟨_,rfl,fun h=>by omega,Or.inl this,fun h=>by omega⟩
  ·have et:(q7y n h (gA B n h) q).take N=(qb5 (fA n (1 - h)+1) q (txB (gA B n h+1) 0 q) ++ [(false,(fA n (1 - h):Int),RM.q1b 1 (gA B n h+1) 0 0 1)]) ++ [flA]:=by
    rw [List.take_of_length_le (by rw [qr2];omega)]
    unfold q7y jj1
    rw [List.append_assoc];rfl
   have er2:DM.runK ⟨B,[]⟩ ((q7y n h (gA B n h) q).take N)=⟨Y.set (fA n (1 - h)) (RM.q1b 1 (gA B n h+1) 0 0 1),[]⟩:=by
    rw [et,qcw,er1]
    show DM.q1n (fun _=>true) _=_
    rw [one,if_pos rfl]
   have hm:=hmay keep
   rw [er2] at hm
   have this:=j9l hI hq hrep hg hfit hm x3
   rw [er2]
   exact ⟨_,rfl,fun h=>by omega,Or.inr this,fun _=>⟨this,rfl⟩⟩
theorem jhr {n:Nat} (h1:8<=n) (h2:n<=512) (hm:DM.q2s ⟨(List.replicate n DM.q2d).set 0 (RM.q1b 1 1 0 0 1),[]⟩):VI ((List.replicate n DM.q2d).set 0 (RM.q1b 1 1 0 0 1)) n 0 []/\gA ((List.replicate n DM.q2d).set 0 (RM.q1b 1 1 0 0 1)) n 0=1:=by
 have hS0:gB ((List.replicate n DM.q2d).set 0 (RM.q1b 1 1 0 0 1)) 0=RM.q1b 1 1 0 0 1:=by rw [qa3,if_pos ⟨rfl,by simp;omega⟩]
 have hSj : ∀j,1<=j->j<n->gB ((List.replicate n DM.q2d).set 0 (RM.q1b 1 1 0 0 1)) j=DM.q2d:=fun j a b=>by
  rw [qa3,if_neg (by omega),j33 (by simp;omega),List.getElem_replicate]
 have hSl:((List.replicate n DM.q2d).set 0 (RM.q1b 1 1 0 0 1)).length=n:=by simp
 generalize (List.replicate n DM.q2d).set 0 (RM.q1b 1 1 0 0 1)=S at *
 have hg:(0:Int)<=1/\(1:Int)<=1073741824:=by decide
 have eg:q3m S 0=1:=qhb hg hS0
 obtain ⟨q1,q2⟩:=qr8 (S:=S) (f:=0) (z:=n / 2) eg (fun j a b=>by rw [hSj j (by omega) (by omega)];exact fun hb=>qcs hb.1)
 have e1:lA S n 0=([],1):=q1
 have e2:gA S n 0=1:=eg
 have ho : ¬ qa6 S (n / 2):=fun hb=>by
  unfold qa6 at hb
  rw [hSj _ (by omega) (by omega)] at hb
  have hg':=q7k S (n / 2)
  have:=(RM.qj6 _ _ _ _ _ (qao hg')).1
  rw [<-hb] at this
  exact qcs this
 refine ⟨⟨hm,hSl,h1,Nat.zero_le _,by show qa6 S 0;unfold qa6;rw [eg];exact hS0,by rw [e1,e2];exact q2,by rw [e1];rfl,fun j a b g hg'=>?_,fun hb=>absurd hb ho,fun j a b g hg'=>?_⟩,e2⟩
 ·have b':j<0+n / 2:=b
  by_cases e:j=0
  ·subst e;rw [hS0];exact qhl hg
  ·rw [hSj j (by omega) (by omega)];exact fun hb=>qcs hb.1
 ·have a':n / 2+2<=j:=a
  have b':j<n / 2+(n - n / 2):=b
  rw [hSj j (by omega) (by omega)];exact fun hb=>qcs hb.1
end YthpgnliicpejoaaGreatDoor.AM
end Go.Proofs
