
import Derived.Test.YthpgnliicpejoaaGreatDoorVp27
import Derived.Test.YthpgnliicpejoaaGreatDoorVp21
namespace Go.Proofs.YthpgnliicpejoaaGreatDoor.AM
open Go.RowKit
set_option linter.unusedVariables false
set_option linter.unusedSimpArgs false
theorem qmi {k:Nat} (h:k<256):(b8 ((k:Nat):Int)).toNat=k:=by rw [je9,UInt8.toNat_ofNat'];omega
theorem jl2 {o:OD} (h:q9p o=0):q3l o.2.1=true/\o.2.1.length<=60/\(o.1=true->o.2.2 = [])/\o.2.2.length<=4096:=by
 unfold q9p at h
 cases hp:q3l o.2.1 with
 | false=>rw [hp] at h;simp at h
 | true =>
  rw [hp] at h
  have hl:=(j2u hp).1
  simp only [if_true] at h
  by_cases h1:(o.1 && !decide (o.2.2 = []))=true
  ·rw [if_pos h1] at h;cases h
  ·rw [if_neg h1] at h
   by_cases h2:4096<o.2.2.length
   ·rw [if_pos h2] at h;cases h
   ·refine ⟨rfl,hl,fun h3=>?_,by omega⟩
    rw [h3] at h1
    simpa using h1
theorem j1b (o:OD) (rest:List UInt8) (h:q9p o=0):qve (q5d o++rest)=some (o,(q5d o).length):=by
 obtain ⟨h1,h2,h3,h4⟩:=jl2 h
 obtain ⟨gone,p,d⟩:=o
 simp only at h1 h2 h3 h4
 have hb:(b8 ((p.length:Nat):Int)).toNat=p.length:=qmi (by omega)
 cases gone with
 | true =>
  have hd:=h3 rfl
  subst hd
  have e:q5d (true,(p,[]))++rest=1::b8 p.length::(p++rest):=by unfold q5d;simp
  have el:(q5d (true,(p,[]))).length=2+p.length:=by { unfold q5d;simp<;>omega }
  rw [e,el,qve,if_pos (Or.inr rfl),hb,if_neg (by simp),if_pos rfl,List.take_left]
 | false =>
  have hx:(b8 ((d.length / 256:Nat):Int)).toNat=d.length / 256:=qmi (by omega)
  have hy:(b8 ((d.length % 256:Nat):Int)).toNat=d.length % 256:=qmi (by omega)
  have e:q5d (false,(p,d))++rest=0::b8 p.length::(p++b8 ((d.length / 256:Nat):Int)::b8 ((d.length % 256:Nat):Int)::(d++rest)):=by unfold q5d;simp
  have el:(q5d (false,(p,d))).length=4+p.length+d.length:=by { unfold q5d;simp<;>omega }
  rw [e,el,qve,if_pos (Or.inl rfl),hb,if_neg (by simp<;>omega),if_neg (by decide),List.take_left,List.drop_left]
  simp only [hx,hy]
  have e2:256*(d.length / 256)+d.length % 256=d.length:=by omega
  rw [e2,if_neg (by simp),List.take_left]
theorem qqk : ∀(ops:List OD) (m:Nat),(∀o∈ops,q9p o=0)->ops.length<m->q3j m ((ops.map q5d).flatten)=some ops
 | [],m,_,h=>by
  obtain ⟨k,rfl⟩ : ∃ k,m=k+1:=⟨m - 1,by simp at h;omega⟩
  rw [q3j];rfl
 | o::t,m,hc,h=>by
  obtain ⟨k,rfl⟩ : ∃ k,m=k+1:=⟨m - 1,by simp at h;omega⟩
  have h0:=hc o (List.mem_cons_self ..)
  have hne : ¬ ((o::t).map q5d).flatten = []:=by
   rw [List.map_cons,List.flatten_cons];unfold q5d;simp
  have hd:(q5d o++(t.map q5d).flatten).drop (q5d o).length=(t.map q5d).flatten:=List.drop_left ..
  rw [q3j,if_neg hne,List.map_cons,List.flatten_cons,j1b o _ h0]
  simp only [hd]
  rw [qqk t k (fun o ho=>hc o (List.mem_cons_of_mem _ ho)) (by simp at h;omega)];rfl
theorem qzd : ∀(ops:List OD),ops.length<=((ops.map q5d).flatten).length
 | []=>Nat.le_refl _
 | o::t=>by
  have:=qzd t
  rw [List.map_cons,List.flatten_cons,List.length_append,List.length_cons]
  have:1<=(q5d o).length:=by unfold q5d;simp
  omega
theorem qx2 : ∀(ops:List OD),(qcj ops).2=0->∀o∈ops,q9p o=0
 | [],_,o,ho=>by cases ho
 | x::t,h,o,ho=>by
  rw [qcj] at h
  by_cases hc:q9p x=0
  ·rw [if_pos hc] at h
   by_cases h2:(qcj t).2=0
   ·rcases List.mem_cons.1 ho with rfl|ho
    ·exact hc
    ·exact qx2 t h2 o ho
   ·rw [if_neg h2] at h;exact absurd h h2
  ·rw [if_neg hc] at h;exact absurd h hc
theorem j64 (ops:List OD) (h:(q2d ops).2=0):qar (q2d ops).1=(ops,0):=by
 have h0:=h
 unfold q2d at h
 by_cases h2:(qcj ops).2=0
 ·rw [if_pos h2] at h
  have hall:=qx2 ops h2
  have hl:=qnr ops hall
  by_cases h3:4096<(qcj ops).1.length
  ·rw [if_pos h3] at h;cases h
  ·have e:(q2d ops).1=(ops.map q5d).flatten:=by unfold q2d;rw [if_pos h2,if_neg h3,hl]
   have hlen:=qzd ops
   unfold qar
   rw [e,qqk ops _ hall (by omega)]
   simp only
   rw [if_pos ⟨h0,e⟩]
 ·rw [if_neg h2] at h;exact absurd h h2
theorem qgr (ops:List OD):(q2d ops).1.length<=4096:=by
 unfold q2d
 split
 ·split
  ·simp
  ·simp only;omega
 ·simp
theorem j48 : ∀(m:Nat) (a b:List FD),(q1w m a b).length<=m:=by
 intro m
 induction m with
 | zero=>intro a b;simp [q1w]
 | succ m ih =>
  intro a b
  cases a with
  | nil=>cases b with
   | nil=>simp [q1w]
   | cons y b=>rw [q1w];simp only [List.length_cons];have:=ih [] b;omega
  | cons x a=>cases b with
   | nil=>rw [q1w];simp only [List.length_cons];have:=ih a [];omega
   | cons y b =>
    rw [q1w]
    have i1:=ih a (y::b);have i2:=ih (x::a) b;have i3:=ih a b
    split
    ·simp only [List.length_cons];omega
    ·split
     ·simp only [List.length_cons];omega
     ·split
      ·omega
      ·simp only [List.length_cons];omega
theorem j72 (a b:List FD):(q47 a b).length<=a.length+b.length:=by
 unfold q47;split
 ·exact j48 _ a b
 ·simp
end Go.Proofs.YthpgnliicpejoaaGreatDoor.AM
namespace Go.Proofs
open Go.RowKit
set_option linter.unusedVariables false
set_option linter.unusedSimpArgs false
namespace YthpgnliicpejoaaGreatDoor.AM
def qjo:List FD->List (List UInt8)->Option (List FD)
 | l,[]=>some l
 | l,x::xs=>if (qar x).2=0/\(q3b l (qar x).1).2=0 then qjo (q3b l (qar x).1).1 xs else none
theorem qiw : ∀(xs ys:List (List UInt8)) (l:List FD),qjo l (xs++ys)=(qjo l xs).bind fun k=>qjo k ys
 | [],ys,l=>rfl
 | x::xs,ys,l=>by
  show (if _ then qjo _ (xs++ys) else none)=Option.bind (if _ then qjo _ xs else none) _
  split
  ·exact qiw xs ys _
  ·rfl
theorem qcf {l k:List FD} {ops:List OD} (h:q3b l ops=(k,0)):q7l k=true:=by
 unfold q3b at h
 cases hm:q7l l with
 | false=>rw [hm] at h;simp at h
 | true =>
  rw [hm] at h
  have h':q7t l ops=(k,0):=h
  have:=j4o ops hm (by rw [h'])
  rw [h'] at this;exact this
theorem qnk : ∀(xs:List (List UInt8)) {l k:List FD},q7l l=true->qjo l xs=some k->q7l k=true
 | [],l,k,h,hr=>by
  simp only [qjo,Option.some.injEq] at hr
  rw [<-hr];exact h
 | x::xs,l,k,h,hr=>by
  unfold qjo at hr
  split at hr
  case isFalse=>cases hr
  rename_i hc
  exact qnk xs (qcf (ops:=(qar x).1) (l:=l) (k:=(q3b l (qar x).1).1) (by rw [<-hc.2])) hr
theorem qdo:q7l []=true:=by decide
theorem qy9 : ∀(m:Nat) (k:List FD),k.length<=m->q1w m [] k=k.map fun f=>(false,f)
 | 0,[],_=>rfl
 | 0,_::_,h=>by simp at h
 | m+1,[],_=>rfl
 | m+1,y::b,h=>by
  rw [q1w,qy9 m b (by simpa using h)];rfl
theorem jdd {l:List FD} {o:OD} (h:l.length<40):(q1u l o).2≠3/\(q1u l o).1.length<=l.length+1:=by
 unfold q1u
 have h1:=qao l o.2.1
 split
 ·split
  ·split
   ·exact ⟨(fun h=>by cases h),by simp only;omega⟩
   ·exact ⟨by decide,by simp⟩
  ·split
   ·exact ⟨by decide,by simp⟩
   ·split
    ·omega
    ·refine ⟨(fun h=>by cases h),?_⟩
     simp only
     rw [qe3];omega
 ·exact ⟨by decide,by simp⟩
theorem qxh : ∀(ops:List OD) {l:List FD},l.length+ops.length<=40->(q7t l ops).2≠3
 | [],l,h=>by simp [q7t]
 | o::t,l,h=>by
  have h':l.length+(t.length+1)<=40:=by simpa using h
  obtain ⟨h1,h2⟩:=jdd (l:=l) (o:=o) (by omega)
  unfold q7t
  split
  ·exact qxh t (by omega)
  ·exact h1
theorem qe9 {k:List FD} (h:q7l k=true):k.length<=40:=((qak k).1 h).1
theorem j9u {k:List FD} (h:q7l k=true):q3b [] (q47 [] k)=(k,0):=by
 rcases j76 qdo h with h1|h1
 ·exact h1
 ·exfalso
  unfold q3b at h1
  rw [qdo] at h1
  have h1':(q7t [] (q47 [] k)).2=3:=h1
  refine qxh _ ?_ h1'
  have:=j72 [] k
  have:=qe9 h
  simp at *;omega
def fA (n h:Nat):Nat:=match h with|0=>0|_+1=>n / 2
def zA (n h:Nat):Nat:=match h with|0=>n / 2|_+1=>n - n / 2
theorem q3y {n h:Nat} (hn:8<=n) (hh:h<=1):4<=zA n h/\fA n h+zA n h<=n/\n / 2<=zA n h/\zA n h<=n - n / 2:=by
 match h,hh with
 | 0,_=>show 4<=n / 2/\0+n / 2<=n/\n / 2<=n / 2/\n / 2<=n - n / 2;omega
 | 1,_=>show 4<=n - n / 2/\n / 2+(n - n / 2)<=n/\n / 2<=n - n / 2/\n - n / 2<=n - n / 2;omega
theorem qd4 {n h:Nat} (hn:8<=n) (hh:h<=1) {j:Nat} (h1:fA n h<=j) (h2:j<fA n h+zA n h) (h3:fA n (1 - h)<=j) (h4:j<fA n (1 - h)+zA n (1 - h)):False:=by
 match h,hh with
 | 0,_ =>
  have a:j<0+n / 2:=h2
  have b:n / 2<=j:=h3
  omega
 | 1,_ =>
  have a:j<0+n / 2:=h4
  have b:n / 2<=j:=h1
  omega
def gA (B:BL) (n h:Nat):Int:=q3k B (fA n h)
def lA (B:BL) (n h:Nat):BL×Nat:=q3p B (fA n h) (zA n h)
structure VI (B:BL) (n h:Nat) (fs:List FD):Prop where
 may:DM.q2e ⟨B,[]⟩
 len:B.length=n
 n8:8<=n
 h1:h<=1
 beg:q9q B (fA n h)
 cl:q85 B (lA B n h).2 (fA n h+zA n h) (gA B n h) (lA B n h).1.length
 rep:qjo [] ((lA B n h).1.map unB)=some fs
 above : ∀j,fA n h<=j->j<fA n h+zA n h->∀g,gA B n h<g->¬ bad (gB B j) g 0
 other:q9q B (fA n (1 - h))->gA B n (1 - h)<gA B n h
 oabove : ∀j,fA n (1 - h)+2<=j->j<fA n (1 - h)+zA n (1 - h)->∀g,gA B n h<g->¬ bad (gB B j) g 0
theorem VI.mayF {B:BL} {n h:Nat} {fs:List FD} (hI:VI B n h fs):q7l fs=true:=qnk _ qdo hI.rep
theorem VI.le {B:BL} {n h:Nat} {fs:List FD} (hI:VI B n h fs):n<=512:=by have:=hI.may.2.1;have:=hI.len;simp at *;omega
theorem qx0 {g:Int} {q:Nat} {p:ByteArray} (hg:0<=g/\g<=1073741824) (hq:q<=65535) (hp:p.size<=4096):RM.q2w (txB g q p)=2/\RM.q0i (txB g q p) 2=g/\RM.q0i (txB g q p) 6=q:=by
 have hm:RM.may 2 g (q:Int) (p.size:Int) (SM.q1g 1 p.data.toList):=⟨Or.inr rfl,hg,⟨by omega,by omega⟩,⟨by omega,by omega⟩,SM.q4v _ _⟩
 obtain ⟨n1,n2,n3,_⟩:=RM.q88 _ _ _ _ _ hm
 unfold txB
 rw [RM.q52 _ _ _ _ _ hm]
 exact ⟨n1,n2,n3⟩
theorem jat {g:Int} (hg:0<=g/\g<=1073741824):RM.q2w (RM.q1a 1 g 0 0 1)=1:=by
 rw [RM.q52 _ _ _ _ _ (q9x hg)]
 exact (RM.q88 _ _ _ _ _ (q9x hg)).1
theorem qhe {g g':Int} {q:Nat} (hg:0<=g/\g<=1073741824) : ¬ bad (RM.q1a 1 g 0 0 1) g' q:=fun h=>by
 have:=h.2.1
 rw [jat hg] at this;omega
theorem q59 {p:ByteArray} {i:Nat} {g:Int} {q:Nat} : ¬ bad (RM.sec p i) g q:=fun h=>RM.qes p i h.1
theorem jgp {B:BL} {n h:Nat} {fs:List FD} (hI:VI B n h fs):fA n h+1<=(lA B n h).2/\(lA B n h).2<=fA n h+zA n h/\(lA B n h).1.length<=512:=by
 have hl:=hI.le
 obtain ⟨a,b,_⟩:=q3y hI.n8 hI.h1
 exact qvt (by omega) (by omega)
theorem j4u {B X:BL} {n h:Nat} {fs fs':List FD} (hI:VI B n h fs) (hmX:DM.q2e ⟨X,[]⟩) (hl:X.length=B.length) (eg:q3k X (fA n h)=q3k B (fA n h)) (hb:q9q X (fA n h)) (hcl:q85 X (lA X n h).2 (fA n h+zA n h) (gA X n h) (lA X n h).1.length) (hrep:qjo [] ((lA X n h).1.map unB)=some fs')
  (hin : ∀j,fA n h<=j->j<fA n h+zA n h->gB X j=gB B j\/(∀g,gA B n h<g->¬ bad (gB X j) g 0)) (hout : ∀j,¬ (fA n h<=j/\j<fA n h+zA n h)->gB X j=gB B j):VI X n h fs':=by
 have eg':gA X n h=gA B n h:=eg
 obtain ⟨a,b,_⟩:=q3y hI.n8 hI.h1
 obtain ⟨a',b',_⟩:=q3y (n:=n) (h:=1 - h) hI.n8 (by omega)
 have eo : ∀j,fA n (1 - h)<=j->j<fA n (1 - h)+zA n (1 - h)->gB X j=gB B j:=fun j h1 h2=>hout j (fun hh=>qd4 hI.n8 hI.h1 hh.1 hh.2 h1 h2)
 have e0:=eo (fA n (1 - h)) (Nat.le_refl _) (by omega)
 refine ⟨hmX,by rw [hl];exact hI.len,hI.n8,hI.h1,hb,hcl,hrep,fun j h1 h2 g hg=>?_,fun ho=>?_,fun j h1 h2 g hg=>?_⟩
 ·rw [eg'] at hg
  rcases hin j h1 h2 with h3|h3
  ·rw [h3];exact hI.above j h1 h2 g hg
  ·exact h3 g hg
 ·have egO:gA X n (1 - h)=gA B n (1 - h):=by unfold gA q3k;rw [e0]
  rw [eg',egO]
  refine hI.other ?_
  unfold q9q at ho ⊢
  have:q3k X (fA n (1 - h))=q3k B (fA n (1 - h)):=egO
  rw [this,e0] at ho;exact ho
 ·rw [eg'] at hg
  rw [eo j (by omega) h2]
  exact hI.oabove j h1 h2 g hg
theorem jdj {B:BL} {n h:Nat} {fs after:List FD} (hI:VI B n h fs) {ops:List OD} (ha:q3b fs ops=(after,0)) (he:(q2d ops).2=0) (hfit:(lA B n h).2+1+RM.q1d (ba (q2d ops).1)<=fA n h+zA n h) (N:Nat) (keep:Nat->Bool) :
  ∃ X,DM.q1c keep (DM.runK ⟨B,[]⟩ ((q9y (lA B n h).2 (ba (q2d ops).1) (txB (gA B n h) (lA B n h).1.length (ba (q2d ops).1))).take N))=⟨X,[]⟩ /\
   (N<=RM.q1d (ba (q2d ops).1)+1->VI X n h fs) /\
   (VI X n h fs\/(VI X n h after/\gA X n h=gA B n h/\lA X n h=((lA B n h).1 ++ [ba (q2d ops).1],(lA B n h).2+1+RM.q1d (ba (q2d ops).1)))) /\
   (RM.q1d (ba (q2d ops).1)+3<=N->(VI X n h after/\gA X n h=gA B n h/\lA X n h=((lA B n h).1 ++ [ba (q2d ops).1],(lA B n h).2+1+RM.q1d (ba (q2d ops).1))) /\
    DM.runK ⟨B,[]⟩ ((q9y (lA B n h).2 (ba (q2d ops).1) (txB (gA B n h) (lA B n h).1.length (ba (q2d ops).1))).take N)=⟨X,[]⟩):=by
 have hsz:(ba (q2d ops).1).size<=4096:=by rw [q29];exact qgr ops
 obtain ⟨c1,c2,c3⟩:=jgp hI
 obtain ⟨z1,z2,_⟩:=q3y hI.n8 hI.h1
 have hBl:=hI.len
 have hgen:0<=gA B n h/\gA B n h<=1073741824:=q79 B (fA n h)
 have hdec:=j64 ops he
 have ebu:unB (ba (q2d ops).1)=(q2d ops).1:=jdv _
 obtain ⟨p,hp⟩ : ∃ p,ba (q2d ops).1=p:=⟨_,rfl⟩
 rw [hp] at hfit hsz ebu ⊢
 have htx:(txB (gA B n h) (lA B n h).1.length p).size=32:=qg1 hgen (by omega) hsz
 obtain ⟨X,x1,x2,x3,x4,x5⟩:=qhz B (lA B n h).2 p (txB (gA B n h) (lA B n h).1.length p) N keep (by omega) htx
 have hok : ∀a∈(q9y (lA B n h).2 p (txB (gA B n h) (lA B n h).1.length p)).take N,DM.q3t (DM.Dk.mk B []).secs.length a:=fun a hm=>qo5 (n:=B.length) (by omega) htx a (List.mem_of_mem_take hm)
 have hmX:DM.q2e ⟨X,[]⟩:=by
  have:=DM.qd8 (DM.qe6 hI.may hok) keep
  rw [x1] at this;exact this
 have kA:qvl B X (lA B n h).2 (RM.q1d p) p->VI X n h fs:=fun hA=>by
  obtain ⟨w1,w2,w3,w4⟩:=jeu (B:=B) (X:=X) (f:=fA n h) (z:=zA n h) (k:=RM.q1d p) (p:=p) (by omega) (by omega) hI.cl hA
  refine j4u hI hmX hA.1 w1 (w2 hI.beg) w4 ?_ (fun j h1 h2=>?_) (fun j hj=>?_)
  ·have:lA X n h=lA B n h:=w3
   rw [this];exact hI.rep
  ·rcases hA.2 j with h3|⟨i,_,_,h3⟩
   ·exact Or.inl h3
   ·exact Or.inr fun g _=>by rw [h3];exact q59
  ·rcases hA.2 j with h3|⟨i,hi,h3,_⟩
   ·exact h3
   ·exact absurd ⟨by omega,by omega⟩ hj
 have kB:qrh B X (lA B n h).2 (RM.q1d p) p (txB (gA B n h) (lA B n h).1.length p)->VI X n h after/\gA X n h=gA B n h/\lA X n h=((lA B n h).1 ++ [p],(lA B n h).2+1+RM.q1d p):=fun hB=>by
  obtain ⟨w1,w2,w3,w4⟩:=j31 (B:=B) (X:=X) (f:=fA n h) (z:=zA n h) (p:=p) (by omega) (by omega) hI.cl hsz (by have:=c3;unfold lA at this;omega) hfit hB
  have e3:lA X n h=((lA B n h).1 ++ [p],(lA B n h).2+1+RM.q1d p):=w3
  refine ⟨j4u hI hmX hB.1 w1 (w2 hI.beg) w4 ?_ (fun j h1 h2=>?_) (fun j hj=>?_),w1,e3⟩
  ·rw [e3,List.map_append,qiw,hI.rep]
   show qjo fs [unB p]=some after
   rw [ebu]
   unfold qjo
   rw [hdec]
   simp only [ha,and_self,if_true]
   rfl
  ·by_cases h3:j<(lA B n h).2\/(lA B n h).2+RM.q1d p<j
   ·exact Or.inl (hB.2.1 j h3)
   ·by_cases h4:j=(lA B n h).2
    ·subst h4
     refine Or.inr fun g hg hb=>?_
     have:=hb.2.2.1
     rw [hB.2.2.1,(qx0 hgen (by omega) hsz).2.1] at this
     omega
    ·have:=hB.2.2.2 (j - (lA B n h).2 - 1) (by omega)
     rw [show (lA B n h).2+1+(j - (lA B n h).2 - 1)=j from by omega] at this
     exact Or.inr fun g _=>by rw [this];exact q59
  ·exact hB.2.1 j (by omega)
 exact ⟨X,x1,fun hN=>kA (x2 hN),x4.elim (fun h=>Or.inl (kA h)) (fun h=>Or.inr (kB h)),fun hN=>⟨kB (x3 hN),x5 hN⟩⟩
end YthpgnliicpejoaaGreatDoor.AM
end Go.Proofs
namespace Go.Proofs
open Go.RowKit
set_option linter.unusedVariables false
set_option linter.unusedSimpArgs false
namespace YthpgnliicpejoaaGreatDoor.AM
def jik (f:Nat) (g:Int):List DM.Ac:=[(false,(f:Int),RM.q1a 1 g 0 0 1),flA]
def q7s (n h:Nat) (g:Int) (q:ByteArray):List DM.Ac:=q9y (fA n (1 - h)+1) q (txB (g+1) 0 q)++jik (fA n (1 - h)) (g+1)
theorem qt8 (n h:Nat) (g:Int) (q:ByteArray):(q7s n h g q).length=RM.q1d q+5:=by unfold q7s;rw [List.length_append,q8n];rfl
theorem qps {S:BL} {f z:Nat} {g:Int} (hg:q3k S f=g) (hno : ∀j,f+1<=j->j<f+z->¬ bad (gB S j) g 0):q3p S f z=([],f+1)/\q85 S (f+1) (f+z) g 0:=by
 refine ⟨?_,fun j h1 h2=>hno j h2 h1⟩
 unfold q3p
 rw [hg,q2c]
 exact j4z (q:=0) (fun h=>hno (f+1) (Nat.le_refl _) h)
theorem qx4 {h:Nat} (hh:h<=1):1 - (1 - h)=h:=by omega
theorem j75 {B Y:BL} {n h:Nat} {fs after:List FD} (hI:VI B n h fs) {q:ByteArray} (hq:q.size<=4096) (hrep:qjo [] [unB q]=some after) (hg:gA B n h+1<=1073741824) (hfit:fA n (1 - h)+1+1+RM.q1d q<=fA n (1 - h)+zA n (1 - h))
  (hm:DM.q2e ⟨Y.set (fA n (1 - h)) (RM.q1a 1 (gA B n h+1) 0 0 1),[]⟩) (hB:qrh B Y (fA n (1 - h)+1) (RM.q1d q) q (txB (gA B n h+1) 0 q)) :
  VI (Y.set (fA n (1 - h)) (RM.q1a 1 (gA B n h+1) 0 0 1)) n (1 - h) after/\gA (Y.set (fA n (1 - h)) (RM.q1a 1 (gA B n h+1) 0 0 1)) n (1 - h)=gA B n h+1/\(lA (Y.set (fA n (1 - h)) (RM.q1a 1 (gA B n h+1) 0 0 1)) n (1 - h)).1.length=1:=by
 have hgen:=q79 B (fA n h)
 have hgen':0<=gA B n h/\gA B n h<=1073741824:=hgen
 obtain ⟨z1,z2,_⟩:=q3y hI.n8 hI.h1
 obtain ⟨y1,y2,_⟩:=q3y (n:=n) (h:=1 - h) hI.n8 (by omega)
 have hBl:=hI.len
 obtain ⟨hl,ha,hh,hs⟩:=hB
 have apart:=@qd4 n h hI.n8 hI.h1
 obtain ⟨fo,hfo⟩ : ∃ fo,fA n (1 - h)=fo:=⟨_,rfl⟩
 obtain ⟨zo,hzo⟩ : ∃ zo,zA n (1 - h)=zo:=⟨_,rfl⟩
 have hoab:=hI.oabove
 rw [hfo,hzo] at hoab
 rw [hfo,hzo] at hfit y2
 rw [hzo] at y1
 rw [hfo] at hm ha hh hs
 rw [hfo]
 obtain ⟨g,hgg⟩ : ∃ g,gA B n h=g:=⟨_,rfl⟩
 rw [hgg] at hg hgen' hm hh hoab ⊢
 have hg1:0<=g+1/\g+1<=1073741824:=⟨by omega,by omega⟩
 obtain ⟨t,ht⟩ : ∃ t,RM.q1a 1 (g+1) 0 0 1=t:=⟨_,rfl⟩
 have htb : ∀g' q',¬ bad t g' q':=fun g' q'=>by rw [<-ht];exact qhe hg1
 have hX : ∀j,gB (Y.set fo t) j=if fo=j/\fo<Y.length then t else gB Y j:=fun j=>q9r Y fo j t
 have hXf:gB (Y.set fo t) fo=t:=by rw [hX,if_pos ⟨rfl,by omega⟩]
 have hXj : ∀j,j≠fo->gB (Y.set fo t) j=gB Y j:=fun j hj=>by rw [hX,if_neg (fun e=>hj e.1.symm)]
 have hXl:(Y.set fo t).length=n:=by rw [List.length_set,hl,hBl]
 have eg1:q3k (Y.set fo t) fo=g+1:=qgb hg1 (by rw [hXf,ht])
 have hbeg:q9q (Y.set fo t) fo:=by unfold q9q;rw [eg1,hXf,ht]
 let B0:BL:=(B.set fo t).set (fo+1) DM.q2j
 have hB0 : ∀j,gB B0 j=if fo+1=j/\fo+1<B.length then DM.q2j else if fo=j/\fo<B.length then t else gB B j:=fun j=>by
  show gB ((B.set fo t).set (fo+1) DM.q2j) j=_
  rw [q9r,List.length_set,q9r]
 have hB0l:B0.length=n:=by show ((B.set fo t).set (fo+1) DM.q2j).length=n;rw [List.length_set,List.length_set,hBl]
 have h0f:gB B0 fo=t:=by rw [hB0,if_neg (by omega),if_pos ⟨rfl,by omega⟩]
 have h01:gB B0 (fo+1)=DM.q2j:=by rw [hB0,if_pos ⟨rfl,by omega⟩]
 have h0j : ∀j,j≠fo->j≠fo+1->gB B0 j=gB B j:=fun j h1 h2=>by rw [hB0,if_neg (fun e=>h2 e.1.symm),if_neg (fun e=>h1 e.1.symm)]
 have eg0:q3k B0 fo=g+1:=qgb hg1 (by rw [h0f,ht])
 obtain ⟨q1,q2⟩:=qps (S:=B0) (f:=fo) (z:=zo) eg0 (fun j h1 h2=>by
  by_cases e:j=fo+1
  ·subst e;rw [h01];exact fun hb=>qay hb.1
  ·rw [h0j j (by omega) e];exact hoab j (by omega) h2 _ (by omega))
 have hcB:qrh B0 (Y.set fo t) (q3p B0 fo zo).2 (RM.q1d q) q (RM.q1a 2 (q3k B0 fo) ((q3p B0 fo zo).1.length:Int) (q.size:Int) (SM.q1g 1 q.data.toList)):=by
  rw [q1,eg0]
  refine ⟨by rw [hXl,hB0l],fun j hj=>?_,?_,fun i hi=>?_⟩
  ·by_cases e:j=fo
   ·subst e;rw [hXf,h0f]
   ·rw [hXj j e,h0j j e (by simp only at hj;omega)]
    exact ha j (by simp only at hj;omega)
  ·rw [hXj (fo+1) (by omega)];exact hh
  ·rw [hXj _ (by simp only;omega)];exact hs i hi
 obtain ⟨w1,w2,w3,w4⟩:=j31 (B:=B0) (X:=Y.set fo t) (f:=fo) (z:=zo) (p:=q) (by omega) (by omega) (by rw [q1,eg0];exact q2) hq (by rw [q1];exact Nat.zero_le _) (by rw [q1];simp only;omega) hcB
 rw [q1] at w3
 have e3:(lA (Y.set fo t) n (1 - h))=([q],fo+1+1+RM.q1d q):=by unfold lA;rw [hfo,hzo];exact w3
 have eg':gA (Y.set fo t) n (1 - h)=g+1:=by unfold gA;rw [hfo];exact eg1
 have hact : ∀j,fA n h<=j->j<fA n h+zA n h->gB (Y.set fo t) j=gB B j:=fun j h1 h2=>by
  have h3 : ¬ (fo<=j/\j<fo+zo):=fun hc=>apart h1 h2 (by rw [hfo];exact hc.1) (by rw [hfo,hzo];exact hc.2)
  rw [hXj j (fun e=>h3 ⟨by omega,by omega⟩)]
  exact ha j (by omega)
 have egA:gA (Y.set fo t) n h=g:=by
  rw [<-hgg];unfold gA q3k;rw [hact _ (Nat.le_refl _) (by omega)]
 rw [ht] at hm ⊢
 refine ⟨⟨hm,hXl,hI.n8,by omega,by rw [hfo];exact hbeg,?_,?_,fun j h1 h2 g' hg'=>?_,fun _=>?_,fun j h1 h2 g' hg'=>?_⟩,eg',by rw [e3];rfl⟩
 ·unfold lA gA;rw [hfo,hzo];exact w4
 ·rw [e3];exact hrep
 ·rw [hfo] at h1;rw [hfo,hzo] at h2
  rw [eg'] at hg'
  by_cases e:j=fo
  ·subst e;rw [hXf];exact htb _ _
  ·rw [hXj j e]
   by_cases e1:j=fo+1
   ·subst e1
    intro hb
    have:=hb.2.2.1
    rw [hh,(qx0 hg1 (Nat.zero_le _) hq).2.1] at this
    omega
   ·by_cases e2:j<=fo+1+RM.q1d q
    ·have:=hs (j - (fo+1) - 1) (by omega)
     rw [show fo+1+1+(j - (fo+1) - 1)=j from by omega] at this
     rw [this];exact q59
    ·rw [ha j (by omega)];exact hoab j (by omega) h2 g' (by omega)
 ·rw [qx4 hI.h1,egA,eg'];omega
 ·rw [qx4 hI.h1] at h1 h2
  rw [eg'] at hg'
  rw [hact j (by omega) h2]
  exact hI.above j (by omega) h2 g' (by rw [hgg];omega)
theorem j4m {B X:BL} {n h:Nat} {fs:List FD} (hI:VI B n h fs) {q:ByteArray} (hq:q.size<=4096) (hmX:DM.q2e ⟨X,[]⟩) (hfit:fA n (1 - h)+1+1+RM.q1d q<=fA n (1 - h)+zA n (1 - h)) (hg:gA B n h+1<=1073741824)
  (hc:qvl B X (fA n (1 - h)+1) (RM.q1d q) q\/qrh B X (fA n (1 - h)+1) (RM.q1d q) q (txB (gA B n h+1) 0 q)):VI X n h fs:=by
 obtain ⟨z1,z2,_⟩:=q3y hI.n8 hI.h1
 have hBl:=hI.len
 have apart:=@qd4 n h hI.n8 hI.h1
 have hl:X.length=B.length:=hc.elim (fun h=>h.1) (fun h=>h.1)
 have out : ∀j,(j<fA n (1 - h)+1\/fA n (1 - h)+1+RM.q1d q<j)->gB X j=gB B j:=fun j hj=>by
  rcases hc with hA|hB
  ·rcases hA.2 j with h3|⟨i,hi,h3,_⟩
   ·exact h3
   ·omega
  ·exact hB.2.1 j hj
 have hact:alike X B (fA n h) (fA n h+zA n h):=fun j h1 h2=>out j (by
  refine Classical.byContradiction fun hn=>apart h1 h2 ?_ ?_<;>omega)
 obtain ⟨w1,w2,w3,w4⟩:=j0s (B:=B) (X:=X) (f:=fA n h) (z:=zA n h) (by omega) (by omega) (by omega) (j19 hact)
 have egA:gA X n h=gA B n h:=w1
 have elA:lA X n h=lA B n h:=w3
 have e0:=out (fA n (1 - h)) (by omega)
 have egO:gA X n (1 - h)=gA B n (1 - h):=by unfold gA q3k;rw [e0]
 have hlo:=(jgp hI).1
 refine ⟨hmX,by rw [hl];exact hBl,hI.n8,hI.h1,w2.2 hI.beg,?_,by rw [elA];exact hI.rep,fun j h1 h2 g' hg'=>?_,fun ho=>?_,fun j h1 h2 g' hg'=>?_⟩
 ·rw [egA,elA];exact (w4 _ _ _ (by omega)).2 hI.cl
 ·rw [egA] at hg';rw [hact j h1 h2];exact hI.above j h1 h2 g' hg'
 ·rw [egA,egO]
  refine hI.other ?_
  unfold q9q at ho ⊢
  have:q3k X (fA n (1 - h))=q3k B (fA n (1 - h)):=egO
  rw [this,e0] at ho;exact ho
 ·rw [egA] at hg'
  by_cases h3:fA n (1 - h)+1+RM.q1d q<j
  ·rw [out j (Or.inr h3)];exact hI.oabove j h1 h2 g' hg'
  ·rcases hc with hA|hB
   ·rcases hA.2 j with h4|⟨i,_,_,h4⟩
    ·rw [h4];exact hI.oabove j h1 h2 g' hg'
    ·rw [h4];exact q59
   ·have:=hB.2.2.2 (j - (fA n (1 - h)+1) - 1) (by omega)
    rw [show fA n (1 - h)+1+1+(j - (fA n (1 - h)+1) - 1)=j from by omega] at this
    rw [this];exact q59
theorem j7n {B:BL} {n h:Nat} {fs after:List FD} (hI:VI B n h fs) {q:ByteArray} (hq:q.size<=4096) (hrep:qjo [] [unB q]=some after) (hg:gA B n h+1<=1073741824) (hfit:fA n (1 - h)+1+1+RM.q1d q<=fA n (1 - h)+zA n (1 - h)) (N:Nat) (keep:Nat->Bool) :
  ∃ X,DM.q1c keep (DM.runK ⟨B,[]⟩ ((q7s n h (gA B n h) q).take N))=⟨X,[]⟩/\(N<=RM.q1d q+3->VI X n h fs) /\
   (VI X n h fs\/(VI X n (1 - h) after/\gA X n (1 - h)=gA B n h+1/\(lA X n (1 - h)).1.length=1)) /\
   (RM.q1d q+5<=N->(VI X n (1 - h) after/\gA X n (1 - h)=gA B n h+1/\(lA X n (1 - h)).1.length=1)/\DM.runK ⟨B,[]⟩ ((q7s n h (gA B n h) q).take N)=⟨X,[]⟩):=by
 have hgen':0<=gA B n h/\gA B n h<=1073741824:=q79 B (fA n h)
 have hg1:0<=gA B n h+1/\gA B n h+1<=1073741824:=⟨by omega,by omega⟩
 obtain ⟨y1,y2,_⟩:=q3y (n:=n) (h:=1 - h) hI.n8 (by omega)
 have hBl:=hI.len
 have htx:(txB (gA B n h+1) 0 q).size=32:=qg1 hg1 (Nat.zero_le _) hq
 have hbs:(RM.q1a 1 (gA B n h+1) 0 0 1).size=32:=qg7 hg1
 have hal:=q8n (fA n (1 - h)+1) q (txB (gA B n h+1) 0 q)
 have hoka : ∀a∈q9y (fA n (1 - h)+1) q (txB (gA B n h+1) 0 q),DM.q3t (DM.Dk.mk B []).secs.length a:=qo5 (n:=B.length) (by omega) htx
 have hok : ∀a∈q7s n h (gA B n h) q,DM.q3t (DM.Dk.mk B []).secs.length a:=fun a hm=>by
  rcases List.mem_append.1 hm with hm|hm
  ·exact hoka a hm
  ·simp only [jik,List.mem_cons,List.not_mem_nil,or_false] at hm
   rcases hm with rfl|rfl
   ·refine Or.inr ?_
    unfold DM.q1y
    rw [if_pos ⟨by simp only;omega,by simp only;omega⟩,if_neg (by simp only [hbs];omega)]
   ·exact Or.inl rfl
 have hmay : ∀k,DM.q2e (DM.q1c k (DM.runK ⟨B,[]⟩ ((q7s n h (gA B n h) q).take N))):=fun k=>DM.qd8 (DM.qe6 hI.may (fun a hm=>hok a (List.mem_of_mem_take hm))) k
 by_cases c1:N<=RM.q1d q+3
 ·obtain ⟨X,x1,x2,x3,x4,x5⟩:=qhz B (fA n (1 - h)+1) q (txB (gA B n h+1) 0 q) N keep (by omega) htx
  have et:(q7s n h (gA B n h) q).take N=(q9y (fA n (1 - h)+1) q (txB (gA B n h+1) 0 q)).take N:=by
   unfold q7s;rw [List.take_append_of_le_length (by rw [hal];exact c1)]
  have hm:=hmay keep
  rw [et] at hm ⊢
  rw [x1] at hm
  have:=j4m hI hq hm hfit hg x4
  exact ⟨X,x1,fun _=>this,Or.inl this,fun h=>by omega⟩
 ·obtain ⟨Y,x1,x2,x3,x4,x5⟩:=qhz B (fA n (1 - h)+1) q (txB (gA B n h+1) 0 q) (RM.q1d q+3) keep (by omega) htx
  have x5:=x5 (Nat.le_refl _)
  have x3:=x3 (Nat.le_refl _)
  rw [List.take_of_length_le (by omega)] at x5
  have hYl:Y.length=n:=by rw [x3.1,hBl]
  have er1:DM.runK ⟨B,[]⟩ (q9y (fA n (1 - h)+1) q (txB (gA B n h+1) 0 q) ++ [(false,(fA n (1 - h):Int),RM.q1a 1 (gA B n h+1) 0 0 1)])=⟨Y,[((fA n (1 - h):Int),RM.q1a 1 (gA B n h+1) 0 0 1)]⟩:=by
   rw [qb9,x5,q4w Y _ _ (fun a ha=>by obtain rfl:a=_:=List.mem_singleton.1 ha;rfl)]
   simp only [List.map_cons,List.map_nil,List.nil_append,qhw hbs]
  have one : ∀k:Nat->Bool,DM.q1c k ⟨Y,[((fA n (1 - h):Int),RM.q1a 1 (gA B n h+1) 0 0 1)]⟩=⟨if k 0=true then Y.set (fA n (1 - h)) (RM.q1a 1 (gA B n h+1) 0 0 1) else Y,[]⟩:=fun k=>by
   show DM.Dk.mk (DM.q0k k Y [((fA n (1 - h):Int),RM.q1a 1 (gA B n h+1) 0 0 1)] 1) []=_
   unfold DM.q0k DM.q0k
   by_cases hk:k 0=true
   ·rw [if_pos hk,if_pos hk];rfl
   ·rw [if_neg hk,if_neg hk]
  by_cases c2:N=RM.q1d q+4
  ·have et:(q7s n h (gA B n h) q).take N=q9y (fA n (1 - h)+1) q (txB (gA B n h+1) 0 q) ++ [(false,(fA n (1 - h):Int),RM.q1a 1 (gA B n h+1) 0 0 1)]:=by
    unfold q7s jik
    rw [show N=(q9y (fA n (1 - h)+1) q (txB (gA B n h+1) 0 q)).length+1 from by rw [hal];omega,List.take_length_add_append];rfl
   have hm:=hmay keep
   rw [et,er1,one] at hm
   rw [et,er1,one]
   by_cases hk:keep 0=true
   ·rw [if_pos hk] at hm ⊢
    have:=j75 hI hq hrep hg hfit hm x3
    exact ⟨_,rfl,fun h=>by omega,Or.inr this,fun h=>by omega⟩
   ·rw [if_neg hk] at hm ⊢
    have:=j4m hI hq hm hfit hg (Or.inr x3)
    exact ⟨_,rfl,fun h=>by omega,Or.inl this,fun h=>by omega⟩
  ·have et:(q7s n h (gA B n h) q).take N=(q9y (fA n (1 - h)+1) q (txB (gA B n h+1) 0 q) ++ [(false,(fA n (1 - h):Int),RM.q1a 1 (gA B n h+1) 0 0 1)]) ++ [flA]:=by
    rw [List.take_of_length_le (by rw [qt8];omega)]
    unfold q7s jik
    rw [List.append_assoc];rfl
   have er2:DM.runK ⟨B,[]⟩ ((q7s n h (gA B n h) q).take N)=⟨Y.set (fA n (1 - h)) (RM.q1a 1 (gA B n h+1) 0 0 1),[]⟩:=by
    rw [et,qb9,er1]
    show DM.q1c (fun _=>true) _=_
    rw [one,if_pos rfl]
   have hm:=hmay keep
   rw [er2] at hm
   have this:=j75 hI hq hrep hg hfit hm x3
   rw [er2]
   exact ⟨_,rfl,fun h=>by omega,Or.inr this,fun _=>⟨this,rfl⟩⟩
theorem jf3 {n:Nat} (h1:8<=n) (h2:n<=512) (hm:DM.q2e ⟨(List.replicate n DM.q2j).set 0 (RM.q1a 1 1 0 0 1),[]⟩):VI ((List.replicate n DM.q2j).set 0 (RM.q1a 1 1 0 0 1)) n 0 []/\gA ((List.replicate n DM.q2j).set 0 (RM.q1a 1 1 0 0 1)) n 0=1:=by
 have hS0:gB ((List.replicate n DM.q2j).set 0 (RM.q1a 1 1 0 0 1)) 0=RM.q1a 1 1 0 0 1:=by rw [q9r,if_pos ⟨rfl,by simp;omega⟩]
 have hSj : ∀j,1<=j->j<n->gB ((List.replicate n DM.q2j).set 0 (RM.q1a 1 1 0 0 1)) j=DM.q2j:=fun j a b=>by
  rw [q9r,if_neg (by omega),j1s (by simp;omega),List.getElem_replicate]
 have hSl:((List.replicate n DM.q2j).set 0 (RM.q1a 1 1 0 0 1)).length=n:=by simp
 generalize (List.replicate n DM.q2j).set 0 (RM.q1a 1 1 0 0 1)=S at *
 have hg:(0:Int)<=1/\(1:Int)<=1073741824:=by decide
 have eg:q3k S 0=1:=qgb hg hS0
 obtain ⟨q1,q2⟩:=qps (S:=S) (f:=0) (z:=n / 2) eg (fun j a b=>by rw [hSj j (by omega) (by omega)];exact fun hb=>qay hb.1)
 have e1:lA S n 0=([],1):=q1
 have e2:gA S n 0=1:=eg
 have ho : ¬ q9q S (n / 2):=fun hb=>by
  unfold q9q at hb
  rw [hSj _ (by omega) (by omega)] at hb
  have hg':=q79 S (n / 2)
  have:=(RM.qhv _ _ _ _ _ (q9x hg')).1
  rw [<-hb] at this
  exact qay this
 refine ⟨⟨hm,hSl,h1,Nat.zero_le _,by show q9q S 0;unfold q9q;rw [eg];exact hS0,by rw [e1,e2];exact q2,by rw [e1];rfl,fun j a b g hg'=>?_,fun hb=>absurd hb ho,fun j a b g hg'=>?_⟩,e2⟩
 ·have b':j<0+n / 2:=b
  by_cases e:j=0
  ·subst e;rw [hS0];exact qhe hg
  ·rw [hSj j (by omega) (by omega)];exact fun hb=>qay hb.1
 ·have a':n / 2+2<=j:=a
  have b':j<n / 2+(n - n / 2):=b
  rw [hSj j (by omega) (by omega)];exact fun hb=>qay hb.1
end YthpgnliicpejoaaGreatDoor.AM
end Go.Proofs
